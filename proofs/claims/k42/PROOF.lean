import PyProof.Rows.All
import Wide.All
import OpenK.AllK
import Wide.FinOn
import Lean
import PyProof.EqAt
import PyProof.EqKinds
import PyProof.TupleCall
import KE.KSortAsk
import PyProof.NeKinds
import PyProof.StationsW
import PyProof.ExcClass3
import PyProof.Rows.Own
import PyProof.NsDelKeeps
import KE.KIsAll
import PyProof.ExcAttrAll.ValueError
import PyProof.IsiH_list
import PyProof.Rows.FStr
import PyProof.FString4
import PyProof.StrLawsRepr
import PyProof.Rows.StrMeet
import KE.KEqDict
import PyProof.Draws
import KE.KDictOf
import PyProof.ExcInit
import PyProof.InstStoreFacts
import PyProof.ExcBaseAll.ValueError
import PySem.Challenge.RW_putback_k42_order
abbrev XA:List PySem.Str:=["_law_script","_law_at"]
abbrev XB:List PySem.Str:=["_law_a","_law_b","_law_kind_here","_law_found","_law_due","_law_name","_law_inner"]
abbrev XD:List PySem.Str:=["_law_script","_law_at","_law_m","_law_many","_law_wide","_law_kind_here","_law_pool_here","_law_begin","_law_source","_law_twin","_law_other","_law_plains_here","_law_view_here","_law_by","_law_shown","_law_told","_law_seen","_law_wrong_here"]
abbrev XE:List PySem.Str:=["_law_kind_here","_law_found","_law_due"]
abbrev XF:List PySem.Str:=["_law_kind_here","_law_found","_law_due","_law_name","_law_inner"]
abbrev XG:List PySem.Str:=["_law_script","_law_at","_law_many","_law_deep"]
abbrev XH:List PySem.Str:=["_law_kind_here","_law_rows_here"]
abbrev XI:List PySem.Str:=["_law_script","_law_at","_law_kind_here","_law_room"]
abbrev XJ:List PySem.Str:=["_law_view_here","_law_kind_here","_law_source","_law_seen","_law_wrong_here"]
abbrev XM:List PySem.Str:=["_law_view_here","_law_kind_here","_law_source","_law_seen"]
abbrev XN:List PySem.Str:=["_law_script","_law_at","_law_kind_here","_law_pool_here","_law_room","_law_rows_here","_law_one","_law_m","_law_row"]
abbrev XO:List PySem.Str:=["_law_script","_law_at","_law_kind_here","_law_rows_here"]
abbrev XQ:List PySem.Str:=["fields","record"]
abbrev XR:List PySem.Str:=["_law_script","_law_at","_law_kind_here","_law_room","_law_made","_law_name","_law_inner","_law_top","_law_many"]
abbrev XS:List PySem.Str:=["_law_script","_law_at","_law_kind_here","_law_many"]
abbrev XT:List PySem.Str:=["_law_script","_law_at","_law_kind_here","_law_room","_law_rows_here","_law_seen","_law_k","_law_row"]
abbrev XU:List PySem.Str:=["_law_script","_law_at","_law_kind_here","_law_many","_law_lead","_law_pool_here","_law_k","_law_one"]
abbrev XV:List PySem.Str:=["_law_found","_law_due"]
abbrev XW:List PySem.Str:=["self","kind","source","seen"]
abbrev XX:List PySem.Str:=["_law_kind_here","_law_row"]
abbrev XY:List PySem.Str:=["kind","rows"]
abbrev XZ:List PySem.Str:=["_law_script","_law_at","_law_deep"]
abbrev Xa:List PySem.Str:=["_law_script","_law_at","_law_many"]
abbrev Xb:List PySem.Str:=["self","kind","source"]
abbrev Xc:List PySem.Str:=["_law_script","_law_at","_law_kind_here","_law_pool_here","_law_room"]
abbrev Xd:List PySem.Str:=["_law_script","_law_at","_law_many","_law_deep","_law_names_here"]
abbrev Xe:List PySem.Str:=["self","kind"]
abbrev Xf:List PySem.Str:=["_law_m","_law_plains_here"]
abbrev Xg:List PySem.Str:=["_law_rows","_law_some","in_order","_law_sorted"]
abbrev Xh:List PySem.Str:=["self","name"]
abbrev Xi:List PySem.Str:=["_law_a","_law_b","_law_found","_law_due"]
theorem zzx {α:Sort _}{β:α->Sort _}{γ:∀a,β a->Sort _}{δ:∀a b,γ a b->Sort _}{p:∀a b c,δ a b c->Prop}{G:Prop}(h:∃a b c d,p a b c d)(k:∀a b c d,p a b c d->G):G:=let⟨a,b,c,d,e⟩:=h;k a b c d e
theorem zza {A B C D E G:Prop}(h:A/\B/\C/\D/\E)(k:A->B->C->D->E->G):G:=k h.1 h.2.1 h.2.2.1 h.2.2.2.1 h.2.2.2.2
local macro_rules|`(tactic|obtain⟨$s,*⟩:=$t)=>do
 let a:=s.getElems;if a.size<6 then Lean.Macro.throwUnsupported
 let b:=a.extract 4 a.size;let q←(a.extract 0 4).mapM λp=>`(rintroPat|($p:rcasesPatLo));let c←match t with|`($x:ident)=>`(tactic|try clear $x)|_=>`(tactic|skip)
 `(tactic|((first|refine zzx $t ?_|refine zza $t ?_);$c;rintro $q* e;obtain⟨$b,*⟩:=e))
open PySem renaming wpAny_bind→Q0,wpAny_pure→Q09,wpAny_mono→Q0m
open Nat renaming le_refl→Q00,lt_of_lt_of_le→Q06,ne_of_lt→Q07,zero_le→Q0a,le_trans→Q0f,lt_irrefl→Q0l,le_of_lt→Q0o,ne_of_gt→Q0q,lt_succ_self→Q0y,le_of_not_lt→Q1,mul_le_mul_right→Q11,le_succ→Q17,lt_of_le_of_lt→Q1f,le_add_right→Q1h,succ_mul→Q1j,le_of_eq→Q1n,le_max_left→Q1t,le_max_right→Q1u,sub_succ_lt_self→Q1x,add_le_add_left→Q27,not_lt_zero→Q28,le_antisymm→Q2i,sub_self→Q2k,add_sub_cancel→Q2l,mul_left_comm→Q34,add_le_add_right→Q37,mul_le_mul_left→Q38,le_mul_of_pos_right→Q39,succ_le_succ→Q3b,eq_zero_or_pos→Q3e,add_sub_cancel_left→Q3m
open PySem.Heap renaming lt_size→Q01,get?_push_of_some→Q08,get?_push_size→Q0n,get?_update_other→Q15,get?_update_self→Q1d,size_push→Q1m,get?_none_of_le→Q20,size_update→Q2b,get?_update_ne→Q2c,get?_push_at→Q2j,get?_push_ne→Q30
open List renaming getElem?_eq_getElem→Q02,length_map→Q03,size_toArray→Q04,mem_append_right→Q05,mem_cons_self→Q0b,length_append→Q0c,getD_eq_getElem?_getD→Q0d,mem_cons_of_mem→Q0e,length_cons→Q0g,length_take→Q0i,map_append→Q0k,append_assoc→Q0p,mem_append_left→Q0r,getElem?_map→Q0s,take_succ→Q0t,append_nil→Q0u,getElem_mem→Q0v,nodup_nil→Q0w,map_cons→Q0x,length_drop→Q0z,all_eq_true→Q10,take_length→Q12,getElem_take→Q13,getElem?_append_right→Q14,lookup_cons→Q16,take_sublist→Q18,mem_of_getElem?→Q19,find?_cons→Q1a,getElem_of_mem→Q1b,take_of_length_le→Q1c,any_cons→Q1e,mem_map_of_mem→Q1i,getElem?_append_left→Q1o,length_replicate→Q1p,length_singleton→Q1r,filter_cons→Q1s,mem_of_mem_take→Q1y,filterMap_cons→Q2,getElem_inj→Q21,getElem?_set_self→Q22,getElem?_set_ne→Q23,of_mem_zip→Q24,length_nil→Q25,pairwise_map→Q29,length_range→Q2a,replicate_succ→Q2d,any_map→Q2e,flatten_append→Q2f,any_eq_true→Q2h,mem_cons→Q2m,not_mem_nil→Q2n,getElem?_replicate→Q2q,all_cons→Q2s,length_filter_le→Q2t,forIn_cons→Q2u,pairwise_iff_getElem→Q2w,ext_getElem→Q2y,pairwise_singleton→Q2z,zip_cons_cons→Q32,getElem?_cons_succ→Q33,foldl_cons→Q35,take_zero→Q3a,filter_append→Q3c,drop_of_length_le→Q3d,take_nil→Q3f,drop_nil→Q3g,getElem?_take→Q3h,map_take→Q3i,map_drop→Q3j,take_append_of_le_length→Q3k,mem_of_mem_drop→Q3l,take_append_drop→Q3n
open Int renaming emod_nonneg→Q0h,emod_lt_of_pos→Q0j,mul_le_mul_of_nonneg_right→Q1k,toNat_natCast→Q1q,natCast_add→Q1v,add_mul→Q1w,le_refl→Q2g,lt_of_lt_of_le→Q36,mul_le_mul→Q3o
open Array renaming getD_eq_getD_getElem?→Q1g,length_toList→Q1l,append_empty→Q1z,empty_append→Q2o,find?_toList→Q2p,getElem?_eq_getElem→Q2x,size_append→Q3,forIn_toList→Q31
open Option renaming isSome_map→Q26,getD_none→Q2r,getD_some→Q2v
set_option genSizeOf false
set_option Elab.async false
set_option linter.all false
set_option maxRecDepth 100000
set_option maxHeartbeats 4000000
open PySem
theorem vp:2<=PySem.sizeLine:=by decide
namespace L2
open Spec PyProof.Rows
noncomputable def gG (s:Stmt):Arguments:=match s with
 | .FunctionDef _ a _ _ _ _ _ _ _ _=>a
 |_=>{ posonlyargs:=[],args:=[],vararg:=none,kwonlyargs:=[],kw_defaults:=[],kwarg:=none,defaults:=[] }
noncomputable def gj (s:Stmt):List Stmt:=match s with
 | .FunctionDef _ _ b _ _ _ _ _ _ _=>b
 |_=>[]
noncomputable def eP (s:Stmt):Scope:=match s with
 | .FunctionDef _ _ _ _ _ _ sc _ _ _=>sc
 |_=>{ kind:=.function,names:=[],isGenerator:=false,isCoroutine:=false }
end L2
namespace Pb
open L2
noncomputable def top (i:Nat):Stmt:=PySem.Challenge.pw_putback_k42_order.main.body.getD i (.Pass ⟨0,0,0,0⟩)
noncomputable def ff (i j:Nat):Stmt:=match top i with
 | .ClassDef _ _ _ body _ _ _ _ _ _ _=>body.getD j (.Pass ⟨0,0,0,0⟩)
 |_=>.Pass ⟨0,0,0,0⟩
end Pb
namespace Pb
open W
noncomputable def treeOf:List Obj->Nat->BT->Option BT
 |[],_,t=>some t
 |o::l,n,t=>match((t.ins n o).get n).isSome with
  |true=>treeOf l (n+1) (t.ins n o)
  |false=>none
theorem vq {life:Life}:∀(l:List Obj) (n:Nat) (t t':BT),treeOf l n t=some t'->absHeap t' (n+l.length) life=⟨(absHeap t n life).objs++l.toArray,life⟩
 |[],n,t,t',h=>by
  cases h;show absHeap t n life=_;have:(absHeap t n life).objs++#[]=(absHeap t n life).objs:=Q1z;rw[this];rfl
 |o::l,n,t,t',h=>by
  unfold treeOf at h
  cases e:((t.ins n o).get n).isSome with
  |false=>rw[e] at h;cases h
  |true=>
   rw[e] at h;have:=vq (life:=life) l (n+1) _ t' h;rw[absHeap_ins e] at this;have z:n+(o::l).length=n+1+l.length:=by rw[Q0g];omega
   rw[z,this];show Heap.mk ((absHeap t n life).objs.push o++l.toArray) life=_;congr 1;apply Array.ext';simp
noncomputable def nB (tb:String->Option Builtin) (p:Program) (w:World) (z:Nat) (I:Option Value):Nat->SharedT->Thread->Option SharedT
 |0,_,_=>none
 |n+1,s,t=>match through t with
  |true=>some s
  |false=>match stepOk z I t with
   |false=>none
   |true=>match stepT (denote tb) p w s t with
    |some (s',t')=>nB tb p w z I n s' t'
    |none=>none
theorem vv {tb:String->Option Builtin}{p:Program}{w:World}{z:Nat}{I:Option Value}:∀{n:Nat}{s s':SharedT}{t:Thread},nB tb p w z I n s t=some s'->topRun tb p w z I n s.abs t=some s'.abs
 |0,_,_,_,h=>by cases h
 |n+1,s,s',t,h=>by
  unfold nB at h;unfold topRun
  cases L:through t with
  |true=>rw[L] at h;cases h;rfl
  |false=>
   rw[L] at h
   cases U:stepOk z I t with
   |false=>rw[U] at h;cases h
   |true=>
    rw[U] at h
    cases J:stepT (denote tb) p w s t with
    |none=>rw[J] at h;cases h
    |some r=>obtain⟨Y,aa⟩:=r;rw[J] at h;rw[stepT_spec J];exact vv h
noncomputable abbrev lq:=@W.Fast.tw10156331382660048174
noncomputable abbrev ju:=@W.Fast.tw11892475500146522536
noncomputable abbrev jv:=@W.Fast.tw14364793385576792824
noncomputable abbrev nE:=@W.Fast.tw6613529449190102663
noncomputable abbrev seenQ:=@W.Fast.tw4187177175401517315
noncomputable def lr (p:Program) (w:World) (z:Nat) (I:Option Value):Nat->SharedT->Thread->Option SharedT
 |0,_,_=>none
 |n+1,s,t=>match through t with
  |true=>some s
  |false=>match nE z I t with
   |false=>none
   |true=>match lq (ju jv) p w s t with
    |some (s',t')=>lr p w z I n s' t'
    |none=>none
theorem vw {p:Program}{w:World}{z:Nat}{I:Option Value}:∀(n:Nat) (s:SharedT) (t:Thread),lr p w z I n s t=nB treeTable p w z I n s t
 |0,_,_=>rfl
 |n+1,s,t=>by
  unfold lr nB;have J:nE z I t=stepOk z I t:=congrFun (congrFun (congrFun W.Fast.te6613529449190102663.symm _) _) _;have L:lq (ju jv) p w s t=stepT (denote treeTable) p w s t:=by rw[show @lq=@stepT from W.Fast.te10156331382660048174.symm,show @ju=@denote from W.Fast.te11892475500146522536.symm,show @jv=@treeTable from W.Fast.te14364793385576792824.symm]
  rw[J,L];simp only[vw n]
noncomputable def looksAt (p q:Program) (loose:List Str) (Xt:Shared->Bool) {α:Type}(Yf:Shared->α) (g0:Bool) (h₀:Heap) (s:Shared):=
 ((staticsOk (importedModules p.main.body) h₀ s.heap && namesBound p s.heap && gensDone s && laidKept h₀ s.heap),seenQ q loose (importedModules p.main.body) Xt g0 s,Yf s)
noncomputable def vx:List (Nat × Obj)->BT->BT
 |[],t=>t
 |(a,o)::l,t=>vx l (t.ins a o)
noncomputable def rd:Nat->List Obj->BT->BT
 |_,[],t=>t
 |n,o::l,t=>rd (n+1) l (t.ins n o)
noncomputable def nF (p:Program) (w:World) (z:Nat) (I:Option Value):Nat->SharedT->Thread->Option (Flow × SharedT × Code × Pos)
 |0,_,_=>none
 |n+1,s,t=>match endAt 1 t with
  |some f=>some (f,s,t.code,t.pos)
  |none=>match nE z I t with
   |false=>none
   |true=>match lq (ju jv) p w s t with
    |some (s',t')=>nF p w z I n s' t'
    |none=>none
theorem vy (z:Nat)(I:Option Value)(t:Thread):nE z I t=stepOk z I t:=congrFun (congrFun (congrFun W.Fast.te6613529449190102663.symm _) _) _
theorem vz:@ju jv=denote treeTable:=by rw[show @ju=@denote from W.Fast.te11892475500146522536.symm,show @jv=@treeTable from W.Fast.te14364793385576792824.symm]
theorem vA (p:Program)(w:World)(s:SharedT)(t:Thread):lq (ju jv) p w s t=stepT (denote treeTable) p w s t:=by rw[show @lq=@stepT from W.Fast.te10156331382660048174.symm,vz]
theorem vB {p:Program}{w:World}{z:Nat}{I:Option Value}:∀(n:Nat) (s:SharedT) (t:Thread),nF p w z I n s t=segRunT treeTable p w z I 1 n s t
 |0,_,_=>rfl
 |n+1,s,t=>by
  unfold nF segRunT;rw[vy,vA]
  cases endAt 1 t with
  |some f=>rfl
  |none=>
   cases stepOk z I t with
   |false=>rfl
   |true=>
    cases stepT (denote treeTable) p w s t with
    |none=>rfl
    |some r=>obtain⟨s',t'⟩:=r;exact vB n s' t'
noncomputable def nG (tb:String->Option Builtin) (p:Program) (w:World) (z:Nat) (I:Option Value):Nat->SharedT->Thread->Option (SharedT × Thread)
 |0,s,t=>some (s,t)
 |n+1,s,t=>match through t with
  |true=>none
  |false=>match stepOk z I t with
   |false=>none
   |true=>match stepT (denote tb) p w s t with
    |some (s',t')=>nG tb p w z I n s' t'
    |none=>none
theorem vC {tb:String->Option Builtin}{p:Program}{w:World}{z:Nat}{I:Option Value}:∀{n:Nat}{s s':SharedT}{t t':Thread},nG tb p w z I n s t=some (s',t')->topGo tb p w z I n s.abs t=some (s'.abs,t')
 |0,s,s',t,t',h=>by
  have h:some (s,t)=some (s',t'):=h
  cases h;rfl
 |n+1,s,s',t,t',h=>by
  unfold nG at h;unfold topGo
  cases L:through t with
  |true=>rw[L] at h;cases h
  |false=>
   rw[L] at h
   cases U:stepOk z I t with
   |false=>rw[U] at h;cases h
   |true=>
    rw[U] at h
    cases J:stepT (denote tb) p w s t with
    |none=>rw[J] at h;cases h
    |some r=>obtain⟨Y,aa⟩:=r;rw[J] at h;rw[stepT_spec J];exact vC h
noncomputable def oZ (p:Program) (w:World) (z:Nat) (I:Option Value):Nat->SharedT->Thread->Option (SharedT × Thread)
 |0,s,t=>some (s,t)
 |n+1,s,t=>match through t with
  |true=>none
  |false=>match nE z I t with
   |false=>none
   |true=>match lq (ju jv) p w s t with
    |some (s',t')=>oZ p w z I n s' t'
    |none=>none
theorem vD {p:Program}{w:World}{z:Nat}{I:Option Value}:∀(n:Nat) (s:SharedT) (t:Thread),oZ p w z I n s t=nG treeTable p w z I n s t
 |0,_,_=>rfl
 |n+1,s,t=>by
  unfold oZ nG;rw[vy,vA];simp only[vD n]
noncomputable def o6 (p:Program) (w:World) (z:Nat) (I:Option Value) (env:Env) (c:Code) (J:Pos) (l:List Stmt) (U Y k3:Nat) (s:SharedT):Option (Thread × Code × Code × SharedT × Pos):=
 match oZ p w z I U s (topStub p) with
 |none=>none
 |some (s1,L)=>match nF p w z I Y s1 (blockOf (behindTheImports p) env c L.pos [topFrame J]) with
  |some (.next,s2,c2,p2)=>(match nF p w z I k3 s2 (piecesOf l env c p2 [topFrame J]) with
   |some (.next,s3,c3,p3)=>some (L,c2,c3,s3,p3)
   |_=>none)
  |_=>none
theorem Ci {p:Program}{w:World}{z:Nat}{I:Option Value}{env:Env}{c:Code}{L J U:Pos}{l rest:List Stmt}{Y k2 k3 N:Nat}{s s3:SharedT}{r:Shared}(hb:behindTheImports p=l++rest)
 (h:o6 p w z I env c L l Y k2 k3 s=some (⟨ju jv (.body (behindTheImports p) env),c,J,[topFrame L]⟩,c,c,s3,U))
 (k:topRun treeTable p w z I N s3.abs (restOf rest env c U [topFrame L])=some r):topRun treeTable p w z I (Y+(k2+(k3+N))) s.abs (topStub p)=some r:=by
 unfold o6 at h;split at h
 . cases h
 next s1 t1 e1=>
  split at h
  next s2 c2 p2 e2=>
   split at h
   next aa c3 ab e3=>
    cases h;rw[vD] at e1;rw[vB] at e2 e3;have g1:=vC e1;rw[vz] at g1;have g3:=piece_app (rest:=rest) (segRun_of e3) k;rw[<-hb] at g3;exact go_top g1 (piece_block (segRun_of e2) g3)
   . cases h
  . cases h
noncomputable def rf (P:Params):BT:=(treeOf (boot_heap P).objs.toList 0 .nil).getD .nil
noncomputable def o7 (w:World) (os:OsState):SharedT:=⟨rf w.params,(boot_heap w.params).objs.size,(boot_heap w.params).life,#[],boot_drawn,boot_toks,os⟩
theorem Cj {p q:Program}{loose:List Str}{Xt:Shared->Bool}{α:Type}{Yf:Shared->α}{Ya:World->α}{N:Nat}{g0:Bool}{env:Env}{c:Code}{q0 L p3:Pos}{l rest:List Stmt}{k1 k2 k3 N4 I:Nat}{J:Option Value}{S3:World->OsState->SharedT}
 (e:opening p=plainProg p.main.scope.names) (hN:Nat.ble 600 N=true) (f:∀s,fenceModules? p s=some s) (aa:N=k1+(k2+(k3+N4))) (hb:behindTheImports p=l++rest)
 (b0:∀P:Params,((boot_heap P).isNs mainGlobals,(treeOf (boot_heap P).objs.toList 0 .nil).isSome,(boot_heap P).objs.size,(boot_heap P).nsMap mainGlobals "__annotations__")=(true,true,I,J))
 (U:∀w os,o6 p w I J env c q0 l k1 k2 k3 (o7 w os)=some (⟨ju jv (.body (behindTheImports p) env),c,L,[topFrame q0]⟩,c,c,S3 w os,p3))
 (Y:∀w os,((lr p w I J N4 (S3 w os) (restOf rest env c p3 [topFrame q0])).map λ(s:SharedT)=>looksAt p q loose Xt Yf g0 (boot_heap w.params) s.abs)=some (true,openGood q loose,Ya w)):LeftO p q loose Xt Yf Ya N g0:=λw=>by
 obtain⟨⟨h,gs,d,k,os⟩,e1,e'⟩:=Option.map_eq_some_iff.mp (boot_open e hN f w);obtain⟨rfl,rfl,rfl,rfl⟩:h=boot_heap w.params/\gs=Array.mk []/\d=boot_drawn/\k=boot_toks:=by simpa using e'
 have ab:=b0 w.params;obtain⟨z,y0,hsz,ac⟩:_/\_/\_/\_:=by simpa only[Prod.mk.injEq] using ab
 obtain⟨T,y⟩:=Option.isSome_iff_exists.mp y0;obtain⟨s,r1,r2⟩:=Option.map_eq_some_iff.mp (Y w os);rw[vw] at r1;have r3:=Ci hb (U w os) (vv r1);rw[<-aa] at r3;have hT:=vq (life:=(boot_heap w.params).life) _ _ _ _ y
 have hS:SharedT.abs (o7 w os)=⟨boot_heap w.params,#[],boot_drawn,boot_toks,os⟩:=by
  unfold SharedT.abs o7 rf;dsimp only;rw[y];dsimp only[Option.getD];rw[Nat.zero_add,Q1l] at hT;rw[hT];have e0:(absHeap BT.nil 0 (boot_heap w.params).life).objs=#[]:=rfl;rw[e0,Q2o,Array.toArray_toList]
 rw[hS] at r3
 have t:topFrom treeTable p w N ⟨boot_heap w.params,#[],boot_drawn,boot_toks,os⟩=some s.abs:=by
  unfold topFrom;dsimp only;rw[z,hsz,ac,r3];have l1:=congrArg (λz=>z.1) r2;dsimp only[looksAt] at l1;show(match staticsOk (importedModules p.main.body) (boot_heap w.params) s.abs.heap && namesBound p s.abs.heap && gensDone s.abs && laidKept (boot_heap w.params) s.abs.heap with|true=>_|false=>_)=_;rw[l1]
 unfold openEnds;rw[e1];show(topFrom treeTable p w N _).map _=_;rw[t];have l2:=congrArg (λz=>z.2) r2;dsimp only[looksAt] at l2;rw[show @seenQ=@openSeen from W.Fast.te4187177175401517315.symm] at l2;exact congrArg some l2
theorem Ck {p q:Program}{loose:List Str}{Xt:Shared->Bool}{α:Type}{Yf:Shared->α}{Ya:World->α}{g0:Bool}{J z:Nat}{I:Option Value}{L U:World->OsState->SharedT}{t:Thread}
 (b:∀w os,lr p w z I J (L w os) t=some (U w os)) (l:∀w os,looksAt p q loose Xt Yf g0 (boot_heap w.params) (U w os).abs=(true,openGood q loose,Ya w)):
 ∀w os,((lr p w z I J (L w os) t).map λ(s:SharedT)=>looksAt p q loose Xt Yf g0 (boot_heap w.params) s.abs)=some (true,openGood q loose,Ya w):=λw os=>by
 rw[b];exact congrArg some (l w os)
theorem Cm {p q:Program}{loose:List Str}{Xt:Shared->Bool}{α:Type}{Yf:Shared->α}{Ya:World->α}{g0:Bool}{z:World->OsState->SharedT}
 (I:∀w os,(staticsOk (importedModules p.main.body) (boot_heap w.params) (z w os).abs.heap && namesBound p (z w os).abs.heap && gensDone (z w os).abs && laidKept (boot_heap w.params) (z w os).abs.heap)=true)
 (J:∀w os,seenQ q loose (importedModules p.main.body) Xt g0 (z w os).abs=openGood q loose) (L:∀w os,Yf (z w os).abs=Ya w):
 ∀w os,looksAt p q loose Xt Yf g0 (boot_heap w.params) (z w os).abs=(true,openGood q loose,Ya w):=λw os=>Prod.ext (I w os) (Prod.ext (J w os) (L w os))
end Pb
namespace Pb
open L2
noncomputable section
noncomputable def hF (x q:Str) (s:Stmt) (m:Str) (n c:Nat):Obj:=.mk (.type "function") none (.func (.mk x q (gG s) (.stmts (gj s)) (eP s) 3 [] .none .none .none (.str m n) none (.ref c) .none 0)) #[]
noncomputable def hR (x q:Str) (s:Stmt):Obj:=.mk .none none (.func (.mk x q (gG s) (.stmts (gj s)) (eP s) 0 [] .none .none .none .none none .none .none 0)) #[]
noncomputable def hC (x q:Str) (a l n k r e:Nat):Obj:=.mk (.type "code") none (.fields #[.str x a,.str q (a+1),.str (.ofString "/claim/cut.py") (a+2),.int l 0,.int n 0,.int 0 0,.int 0 0,.int k 0,.ref r,.bool true,.int 181 0,.ref (r+1),.none,.ref (r+2),.ref (r+3),.ref (r+4),.int e 0,.int l 0,.str (.ofString "/claim/cut.py") (e+1)]) #[]
noncomputable def Cn (x q:Str) (a l n k r e:Nat):Obj:=.mk (.type "code") none (.fields #[.str x a,.str q (a+1),.str (.ofString "/claim/cut.py") (a+2),.int l 0,.int n 0,.int 0 0,.int 0 0,.int k 0,.ref r,.bool true,.int 181 0,.ref (r+1),.none,.none,.none,.ref (r+2),.int e 0,.int l 0,.str (.ofString "/claim/cut.py") (e+1)]) #[]
noncomputable def hK (x:Str) (a l r e:Nat):Obj:=.mk (.type "code") none (.fields #[.str x a,.str x (a+1),.str (.ofString "/claim/cut.py") (a+2),.int l 0,.int 0 0,.int 0 0,.int 0 0,.int 0 0,.ref r,.bool false,.int 181 0,.ref (r+1),.none,.none,.none,.none,.int e 0,.int l 0,.str (.ofString "/claim/cut.py") (e+1)]) #[]
noncomputable def fZ (x:Str) (s:Stmt) (m:Str) (n c:Nat):Obj:=hF x x s m n c
noncomputable def f6 (x:Str) (s:Stmt):Obj:=hR x x s
noncomputable def gv (x:Str) (a l n k r e:Nat):Obj:=hC x x a l n k r e
noncomputable def kB (x:Str) (a l n k r e:Nat):Obj:=Cn x x a l n k r e
noncomputable def tS:Nat->List Str->List Value
 |_,[]=>[]
 |n,x::r=>.str x n::tS (n+1) r
noncomputable def hT (n:Nat) (l:List Str):Obj:=.mk (.type "tuple") none (.seq (tS n l).toArray) #[]
noncomputable def tI:List (Nat × Nat × Nat)->List Value
 |[]=>[]
 |(a,b,c)::r=>.int a 0:: .int b 0:: .ref c::tI r
noncomputable def hI (l:List (Nat × Nat × Nat)):Obj:=.mk .none none (.fields (tI l).toArray) #[]
noncomputable def hE (P:Params) (x:Str) (a:Nat) (v:Value):DictEntry:=.mk (PyData.keyHash P x) (.str x a) v
def hT0:Obj:=hT 0 []
noncomputable def fx:Obj:=.mk .none none (.fields #[]) #[]
noncomputable def mx (a b:Nat) (m:String) (n:Nat):Obj:=.mk (.type "frame") none .plain #[some (.ref a),some (.ref 3),some (.ref b),none,some (.str (.ofString m) n),none,some (.ref 0)]
noncomputable def nH (r:Nat):Obj:=.mk (.type "super") none (.fields #[.ref r,.ref r,.ref r]) #[]
noncomputable def hIs (r:Nat):Obj:=.mk (.type "builtin_function_or_method") none (.fields #[.builtin "object.__init_subclass__",.ref r]) #[]
noncomputable def jw:Obj:=.mk (.type "builtin_function_or_method") none (.fields #[.builtin "type.__prepare__",.type "type"]) #[]
noncomputable def rg (r:Nat):Obj:=.mk (.type "tuple") none (.seq #[.ref r]) #[]
noncomputable def vE:Str:="putback.errors"
noncomputable def vF:Str:="putback.kinds"
noncomputable def j3:Str:="putback.values"
noncomputable def lu:Str:="putback.views"
noncomputable def o8:Str:="putback.tables"
noncomputable def gL:Str:="law_putback_k42_order"
noncomputable def Jr (x q:Str) (s:Stmt) (m:Value) (c:Nat):Obj:=.mk (.type "function") none (.func (.mk x q (gG s) (.stmts (gj s)) (eP s) 3 [] .none .none .none m none (.ref c) .none 0)) #[]
noncomputable def Js (x q:Str) (a l n k r f b e:Nat):Obj:=.mk (.type "code") none (.fields #[.str x a,.str q (a+1),.str (.ofString "/claim/cut.py") (a+2),.int l 0,.int n 0,.int 0 0,.int 0 0,.int k 0,.ref r,.bool true,.int f 0,.ref (r+1),.none,.ref (r+2),.ref (r+3),.ref (r+4),.int b 0,.int l 0,.str (.ofString "/claim/cut.py") e]) #[]
noncomputable def Jt (P:Params) (x:Str) (a:Nat) (v:Value):DictEntry:=.mk (PyData.keyHash P x) (.str x a) v
noncomputable def Co:Obj:=.mk .none none (.dict #[]) #[]
noncomputable def vG (P:Params):Obj:=.mk (.type "dict") none (.dict #[hE P "__name__" 165 (.str (.ofString "law_putback_k42_order") 505),hE P "__doc__" 166 .none,hE P "__package__" 167 .none,hE P "__loader__" 168 (.builtin "__main__.__loader__#opaque"),hE P "__spec__" 169 .none,hE P "__annotations__" 170 (.ref 6),hE P "__builtins__" 171 (.ref 4),hE P "__file__" 173 (.str (.ofString "/claim/cut.py") 172),hE P "__cached__" 174 .none,hE P "ViewError" 206 (.ref 24),hE P "NoView" 231 (.ref 44),hE P "CantPut" 256 (.ref 63),hE P "is_plain" 265 (.ref 72),hE P "kind_at" 274 (.ref 79),hE P "misfit" 285 (.ref 86),hE P "record_misfit" 296 (.ref 93),hE P "has_just" 302 (.ref 98),hE P "rows_misfit" 314 (.ref 105),hE P "is_pair" 321 (.ref 112),hE P "tree_misfit" 332 (.ref 119),hE P "either_misfit" 342 (.ref 126),hE P "rank" 352 (.ref 133),hE P "in_order" 361 (.ref 140),hE P "ask_fit" 372 (.ref 147),hE P "ask_stands" 379 (.ref 154),hE P "View" 441 (.ref 199),hE P "Order" 504 (.ref 249),hE P "_law_next" 516 (.ref 258),hE P "_law_number" 526 (.ref 265),hE P "_law_word" 540 (.ref 272),hE P "_law_names" 557 (.ref 279),hE P "_law_plain" 565 (.ref 286),hE P "_law_fields" 571 (.ref 291),hE P "_law_rows_kind" 589 (.ref 298),hE P "_law_kind" 599 (.ref 305),hE P "_law_rank" 607 (.ref 312),hE P "_law_rows" 622 (.ref 319),hE P "_law_value" 628 (.ref 324),hE P "_law_alike" 634 (.ref 329),hE P "_law_way" 640 (.ref 334),hE P "_law_pool" 646 (.ref 339),hE P "_law_some" 662 (.ref 346),hE P "_law_spoilt" 676 (.ref 353),hE P "_law_put" 689 (.ref 360),hE P "_law_same_end" 698 (.ref 367),hE P "_law_sorted" 707 (.ref 374),hE P "_law_plains" 713 (.ref 379),hE P "_law_view" 722 (.ref 386),hE P "_law_wrong" 731 (.ref 393),hE P "_law_puts" 743 (.ref 400),hE P "_law_round" 749 (.ref 405),hE P "law" 758 (.ref 412)] 52) #[]
noncomputable def vH (P:Params):Obj:=.mk (.type "dict") none (.dict #[hE P "__module__" 196 (.str (.ofString "putback.errors") 187),hE P "__firstlineno__" 200 (.int 2 199),hE P "__static_attributes__" 201 (.ref 22),hE P "__weakref__" 203 (.ref 25),hE P "__doc__" 204 .none] 3) #[]
noncomputable def vL:Obj:=.mk (.type "type") none (.cls (.mk (.ofString "ViewError") [.type "ValueError"] [.ref 24,.type "ValueError",.type "Exception",.type "BaseException",.type "object"] 23 (.ofString "ViewError") true [] [.ref 44,.ref 63] false none false)) #[some (.ref 15),none,some (.str (.ofString "ViewError") 189),some (.str (.ofString "ViewError") 197),some (.builtin "ValueError.__new__"),some (.bool true)]
noncomputable def vM:Obj:=.mk (.type "getset_descriptor") none (.fields #[.str (.ofString "__weakref__") 202,.ref 24,.builtin "ExceptionGroup.__weakref__",.none]) #[]
def vN:Obj:=hC "__init__" "NoView.__init__" 219 6 2 3 35 224
def vO:Obj:=hF "__init__" "NoView.__init__" (ff 2 0) vE 187 40
noncomputable def vP (P:Params):Obj:=.mk (.type "dict") none (.dict #[hE P "__module__" 214 (.str (.ofString "putback.errors") 187),hE P "__firstlineno__" 218 (.int 4 217),hE P "__init__" 226 (.ref 41),hE P "__static_attributes__" 228 (.ref 42),hE P "__doc__" 229 .none] 2) #[]
noncomputable def vQ:Obj:=.mk (.type "type") none (.cls (.mk (.ofString "NoView") [.ref 24] [.ref 44,.ref 24,.type "ValueError",.type "Exception",.type "BaseException",.type "object"] 43 (.ofString "NoView") true [] [] false none false)) #[some (.ref 28),none,some (.str (.ofString "NoView") 207),some (.str (.ofString "NoView") 215),some (.builtin "ValueError.__new__"),some (.bool true)]
def vR:Obj:=hC "__init__" "CantPut.__init__" 244 10 2 3 54 249
def vS:Obj:=hF "__init__" "CantPut.__init__" (ff 3 0) vE 187 59
noncomputable def vT (P:Params):Obj:=.mk (.type "dict") none (.dict #[hE P "__module__" 239 (.str (.ofString "putback.errors") 187),hE P "__firstlineno__" 243 (.int 8 242),hE P "__init__" 251 (.ref 60),hE P "__static_attributes__" 253 (.ref 61),hE P "__doc__" 254 .none] 2) #[]
noncomputable def vU:Obj:=.mk (.type "type") none (.cls (.mk (.ofString "CantPut") [.ref 24] [.ref 63,.ref 24,.type "ValueError",.type "Exception",.type "BaseException",.type "object"] 62 (.ofString "CantPut") true [] [] false none false)) #[some (.ref 47),none,some (.str (.ofString "CantPut") 232),some (.str (.ofString "CantPut") 240),some (.builtin "ValueError.__new__"),some (.bool true)]
def vV:Obj:=gv "is_plain" 259 13 1 3 66 263
def vW:Obj:=fZ "is_plain" (top 5) vF 257 71
def vX:Obj:=gv "kind_at" 266 15 2 3 73 272
def vY:Obj:=fZ "kind_at" (top 6) vF 257 78
def vZ:Obj:=gv "misfit" 277 21 2 3 80 283
def v5:Obj:=fZ "misfit" (top 8) j3 275 85
def v7:Obj:=gv "record_misfit" 286 34 2 3 87 294
def v8:Obj:=fZ "record_misfit" (top 9) j3 275 92
def v9:Obj:=kB "has_just" 297 42 2 3 94 300
def v_:Obj:=fZ "has_just" (top 10) j3 275 97
def wa:Obj:=gv "rows_misfit" 303 44 2 3 99 312
def wb:Obj:=fZ "rows_misfit" (top 11) j3 275 104
def wc:Obj:=gv "is_pair" 315 58 1 3 106 319
def we:Obj:=fZ "is_pair" (top 12) j3 275 111
def wg:Obj:=gv "tree_misfit" 322 60 2 3 113 330
def wh:Obj:=fZ "tree_misfit" (top 13) j3 275 118
def wj:Obj:=gv "either_misfit" 333 71 2 3 120 340
def wm:Obj:=fZ "either_misfit" (top 14) j3 275 125
def wo:Obj:=gv "rank" 343 81 2 3 127 350
def wq:Obj:=fZ "rank" (top 15) j3 275 132
def wu:Obj:=gv "in_order" 353 87 2 3 134 359
def wx:Obj:=fZ "in_order" (top 16) j3 275 139
def wy:Obj:=gv "ask_fit" 364 90 2 3 141 370
def wz:Obj:=fZ "ask_fit" (top 18) lu 362 146
def wA:Obj:=gv "ask_stands" 373 94 1 3 148 377
def wB:Obj:=fZ "ask_stands" (top 19) lu 362 153
def wC:Obj:=hC "behind" "View.behind" 392 99 2 3 162 397
def wD:Obj:=hF "behind" "View.behind" (ff 20 0) lu 362 167
def wF:Obj:=hC "see" "View.see" 400 102 3 3 169 406
def wG:Obj:=hF "see" "View.see" (ff 20 1) lu 362 174
def wH:Obj:=hC "put" "View.put" 409 105 4 3 176 416
def wI:Obj:=hF "put" "View.put" (ff 20 2) lu 362 181
def wJ:Obj:=hC "grade" "View.grade" 419 109 1 3 183 423
def wK:Obj:=hF "grade" "View.grade" (ff 20 3) lu 362 188
def wM:Obj:=hC "keeps" "View.keeps" 426 112 2 3 190 431
def wN:Obj:=hF "keeps" "View.keeps" (ff 20 4) lu 362 195
noncomputable def wO (P:Params):Obj:=.mk (.type "dict") none (.dict #[hE P "__module__" 387 (.str (.ofString "putback.views") 362),hE P "__firstlineno__" 391 (.int 97 390),hE P "behind" 399 (.ref 168),hE P "see" 408 (.ref 175),hE P "put" 418 (.ref 182),hE P "grade" 425 (.ref 189),hE P "keeps" 433 (.ref 196),hE P "__static_attributes__" 434 (.ref 197),hE P "__dict__" 436 (.ref 200),hE P "__weakref__" 438 (.ref 201),hE P "__doc__" 439 .none] 4) #[]
noncomputable def wQ:Obj:=.mk (.type "type") none (.cls (.mk (.ofString "View") [.type "object"] [.ref 199,.type "object"] 198 (.ofString "View") true [] [.ref 249] false none false)) #[none,none,some (.str (.ofString "View") 380),some (.str (.ofString "View") 388),some (.builtin "object.__new__"),some (.bool true)]
noncomputable def wR:Obj:=.mk (.type "getset_descriptor") none (.fields #[.str (.ofString "__dict__") 435,.ref 199,.builtin "function.__dict__",.builtin "function.__dict__#set"]) #[]
noncomputable def wU:Obj:=.mk (.type "getset_descriptor") none (.fields #[.str (.ofString "__weakref__") 437,.ref 199,.builtin "ExceptionGroup.__weakref__",.none]) #[]
def wV:Obj:=hT 456 [""]
def wW:Obj:=hC "__init__" "Order.__init__" 457 117 2 3 212 462
noncomputable def wX:Obj:=.mk (.type "function") none (.func (.mk (.ofString "__init__") (.ofString "Order.__init__") (gG (ff 22 0)) (.stmts (gj (ff 22 0))) (eP (ff 22 0)) 3 [] (.ref 211) .none .none (.str (.ofString "putback.tables") 442) none (.ref 217) .none 0)) #[]
def wY:Obj:=hC "behind" "Order.behind" 465 120 2 3 219 470
def wZ:Obj:=hF "behind" "Order.behind" (ff 22 1) o8 442 224
def w5:Obj:=hC "see" "Order.see" 473 125 3 3 226 479
def w6:Obj:=hF "see" "Order.see" (ff 22 2) o8 442 231
def w_:Obj:=hC "put" "Order.put" 482 128 4 3 233 489
def xa:Obj:=hF "put" "Order.put" (ff 22 3) o8 442 238
def xb:Obj:=hC "keeps" "Order.keeps" 492 132 2 3 240 497
def xc:Obj:=hF "keeps" "Order.keeps" (ff 22 4) o8 442 245
noncomputable def xf (P:Params):Obj:=.mk (.type "dict") none (.dict #[hE P "__module__" 451 (.str (.ofString "putback.tables") 442),hE P "__firstlineno__" 455 (.int 115 454),hE P "__init__" 464 (.ref 218),hE P "behind" 472 (.ref 225),hE P "see" 481 (.ref 232),hE P "put" 491 (.ref 239),hE P "keeps" 499 (.ref 246),hE P "__static_attributes__" 501 (.ref 247),hE P "__doc__" 502 .none] 2) #[]
noncomputable def xg:Obj:=.mk (.type "type") none (.cls (.mk (.ofString "Order") [.ref 199] [.ref 249,.ref 199,.type "object"] 248 (.ofString "Order") true [] [] false none false)) #[some (.ref 204),none,some (.str (.ofString "Order") 444),some (.str (.ofString "Order") 452),some (.builtin "object.__new__"),some (.bool true)]
def xh:Obj:=gv "_law_next" 507 135 2 3 252 514
def xj:Obj:=fZ "_law_next" (top 24) gL 505 257
def xl:Obj:=gv "_law_number" 517 142 2 3 259 524
def xm:Obj:=fZ "_law_number" (top 25) gL 505 264
def xn:Obj:=gv "_law_word" 527 150 2 3 266 538
def xo:Obj:=fZ "_law_word" (top 26) gL 505 271
def xp:Obj:=gv "_law_names" 541 162 3 3 273 555
def xq:Obj:=fZ "_law_names" (top 27) gL 505 278
def xr:Obj:=gv "_law_plain" 558 176 2 3 280 563
def xt:Obj:=fZ "_law_plain" (top 28) gL 505 285
def xu:Obj:=kB "_law_fields" 566 180 4 3 287 569
def xv:Obj:=fZ "_law_fields" (top 29) gL 505 290
def xw:Obj:=gv "_law_rows_kind" 572 183 4 3 292 587
def xx:Obj:=fZ "_law_rows_kind" (top 30) gL 505 297
def xy:Obj:=gv "_law_kind" 590 198 3 3 299 597
def xA:Obj:=fZ "_law_kind" (top 31) gL 505 304
def xB:Obj:=gv "_law_rank" 600 209 2 3 306 605
def xC:Obj:=fZ "_law_rank" (top 32) gL 505 311
def xD:Obj:=gv "_law_rows" 608 213 4 3 313 620
def xE:Obj:=fZ "_law_rows" (top 33) gL 505 318
def xF:Obj:=kB "_law_value" 623 222 4 3 320 626
def xG:Obj:=fZ "_law_value" (top 34) gL 505 323
def xH:Obj:=kB "_law_alike" 629 240 3 3 325 632
def xI:Obj:=fZ "_law_alike" (top 35) gL 505 328
def xJ:Obj:=kB "_law_way" 635 268 2 3 330 638
def xK:Obj:=fZ "_law_way" (top 36) gL 505 333
def xM:Obj:=kB "_law_pool" 641 272 4 3 335 644
def xN:Obj:=fZ "_law_pool" (top 37) gL 505 338
def xO:Obj:=gv "_law_some" 647 280 5 3 340 660
def xP:Obj:=fZ "_law_some" (top 38) gL 505 345
def xQ:Obj:=gv "_law_spoilt" 663 291 4 3 347 674
def xR:Obj:=fZ "_law_spoilt" (top 39) gL 505 352
def xS:Obj:=gv "_law_put" 677 311 4 3 354 687
def xT:Obj:=fZ "_law_put" (top 40) gL 505 359
def xU:Obj:=gv "_law_same_end" 690 321 3 3 361 696
def xV:Obj:=fZ "_law_same_end" (top 41) gL 505 366
def xW:Obj:=gv "_law_sorted" 699 327 2 3 368 705
def xX:Obj:=fZ "_law_sorted" (top 42) gL 505 373
def xY:Obj:=kB "_law_plains" 708 329 1 3 375 711
def xZ:Obj:=fZ "_law_plains" (top 43) gL 505 378
def x6:Obj:=gv "_law_view" 714 331 2 3 380 720
def x8:Obj:=fZ "_law_view" (top 44) gL 505 385
def x9:Obj:=gv "_law_wrong" 723 338 2 3 387 729
def x_:Obj:=fZ "_law_wrong" (top 45) gL 505 392
def ya:Obj:=gv "_law_puts" 732 343 5 3 394 741
def yb:Obj:=fZ "_law_puts" (top 46) gL 505 399
def yc:Obj:=kB "_law_round" 744 350 2 3 401 747
def yd:Obj:=fZ "_law_round" (top 47) gL 505 404
def ye:Obj:=gv "law" 750 379 1 3 406 756
def yf:Obj:=fZ "law" (top 48) gL 505 411
noncomputable def Cp (P:Params):Obj:=.mk (.type "dict") none (.dict #[hE P "__name__" 165 (.str (.ofString "putback.tables") 442),hE P "__doc__" 166 .none,hE P "__package__" 167 .none,hE P "__loader__" 168 (.builtin "__main__.__loader__#opaque"),hE P "__spec__" 169 .none,hE P "__annotations__" 170 (.ref 6),hE P "__builtins__" 171 (.ref 4),hE P "__file__" 173 (.str (.ofString "/claim/cut.py") 172),hE P "__cached__" 174 .none,hE P "ViewError" 206 (.ref 24),hE P "NoView" 231 (.ref 44),hE P "CantPut" 256 (.ref 63),hE P "is_plain" 265 (.ref 72),hE P "kind_at" 274 (.ref 79),hE P "misfit" 285 (.ref 86),hE P "record_misfit" 296 (.ref 93),hE P "has_just" 302 (.ref 98),hE P "rows_misfit" 314 (.ref 105),hE P "is_pair" 321 (.ref 112),hE P "tree_misfit" 332 (.ref 119),hE P "either_misfit" 342 (.ref 126),hE P "rank" 352 (.ref 133),hE P "in_order" 361 (.ref 140),hE P "ask_fit" 372 (.ref 147),hE P "ask_stands" 379 (.ref 154),hE P "View" 441 (.ref 199)] 26) #[]
noncomputable def Cq (P:Params):List Obj:=hT0::hI [(2,0,20),(4,0,33),(8,0,52),(13,0,71),(15,0,78),(21,0,85),(34,0,92),(42,0,97),(44,0,104),(58,0,111),(60,0,118),(71,0,125),(81,0,132),(87,0,139),(90,0,146),(94,0,153),(97,0,160)]::hK "<module>" 182 1 11 185::mx 13 3 "__main__" 164:: .mk (.type "tuple") none (.seq #[.type "ValueError"]) #[]::jw:: .mk (.type "dict") none (.dict #[hE P "__module__" 196 (.str (.ofString "putback.errors") 187),hE P "__qualname__" 198 (.str (.ofString "ViewError") 197),hE P "__firstlineno__" 200 (.int 2 199),hE P "__static_attributes__" 201 (.ref 22)] 4) #[]::hT0::fx::hK "ViewError" 191 2 18 194::mx 20 17 "putback.errors" 187::hT0::vH P::vL::vM::nH 24::hIs 24::rg 24::jw:: .mk (.type "dict") none (.dict #[hE P "__module__" 214 (.str (.ofString "putback.errors") 187),hE P "__qualname__" 216 (.str (.ofString "NoView") 215),hE P "__firstlineno__" 218 (.int 4 217),hE P "__init__" 226 (.ref 41),hE P "__static_attributes__" 228 (.ref 42)] 5) #[]::hT0::hI [(6,4,40)]::hK "NoView" 209 4 31 212::mx 33 30 "putback.errors" 187::hT0::fx::hT 222 ["self","way"]::hT0::hR "__init__" "NoView.__init__" (ff 2 0)::vN::vO::hT 227 ["way"]::vP P::vQ::nH 44::hIs 44::rg 24::jw:: .mk (.type "dict") none (.dict #[hE P "__module__" 239 (.str (.ofString "putback.errors") 187),hE P "__qualname__" 241 (.str (.ofString "CantPut") 240),hE P "__firstlineno__" 243 (.int 8 242),hE P "__init__" 251 (.ref 60),hE P "__static_attributes__" 253 (.ref 61)] 5) #[]::hT0::hI [(10,4,59)]::hK "CantPut" 234 8 50 237::mx 52 49 "putback.errors" 187::hT0::fx::hT 247 ["self","way"]::hT0::hR "__init__" "CantPut.__init__" (ff 3 0)::vR::vS::hT 252 ["way"]::vT P::vU::nH 63::hIs 63::hT0::fx::hT 262 ["kind"]::hT0::f6 "is_plain" (top 5)::vV::vW::hT0::fx::hT 269 ["fields","name","pair"]::hT0::f6 "kind_at" (top 6)::vX::vY::hT0::fx::hT 280 ["kind","value","form"]::hT0::f6 "misfit" (top 8)::vZ::v5::hT0::fx::hT 289 ["fields","record","name","inner","place"]::hT0::f6 "record_misfit" (top 9)::v7::v8::hT0::fx::f6 "has_just" (top 10)::v9::v_::hT0::fx::hT 306 ["kind","rows","earlier","number","row","place"]::hT0::f6 "rows_misfit" (top 11)::wa::wb::hT0::fx::hT 318 ["value"]::hT0::f6 "is_pair" (top 12)::wc::we::hT0::fx::hT 325 ["kind","tree","place","number","arm"]::hT0::f6 "tree_misfit" (top 13)::wg::wh::hT0::fx::hT 336 ["fields","value","inner","place"]::hT0::f6 "either_misfit" (top 14)::wj::wm::hT0::fx::hT 346 ["kind","row","key","by"]::hT0::f6 "rank" (top 15)::wo::wq::hT0::fx::hT 356 ["kind","rows"]::hT 358 ["kind"]::f6 "in_order" (top 16)::wu::wx::hT0::fx::hT 367 ["kind","seen","place"]::hT0::f6 "ask_fit" (top 18)::wy::wz::hT0::fx::hT 376 ["stands"]::hT0::f6 "ask_stands" (top 19)::wA::wB::hT0::jw:: .mk (.type "dict") none (.dict #[hE P "__module__" 387 (.str (.ofString "putback.views") 362),hE P "__qualname__" 389 (.str (.ofString "View") 388),hE P "__firstlineno__" 391 (.int 97 390),hE P "behind" 399 (.ref 168),hE P "see" 408 (.ref 175),hE P "put" 418 (.ref 182),hE P "grade" 425 (.ref 189),hE P "keeps" 433 (.ref 196),hE P "__static_attributes__" 434 (.ref 197)] 9) #[]::hT0::hI [(99,4,167),(102,4,174),(105,4,181),(109,4,188),(112,4,195)]::hK "View" 382 97 158 385::mx 160 157 "putback.views" 362::hT0::fx::hT 395 ["self","kind"]::hT0::hR "behind" "View.behind" (ff 20 0)::wC::wD::hT0::fx::hT 403 ["self","kind","source"]::hT0::hR "see" "View.see" (ff 20 1)::wF::wG::hT0::fx::hT 412 ["self","kind","source","seen"]::hT0::hR "put" "View.put" (ff 20 2)::wH::wI::hT0::fx::hT 422 ["self"]::hT0::hR "grade" "View.grade" (ff 20 3)::wJ::wK::hT0::fx::hT 429 ["self","name"]::hT0::hR "keeps" "View.keeps" (ff 20 4)::wM::wN::hT0::wO P:: .mk (.type "type") none (.cls (.mk (.ofString "View") [.type "object"] [.ref 199,.type "object"] 198 (.ofString "View") true [] [] false none false)) #[none,none,some (.str (.ofString "View") 380),some (.str (.ofString "View") 388),some (.builtin "object.__new__"),some (.bool true)]::wR::wU::nH 199::hIs 199::[]
noncomputable def endL (P:Params):List Obj:=rg 199::jw:: .mk (.type "dict") none (.dict #[hE P "__module__" 451 (.str (.ofString "putback.tables") 442),hE P "__qualname__" 453 (.str (.ofString "Order") 452),hE P "__firstlineno__" 455 (.int 115 454),hE P "__init__" 464 (.ref 218),hE P "behind" 472 (.ref 225),hE P "see" 481 (.ref 232),hE P "put" 491 (.ref 239),hE P "keeps" 499 (.ref 246),hE P "__static_attributes__" 501 (.ref 247)] 9) #[]::hT0::hI [(117,4,217),(120,4,224),(125,4,231),(128,4,238),(132,4,245)]::hK "Order" 446 115 207 449::mx 209 206 "putback.tables" 442::wV::hT0::fx::hT 460 ["self","by"]::hT0::hR "__init__" "Order.__init__" (ff 22 0)::wW::wX::hT0::fx::hT 468 ["self","kind"]::hT0::hR "behind" "Order.behind" (ff 22 1)::wY::wZ::hT0::fx::hT 476 ["self","kind","source"]::hT0::hR "see" "Order.see" (ff 22 2)::w5::w6::hT0::fx::hT 485 ["self","kind","source","seen"]::hT0::hR "put" "Order.put" (ff 22 3)::w_::xa::hT0::fx::hT 495 ["self","name"]::hT0::hR "keeps" "Order.keeps" (ff 22 4)::xb::xc::hT 500 ["by"]::xf P::xg::nH 249::hIs 249::hT0::fx::hT 510 ["_law_script","_law_at","_law_cell","_law_m"]::hT0::f6 "_law_next" (top 24)::xh::xj::hT0::fx::hT 520 ["_law_script","_law_at","_law_m","_law_cell"]::hT0::f6 "_law_number" (top 25)::xl::xm::hT0::fx::hT 530 ["_law_script","_law_at","_law_signs","_law_m","_law_many","_law_word_here","_law_k","_law_place"]::hT0::f6 "_law_word" (top 26)::xn::xo::hT0::fx::hT 544 ["_law_script","_law_at","_law_many","_law_letters","_law_m","_law_step","_law_stem","_law_cut","_law_names_here","_law_k","_law_sign"]::hT0::f6 "_law_names" (top 27)::xp::xq::hT0::fx::hT 561 ["_law_script","_law_at"]::hT0::f6 "_law_plain" (top 28)::xr::xt::hT0::fx::f6 "_law_fields" (top 29)::xu::xv::hT0::fx::hT 575 ["_law_script","_law_at","_law_many","_law_deep","_law_names_here","_law_m","_law_lead","_law_by","_law_fields_here","_law_k","_law_kind_here","_law_name"]::hT0::f6 "_law_rows_kind" (top 30)::xw::xx::hT0::fx::hT 593 ["_law_script","_law_at","_law_deep","_law_m"]::hT0::f6 "_law_kind" (top 31)::xy::xA::hT0::fx::hT 603 ["_law_kind_here","_law_row"]::hT0::f6 "_law_rank" (top 32)::xB::xC::hT0::fx::hT 611 ["_law_script","_law_at","_law_kind_here","_law_room","_law_rows_here","_law_seen","_law_k","_law_row"]::hT 619 ["_law_kind_here"]::f6 "_law_rows" (top 33)::xD::xE::hT0::fx::f6 "_law_value" (top 34)::xF::xG::hT0::fx::f6 "_law_alike" (top 35)::xH::xI::hT0::fx::f6 "_law_way" (top 36)::xJ::xK::hT0::fx::f6 "_law_pool" (top 37)::xM::xN::hT0::fx::hT 650 ["_law_script","_law_at","_law_kind_here","_law_pool_here","_law_room","_law_rows_here","_law_one","_law_m","_law_row"]::hT 659 ["_law_kind_here"]::f6 "_law_some" (top 38)::xO::xP::hT0::fx::hT 666 ["_law_script","_law_at","_law_kind_here","_law_rows_here","_law_m","_law_n","_law_row","_law_name"]::hT0::f6 "_law_spoilt" (top 39)::xQ::xR::hT0::fx::hT 680 ["_law_view_here","_law_kind_here","_law_source","_law_seen","_law_way_here","_law_made","e"]::hT0::f6 "_law_put" (top 40)::xS::xT::hT0::fx::hT 693 ["_law_kind_here","_law_found","_law_due"]::hT0::f6 "_law_same_end" (top 41)::xU::xV::hT0::fx::hT 702 ["_law_kind_here","_law_rows_here"]::hT 704 ["_law_kind_here"]::f6 "_law_sorted" (top 42)::xW::xX::hT0::fx::f6 "_law_plains" (top 43)::xY::xZ::hT0::fx::hT 717 ["_law_m","_law_plains_here","_law_by"]::hT0::f6 "_law_view" (top 44)::x6::x8::hT0::fx::hT 726 ["_law_kind_here","_law_rows_here","_law_n"]::hT0::f6 "_law_wrong" (top 45)::x9::x_::hT0::fx::hT 735 ["_law_view_here","_law_kind_here","_law_source","_law_seen","_law_wrong_here","_law_due"]::hT0::f6 "_law_puts" (top 46)::ya::yb::hT0::fx::f6 "_law_round" (top 47)::yc::yd::hT0::fx::hT 753 ["_law_script","_law_at","_law_k"]::hT0::f6 "law" (top 48)::ye::yf::[]
noncomputable def Cr (P:Params):List (Nat × Obj):=(nat_lit 3,vG P)::(nat_lit 12,hI [(2,0,20),(4,0,33),(8,0,52),(13,0,71),(15,0,78),(21,0,85),(34,0,92),(42,0,97),(44,0,104),(58,0,111),(60,0,118),(71,0,125),(81,0,132),(87,0,139),(90,0,146),(94,0,153),(97,0,160),(115,0,209),(135,0,257),(142,0,264),(150,0,271),(162,0,278),(176,0,285),(180,0,290),(183,0,297),(198,0,304),(209,0,311),(213,0,318),(222,0,323),(240,0,328),(268,0,333),(272,0,338),(280,0,345),(291,0,352),(311,0,359),(321,0,366),(327,0,373),(329,0,378),(331,0,385),(338,0,392),(343,0,399),(350,0,404),(379,0,411)])::(nat_lit 199,wQ)::[]
end
noncomputable def KK:PySem.Params->W.Frag:=λP=>(nat_lit 2,Co)::(nat_lit 3,vG P)::(nat_lit 23,vH P)::(nat_lit 24,vL)::(nat_lit 25,vM)::(nat_lit 40,vN)::(nat_lit 41,vO)::(nat_lit 43,vP P)::(nat_lit 44,vQ)::(nat_lit 59,vR)::(nat_lit 60,vS)::(nat_lit 62,vT P)::(nat_lit 63,vU)::(nat_lit 71,vV)::(nat_lit 72,vW)::(nat_lit 78,vX)::(nat_lit 79,vY)::(nat_lit 85,vZ)::(nat_lit 86,v5)::(nat_lit 92,v7)::(nat_lit 93,v8)::(nat_lit 97,v9)::(nat_lit 98,v_)::(nat_lit 104,wa)::(nat_lit 105,wb)::(nat_lit 111,wc)::(nat_lit 112,we)::(nat_lit 118,wg)::(nat_lit 119,wh)::(nat_lit 125,wj)::(nat_lit 126,wm)::(nat_lit 132,wo)::(nat_lit 133,wq)::(nat_lit 139,wu)::(nat_lit 140,wx)::(nat_lit 146,wy)::(nat_lit 147,wz)::(nat_lit 153,wA)::(nat_lit 154,wB)::(nat_lit 167,wC)::(nat_lit 168,wD)::(nat_lit 174,wF)::(nat_lit 175,wG)::(nat_lit 181,wH)::(nat_lit 182,wI)::(nat_lit 188,wJ)::(nat_lit 189,wK)::(nat_lit 195,wM)::(nat_lit 196,wN)::(nat_lit 198,wO P)::(nat_lit 199,wQ)::(nat_lit 200,wR)::(nat_lit 201,wU)::(nat_lit 211,wV)::(nat_lit 217,wW)::(nat_lit 218,wX)::(nat_lit 224,wY)::(nat_lit 225,wZ)::(nat_lit 231,w5)::(nat_lit 232,w6)::(nat_lit 238,w_)::(nat_lit 239,xa)::(nat_lit 245,xb)::(nat_lit 246,xc)::(nat_lit 248,xf P)::(nat_lit 249,xg)::(nat_lit 257,xh)::(nat_lit 258,xj)::(nat_lit 264,xl)::(nat_lit 265,xm)::(nat_lit 271,xn)::(nat_lit 272,xo)::(nat_lit 278,xp)::(nat_lit 279,xq)::(nat_lit 285,xr)::(nat_lit 286,xt)::(nat_lit 290,xu)::(nat_lit 291,xv)::(nat_lit 297,xw)::(nat_lit 298,xx)::(nat_lit 304,xy)::(nat_lit 305,xA)::(nat_lit 311,xB)::(nat_lit 312,xC)::(nat_lit 318,xD)::(nat_lit 319,xE)::(nat_lit 323,xF)::(nat_lit 324,xG)::(nat_lit 328,xH)::(nat_lit 329,xI)::(nat_lit 333,xJ)::(nat_lit 334,xK)::(nat_lit 338,xM)::(nat_lit 339,xN)::(nat_lit 345,xO)::(nat_lit 346,xP)::(nat_lit 352,xQ)::(nat_lit 353,xR)::(nat_lit 359,xS)::(nat_lit 360,xT)::(nat_lit 366,xU)::(nat_lit 367,xV)::(nat_lit 373,xW)::(nat_lit 374,xX)::(nat_lit 378,xY)::(nat_lit 379,xZ)::(nat_lit 385,x6)::(nat_lit 386,x8)::(nat_lit 392,x9)::(nat_lit 393,x_)::(nat_lit 399,ya)::(nat_lit 400,yb)::(nat_lit 404,yc)::(nat_lit 405,yd)::(nat_lit 411,ye)::(nat_lit 412,yf)::[]
noncomputable def kE:List Nat:=nat_lit 2::nat_lit 3::nat_lit 23::nat_lit 24::nat_lit 25::nat_lit 40::nat_lit 41::nat_lit 43::nat_lit 44::nat_lit 59::nat_lit 60::nat_lit 62::nat_lit 63::nat_lit 71::nat_lit 72::nat_lit 78::nat_lit 79::nat_lit 85::nat_lit 86::nat_lit 92::nat_lit 93::nat_lit 97::nat_lit 98::nat_lit 104::nat_lit 105::nat_lit 111::nat_lit 112::nat_lit 118::nat_lit 119::nat_lit 125::nat_lit 126::nat_lit 132::nat_lit 133::nat_lit 139::nat_lit 140::nat_lit 146::nat_lit 147::nat_lit 153::nat_lit 154::nat_lit 167::nat_lit 168::nat_lit 174::nat_lit 175::nat_lit 181::nat_lit 182::nat_lit 188::nat_lit 189::nat_lit 195::nat_lit 196::nat_lit 198::nat_lit 199::nat_lit 200::nat_lit 201::nat_lit 211::nat_lit 217::nat_lit 218::nat_lit 224::nat_lit 225::nat_lit 231::nat_lit 232::nat_lit 238::nat_lit 239::nat_lit 245::nat_lit 246::nat_lit 248::nat_lit 249::nat_lit 257::nat_lit 258::nat_lit 264::nat_lit 265::nat_lit 271::nat_lit 272::nat_lit 278::nat_lit 279::nat_lit 285::nat_lit 286::nat_lit 290::nat_lit 291::nat_lit 297::nat_lit 298::nat_lit 304::nat_lit 305::nat_lit 311::nat_lit 312::nat_lit 318::nat_lit 319::nat_lit 323::nat_lit 324::nat_lit 328::nat_lit 329::nat_lit 333::nat_lit 334::nat_lit 338::nat_lit 339::nat_lit 345::nat_lit 346::nat_lit 352::nat_lit 353::nat_lit 359::nat_lit 360::nat_lit 366::nat_lit 367::nat_lit 373::nat_lit 374::nat_lit 378::nat_lit 379::nat_lit 385::nat_lit 386::nat_lit 392::nat_lit 393::nat_lit 399::nat_lit 400::nat_lit 404::nat_lit 405::nat_lit 411::nat_lit 412::[]
noncomputable def yg (P:PySem.Params):W.BT:=rd 11 (Cq P) ((rf P).ins 3 (Cp P))
noncomputable def Cs (P:PySem.Params):W.BT:=vx (Cr P) (rd 204 (endL P) (yg P))
noncomputable def qv:PySem.Program:={ PySem.Challenge.pw_putback_k42_order with main:={ (PySem.Challenge.pw_putback_k42_order).main with body:=top 1::top 2::top 3::top 5::top 6::top 8::top 9::top 10::top 11::top 12::top 13::top 14::top 15::top 16::top 18::top 19::top 20::top 22::top 24::top 25::top 26::top 27::top 28::top 29::top 30::top 31::top 32::top 33::top 34::top 35::top 36::top 37::top 38::top 39::top 40::top 41::top 42::top 43::top 44::top 45::top 46::top 47::top 48::[] } }
theorem lx (P:PySem.Params):kE=(KK P).map (·.1):=by kernel_rfl
noncomputable def yh (w:PySem.World) (os:PySem.OsState):W.SharedT:=⟨yg w.params,204,(W.boot_heap w.params).life,#[],W.boot_drawn,444,os⟩
noncomputable def ly (w:PySem.World) (os:PySem.OsState):W.SharedT:=⟨Cs w.params,413,(W.boot_heap w.params).life,#[],W.boot_drawn,759,os⟩
noncomputable def rh:List PySem.Stmt:=W.behindTheImports (W.OpenLaw.row PySem.Challenge.rw_putback_k42_order).prog
noncomputable def o9:PySem.Env:={ scope:=((W.OpenLaw.row PySem.Challenge.rw_putback_k42_order).prog).main.scope,locals:=PySem.mainNs,globals:=PySem.mainNs,cells:=[],code:=.ref 13,frame:=some 14 }
noncomputable def nI:PySem.Code:=.body (W.behindTheImports (W.OpenLaw.row PySem.Challenge.rw_putback_k42_order).prog) o9
open W PyProof.Rows in
theorem Ct:∀w os,o6 (W.OpenLaw.row PySem.Challenge.rw_putback_k42_order).prog w 11 (some (.ref 6)) o9 nI ⟨0,0,0,0⟩ (rh.take 22) 12 1 5000 (o7 w os)=some (⟨ju jv (.body (behindTheImports (W.OpenLaw.row PySem.Challenge.rw_putback_k42_order).prog) o9),nI,⟨0,0,0,0⟩,[topFrame ⟨0,0,0,0⟩]⟩,nI,nI,yh w os,⟨114,0,114,8⟩):=by
 intro w os
 kernel_rfl
open W PyProof.Rows in
theorem Cu:∀w os,lr (W.OpenLaw.row PySem.Challenge.rw_putback_k42_order).prog w 11 (some (.ref 6)) 6000 (yh w os) (restOf (rh.drop 22) o9 nI ⟨114,0,114,8⟩ [topFrame ⟨0,0,0,0⟩])=some (ly w os):=by
 intro w os
 kernel_rfl
open W PyProof.Rows in
theorem Cw:∀w os,(staticsOk (importedModules ((W.OpenLaw.row PySem.Challenge.rw_putback_k42_order).prog).main.body) (boot_heap w.params) (ly w os).abs.heap && namesBound (W.OpenLaw.row PySem.Challenge.rw_putback_k42_order).prog (ly w os).abs.heap && gensDone (ly w os).abs && laidKept (boot_heap w.params) (ly w os).abs.heap)=true:=by
 intro w os
 kernel_rfl
open W PyProof.Rows in
theorem Cy:∀w os,seenQ qv ["Order"] (importedModules ((W.OpenLaw.row PySem.Challenge.rw_putback_k42_order).prog).main.body) (λs=>xlAt qv [] s && recOk (RowW.records (W.OpenRow.toRowW (W.OpenLaw.row PySem.Challenge.rw_putback_k42_order))) s) true (ly w os).abs=openGood qv ["Order"]:=by
 intro w os
 kernel_rfl
open W PyProof.Rows in
theorem Cz:∀w os,Hook.obs (W.kmHook Pb.KK Pb.kE Pb.lx [135,314,369,407]) (ly w os).abs=Hook.val (W.kmHook Pb.KK Pb.kE Pb.lx [135,314,369,407]) w:=by
 intro w os
 kernel_rfl
open W PyProof.Rows in
theorem said:PySem.Challenge.rw_putback_k42_order.wellSaid=true:=by
 delta OpenLaw.wellSaid OpenRow.wellSaid OpenRow.partSaid looksOpen
 repeat' (with_reducible refine look_both ?_ ?_)
 all_goals kernel_rfl
end Pb
namespace L2
open Spec PyProof.Rows
noncomputable abbrev Key:=Sum Int Str
noncomputable def my:Key->Value->Bool
 | .inl k,v=>Value.isInt k v
 | .inr x,v=>Value.isStrOf x v
noncomputable def CA (w:World):Key->Int
 | .inl k=>hashInt k
 | .inr x=>hashStr w x
theorem j4:∀{k:Key}{v:Value},my k v=true->(∃i t,k=Sum.inl i/\v=Value.int i t)\/(∃x t,k=Sum.inr x/\v=Value.str x t)
 | .inl i,v,h=>by
   obtain⟨t,e⟩:=Value.isInt_shape (k:=i) (v:=v) h;exact .inl ⟨i,t,rfl,e⟩
 | .inr x,v,h=>by
   obtain⟨t,e⟩:=Value.isStrOf_shape (x:=x) (v:=v) h;exact .inr ⟨x,t,rfl,e⟩
theorem CC (i:Int)(t:Tok):my (.inl i) (.int i t)=true:=by simp[my,Value.isInt]
theorem CD (x:Str)(t:Tok):my (.inr x) (.str x t)=true:=by simp[my,Value.isStrOf]
theorem CF (a b:Int):decide ((Sum.inl a:Key)=Sum.inl b)=(a == b):=by
 by_cases e:a=b
 . subst e;simp
 . have h:¬(Sum.inl a:Key)=Sum.inl b:=λq=>e (Sum.inl.inj q);rw[decide_eq_false h];exact(beq_eq_false_iff_ne.mpr e).symm
theorem CG (a b:Str):decide ((Sum.inr a:Key)=Sum.inr b)=decide (a=b):=by
 by_cases e:a=b
 . subst e;simp
 . have h:¬(Sum.inr a:Key)=Sum.inr b:=λq=>e (Sum.inr.inj q);rw[decide_eq_false h,decide_eq_false e]
theorem CH (a:Int)(b:Str):decide ((Sum.inl a:Key)=Sum.inr b)=false:=decide_eq_false (λq=>nomatch q)
theorem CI (a:Str)(b:Int):decide ((Sum.inr a:Key)=Sum.inl b)=false:=decide_eq_false (λq=>nomatch q)
noncomputable def iP (prog:Program) (w:World):PySem.KeyKind prog w Key where
 is:=my
 hash:=CA w
 inj:=λv a b L J=>by
  rcases j4 L with⟨i,t,rfl,rfl⟩|⟨x,t,rfl,rfl⟩
  . rcases j4 J with⟨j,u,rfl,e⟩|⟨y,u,rfl,e⟩
    . injection e with z _;rw[z]
    . exact nomatch e
  . rcases j4 J with⟨j,u,rfl,e⟩|⟨y,u,rfl,e⟩
    . exact nomatch e
    . injection e with z _;rw[z]
 byValue:=λk v h=>by
  rcases j4 h with⟨i,t,rfl,rfl⟩|⟨x,t,rfl,rfl⟩ <;> rfl
 pyHash:=λI h=>by
  rcases j4 I with⟨i,t,rfl,rfl⟩|⟨x,t,rfl,rfl⟩
  . exact wpAny_pyHash_int h
  . exact wpAny_pyHash_str h
 eqBool:=λU I h=>by
  rcases j4 U with⟨i,t,rfl,rfl⟩|⟨x,t,rfl,rfl⟩
  . rcases j4 I with⟨j,u,rfl,rfl⟩|⟨y,u,rfl,rfl⟩
    . rw[CF] at h;exact wpAny_eqBool_int h
    . rw[CH] at h;exact SeqAt.EqAt.int_str i t y u _ _ _ _ h
  . rcases j4 I with⟨j,u,rfl,rfl⟩|⟨y,u,rfl,rfl⟩
    . rw[CI] at h;exact SeqAt.EqAt.str_int x t j u _ _ _ _ h
    . rw[CG] at h;exact wpAny_eqBool_str h
 «strs»:=λk x t v h=>by
  rcases j4 h with⟨i,u,rfl,e⟩|⟨y,u,rfl,e⟩
  . exact nomatch e
  . injection e with z _
    subst z
    cases v <;> rfl
theorem CJ (prog:Program)(w:World)(i:Int)(t:Tok):(iP prog w).is (.inl i) (.int i t)=true:=CC i t
theorem CK (prog:Program)(w:World)(x:Str)(t:Tok):(iP prog w).is (.inr x) (.str x t)=true:=CD x t
inductive V where
 |non|bl (b:Bool)|int (i:Int)|str (x:Str)|jf (b:Array UInt8)|flt (b:UInt64)|ref (a:Addr)|ty (n:String)
 deriving DecidableEq
def RelV:V->Value->Prop
 | .non,u=>u=Value.none
 | .bl b,u=>u=Value.bool b
 | .int i,u=>∃t,u=Value.int i t
 | .str x,u=>∃t,u=Value.str x t
 | .jf b,u=>∃t,u=Value.bytes b t
 | .flt b,u=>∃t,u=Value.float b t
 | .ref a,u=>u=Value.ref a
 | .ty n,u=>u=Value.type n
abbrev Vals:List V->List Value->Prop:=Paired RelV
theorem Vals.length {xs:List V}{us:List Value}(r:Vals xs us):xs.length=us.length:=Paired.length r
theorem Vals.get:∀{xs:List V}{us:List Value}{i:Nat}{x:V},Vals xs us->xs[i]? =some x->∃u,us[i]? =some u/\RelV x u
 |_,_,_,_,.nil,e=>by simp at e
 |_,_,0,_,.cons r _,e=>by simp at e;subst e;exact⟨_,rfl,r⟩
 |_,_,i+1,x,.cons _ t,e=>by
  obtain⟨u,h1,h2⟩:=Vals.get (i:=i) (x:=x) t (by simpa using e);exact⟨u,by simpa using h1,h2⟩
theorem Vals.set {x:V}{u:Value}(r:RelV x u):∀{xs:List V}{us:List Value}(i:Nat),Vals xs us->Vals (xs.set i x) (us.set i u)
 |_,_,_,.nil=>.nil
 |_,_,0,.cons _ t=>.cons r t
 |_,_,i+1,.cons q t=>.cons q (Vals.set r i t)
theorem Vals.append:∀{xs ys:List V}{us z:List Value},Vals xs us->Vals ys z->Vals (xs++ys) (us++z)
 |_,_,_,_,.nil,s=>s
 |_,_,_,_,.cons r t,s=>.cons r (Vals.append t s)
theorem Vals.take:∀{xs:List V}{us:List Value}(n:Nat),Vals xs us->Vals (xs.take n) (us.take n)
 |_,_,0,_=>.nil
 |_,_,_+1,.nil=>.nil
 |_,_,n+1,.cons r t=>.cons r (Vals.take n t)
theorem Vals.drop:∀{xs:List V}{us:List Value}(n:Nat),Vals xs us->Vals (xs.drop n) (us.drop n)
 |_,_,0,r=>r
 |_,_,_+1,.nil=>.nil
 |_,_,n+1,.cons _ t=>Vals.drop n t
theorem Vals.none_of:∀{xs:List V}{us:List Value}{i:Nat},Vals xs us->xs[i]? =none->us[i]? =none:=λ{xs us i} r e=>by
 have h1:=r.length;have h2:xs.length<=i:=List.getElem?_eq_none_iff.mp e;exact List.getElem?_eq_none_iff.mpr (by omega)
def ib:Option V->Option Value->Prop
 |some v,some u=>RelV v u
 |none,none=>True
 |_,_=>False
def KV {κ:Type}:List (κ × V)->List (κ × Value)->Prop:=Paired λ(p:κ × V) (q:κ × Value)=>p.1=q.1/\RelV p.2 q.2
noncomputable def kV:Key->V
 | .inl i=>.int i
 | .inr x=>.str x
inductive HO where
 |lst (xs:List V)
 |tup (xs:List V)
 |dK (kvs:List (Key × V))|dT (kvs:List (List Key × V))
 |set (S:Int->Bool) (n:Nat)
 |ins (C dx:Addr) (fs:List (Str × V))
 |own (x:Addr)
 |xd (fs:List (Str × V))
 |met (f x:Addr)
 |rng (lo hi:Int)
 |iz (o:Obj) (u:HO)
 |gq (ps:Array Value)
 |ext (φ:Heap->Prop)
noncomputable abbrev Hp:=Addr->Option HO
noncomputable def upd (H:Hp) (a:Addr) (o:HO):Hp:=λb=>if b=a then some o else H b
theorem eK {H:Hp}{a:Addr}{o:HO}:upd H a o a=some o:=by unfold upd;rw[if_pos rfl]
theorem d_ {H:Hp}{a b:Addr}{o:HO}(h:b≠a):upd H a o b=H b:=by unfold upd;rw[if_neg h]
theorem gz {H:Hp}{a b:Addr}{o u:HO}(h:H a=some o)(h':H b=some u)(d:o≠u):a≠b:=by
 intro e;subst e;rw[h] at h';exact d (Option.some.inj h')
theorem eM {H:Hp}{a b:Addr}{o:HO}(h:H a=some o)(h':H b=none):a≠b:=by
 intro e;subst e;rw[h] at h';cases h'
section
variable (P:Program)(w:World)
def gh (H:Hp) (h:Heap) (a:Addr):HO->Prop
 | .lst xs=>xs.length<=sizeLine/\∃(z:List Value) (n:Nat),Vals xs z/\h.get? a=some { cls:=.type "list",data:=.seq z.toArray n }
 | .tup xs=>xs.length<=sizeLine/\∃z:List Value,Vals xs z/\IsTup h a z.toArray
 | .dK kvs=>kvs.length<=sizeLine/\(a == sysModules)=false/\∃vs,KV kvs vs/\h.DictOf (iP P w) a vs
 | .dT kvs=>kvs.length<=sizeLine/\(a == sysModules)=false/\∃xs:List (List Key × Addr × Value),
    Paired (λ(p:List Key × V) (q:List Key × Addr × Value)=>p.1=q.1/\H q.2.1=some (.tup (p.1.map kV))/\RelV p.2 q.2.2) kvs xs/\
    ∃o es J,h.get? a=some o/\o.ExactDict/\o.data=.dict es J/\es.toList=xs.map (entryOfKey (tupleKind (iP P w)))/\(xs.map (·.1)).Nodup
 | .set S n=>h.SetOf (intKind P w) a S n
 | .ins C dx fs=>H dx=some (.own a)/\fs.length<=1000/\dx≠a/\h.get? a=some (W.instObj C dx)/\
    ∃mA,h.Ns1 dx mA/\(∀f,ib (fs.lookup f) (mA f))/\PySem.Within mA (fs.map (·.1))
 | .own _=>∃o,h.get? a=some o
 | .xd fs=>∃mA,h.Ns1 a mA/\∀f,ib (fs.lookup f) (mA f)
 | .rng lo hi=>∃t u v,h.get? a=some { cls:=.type "range",data:=.fields #[.int lo t,.int hi u,.int 1 v] }
 | .iz o u=>h.get? a=some o/\gh H h a u
 | .gq ps=>h.get? a=some { cls:=.none,data:=.fields ps }
 | .met f x=>h.get? a=some (W.methodObj (.ref f) (.ref x))
 | .ext I=>I h/\(∃o,h.get? a=some o)/\∀h1 h2:Heap,I h1->(∀o,h1.get? a=some o->h2.get? a=some o)->I h2
def f9 (H:Hp) (h:Heap):Prop:=∀a o,H a=some o->gh P w H h a o
end
section
variable {P:Program}{w:World}{H H':Hp}{h h':Heap}{a:Addr}{o:HO}
theorem gh.lt (x:gh P w H h a o):a<h.objs.size:=by
 cases o with
 |lst xs=>obtain⟨_,_,_,_,e⟩:=x;exact Q01 e
 |tup xs=>obtain⟨_,_,_,p⟩:=x;exact p.lt
 |dK kvs=>obtain⟨_,_,_,_,o,_,_,e,_⟩:=x;exact Q01 e
 |dT kvs=>obtain⟨_,_,_,_,o,_,_,e,_⟩:=x;exact Q01 e
 |set S n=>obtain⟨o,_,_,_,e,_⟩:=x;exact Q01 e
 |ins C dx fs=>obtain⟨_,_,_,e,_⟩:=x;exact Q01 e
 |own y=>obtain⟨_,e⟩:=x;exact Q01 e
 |xd fs=>obtain⟨_,⟨_,_,_,e,_⟩,_⟩:=x;exact Q01 e
 |rng lo hi=>obtain⟨_,_,_,e⟩:=x;exact Q01 e
 |iz z u=>obtain⟨e,_⟩:=x;exact Q01 e
 |gq ps=>exact Q01 (show h.get? a=some _ from x)
 |met f y=>exact Q01 (show h.get? a=some _ from x)
 |ext I=>obtain⟨_,⟨_,e⟩,_⟩:=x;exact Q01 e
theorem Paired.nJ {α J:Type}{F G:α->J->Prop}:∀{z:List α}{I:List J},Paired F z I->(∀a b,F a b->G a b)->Paired G z I
 |_,_,.nil,_=>.nil
 |_,_,.cons r t,f=>.cons (f _ _ r) (Paired.nJ t f)
theorem gh.stay (x:gh P w H h a o)(k:∀b u,(b=a\/H b=some (.own a))->h.get? b=some u->h'.get? b=some u)
 (Y:∀b,H b=some (.own a)->H' b=some (.own a)) (ht:∀b xs,H b=some (.tup xs)->H' b=some (.tup xs)):gh P w H' h' a o:=by
 induction o with
 |lst xs=>obtain⟨z,L,n,r,e⟩:=x;exact⟨z,L,n,r,k _ _ (.inl rfl) e⟩
 |tup xs=>obtain⟨z,L,r,I,e,c⟩:=x;exact⟨z,L,r,I,k _ _ (.inl rfl) e,c⟩
 |dK kvs=>obtain⟨z,y,vs,r,I,es,J,e,c⟩:=x;exact⟨z,y,vs,r,I,es,J,k _ _ (.inl rfl) e,c⟩
 |dT kvs=>
  obtain⟨z,y,xs,r,I,es,J,e,c⟩:=x;exact⟨z,y,xs,Paired.nJ r λp q z=>⟨z.1,ht _ _ z.2.1,z.2.2⟩,I,es,J,k _ _ (.inl rfl) e,c⟩
 |set S n=>obtain⟨I,es,J,t,e,c⟩:=x;exact⟨I,es,J,t,k _ _ (.inl rfl) e,c⟩
 |ins C dx fs=>
  obtain⟨d,z,ne,e,mA,⟨U,es,J,e2,c⟩,r⟩:=x;exact⟨Y _ d,z,ne,k _ _ (.inl rfl) e,mA,⟨U,es,J,k _ _ (.inr d) e2,c⟩,r⟩
 |own y=>obtain⟨I,e⟩:=x;exact⟨I,k _ _ (.inl rfl) e⟩
 |xd fs=>obtain⟨mA,⟨U,es,J,e,c⟩,r⟩:=x;exact⟨mA,⟨U,es,J,k _ _ (.inl rfl) e,c⟩,r⟩
 |rng lo hi=>obtain⟨t,u,v,e⟩:=x;exact⟨t,u,v,k _ _ (.inl rfl) e⟩
 |iz I u ih=>obtain⟨e,q⟩:=x;exact⟨k _ _ (.inl rfl) e,ih q⟩
 |gq ps=>
  have e:h.get? a=some { cls:=.none,data:=.fields ps }:=x;show h'.get? a=some { cls:=.none,data:=.fields ps };exact k a _ (.inl rfl) e
 |met f y=>
  have e:h.get? a=some (W.methodObj (.ref f) (.ref y)):=x;show h'.get? a=some (W.methodObj (.ref f) (.ref y));exact k a _ (.inl rfl) e
 |ext φ=>obtain⟨p,⟨o,e⟩,st⟩:=x;exact⟨st _ _ p λo q=>k _ _ (.inl rfl) q,⟨o,k _ _ (.inl rfl) e⟩,st⟩
theorem f9.lt (x:f9 P w H h)(e:H a=some o):a<h.objs.size:=(x a o e).lt
theorem f9.fresh (x:f9 P w H h)(e:h.objs.size<=a):H a=none:=by
 cases q:H a with
 |none=>rfl
 |some u=>exact absurd (Q06 (x.lt q) e) (Q0l _)
theorem f9.kept (x:f9 P w H h)(k:∀b u,h.get? b=some u->h'.get? b=some u):f9 P w H h':=λa o e=>
 (x a o e).stay (λb u _ q=>k b u q) (λ_ q=>q) λ_ _ q=>q
theorem f9.laid (x:f9 P w H h)(k:∀b u,h.get? b=some u->h'.get? b=some u)(hp:h.objs.size<=a)(new:gh P w (upd H a o) h' a o):f9 P w (upd H a o) h':=λb u e=>by
 have z:=x.fresh hp;by_cases I:b=a
 . subst I;rw[eK] at e;cases e;exact new
 . rw[d_ I] at e;exact(x b u e).stay (λc v _ q=>k c v q) (λc q=>by rw[d_ (eM q z)];exact q) λc xs q=>by rw[d_ (eM q z)];exact q
end
def Rd (H:Hp) (a:Addr) (u:HO):Prop:=H a=some u\/∃o,H a=some (.iz o u)
theorem Rd.ok {P:Program}{w:World}{H:Hp}{h:Heap}{a:Addr}{u:HO}(r:Rd H a u)(x:f9 P w H h):gh P w H h a u:=by
 rcases r with r|⟨o,r⟩
 . exact x a u r
 . obtain⟨_,q⟩:=x a _ r;exact q
def nK:Option HO->Prop
 |some (.lst _)=>True
 |some (.dK _)=>True
 |some (.dT _)=>True
 |some (.set _ _)=>True
 |some (.ins _ _ _)=>True
 |some (.ext _)=>True
 |_=>False
section
variable {P:Program}{w:World}{H:Hp}{h h':Heap}{x e:Addr}{o':HO}
theorem f9.write (ok:f9 P w H h)(mu:nK (H x))(he:e=x\/H e=some (.own x))(k:∀b u,b≠e->h.get? b=some u->h'.get? b=some u)(Y:∃u,h'.get? e=some u)
 (new:gh P w (upd H x o') h' x o'):f9 P w (upd H x o') h':=λb u q=>by
 have J:∀c y,H c=some (.own y)->c≠x:=λc y r z=>by subst z;rw[r] at mu;exact mu
 have L:∀c xs,H c=some (.tup xs)->c≠x:=λc xs r z=>by subst z;rw[r] at mu;exact mu
 by_cases U:b=x
 . subst U;rw[eK] at q;cases q;exact new
 . rw[d_ U] at q;by_cases I:b=e
   . have q':H b=some (.own x):=by
      rcases he with z|z
      . exact absurd (I.trans z) U
      . rw[I];exact z
     rw[q] at q';cases q';obtain⟨v,hv⟩:=Y;exact⟨v,by rw[I];exact hv⟩
   . refine(ok b u q).stay (λc v hc r=>k c v ?_ r) (λc r=>by rw[d_ (J c b r)];exact r) λc xs r=>by rw[d_ (L c xs r)];exact r
     rcases hc with rfl|hc
     . exact I
     . rintro rfl;rcases he with z|z
       . exact J c b hc z
       . rw[hc] at z;cases z;exact U rfl
end
structure Un (fs ex:List Addr) (H H':Hp) (h h':Heap):Prop where
 keep:∀b o,h.get? b=some o->H b=none->b ∉ fs->b ∉ ex->h'.get? b=some o
 slot:∀b o,h.get? b=some o->H b=none->b∈fs->b ∉ ex->∃sl,h'.get? b=some { o with slots:=sl }
 free:∀b o,h.get? b=some o->H b=none->b ∉ ex->H' b=none
 there:∀b o,h.get? b=some o->b ∉ ex->∃o',h'.get? b=some o'
 tups:∀b xs,H b=some (.tup xs)->H' b=some (.tup xs)
 iQ:∀b o u,H b=some (.iz o u)->H' b=some (.iz o u)
 iR:∀b ps,H b=some (.gq ps)->∃more,H' b=some (.gq (ps++more))
section
variable {fs fs' ex ex':List Addr}{H H1 H2:Hp}{h h1 h2 h':Heap}{a x e:Addr}{o:HO}
theorem Un.any (u:Un fs ex H H1 h h1){b:Addr}{z:Obj}(q:h.get? b=some z)(n:H b=none)(I:b ∉ ex):∃L,h1.get? b=some { z with slots:=L }:=by
 by_cases J:b∈fs
 . exact u.slot b z q n J I
 . exact⟨z.slots,u.keep b z q n J I⟩
theorem Un.kept (k:∀b u,h.get? b=some u->h'.get? b=some u):Un fs ex H H h h':=
 ⟨λb z q _ _ _=>k b z q,λb z q _ _ _=>⟨z.slots,k b z q⟩,λ_ _ _ n _=>n,λb z q _=>⟨z,k b z q⟩,λ_ _ q=>q,λ_ _ _ q=>q,λ_ ps q=>⟨#[],by rw[q];simp⟩⟩
theorem Un.refl:Un fs ex H H h h:=Un.kept λ_ _ q=>q
theorem Un.laid (k:∀b u,h.get? b=some u->h'.get? b=some u)(hp:h.objs.size<=a)(z:H a=none):Un fs ex H (upd H a o) h h' where
 keep:=λb u q _ _ _=>k b u q
 slot:=λb u q _ _ _=>⟨u.slots,k b u q⟩
 free:=λb u q n _=>by rw[d_ (Q07 (Q06 (Q01 q) hp))];exact n
 there:=λb u q _=>⟨u,k b u q⟩
 tups:=λb xs q=>by rw[d_ (eM q z)];exact q
 iQ:=λb u xs q=>by rw[d_ (eM q z)];exact q
 iR:=λb ps q=>⟨#[],by rw[d_ (eM q z),q];simp⟩
theorem Un.write (mu:nK (H x))(he:e=x\/H e=some (.own x))(k:∀b u,b≠e->h.get? b=some u->h'.get? b=some u)(L:∃u,h'.get? e=some u):Un fs ex H (upd H x o) h h':=by
 have U:∀b,H b=none->b≠x:=λb n z=>by subst z;rw[n] at mu;exact mu
 have Y:∀b,H b=none->b≠e:=λb n z=>by
  subst z;rcases he with r|r
  . exact U b n r
  . rw[n] at r;cases r
 have J:∀b u,H b=some u->¬nK (some u)->b≠x:=λb u q nm z=>by subst z;rw[q] at mu;exact nm mu
 refine⟨λb u q n _ _=>k b u (Y b n) q,λb u q n _ _=>⟨u.slots,k b u (Y b n) q⟩,λb u q n _=>by rw[d_ (U b n)];exact n,λb u q _=>?_,
  λb xs q=>by rw[d_ (J b _ q λz=>z)];exact q,λb u xs q=>by rw[d_ (J b _ q λz=>z)];exact q,λb ps q=>⟨#[],by rw[d_ (J b _ q λz=>z),q];simp⟩⟩
 by_cases I:b=e
 . subst I;exact L
 . exact⟨u,k b u I q⟩
end
noncomputable def o_ (h:Heap) (H:Hp):List Addr:=(List.range h.objs.size).filter λa=>(H a).isSome
noncomputable def jL (h:Heap) (H:Hp):Heap:=W.hideAll h (o_ h H)
theorem CL (h:Heap)(H:Hp):(jL h H).objs.size=h.objs.size:=W.hideAll_size _ _
theorem CM {h:Heap}{H:Hp}{b:Addr}{o:Obj}(e:h.get? b=some o)(n:H b=none):(jL h H).get? b=some o:=
 W.hideAll_get _ e λz=>by
   have q:(H b).isSome=true:=(List.mem_filter.mp z).2;rw[n] at q;simp at q
theorem CN {h:Heap}{H:Hp}{b:Addr}{o:Obj}(e:(jL h H).get? b=some o):h.get? b=some o/\H b=none:=by
 have I:h.get? b=some o:=W.of_hideAll (o_ h H) e;refine⟨I,?_⟩
 cases q:H b with
 |none=>rfl
 |some x=>
  have J:b∈o_ h H:=List.mem_filter.mpr ⟨List.mem_range.mpr (Q01 I),by simp[q]⟩;have z:(jL h H).get? b=none:=W.hideAll_none (o_ h H) J;rw[z] at e;cases e
noncomputable def CO (g h:Heap) (L:Addr):List (Addr × Obj):=(List.range h.objs.size).filterMap λa=>if a=L\/(g.get? a).isSome=true then none else(h.get? a).map λo=>(a,o)
noncomputable def rest (g h:Heap) (L d:Addr):List (Addr × Obj):=(CO g h L).filter λp=>decide (p.1≠d)
structure Mod (K:W.Frag) (mg:Str->Option Value) (base:Heap):Prop where
 lz:K.In base
 glob:base.Ns mainGlobals mg
 blt:∃mb,base.Ns builtinsNs mb/\∀x:Str,x≠"__name__"->mb x=bootBuiltins x
 nolimit:base.NoLimit
structure Cx where
 prog:Program
 w:World
 K:W.Frag
 mg:Str->Option Value
 base:Heap
 A:Around
 N:List Str
 s₀:Shared
 H₀:Hp
 env:Env
 outer:List Env
 stack:List Env
 ex:List Addr
 fn:Str->Bool
 calm:Bool
 pn:List (Addr × Obj)
 xe:Value->Shared->Prop
noncomputable def frs (l:List Env):List Addr:=l.filterMap (·.frame)
noncomputable abbrev Cx.fs (X:Cx):List Addr:=frs X.outer
def rj (sc:Scope) (x:Str):Prop:=sc.names.lookup x=some .local\/sc.names.lookup x=some .cell\/sc.names.lookup x=some .free
def Loc (sc:Scope) (x:Str):Prop:=sc.names.lookup x=some .local\/sc.names.lookup x=some .cell
def Look (env:Env) (h:Heap) (m:Str->Option Value) (x:Str) (u:Value):Prop:=
 (env.kindOf x=some .local/\m x=some u)\/((env.kindOf x=some .cell\/env.kindOf x=some .free)/\∃c,env.cells.lookup x=some c/\h.IsCell c (some u))
structure Cx.Ok (X:Cx):Prop where
 mod:Mod X.K X.mg X.base
 kind:X.env.scope.kind=.function
 glob:X.env.globals=mainGlobals
 blt:X.env.builtins=builtinsNs
 above:X.s₀.heap.objs.size<=X.env.locals
 inj:∀x y c,X.env.cells.lookup x=some c->X.env.cells.lookup y=some c->x=y
 has:∀x,(X.env.kindOf x=some .cell\/X.env.kindOf x=some .free)->∃c,X.env.cells.lookup x=some c
 cab:∀x c,X.fn x=true->X.env.cells.lookup x=some c->X.s₀.heap.objs.size<=c
 hd:X.calm=true->X.A.handled=none
 frames:X.A.frames=some X.stack
 stk:X.stack=X.outer\/(X.stack=X.env::X.outer/\X.env.frame=some X.env.locals)
 rm:∀b∈X.ex,b≠X.env.locals/\∀x c,X.env.cells.lookup x=some c->c≠b
 bs:∀b o,X.base.get? b=some o->X.s₀.heap.get? b=some o/\X.H₀ b=none
 jx:X.base.objs.size<=X.s₀.heap.objs.size
 mz:∀b o,X.base.get? b=some o->b ∉ X.ex
 nL:∀b∈X.ex,b ∉ X.fs
 i6:X.s₀.heap.FunFrames X.base X.outer
 kF:∀b∈X.fs,X.H₀ b=none
structure Inv (X:Cx) (pins:List (Addr × Obj)) (σ:List (Option V)) (H:Hp) (s:Shared):Prop where
 ok:X.Ok
 os:s.os=X.s₀.os
 bare:AllBare s.gens
 base:Un X.fs X.ex X.H₀ H X.s₀.heap s.heap
 loc:∃m,s.heap.Ns X.env.locals m/\∀(i:Nat) (x:Str) (v:V),X.N[i]? =some x->σ[i]? =some (some v)->rj X.env.scope x->∃u,RelV v u/\Look X.env s.heap m x u
 cell:∀x c,X.env.cells.lookup x=some c->∃v,s.heap.IsCell c v
 free:H X.env.locals=none
 iA:∀x c,X.env.cells.lookup x=some c->H c=none
 pin:∀p∈X.pn++pins,s.heap.get? p.1=some p.2/\H p.1=none/\p.1≠X.env.locals/\p.1 ∉ X.fs/\∀v,p.2.data≠ .cell v
 hok:f9 X.prog X.w H s.heap
 len:σ.length=X.N.length
section
variable {X:Cx}{pins:List (Addr × Obj)}{σ:List (Option V)}{H H':Hp}{s:Shared}{h':Heap}
theorem Cx.Ok.CP (ok:X.Ok){b:Addr}{o:Obj}(e:X.base.get? b=some o):b ∉ X.fs:=λz=>by
 have:=(ok.i6.mem z).1;rw[e] at this;cases this
theorem Inv.bs (I:Inv X pins σ H s):∀b o,X.base.get? b=some o->s.heap.get? b=some o/\H b=none:=λb o e=>
 ⟨I.base.keep b o (I.ok.bs b o e).1 (I.ok.bs b o e).2 (I.ok.CP e) (I.ok.mz b o e),I.base.free b o (I.ok.bs b o e).1 (I.ok.bs b o e).2 (I.ok.mz b o e)⟩
theorem Inv.bk (I:Inv X pins σ H s):∀b o,X.base.get? b=some o->s.heap.get? b=some o:=λb o e=>(I.bs b o e).1
theorem Inv.mod (I:Inv X pins σ H s):Mod X.K X.mg X.base:=I.ok.mod
theorem Inv.gi (I:Inv X pins σ H s):X.K.In s.heap:=I.ok.mod.lz.keeps I.bk
theorem Inv.nolimit (I:Inv X pins σ H s):s.heap.NoLimit:=I.ok.mod.nolimit.keeps I.bk
theorem Inv.lt (I:Inv X pins σ H s):X.env.locals<s.heap.objs.size:=let⟨_,z,_⟩:=I.loc;z.lt
theorem Inv.sz (I:Inv X pins σ H s):X.s₀.heap.objs.size<=s.heap.objs.size:=Q0f I.ok.above (Q0o I.lt)
theorem Inv.mB (I:Inv X pins σ H s){a:Addr}(h:s.heap.objs.size<=a):a ∉ X.fs:=λz=>by
 obtain⟨_,o,J,_⟩:=I.ok.i6.mem z;exact absurd (Q06 (Q01 J) (Q0f I.sz h)) (Q0l _)
theorem Inv.jy (I:Inv X pins σ H s):∀x c,X.env.cells.lookup x=some c->c≠X.env.locals:=λx c e z=>by
 obtain⟨v,o,U,Y⟩:=I.cell x c e;obtain⟨m,⟨o',es,ep,J,L,_⟩,_⟩:=I.loc;rw[z,J] at U;cases U;rw[L] at Y;cases Y
theorem Inv.i6 (I:Inv X pins σ H s):s.heap.FunFrames X.base X.outer:=by
 have all:∀(l:List Env),(∀b∈frs l,b∈X.fs)->X.s₀.heap.FunFrames X.base l->s.heap.FunFrames X.base l:=by
  intro l
  induction l with
  |nil=>intro _ _;trivial
  |cons env r ih=>
   intro hs hl;obtain⟨hk,⟨L,o,J,hn,ho,hd⟩,hr⟩:=hl;have U:L∈X.fs:=hs L (by unfold frs;rw[Q2,J];exact Q0b);obtain⟨sl,e⟩:=I.base.slot L o ho (I.ok.kF L U) U λz=>I.ok.nL L z U;exact⟨hk,⟨L,_,J,hn,e,hd⟩,ih (λb Y=>hs b (by unfold frs;rw[Q2,J];exact Q0e _ Y)) hr⟩
 exact all X.outer (λ_ Y=>Y) I.ok.i6
theorem Inv.stack (I:Inv X pins σ H s):s.heap.FunFrames X.base X.stack:=by
 rcases I.ok.stk with e|⟨e,z⟩
 . rw[e];exact I.i6
 . rw[e];obtain⟨m,J,_⟩:=I.loc;refine .cons (by rw[I.ok.kind];decide) z J ?_ I.i6;exact Q20 (Q0f I.ok.jx I.ok.above)
theorem Inv.mC (I:Inv X pins σ H s):∀b∈frs X.stack,b∈X.env.locals::X.fs:=λb z=>by
 rcases I.ok.stk with e|⟨e,J⟩
 . rw[e] at z;exact Q0e _ z
 . rw[e] at z;unfold frs at z;rw[Q2,J] at z;exact z
theorem Inv.nM (I:Inv X pins σ H s):∀b∈frs X.stack,H b=none:=λb J=>by
 rcases List.mem_cons.mp (I.mC b J) with e|J
 . rw[e];exact I.free
 . obtain⟨_,o,L,_⟩:=I.ok.i6.mem J;exact I.base.free b o L (I.ok.kF b J) λz=>I.ok.nL b z J
theorem Inv.step {g':Array GenState}{t':Nat}{d':Drawn}{ch:List Addr}(I:Inv X pins σ H s)
 (L:∀b∈ch,(b∈X.ex\/X.s₀.heap.objs.size<=b)/\b≠X.env.locals/\(∀x c,X.env.cells.lookup x=some c->c≠b)/\∀p∈X.pn++pins,p.1≠b)
 (keep:∀b o,b≠X.env.locals->b ∉ X.fs->b ∉ ch->s.heap.get? b=some o->H b=none->h'.get? b=some o)
 (slot:∀b o,b≠X.env.locals->b∈X.fs->b ∉ ch->s.heap.get? b=some o->H b=none->∃sl,h'.get? b=some { o with slots:=sl }) (free:∀b o,b ∉ ch->s.heap.get? b=some o->H b=none->H' b=none)
 (there:∀b o,b ∉ ch->s.heap.get? b=some o->∃o',h'.get? b=some o')
 (tups:∀b xs,H b=some (.tup xs)->H' b=some (.tup xs)) (iQ:∀b o u,H b=some (.iz o u)->H' b=some (.iz o u)) (iR:∀b ps,H b=some (.gq ps)->∃ac,H' b=some (.gq (ps++ac)))
 (ns:∀m,s.heap.Ns X.env.locals m->h'.Ns X.env.locals m) (ae:f9 X.prog X.w H' h') (hg:AllBare g'):
 Inv X pins σ H' { s with heap:=h',gens:=g',drawn:=d',toks:=t' }:=by
 have ab:∀b o,X.s₀.heap.get? b=some o->b≠X.env.locals:=λb o e=>Q07 (Q06 (Q01 e) I.ok.above)
 have aa:∀b o,X.s₀.heap.get? b=some o->b ∉ X.ex->b ∉ ch:=λb o e J hb=>by
  rcases(L b hb).1 with z|z
  . exact J z
  . exact absurd (Q06 (Q01 e) z) (Q0l _)
 have Y:∀x c,X.env.cells.lookup x=some c->∀v,s.heap.IsCell c v->h'.IsCell c v:=λx c e v ⟨o,ho,hd⟩=>by
  have U:c ∉ ch:=λz=>(L c z).2.2.1 x c e rfl;by_cases hc:c∈X.fs
  . obtain⟨sl,q⟩:=slot c o (I.jy x c e) hc U ho (I.iA x c e);exact⟨_,q,hd⟩
  . exact⟨o,keep c o (I.jy x c e) hc U ho (I.iA x c e),hd⟩
 refine⟨I.ok,I.os,hg,⟨λb o e n hb J=>?_,λb o e n hb J=>?_,λb o e n J=>?_,λb o e J=>?_,λb xs e=>tups b xs (I.base.tups b xs e),λb o xs e=>iQ b o xs (I.base.iQ b o xs e),λb ps e=>?_⟩,?_,λx c e=>?_,?_,λx c e=>?_,λp hp=>?_,ae,I.len⟩
 . exact keep b o (ab b o e) hb (aa b o e J) (I.base.keep b o e n hb J) (I.base.free b o e n J)
 . obtain⟨sl,e1⟩:=I.base.slot b o e n hb J;obtain⟨af,e2⟩:=slot b _ (ab b o e) hb (aa b o e J) e1 (I.base.free b o e n J);exact⟨af,e2⟩
 . obtain⟨o',e1⟩:=I.base.there b o e J;exact free b o' (aa b o e J) e1 (I.base.free b o e n J)
 . obtain⟨o',e1⟩:=I.base.there b o e J;exact there b o' (aa b o e J) e1
 . obtain⟨m1,e1⟩:=I.base.iR b ps e;obtain⟨m2,e2⟩:=iR b _ e1;exact⟨m1++m2,by rw[e2,Array.append_assoc]⟩
 . obtain⟨m,hn,hl⟩:=I.loc;refine⟨m,ns m hn,λi x v e1 e2 e3=>?_⟩;obtain⟨u,r,l⟩:=hl i x v e1 e2 e3;refine⟨u,r,?_⟩;rcases l with l|⟨k,c,e,z⟩
   . exact .inl l
   . exact .inr ⟨k,c,e,Y x c e _ z⟩
 . obtain⟨v,z⟩:=I.cell x c e;exact⟨v,Y x c e v z⟩
 . obtain⟨m,⟨o,_,_,ho,_⟩,_⟩:=I.loc;exact free _ o (λz=>(L _ z).2.1 rfl) ho I.free
 . obtain⟨v,o,ho,hd⟩:=I.cell x c e;exact free c o (λz=>(L c z).2.2.1 x c e rfl) ho (I.iA x c e)
 . obtain⟨e,n,ne,nf,d⟩:=I.pin p hp;have U:p.1 ∉ ch:=λz=>(L p.1 z).2.2.2 p hp rfl;exact⟨keep p.1 p.2 ne nf U e n,free p.1 p.2 U e n,ne,nf,d⟩
theorem Inv.un {t':Nat}(I:Inv X pins σ H s)(u:Un X.fs [] H H' s.heap h')(U:f9 X.prog X.w H' h'):Inv X pins σ H' { s with heap:=h',toks:=t' }:=by
 obtain⟨m,⟨o,es,ep,ho,r⟩,_⟩:=id I.loc;obtain⟨sl,hL⟩:=u.any ho I.free (by simp)
 exact I.step (g':=s.gens) (d':=s.drawn) (ch:=[]) (λ_ z=>nomatch z) (λb o _ L _ e n=>u.keep b o e n L (by simp)) (λb o _ L _ e n=>u.slot b o e n L (by simp)) (λb o _ e n=>u.free b o e n (by simp)) (λb o _ e=>u.there b o e (by simp)) u.tups u.iQ u.iR (λm' hm=>by
  obtain⟨o',Y,aa,J,r'⟩:=hm;rw[ho] at J;cases J;exact⟨_,Y,aa,hL,r'⟩) U I.bare
theorem Inv.call {g':Array GenState}{t':Nat}{d':Drawn}{ch:List Addr}(I:Inv X pins σ H s)(u:Un (frs X.stack) ch H H' s.heap h')(Y:f9 X.prog X.w H' h')(hg:AllBare g')
 (J:∀b∈ch,(b∈X.ex\/X.s₀.heap.objs.size<=b)/\b≠X.env.locals/\(∀x c,X.env.cells.lookup x=some c->c≠b)/\∀p∈X.pn++pins,p.1≠b):
 Inv X pins σ H' { s with heap:=h',gens:=g',drawn:=d',toks:=t' }:=by
 obtain⟨m,⟨o,es,ep,ho,r⟩,_⟩:=id I.loc;obtain⟨sl,U⟩:=u.any ho I.free λz=>(J _ z).2.1 rfl
 exact I.step (ch:=ch) J (λb o U hb hc e n=>u.keep b o e n (λz=>(List.mem_cons.mp (I.mC b z)).elim U hb) hc) (λb o _ _ hc e n=>u.any e n hc) (λb o hc e n=>u.free b o e n hc) (λb o hc e=>u.there b o e hc) u.tups u.iQ u.iR (λm' hm=>by
  obtain⟨o',aa,ab,L,r'⟩:=hm;rw[ho] at L;cases L;exact⟨_,aa,ab,U,r'⟩) Y hg
theorem Inv.turned {t':Nat}{it:Addr}(I:Inv X pins σ H s)(k:∀b o,b≠it->s.heap.get? b=some o->h'.get? b=some o)(U:H it=none)(L:it≠X.env.locals)
 (h1:it∈X.ex\/X.s₀.heap.objs.size<=it) (h2:∀x c,X.env.cells.lookup x=some c->c≠it) (Y:∀p∈X.pn++pins,p.1≠it):Inv X pins σ H { s with heap:=h',toks:=t' }:=by
 have J:∀b u,H b=some u->b≠it:=λb u e z=>by rw[z,U] at e;cases e
 refine I.step (g':=s.gens) (d':=s.drawn) (ch:=[it]) (λb hb=>?_) (λb o _ _ hc e _=>k b o (λz=>hc (by simp[z])) e) (λb o _ _ hc e _=>⟨o.slots,k b o (λz=>hc (by simp[z])) e⟩) (λ_ _ _ _ n=>n)
  (λb o hc e=>⟨o,k b o (λz=>hc (by simp[z])) e⟩) (λ_ _ e=>e) (λ_ _ _ e=>e) (λb ps e=>⟨#[],by rw[e];simp⟩) (λm hm=>?_) (λb u e=>?_) I.bare
 . have e:b=it:=by simpa using hb
   subst e;exact⟨h1,L,h2,Y⟩
 . obtain⟨o,es,ep,ho,r⟩:=hm;exact⟨o,es,ep,k _ o (Ne.symm L) ho,r⟩
 . refine(I.hok b u e).stay (λc v hc q=>k c v ?_ q) (λ_ q=>q) λ_ _ q=>q;rcases hc with z|z
   . rw[z];exact J b u e
   . exact J c _ z
theorem Inv.tok (I:Inv X pins σ H s)(t:Nat):Inv X pins σ H { s with toks:=t }:=I.un (h':=s.heap) (t':=t) Un.refl I.hok
theorem Inv.kept {t':Nat}(I:Inv X pins σ H s)(k:∀b u,s.heap.get? b=some u->h'.get? b=some u):Inv X pins σ H { s with heap:=h',toks:=t' }:=I.un (Un.kept k) (I.hok.kept k)
theorem Inv.laid {a:Addr}{o:HO}{t':Nat}(I:Inv X pins σ H s)(k:∀b u,s.heap.get? b=some u->h'.get? b=some u)(hp:s.heap.objs.size<=a)(new:gh X.prog X.w (upd H a o) h' a o):
 Inv X pins σ (upd H a o) { s with heap:=h',toks:=t' }:=I.un (Un.laid k hp (I.hok.fresh hp)) (I.hok.laid k hp new)
theorem Inv.write {x e:Addr}{o:HO}{t':Nat}(I:Inv X pins σ H s)(mu:nK (H x))(J:e=x\/H e=some (.own x))(k:∀b u,b≠e->s.heap.get? b=some u->h'.get? b=some u)(z:∃u,h'.get? e=some u)
 (new:gh X.prog X.w (upd H x o) h' x o):Inv X pins σ (upd H x o) { s with heap:=h',toks:=t' }:=I.un (Un.write mu J k z) (I.hok.write mu J k z new)
theorem Inv.weak {z:List (Option V)}(I:Inv X pins σ H s)(hl:z.length=σ.length)(w:∀(i:Nat) v,z[i]? =some (some v)->σ[i]? =some (some v)):Inv X pins z H s:=
 ⟨I.ok,I.os,I.bare,I.base,let⟨m,L,J⟩:=I.loc;⟨m,L,λi x v U Y e3=>J i x v U (w i v Y) e3⟩,I.cell,I.free,I.iA,I.pin,I.hok,hl.trans I.len⟩
theorem Inv.lA {J:List (Addr × Obj)}(I:Inv X pins σ H s)(h:∀p∈J,s.heap.get? p.1=some p.2/\H p.1=none/\p.1≠X.env.locals/\p.1 ∉ X.fs/\∀v,p.2.data≠ .cell v):Inv X J σ H s:=
 ⟨I.ok,I.os,I.bare,I.base,I.loc,I.cell,I.free,I.iA,λp hp=>(List.mem_append.mp hp).elim (λz=>I.pin p (Q0r _ z)) (h p),I.hok,I.len⟩
theorem rn {N:List Str}(z:N.Nodup){i j:Nat}{x:Str}(a:N[i]? =some x)(b:N[j]? =some x):i=j:=by
 obtain⟨h1,I⟩:=List.getElem?_eq_some_iff.mp a;obtain⟨h2,J⟩:=List.getElem?_eq_some_iff.mp b;exact(Q21 z).mp (I.trans J.symm)
theorem CQ {M:Model}{A:Around}{E:Value->Shared->Prop}{i:Nat}{x:Str}{v:V}{u:Value}{Q:Unit->Shared->Prop}(I:Inv X pins σ H s)(hN:X.N.Nodup)(hi:X.N[i]? =some x)(Y:Loc X.env.scope x)(r:RelV v u)
 (h:∀s',Inv X pins (σ.set i (some v)) H s'->(∃a,Heap.SameBut a s.heap s'.heap/\(a=X.env.locals\/X.env.cells.lookup x=some a))->Q () s') (hf:X.fn x=true\/X.env.scope.names.lookup x=some .local:=by first|exact .inl rfl|exact .inr rfl|assumption):wpAny M A (storeName X.env x u) Q E s:=by
 obtain⟨m,hn,hl⟩:=id I.loc;have ah:(X.env.scope.kind == .class || (X.env.scope.kind == .module && X.env.locals != X.env.globals))=false:=by rw[I.ok.kind];rfl
 have ab:i<σ.length:=by rw[I.len];exact(List.getElem?_eq_some_iff.mp hi).1
 have jy:=I.jy
 have U:∀{a:Addr} {h':Heap},(∃o,s.heap.get? a=some o/\H a=none)->Heap.SameBut a s.heap h'->f9 X.prog X.w H h':=λ{a h'} ha J b ob e=>by
  obtain⟨_,_,aa⟩:=ha;refine(I.hok b ob e).stay (λc w' hc q=>(J.2 c ?_).trans q) (λ_ q=>q) λ_ _ q=>q;rintro rfl;rcases hc with rfl|hc
  . rw[aa] at e;cases e
  . rw[aa] at hc;cases hc
 rcases Y with hk|hk
 . refine wpAny_storeName_local hk hn (λh' aj J=>?_) ah;obtain⟨oL,_,_,ak,_⟩:=id hn;refine h _ ⟨I.ok,I.os,I.bare,⟨λb o e n hb Y=>?_,λb o e n hb Y=>?_,I.base.free,λb o e Y=>?_,I.base.tups,I.base.iQ,I.base.iR⟩,⟨_,aj,λj y v' L e2 e3=>?_⟩,λy c e=>?_,I.free,I.iA,λp hp=>?_,U ⟨oL,ak,I.free⟩ J,by simpa using I.len⟩ ⟨_,J,.inl rfl⟩
   . exact(J.2 b (Q07 (Q06 (Q01 e) I.ok.above))).trans (I.base.keep b o e n hb Y)
   . obtain⟨sl,L⟩:=I.base.slot b o e n hb Y;exact⟨sl,(J.2 b (Q07 (Q06 (Q01 e) I.ok.above))).trans L⟩
   . obtain⟨o',L⟩:=I.base.there b o e Y;exact⟨o',(J.2 b (Q07 (Q06 (Q01 e) I.ok.above))).trans L⟩
   . by_cases hj:j=i
     . subst hj;rw[hi] at L;cases L;rw[Q22 ab] at e2
       cases e2;exact⟨u,r,.inl ⟨hk,by simp⟩⟩
     . rw[Q23 (Ne.symm hj)] at e2;obtain⟨u',r',q⟩:=hl j y v' L e2 e3;refine⟨u',r',?_⟩;rcases q with⟨k,e⟩|⟨k,c,e,z⟩
       . refine .inl ⟨k,?_⟩;have:y≠x:=λe=>hj (rn hN L (e ▸ hi));simp[this,e]
       . exact .inr ⟨k,c,e,z.sameBut J (jy y c e)⟩
   . obtain⟨w',z⟩:=I.cell y c e;exact⟨w',z.sameBut J (jy y c e)⟩
   . obtain⟨e,n,ne,nf,d⟩:=I.pin p hp;exact⟨(J.2 p.1 ne).trans e,n,ne,nf,d⟩
 . have ac:X.fn x=true:=by
    rcases hf with z|z
    . exact z
    . rw[z] at hk;cases hk
   obtain⟨c,hc⟩:=I.ok.has x (.inl hk);obtain⟨w',z⟩:=I.cell x c hc;refine wpAny_storeName_cell I.ok.kind hk hc z (λh' ae J=>?_);obtain⟨oc,af,ai⟩:=id z;refine h { s with heap:=h' } ⟨I.ok,I.os,I.bare,⟨λb o e n hb Y=>?_,λb o e n hb Y=>?_,I.base.free,λb o e Y=>?_,I.base.tups,I.base.iQ,I.base.iR⟩,⟨m,hn.sameBut J (Ne.symm (jy x c hc)),λj y v' L e2 e3=>?_⟩,λy c' e=>?_,I.free,I.iA,λp hp=>?_,U ⟨oc,af,I.iA x c hc⟩ J,by simpa using I.len⟩ ⟨c,J,.inr hc⟩
   . exact(J.2 b (Q07 (Q06 (Q01 e) (I.ok.cab x c ac hc)))).trans (I.base.keep b o e n hb Y)
   . obtain⟨sl,L⟩:=I.base.slot b o e n hb Y;exact⟨sl,(J.2 b (Q07 (Q06 (Q01 e) (I.ok.cab x c ac hc)))).trans L⟩
   . obtain⟨o',L⟩:=I.base.there b o e Y;exact⟨o',(J.2 b (Q07 (Q06 (Q01 e) (I.ok.cab x c ac hc)))).trans L⟩
   . by_cases hj:j=i
     . subst hj;rw[hi] at L;cases L;rw[Q22 ab] at e2
       cases e2;exact⟨u,r,.inr ⟨.inl hk,c,hc,ae⟩⟩
     . rw[Q23 (Ne.symm hj)] at e2;obtain⟨u',r',q⟩:=hl j y v' L e2 e3;refine⟨u',r',?_⟩;rcases q with q|⟨k,c',e,z'⟩
       . exact .inl q
       . refine .inr ⟨k,c',e,z'.sameBut J ?_⟩;rintro rfl;exact hj (rn hN L (I.ok.inj _ _ _ e hc ▸ hi))
   . by_cases ag:c'=c
     . subst ag;exact⟨_,ae⟩
     . obtain⟨w2,z2⟩:=I.cell y c' e;exact⟨w2,z2.sameBut J ag⟩
   . obtain⟨e,n,ne,nf,d⟩:=I.pin p hp;refine⟨(J.2 p.1 ?_).trans e,n,ne,nf,d⟩;intro q;rw[q,af] at e;have q':oc=p.2:=Option.some.inj e;exact d w' (by rw[<-q'];exact ai)
theorem nN {M:Model}{A:Around}{E:Value->Shared->Prop}{i:Nat}{x:Str}{v:V}{u:Value}{Q:Unit->Shared->Prop}(I:Inv X pins σ H s)(z:X.N.Nodup)(hi:X.N[i]? =some x)(J:Loc X.env.scope x)(r:RelV v u)
 (h:∀s',Inv X pins (σ.set i (some v)) H s'->Q () s') (L:X.fn x=true\/X.env.scope.names.lookup x=some .local:=by first|exact .inl rfl|exact .inr rfl|assumption):wpAny M A (storeName X.env x u) Q E s:=
 CQ I z hi J r (λs' U _=>h s' U) L
theorem Inv.call' {s':Shared}{ch:List Addr}(I:Inv X pins σ H s)(L:s'.os=s.os)(u:Un (frs X.stack) ch H H' s.heap s'.heap)(z:f9 X.prog X.w H' s'.heap)(U:AllBare s'.gens)
 (J:∀b∈ch,(b∈X.ex\/X.s₀.heap.objs.size<=b)/\b≠X.env.locals/\(∀x c,X.env.cells.lookup x=some c->c≠b)/\∀p∈X.pn++pins,p.1≠b):Inv X pins σ H' s':=by
 obtain⟨h',g',d',t',o'⟩:=s';have e:o'=s.os:=L;subst e;exact I.call (g':=g') (t':=t') (d':=d') u z U J
end
noncomputable abbrev XK:=Value->Option Addr->Hp->Prop
noncomputable abbrev St:=List (Option V)
noncomputable abbrev VK:=V->Hp->Prop
noncomputable abbrev TE:=St->Hp->VK->Prop
noncomputable abbrev TT:=St->Hp->(Bool->Hp->Prop)->Prop
noncomputable abbrev TA:=St->Hp->(List V->Hp->Prop)->Prop
structure Ends where
 nx:St->Hp->Prop
 rt:VK
 bk:St->Hp->Prop:=λ_ _=>False
 ct:St->Hp->Prop:=λ_ _=>False
noncomputable abbrev TS:=Ends->St->Hp->Prop
def EP (X:Cx) (pins:List (Addr × Obj)) (σ:St) (Q:VK) (u:Value) (s':Shared):Prop:=∃v H',Inv X pins σ H' s'/\RelV v u/\Q v H'
def TP (X:Cx) (pins:List (Addr × Obj)) (σ:St) (Q:Bool->Hp->Prop) (b:Bool) (s':Shared):Prop:=∃H',Inv X pins σ H' s'/\Q b H'
def AP (X:Cx) (pins:List (Addr × Obj)) (σ:St) (Q:List V->Hp->Prop) (us:List Value) (s':Shared):Prop:=∃vs H',Inv X pins σ H' s'/\Vals vs us/\Q vs H'
def SP (X:Cx) (pins:List (Addr × Obj)) (D:Ends) (f:Flow) (s':Shared):Prop:=
 match f with
 | .next=>∃z H',Inv X pins z H' s'/\D.nx z H'
 | .brk=>∃z H',Inv X pins z H' s'/\D.bk z H'
 | .cont=>∃z H',Inv X pins z H' s'/\D.ct z H'
 | .ret u=>∃v z H',Inv X pins z H' s'/\RelV v u/\D.rt v H'
def PE (X:Cx) (e:Expr) (t:TE):Prop:=
 ∀(pins:List (Addr × Obj)) (s:Shared) (σ:St) (H:Hp) (Q:VK),Inv X pins σ H s->t σ H Q->wpAny (model X.prog X.w) X.A (eval e X.env) (EP X pins σ Q) X.xe s
def PT (X:Cx) (e:Expr) (t:TT):Prop:=
 ∀(pins:List (Addr × Obj)) (s:Shared) (σ:St) (H:Hp) (Q:Bool->Hp->Prop),Inv X pins σ H s->t σ H Q->wpAny (model X.prog X.w) X.A (isTrue e X.env (eval e X.env)) (TP X pins σ Q) X.xe s
def PW (X:Cx) (e:Expr) (t:TT):Prop:=
 ∀(z:Sem Value) (pins:List (Addr × Obj)) (s:Shared) (σ:St) (H:Hp) (Q:Bool->Hp->Prop),Inv X pins σ H s->t σ H Q->wpAny (model X.prog X.w) X.A (isTrue e X.env z) (TP X pins σ Q) X.xe s
theorem PW.pt {X:Cx}{e:Expr}{t:TT}(h:PW X e t):PT X e t:=h _
def PA (X:Cx) (es:List Expr) (t:TA):Prop:=
 ∀(pos:Pos) (pins:List (Addr × Obj)) (s:Shared) (σ:St) (H:Hp) (Q:List V->Hp->Prop),Inv X pins σ H s->t σ H Q->wpAny (model X.prog X.w) X.A (spliced (backTo pos (starEach es X.env))) (AP X pins σ Q) X.xe s
def PS (X:Cx) (st:Stmt) (t:TS):Prop:=
 ∀(pins:List (Addr × Obj)) (s:Shared) (σ:St) (H:Hp) (D:Ends),Inv X pins σ H s->t D σ H->wpAny (model X.prog X.w) X.A (exec st X.env) (SP X pins D) X.xe s
def h9 (X:Cx) (st:List Stmt) (t:TS):Prop:=
 ∀(pins:List (Addr × Obj)) (s:Shared) (σ:St) (H:Hp) (D:Ends),Inv X pins σ H s->t D σ H->wpAny (model X.prog X.w) X.A (execs st X.env) (SP X pins D) X.xe s
theorem eU {α:Type}{t:Sem α}{Q z:α->Shared->Prop}{M:Model}{A:Around}{E:Value->Shared->Prop}{s:Shared}(h:wpAny M A t Q E s)(I:∀a s,Q a s->z a s):wpAny M A t z E s:=Q0m h I λ_ _ x=>x
section
variable {X:Cx}
def fT (i:Nat):TE:=λσ H Q=>∃v,σ[i]? =some (some v)/\Q v H
def tC (v:V):TE:=λ_ H Q=>Q v H
theorem CU {i:Nat}{x:Str}{pos:Pos}(Y:X.N[i]? =some x)(hv:rj X.env.scope x)(L:(x == ("__debug__":Str))=false:=by decide)(U:(x == ("__classdict__":Str))=false:=by decide):PE X (.Name x pos) (fT i):=by
 intro pins s σ H Q I h;obtain⟨v,e,h⟩:=h;obtain⟨m,hn,hl⟩:=I.loc;obtain⟨u,r,l⟩:=hl i x v Y e hv;have fin:EP X pins σ Q u s:=⟨v,H,I,r,h⟩;rcases l with⟨J,hm⟩|⟨J,c,hc,z⟩
 . exact wpAny_Name (wpAny_loadName_local I.ok.kind J hn hm fin) L
 . rcases J with J|J
   . exact wpAny_Name (wpAny_loadName_cell I.ok.kind J hc z fin) L
   . exact wpAny_Name (wpAny_loadName_free I.ok.kind J hc z fin U) L
theorem b_ {i j pos}:PE X (.Constant (.int i) j pos) (tC (.int i)):=λ_ _ _ H _ I h=>wpAny_Constant_int ⟨.int i,H,I.tok _,⟨_,rfl⟩,h⟩
theorem gR {b j pos}:PE X (.Constant (.bool b) j pos) (tC (.bl b)):=λ_ _ _ H _ I h=>Constant_bool ⟨.bl b,H,I,rfl,h⟩
theorem gW {j pos}:PE X (.Constant .none j pos) (tC .non):=λ_ _ _ H _ I h=>Constant_none ⟨.non,H,I,rfl,h⟩
theorem fm {x j pos}:PE X (.Constant (.str x) j pos) (tC (.str x)):=λ_ _ _ H _ I h=>Calls.Constant_str ⟨.str x,H,I.tok _,⟨_,rfl⟩,h⟩
def Gl (X:Cx) (x:Str):Prop:=X.env.kindOf x=some .globalImplicit
theorem nO {E:Value->Shared->Prop}{pins:List (Addr × Obj)}{s:Shared}{σ:St}{H:Hp}{x:Str}{u:Value}{pos:Pos}{Q:Value->Shared->Prop}(I:Inv X pins σ H s)(z:Gl X x)(J:X.mg x=some u)(h:Q u s)
 (L:(x == ("__debug__":Str))=false:=by decide):wpAny (model X.prog X.w) X.A (eval (.Name x pos) X.env) Q E s:=
 Calls.Name_function_global I.ok.kind z (Calls.loadGlobal_global (by rw[I.ok.glob];exact I.mod.glob.keeps I.bk) J h) L
theorem kG {E:Value->Shared->Prop}{pins:List (Addr × Obj)}{s:Shared}{σ:St}{H:Hp}{x:Str}{u:Value}{pos:Pos}{Q:Value->Shared->Prop}(I:Inv X pins σ H s)(z:Gl X x)(J:X.mg x=none)(L:bootBuiltins x=some u)(h:Q u s)
 (U:x≠"__name__":=by decide) (Y:(x == ("__debug__":Str))=false:=by decide):wpAny (model X.prog X.w) X.A (eval (.Name x pos) X.env) Q E s:=by
 obtain⟨mb,h1,h2⟩:=I.mod.blt;exact Calls.Name_function_global I.ok.kind z (Calls.loadGlobal_builtin (by rw[I.ok.glob];exact I.mod.glob.keeps I.bk) J (by rw[I.ok.blt];exact h1.keeps I.bk) ((h2 x U).trans L) h) Y
theorem ik {x:Str}{v:V}{u:Value}{pos:Pos}(z:Gl X x)(J:X.mg x=none)(L:bootBuiltins x=some u)(r:RelV v u)(U:x≠"__name__":=by decide)(Y:(x == ("__debug__":Str))=false:=by decide):PE X (.Name x pos) (tC v):=
 λ_ _ _ H _ I h=>kG I z J L ⟨v,H,I,r,h⟩ U Y
variable {a b:Expr}{ta tb:TE}{pos:Pos}
def PC (X:Cx) (op:CmpOp) (a b:Expr) (t:TE):Prop:=
 ∀(pins:List (Addr × Obj)) (s:Shared) (σ:St) (H:Hp) (Q:VK),Inv X pins σ H s->t σ H Q->
  wpAny (model X.prog X.w) X.A (eval a X.env) (λv z=>wpAny (model X.prog X.w) X.A (eval b X.env) (λu I=>wpAny (model X.prog X.w) X.A (compareOp op v u) (EP X pins σ Q) X.xe I) X.xe z) X.xe s
def tB (t:TE):TT:=λσ H Q=>t σ H λx H1=>∃c,x=.bl c/\Q c H1
theorem CV {op:CmpOp}{t:TE}(h:PC X op a b t)(h1:behindInMarks op b=false:=by first|exact z _ (by decide) (by decide)|rfl):PE X (.Compare a [op] [b] pos) t:=λpins s σ H Q I hw=>wpAny_Compare1 (h pins s σ H Q I hw) h1
theorem rq {op:CmpOp}{t:TE}(h:PC X op a b t)(h1:behindInMarks op b=false:=by first|exact z _ (by decide) (by decide)|rfl):PT X (.Compare a [op] [b] pos) (tB t):=by
 intro pins s σ H Q I hw;refine wpAny_isTrue_Compare1 (eU (h pins s σ H _ I hw) λv Y h1=>eU h1 λu s2 h2=>eU h2 λc s3 zq=>?_) h1;obtain⟨x,H1,J,L,U⟩:=zq;obtain⟨d,rfl,q⟩:=U
 cases L;exact wpAny_truthy_bool ⟨H1,J,q⟩
theorem gS {e:Expr}{t:TE}(h:PE X e t)(J:∀z,isTrue e X.env z=(do let v <-z;standAt e.pos;holding [v] (truthy v)):=by intro _;rfl):PT X e (tB t):=by
 intro pins s σ H Q I hw;refine isTrue_plain (eU (h pins s σ H _ I hw) λv s1 zq=>?_) (J _);obtain⟨x,H1,L,U,Y⟩:=zq;obtain⟨d,rfl,q⟩:=Y
 cases U;exact wpAny_truthy_bool ⟨H1,L,q⟩
variable {tA pd:TT}{rest:List Expr}
def CY (t u:TT):TT:=λσ H Q=>t σ H λc H1=>if c=true then u σ H1 Q else Q false H1
def yi (t u:TT):TT:=λσ H Q=>t σ H λc H1=>if c=true then Q true H1 else u σ H1 Q
def CZ (t:TT):TT:=λσ H Q=>t σ H λc H1=>Q (!c) H1
theorem nQ (z:PT X a tA):PW X (.BoolOp .And [a] pos) tA:=by
 intro J pins s σ H Q I h;refine isTrue_and (eU (z pins s σ H Q I h) λc L e=>?_)
 cases c with
 |true=>exact isTrue_and_nil e
 |false=>exact e
theorem iB (z:PT X a tA):PW X (.BoolOp .Or [a] pos) tA:=by
 intro J pins s σ H Q I h;refine isTrue_or (eU (z pins s σ H Q I h) λc L e=>?_)
 cases c with
 |false=>exact isTrue_or_nil e
 |true=>exact e
theorem mD (L:PT X a tA)(U:PW X (.BoolOp .And (b::rest) pos) pd):PW X (.BoolOp .And (a::b::rest) pos) (CY tA pd):=by
 intro Y pins s σ H Q I h;refine isTrue_and (eU (L pins s σ H _ I h) λc s1 ⟨H1,z,J⟩=>?_)
 cases c with
 |true=>exact U Y pins s1 σ H1 Q z J
 |false=>exact⟨H1,z,J⟩
theorem il (L:PT X a tA)(U:PW X (.BoolOp .Or (b::rest) pos) pd):PW X (.BoolOp .Or (a::b::rest) pos) (yi tA pd):=by
 intro Y pins s σ H Q I h;refine isTrue_or (eU (L pins s σ H _ I h) λc s1 ⟨H1,z,J⟩=>?_)
 cases c with
 |true=>exact⟨H1,z,J⟩
 |false=>exact U Y pins s1 σ H1 Q z J
theorem gY (z:PT X a tA):PT X (.UnaryOp .Not a pos) (CZ tA):=by
 intro pins s σ H Q I h;exact isTrue_not (z pins s σ H (λc H1=>Q (!c) H1) I h)
def yj (ta tb:TE):TE:=λσ H Q=>ta σ H λx H1=>∃c,x=.bl c/\if c=true then tb σ H1 Q else Q (.bl false) H1
def C0 (ta tb:TE):TE:=λσ H Q=>ta σ H λx H1=>∃c,x=.bl c/\if c=true then Q (.bl true) H1 else tb σ H1 Q
def yk (ta:TE):TE:=λσ H Q=>ta σ H λx H1=>∃c,x=.bl c/\Q (.bl (!c)) H1
theorem j5 {op}{t:TE}(h:PE X a t):PE X (.BoolOp op [a] pos) t:=λpins s σ H Q I hw=>BoolOp_one (h pins s σ H Q I hw)
theorem kH (L:PE X a ta)(U:PE X (.BoolOp .And (b::rest) pos) tb):PE X (.BoolOp .And (a::b::rest) pos) (yj ta tb):=by
 intro pins s σ H Q I h;refine BoolOp_and (eU (L pins s σ H _ I h) λv Y zq=>?_);obtain⟨x,H1,J,r1,z⟩:=zq;obtain⟨c,rfl,z⟩:=z
 cases r1;refine wpAny_truthy_bool ?_
 cases c with
 |true=>exact U pins Y σ H1 Q J z
 |false=>exact⟨.bl false,H1,J,rfl,z⟩
theorem yl (L:PE X a ta)(U:PE X (.BoolOp .Or (b::rest) pos) tb):PE X (.BoolOp .Or (a::b::rest) pos) (C0 ta tb):=by
 intro pins s σ H Q I h;refine BoolOp_or (eU (L pins s σ H _ I h) λv Y zq=>?_);obtain⟨x,H1,J,r1,z⟩:=zq;obtain⟨c,rfl,z⟩:=z
 cases r1;refine wpAny_truthy_bool ?_
 cases c with
 |false=>exact U pins Y σ H1 Q J z
 |true=>exact⟨.bl true,H1,J,rfl,z⟩
theorem ym (J:PE X a ta):PE X (.UnaryOp .Not a pos) (yk ta):=by
 intro pins s σ H Q I h;refine UnaryOp_ (eU (J pins s σ H _ I h) λv Y zq=>?_);obtain⟨x,H1,L,U,z⟩:=zq;obtain⟨c,rfl,z⟩:=z
 cases U;exact not_of (wpAny_truthy_bool ⟨.bl (!c),H1,L,rfl,z⟩)
def C1 (t:TT) (ta tb:TE):TE:=λσ H Q=>t σ H λc H1=>if c=true then ta σ H1 Q else tb σ H1 Q
theorem yn {c:Expr}(hc:PT X c tA)(U:PE X a ta)(Y:PE X b tb):PE X (.IfExp c a b pos) (C1 tA ta tb):=by
 intro pins s σ H Q I h;refine wpAny_IfExp (eU (hc pins s σ H _ I h) λd z ⟨H1,J,L⟩=>?_)
 cases d with
 |true=>exact U pins z σ H1 Q J L
 |false=>exact Y pins z σ H1 Q J L
end
def eG (K:W.Frag) (H:Hp) (a:Addr) (xs:List V):Prop:=
 Rd H a (.lst xs)\/
  ∃(o:Obj) (z:Array Value) (n:Nat),K.lookup a=some o/\o.cls=.type "list"/\o.dict=none/\o.data=.seq z n/\z.size<=sizeLine/\Vals xs z.toList
def eB (K:W.Frag) (H:Hp) (a:Addr) (xs:List V):Prop:=
 Rd H a (.tup xs)\/
  ∃(o:Obj) (z:Array Value) (n:Nat),K.lookup a=some o/\o.cls=.type "tuple"/\o.data=.seq z n/\z.size<=sizeLine/\Vals xs z.toList
noncomputable def C2:Value->Option V
 | .none=>some .non
 | .bool b=>some (.bl b)
 | .int i _=>some (.int i)
 | .str x _=>some (.str x)
 | .bytes b _=>some (.jf b)
 | .float b _=>some (.flt b)
 | .ref a=>some (.ref a)
 | .type n=>some (.ty n)
 |_=>none
theorem RelV.abs {x:V}{u:Value}(r:RelV x u):C2 u=some x:=by
 cases x with
 |non=>cases r;rfl
 |bl _=>cases r;rfl
 |int _=>obtain⟨t,rfl⟩:=r;rfl
 |str _=>obtain⟨t,rfl⟩:=r;rfl
 |jf _=>obtain⟨t,rfl⟩:=r;rfl
 |flt _=>obtain⟨t,rfl⟩:=r;rfl
 |ref _=>cases r;rfl
 |ty _=>cases r;rfl
theorem RelV.inj {x y:V}{u:Value}(r:RelV x u)(q:RelV y u):x=y:=Option.some.inj (r.abs.symm.trans q.abs)
theorem Vals.inj:∀{xs ys:List V}{us:List Value},Vals xs us->Vals ys us->xs=ys
 |_,_,_,.nil,.nil=>rfl
 |_,_,_,.cons r t,.cons z t'=>by rw[r.inj z,Vals.inj t t']
section
variable {X:Cx}{pins:List (Addr × Obj)}{σ:St}{H:Hp}{s:Shared}{a:Addr}{xs ys:List V}
theorem eG.of {K:W.Frag}(h:H a=some (.lst xs)):eG K H a xs:=.inl (.inl h)
theorem eB.of {K:W.Frag}(h:H a=some (.tup xs)):eB K H a xs:=.inl (.inl h)
theorem Inv.list (I:Inv X pins σ H s)(h:eG X.K H a xs):∃J:List Value,Vals xs J/\PlainL s.heap a J.toArray/\xs.length<=sizeLine:=by
 rcases h with h|⟨o,J,n,L,hc,U,Y,hz,r⟩
 . obtain⟨z,J,n,r,e⟩:=h.ok I.hok;exact⟨J,r,⟨_,n,e,rfl,rfl,rfl⟩,z⟩
 . refine⟨J.toList,r,⟨o,n,I.gi a o L,hc,U,by simpa using Y⟩,?_⟩;have e:=r.length;simp only[Q1l] at e;omega
theorem Inv.tuple (I:Inv X pins σ H s)(h:eB X.K H a xs):∃J:List Value,Vals xs J/\IsTup s.heap a J.toArray/\xs.length<=sizeLine:=by
 rcases h with h|⟨o,J,n,L,hc,U,Y,r⟩
 . obtain⟨z,J,r,p⟩:=h.ok I.hok;exact⟨J,r,p,z⟩
 . refine⟨J.toList,r,⟨o,I.gi a o L,hc,n,by simpa using U⟩,?_⟩;have e:=r.length;simp only[Q1l] at e;omega
theorem Inv.pf (I:Inv X pins σ H s)(h:eG X.K H a xs)(h':eG X.K H a ys):xs=ys:=by
 obtain⟨z,r,⟨o,n,e,_,_,d⟩,_⟩:=I.list h;obtain⟨its',L,⟨o',n',J,_,_,d'⟩,_⟩:=I.list h';rw[e] at J;cases J;rw[d] at d';injection d' with U _
 have:z=its':=by simpa using congrArg Array.toList U
 subst this;exact r.inj L
theorem Inv.C3 (I:Inv X pins σ H s)(h:eB X.K H a xs)(h':eB X.K H a ys):xs=ys:=by
 obtain⟨z,r,⟨o,e,_,n,d⟩,_⟩:=I.tuple h;obtain⟨its',L,⟨o',J,_,n',d'⟩,_⟩:=I.tuple h';rw[e] at J;cases J;rw[d] at d';injection d' with U _
 have:z=its':=by simpa using congrArg Array.toList U
 subst this;exact r.inj L
end
noncomputable abbrev Cx.wish (X:Cx) (E:Value->Shared->Prop):Cx:={ X with xe:=E }
noncomputable abbrev Cx.fj (X:Cx):Cx:=X.wish λ_ _=>False
theorem Cx.Ok.wish {X:Cx}(ok:X.Ok)(E:Value->Shared->Prop):(X.wish E).Ok:=
 ⟨ok.mod,ok.kind,ok.glob,ok.blt,ok.above,ok.inj,ok.has,ok.cab,ok.hd,ok.frames,ok.stk,ok.rm,ok.bs,ok.jx,ok.mz,ok.nL,ok.i6,ok.kF⟩
theorem Cx.Ok.jz {X:Cx}{E:Value->Shared->Prop}(ok:(X.wish E).Ok):X.Ok:=
 ⟨ok.mod,ok.kind,ok.glob,ok.blt,ok.above,ok.inj,ok.has,ok.cab,ok.hd,ok.frames,ok.stk,ok.rm,ok.bs,ok.jx,ok.mz,ok.nL,ok.i6,ok.kF⟩
section
variable {X:Cx}{pins:List (Addr × Obj)}{σ:St}{H:Hp}{s:Shared}{E:Value->Shared->Prop}
theorem Inv.wish (I:Inv X pins σ H s)(E:Value->Shared->Prop):Inv (X.wish E) pins σ H s:=⟨I.ok.wish E,I.os,I.bare,I.base,I.loc,I.cell,I.free,I.iA,I.pin,I.hok,I.len⟩
theorem Inv.jz (I:Inv (X.wish E) pins σ H s):Inv X pins σ H s:=⟨I.ok.jz,I.os,I.bare,I.base,I.loc,I.cell,I.free,I.iA,I.pin,I.hok,I.len⟩
theorem SP.jz {D:Ends}{f:Flow}{s':Shared}(h:SP (X.wish E) pins D f s'):SP X pins D f s':=by
 cases f with
 |next=>obtain⟨z,H',I,q⟩:=h;exact⟨z,H',I.jz,q⟩
 |brk=>obtain⟨z,H',I,q⟩:=h;exact⟨z,H',I.jz,q⟩
 |cont=>obtain⟨z,H',I,q⟩:=h;exact⟨z,H',I.jz,q⟩
 |ret u=>obtain⟨v,z,H',I,r,q⟩:=h;exact⟨v,z,H',I.jz,r,q⟩
theorem h9.fj {st:List Stmt}{t:TS}(h:h9 X.fj st t):h9 X st t:=λpins s σ H D I hw=>
 Q0m (h pins s σ H D (I.wish _) hw) (λ_ _ q=>q.jz) λ_ _ z=>False.elim z
end
section
variable {X:Cx}{st:Stmt}{rest:List Stmt}{t u:TS}{e:Expr}{te:TE}{pos:Pos}
def C4:TS:=λD σ H=>D.nx σ H
def yo (t u:TS):TS:=λD σ H=>t { D with nx:=u D } σ H
theorem eZ:h9 X [] C4:=λ_ _ σ H _ I h=>wpAny_execs_nil ⟨σ,H,I,h⟩
theorem eF (h1:PS X st t)(h2:h9 X rest u):h9 X (st::rest) (yo t u):=by
 intro pins s σ H D I h;refine wpAny_execs_cons (eU (h1 pins s σ H { D with nx:=u D } I h) λf J q=>?_)
 cases f with
 |next=>
  obtain⟨z,H',L,q⟩:=q;exact h2 pins J z H' D L q
 |ret v=>exact q
 |brk=>exact q
 |cont=>exact q
theorem eL (h1:PS X st t):h9 X [st] t:=by
 intro pins s σ H D I h;refine wpAny_execs_cons (eU (h1 pins s σ H D I h) λf z q=>?_)
 cases f with
 |next=>exact wpAny_execs_nil q
 |ret v=>exact q
 |brk=>exact q
 |cont=>exact q
theorem Inv.quiet {pins:List (Addr × Obj)}{σ:St}{H:Hp}{s:Shared}(I:Inv X pins σ H s):interactive X.env=false:=by simp[interactive,I.ok.kind]
def C5 (te:TE):TS:=λD σ H=>te σ H λ_ H1=>D.nx σ H1
theorem jM (z:PE X e te)(J:swapsWith e none pos.line X.env=pure false:=by rfl):PS X (.Expr e pos) (C5 te):=by
 intro pins s σ H D I h;exact wpAny_Expr_any (eU (z pins s σ H _ I h) λv Y ⟨x,H1,L,r1,U⟩=>⟨σ,H1,L,U⟩) I.quiet J
def ph (te:TE):TS:=λD σ H=>te σ H D.rt
theorem eO (z:PE X e te):PS X (.Return (some e) pos) (ph te):=by
 intro pins s σ H D I h;exact wpAny_Return_some (eU (z pins s σ H _ I h) λv Y ⟨x,H1,J,L,U⟩=>⟨x,σ,H1,J,L,U⟩)
def j6 (c:TT) (t u:TS):TS:=λD σ H=>c σ H λb H1=>if b=true then t D σ H1 else u D σ H1
theorem eY {c:Expr}{a b:List Stmt}{tc:TT}(hc:PT X c tc)(U:h9 X a t)(Y:h9 X b u):PS X (.If c a b pos) (j6 tc t u):=by
 intro pins s σ H D I h;refine wpAny_If (eU (hc pins s σ H _ I h) λd z ⟨H1,J,L⟩=>?_)
 cases d with
 |true=>exact U pins z σ H1 D J L
 |false=>exact Y pins z σ H1 D J L
def yp:TS:=λ_ _ _=>False
theorem C6:PS X st yp:=λ_ _ _ _ _ _ h=>h.elim
theorem C7 {z:List Stmt}:h9 X z yp:=λ_ _ _ _ _ _ h=>h.elim
end
noncomputable abbrev TG:=V->St->Hp->(St->Hp->Prop)->Prop
noncomputable abbrev lB:=List V->St->Hp->(St->Hp->Prop)->Prop
def PG (X:Cx) (z:Expr) (t:TG):Prop:=
 ∀(pins:List (Addr × Obj)) (s:Shared) (σ:St) (H:Hp) (v:V) (u:Value) (Q:St->Hp->Prop),Inv X pins σ H s->RelV v u->t v σ H Q->
  wpAny (model X.prog X.w) X.A (assign z X.env u) (λ_ s'=>∃I H',Inv X pins I H' s'/\Q I H') X.xe s
def pj (X:Cx) (ts:List Expr) (t:lB):Prop:=
 ∀(pins:List (Addr × Obj)) (s:Shared) (σ:St) (H:Hp) (vs:List V) (us:List Value) (Q:St->Hp->Prop),Inv X pins σ H s->Vals vs us->t vs σ H Q->
  wpAny (model X.prog X.w) X.A (assignInOrder ((assignEach ts X.env).map (·.2)) us) (λ_ s'=>∃z H',Inv X pins z H' s'/\Q z H') X.xe s
noncomputable abbrev rz:=V->V->V->Hp->(Hp->Prop)->Prop
def yq (X:Cx) (t:rz):Prop:=
 ∀(pins:List (Addr × Obj)) (s:Shared) (σ:St) (H:Hp) (o i v:V) (z I u:Value) (Q:Hp->Prop),Inv X pins σ H s->RelV o z->RelV i I->RelV v u->t o i v H Q->
  wpAny (model X.prog X.w) X.A (setItem z I u) (λ_ s'=>∃H',Inv X pins σ H' s'/\Q H') X.xe s
section
variable {X:Cx}{pos:Pos}
def gX (i:Nat):TG:=λv σ H Q=>Q (σ.set i (some v)) H
theorem fX {i:Nat}{x:Str}(z:X.N.Nodup)(hi:X.N[i]? =some x)(J:Loc X.env.scope x)(L:X.fn x=true\/X.env.scope.names.lookup x=some .local:=by first|exact .inl rfl|exact .inr rfl|assumption):PG X (.Name x pos) (gX i):=by
 intro pins s σ H v u Q I r h;exact wpAny_assign_Name (nN I z hi J r (λs' U=>⟨_,H,U,h⟩) L)
def nR:lB:=λvs σ H Q=>vs=[]/\Q σ H
def j7 (t:TG) (u:lB):lB:=λvs σ H Q=>∃v r,vs=v::r/\t v σ H λz H'=>u r z H' Q
theorem jg:pj X [] nR:=by
 intro pins s σ H vs us Q I r h;obtain⟨e,h⟩:=h;subst e
 cases r;exact assignInOrder_nil ⟨σ,H,I,h⟩
theorem gT {e:Expr}{es:List Expr}{t:TG}{u:lB}(h1:PG X e t)(h2:pj X es u)
 (J:(assignEach (e::es) X.env).map (·.2)=assign e X.env::(assignEach es X.env).map (·.2):=by rfl):pj X (e::es) (j7 t u):=by
 intro pins s σ H vs us Q I r h;obtain⟨v,vr,L,h⟩:=h;subst L
 cases r with
 |cons r U=>
  rw[J];refine assignInOrder_cons (eU (h1 pins s σ H _ _ _ I r h) λ_ Y zq=>?_);obtain⟨z,H1,I1,q1⟩:=zq;exact h2 pins Y z H1 _ _ Q I1 U q1
def nS (K:W.Frag) (n:Nat) (t:lB):TG:=λv σ H Q=>∃a xs,v=.ref a/\eB K H a xs/\xs.length=n/\t xs σ H Q
theorem jh {es:List Expr}{k:Nat}{t:lB}{n:Nat}(hc:X.calm=true)(h:pj X es t)
 (L:(assignEach es X.env).length=n:=by rfl) (z:(assignEach es X.env).findIdx? (·.1)=none:=by rfl):PG X (.Tuple es k pos) (nS X.K n t):=by
 intro pins s σ H v u Q I r hw;obtain⟨a,xs,U,Y,hl,hw⟩:=hw;subst U
 cases r;obtain⟨aa,J,ht,hz⟩:=I.tuple Y;refine assign_Tuple_tuple (I.ok.hd hc) ht (by simp[L,<-hl,J.length]) z λh' hx=>?_;have I1:Inv X pins σ H { s with heap:=h' }:=I.kept (t':=s.toks) λb o e=>hx b o (Q07 (Q01 e)) e;exact h pins _ σ H xs _ Q I1 (by simpa using J) hw
def C8 (to z:TE) (t:rz):TG:=λv σ H Q=>to σ H λo H1=>z σ H1 λi H2=>t o i v H2 λI=>Q σ I
theorem C9 {o i:Expr}{to L:TE}{t:rz}(U:PE X o to)(hi:PE X i L)(Y:yq X t)
 (ha:∀v,assign (.Subscript o i pos) X.env v=(do
   let z <-holding [v] (eval o X.env);let J <-holding [v,z] (eval i X.env)
   standAt pos
   holding [v,z,J] (setItem z J v)
   release [v,z,J] []):=by intro _;rfl):PG X (.Subscript o i pos) (C8 to L t):=by
 intro pins s σ H v u Q I r h;rw[ha];refine Q0 (wpAny_holding (eU (U pins s σ H _ I h) λz s1 zq=>?_));obtain⟨x,H1,I1,r1,q1⟩:=zq;refine Q0 (wpAny_holding (eU (hi pins s1 σ H1 _ I1 q1) λJ s2 zq=>?_));obtain⟨y,H2,I2,r2,q2⟩:=zq;refine Q0 (wpAny_standAt (Q0 (wpAny_holding (eU (Y pins s2 σ H2 x y v z J u _ I2 r1 r2 r q2) λ_ s3 ⟨H3,I3,q3⟩=>?_))));exact wpAny_release ⟨σ,H3,I3,q3⟩
def lC (te:TE) (g:TG):TS:=λD σ H=>te σ H λx H1=>g x σ H1 D.nx
theorem pq {tg e:Expr}{te:TE}{g:TG}(z:PE X e te)(J:PG X tg g)(L:swapsWithSole [tg] e pos.line X.env=pure false:=by rfl)(hw:swappedStores [tg] e X.env=pure none:=by rfl)
 (h1:(assignEach [tg] X.env).map (·.2)=[assign tg X.env]:=by rfl):PS X (.Assign [tg] e pos) (lC te g):=by
 intro pins s σ H D I h;refine wpAny_Assign_stores (eU (z pins s σ H _ I h) λv U zq=>?_) L hw;obtain⟨x,H1,Y,r1,q1⟩:=zq;rw[h1];exact eU (J pins U σ H1 x v _ Y r1 q1) λ_ s2 q=>q
theorem yr {i:Nat}{x:Str}{e:Expr}{te:TE}{pos':Pos}(z:X.N.Nodup)(hi:X.N[i]? =some x)(J:Loc X.env.scope x)(L:PE X e te)(U:swapsWith e (some (.Name x pos')) pos.line X.env=pure false:=by rfl)(Y:X.fn x=true\/X.env.scope.names.lookup x=some .local:=by first|exact .inl rfl|exact .inr rfl|assumption):
 PS X (.Assign [.Name x pos'] e pos) (lC te (gX i)):=by
 intro pins s σ H D I h;refine wpAny_Assign_Name (eU (L pins s σ H _ I h) λv s1 zq=>?_) U;obtain⟨y,H1,I1,r1,q1⟩:=zq;exact nN I1 z hi J r1 (λs2 I2=>⟨_,H1,I2,q1⟩) Y
end
section
variable {X:Cx}{pos:Pos}
end
structure It where
 go:Nat->Hp->Prop
 ji:Nat->Hp->V->Hp->Prop
 stop:Nat->Hp->Prop
def h_ (X:Cx) (pins:List (Addr × Obj)) (H:Hp) (b:Addr):Prop:=
 H b=none/\b≠X.env.locals/\b ∉ X.fs/\(b∈X.ex\/X.s₀.heap.objs.size<=b)/\(∀x c,X.env.cells.lookup x=some c->c≠b)/\∀p∈X.pn++pins,p.1≠b
theorem Inv.lD {X:Cx}{pins:List (Addr × Obj)}{σ:St}{H H':Hp}{s:Shared}{b:Addr}(I:Inv X pins σ H s)(J:s.heap.objs.size<=b)(L:H' b=none):h_ X pins H' b:=by
 refine⟨L,Q0q (Q06 I.lt J),I.mB J,.inr (Q0f I.sz J),λx c e z=>?_,λp hp z=>?_⟩
 . obtain⟨v,q⟩:=I.cell x c e;exact absurd (Q06 q.lt (by rw[z];exact J)) (Q0l _)
 . exact absurd (Q06 (Q01 (I.pin p hp).1) (by rw[z];exact J)) (Q0l _)
structure Turn (P:Program) (w:World) (K:W.Frag) (tg:Expr) (J:It) (fp:List Addr) (it:Addr) (tn:Nat->Heap->Prop):Prop where
 mem:it∈fp
 obj:∀i h,tn i h->∀b∈fp,∃o,h.get? b=some o/\∀v,o.data≠ .cell v
 keep:∀i h h',tn i h->(∀b∈fp,∀o,h.get? b=some o->h'.get? b=some o)->tn i h'
 item:∀(X:Cx),X.prog=P->X.w=w->X.K=K->X.calm=true->∀(i:Nat) (pins:List (Addr × Obj)) (s:Shared) (σ:St) (H:Hp) (E:Value->Shared->Prop),Inv X pins σ H s->(∀b∈fp,h_ X pins H b)->tn i s.heap->J.go i H->
  wpAny (model P w) X.A (pyNext (.ref it)) (λr s1=>∃u,r=some u/\
   wpAny (model P w) X.A (letOwnedTupleGo tg (.ref it) u) (λ_ s2=>∃x H',Inv X pins σ H' s2/\RelV x u/\J.ji i H x H'/\tn (i+1) s2.heap/\∀b∈fp,H' b=none) E s1) E s
 done:∀(X:Cx),X.prog=P->X.w=w->X.K=K->X.calm=true->∀(i:Nat) (pins:List (Addr × Obj)) (s:Shared) (σ:St) (H:Hp) (E:Value->Shared->Prop),Inv X pins σ H s->(∀b∈fp,h_ X pins H b)->tn i s.heap->J.stop i H->
  wpAny (model P w) X.A (pyNext (.ref it)) (λr s1=>r=none/\Inv X pins σ H s1) E s
 self:∀(A:Around) (i:Nat) (s:Shared) (Q:Value->Shared->Prop) (E:Value->Shared->Prop),tn i s.heap->Q (.ref it) s->wpAny (model P w) A (pyIter (.ref it)) Q E s
noncomputable abbrev TI:=St->Hp->(It->Hp->Prop)->Prop
def PIE (X:Cx) (pins:List (Addr × Obj)) (σ:St) (tg:Expr) (R:It->Hp->Prop) (z:Value) (I:Shared):Prop:=
 ∃(it:Addr) (L:List Addr) (U:Nat->Heap->Prop) (J:It) (H':Hp),z=.ref it/\Inv X pins σ H' I/\Turn X.prog X.w X.K tg J L it U/\U 0 I.heap/\(∀b∈L,h_ X pins H' b)/\R J H'
def PI (X:Cx) (tg iter:Expr) (z:TI):Prop:=
 ∀(pins:List (Addr × Obj)) (s:Shared) (σ:St) (H:Hp) (R:It->Hp->Prop),Inv X pins σ H s->z σ H R->
  wpAny (model X.prog X.w) X.A (eval iter X.env) (λv I=>wpAny (model X.prog X.w) X.A (pyIter v) (PIE X pins σ tg R) X.xe I) X.xe s
theorem rA {M:Model}{A:Around}{E:Value->Shared->Prop}{s:Shared}{tg:Expr}{it:Addr}{u:Value}{o:Obj}{n:String}{vs:Array Value}{Q:Unit->Shared->Prop}(I:s.heap.get? it=some o)(hc:o.cls=.type n)(J:o.data=.fields vs)
 (L:["enumerate","zip","dict_itemiterator","dict_reverseitemiterator","odict_iterator","itertools.zip_longest","itertools.pairwise"].contains n=false) (z:Q () s):wpAny M A (letOwnedTupleGo tg (.ref it) u) Q E s:=by
 unfold letOwnedTupleGo
 cases tg <;> first
  |exact Q09 z
  |(cases u <;> first
     |exact Q09 z
     |(refine Q0 (wpAny_load I ?_)
       rw[hc,J];show wpAny M A (if(["enumerate","zip","dict_itemiterator","dict_reverseitemiterator","odict_iterator","itertools.zip_longest","itertools.pairwise"].contains n && vs[0]? == some (rawInt _))=true then _ else _) Q E s;rw[if_neg (by intro h;rw[L,Bool.false_and] at h;cases h)];exact Q09 z))
noncomputable def mE (K:W.Frag) (a:Addr):It:=
 ⟨λi H=>∃xs x,eG K H a xs/\xs[i]? =some x,λi H x H'=>H'=H/\∀xs,eG K H a xs->xs[i]? =some x,λi H=>∃xs,eG K H a xs/\xs.length<=i⟩
noncomputable def mF (K:W.Frag) (a:Addr):It:=
 ⟨λi H=>∃xs x,eB K H a xs/\xs[i]? =some x,λi H x H'=>H'=H/\∀xs,eB K H a xs->xs[i]? =some x,λi H=>∃xs,eB K H a xs/\xs.length<=i⟩
noncomputable def lE (lo:Int) (n:Nat):It:=⟨λi _=>i<n,λi H x H'=>H'=H/\x=.int (lo+i),λi _=>n<=i⟩
theorem C_ {P:Program}{w:World}{K:W.Frag}{tg:Expr}(a it:Addr):Turn P w K tg (mE K a) [it] it (λi h=>h.IsListIter it a i) where
 mem:=by simp
 obj:=λi h st b J=>by
  have e:b=it:=by simpa using J
  subst e;obtain⟨o,e,c,d⟩:=st;exact⟨o,e,λv z=>by rw[d] at z;cases z⟩
 keep:=λi h h' st k=>st.at λo e=>k it (by simp) o e
 item:=by
  intro X hP hw hK hc i pins s σ H E I U st hg;subst hP hw hK;obtain⟨xs,x,Y,hx⟩:=hg;obtain⟨aa,rv,p,hz⟩:=I.list Y;obtain⟨u,hu,ru⟩:=rv.get hx;obtain⟨f0,f1,f2,f3,f4,f5⟩:=U it (by simp);refine wpAny_pyNext_list_item st p.isList (x:=u) (by simpa using hu) λh' L sb=>?_;have I1:Inv X pins σ H { s with heap:=h' }:=I.turned (t':=s.toks) (λb o J e=>(sb.2 b J).trans e) f0 f1 f3 f4 f5;obtain⟨o,e,c,d⟩:=id L;exact⟨u,rfl,rA (s:={ s with heap:=h' }) e c d (by decide) ⟨x,H,I1,ru,⟨rfl,λys hy=>by rw[I.pf hy Y];exact hx⟩,L,λb J=>(U b J).1⟩⟩
 done:=by
  intro X hP hw hK hc i pins s σ H E I U st hg;subst hP hw hK;obtain⟨xs,Y,hx⟩:=hg;obtain⟨aa,rv,p,hz⟩:=I.list Y;obtain⟨f0,f1,f2,f3,f4,f5⟩:=U it (by simp);have hl:=rv.length;exact wpAny_pyNext_list_end (I.ok.hd hc) st p.isList (by simp;omega) λh' eb=>⟨rfl,I.turned (t':=s.toks) (λb o J e=>eb b o J e) f0 f1 f3 f4 f5⟩
 self:=λ_ _ _ _ _ st h=>wpAny_pyIter_listiter st h
theorem Dd {P:Program}{w:World}{K:W.Frag}{tg:Expr}(a it:Addr):Turn P w K tg (mF K a) [it] it (λi h=>h.IsTupleIter it a i) where
 mem:=by simp
 obj:=λi h st b J=>by
  have e:b=it:=by simpa using J
  subst e;obtain⟨o,e,c,d⟩:=st;exact⟨o,e,λv z=>by rw[d] at z;cases z⟩
 keep:=λi h h' st k=>st.at λo e=>k it (by simp) o e
 item:=by
  intro X hP hw hK hc i pins s σ H E I Y st hg;subst hP hw hK;obtain⟨xs,x,hq,hx⟩:=hg;obtain⟨L,rv,p,hz⟩:=I.tuple hq;obtain⟨u,hu,ru⟩:=rv.get hx;obtain⟨f0,f1,f2,f3,f4,f5⟩:=Y it (by simp);refine wpAny_pyNext_tuple_item st (show s.heap.IsTuple a L.toArray from p) (x:=u) (by simpa using hu) λh' U sb=>?_;have I1:Inv X pins σ H { s with heap:=h' }:=I.turned (t':=s.toks) (λb o J e=>(sb.2 b J).trans e) f0 f1 f3 f4 f5;obtain⟨o,e,c,d⟩:=id U;exact⟨u,rfl,rA (s:={ s with heap:=h' }) e c d (by decide) ⟨x,H,I1,ru,⟨rfl,λys hy=>by rw[I.C3 hy hq];exact hx⟩,U,λb J=>(Y b J).1⟩⟩
 done:=by
  intro X hP hw hK hc i pins s σ H E I Y st hg;subst hP hw hK;obtain⟨xs,hq,hx⟩:=hg;obtain⟨L,rv,p,hz⟩:=I.tuple hq;obtain⟨f0,f1,f2,f3,f4,f5⟩:=Y it (by simp);have hl:=rv.length;exact wpAny_pyNext_tuple_end (I.ok.hd hc) st (show s.heap.IsTuple a L.toArray from p) (by simp;omega) λh' eb=>⟨rfl,I.turned (t':=s.toks) (λb o J e=>eb b o J e) f0 f1 f3 f4 f5⟩
 self:=λ_ _ _ _ _ st h=>wpAny_pyIter_tupleiter st h
theorem De {P:Program}{w:World}{K:PySem.W.Frag}{tg:Expr}(it:Addr)(lo:Int)(n:Nat):Turn P w K tg (lE lo n) [it] it (λi h=>IsRangeIter h it (lo+(i:Nat) * 1) ((n:Int) - (i:Nat)) 1) where
 mem:=by simp
 obj:=λi h st b J=>by
  have e:b=it:=by simpa using J
  subst e
  exact⟨_,st,λv z=>by
   have z':Data.fields _=Data.cell v:=z
   cases z'⟩
 keep:=λi h h' st k=>k it (by simp) _ st
 item:=by
  intro X Y hw hK hc i pins s σ H E I U st hg;subst Y hw hK;obtain⟨f0,f1,f2,f3,f4,f5⟩:=U it (by simp);have W:=Walks.range (prog:=X.prog) (w:=X.w) (I.ok.hd hc) it lo 1 n;refine W.item i s _ _ hg st λv h' tk hv L kk=>?_;obtain⟨t,rfl⟩:=hv;have I1:Inv X pins σ H { s with heap:=h',toks:=tk }:=I.turned (λb o J e=>kk b o (by simpa using J) e) f0 f1 f3 f4 f5;refine⟨_,rfl,rA (s:={ s with heap:=h',toks:=tk }) (n:="range_iterator") L rfl rfl (by decide) ⟨.int (lo+i),H,I1,⟨t,?_⟩,⟨rfl,rfl⟩,L,λb J=>(U b J).1⟩⟩;rw[Int.mul_one]
 done:=by
  intro X Y hw hK hc i pins s σ H E I U st hg;subst Y hw hK;obtain⟨f0,f1,f2,f3,f4,f5⟩:=U it (by simp);exact wpAny_pyNext_range_end (I.ok.hd hc) st (by have:n<=i:=hg;omega) λh' eb=>⟨rfl,I.turned (t':=s.toks) (λb o J e=>eb b o J e) f0 f1 f3 f4 f5⟩
 self:=λ_ _ _ _ _ st h=>wpAny_pyIter_rangeiter st h
section
variable {X:Cx}{tg:Expr}
def Df (K:W.Frag) (tl:TE):TI:=λσ H R=>tl σ H λx H1=>∃a,x=.ref a/\(∃xs,eG K H1 a xs)/\R (mE K a) H1
def Dg (K:W.Frag) (tl:TE):TI:=λσ H R=>tl σ H λx H1=>∃a,x=.ref a/\(∃xs,eB K H1 a xs)/\R (mF K a) H1
theorem rB {l:Expr}{tl:TE}(hl:PE X l tl):PI X tg l (Df X.K tl):=by
 intro pins s σ H R I h;refine eU (hl pins s σ H _ I h) λv z zq=>?_;obtain⟨x,H1,J,L,U⟩:=zq;obtain⟨a,e,⟨xs,Y⟩,q⟩:=U;subst e
 cases L;obtain⟨aa,rv,p,hz⟩:=J.list Y;refine wpAny_pyIter_list p.isList ?_;refine⟨z.heap.objs.size,[z.heap.objs.size],_,_,H1,rfl,J.kept (t':=z.toks) λb o e=>Q08 _ e,C_ a _,⟨_,Q0n _ rfl,rfl,rfl⟩,λb hb=>?_,q⟩;have e:b=z.heap.objs.size:=by simpa using hb
 subst e;exact J.lD (Q00 _) (J.hok.fresh (Q00 _))
theorem kJ {l:Expr}{tl:TE}(hl:PE X l tl):PI X tg l (Dg X.K tl):=by
 intro pins s σ H R I h;refine eU (hl pins s σ H _ I h) λv z zq=>?_;obtain⟨x,H1,J,U,Y⟩:=zq;obtain⟨a,e,⟨xs,hq⟩,q⟩:=Y;subst e
 cases U;obtain⟨L,rv,p,hz⟩:=J.tuple hq;refine wpAny_pyIter_tuple (show z.heap.IsTuple a L.toArray from p) ?_;refine⟨z.heap.objs.size,[z.heap.objs.size],_,_,H1,rfl,J.kept (t':=z.toks) λb o e=>Q08 _ e,Dd a _,⟨_,Q0n _ rfl,rfl,rfl⟩,λb hb=>?_,q⟩;have e:b=z.heap.objs.size:=by simpa using hb
 subst e;exact J.lD (Q00 _) (J.hok.fresh (Q00 _))
theorem yt {pins:List (Addr × Obj)}{σ:St}{H:Hp}{s:Shared}{R:It->Hp->Prop}{E:Value->Shared->Prop}{lo hi:Int}{t u v:Tok}{tk:Nat}(I:Inv X pins σ H s)(h1: -(2 ^ 62)<=lo)(h2:lo<2 ^ 62)(J: -(2 ^ 62)<=hi)(L:hi<2 ^ 62)
 (q:R (lE lo (hi - lo).toNat) H):wpAny (model X.prog X.w) X.A (pyIter (.ref s.heap.objs.size)) (PIE X pins σ tg R) E { s with heap:=s.heap.push { cls:=.type "range",data:=.fields #[.int lo t,.int hi u,.int 1 v] },toks:=tk }:=by
 refine wpAny_pyIter_range (IsRange.new ..) (small_one h1 h2 J L) ?_;have z:Inv X pins σ H { s with heap:=s.heap.push { cls:=.type "range",data:=.fields #[.int lo t,.int hi u,.int 1 v] },toks:=tk }:=I.kept λb o e=>Q08 _ e
 refine⟨(s.heap.push { cls:=.type "range",data:=.fields #[.int lo t,.int hi u,.int 1 v] }).objs.size,[(s.heap.push { cls:=.type "range",data:=.fields #[.int lo t,.int hi u,.int 1 v] }).objs.size],_,_,H,rfl,
  z.kept (t':=tk) λb o e=>Q08 _ e,De _ lo (hi - lo).toNat,?_,λb U=>?_,q⟩
 . have Y:lo+((0:Nat):Int) * 1=lo:=by simp
   have e2:(((hi - lo).toNat:Nat):Int) - ((0:Nat):Int)=Builtin.Range.rangeSize lo hi 1:=by rw[rangeSize_one];split <;> omega
   show IsRangeIter _ _ (lo+((0:Nat):Int) * 1) ((((hi - lo).toNat:Nat):Int) - ((0:Nat):Int)) 1;rw[Y,e2];exact Q0n _ rfl
 . have e:b=(s.heap.push { cls:=.type "range",data:=.fields #[.int lo t,.int hi u,.int 1 v] }).objs.size:=by simpa using U
   subst e;exact z.lD (Q00 _) (z.hok.fresh (Q00 _))
def Dh (ta:TA):TI:=λσ H R=>ta σ H λvs H1=>∃j:Int,vs=[.int j]/\ -(2 ^ 62)<=j/\j<2 ^ 62/\R (lE 0 j.toNat) H1
def Di (ta:TA):TI:=λσ H R=>ta σ H λvs H1=>∃i j:Int,vs=[.int i,.int j]/\(-(2 ^ 62)<=i/\i<2 ^ 62/\ -(2 ^ 62)<=j/\j<2 ^ 62)/\R (lE i (j - i).toNat) H1
theorem lF {a:Expr}{ta:TA}{p pos:Pos}(J:Gl X "range")(L:X.mg "range"=none)(U:PA X [a] ta)(Y:starEach [a] X.env=[(false,eval a X.env)]:=by rfl):PI X tg (.Call (.Name "range" p) [a] [] pos) (Dh ta):=by
 intro pins s σ H R I h;refine Call_ (kG I J L boot_range (PyProof.Rows.callWith_type1 (eU (U pos pins s σ H _ I h) λus s1 zq=>?_) Y rfl));obtain⟨vs,H1,I1,r1,z⟩:=zq;obtain⟨j,e,z,q2,q⟩:=z;subst e
 cases r1 with
 |cons r rr=>
  cases rr;obtain⟨t,rfl⟩:=r;exact call_range_1 (yt I1 (by omega) (by omega) z q2 (by simpa using q))
theorem Dj {a b:Expr}{ta:TA}{p pos:Pos}(U:Gl X "range")(Y:X.mg "range"=none)(ha:PA X [a,b] ta)(hs:starEach [a,b] X.env=[(false,eval a X.env),(false,eval b X.env)]:=by rfl)(z:starEach [b] X.env=[(false,eval b X.env)]:=by rfl):
 PI X tg (.Call (.Name "range" p) [a,b] [] pos) (Di ta):=by
 intro pins s σ H R I h;refine Call_ (kG I U Y boot_range (PyProof.Rows.callWith_type1 (eU (ha pos pins s σ H _ I h) λus s1 zq=>?_) (by rw[hs,z]) (by rw[z];rfl)));obtain⟨vs,H1,I1,r1,J⟩:=zq;obtain⟨i,j,e,⟨J,q2,q3,q4⟩,q⟩:=J;subst e
 cases r1 with
 |cons r L=>
  cases L with
  |cons r' L=>
   cases L;obtain⟨t,rfl⟩:=r;obtain⟨t',rfl⟩:=r';exact call_range_2 (yt I1 J q2 q3 q4 q)
def Dk (U:TI) (g:TG) (tb:TS):TS:=λD σ H=>U σ H λJ H1=>∃W:Nat->Nat->St->Hp->Prop,(∃m,W 0 m σ H1)/\∀i m σ H,W i m σ H->
 (J.stop i H/\D.nx σ H)\/(J.go i H/\∃N:St->Hp->Prop,(∀z H',N z H'->∃L,L<m/\W (i+1) L z H')/\∀x H',J.ji i H x H'->g x σ H' λI H2=>tb { D with nx:=N,ct:=N,bk:=D.nx } I H2)
noncomputable def px (z:List Addr) (h:Heap):List (Addr × Obj):=z.filterMap λb=>(h.get? b).map λo=>(b,o)
theorem nU {z:List Addr}{h:Heap}{b:Addr}{o:Obj}(I:b∈z)(e:h.get? b=some o):(b,o)∈px z h:=List.mem_filterMap.mpr ⟨b,I,by rw[e];rfl⟩
theorem Dl {z:List Addr}{h:Heap}{p:Addr × Obj}(hp:p∈px z h):p.1∈z/\h.get? p.1=some p.2:=by
 obtain⟨b,I,e⟩:=List.mem_filterMap.mp hp
 cases q:h.get? b with
 |none=>rw[q] at e;cases e
 |some o=>
  rw[q] at e;have J:(b,o)=p:=Option.some.inj e;subst J;exact⟨I,q⟩
theorem Inv.pinned {pins:List (Addr × Obj)}{σ:St}{H:Hp}{s:Shared}{J:List Addr}(I:Inv X pins σ H s)(Y:∀b∈J,h_ X pins H b)(ho:∀b∈J,∃o,s.heap.get? b=some o/\∀v,o.data≠ .cell v):Inv X (pins++px J s.heap) σ H s:=
 I.lA λp hp=>(List.mem_append.mp hp).elim (λz=>I.pin p (Q05 _ z)) λz=>by
   obtain⟨L,e⟩:=Dl z;obtain⟨f0,f1,f2,_⟩:=Y p.1 L;obtain⟨o,U,d⟩:=ho p.1 L;rw[e] at U;cases U;exact⟨e,f0,f1,f2,d⟩
theorem Inv.kK {pins pl:List (Addr × Obj)}{σ:St}{H:Hp}{s:Shared}(I:Inv X (pins++pl) σ H s):Inv X pins σ H s:=I.lA λp hp=>I.pin p (Q05 _ (Q0r _ hp))
theorem iS {iter:Expr}{body:List Stmt}{wi:TI}{g:TG}{tb:TS}{pos:Pos}(hp:PassesOwn (model X.prog X.w) X.A X.env X.xe)(hc:X.calm=true)(hi:PI X tg iter wi)(hg:PG X tg g)(L:h9 X body tb)
 (hs:∀x,foldedSetIterable iter X.env x=pure x:=by intro _;rfl):PS X (.For tg iter body [] pos) (Dk wi g tb):=by
 intro pins s σ H D I h;refine wpAny_For (eU (hi pins s σ H _ I h) λv s1 h1=>eU h1 λal s2 h2=>?_) hs;obtain⟨it,fp,tn,J,H2,e,I2,T,ah,f2,W,⟨m0,w0⟩,turn⟩:=h2;subst e;have ac:∀{H':Hp},(∀b∈fp,H' b=none)->∀b∈fp,h_ X pins H' b:=λhn b L=>⟨hn b L,(f2 b L).2⟩;refine codeAny_forLoop_any (λn s'=>∃i aa H',Inv X pins aa H' s'/\tn i s'.heap/\(∀b∈fp,H' b=none)/\W i n aa H') ?_ m0 ⟨0,σ,H2,I2,ah,λb L=>(f2 b L).1,w0⟩;intro n s3 zq;obtain⟨i,ab,H3,I3,af,ag,w3⟩:=zq;rcases turn i n ab H3 w3 with⟨stop,qn⟩|⟨go,N,hN,step⟩
 . refine wpAny_passesOwn hp (eU (T.done X rfl rfl rfl hc i pins s3 ab H3 X.xe I3 (ac ag) af stop) λr s4 ⟨hr,I4⟩=>?_);subst hr;exact wpAny_execs_nil ⟨ab,H3,I4,qn⟩
 . refine wpAny_passesOwn hp (eU (T.item X rfl rfl rfl hc i pins s3 ab H3 X.xe I3 (ac ag) af go) λr s4 ⟨u,hr,h4⟩=>?_);subst hr;refine wpAny_passesOwn hp (eU h4 λ_ s5 zq=>?_);obtain⟨x,H5,I5,r5,y5,ae,ai⟩:=zq;have aj:=I5.pinned (ac ai) (T.obj _ _ ae);refine wpAny_passesOwn hp (eU (hg _ s5 ab H5 x u _ aj r5 (step x H5 y5)) λ_ s6 zq=>?_);obtain⟨ak,H6,I6,q6⟩:=zq;refine wpAny_passesOwn hp (eU (L _ s6 ak H6 _ I6 q6) λf s7 q7=>?_)
   have again:∀{z:St} {U:Hp},Inv X (pins++px fp s5.heap) z U s7->N z U->∃m,m<n/\∃i aa H',Inv X pins aa H' s7/\tn i s7.heap/\(∀b∈fp,H' b=none)/\W i m aa H':=λ{z U} Y n7=>by
    obtain⟨m',hm,w7⟩:=hN z U n7;refine⟨m',hm,i+1,z,U,Y.kK,T.keep _ _ _ ae λb L o e=>(Y.pin (b,o) (Q05 _ (Q05 _ (nU L e)))).1,λb L=>?_,w7⟩;obtain⟨o,e,d⟩:=T.obj _ _ ae b L;exact(Y.pin (b,o) (Q05 _ (Q05 _ (nU L e)))).2.1
   cases f with
   |next=>obtain⟨z,U,Y,n7⟩:=q7;exact again Y n7
   |cont=>obtain⟨z,U,Y,n7⟩:=q7;exact again Y n7
   |brk=>obtain⟨z,U,Y,q7⟩:=q7;exact⟨z,U,Y.kK,q7⟩
   |ret v=>obtain⟨x7,z,U,Y,r7,q7⟩:=q7;exact⟨x7,z,U,Y.kK,r7,q7⟩
end
theorem Dt {K:PySem.W.Frag}{a:Addr}{xs:List V}{g:TG}{tb:TS}{D:Ends}{σ:St}{H:Hp}(Pv:Nat->St->Hp->Prop)(U:Pv 0 σ H)(hl:∀i σ H,i<=xs.length->Pv i σ H->eG K H a xs)
 (Y:∀i x σ H,xs[i]? =some x->Pv i σ H->g x σ H λz H2=>tb { D with nx:=Pv (i+1),ct:=Pv (i+1),bk:=D.nx } z H2) (hd:∀σ H,Pv xs.length σ H->D.nx σ H):
 ∃W:Nat->Nat->St->Hp->Prop,(∃m,W 0 m σ H)/\∀i m σ H,W i m σ H->
  ((mE K a).stop i H/\D.nx σ H)\/((mE K a).go i H/\∃N:St->Hp->Prop,(∀I H',N I H'->∃L,L<m/\W (i+1) L I H')/\∀x H',(mE K a).ji i H x H'->g x σ H' λz H2=>tb { D with nx:=N,ct:=N,bk:=D.nx } z H2):=by
 refine⟨λi m σ H=>m=xs.length - i/\i<=xs.length/\Pv i σ H,⟨xs.length,by simp,Q0a _,U⟩,?_⟩;rintro i m σ H ⟨rfl,hi,p⟩;have q:=hl i σ H hi p;by_cases J:i<xs.length
 . refine .inr ⟨⟨xs,xs[i],q,by simp[J]⟩,Pv (i+1),λI H' p'=>⟨xs.length - (i+1),by omega,rfl,J,p'⟩,λx H' y=>?_⟩;obtain⟨e,y⟩:=y;subst e;exact Y i x σ _ (y xs q) p
 . have e:i=xs.length:=by omega
   subst e;exact .inl ⟨⟨xs,q,Q00 _⟩,hd σ H p⟩
theorem pz {K:PySem.W.Frag}{a:Addr}{xs:List V}{g:TG}{tb:TS}{D:Ends}{σ:St}{H:Hp}(Pv:Nat->St->Hp->Prop)(U:Pv 0 σ H)(hl:∀i σ H,i<=xs.length->Pv i σ H->eB K H a xs)
 (Y:∀i x σ H,xs[i]? =some x->Pv i σ H->g x σ H λz H2=>tb { D with nx:=Pv (i+1),ct:=Pv (i+1),bk:=D.nx } z H2) (hd:∀σ H,Pv xs.length σ H->D.nx σ H):
 ∃W:Nat->Nat->St->Hp->Prop,(∃m,W 0 m σ H)/\∀i m σ H,W i m σ H->
  ((mF K a).stop i H/\D.nx σ H)\/((mF K a).go i H/\∃N:St->Hp->Prop,(∀I H',N I H'->∃L,L<m/\W (i+1) L I H')/\∀x H',(mF K a).ji i H x H'->g x σ H' λz H2=>tb { D with nx:=N,ct:=N,bk:=D.nx } z H2):=by
 refine⟨λi m σ H=>m=xs.length - i/\i<=xs.length/\Pv i σ H,⟨xs.length,by simp,Q0a _,U⟩,?_⟩;rintro i m σ H ⟨rfl,hi,p⟩;have q:=hl i σ H hi p;by_cases J:i<xs.length
 . refine .inr ⟨⟨xs,xs[i],q,by simp[J]⟩,Pv (i+1),λI H' p'=>⟨xs.length - (i+1),by omega,rfl,J,p'⟩,λx H' y=>?_⟩;obtain⟨e,y⟩:=y;subst e;exact Y i x σ _ (y xs q) p
 . have e:i=xs.length:=by omega
   subst e;exact .inl ⟨⟨xs,q,Q00 _⟩,hd σ H p⟩
theorem kL {lo:Int}{n:Nat}{g:TG}{tb:TS}{D:Ends}{σ:St}{H:Hp}(Pv:Nat->St->Hp->Prop)(U:Pv 0 σ H)
 (Y:∀i σ H,i<n->Pv i σ H->g (.int (lo+i)) σ H λz H2=>tb { D with nx:=Pv (i+1),ct:=Pv (i+1),bk:=D.nx } z H2) (hd:∀σ H,Pv n σ H->D.nx σ H):
 ∃W:Nat->Nat->St->Hp->Prop,(∃m,W 0 m σ H)/\∀i m σ H,W i m σ H->
  ((lE lo n).stop i H/\D.nx σ H)\/((lE lo n).go i H/\∃N:St->Hp->Prop,(∀I H',N I H'->∃L,L<m/\W (i+1) L I H')/\∀x H',(lE lo n).ji i H x H'->g x σ H' λz H2=>tb { D with nx:=N,ct:=N,bk:=D.nx } z H2):=by
 refine⟨λi m σ H=>m=n - i/\i<=n/\Pv i σ H,⟨n,by simp,Q0a _,U⟩,?_⟩;rintro i m σ H ⟨rfl,hi,p⟩;by_cases J:i<n
 . refine .inr ⟨J,Pv (i+1),λI H' p'=>⟨n - (i+1),by omega,rfl,J,p'⟩,λx H' y=>?_⟩;obtain⟨e,y⟩:=y;subst e y;exact Y i σ _ J p
 . have e:i=n:=by omega
   subst e;exact .inl ⟨Q00 _,hd σ H p⟩
noncomputable abbrev R2:=V->V->Hp->VK->Prop
def gA (X:Cx) (f:Value->Value->Sem Value) (r:R2):Prop:=
 ∀(pins:List (Addr × Obj)) (s:Shared) (σ:St) (H:Hp) (x y:V) (v u:Value) (Q:VK),Inv X pins σ H s->RelV x v->RelV y u->r x y H Q->
  wpAny (model X.prog X.w) X.A (f v u) (EP X pins σ Q) X.xe s
def rD (X:Cx) (f:Value->Sem Value) (r:V->Hp->VK->Prop):Prop:=
 ∀(pins:List (Addr × Obj)) (s:Shared) (σ:St) (H:Hp) (x:V) (v:Value) (Q:VK),Inv X pins σ H s->RelV x v->r x H Q->
  wpAny (model X.prog X.w) X.A (f v) (EP X pins σ Q) X.xe s
def iT (X:Cx) (f:Value) (r:List V->Hp->VK->Prop):Prop:=
 ∀(pins:List (Addr × Obj)) (s:Shared) (σ:St) (H:Hp) (xs:List V) (us:List Value) (Q:VK),Inv X pins σ H s->Vals xs us->r xs H Q->
  wpAny (model X.prog X.w) X.A (call f us) (EP X pins σ Q) X.xe s
def f_ (r:R2) (ta tb:TE):TE:=λσ H Q=>ta σ H λx H1=>tb σ H1 λy H2=>r x y H2 Q
def Dv (r:V->Hp->VK->Prop) (ta:TE):TE:=λσ H Q=>ta σ H λx H1=>r x H1 Q
def rI (C:Int->Int->Prop) (g:Int->Int->V):R2:=λx y H Q=>∃i j,x=.int i/\y=.int j/\C i j/\Q (g i j) H
def lG (g:Int->Int->V):R2:=λx y H Q=>∃i j,x=.int i/\y=.int j/\Q (g i j) H
def rU (g:Int->V):V->Hp->VK->Prop:=λx H Q=>∃i,x=.int i/\Q (g i) H
section
variable {X:Cx}{a b c:Expr}{ta tb tc:TE}{pos:Pos}
theorem rE (U:PE X a ta)(Y:PE X b tb){pins:List (Addr × Obj)}{s:Shared}{σ:St}{H:Hp}{R:V->V->Hp->Prop}(I:Inv X pins σ H s)
 (h:ta σ H λx H1=>tb σ H1 λy H2=>R x y H2) {Q:Value->Shared->Prop} {f:Value->Value->Sem Value}
 (hf:∀v u L x y H2,Inv X pins σ H2 L->RelV x v->RelV y u->R x y H2->wpAny (model X.prog X.w) X.A (f v u) Q X.xe L):
 wpAny (model X.prog X.w) X.A (eval a X.env) (λv z=>wpAny (model X.prog X.w) X.A (eval b X.env) (λu J=>wpAny (model X.prog X.w) X.A (f v u) Q X.xe J) X.xe z) X.xe s:=by
 refine eU (U pins s σ H _ I h) λv s1 zq=>?_;obtain⟨x,H1,I1,r1,q1⟩:=zq;refine eU (Y pins s1 σ H1 _ I1 q1) λu L zq=>?_;obtain⟨y,H2,I2,r2,q2⟩:=zq;exact hf v u L x y H2 I2 r1 r2 q2
theorem eJ {op:Operator}{r:R2}(z:gA X (binaryOp op) r)(J:PE X a ta)(L:PE X b tb):PE X (.BinOp a op b pos) (f_ r ta tb):=by
 intro pins s σ H Q I h;exact wpAny_BinOp (rE J L I h λv u U x y H2 Y rx ry q=>z pins U σ H2 x y v u Q Y rx ry q)
theorem Dw {op:UnaryOp}{r:V->Hp->VK->Prop}(z:rD X (unaryOp op) r)(J:PE X a ta):PE X (.UnaryOp op a pos) (Dv r ta):=by
 intro pins s σ H Q I h;exact UnaryOp_ (eU (J pins s σ H _ I h) λv L ⟨x,H1,U,Y,q1⟩=>z pins L σ H1 x v Q U Y q1)
theorem pA {f:Value->Value->Sem Value}{C:Int->Int->Prop}{g:Int->Int->Int}
 (rule:∀(i j:Int) (t u:Tok) (s:Shared) (Q:Value->Shared->Prop) (E:Value->Shared->Prop),C i j->Q (.int (g i j) s.toks) { s with toks:=s.toks+1 }->wpAny (model X.prog X.w) X.A (f (.int i t) (.int j u)) Q E s):
 gA X f (rI C λi j=>.int (g i j)):=by
 intro pins s σ H x y v u Q I z J h;obtain⟨i,j,rfl,rfl,hc,q⟩:=h;obtain⟨t,rfl⟩:=z;obtain⟨t',rfl⟩:=J;exact rule i j t t' s _ _ hc ⟨.int (g i j),H,I.tok _,⟨_,rfl⟩,q⟩
theorem yu {f:Value->Value->Sem Value}{g:Int->Int->Int}
 (rule:∀(i j:Int) (t u:Tok) (s:Shared) (Q:Value->Shared->Prop) (E:Value->Shared->Prop),Q (.int (g i j) s.toks) { s with toks:=s.toks+1 }->wpAny (model X.prog X.w) X.A (f (.int i t) (.int j u)) Q E s):
 gA X f (lG λi j=>.int (g i j)):=by
 intro pins s σ H x y v u Q I z J h;obtain⟨i,j,rfl,rfl,q⟩:=h;obtain⟨t,rfl⟩:=z;obtain⟨t',rfl⟩:=J;exact rule i j t t' s _ _ ⟨.int (g i j),H,I.tok _,⟨_,rfl⟩,q⟩
theorem rF {f:Value->Value->Sem Value}{g:Int->Int->Bool}
 (rule:∀(i j:Int) (t u:Tok) (s:Shared) (Q:Value->Shared->Prop) (E:Value->Shared->Prop),Q (.bool (g i j)) s->wpAny (model X.prog X.w) X.A (f (.int i t) (.int j u)) Q E s):
 gA X f (lG λi j=>.bl (g i j)):=by
 intro pins s σ H x y v u Q I z J h;obtain⟨i,j,rfl,rfl,q⟩:=h;obtain⟨t,rfl⟩:=z;obtain⟨t',rfl⟩:=J;exact rule i j t t' s _ _ ⟨.bl (g i j),H,I,rfl,q⟩
def Dx (i j:Int):Prop:=0<j/\j<1073741824
def rG (i j:Int):Prop:=0<=j/\j<=1000000/\i.natAbs<2 ^ 64
def rH (i j:Int):Prop:=(-(2 ^ 64)<i/\i<2 ^ 64)\/(-(2 ^ 64)<j/\j<2 ^ 64)
theorem rH.ok {i j:Int}(h:rH i j):IntMulOk i j:=by
 rcases h with⟨h1,h2⟩|⟨h1,h2⟩
 . exact .of_left (intBits_le_64 h1 h2)
 . exact .of_right (intBits_le_64 h1 h2)
theorem g7:gA X (binaryOp .Add) (lG λi j=>.int (i+j)):=yu λ_ _ _ _ _ _ _ q=>add_int q
theorem jN:gA X (binaryOp .Sub) (lG λi j=>.int (i - j)):=yu λ_ _ _ _ _ _ _ q=>sub_int q
theorem j8:gA X (binaryOp .Mult) (rI rH λi j=>.int (i * j)):=pA λ_ _ _ _ _ _ _ hc q=>mul_int q hc.ok
theorem gm:gA X (binaryOp .FloorDiv) (rI Dx λi j=>.int (i / j)):=pA λi j _ _ _ _ _ hc q=>by
 have h1:(0:Int)<j:=hc.1;have h2:j<1073741824:=hc.2;exact floordiv_int (by omega) (by rw[Int.fdiv_eq_ediv_of_nonneg i (by omega)];exact q) (.inl (PyProof.noPylong_small (by omega)))
theorem fv:gA X (binaryOp .Mod) (rI (λ_ j=>0<j) λi j=>.int (i % j)):=pA λi j _ _ _ _ _ hc q=>by
 have h1:(0:Int)<j:=hc;exact mod_int' (by omega) (by rw[Int.fmod_eq_emod_of_nonneg i (by omega)];exact q)
theorem pB:gA X (binaryOp .Pow) (rI rG λi j=>.int (i ^ j.toNat)):=pA λ_ _ _ _ _ _ _ hc q=>pow_int_small hc.1 hc.2.1 hc.2.2 q
theorem Dy {f:Value->Sem Value}{g:Int->Int}
 (rule:∀(i:Int) (t:Tok) (s:Shared) (Q:Value->Shared->Prop) (E:Value->Shared->Prop),Q (.int (g i) s.toks) { s with toks:=s.toks+1 }->wpAny (model X.prog X.w) X.A (f (.int i t)) Q E s):
 rD X f (rU λi=>.int (g i)):=by
 intro pins s σ H x v Q I z h;obtain⟨i,rfl,q⟩:=h;obtain⟨t,rfl⟩:=z;exact rule i t s _ _ ⟨.int (g i),H,I.tok _,⟨_,rfl⟩,q⟩
theorem DA:rD X (unaryOp .USub) (rU λi=>.int (-i)):=Dy λ_ _ _ _ _ q=>neg_int q
end
noncomputable def yw:V->V->Bool
 | .non,.non=>true| .non,.int _=>true| .int _,.non=>true| .non,.bl _=>true| .bl _,.non=>true| .non,.str _=>true| .str _,.non=>true
 | .int _,.int _=>true| .bl _,.bl _=>true| .str _,.str _=>true| .jf _,.jf _=>true
 | .int _,.str _=>true| .str _,.int _=>true| .bl _,.str _=>true| .str _,.bl _=>true
 |_,_=>false
def j9:R2:=λx y H Q=>yw x y=true/\Q (.bl (decide (x=y))) H
def yx:R2:=λx y H Q=>yw x y=true/\Q (.bl (!decide (x=y))) H
theorem yy {i j:Int}:decide (V.int i=V.int j)=(i == j):=by
 rw[Bool.eq_iff_iff];simp
theorem yz {i j:Bool}:decide (V.bl i=V.bl j)=(i == j):=by
 rw[Bool.eq_iff_iff];simp
theorem yA {i j:Str}:decide (V.str i=V.str j)=(i == j):=by
 rw[Bool.eq_iff_iff];simp
theorem yB {i j:Array UInt8}:decide (V.jf i=V.jf j)=(i.toList == j.toList):=by
 rw[Bool.eq_iff_iff]
 cases i
 cases j;simp
section
variable {X:Cx}{a b c:Expr}{ta tb tc:TE}{pos:Pos}
theorem gn {pins:List (Addr × Obj)}{σ:St}{H:Hp}{s:Shared}{Q:VK}{k z:Bool}(I:Inv X pins σ H s)(q:Q (.bl k) H)(e:k=z):EP X pins σ Q (.bool z) s:=by
 subst e;exact⟨.bl k,H,I,rfl,q⟩
theorem fE:gA X (compareOp .Eq) j9:=by
 intro pins s σ H x y v u Q I L z h;obtain⟨J,q⟩:=h
 cases x with
 |non=>
  cases L
  cases y with
  |non=>cases z;exact PySem.EqNone.eq_none_none (gn I q (by simp))
  |bl j=>cases z;exact PySem.EqNone.eq_none_bool (gn I q (by simp))
  |int j=>obtain⟨t',rfl⟩:=z;exact PySem.EqNone.eq_none_int (gn I q (by simp))
  |str j=>obtain⟨t',rfl⟩:=z;exact PySem.EqNone.eq_none_str (gn I q (by simp))
  |_=>exact absurd (show false=true from J) Bool.false_ne_true
 |bl i=>
  cases L
  cases y with
  |non=>cases z;exact PySem.EqNone.eq_bool_none (gn I q (by simp))
  |bl j=>cases z;exact eq_bool (gn I q yz)
  |str j=>obtain⟨t',rfl⟩:=z;exact PySem.EqMixed.eq_bool_str (gn I q (by simp))
  |_=>exact absurd (show false=true from J) Bool.false_ne_true
 |int i=>
  obtain⟨t,rfl⟩:=L
  cases y with
  |non=>cases z;exact PySem.EqNone.eq_int_none (gn I q (by simp))
  |int j=>obtain⟨t',rfl⟩:=z;exact eq_int (gn I q yy)
  |str j=>obtain⟨t',rfl⟩:=z;exact PySem.EqMixed.eq_int_str (gn I q (by simp))
  |_=>exact absurd (show false=true from J) Bool.false_ne_true
 |str i=>
  obtain⟨t,rfl⟩:=L
  cases y with
  |non=>cases z;exact PySem.EqNone.eq_str_none (gn I q (by simp))
  |bl j=>cases z;exact PySem.EqMixed.eq_str_bool (gn I q (by simp))
  |int j=>obtain⟨t',rfl⟩:=z;exact PySem.EqMixed.eq_str_int (gn I q (by simp))
  |str j=>obtain⟨t',rfl⟩:=z;exact eq_str (gn I q yA)
  |_=>exact absurd (show false=true from J) Bool.false_ne_true
 |jf i=>
  obtain⟨t,rfl⟩:=L
  cases y with
  |jf j=>obtain⟨t',rfl⟩:=z;exact W.eq_bytes (gn I q yB)
  |_=>exact absurd (show false=true from J) Bool.false_ne_true
 |_=>cases y <;> exact absurd (show false=true from J) Bool.false_ne_true
theorem jj:gA X (compareOp .NotEq) yx:=by
 intro pins s σ H x y v u Q I L z h;obtain⟨J,q⟩:=h
 cases x with
 |non=>
  cases L
  cases y with
  |non=>cases z;exact PySem.EqNone.ne_none_none (gn I q (by simp))
  |bl j=>cases z;exact PySem.EqNone.ne_none_bool (gn I q (by simp))
  |int j=>obtain⟨t',rfl⟩:=z;exact PySem.EqNone.ne_none_int (gn I q (by simp))
  |str j=>obtain⟨t',rfl⟩:=z;exact PySem.EqNone.ne_none_str (gn I q (by simp))
  |_=>exact absurd (show false=true from J) Bool.false_ne_true
 |bl i=>
  cases L
  cases y with
  |non=>cases z;exact PySem.EqNone.ne_bool_none (gn I q (by simp))
  |bl j=>cases z;exact ne_bool (gn I q (congrArg not yz))
  |str j=>obtain⟨t',rfl⟩:=z;exact PySem.EqMixed.ne_bool_str (gn I q (by simp))
  |_=>exact absurd (show false=true from J) Bool.false_ne_true
 |int i=>
  obtain⟨t,rfl⟩:=L
  cases y with
  |non=>cases z;exact PySem.EqNone.ne_int_none (gn I q (by simp))
  |int j=>obtain⟨t',rfl⟩:=z;exact ne_int (gn I q (congrArg not yy))
  |str j=>obtain⟨t',rfl⟩:=z;exact PySem.EqMixed.ne_int_str (gn I q (by simp))
  |_=>exact absurd (show false=true from J) Bool.false_ne_true
 |str i=>
  obtain⟨t,rfl⟩:=L
  cases y with
  |non=>cases z;exact PySem.EqNone.ne_str_none (gn I q (by simp))
  |bl j=>cases z;exact PySem.EqMixed.ne_str_bool (gn I q (by simp))
  |int j=>obtain⟨t',rfl⟩:=z;exact PySem.EqMixed.ne_str_int (gn I q (by simp))
  |str j=>obtain⟨t',rfl⟩:=z;exact ne_str (gn I q (congrArg not yA))
  |_=>exact absurd (show false=true from J) Bool.false_ne_true
 |jf i=>
  obtain⟨t,rfl⟩:=L
  cases y with
  |jf j=>obtain⟨t',rfl⟩:=z;exact W.ne_bytes (gn I q (congrArg not yB))
  |_=>exact absurd (show false=true from J) Bool.false_ne_true
 |_=>cases y <;> exact absurd (show false=true from J) Bool.false_ne_true
theorem mG:gA X (compareOp .Lt) (lG λi j=>.bl (decide (i<j))):=rF λ_ _ _ _ _ _ _ q=>lt_int q
theorem yC:gA X (compareOp .LtE) (lG λi j=>.bl (decide (i<=j))):=rF λ_ _ _ _ _ _ _ q=>le_int q
theorem mH:gA X (compareOp .Gt) (lG λi j=>.bl (decide (j<i))):=rF λ_ _ _ _ _ _ _ q=>gt_int q
theorem rJ:gA X (compareOp .Is) (λx y H Q=>y=.non/\Q (.bl (decide (x=.non))) H):=by
 intro pins s σ H x y v u Q I z J h;obtain⟨rfl,q⟩:=h
 cases J;refine is_none_gen (gn I q ?_)
 cases x <;> first
  |(cases z;rfl)
  |(obtain⟨t,rfl⟩:=z;rfl)
theorem mI:gA X (compareOp .IsNot) (λx y H Q=>y=.non/\Q (.bl (!decide (x=.non))) H):=by
 intro pins s σ H x y v u Q I z J h;obtain⟨rfl,q⟩:=h
 cases J;refine isnot_none_gen (gn I q ?_)
 cases x <;> first
  |(cases z;rfl)
  |(obtain⟨t,rfl⟩:=z;rfl)
theorem eT (b:Expr){op:CmpOp}(h:op≠ .In:=by decide)(h2:op≠ .NotIn:=by decide):behindInMarks op b=false:=by
 have z:(op == CmpOp.In)=false:=by cases op <;> first|rfl|exact absurd rfl h
 have I:(op == CmpOp.NotIn)=false:=by cases op <;> first|rfl|exact absurd rfl h2
 cases b <;> simp[behindInMarks,z,I]
theorem jk {op:CmpOp}{r:R2}(z:gA X (compareOp op) r)(J:PE X a ta)(L:PE X b tb)(U:behindInMarks op b=false):PE X (.Compare a [op] [b] pos) (f_ r ta tb):=by
 intro pins s σ H Q I h;exact wpAny_Compare1 (rE J L I h λv u Y x y H2 I2 rx ry q=>z pins Y σ H2 x y v u Q I2 rx ry q) U
def jO (t:TE):TT:=λσ H Q=>t σ H λx H'=>∃k,x=.bl k/\Q k H'
theorem eW {op:CmpOp}{r:R2}(J:gA X (compareOp op) r)(L:PE X a ta)(U:PE X b tb)(Y:behindInMarks op b=false):PT X (.Compare a [op] [b] pos) (jO (f_ r ta tb)):=by
 intro pins s σ H Q I h
 refine wpAny_isTrue_Compare1 (eU (L pins s σ H _ I h) λv s1 ⟨x,H1,I1,r1,q1⟩=>eU (U pins s1 σ H1 _ I1 q1) λu s2 ⟨y,H2,I2,r2,q2⟩=>
  eU (J pins s2 σ H2 x y v u _ I2 r1 r2 q2) λc s3 ⟨z,H3,I3,r3,k,e,q3⟩=>?_) Y
 subst e
 cases r3;exact wpAny_truthy_bool ⟨H3,I3,q3⟩
theorem mJ:(sizeLine:Nat)<2 ^ 63:=by rw[sizeLine_eq];decide
theorem nV:gA X (binaryOp .Add) (λx y H Q=>∃i j,x=.str i/\y=.str j/\i.length+j.length<=sizeLine/\Q (.str (i++j)) H):=by
 intro pins s σ H x y v u Q I z J h;obtain⟨i,j,rfl,rfl,L,q⟩:=h;obtain⟨t,rfl⟩:=z;obtain⟨t',rfl⟩:=J;exact add_str (λt' tk=>⟨.str (i++j),H,I.tok _,⟨_,rfl⟩,q⟩) L
theorem vals1 {x:V}{us:List Value}(r:Vals [x] us):∃u,us=[u]/\RelV x u:=by
 cases r with
 |cons z I=>cases I;exact⟨_,rfl,z⟩
theorem vals2 {x y:V}{us:List Value}(r:Vals [x,y] us):∃u z,us=[u,z]/\RelV x u/\RelV y z:=by
 cases r with
 |cons I J=>
  cases J with
  |cons L U=>cases U;exact⟨_,_,rfl,I,L⟩
theorem DB (hc:X.calm=true):iT X (.builtin "min") (λxs H Q=>∃i j,xs=[.int i,.int j]/\Q (.int (if j<i then j else i)) H):=by
 intro pins s σ H xs us Q I r h;obtain⟨i,j,rfl,q⟩:=h;obtain⟨u,J,rfl,⟨t,rfl⟩,⟨t',rfl⟩⟩:=vals2 r;refine min_two_ints (I.ok.hd hc) λh' tk k=>⟨_,H,I.kept k,?_,q⟩;by_cases z:j<i
 . rw[if_pos z,if_pos z];exact⟨_,rfl⟩
 . rw[if_neg z,if_neg z];exact⟨_,rfl⟩
theorem DC:iT X (.type "int") (λxs H Q=>(∃i,xs=[.int i]/\Q (.int i) H)\/∃k,xs=[.bl k]/\Q (.int (if k then 1 else 0)) H):=by
 intro pins s σ H xs us Q I r h;rcases h with⟨i,rfl,q⟩|⟨k,rfl,q⟩
 . obtain⟨u,rfl,t,rfl⟩:=vals1 r;exact call_int_int ⟨.int i,H,I,⟨_,rfl⟩,q⟩
 . obtain⟨u,rfl,z⟩:=vals1 r
   cases z;exact call_int_bool ⟨.int (if k then 1 else 0),H,I.tok _,⟨_,rfl⟩,q⟩
end
structure lH (h:Heap) (x dx C:Addr) (mA:Str->Option Value):Prop where
 obj:h.get? x=some (W.instObj C dx)
 ns:h.Ns1 dx mA
 ne:dx≠x
theorem DE {h:Heap}{dx:Addr}{mA:Str->Option Value}(n:h.Ns1 dx mA):∃J,h.get? dx=some J/\∀name,W.lookIn name J=some (mA name):=by
 obtain⟨o,es,ep,L,U,Y,_,hm⟩:=n;refine⟨o,L,λname=>?_⟩;have e:=hm name;unfold nsFind findBy at e;rw[<-Q2p] at e;unfold W.lookIn;rw[U];dsimp only;split
 . rename_i y q;rw[q] at e;exact congrArg some e
 . rename_i q;rw[q] at e
   have a:es.toList.any (·.refKey)=false:=by
    rw[List.any_eq_false];intro y hy;obtain⟨z,t,I⟩:=Y y (Array.mem_toList_iff.mp hy);simp[DictEntry.refKey,I]
   have a':¬es.toList.any (·.refKey)=true:=by rw[a];exact Bool.false_ne_true
   rw[if_neg a'];exact congrArg some e
theorem lH.look {h:Heap}{x dx C:Addr}{mA:Str->Option Value}(I:lH h x dx C mA):∃z,W.InstAt h x (W.instObj C dx) C (some z)/\∀name,W.lookIn name z=some (mA name):=
 let⟨z,J,hl⟩:=DE I.ns
 ⟨z,⟨I.obj,rfl,rfl,J⟩,hl⟩
section
variable {prog:Program}{w:World}{A:Around}{E:Value->Shared->Prop}{s:Shared}{K:W.Frag}{x dx C f:Addr}{mA:Str->Option Value}{name:Str}{v:Value}
theorem get_map {z:Bool}{Q:Value->Shared->Prop}(X:K.In s.heap)(I:lH s.heap x dx C mA)(U:W.plainGet K C name=true)(Y:W.hasDictIn K C=true)
 (ha:W.findIn K (.ref C) name=some none) (hv:mA name=some v) (L:W.handedIn v=true) (h:Q v { s with toks:=s.toks+1 }):
 wpAny (model prog w) A (getAttr (.ref x) name z) Q E s:=by
 obtain⟨od,J,hl⟩:=I.look;exact W.get_value X J (W.plainGet_of U).1 (W.findObj_own Y ha rfl (by rw[hl,hv])) L h
theorem DF {pl:Sem Bool}{Q:Value × List Value->Shared->Prop}(X:K.In s.heap)(I:lH s.heap x dx C mA)(z:W.plainGet K C name=true)
 (L:W.findIn K (.ref C) name=some (some (.ref f))) (ht:W.isFn K (.ref f)=true) (U:mA name=none) (h:Q (.ref f,[.ref x]) s):
 wpAny (model prog w) A (getMethod (.ref x) name pl) Q E s:=by
 obtain⟨Y,J,hl⟩:=I.look;exact W.method_fn X J (W.plainGet_of z).1 (W.plainGet_of z).2 L (beq_iff_eq.mp ht) (by show(W.lookIn name Y).map (·.isSome)=some false;rw[hl,U];rfl) h
theorem DG {ns:List Str}{Q:Unit->Shared->Prop}(X:K.In s.heap)(I:lH s.heap x dx C mA)
 (hs:W.findIn K (.ref C) "__setattr__"=some (some (.builtin "object.__setattr__"))) (hp:W.plainOver K C=true) (ht:W.takerIn K C name=some none) (hh:W.hasDictIn K C=true)
 (hw:PySem.Within mA ns) (hsz:ns.length<=sizeLine)
 (h:∀h',lH h' x dx C (λy=>if y=name then some v else mA y)->Heap.SameBut dx s.heap h'->Q () { s with heap:=h',toks:=s.toks+2 }):
 wpAny (model prog w) A (setAttr (.ref x) name v) Q E s:=by
 obtain⟨od,J,hl⟩:=I.look;refine W.set_plain X J hs (W.osa_open (s:={ s with toks:=s.toks+1 }) (r:=none) X J hp ht λb=>?_);obtain⟨cd,hc,U⟩:=W.any_some hh;have hx:s.heap.get? x=some ⟨.ref C,some dx,.plain,#[]⟩:=I.obj;refine Q0 (Q09 (Q0 (Q0 (wpAny_loadPart hx (Q0 (W.Looks.here (s:={ s with toks:=s.toks+1 }) (W.looks_clsIn X hc) ?_))))));rw[U];refine Q09 (a:=some dx) (Q0 (Q09 (Q0 ?_)));refine wpAny_nsSet1 (s:={ s with toks:=s.toks+1 }) I.ns λh' z L=>?_;obtain⟨oD,ac,ae,Y,aa,ab⟩:=z.count (PySem.Within.cons name v hw);refine Q0 (wpAny_lookBehind Y (by rw[aa];exact pastItsLine_dict (Q0f ab (by rw[Q0g];omega))) ?_);exact Q09 (h _ ⟨(L.2 _ (Ne.symm I.ne)).trans I.obj,z,I.ne⟩ L)
theorem DH {R:Result->Shared->Prop}{vs:List Value}{z:List (Str × Value)}(X:K.In s.heap)(I:W.makesIn K C=true)
 (hi:W.findIn K (.ref C) "__init__"=some (some (.ref f))) (J:W.typeIn K (.ref f)=some (.type "function"))
 (h:codeAny (model prog w) (A.under (.builtin "type.__call__" ⟨.ref C::vs,z⟩)) (.call (.ref f) ⟨.ref (s.heap.objs.size+1)::vs,z⟩) (W.InitBack (s.heap.objs.size+1) R)
   { s with heap:=(s.heap.push W.emptyDict).push (W.instObj C s.heap.objs.size) }):
 codeAny (model prog w) A (.call (.ref C) ⟨vs,z⟩) R s:=by
 obtain⟨L,g,d,t,os⟩:=s;exact W.make_core (W.makes_of X I) (W.looks_findIn X hi) (λself=>W.bind_fn X self J) (.inl rfl) h
end
noncomputable def iC (f:Str) (v:V):List (Str × V)->List (Str × V)
 |[]=>[(f,v)]
 |(g,x)::r=>if g=f then(g,v)::r else(g,x)::iC f v r
theorem yD (f g:Str)(v:V):∀fs:List (Str × V),(iC f v fs).lookup g=if g=f then some v else fs.lookup g
 |[]=>by
  show List.lookup g [(f,v)]=_;by_cases h:g=f
  . have z:(g == f)=true:=beq_iff_eq.mpr h;simp only[List.lookup,z,if_pos h]
  . have z:(g == f)=false:=beq_eq_false_iff_ne.mpr h;simp only[List.lookup,z,if_neg h]
 |(k,x)::r=>by
  have J:=yD f g v r;rw[show iC f v ((k,x)::r)=(if k=f then(k,v)::r else(k,x)::iC f v r) from rfl];by_cases I:k=f
  . rw[if_pos I];by_cases h:g=k
    . have z:(g == k)=true:=beq_iff_eq.mpr h;simp only[List.lookup,z,if_pos (h.trans I)]
    . have z:(g == k)=false:=beq_eq_false_iff_ne.mpr h;simp only[List.lookup,z,if_neg (λe:g=f=>h (e.trans I.symm))]
  . rw[if_neg I];by_cases h:g=k
    . have z:(g == k)=true:=beq_iff_eq.mpr h;simp only[List.lookup,z,if_neg (λe:g=f=>I (h.symm.trans e))]
    . have z:(g == k)=false:=beq_eq_false_iff_ne.mpr h;simp only[List.lookup,z];exact J
theorem rK (f:Str)(v:V):∀fs:List (Str × V),f∈(iC f v fs).map (·.1)/\∀g,g∈fs.map (·.1)->g∈(iC f v fs).map (·.1)
 |[]=>⟨by simp[iC],λg h=>by simp at h⟩
 |(k,x)::r=>by
  obtain⟨I,J⟩:=rK f v r;rw[show iC f v ((k,x)::r)=(if k=f then(k,v)::r else(k,x)::iC f v r) from rfl];by_cases z:k=f
  . rw[if_pos z];subst z;exact⟨by simp,λg h=>by simpa using h⟩
  . rw[if_neg z];refine⟨?_,λg h=>?_⟩
    . rw[Q0x];exact Q0e _ I
    . rw[Q0x] at h ⊢;rcases List.mem_cons.mp h with e|e
      . exact List.mem_cons.mpr (.inl e)
      . exact Q0e _ (J g e)
theorem yE (f:Str)(v:V):∀fs:List (Str × V),(iC f v fs).length<=fs.length+1
 |[]=>by simp[iC]
 |(k,x)::r=>by
  have I:=yE f v r;rw[show iC f v ((k,x)::r)=(if k=f then(k,v)::r else(k,x)::iC f v r) from rfl];by_cases z:k=f
  . rw[if_pos z,Q0g,Q0g];omega
  . rw[if_neg z,Q0g,Q0g];omega
theorem ib.some_of {v:V}{o:Option Value}(r:ib (some v) o):∃u,o=some u/\RelV v u:=by
 cases o with
 |none=>exact(show False from r).elim
 |some u=>exact⟨u,rfl,r⟩
theorem ib.none_of {o:Option Value}(r:ib none o):o=none:=by
 cases o with
 |none=>rfl
 |some u=>exact(show False from r).elim
theorem yF {v:V}{u:Value}(r:RelV v u):W.handedIn u=true:=by
 cases v with
 |non=>cases(show u=Value.none from r);rfl
 |bl b=>cases(show u=Value.bool b from r);rfl
 |int i=>obtain⟨t,e⟩:=(show ∃t,u=Value.int i t from r);cases e;rfl
 |str x=>obtain⟨t,e⟩:=(show ∃t,u=Value.str x t from r);cases e;rfl
 |jf b=>obtain⟨t,e⟩:=(show ∃t,u=Value.bytes b t from r);cases e;rfl
 |flt b=>obtain⟨t,e⟩:=(show ∃t,u=Value.float b t from r);cases e;rfl
 |ref a=>cases(show u=Value.ref a from r);rfl
 |ty n=>cases(show u=Value.type n from r);rfl
section
variable {P:Program}{w:World}{H H':Hp}{h h':Heap}{a C dx:Addr}{fs fs':List (Str × V)}
theorem pC (I:f9 P w H h)(e:H a=some (.ins C dx fs)):∃mA,lH h a dx C mA/\(∀f,ib (fs.lookup f) (mA f))/\PySem.Within mA (fs.map (·.1))/\fs.length<=1000/\H dx=some (.own a):=by
 obtain⟨d,z,J,L,mA,n,r,q⟩:=(show gh P w H h a (.ins C dx fs) from I a _ e);exact⟨mA,⟨L,n,J⟩,r,q,z,d⟩
end
structure Cls (K:W.Frag) (C:Addr):Prop where
 pg:W.plainGet K C Str.empty=true
 hd:W.hasDictIn K C=true
 po:W.plainOver K C=true
 sa:W.findIn K (.ref C) "__setattr__"=some (some (.builtin "object.__setattr__"))
theorem Cls.get {K:W.Frag}{C:Addr}(c:Cls K C)(f:Str):W.plainGet K C f=true:=c.pg
def lJ (K:W.Frag) (C:Addr) (f:Str):Prop:=W.findIn K (.ref C) f=some none
theorem lJ.taker {K:W.Frag}{C:Addr}{f:Str}(n:lJ K C f):W.takerIn K C f=some none:=by
 unfold W.takerIn;rw[show W.findIn K (.ref C) f=some none from n];rfl
structure Meth (K:W.Frag) (C:Addr) (m:Str) (f:Addr):Prop where
 at_:W.findIn K (.ref C) m=some (some (.ref f))
 fn:W.isFn K (.ref f)=true
 kp:W.keepIn K (.ref f)=true
section
variable {X:Cx}{pins:List (Addr × Obj)}{σ:St}{H:Hp}{s:Shared}{a C dx:Addr}{fs:List (Str × V)}{f:Str}{v:V}{A:Around}{E:Value->Shared->Prop}
theorem DJ {b:Bool}{Q:Value->Shared->Prop}(I:Inv X pins σ H s)(e:H a=some (.ins C dx fs))(c:Cls X.K C)(n:lJ X.K C f)(l:fs.lookup f=some v)
 (h:∀u s',Inv X pins σ H s'->RelV v u->Q u s'):wpAny (model X.prog X.w) A (getAttr (.ref a) f b) Q E s:=by
 obtain⟨mA,O,r,_,_,_⟩:=pC I.hok e;obtain⟨u,J,z⟩:=ib.some_of (v:=v) (o:=mA f) (by rw[<-l];exact r f);exact get_map I.gi O (c.get f) c.hd n J (yF z) (h u _ (I.tok _) z)
theorem rL {m:Str}{g:Addr}{pl:Sem Bool}{Q:Value × List Value->Shared->Prop}(I:Inv X pins σ H s)(e:H a=some (.ins C dx fs))(c:Cls X.K C)(k:Meth X.K C m g)(l:fs.lookup m=none)
 (h:Q (.ref g,[.ref a]) s):wpAny (model X.prog X.w) A (getMethod (.ref a) m pl) Q E s:=by
 obtain⟨mA,O,r,_,_,_⟩:=pC I.hok e;have z:mA m=none:=ib.none_of (by rw[<-l];exact r m);exact DF I.gi O (c.get m) k.at_ k.fn z h
theorem DK {y:V}{u:Value}{Q:Unit->Shared->Prop}(I:Inv X pins σ H s)(e:H a=some (.ins C dx fs))(c:Cls X.K C)(n:lJ X.K C f)(hl:fs.length<1000)(Y:RelV y u)
 (h:∀s',Inv X pins σ (upd H a (.ins C dx (iC f y fs))) s'->Q () s'):wpAny (model X.prog X.w) A (setAttr (.ref a) f u) Q E s:=by
 obtain⟨mA,O,r,L,_,U⟩:=pC I.hok e;have hz:(fs.map (·.1)).length<=sizeLine:=by rw[Q03,sizeLine_eq];omega
 refine DG I.gi O c.sa c.po n.taker c.hd L hz λh' J sb=>h _ ?_;have hd:∃o,h'.get? dx=some o:=let⟨o,_,_,e',_⟩:=J.ns;⟨o,e'⟩
 refine I.write (x:=a) (e:=dx) (by rw[e];exact True.intro) (.inr U) (λb q hb z=>(sb.2 b hb).trans z) hd ?_;refine⟨by rw[d_ O.ne];exact U,?_,O.ne,J.obj,_,J.ns,λg=>?_,λg hg=>?_⟩
 . have:=yE f y fs;omega
 . show ib ((iC f y fs).lookup g) (if g=f then some u else mA g);rw[yD];by_cases q:g=f
   . rw[if_pos q,if_pos q];exact Y
   . rw[if_neg q,if_neg q];exact r g
 . by_cases q:g=f
   . rw[q];exact(rK f y fs).1
   . refine(rK f y fs).2 g (L g λz=>hg ?_);show(if g=f then some u else mA g)=none;rw[if_neg q];exact z
theorem Inv.made (I:Inv X pins σ H s):Inv X pins σ (upd (upd H s.heap.objs.size (.own (s.heap.objs.size+1))) (s.heap.objs.size+1) (.ins C s.heap.objs.size []))
 { s with heap:=(s.heap.push W.emptyDict).push (W.instObj C s.heap.objs.size) }:=by
 have z:(s.heap.push W.emptyDict).get? s.heap.objs.size=some W.emptyDict:=Q0n s.heap rfl
 have L:((s.heap.push W.emptyDict).push (W.instObj C s.heap.objs.size)).get? (s.heap.objs.size+1)=some (W.instObj C s.heap.objs.size):=by
  have:=Q0n (s.heap.push W.emptyDict) (o:=W.instObj C s.heap.objs.size) rfl
  rwa [Q1m] at this
 have U:(s.heap.push W.emptyDict).Ns s.heap.objs.size (λ_=>none):=⟨W.emptyDict,#[],_,z,rfl,(λe Y=>absurd Y (by simp)),λ_=>rfl⟩;have I1:=I.laid (a:=s.heap.objs.size) (o:=.own (s.heap.objs.size+1)) (h':=s.heap.push W.emptyDict) (t':=s.toks) (λb u q=>Q08 _ q) (Q00 _) ⟨_,z⟩;refine I1.laid (a:=s.heap.objs.size+1) (o:=.ins C s.heap.objs.size []) (t':=s.toks) (λb u q=>Q08 _ q) (Q1n (Q1m _ _)) ?_;have J:s.heap.objs.size≠s.heap.objs.size+1:=Q07 (Q0y _);refine⟨by rw[d_ J,eK],Q0a _,J,L,λ_=>none,(Heap.Ns1.of_empty U).at λo q=>Q08 _ q,λ_=>True.intro,λy hy=>absurd rfl hy⟩
theorem yG {prog:Program}{w:World}{env:Env}{e:Expr}{f:Str}{pos:Pos}{s:Shared}{Q:Value->Shared->Prop}(I:attributeBase e f env (eval e env)=eval e env)
 (h:wpAny (model prog w) A (eval e env) (λo z=>wpAny (model prog w) A (getAttr o f true) Q E z) E s):wpAny (model prog w) A (eval (.Attribute e f pos) env) Q E s:=
 Attribute_any_ h (by rw[arm_eval_Attribute,I])
end
def yH (K:W.Frag) (ta:TE) (f:Str):TE:=λσ H Q=>ta σ H λx H1=>∃a C dx fs v,x=.ref a/\H1 a=some (.ins C dx fs)/\Cls K C/\lJ K C f/\fs.lookup f=some v/\Q v H1
def DL (K:W.Frag) (ta tv:TE) (f:Str):TS:=λD σ H=>tv σ H λy H1=>ta σ H1 λx H2=>∃a C dx fs,x=.ref a/\H2 a=some (.ins C dx fs)/\Cls K C/\lJ K C f/\fs.length<1000/\
 D.nx σ (upd H2 a (.ins C dx (iC f y fs)))
section
variable {X:Cx}{o e value:Expr}{f:Str}{pos pos' tpos:Pos}{ta tv:TE}
theorem pE (z:PE X e ta)(J:attributeBase e f X.env (eval e X.env)=eval e X.env):PE X (.Attribute e f pos) (yH X.K ta f):=by
 intro pins s σ H Q I h;refine yG J (eU (z pins s σ H _ I h) λu s1 zq=>?_);obtain⟨x,H1,L,U,a,C,dx,fs,v,ex,Y,c,n,l,q⟩:=zq;subst ex;obtain rfl:u=Value.ref a:=U;exact DJ L Y c n l λu' s2 I2 ru=>⟨v,H1,I2,ru,q⟩
theorem DM (z:PE X o ta)(J:PE X value tv)(L:swapsWith value (some (.Attribute o f pos')) pos.line X.env=pure false):PS X (.Assign [.Attribute o f pos'] value pos) (DL X.K ta tv f):=by
 intro pins s σ H D I h;refine plainObj_wpAny_Assign_Attribute (eU (J pins s σ H _ I h) λu U ⟨y,H1,Y,ry,q⟩=>eU (z pins U σ H1 _ Y q) λov s2 zq=>?_) L;obtain⟨x,H2,I2,rx,a,C,dx,fs,ex,ea,c,n,l,q2⟩:=zq;subst ex;obtain rfl:ov=Value.ref a:=rx;exact DK I2 ea c n l ry λs3 I3=>⟨σ,_,I3,q2⟩
end
section
variable {X:Cx}{pins:List (Addr × Obj)}{σ:St}{H:Hp}{s:Shared}{A:Around}{E:Value->Shared->Prop}{Q:Value->Shared->Prop}{c:Value}{b:Bool}
inductive iD (K:W.Frag) (H:Hp):V->Value->Prop where
 |non:iD K H .non (.type "NoneType")
 |bl (x:Bool):iD K H (.bl x) (.type "bool")
 |int (i:Int):iD K H (.int i) (.type "int")
 |str (x:Str):iD K H (.str x) (.type "str")
 |flt (x:UInt64):iD K H (.flt x) (.type "float")
 |lst {a:Addr} {xs:List V} (e:H a=some (.lst xs)):iD K H (.ref a) (.type "list")
 |iz {a:Addr} {o:Obj} {xs:List V} (e:H a=some (.iz o (.lst xs))):iD K H (.ref a) (.type "list")
 |tup {a:Addr} {xs:List V} (e:H a=some (.tup xs)):iD K H (.ref a) (.type "tuple")
 |dK {a:Addr} {kvs:List (Key × V)} (e:H a=some (.dK kvs)):iD K H (.ref a) (.type "dict")
 |dT {a:Addr} {kvs:List (List Key × V)} (e:H a=some (.dT kvs)):iD K H (.ref a) (.type "dict")
 |ins {a C dx:Addr} {fs:List (Str × V)} (e:H a=some (.ins C dx fs)) (cl:Cls K C) (ha:W.findIn K (.ref C) "__class__"=some (some (.builtin "object.__class__")))
   (hn:W.specialIn K (.builtin "object.__class__") "__get__"=some (some (.builtin "getset_descriptor.__get__"))) (htk:W.takesIn K (.builtin "object.__class__")=some true)
   (hm:W.mroIn K C (.type "object")=some true):iD K H (.ref a) (.ref C)
theorem DN {x:V}{u t:Value}(I:Inv X pins σ H s)(L:RelV x u)(ty:iD X.K H x t)(e:W.kitOne X.K t c=some b)(h:∀tk,Q (.bool b) { s with toks:=tk }):
 wpAny (model X.prog X.w) A (call (.builtin "isinstance") [u,c]) Q E s:=by
 cases ty with
 |non=>cases(show u=Value.none from L);exact W.kia_one W.kitx_none I.gi True.intro e (λz=>nomatch z) h
 |bl y=>cases(show u=Value.bool y from L);exact W.kia_one W.kitx_bool I.gi True.intro e (λz=>nomatch z) h
 |int i=>obtain⟨t,q⟩:=(show ∃t,u=Value.int i t from L);cases q;exact W.kia_one W.kitx_int I.gi True.intro e (λz=>nomatch z) h
 |str y=>obtain⟨t,q⟩:=(show ∃t,u=Value.str y t from L);cases q;exact W.kia_one W.kitx_str I.gi True.intro e (λz=>nomatch z) h
 |flt y=>obtain⟨t,q⟩:=(show ∃t,u=Value.float y t from L);cases q;exact W.kia_one W.kitx_float I.gi True.intro e (λz=>nomatch z) h
 |@lst a xs U=>
  cases(show u=Value.ref a from L);obtain⟨_,_,n,_,h1⟩:=(show gh X.prog X.w H s.heap a (.lst xs) from I.hok a _ U);exact W.kia_one W.kitx_list I.gi ⟨_,h1,rfl⟩ e (λz=>nomatch z) h
 |@iz a ob xs U=>
  cases(show u=Value.ref a from L);obtain⟨_,_,_,n,_,h1⟩:=(show gh X.prog X.w H s.heap a (.iz ob (.lst xs)) from I.hok a _ U);exact W.kia_one W.kitx_list I.gi ⟨_,h1,rfl⟩ e (λz=>nomatch z) h
 |@tup a xs U=>
  cases(show u=Value.ref a from L);obtain⟨_,_,_,p⟩:=(show gh X.prog X.w H s.heap a (.tup xs) from I.hok a _ U);obtain⟨o,h1,h2,_⟩:=p;exact W.kia_one W.kitx_tuple I.gi ⟨o,h1,h2⟩ e (λz=>nomatch z) h
 |@dK a kvs U=>
  cases(show u=Value.ref a from L);obtain⟨_,_,vs,_,p⟩:=(show gh X.prog X.w H s.heap a (.dK kvs) from I.hok a _ U);obtain⟨o,es,ep,h1,h2,_⟩:=p;exact W.kia_one W.kitx_dict I.gi ⟨o,h1,h2.1⟩ e (λz=>nomatch z) h
 |@dT a kvs U=>
  cases(show u=Value.ref a from L);obtain⟨_,_,xs,_,o,es,ep,h1,h2,_⟩:=(show gh X.prog X.w H s.heap a (.dT kvs) from I.hok a _ U);exact W.kia_one W.kitx_dict I.gi ⟨o,h1,h2.1⟩ e (λz=>nomatch z) h
 |@ins a C dx fs U cl ha hn Y hm=>
  cases(show u=Value.ref a from L);obtain⟨mA,O,_⟩:=pC I.hok U;obtain⟨od,J,_⟩:=O.look;exact W.kia_one (W.kitx_own (cl.get _) cl.hd ha hn Y hm) I.gi J e (λz=>nomatch z) h
end
structure fy (k:Nat) (A:Around):Prop where
 hd:A.handled=none
 dp:A.depth+3 * k+5<recursionLimit
 un:A.units+16 * k+200<cLine
theorem fy.mono {j k:Nat}{A:Around}(r:fy k A)(h:j<=k):fy j A:=⟨r.hd,by have:=r.dp;omega,by have:=r.un;omega⟩
theorem fy.deeper {k:Nat}{A:Around}(r:fy (k+1) A)(env:Env):fy k (A.deeper env):=
 ⟨r.hd,by have:=r.dp;show A.depth+1+3 * k+5<_;omega,by have:=r.un;show A.units+3+16 * k+200<_;omega⟩
theorem fy.in1 {k:Nat}{A:Around}(r:fy (k+1) A):fy k A.in1:=
 ⟨r.hd,by have:=r.dp;show A.depth+3 * k+5<_;omega,by have:=r.un;show A.units+1+16 * k+200<_;omega⟩
theorem DO {A:Around}{C:Addr}{us:List Value}{z:List (Str × Value)}:(A.under (.builtin "type.__call__" ⟨.ref C::us,z⟩)).depth=A.depth+1:=by
 first|rfl|simp[Around.under,Code.weight,Code.isCreation,Code.isGuard,Code.isCaller,Code.frames,Code.isFrame,guardIds]
theorem DP {A:Around}{C:Addr}{us:List Value}{z:List (Str × Value)}:(A.under (.builtin "type.__call__" ⟨.ref C::us,z⟩)).units=A.units+1:=by
 first|rfl|simp[Around.under,Code.cUnits,Code.frames,Code.isFrame]
theorem fy.make {k:Nat}{A:Around}(r:fy (k+1) A)(C:Addr)(us:List Value)(z:List (Str × Value)):fy k (A.under (.builtin "type.__call__" ⟨.ref C::us,z⟩)):=
 ⟨r.hd,by have:=r.dp;rw[DO];omega,by have:=r.un;rw[DP];omega⟩
theorem fy.depth {k:Nat}{A:Around}(r:fy k A):A.depth<recursionLimit:=by have:=r.dp;omega
theorem fy.units {k:Nat}{A:Around}(r:fy k A):A.units+64<cLine:=by have:=r.un;omega
theorem fy.rM {k:Nat}{A:Around}(r:fy k A):A.units<cLine:=by have:=r.un;omega
def g8:TA:=λ_ H Q=>Q [] H
def gp (ta:TE) (z:TA):TA:=λσ H Q=>ta σ H λx H1=>z σ H1 λxs H2=>Q (x::xs) H2
section
variable {X:Cx}{e:Expr}{es:List Expr}{te:TE}{t:TA}{pos:Pos}
theorem c_:PA X [] g8:=λ_ _ _ _ H Q I h=>Calls.spliced_nil ⟨[],H,I,.nil,h⟩
theorem a_ (z:PE X e te)(J:PA X es t)(L:starEach (e::es) X.env=(false,eval e X.env)::starEach es X.env:=by rfl):PA X (e::es) (gp te t):=by
 intro pos pins s σ H Q I h;rw[L];show wpAny _ _ (spliced ((false,eval e X.env)::backTo pos (starEach es X.env))) _ _ s;refine Calls.spliced_cons (eU (z pins s σ H _ I h) λu U zq=>?_);obtain⟨x,H1,Y,r1,q1⟩:=zq;exact eU (J pos pins U σ H1 _ Y q1) λus s2 ⟨xs,H2,I2,r2,q2⟩=>⟨x::xs,H2,I2,.cons r1 r2,q2⟩
def kM (t:TA):TE:=λσ H Q=>t σ H λxs H1=>xs.length<=sizeLine/\∀p,H1 p=none->Q (.ref p) (upd H1 p (.tup xs))
def yI (t:TA):TE:=λσ H Q=>t σ H λxs H1=>xs.length<=sizeLine/\∀p,H1 p=none->Q (.ref p) (upd H1 p (.lst xs))
theorem f7 {U}(h:PA X es t):PE X (.Tuple es U pos) (kM t):=by
 intro pins s σ H Q I Y;refine wpAny_Tuple_spliced (eU (h pos pins s σ H _ I Y) λus J ⟨xs,H1,L,r,z,q⟩=>⟨by rw[<-r.length];exact z,?_⟩);have hf:H1 J.heap.objs.size=none:=L.hok.fresh (Q00 _);refine⟨.ref J.heap.objs.size,upd H1 J.heap.objs.size (.tup xs),L.laid (t':=J.toks) (λb u e=>Q08 _ e) (Q00 _) ?_,rfl,q _ hf⟩;exact⟨z,us,r,⟨_,Q0n _ rfl,rfl,_,rfl⟩⟩
theorem fY (h:PA X es t):PE X (.List es pos) (yI t):=by
 intro pins s σ H Q I U;refine wpAny_List_spliced (eU (h pos pins s σ H _ I U) λus J ⟨xs,H1,L,r,z,q⟩=>⟨by rw[<-r.length];exact z,?_⟩);have Y:H1 J.heap.objs.size=none:=L.hok.fresh (Q00 _);refine⟨.ref J.heap.objs.size,upd H1 J.heap.objs.size (.lst xs),L.laid (t':=J.toks) (λb u e=>Q08 _ e) (Q00 _) ?_,rfl,q _ Y⟩;exact⟨z,us,0,r,Q0n _ rfl⟩
end
noncomputable abbrev Sp:=List V->Hp->VK->XK->Prop
noncomputable abbrev iE:=List Env->Hp->Shared->XK->Value->Shared->Prop
structure lK (P:Program) (w:World) (K:W.Frag) (mg:Str->Option Value) (base:Heap) (A:Around) (outer:List Env) (s:Shared) (H:Hp):Prop where
 frames:A.frames=some outer
 mod:Mod K mg base
 bs:∀b o,base.get? b=some o->s.heap.get? b=some o/\H b=none
 jx:base.objs.size<=s.heap.objs.size
 i6:s.heap.FunFrames base outer
 kF:∀b∈frs outer,H b=none
 hok:f9 P w H s.heap
 bare:AllBare s.gens
def CE (outer:List Env) (P:Program) (w:World) (H:Hp) (s:Shared) (Q:VK) (u:Value) (s':Shared):Prop:=
 ∃v H',s'.os=s.os/\AllBare s'.gens/\Un (frs outer) [] H H' s.heap s'.heap/\f9 P w H' s'.heap/\RelV v u/\Q v H'
def CR (CX:iE) (outer:List Env) (P:Program) (w:World) (H:Hp) (s:Shared) (Q:VK) (E:XK) (r:Result) (s':Shared):Prop:=
 match r with
 | .ok (.ret u)=>CE outer P w H s Q u s'
 | .ok _=>False
 | .error e=>CX outer H s E e s'
structure eE (P:Program) (w:World) (K:W.Frag) (mg:Str->Option Value) (base:Heap) (CX:iE) (k:Nat) (f:Addr) (fd:FuncData) (ps:List Str) (sp:Sp):Prop where
 len:∀vs H Q E,sp vs H Q E->vs.length=ps.length
 run:∀(A:Around) (outer:List Env) (s:Shared) (H:Hp) (args:Args) (us:List Value) (vs:List V) (Q:VK) (E:XK),fy k A->lK P w K mg base A outer s H->BindsTo s fd args (ps.zip us)->Vals vs us->sp vs H Q E->
  codeAny (model P w) A (.call (.ref f) args) (CR CX outer P w H s Q E) s
theorem eE.mono {P:Program}{w:World}{K:W.Frag}{mg:Str->Option Value}{base:Heap}{CX:iE}{j k:Nat}{f:Addr}{fd:FuncData}{ps:List Str}{sp:Sp}(F:eE P w K mg base CX j f fd ps sp)(h:j<=k):
 eE P w K mg base CX k f fd ps sp:=⟨F.len,λA outer s H args us vs Q E z=>F.run A outer s H args us vs Q E (z.mono h)⟩
theorem eE.imp {P:Program}{w:World}{K:W.Frag}{mg:Str->Option Value}{base:Heap}{CX:iE}{k:Nat}{f:Addr}{fd:FuncData}{ps:List Str}{sp z:Sp}(F:eE P w K mg base CX k f fd ps sp)
 (h:∀vs H Q E,z vs H Q E->sp vs H Q E):eE P w K mg base CX k f fd ps z:=
 ⟨λvs H Q E q=>F.len vs H Q E (h _ _ _ _ q),λA outer s H args us vs Q E I J L U Y=>F.run A outer s H args us vs Q E I J L U (h _ _ _ _ Y)⟩
theorem lK.make {P:Program}{w:World}{K:W.Frag}{mg:Str->Option Value}{base:Heap}{A:Around}{outer:List Env}{s:Shared}{H:Hp}(e:lK P w K mg base A outer s H)(C:Addr)(us:List Value)(z:List (Str × Value)):
 lK P w K mg base (A.under (.builtin "type.__call__" ⟨.ref C::us,z⟩)) outer s H:=⟨by first|exact e.frames|(simpa[Around.under,Code.envs,Code.isFrame,pushEnvs] using e.frames),e.mod,e.bs,e.jx,e.i6,e.kF,e.hok,e.bare⟩
section
variable {X:Cx}{pins:List (Addr × Obj)}{σ:St}{H:Hp}{s s':Shared}
theorem Inv.env0 (I:Inv X pins σ H s):lK X.prog X.w X.K X.mg X.base X.A X.stack s H:=
 ⟨I.ok.frames,I.ok.mod,I.bs,Q0f I.ok.jx I.sz,I.stack,I.nM,I.hok,I.bare⟩
theorem Inv.after {Q:VK}{u:Value}(I:Inv X pins σ H s)(h:CE X.stack X.prog X.w H s Q u s'):EP X pins σ Q u s':=by
 obtain⟨v,H',os,J,un,L,r,q⟩:=h;obtain⟨Y,g,d,t,U⟩:=s';obtain rfl:U=s.os:=os;exact⟨v,H',I.call (h':=Y) (g':=g) (d':=d) (t':=t) (ch:=[]) un L J (λb z=>absurd z (by simp)),r,q⟩
end
def lL (sp:Sp) (gM:List V) (E:XK) (t:TA):TE:=λσ H Q=>t σ H λvs H1=>sp (vs++gM) H1 Q E
def rN (C:Addr) (m:Str) (sp:Sp) (gM:List V) (E:XK) (ta:TE) (t:TA):TE:=λσ H Q=>ta σ H λx H1=>∃a dx fs,x=.ref a/\H1 a=some (.ins C dx fs)/\fs.lookup m=none/\
 t σ H1 λvs H2=>sp (x::(vs++gM)) H2 Q E
def yJ (C:Addr) (sp:Sp) (gM:List V) (E:XK) (t:TA):TE:=λσ H Q=>t σ H λvs H1=>∀x dx,H1 x=none->H1 dx=none->dx≠x->
 sp (.ref x::(vs++gM)) (upd (upd H1 dx (.own x)) x (.ins C dx [])) (λv H2=>v=.non/\Q (.ref x) H2) E
def Binds (K:W.Frag) (fd:FuncData) (ps:List Str) (ds:List Value):Prop:=
 ∀(s:Shared) (us:List Value),K.In s.heap->(us++ds).length=ps.length->BindsTo s fd ⟨us,[]⟩ (ps.zip (us++ds))
theorem Binds.all {K:W.Frag}{fd:FuncData}{ps:List Str}(h:∀us:List Value,us.length=ps.length->bindArgs fd ⟨us,[]⟩=pure (ps.zip us)):Binds K fd ps []:=λs us _ hl=>by
 rw[Q0u] at hl ⊢;exact .of_eq (h us hl)
def Passes (CX:iE) (X:Cx) (E:XK):Prop:=∀(pins:List (Addr × Obj)) (σ:St) (H:Hp) (s:Shared) (e:Value) (s':Shared),Inv X pins σ H s->CX X.stack H s E e s'->X.xe e s'
section
variable {X:Cx}{CX:iE}{k:Nat}{f C:Addr}{fd:FuncData}{ps:List Str}{sp:Sp}{gM:List V}{ds:List Value}{E:XK}{x m:Str}{p pos apos:Pos}{e o:Expr}{es:List Expr}{ta:TE}{t:TA}
theorem rO {pins:List (Addr × Obj)}{σ:St}{H:Hp}{s:Shared}{Q:VK}{us:List Value}{vs:List V}(F:eE X.prog X.w X.K X.mg X.base CX k f fd ps sp)(L:fy k X.A)(U:Binds X.K fd ps ds)(Y:Vals gM ds)(hx:Passes CX X E)
 (I:Inv X pins σ H s) (r:Vals vs us) (h:sp (vs++gM) H Q E):wpAny (model X.prog X.w) X.A (call (.ref f) us) (EP X pins σ Q) X.xe s:=by
 have J:Vals (vs++gM) (us++ds):=r.append Y;have hl:(us++ds).length=ps.length:=by rw[<-J.length];exact F.len _ _ _ _ h
 refine wpAny_call (codeAny_mono (F.run X.A X.stack s H ⟨us,[]⟩ (us++ds) (vs++gM) Q E L I.env0 (U s us I.gi hl) J h) λr s' z=>?_)
 cases r with
 |error e=>exact hx pins σ H s e s' I z
 |ok fl=>
  cases fl with
  |ret u=>exact I.after z
  |next=>exact False.elim z
  |brk=>exact False.elim z
  |cont=>exact False.elim z
theorem mK (F:eE X.prog X.w X.K X.mg X.base CX k f fd ps sp)(U:fy k X.A)(Y:Gl X x)(hm:X.mg x=some (.ref f))(hk:W.keepIn X.K (.ref f)=true)(hb:Binds X.K fd ps ds)(hd:Vals gM ds)(hx:Passes CX X E)
 (ha:PA X (e::es) t) (z:(x == ("__debug__":Str))=false:=by decide) (he:starEach (e::es) X.env=(false,eval e X.env)::starEach es X.env:=by rfl) (J:(backTo pos (starEach es X.env)).any (·.1)=false:=by rfl):
 PE X (.Call (.Name x p) (e::es) [] pos) (lL sp gM E t):=by
 intro pins s σ H Q I h;refine wpAny_Call_Name_kw (nO I Y hm ?_ z);refine W.callWith_K (h₀:=X.base) I.ok.mod.lz hk (eU (ha pos pins s σ H _ I h) λus s1 ⟨vs,H1,L,r,q⟩=>⟨L.gi,?_⟩) he J;exact rO F U hb hd hx L r q
theorem nW {pl:Sem Bool}(he:PE X o ta)(c:Cls X.K C)(L:Meth X.K C m f)(F:eE X.prog X.w X.K X.mg X.base CX k f fd ps sp)(hr:fy k X.A)(hb:Binds X.K fd ps ds)(hd:Vals gM ds)(hx:Passes CX X E)(ha:PA X (e::es) t)
 (z:starEach (e::es) X.env=(false,eval e X.env)::starEach es X.env:=by rfl) (J:(backTo pos (starEach es X.env)).any (·.1)=false:=by rfl)
 (ht:eval (.Call (.Attribute o m apos) (e::es) [] pos) X.env=(do
   let U <-eval o X.env
   standAt apos.atName
   let(f,first) <-holding [U] (getMethod U m pl)
   callWith pos f first (backTo pos (starEach (e::es) X.env)) (backToKw pos (keywordEach [] X.env))):=by rfl):
 PE X (.Call (.Attribute o m apos) (e::es) [] pos) (rN C m sp gM E ta t):=by
 intro pins s σ H Q I h;refine W.methodCall_KW (pl:=pl) (eU (he pins s σ H _ I h) λu s1 zq=>?_) ht;obtain⟨x,H1,Y,rx,a,dx,fs,ex,ea,l,q⟩:=zq;subst ex;obtain rfl:u=Value.ref a:=rx;refine rL Y ea c L l ?_;refine W.callWith_K (first:=[.ref a]) (h₀:=X.base) I.ok.mod.lz L.kp (eU (ha pos pins s1 σ H1 _ Y q) λus s2 ⟨vs,H2,I2,r,q2⟩=>⟨I2.gi,?_⟩) z J;exact rO (us:=.ref a::us) (vs:=.ref a::vs) F hr hb hd hx I2 (.cons rfl r) q2
theorem DQ {pl:Sem Bool}(U:PE X o ta)(c:Cls X.K C)(J:Meth X.K C m f)(F:eE X.prog X.w X.K X.mg X.base CX k f fd ps sp)(Y:fy k X.A)(hb:Binds X.K fd ps ds)(hd:Vals gM ds)(hx:Passes CX X E)
 (ht:eval (.Call (.Attribute o m apos) [] [] pos) X.env=(do
   let L <-eval o X.env
   standAt apos.atName
   let(f,first) <-holding [L] (getMethod L m pl)
   callWith pos f first (backTo pos (starEach [] X.env)) (backToKw pos (keywordEach [] X.env))):=by rfl):
 PE X (.Call (.Attribute o m apos) [] [] pos) (rN C m sp gM E ta g8):=by
 intro pins s σ H Q I h;refine W.methodCall_KW (pl:=pl) (eU (U pins s σ H _ I h) λu s1 zq=>?_) ht;obtain⟨x,H1,z,rx,a,dx,fs,ex,ea,l,q⟩:=zq;subst ex;obtain rfl:u=Value.ref a:=rx;refine rL z ea c J l ?_;exact W.callWith_K0 (first:=[.ref a]) z.gi J.kp (rO (us:=[.ref a]) (vs:=[.ref a]) F Y hb hd hx z (.cons rfl .nil) q)
structure Mk (K:W.Frag) (C f:Addr):Prop where
 makes:W.makesIn K C=true
 init:W.findIn K (.ref C) "__init__"=some (some (.ref f))
 fn:W.isFn K (.ref f)=true
 kp:W.keepIn K (.ref C)=true
theorem yK {pins:List (Addr × Obj)}{σ:St}{H:Hp}{s:Shared}{Q:VK}{us:List Value}{vs:List V}(M:Mk X.K C f)(F:eE X.prog X.w X.K X.mg X.base CX k f fd ps sp)(Y:fy (k+1) X.A)(hb:Binds X.K fd ps ds)(hd:Vals gM ds)
 (hx:Passes CX X E) (I:Inv X pins σ H s) (r:Vals vs us)
 (h:∀x dx,H x=none->H dx=none->dx≠x->sp (.ref x::(vs++gM)) (upd (upd H dx (.own x)) x (.ins C dx [])) (λv H2=>v=.non/\Q (.ref x) H2) E):
 wpAny (model X.prog X.w) X.A (call (.ref C) us) (EP X pins σ Q) X.xe s:=by
 have L:=h (s.heap.objs.size+1) s.heap.objs.size (I.hok.fresh (Q17 _)) (I.hok.fresh (Q00 _)) (Q07 (Q0y _));have J:=Inv.made (C:=C) I;have U:Vals (V.ref (s.heap.objs.size+1)::(vs++gM)) (Value.ref (s.heap.objs.size+1)::(us++ds)):=.cons rfl (r.append hd)
 have hl:(Value.ref (s.heap.objs.size+1)::us++ds).length=ps.length:=by
  have e:=U.length;rw[F.len _ _ _ _ L] at e;exact e.symm
 refine wpAny_call (DH (f:=f) I.gi M.makes M.init (beq_iff_eq.mp M.fn) (codeAny_mono (F.run _ X.stack _ _ ⟨Value.ref (s.heap.objs.size+1)::us,[]⟩ (Value.ref (s.heap.objs.size+1)::(us++ds)) _ _ E (Y.make C us [])
  (J.env0.make C us []) (hb _ (Value.ref (s.heap.objs.size+1)::us) J.gi hl) U L) λr s' z=>?_))
 cases r with
 |error e=>exact hx pins σ _ _ e s' J z
 |ok fl=>
  cases fl with
  |ret u=>
   obtain⟨v,H',I3,rv,ev,q3⟩:=J.after z;subst ev;exact⟨rv,⟨V.ref (s.heap.objs.size+1),H',I3,rfl,q3⟩⟩
  |next=>exact False.elim z
  |brk=>exact False.elim z
  |cont=>exact False.elim z
theorem yL (M:Mk X.K C f)(F:eE X.prog X.w X.K X.mg X.base CX k f fd ps sp)(U:fy (k+1) X.A)(Y:Gl X x)(hm:X.mg x=some (.ref C))(hb:Binds X.K fd ps ds)(hd:Vals gM ds)(hx:Passes CX X E)
 (ha:PA X (e::es) t) (z:(x == ("__debug__":Str))=false:=by decide) (he:starEach (e::es) X.env=(false,eval e X.env)::starEach es X.env:=by rfl) (J:(backTo pos (starEach es X.env)).any (·.1)=false:=by rfl):
 PE X (.Call (.Name x p) (e::es) [] pos) (yJ C sp gM E t):=by
 intro pins s σ H Q I h;refine wpAny_Call_Name_kw (nO I Y hm ?_ z);refine W.callWith_K (h₀:=X.base) I.ok.mod.lz M.kp (eU (ha pos pins s σ H _ I h) λus s1 ⟨vs,H1,L,r,q⟩=>⟨L.gi,?_⟩) he J;exact yK M F U hb hd hx L r q
theorem DR (M:Mk X.K C f)(F:eE X.prog X.w X.K X.mg X.base CX k f fd ps sp)(J:fy (k+1) X.A)(L:Gl X x)(U:X.mg x=some (.ref C))(Y:Binds X.K fd ps ds)(hd:Vals gM ds)(hx:Passes CX X E)
 (z:(x == ("__debug__":Str))=false:=by decide):PE X (.Call (.Name x p) [] [] pos) (yJ C sp gM E g8):=by
 intro pins s σ H Q I h;refine wpAny_Call_Name_kw (nO I L U ?_ z);exact W.callWith_K0 I.gi M.kp (yK (us:=[]) M F J Y hd hx I .nil h)
end
section
variable {X:Cx}{CX:iE}{k:Nat}{f C:Addr}{fd:FuncData}{ps ks:List Str}{sp:Sp}{E:XK}{x m:Str}{p pos apos kpos:Pos}{e o:Expr}{es:List Expr}{kws:List Keyword}{te ta:TE}{t tk:TA}{nm:Option Str}
variable {g:List Value->List Value->List Value}{gV:List V->List V->List V}
end
structure fo (N P:List Str) (sc:Scope):Prop where
 kind:sc.kind=.function
 co:sc.isCoroutine=false
 gen:sc.isGenerator=false
 nd:N.Nodup
 pre:N.take P.length=P
 par:∀x∈P,sc.names.lookup x=some .local\/sc.names.lookup x=some .cell
 DS:∀y∈sc.names,y.2≠ .free
theorem Ju {N Q:List Str}{sc:Scope}(h1:sc.kind=.function:=by rfl)(h2:sc.isCoroutine=false:=by rfl)(z:sc.isGenerator=false:=by rfl)(I:N.Nodup:=by decide +kernel)(J:N.take Q.length=Q:=by rfl)(L:∀x∈Q,sc.names.lookup x=some .local\/sc.names.lookup x=some .cell:=by decide +kernel)(U:∀y∈sc.names,y.2≠ .free:=by decide +kernel):fo N Q sc:=⟨h1,h2,z,I,J,L,U⟩
theorem yM {kindOf:Str->Option NameKind}{x:Str}:∀{binds:List (Str × Value)}{m:Str->Option Value},(∀v,(x,v) ∉ binds)->bindL kindOf binds m x=m x
 |[],_,_=>rfl
 |(n,v)::r,m,h=>by
  unfold bindL;rw[yM λw hw=>h w (Q0e _ hw)];split
  . have:x≠n:=by rintro rfl;exact h v Q0b
    simp[this]
  . rfl
theorem yN {kindOf:Str->Option NameKind}{x:Str}:∀{binds:List (Str × Value)}{m:Str->Option Value},(∀v,(x,v) ∉ binds)->bindC kindOf binds m x=m x
 |[],_,_=>rfl
 |(n,v)::r,m,h=>by
  unfold bindC;rw[yN λw hw=>h w (Q0e _ hw)];split
  . rfl
  . have:x≠n:=by rintro rfl;exact h v Q0b
    simp[this]
theorem yO {kindOf:Str->Option NameKind}{x:Str}{v:Value}:∀{P:List Str}{vs:List Value}{i:Nat}{m:Str->Option Value},P.Nodup->P[i]? =some x->vs[i]? =some v->kindOf x=some .local->
 bindL kindOf (P.zip vs) m x=some v
 |[],_,_,_,_,h,_,_=>by simp at h
 |_::_,[],_,_,_,_,h,_=>by simp at h
 |p::P,w::vs,0,m,z,h1,h2,I=>by
  simp at h1 h2;subst h1;subst h2;show bindL kindOf ((p,w)::P.zip vs) m p=_;unfold bindL;rw[yM λv J=>(List.nodup_cons.mp z).1 (Q24 J).1,if_pos I];simp
 |p::P,w::vs,i+1,m,z,h1,h2,I=>by
  show bindL kindOf ((p,w)::P.zip vs) m x=_;unfold bindL;exact yO (i:=i) (List.nodup_cons.mp z).2 (by simpa using h1) (by simpa using h2) I
theorem yP {kindOf:Str->Option NameKind}{x:Str}{v:Value}:∀{P:List Str}{vs:List Value}{i:Nat}{m:Str->Option Value},P.Nodup->P[i]? =some x->vs[i]? =some v->kindOf x≠some .local->
 bindC kindOf (P.zip vs) m x=some v
 |[],_,_,_,_,h,_,_=>by simp at h
 |_::_,[],_,_,_,_,h,_=>by simp at h
 |p::P,w::vs,0,m,z,h1,h2,I=>by
  simp at h1 h2;subst h1;subst h2;show bindC kindOf ((p,w)::P.zip vs) m p=_;unfold bindC;rw[yN λv J=>(List.nodup_cons.mp z).1 (Q24 J).1,if_neg I];simp
 |p::P,w::vs,i+1,m,z,h1,h2,I=>by
  show bindC kindOf ((p,w)::P.zip vs) m x=_;unfold bindC;exact yP (i:=i) (List.nodup_cons.mp z).2 (by simpa using h1) (by simpa using h2) I
noncomputable def start (N:List Str) (vs:List V):St:=vs.map some++List.replicate (N.length - vs.length) none
noncomputable def fh (CX:iE) (P:Program) (w:World) (K:W.Frag) (mg:Str->Option Value) (base:Heap) (N:List Str) (qual:Str) (scope:Scope) (f:Addr) (I:Value) (A:Around) (outer:List Env) (s:Shared) (H:Hp) (E:XK):Cx where
 prog:=P
 w:=w
 K:=K
 mg:=mg
 base:=base
 A:=A.deeper (envOfC qual scope s.heap.objs.size f I)
 N:=N
 s₀:=s
 H₀:=H
 env:=envOfC qual scope s.heap.objs.size f I
 outer:=outer
 stack:=envOfC qual scope s.heap.objs.size f I::outer
 ex:=[]
 calm:=true
 fn:=λ_=>true
 pn:=[]
 xe:=λe s'=>wpAny (model P w) (A.deeper (envOfC qual scope s.heap.objs.size f I)) (leaving (envOfC qual scope s.heap.objs.size f I) e) (λ_ z=>CX outer H s E e z) (λJ z=>CX outer H s E J z) s'
theorem yQ {sc:Scope}{n:Nat}{x:Str}(h:sc.names.lookup x=some .cell):∃c,(cellsFrom n sc.names []).lookup x=some c:=by
 have q:=W.cellsFrom_some sc.names n [] (.inl h);exact Option.isSome_iff_exists.mp q
theorem DT {CX:iE}{P:Program}{w:World}{K:W.Frag}{mg:Str->Option Value}{base:Heap}{N ps:List Str}{qual:Str}{scope:Scope}{f:Addr}{Y:Value}{A:Around}{outer:List Env}{s s1:Shared}{H:Hp}{E:XK}{us:List Value}{vs:List V}
 (S:fo N ps scope) (hd:A.handled=none) (I:lK P w K mg base A outer s H) (hl:vs.length=ps.length) (r:Vals vs us)
 (x:InCallC s s.heap.objs.size (bindL (envOfC qual scope s.heap.objs.size f Y).kindOf (ps.zip us) λ_=>none) (cellsFrom (s.heap.objs.size+1) scope.names []) (bindC (envOfC qual scope s.heap.objs.size f Y).kindOf (ps.zip us) λ_=>none) s1):
 Inv (fh CX P w K mg base N qual scope f Y A outer s H E) [] (start N vs) H s1:=by
 have aa:ps.length<=N.length:=by have:=congrArg List.length S.pre;rw[Q0i] at this;omega
 obtain⟨h1,tk,rfl,hk⟩:=x.done;have L:∀b:Addr,b ∉ (fh CX P w K mg base N qual scope f Y A outer s H E).ex:=λb z=>absurd (show b∈([]:List Addr) from z) (by simp)
 refine⟨⟨I.mod,S.kind,rfl,rfl,Q00 _,λy z c h1 h2=>?_,λy J=>?_,λy c _ h=>?_,λ_=>hd,Around.frames_deeper I.frames,.inr ⟨rfl,rfl⟩,λb z=>absurd z (L b),I.bs,I.jx,λb _ _=>L b,λb z=>absurd z (L b),I.i6,I.kF⟩,
  rfl,I.bare,Un.kept hk,⟨_,x.toInCall.ns,λi y v h1 h2 h3=>?_⟩,λy c h=>⟨_,x.cell y c h⟩,I.hok.fresh (Q00 _),λy c h=>?_,λp hp=>absurd (show p∈([]:List (Addr × Obj)) from hp) (by simp),I.hok.kept hk,?_⟩
 . exact name_of_addr x.apart (PySem.mem_of_lookup h1) (PySem.mem_of_lookup h2)
 . have J:scope.names.lookup y=some .cell\/scope.names.lookup y=some .free:=J;rcases J with J|J
   . exact yQ J
   . exact absurd rfl (S.DS _ (PySem.mem_of_lookup J))
 . exact Q0o (x.above y c (PySem.mem_of_lookup h))
 . have hi:i<vs.length:=by
    unfold start at h2;by_cases hi:i<vs.length
    . exact hi
    . rw[Q14 (by simpa using hi)] at h2;rw[Q2q] at h2;split at h2 <;> cases h2
   have ha:vs[i]? =some v:=by
    unfold start at h2;rw[Q1o (by simpa using hi),Q0s] at h2
    cases e:vs[i]? with
    |none=>rw[e] at h2;cases h2
    |some a=>rw[e] at h2;cases h2;rfl
   obtain⟨u,hu,rv⟩:=r.get ha
   have hp:ps[i]? =some y:=by
    rw[<-S.pre,List.getElem?_take_of_lt (by omega)];exact h1
   have U:ps.Nodup:=by rw[<-S.pre];exact S.nd.sublist (Q18 _ _)
   refine⟨u,rv,?_⟩;rcases S.par y (Q19 hp) with k|k
   . exact .inl ⟨k,yO U hp hu k⟩
   . obtain⟨c,e⟩:=yQ (n:=s.heap.objs.size+1) k;refine .inr ⟨.inl k,c,e,?_⟩;have q:=x.cell y c e;rw[yP U hp hu (by show scope.names.lookup y≠_;rw[k];decide)] at q;exact q
 . exact I.hok.fresh (Q0o (x.above y c (PySem.mem_of_lookup h)))
 . unfold start;show _=N.length;rw[Q0c,Q03,Q1p];omega
theorem pF {CX:iE}{P:Program}{w:World}{K:W.Frag}{mg:Str->Option Value}{base:Heap}{k:Nat}{f:Addr}{name qual:Str}{L:Arguments}{body:List Stmt}{scope:Scope}{dV kV ab pm z ct oc:Value}{an od:Option Addr}
 {ae:Array (Option Value)} {N ps:List Str} {sp:Sp} (lk:K.lookup f=some ⟨oc,od,.func (W.fnOf name qual L body scope dV kV ab pm an z ct),ae⟩) (af:W.codeIn K z qual=true) (S:fo N ps scope)
 (len:∀vs H Q E,sp vs H Q E->vs.length=ps.length)
 (Y:∀(A:Around) (outer:List Env) (s:Shared) (H:Hp) (vs:List V) (Q:VK) (E:XK),fy k (A.deeper (envOfC qual scope s.heap.objs.size f z))->sp vs H Q E->
   ∃t,h9 (fh CX P w K mg base N qual scope f z A outer s H E) body t/\t { nx:=λ_ H'=>Q .non H',rt:=Q } (start N vs) H):
 eE P w K mg base CX (k+1) f (W.fnOf name qual L body scope dV kV ab pm an z ct) ps sp:=by
 refine⟨len,λA outer s H args us vs Q E hr e0 hb r ac=>?_⟩;have hl:=len _ _ _ _ ac;have KX:K.In s.heap:=e0.mod.lz.keeps λb o e=>(e0.bs b o e).1;have ag:s.heap.NoLimit:=e0.mod.nolimit.keeps λb o e=>(e0.bs b o e).1
 have aa:∀y∈ps.zip us,scope.names.lookup y.1=some .local\/(scope.names.lookup y.1=some .cell/\((cellsFrom (s.heap.objs.size+1) scope.names []).lookup y.1).isSome=true):=λ⟨n,v⟩ hy=>by
  rcases S.par n (Q24 hy).1 with q|q
  . exact .inl q
  . exact .inr ⟨q,W.cellsFrom_some _ _ _ (.inl q)⟩
 refine codeAny_call_function hr.depth (KX _ _ lk) rfl S.co S.gen rfl (W.codeRec_of KX af) (hb _ _ _ _ ?_);refine wpAny_newFunctionEnv_cells S.kind aa λenv he s1 x=>?_;subst he;refine⟨ag.keeps x.toInCall.keep,codeAny_func ?_⟩;obtain⟨t,ht,hq⟩:=Y A outer s H vs Q E (hr.deeper _) ac;have I:Inv (fh CX P w K mg base N qual scope f z A outer s H E) [] (start N vs) H s1:=DT S hr.hd e0 hl r x;refine Q0m (ht [] s1 (start N vs) H _ I hq) (λfl s' hs=>?_) λe s' hs=>hs
 have fin:∀{U:St} {H':Hp} {v:V} {u:Value},Inv (fh CX P w K mg base N qual scope f z A outer s H E) [] U H' s'->RelV v u->Q v H'->CE outer P w H s Q u s':=
  λ{U H' v u} J rv q=>⟨v,H',J.os,J.bare,J.base,J.hok,rv,q⟩
 cases fl with
 |ret u=>
  obtain⟨v,U,H',J,rv,q⟩:=hs;exact fin J rv q
 |next=>
  obtain⟨U,H',J,q⟩:=hs;exact fin (v:=V.non) (u:=Value.none) J rfl q
 |brk=>
  obtain⟨_,_,_,q⟩:=hs;exact False.elim q
 |cont=>
  obtain⟨_,_,_,q⟩:=hs;exact False.elim q
section
variable {X:Cx}{x:Str}{p pos:Pos}{e:Expr}{es:List Expr}{t:TA}{id T:String}{r:List V->Hp->VK->Prop}
def rP (r:List V->Hp->VK->Prop) (t:TA):TE:=λσ H Q=>t σ H λvs H1=>r vs H1 Q
theorem fA (hc:iT X (.builtin id) r)(L:Gl X x)(U:X.mg x=none)(Y:bootBuiltins x=some (.builtin id))(ha:PA X (e::es) t)(hn:x≠"__name__":=by decide)(z:(x == ("__debug__":Str))=false:=by decide)
 (he:starEach (e::es) X.env=(false,eval e X.env)::starEach es X.env:=by rfl) (J:(backTo pos (starEach es X.env)).any (·.1)=false:=by rfl):PE X (.Call (.Name x p) (e::es) [] pos) (rP r t):=by
 intro pins s σ H Q I h;refine wpAny_Call_Name_kw (kG I L U Y ?_ hn z);exact PyProof.Rows.callWith_builtin1 (eU (ha pos pins s σ H _ I h) λus s1 ⟨vs,H1,I1,r1,q1⟩=>hc pins s1 σ H1 vs us Q I1 r1 q1) he J
theorem nX (hc:iT X (.type T) r)(L:Gl X x)(U:X.mg x=none)(Y:bootBuiltins x=some (.type T))(ha:PA X (e::es) t)(hn:x≠"__name__":=by decide)(z:(x == ("__debug__":Str))=false:=by decide)
 (he:starEach (e::es) X.env=(false,eval e X.env)::starEach es X.env:=by rfl) (J:(backTo pos (starEach es X.env)).any (·.1)=false:=by rfl):PE X (.Call (.Name x p) (e::es) [] pos) (rP r t):=by
 intro pins s σ H Q I h;refine wpAny_Call_Name_kw (kG I L U Y ?_ hn z);exact PyProof.Rows.callWith_type1 (eU (ha pos pins s σ H _ I h) λus s1 ⟨vs,H1,I1,r1,q1⟩=>hc pins s1 σ H1 vs us Q I1 r1 q1) he J
end
end L2
local macro_rules|`(tactic|ac_rfl)=>`(tactic|try dsimp only[L2.fh,L2.Cx.fj])
namespace HT
open PyProof.Rows
section
open SeqAt
open PySem.AutoSeq1 (wpAny_loadPart')
open MeetsSeq MeetsSeq2 MeetsSeq3
end
section
variable {prog:Program}{w:World}{A:Around}{E:Value->Shared->Prop}{s:Shared}
noncomputable def ip (n d:Nat):Option Int->Nat
 |none=>d
 |some v=>if v<0 then(v+(n:Int)).toNat else min v.toNat n
theorem yR (n d:Nat):ip n d none=d:=rfl
theorem yS (n d k:Nat):ip n d (some (k:Int))=min k n:=by
 show(if(k:Int)<0 then((k:Int)+(n:Int)).toNat else min (k:Int).toNat n)=min k n;rw[if_neg (by omega),Q1q]
end
end HT
namespace L2
open Spec PyProof.Rows
noncomputable abbrev TO:=St->Hp->(Option Int->Hp->Prop)->Prop
def PO (X:Cx) (e:Option Expr) (t:TO):Prop:=
 ∀(pins:List (Addr × Obj)) (s:Shared) (σ:St) (H:Hp) (Q:Option Int->Hp->Prop),Inv X pins σ H s->t σ H Q->
  wpAny (model X.prog X.w) X.A (evalPart e X.env) (λu s'=>∃o H',Inv X pins σ H' s'/\IsPart u o/\Q o H') X.xe s
def rQ:TO:=λ_ H Q=>Q none H
def rR (t:TE):TO:=λσ H Q=>t σ H λx H1=>∃i,x=.int i/\Q (some i) H1
section
variable {X:Cx}{e:Expr}{te:TE}{lo hi:Option Expr}{tl th:TO}{pos p2:Pos}
theorem i7:PO X none rQ:=by
 intro pins s σ H Q I h;rw[evalPart_none];exact Q09 ⟨none,H,I,.none,h⟩
theorem i8 (h:PE X e te):PO X (some e) (rR te):=by
 intro pins s σ H Q I hw;rw[evalPart_some];refine eU (h pins s σ H _ I hw) λu U zq=>?_;obtain⟨x,H1,z,J,L⟩:=zq;obtain⟨i,rfl,q⟩:=L;obtain⟨t,rfl⟩:=J;exact⟨some i,H1,z,.int i t,q⟩
def rS (X:Cx) (r:V->Option Int->Option Int->Hp->VK->Prop):Prop:=
 ∀(pins:List (Addr × Obj)) (s:Shared) (σ:St) (H:Hp) (x:V) (v z I:Value) (lo hi:Option Int) (J:Addr) (Q:VK),Inv X pins σ H s->RelV x v->s.heap.IsSliceOf J z I .none->IsPart z lo->IsPart I hi->r x lo hi H Q->
  ∃T id,typeLookup (.type T) "__getitem__"=pure (some (.builtin id))/\s.TypeIs v T/\wpAny (model X.prog X.w) X.A (getItem v (.ref J)) (EP X pins σ Q) X.xe s
def rT (r:V->Option Int->Option Int->Hp->VK->Prop) (te:TE) (tl th:TO):TE:=λσ H Q=>te σ H λx H1=>tl σ H1 λl H2=>th σ H2 λu z=>r x l u z Q
theorem i9 {r:V->Option Int->Option Int->Hp->VK->Prop}(Y:rS X r)(he:PE X e te)(hl:PO X lo tl)(hu:PO X hi th):PE X (.Subscript e (.Slice lo hi none p2) pos) (rT r te tl th):=by
 intro pins s σ H Q I h;refine Subscript_ (eU (he pins s σ H _ I h) λv s1 zq=>?_);obtain⟨x,H1,I1,r1,q1⟩:=zq;refine wpAny_Slice (eU (hl pins s1 σ H1 _ I1 q1) λJ s2 ⟨l,H2,I2,pl,q2⟩=>eU (hu pins s2 σ H2 _ I2 q2) λL z zq=>?_);obtain⟨u,U,I3,pu,q3⟩:=zq;rw[evalPart_none];refine Q09 ?_;have I4:Inv X pins σ U { z with heap:=z.heap.push { cls:=.type "slice",data:=.fields #[J,L,.none] } }:=I3.kept (t':=z.toks) λb ob q=>Q08 _ q;obtain⟨T,id,hT,ht,hg⟩:=Y pins { z with heap:=z.heap.push { cls:=.type "slice",data:=.fields #[J,L,.none] } } σ U x v J L l u z.heap.objs.size Q I4 r1 (Heap.IsSliceOf.new ..) pl pu q3;show wpAny (model X.prog X.w) X.A (subscriptTail e (.Slice lo hi none p2) v (.ref z.heap.objs.size)) (EP X pins σ Q) X.xe { z with heap:=z.heap.push { cls:=.type "slice",data:=.fields #[J,L,.none] } };exact tail_any (ops:=[.ref z.heap.objs.size,v]) ht hT hg (by with_unfolding_all rfl)
noncomputable def jP (xs:List V) (lo hi:Option Int):List V:=(xs.drop (HT.ip xs.length 0 lo)).take (HT.ip xs.length xs.length hi - HT.ip xs.length 0 lo)
theorem yT (xs:List V)(lo hi:Option Int):(jP xs lo hi).length<=xs.length:=by
 unfold jP;rw[Q0i,Q0z];omega
end
noncomputable def jQ (n:Nat) (i:Int):Option Nat:=if 0<=i then(if i<n then some i.toNat else none) else if -(n:Int)<=i then some (i+n).toNat else none
noncomputable def gB {α:Type}(xs:List α) (i:Int):Option α:=(jQ xs.length i).bind λj=>xs[j]?
theorem yU {n:Nat}{i:Int}{j:Nat}(h:jQ n i=some j):seqIndex? i n=some j/\j<n/\ -(n:Int)<=i/\i<n:=by
 unfold jQ at h;by_cases z:0<=i
 . rw[if_pos z] at h;by_cases h1:i<n
   . rw[if_pos h1] at h;have e:i.toNat=j:=Option.some.inj h;exact⟨by rw[seqIndex_of z h1,e],by omega,by omega,h1⟩
   . rw[if_neg h1] at h;cases h
 . rw[if_neg z] at h;by_cases h1: -(n:Int)<=i
   . rw[if_pos h1] at h;have e:(i+n).toNat=j:=Option.some.inj h;exact⟨by rw[seqIndex_neg (by omega) h1,e],by omega,h1,by omega⟩
   . rw[if_neg h1] at h;cases h
theorem rV {α:Type}{xs:List α}{i:Int}{v:α}(h:gB xs i=some v):∃j,seqIndex? i xs.length=some j/\xs[j]? =some v/\j<xs.length/\ -(xs.length:Int)<=i/\i<xs.length:=by
 unfold gB at h
 cases e:jQ xs.length i with
 |none=>rw[e] at h;cases h
 |some j=>
  rw[e] at h;obtain⟨h1,h2,z,I⟩:=yU e;exact⟨j,h1,h,h2,z,I⟩
theorem g9 {α:Type}{xs:List α}{j:Nat}{v:α}(h:xs[j]? =some v):gB xs (j:Int)=some v:=by
 have z:j<xs.length:=(List.getElem?_eq_some_iff.mp h).1
 have e:jQ xs.length (j:Int)=some j:=by
  unfold jQ;rw[if_pos (by omega),if_pos (by omega)];simp
 unfold gB;rw[e];exact h
def pG (b:Expr):Prop:=∀o i,subscripted b false o i=operate [o,i] (getItem o i)
def nY (X:Cx) (r:R2):Prop:=
 ∀(value z:Expr) (pins:List (Addr × Obj)) (s:Shared) (σ:St) (H:Hp) (x y:V) (v u:Value) (Q:VK),Inv X pins σ H s->RelV x v->RelV y u->r x y H Q->
  subscripted z false v u=operate [v,u] (getItem v u)->wpAny (model X.prog X.w) X.A (subscriptTail value z v u) (EP X pins σ Q) X.xe s
def rW (X:Cx) (id:String) (r:V->List V->Hp->VK->Prop):Prop:=
 ∀(pins:List (Addr × Obj)) (s:Shared) (σ:St) (H:Hp) (x:V) (xs:List V) (v:Value) (us:List Value) (Q:VK),Inv X pins σ H s->RelV x v->Vals xs us->r x xs H Q->
  wpAny (model X.prog X.w) X.A (call (.builtin id) (v::us)) (EP X pins σ Q) X.xe s
section
variable {X:Cx}{a b:Expr}{ta tb:TE}{pos:Pos}
theorem kP {r:R2}(z:nY X r)(J:PE X a ta)(L:PE X b tb)(U:pG b):PE X (.Subscript a b pos) (f_ r ta tb):=by
 intro pins s σ H Q I h;exact Subscript_ (rE J L I h λv u Y x y H2 I2 rx ry q=>z a b pins Y σ H2 x y v u Q I2 rx ry q (U _ _))
def yV (K:W.Frag):R2:=λx y H Q=>∃p xs i v,x=.ref p/\y=.int i/\eG K H p xs/\gB xs i=some v/\Q v H
def ic (K:W.Frag):R2:=λx y H Q=>∃p xs i v,x=.ref p/\y=.int i/\eB K H p xs/\gB xs i=some v/\Q v H
def DU:R2:=λx y H Q=>∃z i c,x=.str z/\y=.int i/\z.length<=sizeLine/\gB z.cps.toList i=some c/\Q (.str ⟨#[c]⟩) H
theorem yW:nY X (yV X.K):=by
 intro value Y pins s σ H x y v u Q I rx ry h hs;obtain⟨p,xs,i,z,rfl,rfl,hq,he,q⟩:=h
 cases rx;obtain⟨t,rfl⟩:=ry;obtain⟨L,r,pl,hz⟩:=I.list hq;obtain⟨j,h1,h2,h3,h4,h5⟩:=rV he;obtain⟨w,ew,U⟩:=r.get h2;have hl:=r.length;have hn:=mJ;have fin:EP X pins σ Q w s:=⟨z,H,I,U,q⟩;by_cases h0:0<=i
 . have J:i.toNat=j:=by
    rw[seqIndex_of h0 h5] at h1;exact Option.some.inj h1
   exact item_listR pl.isList h0 (by omega) (by rw[J];simpa using ew) fin hs
 . have J:(i+(L.toArray.size:Int)).toNat=j:=by
    rw[seqIndex_neg (by omega) h4] at h1;rw[Q04,<-hl];exact Option.some.inj h1
   exact subscriptTail_builtinR (x:=w) pl.isList.typeIs slot_list_getitem.lookup
    (wpAny_getItem_list_neg (Q:=λr s'=>r=w/\EP X pins σ Q r s') pl.isList (by omega) (by rw[Q04] <;> omega) (by omega) (by rw[J];simpa using ew) ⟨rfl,fin⟩) hs
theorem DV:nY X (ic X.K):=by
 intro value L pins s σ H x y v u Q I U Y h hs;obtain⟨p,xs,i,z,rfl,rfl,hq,he,q⟩:=h
 cases U;obtain⟨t,rfl⟩:=Y;obtain⟨aa,r,pl,hz⟩:=I.tuple hq;obtain⟨j,h1,h2,h3,h4,h5⟩:=rV he;obtain⟨w,ew,J⟩:=r.get h2;have hl:=r.length;have hn:=mJ;have fin:EP X pins σ Q w s:=⟨z,H,I,J,q⟩
 exact subscriptTail_builtinR (x:=w) pl.typeIs slot_tuple_getitem.lookup
  (getItem_tuple (j:=j) (Q:=λr s'=>r=w/\EP X pins σ Q r s') pl (by omega) (by omega) (by rw[Q04,<-hl];exact h1) (by simpa using ew) ⟨rfl,fin⟩) hs
theorem nZ:nY X DU:=by
 intro value J pins s σ H x y v u Q I L U h Y;obtain⟨z,i,c,rfl,rfl,hz,he,q⟩:=h;obtain⟨t,rfl⟩:=L;obtain⟨t',rfl⟩:=U;obtain⟨j,h1,h2,h3,h4,h5⟩:=rV he;have hl:z.cps.toList.length=z.length:=by simp[Str.length]
 rw[hl] at h1 h4 h5;have hn:=mJ
 exact tail_any (typeIs_str s z t) slot_str_getitem.lookup (getItem_str (c:=c) (by
  have e1:decide (i< -(2 ^ 63:Int))=false:=decide_eq_false (by omega);have e2:decide (i ≥ 2 ^ 63)=false:=decide_eq_false (by omega);rw[e1,e2,Bool.or_false]) (by rw[h1];simpa using h2) ⟨.str ⟨#[c]⟩,H,I.tok _,⟨_,rfl⟩,q⟩) Y
theorem DW (z:List Value)(n j:Nat)(u:Value):Obj.mapSeq (·.setIfInBounds j u) { cls:=.type "list",data:=.seq z.toArray n }={ cls:=.type "list",data:=.seq (z.set j u).toArray n }:=by
 simp[Obj.mapSeq]
theorem Inv.lst {pins:List (Addr × Obj)}{σ:St}{H:Hp}{s:Shared}{p:Addr}{xs:List V}(I:Inv X pins σ H s)(h:H p=some (.lst xs)):
 ∃(J:List Value) (n:Nat),Vals xs J/\s.heap.get? p=some { cls:=.type "list",data:=.seq J.toArray n }/\xs.length<=sizeLine:=by
 obtain⟨z,J,n,r,e⟩:=I.hok p _ h;exact⟨J,n,r,e,z⟩
theorem Inv.DX {pins:List (Addr × Obj)}{σ:St}{H:Hp}{s:Shared}{p:Addr}{xs ys:List V}{z its':List Value}{n n':Nat}{f:Obj->Obj}(I:Inv X pins σ H s)(h:H p=some (.lst xs))
 (L:s.heap.get? p=some { cls:=.type "list",data:=.seq z.toArray n }) (J:f { cls:=.type "list",data:=.seq z.toArray n }={ cls:=.type "list",data:=.seq its'.toArray n' }) (r:Vals ys its') (U:ys.length<=sizeLine) (t:Nat):
 Inv X pins σ (upd H p (.lst ys)) { s with heap:=s.heap.update p f,toks:=t }:=by
 have e:(s.heap.update p f).get? p=some { cls:=.type "list",data:=.seq its'.toArray n' }:=by
  rw[Q1d f L (by rw[J] <;> rfl),J]
 refine I.write (x:=p) (e:=p) (by rw[h];trivial) (.inl rfl) (λb u Y q=>(Q15 _ _ (Ne.symm Y)).trans q) ⟨_,e⟩ ?_;exact⟨U,its',n',r,e⟩
def DY:V->V->V->Hp->(Hp->Prop)->Prop:=λo i v H Q=>∃p xs k j,o=.ref p/\i=.int k/\H p=some (.lst xs)/\jQ xs.length k=some j/\Q (upd H p (.lst (xs.set j v)))
theorem set_list:yq X DY:=by
 intro pins s σ H o i v ov iv u Q I ro ri rv h;obtain⟨p,xs,k,j,rfl,rfl,hp,hj,q⟩:=h
 cases ro;obtain⟨t,rfl⟩:=ri;obtain⟨z,n,r,J,hz⟩:=I.lst hp;obtain⟨h1,h2,U,Y⟩:=yU hj;have hl:=r.length;have hn:=mJ
 have I':Inv X pins σ (upd H p (.lst (xs.set j v))) { s with heap:=s.heap.update p (Obj.mapSeq (·.setIfInBounds j u)) }:=
  I.DX hp J (DW z n j u) (r.set rv j) (by rw[List.length_set];exact hz) s.toks
 by_cases h0:0<=k
 . have L:k.toNat=j:=by
    rw[seqIndex_of h0 Y] at h1;exact Option.some.inj h1
   exact W.ki_setAt J h0 (by omega) (by rw[Q04,<-hl];exact Y) (by rw[L];exact⟨_,I',q⟩)
 . have L:(k+(z.toArray.size:Int)).toNat=j:=by
    rw[seqIndex_neg (by omega) U] at h1;rw[Q04,<-hl];exact Option.some.inj h1
   exact W.ki_setBack J (by omega) (by rw[Q04,<-hl];exact U) (by omega) (by rw[L];exact⟨_,I',q⟩)
theorem DZ (lo hi:Option Int)(n:Nat):(sliceBounds lo hi none n).1=((HT.ip n 0 lo:Nat):Int)/\(sliceBounds lo hi none n).2.1=((HT.ip n n hi:Nat):Int)/\(sliceBounds lo hi none n).2.2=1:=by
 refine⟨?_,?_,rfl⟩
 . cases lo with
   |none=>simp[sliceBounds,HT.ip]
   |some i=>
    simp only[sliceBounds,HT.ip,Q2r,show(1:Int) > 0 by decide,if_true];by_cases h:i<0
    . simp only[h,if_true] <;> omega
    . simp only[h,if_false] <;> omega
 . cases hi with
   |none=>simp[sliceBounds,HT.ip]
   |some i=>
    simp only[sliceBounds,HT.ip,Q2r,show(1:Int) > 0 by decide,if_true];by_cases h:i<0
    . simp only[h,if_true] <;> omega
    . simp only[h,if_false] <;> omega
theorem D0 (z:List Value)(lo hi:Option Int):slicePick z.toArray lo hi none=((z.drop (HT.ip z.length 0 lo)).take (HT.ip z.length z.length hi - HT.ip z.length 0 lo)).toArray:=by
 obtain⟨h1,h2,I⟩:=DZ lo hi z.toArray.size;unfold slicePick;rw[h1,h2,I];simp only[sliceRange_one,pick_run,Q04] <;> rfl
def rX (K:W.Frag):V->Option Int->Option Int->Hp->VK->Prop:=λx lo hi H Q=>∃a xs,x=.ref a/\eG K H a xs/\∀p,H p=none->Q (.ref p) (upd H p (.lst (jP xs lo hi)))
theorem jA:rS X (rX X.K):=by
 intro pins s σ H x v vl vu lo hi sl Q I J L pl U h;obtain⟨a,xs,rfl,Y,q⟩:=h
 cases J;obtain⟨aa,r,ht,hz⟩:=I.list Y;have z:=r.length;refine⟨"list",_,slot_list_getitem.lookup,ht.isList.typeIs,?_⟩;refine wpAny_getItem_list_slice ht.isList L pl U .none (by simp) ?_ (by rw[Q04] <;> omega);rw[D0,<-z];refine⟨.ref s.heap.objs.size,_,I.laid (t':=s.toks) (o:=.lst (jP xs lo hi)) (λb ob q=>Q08 _ q) (Q00 _) ?_,rfl,q _ (I.hok.fresh (Q00 _))⟩;exact⟨Q0f (yT xs lo hi) hz,_,0,(r.drop (HT.ip xs.length 0 lo)).take (HT.ip xs.length xs.length hi - HT.ip xs.length 0 lo),Q0n _ rfl⟩
noncomputable def jR:V->Bool
 | .non=>true
 | .bl _=>true
 | .int _=>true
 | .str _=>true
 |_=>false
noncomputable def j_:V->V->Bool
 | .non,.non=>true
 | .bl a,.bl b=>a == b
 | .bl a,.int b=>(if a then 1 else 0) == b
 | .int a,.bl b=>a == (if b then 1 else 0)
 | .int a,.int b=>a == b
 | .str a,.str b=>a == b
 |_,_=>false
theorem D4 {A:Around}{s:Shared}{y x:V}{u v:Value}(I:RelV y u)(z:RelV x v)(L:jR y=true)(J:jR x=true):SeqAt.EqAt A s u v (j_ y x):=by
 cases y with
 |non=>
  cases I
  cases x with
  |non=>cases z;exact SeqAt.EqAt.same _
  |bl b=>cases z;exact SeqAt.EqAt.none_bool b
  |int b=>obtain⟨t,rfl⟩:=z;exact SeqAt.EqAt.none_int b t
  |str b=>obtain⟨t,rfl⟩:=z;exact SeqAt.EqAt.none_str b t
  |_=>exact absurd (show false=true from J) Bool.false_ne_true
 |bl a=>
  cases I
  cases x with
  |non=>cases z;exact SeqAt.EqAt.bool_none a
  |bl b=>cases z;exact SeqAt.EqAt.bool_bool a b
  |int b=>obtain⟨t,rfl⟩:=z;exact SeqAt.EqAt.bool_int a b t
  |str b=>obtain⟨t,rfl⟩:=z;exact SeqAt.EqAt.bool_str a b t
  |_=>exact absurd (show false=true from J) Bool.false_ne_true
 |int a=>
  obtain⟨t',rfl⟩:=I
  cases x with
  |non=>cases z;exact SeqAt.EqAt.int_none a t'
  |bl b=>cases z;exact SeqAt.EqAt.int_bool a t' b
  |int b=>obtain⟨t,rfl⟩:=z;exact SeqAt.EqAt.int_int a t' b t
  |str b=>obtain⟨t,rfl⟩:=z;exact SeqAt.EqAt.int_str a t' b t
  |_=>exact absurd (show false=true from J) Bool.false_ne_true
 |str a=>
  obtain⟨t',rfl⟩:=I
  cases x with
  |non=>cases z;exact SeqAt.EqAt.str_none a t'
  |bl b=>cases z;exact SeqAt.EqAt.str_bool a t' b
  |int b=>obtain⟨t,rfl⟩:=z;exact SeqAt.EqAt.str_int a t' b t
  |str b=>obtain⟨t,rfl⟩:=z;exact SeqAt.EqAt.str_str a t' b t
  |_=>exact absurd (show false=true from J) Bool.false_ne_true
 |_=>exact absurd (show false=true from L) Bool.false_ne_true
noncomputable def kb (x:V) (u:Value):Bool:=match u with
 | .none=>j_ .non x
 | .bool b=>j_ (.bl b) x
 | .int i _=>j_ (.int i) x
 | .str z _=>j_ (.str z) x
 |_=>false
theorem yX {x y:V}{u:Value}(r:RelV y u)(f:jR y=true):kb x u=j_ y x:=by
 cases y with
 |non=>cases r;rfl
 |bl b=>cases r;rfl
 |int i=>obtain⟨t,rfl⟩:=r;rfl
 |str z=>obtain⟨t,rfl⟩:=r;rfl
 |_=>exact absurd (show false=true from f) Bool.false_ne_true
theorem rY {x:V}:∀{xs:List V}{us:List Value},Vals xs us->xs.all jR=true->us.any (kb x)=xs.any λy=>j_ y x
 |_,_,.nil,_=>rfl
 |y::xs,u::us,.cons r t,f=>by
  rw[Q2s,Bool.and_eq_true] at f;rw[Q1e,Q1e,yX r f.1,rY t f.2]
theorem rZ {A:Around}{s:Shared}{x:V}{v:Value}(I:RelV x v)(J:jR x=true):∀{xs:List V}{us:List Value},Vals xs us->xs.all jR=true->∀u∈us,SeqAt.EqAt A s u v (kb x u)
 |_,_,.nil,_=>λu z=>by cases z
 |y::xs,u::us,.cons r t,f=>λL z=>by
  rw[Q2s,Bool.and_eq_true] at f;rcases List.mem_cons.mp z with rfl|z
  . rw[yX r f.1];exact D4 r I f.1 J
  . exact rZ I J t f.2 L z
noncomputable def inV (x:V) (xs:List V):Bool:=xs.any λy=>j_ y x
def D5 (K:W.Frag) (neg:Bool):R2:=λx y H Q=>∃p xs,y=.ref p/\(eG K H p xs\/eB K H p xs)/\jR x=true/\xs.all jR=true/\Q (.bl (if neg then !inV x xs else inV x xs)) H
theorem D6:gA X (compareOp .NotIn) (D5 X.K true):=by
 intro pins s σ H x y v u Q I L Y h;obtain⟨p,xs,rfl,J,U,fs,q⟩:=h
 cases Y;rcases J with J|J
 . obtain⟨z,r,pl,hz⟩:=I.list J;refine SeqAt.notIn_listAt (kb x) pl.isList (λw hw=>rZ L U r fs w (by simpa using hw)) ⟨.bl _,H,I,rfl,?_⟩;rw[show z.toArray.any (kb x)=z.any (kb x) by simp,rY r fs];exact q
 . obtain⟨z,r,pl,hz⟩:=I.tuple J;refine SeqAt.notIn_tupleAt (kb x) pl (λw hw=>rZ L U r fs w (by simpa using hw)) ⟨.bl _,H,I,rfl,?_⟩;rw[show z.toArray.any (kb x)=z.any (kb x) by simp,rY r fs];exact q
theorem gZ:iT X (.builtin "len") (λxs H Q=>∃p ys,xs=[.ref p]/\(eG X.K H p ys\/eB X.K H p ys)/\Q (.int ys.length) H):=by
 intro pins s σ H xs us Q I r h;obtain⟨p,ys,rfl,J,q⟩:=h;obtain⟨u,rfl,Y⟩:=vals1 r
 cases Y;have hn:=mJ;rcases J with J|J
 . obtain⟨U,L,pl,hz⟩:=I.list J;have z:=L.length;exact Calls.call_len_list pl.isList (by simp only[Q04] <;> omega) ⟨.int ys.length,H,I.tok _,⟨s.toks+1,by rw[Q04,z]⟩,q⟩
 . obtain⟨U,L,pl,hz⟩:=I.tuple J;have z:=L.length;exact len_tuple pl (by simp only[Q04] <;> omega) ⟨.int ys.length,H,I.tok _,⟨s.toks+1,by rw[Q04,z]⟩,q⟩
theorem D7:iT X (.builtin "len") (λxs H Q=>∃z,xs=[.str z]/\z.length<=sizeLine/\Q (.int z.length) H):=by
 intro pins s σ H xs us Q I r h;obtain⟨z,rfl,J,q⟩:=h;obtain⟨u,rfl,t,rfl⟩:=vals1 r;have L:=mJ;exact len_str (by omega) ⟨.int z.length,H,I.tok _,⟨_,rfl⟩,q⟩
theorem D8:iT X (.type "list") (λxs H Q=>∃p ys,xs=[.ref p]/\(eG X.K H p ys\/eB X.K H p ys)/\∀l,H l=none->Q (.ref l) (upd H l (.lst ys))):=by
 intro pins s σ H xs us Q I r h;obtain⟨p,ys,rfl,L,q⟩:=h;obtain⟨u,rfl,rx⟩:=vals1 r
 cases rx
 have fin:∀(z:List Value),Vals ys z->ys.length<=sizeLine->∀(h':Heap) (c':Nat),(∀b o',s.heap.get? b=some o'->h'.get? b=some o')->
  h'.get? s.heap.objs.size=some { cls:=.type "list",dict:=none,data:=.seq z.toArray c',slots:=#[] }->EP X pins σ Q (.ref s.heap.objs.size) { s with heap:=h' }:=λz J U h' c' kp e=>
  ⟨.ref s.heap.objs.size,_,I.laid (t':=s.toks) kp (Q00 _) (show gh X.prog X.w _ h' _ (.lst ys) from⟨U,z,c',J,e⟩),rfl,q _ (I.hok.fresh (Q00 _))⟩
 rcases L with L|L
 . obtain⟨z,J,pl,U⟩:=I.list L;have Y:=J.length;obtain⟨o,ho,hc,n,hd⟩:=pl.isList;exact call_list_seq p (.inl rfl) ho hc hd (λh' c' kp e=>fin z J U h' c' kp e) (by simp only[Q04] <;> omega)
 . obtain⟨z,J,pl,U⟩:=I.tuple L;have Y:=J.length;obtain⟨o,ho,hc,n,hd⟩:=pl;exact call_list_seq p (.inr rfl) ho hc hd (λh' c' kp e=>fin z J U h' c' kp e) (by simp only[Q04] <;> omega)
theorem yY:iT X (.type "tuple") (λxs H Q=>∃p ys,xs=[.ref p]/\((eG X.K H p ys/\∀l,H l=none->Q (.ref l) (upd H l (.tup ys)))\/(eB X.K H p ys/\Q (.ref p) H))):=by
 intro pins s σ H xs us Q I r h;obtain⟨p,ys,rfl,h⟩:=h;obtain⟨u,rfl,rx⟩:=vals1 r
 cases rx;rcases h with⟨J,q⟩|⟨J,q⟩
 . obtain⟨z,L,pl,U⟩:=I.list J;have aa:=L.length;refine call_tuple_list pl.isList (λh' kp=>?_) (by simp only[Q04] <;> omega);have Y:Inv X pins σ H { s with heap:=h' }:=I.kept (t':=s.toks) kp
   have I2:Inv X pins σ (upd H h'.objs.size (.tup ys)) { s with heap:=h'.push { cls:=.type "tuple",data:=.seq z.toArray } }:=
    Y.laid (t':=s.toks) (λb o e=>Q08 _ e) (Q00 _) (show gh X.prog X.w _ _ _ (.tup ys) from⟨U,z,L,IsTup.new _ _⟩)
   exact⟨.ref h'.objs.size,_,I2,rfl,q _ (Y.hok.fresh (Q00 _))⟩
 . obtain⟨z,L,pl,U⟩:=I.tuple J;exact call_tuple_same pl ⟨.ref p,H,I,rfl,q⟩
def yZ (K:W.Frag) (T:String) (x:V) (H:Hp):Prop:=match x with
 | .str _=>T="str"
 | .int _=>T="int"
 | .ref p=>(T="list"/\∃xs,eG K H p xs)\/(T="tuple"/\∃o,K.lookup p=some o/\o.cls=.type "tuple"/\o.dict=none)\/
    (T="dict"/\((∃kvs,H p=some (.dK kvs))\/∃kvs,H p=some (.dT kvs)))\/(T="set"/\∃S n,H p=some (.set S n))
 |_=>False
theorem D9 {pins:List (Addr × Obj)}{σ:St}{H:Hp}{s:Shared}{T:String}{x:V}{v:Value}(I:Inv X pins σ H s)(r:RelV x v)(ty:yZ X.K T x H):
 s.TypeIs v T/\∀a,v=.ref a->∃Y,s.heap.get? a=some Y/\Y.dict=none:=by
 cases x with
 |str z=>
  obtain⟨t,rfl⟩:=r
  cases(show T="str" from ty);exact⟨typeIs_str s z t,λ_ e=>nomatch e⟩
 |int i=>
  obtain⟨t,rfl⟩:=r
  cases(show T="int" from ty);exact⟨typeIs_int s i t,λ_ e=>nomatch e⟩
 |ref p=>
  cases r;rcases ty with⟨rfl,xs,hq⟩|⟨rfl,o,J,hc,L⟩|⟨rfl,J⟩|⟨rfl,S,n,J⟩
  . obtain⟨aa,_,pl,_⟩:=I.list hq;refine⟨pl.isList.typeIs,λa e=>?_⟩
    cases e;obtain⟨o,n,e,c,L,_⟩:=pl;exact⟨o,e,L⟩
  . refine⟨⟨o,I.gi p o J,hc⟩,λa e=>?_⟩
    cases e;exact⟨o,I.gi _ o J,L⟩
  . have z:∃o,s.heap.get? p=some o/\o.ExactDict:=by
     rcases J with⟨kvs,J⟩|⟨kvs,J⟩
     . obtain⟨_,_,_,_,o,_,_,e,ex,_⟩:=I.hok p _ J;exact⟨o,e,ex⟩
     . obtain⟨_,_,_,_,o,_,_,e,ex,_⟩:=I.hok p _ J;exact⟨o,e,ex⟩
    obtain⟨o,e,ex⟩:=z;refine⟨⟨o,e,ex.1⟩,λa U=>?_⟩
    cases U;exact⟨o,e,ex.2.1⟩
  . obtain⟨o,_,_,_,e,ex,_⟩:=I.hok p _ J;refine⟨⟨o,e,ex.1⟩,λa U=>?_⟩
    cases U;exact⟨o,e,ex.2.1⟩
 |_=>exact False.elim ty
def D_ (K:W.Frag) (T:String) (r:V->List V->Hp->VK->Prop) (to:TE) (t:TA):TE:=λσ H Q=>to σ H λx H1=>yZ K T x H1/\t σ H1 λxs H2=>r x xs H2 Q
variable {o e:Expr}{es:List Expr}{to:TE}{t:TA}{name:Str}{apos cpos:Pos}{T id:String}{r:V->List V->Hp->VK->Prop}
theorem lM (pa:PlainAttrs T)(slot:Slot T name id)(aa:typeOf (.builtin id)=pure (.type "method_descriptor"))(hm:rW X id r)(ho:PE X o to)(ha:PA X (e::es) t)
 (J:attributeBase o name X.env (eval o X.env)=eval o X.env:=by rfl)
 (Y:((backTo cpos (starEach (e::es) X.env)).all (λx=> !x.1) && (backToKw cpos (keywordEach [] X.env)).all (λx=>x.1.isSome)
   && decide ((e::es).length+([]:List Keyword).length+(if([]:List Keyword).isEmpty then 0 else 1)<30))=true:=by rfl)
 (L:(apos.endLine == cpos.line)=true:=by rfl) (hs:starEach (e::es) X.env=(false,eval e X.env)::starEach es X.env:=by rfl) (z:(backTo cpos (starEach es X.env)).any (·.1)=false:=by rfl):
 PE X (.Call (.Attribute o name apos) (e::es) [] cpos) (D_ X.K T r to t):=by
 intro pins s σ H Q I h;refine wpAny_Call_method_late J Y L rfl (eU (ho pins s σ H _ I h) λv s1 zq=>?_);obtain⟨x,H1,I1,r1,ty,q1⟩:=zq;obtain⟨h1,h2⟩:=D9 I1 r1 ty;refine⟨T,id,pa,slot,aa,h1,h2,?_⟩;have hA:=ha cpos pins s1 σ H1 _ I1 q1;rw[hs] at hA ⊢;refine Calls.callWith_builtin (by show(false || (backTo cpos (starEach es X.env)).any (·.1))=false;rw[z] <;> rfl) (Calls.evalArgs_plain ?_);exact eU hA λus s2 ⟨vs,H2,I2,r2,q2⟩=>hm pins s2 σ H2 x vs v us Q I2 r1 r2 q2
/- xs.append(e),list.index on a U tuple .. ac rW ab of 06m -/
end
def Ea (X:Cx) (id:String) (r:V->List V->Hp->VK->Prop):Prop:=
 ∀(pins:List (Addr × Obj)) (s:Shared) (σ:St) (H:Hp) (x:V) (xs:List V) (v:Value) (us:List Value) (Q:VK),Inv X pins σ H s->RelV x v->Vals xs us->r x xs H Q->
  wpAny (model X.prog X.w) X.A (call (.builtin id) (v::us)) (EP X pins σ Q) X.xe s
theorem Vals.one:∀{x:V}{us:List Value},Vals [x] us->∃u,us=[u]/\RelV x u
 |_,_,.cons r .nil=>⟨_,rfl,r⟩
section
variable {X:Cx}{pins:List (Addr × Obj)}{σ:St}{H:Hp}{s:Shared}{l b:Addr}{xs ys zs:List V}
theorem Inv.Eb {z its':List Value}{n:Nat}{f:Array Value->Array Value}{t':Nat}(I:Inv X pins σ H s)(J:H l=some (.lst xs))
 (e:s.heap.get? l=some { cls:=.type "list",data:=.seq z.toArray n }) (L:f z.toArray=its'.toArray) (U:Vals ys its') (Y:ys.length<=sizeLine):
 Inv X pins σ (upd H l (.lst ys)) { s with heap:=s.heap.update l (Obj.mapSeq f),toks:=t' }:=by
 have q:=PySem.IsL.update e f;rw[L] at q;refine I.write (x:=l) (e:=l) (by rw[J];exact trivial) (.inl rfl) (λb' u hb hu=>(Q15 s.heap (Obj.mapSeq f) (Ne.symm hb)).trans hu) ⟨_,q⟩ ?_;exact⟨Y,its',_,U,q⟩
theorem Inv.Ec {z:List Value}{t':Nat}(I:Inv X pins σ H s)(J:Vals ys z)(L:ys.length<=sizeLine):
 Inv X pins σ (upd H s.heap.objs.size (.lst ys)) { s with heap:=s.heap.push { cls:=.type "list",data:=.seq z.toArray },toks:=t' }:=
 I.laid (λ_ _ q=>Q08 _ q) (Q00 _) ⟨L,z,0,J,Q0n _ rfl⟩
theorem Inv.fresh (I:Inv X pins σ H s):H s.heap.objs.size=none:=I.hok.fresh (Q00 _)
theorem Inv.r8 (I:Inv X pins σ H s)(L:H l=some (.lst xs)):xs.length<=sizeLine/\∃(J:List Value) (n:Nat),Vals xs J/\xs.length=J.length/\s.heap.get? l=some { cls:=.type "list",data:=.seq J.toArray n }:=by
 obtain⟨z,J,n,r,e⟩:=I.hok l _ L;exact⟨z,J,n,r,r.length,e⟩
end
section
variable {X:Cx}
def Ed:V->List V->Hp->VK->Prop:=λx vs H Q=>∃l xs y,x=.ref l/\vs=[y]/\H l=some (.lst xs)/\xs.length<sizeLine/\Q .non (upd H l (.lst (xs++[y])))
theorem mL:Ea X "list.append" Ed:=by
 intro pins s σ H x vs v us Q I U Y h;obtain⟨l,xs,y,rfl,rfl,L,hz,q⟩:=h
 cases U;obtain⟨u,rfl,ru⟩:=Y.one;obtain⟨z,J,n,r,hl,e⟩:=I.r8 L;refine call_meets F.slot_list_append ⟨_,e,rfl⟩ F.entry_list_append (F.args_list_append_2 _ _) (PySem.list_append l J.toArray n u (by rw[Q04];omega)) ⟨e,?_⟩;refine⟨.non,_,I.Eb (its':=J++[u]) L e (by simp) (r.append (.cons ru .nil)) ?_,rfl,q⟩;rw[Q0c,Q1r];omega
def r_:R2:=λx y H Q=>∃l b xs zs,x=.ref l/\y=.ref b/\H l=some (.lst xs)/\H b=some (.lst zs)/\xs.length+zs.length<=sizeLine/\∀p,H p=none->Q (.ref p) (upd H p (.lst (xs++zs)))
theorem iF:gA X (binaryOp .Add) r_:=by
 intro pins s σ H x y v u Q I U Y h;obtain⟨l,b,xs,zs,rfl,rfl,hH,hB,hz,q⟩:=h
 cases U
 cases Y;obtain⟨z,L,n,r,hl,e⟩:=I.r8 hH;obtain⟨z2,J,n2,r2,aa,e2⟩:=I.r8 hB;refine PySem.P.add_list e e2 ?_ (by rw[Q04,Q04];omega);have ea:L.toArray++J.toArray=(L++J).toArray:=by simp
 rw[ea];exact⟨.ref _,_,I.Ec (t':=s.toks) (r.append r2) (by rw[Q0c];omega),rfl,q _ I.fresh⟩
end
section
variable {prog:Program}{w:World}{A:Around}{E:Value->Shared->Prop}{s:Shared}
end
section
variable {X:Cx}
end
section
variable {κ:Type} [DecidableEq κ]
noncomputable def gH (kvs:List (κ × V)) (k:κ):Option V:=(kvs.find? λz=>decide (z.1=k)).map (·.2)
noncomputable def putK (kvs:List (κ × V)) (k:κ) (v:V):List (κ × V):=
 if(kvs.any λz=>decide (z.1=k))=true then kvs.map (λz=>if z.1=k then(z.1,v) else z) else kvs++[(k,v)]
noncomputable def ke (kvs:List (κ × V)) (k:κ):List (κ × V):=kvs.filter λz=>decide (z.1≠k)
theorem n0 {p:κ × V}{r:List (κ × V)}{k:κ}(e:p.1=k):gH (p::r) k=some p.2:=by simp[gH,Q1a,e]
theorem n6 {p:κ × V}{r:List (κ × V)}{k:κ}(e:¬p.1=k):gH (p::r) k=gH r k:=by simp[gH,Q1a,e]
theorem n9 (k:κ):∀kvs:List (κ × V),(kvs.any λz=>decide (z.1=k))=(gH kvs k).isSome
 |[]=>rfl
 |p::r=>by
  rw[Q1e];by_cases e:p.1=k
  . simp only[n0 e,decide_eq_true e,Bool.true_or,Option.isSome_some]
  . rw[n6 e,decide_eq_false e,Bool.false_or];exact n9 k r
theorem y7 (kvs:List (κ × V))(k:κ)(v:V):(putK kvs k v).length<=kvs.length+1:=by
 unfold putK;split
 . rw[Q03];omega
 . rw[Q0c,Q0g,Q25];omega
theorem ib.n_ {o:Option V}{u:Option Value}(r:ib o u):o.isSome=u.isSome:=by
 cases o with
 |none=>cases u with
  |none=>rfl
  |some _=>exact(show False from r).elim
 |some _=>cases u with
  |none=>exact(show False from r).elim
  |some _=>rfl
theorem KV.val {kvs:List (κ × V)}{vs:List (κ × Value)}(r:KV kvs vs)(k:κ):ib (gH kvs k) (valueAt vs k):=by
 unfold KV at r
 induction r with
 |nil=>exact True.intro
 |@cons p q ps I h t L=>
  obtain⟨h1,h2⟩:=h;by_cases e:p.1=k
  . have J:q.1=k:=h1.symm.trans e;have b:valueAt (q::I) k=some q.2:=by simp[valueAt,Q1a,J]
    rw[n0 e,b];exact h2
  . have J:¬q.1=k:=λz=>e (h1.trans z);have b:valueAt (q::I) k=valueAt I k:=by simp[valueAt,Q1a,J]
    rw[n6 e,b];exact L
theorem KV.any {kvs:List (κ × V)}{vs:List (κ × Value)}(r:KV kvs vs)(k:κ):(kvs.any λz=>decide (z.1=k))=vs.any λz=>decide (z.1=k):=by
 unfold KV at r
 induction r with
 |nil=>rfl
 |cons h t I=>rw[Q1e,Q1e,I,h.1]
theorem KV.repl {kvs:List (κ × V)}{vs:List (κ × Value)}(r:KV kvs vs)(k:κ){y:V}{u:Value}(J:RelV y u):
 KV (kvs.map λI=>if I.1=k then(I.1,y) else I) (vs.map λI=>if I.1=k then(I.1,u) else I):=by
 unfold KV at r ⊢
 induction r with
 |nil=>exact .nil
 |@cons p q ps U h t L=>
  rw[Q0x,Q0x];refine .cons ?_ L;obtain⟨h1,h2⟩:=h;by_cases e:p.1=k
  . rw[if_pos e,if_pos (h1.symm.trans e)];exact⟨h1,J⟩
  . rw[if_neg e,if_neg (λz=>e (h1.trans z))];exact⟨h1,h2⟩
theorem KV.put {kvs:List (κ × V)}{vs:List (κ × Value)}(r:KV kvs vs)(k:κ){y:V}{u:Value}(z:RelV y u):KV (putK kvs k y) (stored vs k u):=by
 unfold putK stored;rw[r.any k];by_cases e:(vs.any λI=>decide (I.1=k))=true
 . rw[if_pos e,if_pos e];exact r.repl k z
 . rw[if_neg e,if_neg e];exact Paired.snoc r ⟨rfl,z⟩
theorem KV.drop {kvs:List (κ × V)}{vs:List (κ × Value)}(r:KV kvs vs)(k:κ):KV (ke kvs k) (without vs k):=by
 unfold KV at r ⊢;unfold ke without
 induction r with
 |nil=>exact .nil
 |@cons p q ps L h t I=>
  obtain⟨h1,h2⟩:=h;rw[Q1s,Q1s];by_cases e:p.1=k
  . have a:¬decide (p.1≠k)=true:=by simp[e]
    have b:¬decide (q.1≠k)=true:=by simp[h1.symm.trans e]
    rw[if_neg a,if_neg b];exact I
  . have J:¬q.1=k:=λz=>e (h1.trans z);have a:decide (p.1≠k)=true:=by simp[e]
    have b:decide (q.1≠k)=true:=by simp[J]
    rw[if_pos a,if_pos b];exact .cons ⟨h1,h2⟩ I
theorem KV.length {kvs:List (κ × V)}{vs:List (κ × Value)}(r:KV kvs vs):kvs.length=vs.length:=Paired.length r
theorem Ee (kvs:List (κ × V))(k:κ):(ke kvs k).length<=kvs.length:=Q2t _ _
end
theorem mM {P:Program}{w:World}{k:Key}{u:Value}(r:RelV (kV k) u):(iP P w).is k u=true:=by
 cases k with
 |inl i=>obtain⟨t,e⟩:=(show ∃t,u=Value.int i t from r);subst e;exact CJ P w i t
 |inr x=>obtain⟨t,e⟩:=(show ∃t,u=Value.str x t from r);subst e;exact CK P w x t
theorem y8 {P:Program}{w:World}:∀{ks:List Key}{us:List Value},Vals (ks.map kV) us->ItemsAre (iP P w) ks us
 |[],_,r=>by rw[List.map_nil] at r;cases r;exact .nil
 |k::ks,_,r=>by
  rw[Q0x] at r
  cases r with
  |cons h t=>exact .cons (mM h) (y8 t)
abbrev KT (H:Hp):List (List Key × V)->List (List Key × Addr × Value)->Prop:=Paired λp q=>p.1=q.1/\H q.2.1=some (.tup (p.1.map kV))/\RelV p.2 q.2.2
theorem KT.val {H:Hp}{kvs:List (List Key × V)}{xs:List (List Key × Addr × Value)}(r:KT H kvs xs)(k:List Key):ib (gH kvs k) ((atKey xs k).map (·.2)):=by
 induction r with
 |nil=>exact True.intro
 |@cons p q ps I h t L=>
  obtain⟨h1,_,h2⟩:=h;by_cases e:p.1=k
  . have J:q.1=k:=h1.symm.trans e;have b:atKey (q::I) k=some q.2:=by simp[atKey,Q1a,J]
    rw[n0 e,b];exact h2
  . have J:¬q.1=k:=λz=>e (h1.trans z);have b:atKey (q::I) k=atKey I k:=by simp[atKey,Q1a,J]
    rw[n6 e,b];exact L
theorem KT.repl {H:Hp}{kvs:List (List Key × V)}{xs:List (List Key × Addr × Value)}(r:KT H kvs xs)(k:List Key){y:V}{u:Value}(J:RelV y u):
 KT H (kvs.map λI=>if I.1=k then(I.1,y) else I) (xs.map (putAt k u)):=by
 induction r with
 |nil=>exact .nil
 |@cons p q ps Y h t L=>
  rw[Q0x,Q0x];refine .cons ?_ L;obtain⟨h1,h2,U⟩:=h;unfold putAt;by_cases e:p.1=k
  . rw[if_pos e,if_pos (h1.symm.trans e)];exact⟨h1,h2,J⟩
  . rw[if_neg e,if_neg (λz=>e (h1.trans z))];exact⟨h1,h2,U⟩
theorem KT.put {H:Hp}{kvs:List (List Key × V)}{xs:List (List Key × Addr × Value)}(r:KT H kvs xs)(k:List Key){b:Addr}{y:V}{u:Value}(I:H b=some (.tup (k.map kV)))(z:RelV y u):
 KT H (putK kvs k y) (storedH xs k b u):=by
 have e:(kvs.any λJ=>decide (J.1=k))=(atKey xs k).isSome:=by
  rw[n9,(r.val k).n_,Q26]
 unfold putK storedH;rw[e];by_cases q:(atKey xs k).isSome=true
 . rw[if_pos q,if_pos q];exact r.repl k z
 . rw[if_neg q,if_neg q];exact Paired.snoc r ⟨rfl,I,z⟩
theorem KT.keeps {H H':Hp}{kvs:List (List Key × V)}{xs:List (List Key × Addr × Value)}(r:KT H kvs xs)(ht:∀b ys,H b=some (.tup ys)->H' b=some (.tup ys)):KT H' kvs xs:=
 Paired.nJ r λ_ _ z=>⟨z.1,ht _ _ z.2.1,z.2.2⟩
section
variable {P:Program}{w:World}{H:Hp}{h:Heap}{a:Addr}
theorem y9 {u:HO}(ok:f9 P w H h)(e:Rd H a u):gh P w H h a u:=e.ok ok
theorem mO {kvs:List (Key × V)}(ok:f9 P w H h)(e:Rd H a (.dK kvs)):kvs.length<=sizeLine/\(a == sysModules)=false/\∃vs,KV kvs vs/\h.DictOf (iP P w) a vs:=
 show gh P w H h a (.dK kvs) from y9 ok e
theorem sd {kvs:List (Key × V)}(ok:f9 P w H h)(e:H a=some (.dK kvs)):kvs.length<=sizeLine/\(a == sysModules)=false/\∃vs,KV kvs vs/\h.DictOf (iP P w) a vs:=mO ok (.inl e)
theorem og {ks:List Key}(ok:f9 P w H h)(e:H a=some (.tup (ks.map kV))):(tupleKind (iP P w)).is h ks a:=by
 obtain⟨_,z,r,o,h1,h2,n,I⟩:=(show gh P w H h a (.tup (ks.map kV)) from ok a _ e);exact⟨o,z.toArray,n,h1,h2,I,by simpa using y8 r⟩
theorem oh {kvs:List (List Key × V)}(ok:f9 P w H h)(e:Rd H a (.dT kvs)):kvs.length<=sizeLine/\(a == sysModules)=false/\
 ∃xs,KT H kvs xs/\h.DictOfH (tupleKind (iP P w)) a xs:=by
 obtain⟨z,y,xs,r,o,es,L,h1,h2,U,Y,h5⟩:=(show gh P w H h a (.dT kvs) from y9 ok e);refine⟨z,y,xs,r,o,es,L,h1,h2,U,Y,λx I=>?_,h5⟩
 have all:∀{l:List (List Key × V)} {m:List (List Key × Addr × Value)},KT H l m->∀x∈m,(tupleKind (iP P w)).is h x.1 x.2.1:=by
  intro l m q
  induction q with
  |nil=>intro x I;exact nomatch I
  |@cons p q ps qs J t ih=>
   intro x I;rcases List.mem_cons.mp I with e|I
   . subst e;exact og ok (by rw[<-J.1];exact J.2.1)
   . exact ih x I
 exact all r x I
theorem Ef {kvs:List (List Key × V)}(ok:f9 P w H h)(e:H a=some (.dT kvs)):kvs.length<=sizeLine/\(a == sysModules)=false/\
 ∃xs,KT H kvs xs/\h.DictOfH (tupleKind (iP P w)) a xs:=oh ok (.inl e)
end
def gf (H:Hp) (a:Addr) (y:V) (r:Option V):Prop:=
 (∃kvs k,Rd H a (.dK kvs)/\y=kV k/\r=gH kvs k)\/∃kvs k b,Rd H a (.dT kvs)/\y=.ref b/\H b=some (.tup (k.map kV))/\r=gH kvs k
def jB (H:Hp) (a:Addr) (y v:V) (H':Hp):Prop:=
 (∃kvs k,H a=some (.dK kvs)/\y=kV k/\kvs.length<sizeLine/\H'=upd H a (.dK (putK kvs k v)))\/
 ∃kvs k b,H a=some (.dT kvs)/\y=.ref b/\H b=some (.tup (k.map kV))/\kvs.length<sizeLine/\H'=upd H a (.dT (putK kvs k v))
theorem gf.k {H:Hp}{a:Addr}{kvs:List (Key × V)}{k:Key}(e:H a=some (.dK kvs)):gf H a (kV k) (gH kvs k):=.inl ⟨kvs,k,.inl e,rfl,rfl⟩
theorem jB.k {H:Hp}{a:Addr}{kvs:List (Key × V)}{k:Key}{v:V}(e:H a=some (.dK kvs))(hl:kvs.length<sizeLine):jB H a (kV k) v (upd H a (.dK (putK kvs k v))):=.inl ⟨kvs,k,e,rfl,hl,rfl⟩
section
variable {X:Cx}{pins:List (Addr × Obj)}{σ:St}{H:Hp}{s:Shared}{a:Addr}{y v:V}{u r:Value}{o:Option V}{A:Around}{E:Value->Shared->Prop}
theorem Inv.big (I:Inv X pins σ H s):sysModules<s.heap.objs.size:=by
 have h:mainGlobals<s.heap.objs.size:=(I.mod.glob.keeps I.bk).lt;exact Nat.lt_trans (by decide) h
theorem Eg {Q:Value->Shared->Prop}(hu:A.units+1<cLine)(I:Inv X pins σ H s)(g:gf H a y (some v))(ry:RelV y u)(h:∀U s',Inv X pins σ H s'->RelV v U->Q U s'):
 wpAny (model X.prog X.w) A (getItem (.ref a) u) Q E s:=by
 rcases g with⟨kvs,k,e,Y,l⟩|⟨kvs,k,b,e,Y,eb,l⟩
 . subst Y;obtain⟨z,hd,vs,J,dd⟩:=mO I.hok e;obtain⟨U,hw,L⟩:=ib.some_of (v:=v) (o:=valueAt vs k) (by rw[l];exact J.val k);exact wpAny_getItem_of (mM ry) dd.mapOf hw (h U _ (I.tok _) L)
 . subst Y
   cases(show u=Value.ref b from ry);obtain⟨z,hd,xs,J,dd⟩:=oh I.hok e;obtain⟨U,hw,L⟩:=ib.some_of (v:=v) (o:=(atKey xs k).map (·.2)) (by rw[l];exact J.val k);obtain⟨p,hp,aa⟩:=Option.map_eq_some_iff.mp hw;refine wpAny_getItem_heap (tupleKind_room_in1 hu) (og I.hok eb) dd hp ?_;rw[aa];exact h U _ (I.tok _) L
theorem Eh {Q:Value->Shared->Prop}(hu:A.units+1<cLine)(I:Inv X pins σ H s)(g:gf H a y o)(ry:RelV y u)(h:∀s',Inv X pins σ H s'->Q (.bool o.isSome) s'):
 wpAny (model X.prog X.w) A (compareOp .In u (.ref a)) Q E s:=by
 rcases g with⟨kvs,k,e,L,l⟩|⟨kvs,k,b,e,L,eb,l⟩
 . subst L;obtain⟨z,U,vs,J,Y⟩:=mO I.hok e;refine wpAny_in_of (mM ry) U Y.mapOf ?_;rw[<-(J.val k).n_,<-l];exact h _ (I.tok _)
 . subst L
   cases(show u=Value.ref b from ry);obtain⟨z,U,xs,J,Y⟩:=oh I.hok e;refine wpAny_in_heap (tupleKind_room_in1 hu) (og I.hok eb) U Y ?_;have q:=(J.val k).n_;rw[Q26] at q;rw[<-q,<-l];exact h _ (I.tok _)
theorem Ej {Q:Value->Shared->Prop}(hu:A.units+1<cLine)(I:Inv X pins σ H s)(g:gf H a y o)(ry:RelV y u)(h:∀s',Inv X pins σ H s'->Q (.bool (!o.isSome)) s'):
 wpAny (model X.prog X.w) A (compareOp .NotIn u (.ref a)) Q E s:=by
 rcases g with⟨kvs,k,e,L,l⟩|⟨kvs,k,b,e,L,eb,l⟩
 . subst L;obtain⟨z,U,vs,J,Y⟩:=mO I.hok e;refine wpAny_notIn_of (mM ry) U Y.mapOf ?_;rw[<-(J.val k).n_,<-l];exact h _ (I.tok _)
 . subst L
   cases(show u=Value.ref b from ry);obtain⟨z,U,xs,J,Y⟩:=oh I.hok e;refine wpAny_notIn_heap (tupleKind_room_in1 hu) (og I.hok eb) U Y ?_;have q:=(J.val k).n_;rw[Q26] at q;rw[<-q,<-l];exact h _ (I.tok _)
theorem se {h':Heap}{t':Nat}{J:HO}(I:Inv X pins σ H s)(mu:nK (H a))(L:Heap.SameBut a s.heap h')(U:∃q,h'.get? a=some q)(new:gh X.prog X.w (upd H a J) h' a J):
 Inv X pins σ (upd H a J) { s with heap:=h',toks:=t' }:=
 I.write (x:=a) (e:=a) mu (.inl rfl) (λb q Y z=>(L.2 b Y).trans z) U new
theorem y_ {P:Program}{w:World}{H':Hp}{h':Heap}{kvs:List (Key × V)}{vs:List (Key × Value)}(z:kvs.length<=sizeLine)(J:(a == sysModules)=false)(I:KV kvs vs)(L:h'.DictOf (iP P w) a vs):
 gh P w H' h' a (.dK kvs):=⟨z,J,vs,I,L⟩
theorem El {H':Hp}{Q:Unit->Shared->Prop}(hu:A.units+1<cLine)(I:Inv X pins σ H s)(g:jB H a y v H')(ry:RelV y u)(rv:RelV v r)(h:∀s',Inv X pins σ H' s'->Q () s'):
 wpAny (model X.prog X.w) A (setItem (.ref a) u r) Q E s:=by
 rcases g with⟨kvs,k,e,Y,l,eH⟩|⟨kvs,k,b,e,Y,eb,l,eH⟩
 . subst Y eH;obtain⟨z,hd,vs,J,dd⟩:=sd I.hok e;have hz:vs.length<=sizeLine:=by rw[<-J.length];exact z
   have hl:(putK kvs k v).length<=sizeLine:=by have:=y7 kvs k v;omega
   refine wpAny_setItem_pairs (hsz:=hz) (mM ry) dd λh' L hs=>h _ ?_;have he:∃q,h'.get? a=some q:=let⟨q,_,_,U,_⟩:=L;⟨q,U⟩
   exact se I (by rw[e];exact True.intro) hs he (y_ hl hd (J.put k rv) L)
 . subst Y eH
   cases(show u=Value.ref b from ry);obtain⟨z,hd,xs,J,dd⟩:=Ef I.hok e;have hz:xs.length<=sizeLine:=by rw[<-Paired.length J];exact z
   have hl:(putK kvs k v).length<=sizeLine:=by have:=y7 kvs k v;omega
   refine wpAny_setItem_heap (hsz:=hz) (tupleKind_room_in1 hu) (og I.hok eb) dd λh' L hs=>h _ ?_;obtain⟨q,es,ep,U,h2,h3,h4,_,h5⟩:=L;refine se I (by rw[e];exact True.intro) hs ⟨q,U⟩ ⟨hl,hd,_,(J.put k eb rv).keeps λc ys ec=>?_,q,es,ep,U,h2,h3,h4,h5⟩;rw[d_ (gz ec e (λz=>nomatch z))];exact ec
end
section
variable {X:Cx}{pins:List (Addr × Obj)}{σ:St}{H:Hp}{s:Shared}{a:Addr}{kvs:List (Key × V)}{k:Key}{u:Value}{A:Around}{E:Value->Shared->Prop}
theorem Em {v:V}{J:List Value}{Q:Value->Shared->Prop}(I:Inv X pins σ H s)(e:H a=some (.dK kvs))(ry:RelV (kV k) u)(l:gH kvs k=some v)(hm:J=[]\/∃x,J=[x])
 (h:∀U s',Inv X pins σ (upd H a (.dK (ke kvs k))) s'->RelV v U->Q U s'):wpAny (model X.prog X.w) A (call (.builtin "dict.pop") (.ref a::u::J)) Q E s:=by
 obtain⟨z,hd,vs,L,dd⟩:=sd I.hok e;obtain⟨U,hw,aa⟩:=ib.some_of (v:=v) (o:=valueAt vs k) (by rw[<-l];exact L.val k)
 have hp:(keyPart u).isSome=true:=by
  cases k with
  |inl i=>obtain⟨t,q⟩:=(show ∃t,u=Value.int i t from ry);subst q;rfl
  |inr x=>obtain⟨t,q⟩:=(show ∃t,u=Value.str x t from ry);subst q;rfl
 have ha:argsOk "dict.pop" ⟨.ref a::u::J,[]⟩:=by
  rcases hm with q|⟨x,q⟩
  . subst q;exact PySem.F.args_dict_pop_2 _ _
  . subst q;exact PySem.F.args_dict_pop_3 _ _ _
 refine call_meetsIn PySem.F.slot_dict_pop dd.typeIs PySem.F.entry_dict_pop ha (meets_dict_pop_there (iP X.prog X.w) a (mM ry) J hm hp)
  ⟨vs,U,dd,by rw[<-L.length];exact z,hw,λh' Y hs=>h U _ ?_ aa⟩
 have he:∃q,h'.get? a=some q:=let⟨q,_,_,hq,_⟩:=Y;⟨q,hq⟩
 exact se I (by rw[e];exact True.intro) hs he (y_ (Q0f (Ee kvs k) z) hd (L.drop k) Y)
theorem En {Q:Value->Shared->Prop}(I:Inv X pins σ H s)(e:Rd H a (.dK kvs))(h:∀t s',Inv X pins σ H s'->Q (.int kvs.length t) s'):wpAny (model X.prog X.w) A (call (.builtin "len") [.ref a]) Q E s:=by
 obtain⟨z,L,vs,J,U⟩:=mO I.hok e;refine call_len_dict L U (by rw[<-J.length];rw[sizeLine_eq] at z;omega) ?_;rw[<-J.length];exact h _ _ (I.tok _)
end
def za (i:Expr):Prop:=∀z I,subscripted i false z I=operate [z,I] (getItem z I)
theorem Eo {prog:Program}{w:World}{A:Around}{E:Value->Shared->Prop}{s:Shared}{env:Env}{value z:Expr}{pos:Pos}{T id:String}{Q:Value->Shared->Prop}
 (hl:typeLookup (.type T) "__getitem__"=pure (some (.builtin id))) (hs:za z)
 (h:wpAny (model prog w) A (eval value env) (λo L=>wpAny (model prog w) A (eval z env) (λi I=>I.TypeIs o T/\wpAny (model prog w) A (getItem o i) Q E I) E L) E s):
 wpAny (model prog w) A (eval (.Subscript value z pos) env) Q E s:=by
 refine Subscript_ (Q0m h (λo L Y=>Q0m Y (λi I J=>?_) λ_ _ x=>x) λ_ _ x=>x);obtain⟨hT,J⟩:=J;unfold subscriptTail;refine Q0 ?_;rw[getitemInPython_of_ne hT.not_modules];refine Q0 (wpAny_specialOf hT hl ?_)
 have fin:wpAny (model prog w) A (subscripted z false o i) (λr U=>wpAny (model prog w) A (letTemporaryGo value o r >>= λ_=>pure r) Q E U) E I:=by
  rw[hs o i];exact wpAny_operating (Q0m J (λr U aa=>Q0 (wpAny_letTemporaryGo (Q09 aa))) λ_ _ x=>x)
 first
  |exact Q09 (Q0 fin)
  |exact Q0 (Q09 (Q0 fin))
  |exact Q0 fin
theorem Ep {X:Cx}{pins:List (Addr × Obj)}{σ:St}{H:Hp}{s:Shared}{a:Addr}{y:V}{o:Option V}(I:Inv X pins σ H s)(g:gf H a y o):s.TypeIs (.ref a) "dict":=by
 rcases g with⟨kvs,k,e,_,_⟩|⟨kvs,k,b,e,_,_,_⟩
 . obtain⟨_,_,vs,_,z⟩:=mO I.hok e;exact z.typeIs
 . obtain⟨_,_,xs,_,z⟩:=oh I.hok e;exact z.typeIs
def Er (td ty:TE):TE:=λσ H Q=>td σ H λx H1=>ty σ H1 λy H2=>∃a v,x=.ref a/\gf H2 a y (some v)/\Q v H2
def Es (ty td:TE):TE:=λσ H Q=>ty σ H λy H1=>td σ H1 λx H2=>∃a o,x=.ref a/\gf H2 a y o/\Q (.bl o.isSome) H2
def Et (ty td:TE):TE:=λσ H Q=>ty σ H λy H1=>td σ H1 λx H2=>∃a o,x=.ref a/\gf H2 a y o/\Q (.bl (!o.isSome)) H2
def Eu (td ty tv:TE):TS:=λD σ H=>tv σ H λv H1=>td σ H1 λx H2=>ty σ H2 λy I=>∃a z,x=.ref a/\jB I a y v z/\D.nx σ z
section
variable {X:Cx}{o i e value:Expr}{pos pos' tpos:Pos}{td ty tv:TE}
theorem iU (L:X.A.units+1<cLine)(U:PE X o td)(hi:PE X i ty)(Y:za i):PE X (.Subscript o i pos) (Er td ty):=by
 intro pins s σ H Q I h;refine Eo PySem.F.slot_dict_getitem.lookup Y (eU (U pins s σ H _ I h) λu s1 ⟨x,H1,I1,rx,q1⟩=>eU (hi pins s1 σ H1 _ I1 q1) λiv s2 zq=>?_);obtain⟨y,H2,J,ry,a,v,ex,g,q2⟩:=zq;subst ex;obtain rfl:u=Value.ref a:=rx;exact⟨Ep J g,Eg L J g ry λw' s3 I3 z=>⟨v,H2,I3,z,q2⟩⟩
theorem zb (z:X.A.units+1<cLine)(hi:PE X i ty)(J:PE X o td):PC X .In i o (Es ty td):=by
 intro pins s σ H Q I h;refine eU (hi pins s σ H _ I h) λiv L ⟨y,H1,U,Y,q1⟩=>eU (J pins L σ H1 _ U q1) λu s2 zq=>?_;obtain⟨x,H2,I2,rx,a,ov,ex,g,q2⟩:=zq;subst ex;obtain rfl:u=Value.ref a:=rx;exact Eh z I2 g Y λs3 I3=>⟨.bl ov.isSome,H2,I3,rfl,q2⟩
theorem zc (z:X.A.units+1<cLine)(hi:PE X i ty)(J:PE X o td):PC X .NotIn i o (Et ty td):=by
 intro pins s σ H Q I h;refine eU (hi pins s σ H _ I h) λiv L ⟨y,H1,U,Y,q1⟩=>eU (J pins L σ H1 _ U q1) λu s2 zq=>?_;obtain⟨x,H2,I2,rx,a,ov,ex,g,q2⟩:=zq;subst ex;obtain rfl:u=Value.ref a:=rx;exact Ej z I2 g Y λs3 I3=>⟨.bl (!ov.isSome),H2,I3,rfl,q2⟩
theorem mP (z:X.A.units+1<cLine)(J:PE X o td)(hi:PE X i ty)(L:PE X value tv)(U:swapsWith value (some (.Subscript o i pos')) pos.line X.env=pure false):
 PS X (.Assign [.Subscript o i pos'] value pos) (Eu td ty tv):=by
 intro pins s σ H D I h;refine wpAny_Assign_Subscript (eU (L pins s σ H _ I h) λr Y ⟨v,H1,I1,rv,q1⟩=>eU (J pins Y σ H1 _ I1 q1) λu s2 ⟨x,H2,I2,rx,q2⟩=>eU (hi pins s2 σ H2 _ I2 q2) λiv s3 zq=>?_) U;obtain⟨y,H3,I3,ry,a,H4,ex,g,q3⟩:=zq;subst ex;obtain rfl:u=Value.ref a:=rx;exact El z I3 g ry rv λs4 I4=>⟨σ,H4,I4,q3⟩
end
theorem Ew {P:Program}{w:World}{H:Hp}(h:Heap)(z:sysModules<h.objs.size):gh P w H (h.push { cls:=.type "dict",data:=.dict #[] }) h.objs.size (.dK []):=
 ⟨Q0a _,beq_eq_false_iff_ne.mpr (Ne.symm (Q07 z)),[],.nil,Heap.DictOf.new h⟩
def Ex:TE:=λ_ H Q=>∀p,H p=none->Q (.ref p) (upd H p (.dK []))
section
variable {X:Cx}{pos:Pos}
theorem pH:PE X (.Dict [] [] pos) Ex:=λpins s σ H Q I h=>
 wpAny_Dict_empty ⟨.ref s.heap.objs.size,_,I.laid (a:=s.heap.objs.size) (o:=.dK []) (t':=s.toks) (λ_ _ q=>Q08 _ q) (Q00 _) (Ew s.heap I.big),rfl,h _ (I.hok.fresh (Q00 _))⟩
end
section
variable {X:Cx}{pins:List (Addr × Obj)}{σ:St}{H:Hp}{s:Shared}{a:Addr}{y d:V}{u r:Value}{o:Option V}{A:Around}{E:Value->Shared->Prop}
end
section
variable {X:Cx}{o e f:Expr}{apos cpos:Pos}{td ty tx:TE}
end
section
variable {X:Cx}{pins:List (Addr × Obj)}{σ:St}{H:Hp}{s:Shared}{a:Addr}{kvs:List (Key × V)}{A:Around}{E:Value->Shared->Prop}
end
section
variable {X:Cx}{pins:List (Addr × Obj)}{σ:St}{H:Hp}{s:Shared}{a:Addr}{y:V}{u:Value}{A:Around}{E:Value->Shared->Prop}
end
end L2
namespace zd
open W Calls PyProof.Rows
theorem Ey {P:Params}{h:Heap}:∀(ns:List Int) (vs:List Value),WellAll P h vs (ns.map WData.int)->IntsAre vs ns:=by
 intro ns
 induction ns with
 |nil=>
  intro vs w;rw[List.map_nil] at w
  cases w;exact .nil
 |cons n ns z=>
  intro vs w;rw[Q0x] at w
  cases w with
  |cons a b=>
   cases a;exact .cons _ _ (z _ b)
theorem Ez {l:OpenLaw}{n:Nat}(hn:l.most=some n){P:Params}{h:Heap}{args:List WData}{z:List Value}
 (I:l.row.toRowW.claim.pre args=true) (aa:WellAll P h z args):
 ∃a vs ns,z=[Value.ref a]/\args=[WData.list (ns.map WData.int)]/\h.get? a=some { cls:=.type "list",data:=.seq vs.toArray }/\IntsAre vs ns/\ns.length<=n:=by
 have ab:WShape.hasAll [] args [.list .int]=true:=(pre_splitW I).1;have hc:l.pre.holds [] { args:=args }=true:=(pre_splitW I).2;obtain⟨d,r,rfl,h1,h2⟩:=hasAllW_cons ab;obtain rfl:=hasAllW_nil h2;obtain⟨xs,rfl,h3⟩:=hasW_list h1;obtain⟨ns,rfl⟩:=items_int h3
 have J:ns.length<=n:=by
  unfold OpenLaw.pre at hc
  have U:(WTm.not (.lt (.lit (.int (n:Int))) (.len (.arg 0)))).holds [] { args:=[.list (ns.map .int)] }=true:=by
   have U:=(holds_andW hc).1;rw[hn] at U;exact U
  have Y:=condW_of U (w_not (w_lt w_lit (w_len_list (w_arg rfl))));rw[Q03] at Y;refine Q1 λq=>?_;have q':(n:Int)<((ns.length:Nat):Int):=by omega
  first
   |(rw[decide_eq_true q'] at Y;exact absurd Y (by decide))
   |(simp at Y;omega)
 cases aa with
 |cons w1 w2=>
  cases w2
  cases w1 with
  |list ho L=>exact⟨_,_,ns,rfl,rfl,ho,Ey ns _ L,J⟩
theorem EA (l:OpenLaw)(args:List WData):l.row.toRowW.claim.post args (.bool true) args=true:=
 postW_of (r:=l.row.toRowW) (X:=(true == true))
  (show WShape.has [] (.bool true) .bool=true by first|rfl|decide|simp[WShape.has,WShape.arms,WShape.armsAll])
  (show(WTm.eq .res (.lit (.bool true))).value [] { args:=args,res:=some (.bool true),after:=args }=some (.bool (true == true)) from w_eq_bool (w_res rfl) w_lit) rfl
theorem EB {l:OpenLaw}{n:Nat}{q:Program}{loose:List Str}{XP:(Str->Option Value)->Heap->Prop}{YP:World->Heap->Prop}{d:DefRec}
 (hn:l.most=some n) (ac:d.params.defaults=[])
 (call:∀(w:World) (s₀ z:Shared) (mg mb:Str->Option Value) (L:Addr) (o:Obj) (pm cd I:Value) (a:Addr) (vs:List Value) (ns:List Int),
   Ground q loose [] XP w s₀ mg mb z.heap->YP w z.heap->
   z.heap.get? L=some o->o.data=.func (docDef d.name d.params d.body d.scope pm cd I)->z.heap.CodeRec cd d.name->mg d.name=some (.ref L)->
   z.heap.get? a=some { cls:=.type "list",data:=.seq vs.toArray }->IntsAre vs ns->ns.length<=n->z.gens=#[]->
   codeAny (model l.prog w) callerA (.call (.ref L) ⟨[.ref a],[]⟩) (λr s'=>r=.ok (.ret (.bool true))/\OldK z.heap s'.heap/\s'.os=z.os/\AllBare s'.gens) z):
 WalkO q loose XP YP l.row.toRowW d [] (λf vs=>PySem.call f vs):=by
 intro w s₀ z mg mb G Y L o pm cd I dV kV ho hd ae hD af hg args ah as U ai aj ag ak;obtain rfl:dV=.none:=Dflts.none hD ac;obtain rfl:kV=.none:=Dflts.noKw hD;obtain⟨a,vs,ns,rfl,rfl,aa,J,ab⟩:=Ez hn U ag;refine enter_call (codeAny_mono (call w s₀ z mg mb L o pm cd I a vs ns G Y ho (fd_plain hd) ae af aa J ab hg) λr s' hq=>?_);obtain⟨rfl,h2,h3,h4⟩:=hq;exact⟨.inl ⟨.bool true,.bool true,[],rfl,λ_=>rfl,.bool true,EA l _,λ_=>⟨List.Pairwise.nil,λ_ hm=>(nomatch hm)⟩⟩,h2,h3,h4⟩
section
variable {prog:Program}{w:World}{A:Around}{E:Value->Shared->Prop}{s:Shared}{K:Frag}
end
end zd
namespace L2
open Spec PyProof.Rows
theorem ze:∀{vs:List Value}{ns:List Int},IntsAre vs ns->Vals (ns.map V.int) vs
 |_,_,.nil=>.nil
 |_,_,.cons n t h=>.cons ⟨t,rfl⟩ (ze h)
abbrev eI:iE:=λ_ _ _ _ _ _=>False
abbrev E0:XK:=λ_ _ _=>False
theorem iV {X:Cx}:Passes eI X E0:=λ_ _ _ _ _ _ _ h=>h.elim
structure jC (K:W.Frag) (x qual:Str) (st:Stmt) (f:Addr) (fd:FuncData):Prop where
 ex:∃(oc:Value) (od:Option Addr) (kV doc pm:Value) (an:Option Addr) (cdv ct:Value) (osl:Array (Option Value)),
  fd=W.fnOf x qual (gG st) (gj st) (eP st) .none kV doc pm an cdv ct/\K.lookup f=some ⟨oc,od,.func fd,osl⟩/\W.codeIn K cdv qual=true
 kp:W.keepIn K (.ref f)=true
variable {P:Program}{w:World}{K:W.Frag}{mg:Str->Option Value}{base:Heap}
def FnBody (P:Program) (w:World) (K:W.Frag) (mg:Str->Option Value) (base:Heap) (N ps:List Str) (qual:Str) (st:Stmt) (f:Addr) (k:Nat) (vs:List V) (H:Hp) (Q:VK) (E:XK):Prop:=vs.length=ps.length/\∀(z:Value) (A:Around) (outer:List Env) (s:Shared),N.Nodup->fy k (A.deeper (envOfC qual (eP st) s.heap.objs.size f z))->(A.deeper (envOfC qual (eP st) s.heap.objs.size f z)).units+1<cLine->∃t,h9 (fh eI P w K mg base N qual (eP st) f z A outer s H E).fj (gj st) t/\t { nx:=λ_ H'=>Q .non H',rt:=Q } (start N vs) H
theorem jC.ok {x qual:Str}{st:Stmt}{f:Addr}{fd:FuncData}{N ps:List Str}{k:Nat}{sp:Sp}(F:jC K x qual st f fd)(S:fo N ps (eP st))
 (z:∀(vs:List V) (H:Hp) (Q:VK) (E:XK),sp vs H Q E->FnBody P w K mg base N ps qual st f k vs H Q E):eE P w K mg base eI (k+1) f fd ps sp:=by
 obtain⟨oc,od,kV,aa,pm,an,I,ct,ab,rfl,Y,J⟩:=F.ex;refine pF Y J S (λvs H Q E h=>(z vs H Q E h).1) λA outer s H vs Q E U L=>?_;obtain⟨t,h,q⟩:=(z vs H Q E L).2 I A outer s S.nd U (Q1f (Q27 (by decide:1<=64) _) U.units);exact⟨t,h.fj,q⟩
theorem jC.binds {x qual:Str}{st:Stmt}{f:Addr}{fd:FuncData}{ps:List Str}(F:jC K x qual st f fd)
 (h:∀(kV z J:Value) (L:Option Addr) (I ct:Value) (us:List Value),us.length=ps.length->bindArgs (W.fnOf x qual (gG st) (gj st) (eP st) .none kV z J L I ct) ⟨us,[]⟩=pure (ps.zip us)):Binds K fd ps []:=by
 obtain⟨oc,od,kV,z,J,L,I,ct,U,rfl,lk,Y⟩:=F.ex;exact .all (h kV z J L I ct)
theorem oj {x qual:Str}{st:Stmt}{f:Addr}{Y:Value}{od L:Option Addr}{J:Array (Option Value)}{kV I U z ct:Value}(l:K.lookup f=some ⟨Y,od,.func (W.fnOf x qual (gG st) (gj st) (eP st) .none kV I U L z ct),J⟩)
 (c:W.codeIn K z qual=true) (k:W.keepIn K (.ref f)=true):jC K x qual st f (W.fnOf x qual (gG st) (gj st) (eP st) .none kV I U L z ct):=⟨⟨Y,od,kV,I,U,L,z,ct,J,rfl,l,c⟩,k⟩
theorem zf {A:Around}{k:Nat}(z:fy k A):A.units+1<cLine:=Q1f (Q27 (by decide:1<=64) _) z.units
theorem gN {n:Nat}(h:n<=1000):n<sizeLine:=Q1f h (by decide)
section
variable {X:Cx}
theorem pv (i:Nat){x:Str}{pos:Pos}(I:X.N[i]? =some x:=by rfl)(J:rj X.env.scope x:=by first|exact Or.inl rfl|exact Or.inr (Or.inl rfl)|exact Or.inr (Or.inr rfl))(L:(x == ("__debug__":Str))=false:=by decide)
 (z:(x == ("__classdict__":Str))=false:=by decide):PE X (.Name x pos) (fT i):=CU I J L z
end
theorem fe {A B:Prop}(h:B):if false=true then A else B:=by
 rw[if_neg Bool.false_ne_true];exact h
theorem fF {A B:Prop}(h:A):if true=true then A else B:=by
 rw[if_pos rfl];exact h
theorem fJ {c A B:Prop} [Decidable c](h1:c->A)(h2:¬c->B):if c then A else B:=by
 by_cases h:c
 . rw[if_pos h];exact h1 h
 . rw[if_neg h];exact h2 h
theorem jS {c A B:Prop} [Decidable c](hc:c)(h:B):if(!decide c)=true then A else B:=by
 rw[decide_eq_true hc];exact fe h
def Same (H H':Hp):Prop:=∀b o,H b=some o->H' b=some o
theorem Same.refl (H:Hp):Same H H:=λ_ _ h=>h
theorem Same.trans {H H1 H2:Hp}(a:Same H H1)(b:Same H1 H2):Same H H2:=λc o h=>b c o (a c o h)
theorem Same.free {H H':Hp}(e:Same H H'){l:Addr}(h:H' l=Option.none):H l=Option.none:=by
 cases q:H l with
 |none=>rfl
 |some o=>
  rw[e l o q] at h
  cases h
section
variable {X:Cx}
theorem zg:iT X (.builtin "len") (λxs H Q=>∃a kvs,xs=[V.ref a]/\H a=some (.dK kvs)/\Q (.int kvs.length) H):=by
 intro pins s σ H xs us Q I r h;obtain⟨a,kvs,rfl,z,q⟩:=h;obtain⟨u,rfl,J⟩:=vals1 r
 cases J;exact En I (.inl z) λt s' L=>⟨.int kvs.length,H,L,⟨t,rfl⟩,q⟩
end
section
variable {κ:Type} [DecidableEq κ]
theorem EC {kvs:List (κ × V)}{k:κ}{v:V}(h:gH kvs k=some v):k∈kvs.map (·.1):=by
 have q:(kvs.any λz=>decide (z.1=k))=true:=by
  rw[n9,h]
  all_goals rfl
 obtain⟨p,hp,e⟩:=List.any_eq_true.mp q;exact List.mem_map.mpr ⟨p,hp,of_decide_eq_true e⟩
end
theorem zh {g:Str->NameKind->NameKind}{x:Str}:∀names:List (Str × NameKind),
 (names.map λy=>(y.1,g y.1 y.2)).lookup x=(names.lookup x).map (g x)
 |[]=>rfl
 |(n,k)::r=>by
  show List.lookup x ((n,g n k)::_)=_;rw[Q16,Q16,zh r]
  cases z:x == n with
  |true=>rw[eq_of_beq z];rfl
  |false=>rfl
noncomputable def jT (env:Env) (n:Str) (k:NameKind):NameKind:=
 if(k == .free && env.scope.kind == .function && env.kindOf n == some .cell)=true then .cell else k
theorem zi (scope:Scope)(env:Env)(x:Str):
 (relabel scope env).names.lookup x=(scope.names.lookup x).map (jT env x):=by
 rw[<-zh (g:=jT env) scope.names];show List.lookup x (scope.names.map _)=_;congr 1;apply List.map_congr_left;rintro⟨n,k⟩ _;show(if _ then _ else _)=(n,jT env n k);unfold jT;split <;> rfl
theorem ED {env:Env}{x:Str}{k:NameKind}(h:jT env x k=.local):k=.local:=by
 unfold jT at h;split at h
 . cases h
 . exact h
theorem EE {env:Env}{x:Str}{k:NameKind}(h:jT env x k=.cell):k=.free\/k=.cell:=by
 unfold jT at h;split at h
 . rename_i c;left;simp only[Bool.and_eq_true] at c;exact eq_of_beq c.1.1
 . exact .inr h
theorem EF {env:Env}{x:Str}{k:NameKind}(h:jT env x k=.free):k=.free:=by
 unfold jT at h;split at h
 . cases h
 . exact h
theorem sf {env:Env}:∀(names:List (Str × NameKind)) (I:List (Str × Addr)),(∀y∈names,y.2=.free->∃c,env.cells.lookup y.1=some c)->
 (∀x c,I.lookup x=some c->env.cells.lookup x=some c)->
 ∃cl:List (Str × Addr),(forIn names I λy cs=>if(y.2 == NameKind.free)=true then(do let a <-cellOf env y.1;pure (ForInStep.yield ((y.1,a)::cs))) else pure (ForInStep.yield cs))=(pure cl:Sem _)/\
  (∀x c,cl.lookup x=some c->env.cells.lookup x=some c)/\(∀x,((x,NameKind.free)∈names\/(I.lookup x).isSome=true)->cl.lookup x=env.cells.lookup x)
 |[],I,_,J=>⟨I,rfl,J,λx z=>by
    rcases z with z|z
    . cases z
    . obtain⟨c,e⟩:=Option.isSome_iff_exists.mp z;rw[e,J x c e]⟩
 |(n,k)::r,I,L,J=>by
  by_cases U:k=.free
  . subst U;obtain⟨c,e⟩:=L (n,.free) Q0b rfl;have e:env.cells.lookup n=some c:=e
    have aa:∀x d,((n,c)::I).lookup x=some d->env.cells.lookup x=some d:=λx d h=>by
     rw[Q16] at h
     cases z:x == n with
     |true=>
      rw[z] at h
      cases h;rw[eq_of_beq z];exact e
     |false=>
      rw[z] at h;exact J x d h
    obtain⟨cl,h1,h2,Y⟩:=sf r ((n,c)::I) (λy hy=>L y (Q0e _ hy)) aa;refine⟨cl,?_,h2,λx z=>Y x ?_⟩
    . rw[Q2u];have ec:cellOf env n=pure c:=by unfold cellOf;rw[e]
      simp only[beq_self_eq_true,if_true,ec,pure_bind];exact h1
    . rcases z with z|z
      . rcases List.mem_cons.mp z with q|q
        . right
          cases q;rw[Q16,beq_self_eq_true];rfl
        . exact .inl q
      . right;rw[Q16]
        cases x == n with
        |true=>rfl
        |false=>exact z
  . obtain⟨cl,h1,h2,Y⟩:=sf r I (λy hy=>L y (Q0e _ hy)) J;refine⟨cl,?_,h2,λx z=>Y x ?_⟩
    . rw[Q2u];have eb:(k == NameKind.free)=false:=by simpa using U
      simp only[eb,Bool.false_eq_true,if_false,pure_bind];exact h1
    . rcases z with z|z
      . rcases List.mem_cons.mp z with q|q
        . cases q;exact absurd rfl U
        . exact .inl q
      . exact .inr z
theorem sg {scope:Scope}{env:Env}(I:∀y∈scope.names,y.2=.free->∃c,env.cells.lookup y.1=some c):
 ∃cl:List (Str × Addr),closureFor scope env=pure cl/\(∀x c,cl.lookup x=some c->env.cells.lookup x=some c)/\(∀x,(x,NameKind.free)∈scope.names->cl.lookup x=env.cells.lookup x):=by
 obtain⟨cl,h1,h2,J⟩:=sf scope.names [] I (λx c h=>by cases h);refine⟨cl,?_,h2,λx L=>J x (.inl L)⟩;unfold closureFor
 have e:(forIn scope.names ([]:List (Str × Addr)) λy z=>do
  let mut z:=z
  match y with
  |(name,kind)=>if(kind == NameKind.free)=true then z:=(name,<-cellOf env name)::z
  pure (ForInStep.yield z))=(pure cl:Sem _):=by
  rw[<-h1]
 first
  |exact(by simpa using e)
  |(show(forIn scope.names ([]:List (Str × Addr)) _ >>= λz=>pure z)=_;rw[bind_pure];exact e)
structure iW (X:Cx) (own:List Str) (scope:Scope):Prop where
 kind:scope.kind=.function
 cell:∀y∈scope.names,y.2≠ .cell
 names:∀y∈scope.names,y.2=.local->scope.names.lookup y.1=some .local
 free:∀y∈scope.names,y.2=.free->X.env.kindOf y.1=some .cell\/X.env.kindOf y.1=some .free
 nd:(own++X.N).Nodup
 outer:∀x∈X.N,scope.names.lookup x≠some .local
noncomputable def hX (X:Cx) (own:List Str) (scope:Scope) (cl:List (Str × Addr)) (C:Addr) (J:List Addr) (z:Shared) (I:Hp):Cx:=
 { X with N:=own++X.N,s₀:=z,H₀:=I,env:=compEnvC scope cl C X.env,outer:=X.stack,ex:=J,fn:=λ_=>false,pn:=[],xe:=λ_ _=>False }
def om (X:Cx) (z:List Expr) (t:TT):Prop:=
 ∀(pins:List (Addr × Obj)) (s:Shared) (σ:St) (H:Hp) (Q:Bool->Hp->Prop),Inv X pins σ H s->t σ H Q->
  wpAny (model X.prog X.w) X.A (forIn z true λc r=>if r=true then do let ok <-isTrue c X.env (eval c X.env);pure (ForInStep.yield ok) else pure (ForInStep.yield r)) (TP X pins σ Q) X.xe s
def kQ:TT:=λ_ H Q=>Q true H
theorem mQ {X:Cx}:om X [] kQ:=λpins s σ H Q I h=>wpAny_tests_nil ⟨H,I,h⟩
theorem pI {X:Cx}{c:Expr}{t:TT}(h:PT X c t):om X [c] t:=λpins s σ H Q I q=>wpAny_tests_one (h pins s σ H Q I q)
def zj (k:Nat) (U:TI) (g:TG) (tt:TT) (te:TE):TE:=λσ H Q=>U σ H λJ H1=>
 ∃W:Nat->Nat->List V->Hp->Prop,(∃m,W 0 m [] H1)/\∀i m ys H,W i m ys H->
  (J.stop i H/\∀p,H p=none->Q (.ref p) (upd H p (.lst ys)))\/
  (J.go i H/\ys.length<sizeLine/\∀x H',J.ji i H x H'->g x (List.replicate k none++σ) H' λz H2=>z.drop k=σ/\
    tt z H2 λb L=>if b=true then te z L λy Y=>∃I,I<m/\W (i+1) I (ys++[y]) Y else ∃I,I<m/\W (i+1) I ys L)
section
variable {prog:Program}{w:World}{A:Around}{R:Result->Shared->Prop}{s:Shared}
theorem EG {ah J iter:Expr}{ai:List Expr}{scope:Scope}{pos:Pos}{it ag:Value}{env:Env}(I:Nat->Shared->Prop)
 (turn:∀n s,I n s->wpAny (model prog w) A (pyNext it) (λr L=>
   match r with
   |none=>R (.ok .next) L
   |some v=>wpAny (model prog w) A (letOwnedTupleGo J it v) (λ_ Y=>wpAny (model prog w) A (assign J env v) (λ_ aa=>
     wpAny (model prog w) A (forIn ai true λc r=>if r=true then do let ok <-isTrue c env (eval c env);pure (ForInStep.yield ok) else pure (ForInStep.yield r)) (λok U=>
      if ok=true then wpAny (model prog w) A (eval ah env) (λx ab=>
       wpAny (model prog w) A (call (.builtin "list.append") [ag,x]) (λ_ ac=>∃m,m<n/\I m ac) (λ_ _=>False) ab) (λ_ _=>False) U
      else ∃m,m<n/\I m U) (λ_ _=>False) aa) (λ_ _=>False) Y) (λ_ _=>False) L) (λ_ _=>False) s)
 (n:Nat) (h:I n s):
 codeAny (model prog w) A (.compLoop (.ListComp ah [⟨J,iter,ai,0⟩] scope pos) 0 it ag env) R s:=by
 refine codeAny_loop rfl I (λn s hI=>?_) n h;show wpAny _ A ((compTurn _ 0 it ag env).onRaise _) _ _ s;refine wpAny_noted ?_;rw[compTurn_list]
 have no:∀{α:Type} {t:Sem α} {Q Q':α->Shared->Prop} {E:Value->Shared->Prop} {s:Shared},wpAny (model prog w) A t Q (λ_ _=>False) s->(∀a s,Q a s->Q' a s)->wpAny (model prog w) A t Q' E s:=
  λh k=>Q0m h k λ_ _ z=>z.elim
 refine Q0 (wpAny_standAt (Q0 (no (turn n s hI) λr L ae=>?_)))
 cases r with
 |none=>exact Q09 ae
 |some v=>
  refine Q0 (no ae λ_ Y aj=>?_);refine Q0 (no aj λ_ aa ak=>Q0 (no ak λok U af=>?_))
  cases ok with
  |false=>exact Q09 ⟨rfl,af⟩
  |true=>
   refine Q0 (Q0 (no af λx ab al=>?_));exact Q0 (no al λ_ ac am=>Q09 (Q09 ⟨rfl,am⟩))
end
noncomputable abbrev iG (us:List Value) (n:Nat):Obj:={ cls:=.type "list",data:=.seq us.toArray n }
section
variable {X:Cx}{own:List Str}{scope:Scope}
theorem iW.cells (S:iW X own scope){pins:List (Addr × Obj)}{σ:St}{H:Hp}{s:Shared}(I:Inv X pins σ H s):
 ∀y∈scope.names,y.2=.free->∃c,X.env.cells.lookup y.1=some c:=λy z J=>I.ok.has y.1 (S.free y z J)
theorem iW.freeOf (S:iW X own scope){x:Str}(h:(relabel scope X.env).names.lookup x=some .cell\/(relabel scope X.env).names.lookup x=some .free):(x,NameKind.free)∈scope.names:=by
 rw[zi] at h
 cases e:scope.names.lookup x with
 |none=>rw[e] at h;rcases h with h|h <;> cases h
 |some k=>
  rw[e] at h;have z:(x,k)∈scope.names:=PySem.mem_of_lookup e
  have I:k=.free:=by
   rcases h with h|h
   . rcases EE (Option.some.inj h) with q|q
     . exact q
     . exact absurd q (S.cell _ z)
   . exact EF (Option.some.inj h)
  rw[<-I];exact z
theorem iW.EH (S:iW X own scope){x:Str}(z:x∈X.N):(relabel scope X.env).names.lookup x≠some .local:=λh=>by
 rw[zi] at h
 cases e:scope.names.lookup x with
 |none=>rw[e] at h;cases h
 |some k=>
  rw[e] at h;have:=ED (Option.some.inj h);subst this;exact S.outer x z e
theorem zk {k:Nat}{σ:St}{i:Nat}{v:V}(h:(List.replicate k none++σ)[i]? =some (some v)):k<=i/\σ[i - k]? =some (some v):=by
 by_cases hi:i<k
 . rw[Q1o (by simpa using hi),Q2q] at h;split at h <;> cases h
 . refine⟨Q1 hi,?_⟩;rw[Q14 (by simpa using hi)] at h;simpa using h
theorem Inv.block {pins:List (Addr × Obj)}{σ:St}{H:Hp}{s:Shared}{fp:List Addr}{cl:List (Str × Addr)}{C D:Addr}{L:Heap}{m:Str->Option Value}{t':Nat}{us:List Value}{n:Nat}(I:Inv X pins σ H s)(S:iW X own scope)
 (hf:∀b∈fp,h_ X pins H b) (ag:∀b∈fp,b<s.heap.objs.size)
 (J:∀x c,cl.lookup x=some c->X.env.cells.lookup x=some c) (aa:∀x,(x,NameKind.free)∈scope.names->cl.lookup x=X.env.cells.lookup x)
 (hC:s.heap.objs.size<=C) (hD:s.heap.objs.size<=D) (ah:D≠C) (hn:L.Ns C m) (Y:∀b o,s.heap.get? b=some o->L.get? b=some o) (af:L.get? D=some (iG us n)):
 Inv (hX X own scope cl C fp s H) [(D,iG us n)] (List.replicate own.length none++σ) H { s with heap:=L,toks:=t' }:=by
 have ok:=I.ok
 have mB:∀b:Addr,s.heap.objs.size<=b->b ∉ frs X.stack:=λb U z=>by
  rcases List.mem_cons.mp (I.mC b z) with e|e
  . exact absurd I.lt (by rw[<-e];exact Nat.not_lt.mpr U)
  . exact I.mB U e
 have fresh:∀b:Addr,s.heap.objs.size<=b->H b=none:=λb U=>I.hok.fresh U
 have al:∀x c,cl.lookup x=some c->c<s.heap.objs.size:=λx c e=>by
  obtain⟨v,q⟩:=I.cell x c (J x c e);exact q.lt
 refine⟨⟨ok.mod,S.kind,ok.glob,ok.blt,hC,λx y c e1 e2=>ok.inj x y c (J x c e1) (J y c e2),λx hx=>?_,λx c hx _=>(nomatch hx),ok.hd,ok.frames,.inl rfl,λb U=>?_,I.bs,Q0f ok.jx I.sz,λb o e U=>?_,λb U z=>?_,I.stack,I.nM⟩,
  rfl,I.bare,Un.kept Y,⟨m,hn,λi x v e1 e2 e3=>?_⟩,λx c e=>?_,fresh C hC,λx c e=>?_,λp hp=>?_,I.hok.kept Y,?_⟩
 . have hm:=S.freeOf (x:=x) hx;obtain⟨c,e⟩:=ok.has x (S.free _ hm rfl);exact⟨c,by rw[show(hX X own scope cl C fp s H).env.cells=cl from rfl,aa x hm];exact e⟩
 . refine⟨Q07 (Q06 (ag b U) hC),λx c e z=>?_⟩;exact(hf b U).2.2.2.2.1 x c (J x c e) z
 . rcases(hf b U).2.2.2.1 with z|z
   . exact ok.mz b o e z
   . exact absurd (Q06 (Q01 e) (Q0f ok.jx z)) (Q0l _)
 . rcases List.mem_cons.mp (I.mC b z) with q|q
   . exact(hf b U).2.1 q
   . exact(hf b U).2.2.1 q
 . obtain⟨hk,ai⟩:=zk e2
   have ab:X.N[i - own.length]? =some x:=by
    have e1:(own++X.N)[i]? =some x:=e1;rw[Q14 hk] at e1;exact e1
   have aj:x∈X.N:=Q19 ab
   have ac:(relabel scope X.env).names.lookup x=some .cell\/(relabel scope X.env).names.lookup x=some .free:=by
    rcases e3 with q|q
    . exact absurd q (S.EH aj)
    . exact q
   have hm:=S.freeOf ac;have ae:=S.free _ hm rfl;obtain⟨mX,am,ak⟩:=I.loc;obtain⟨u,r,lk⟩:=ak _ x v ab ai (.inr ae);refine⟨u,r,.inr ⟨ac,?_⟩⟩;rcases lk with⟨q,_⟩|⟨_,c,ec,hc⟩
   . rcases ae with z|z
     . rw[z] at q;cases q
     . rw[z] at q;cases q
   . obtain⟨o,ho,hd⟩:=hc;exact⟨c,(aa x hm).trans ec,o,Y _ _ ho,hd⟩
 . obtain⟨v,o,ho,hd⟩:=I.cell x c (J x c e);exact⟨v,o,Y _ _ ho,hd⟩
 . exact I.iA x c (J x c e)
 . have e:p=(D,iG us n):=by
    have hp:p∈([]++[(D,iG us n)]:List (Addr × Obj)):=hp;simpa using hp
   subst e
   exact⟨af,fresh D hD,ah,mB D hD,λv z=>by
    have z:Data.seq us.toArray n=Data.cell v:=z
    cases z⟩
 . show _=(own++X.N).length;rw[Q0c,Q0c,Q1p,I.len]
theorem Inv.unblock {pins:List (Addr × Obj)}{σ aa:St}{H H3:Hp}{s s3:Shared}{fp:List Addr}{cl:List (Str × Addr)}{C D:Addr}{h':Heap}{us:List Value}{n:Nat}{ys:List V}{pl:List (Addr × Obj)}(I:Inv X pins σ H s)
 (hf:∀b∈fp,h_ X pins H b) (J:Inv (hX X own scope cl C fp s H) pl aa H3 s3) (ab:(D,iG us n)∈pl) (hC:s.heap.objs.size<=C) (hD:s.heap.objs.size<=D) (ac:D≠C)
 (r:Vals ys us) (hz:ys.length<=sizeLine) (hs:Heap.SameBut C s3.heap h'):Inv X pins σ (upd H3 D (.lst ys)) { s3 with heap:=h' }/\H3 D=none:=by
 obtain⟨eD,Y,_,_,_⟩:=J.pin (D,iG us n) (Q05 _ ab);have nC:H3 C=none:=J.free;have kC:∀b o,b≠C->s3.heap.get? b=some o->h'.get? b=some o:=λb o L e=>(hs.2 b L).trans e;refine⟨I.call' (ch:=fp) J.os ⟨λb o e nb L U=>?_,λb o e nb L U=>?_,λb o e nb U=>?_,λb o e U=>?_,λb xs e=>?_,λb o u e=>?_,λb ps e=>?_⟩ (λb o e=>?_) J.bare (λb L=>?_),Y⟩
 . exact kC b o (Q07 (Q06 (Q01 e) hC)) (J.base.keep b o e nb L U)
 . obtain⟨sl,e1⟩:=J.base.slot b o e nb L U;exact⟨sl,kC b _ (Q07 (Q06 (Q01 e) hC)) e1⟩
 . rw[d_ (Q07 (Q06 (Q01 e) hD))];exact J.base.free b o e nb U
 . obtain⟨o',e1⟩:=J.base.there b o e U;exact⟨o',kC b _ (Q07 (Q06 (Q01 e) hC)) e1⟩
 . have q:=J.base.tups b xs e;rw[d_ (eM q Y)];exact q
 . have q:=J.base.iQ b o u e;rw[d_ (eM q Y)];exact q
 . obtain⟨mo,q⟩:=J.base.iR b ps e;exact⟨mo,by rw[d_ (eM q Y)];exact q⟩
 . by_cases L:b=D
   . subst L;rw[eK] at e;cases e;exact⟨hz,us,n,r,kC b _ ac eD⟩
   . rw[d_ L] at e;refine(J.hok b o e).stay (λc v hc q=>kC c v ?_ q) (λc q=>by rw[d_ (eM q Y)];exact q) λc xs q=>by rw[d_ (eM q Y)];exact q
     rcases hc with z|z
     . rw[z];exact eM e nC
     . exact eM z nC
 . obtain⟨_,f1,_,f3,f4,f5⟩:=hf b L;exact⟨f3,f1,f4,f5⟩
theorem zl {tg iter aq:Expr}{ar:List Expr}{pos:Pos}{g:TG}{tt:TT}{te:TE}{pins:List (Addr × Obj)}{σ:St}{H2:Hp}{I:Shared}{it:Addr}{U:List Addr}{tn:Nat->Heap->Prop}{J:It}{cl:List (Str × Addr)}{Fin:List V->Hp->Prop}{W:Nat->Nat->List V->Hp->Prop}{m0:Nat}
 {RR:Value->Addr->Result->Shared->Prop} (hc:X.calm=true) (S:iW X own scope) (ai:∀x c,cl.lookup x=some c->X.env.cells.lookup x=some c) (aF:∀x,(x,NameKind.free)∈scope.names->cl.lookup x=X.env.cells.lookup x)
 (I2:Inv X pins σ H2 I) (T:Turn X.prog X.w X.K tg J U it tn) (ax:tn 0 I.heap) (f2:∀b∈U,h_ X pins H2 b) (w0:W 0 m0 [] H2)
 (turn:∀i m ys H,W i m ys H->(J.stop i H/\Fin ys H)\/
   (J.go i H/\ys.length<sizeLine/\∀x H',J.ji i H x H'->g x (List.replicate own.length none++σ) H' λau H2=>au.drop own.length=σ/\
     tt au H2 λb H3=>if b=true then te au H3 λy H4=>∃m',m'<m/\W (i+1) m' (ys++[y]) H4 else ∃m',m'<m/\W (i+1) m' ys H3))
 (hg:∀cl C U ac ae,PG (hX X own scope cl C U ac ae) tg g) (ht:∀cl C U ac ae,om (hX X own scope cl C U ac ae) ar tt) (he:∀cl C U ac ae,PE (hX X own scope cl C U ac ae) aq te)
 (aK:∀(C D:Addr) (s5:Shared) (H5:Hp) (ys:List V) (us:List Value) (k:Nat),I.heap.objs.size<=C->I.heap.objs.size<=D->D≠C->Inv (hX X own scope cl C U I H2) [(D,iG us k)] (List.replicate own.length none++σ) H5 s5->Vals ys us->ys.length<=sizeLine->Fin ys H5->RR (.ref D) C (.ok .next) s5):
 wpAny (model X.prog X.w) X.A (newList []) (λay af=>wpAny (model X.prog X.w) X.A (newFunctionEnv scope X.env.globals cl [] X.env.qual none .none (some X.env)) (λal aG=>
  codeAny (model X.prog X.w) X.A (.compStart (.ListComp aq [⟨tg,iter,ar,0⟩] scope pos) 0 (.ref it) ay { al with scope:=relabel scope X.env }) (RR ay al.locals) aG) X.xe af) X.xe I:=by
 have ak:∀b∈U,b<I.heap.objs.size:=λb L=>by
  obtain⟨o,e,_⟩:=T.obj _ _ ax b L;exact Q01 e
 refine wpAny_newObj_type (wpAny_newFunctionEnv S.cell (by intro y hy;simp at hy) (λag aa Y=>?_) S.kind);dsimp only at aa Y ⊢;generalize hG:I.heap.push { cls:=.type "list",dict:=none,data:=.seq ([]:List Value).toArray }=G at aa Y ⊢;have az:G.objs.size=I.heap.objs.size+1:=by rw[<-hG,Q1m]
 have hC:I.heap.objs.size<=G.objs.size:=by rw[az];exact Q17 _
 have av:I.heap.objs.size≠G.objs.size:=by rw[az];exact Q07 (Q0y _)
 have aA:∀b o,I.heap.get? b=some o->ag.get? b=some o:=λb o e=>
  Y.extBut b o (Q07 (Q06 (Q01 e) hC)) (Q08 _ (hG ▸ Q08 _ e))
 have aH:ag.get? I.heap.objs.size=some (iG [] 0):=Y.extBut _ _ av (Q08 _ (hG ▸ Q0n _ rfl));have I3:=I2.block (cl:=cl) (t':=I.toks+([]:List (Str × Value)).length) S f2 ak ai aF hC (Q00 _) av aa aA aH;have aB:tn 0 ag:=T.keep _ _ _ ax λb _ o e=>aA b o e;have aL:∀b∈U,H2 b=none:=λb L=>(f2 b L).1
 have aj:∀{H':Hp} {us:List Value} {n:Nat},(∀b∈U,H' b=none)->∀b∈U,h_ (hX X own scope cl G.objs.size U I H2) [(I.heap.objs.size,iG us n)] H' b:=λ{H' us n} hn b L=>by
  refine⟨hn b L,Q07 (Q06 (ak b L) hC),λz=>?_,.inl L,λx c e=>(f2 b L).2.2.2.2.1 x c (ai x c e),λp hp=>?_⟩
  . rcases List.mem_cons.mp (I2.mC b z) with q|q
    . exact(f2 b L).2.1 q
    . exact(f2 b L).2.2.1 q
  . have hp:p∈([]++[(I.heap.objs.size,iG us n)]:List (Addr × Obj)):=hp;have e:p=(I.heap.objs.size,iG us n):=by simpa using hp
    subst e;exact Q0q (ak b L)
 have am:∀af:Shared,af={ I with heap:=ag,toks:=I.toks+([]:List (Str × Value)).length }->
  codeAny (model X.prog X.w) X.A (.compLoop (.ListComp aq [⟨tg,iter,ar,0⟩] scope pos) 0 (.ref it) (.ref I.heap.objs.size) (compEnvC scope cl G.objs.size X.env))
   (RR (.ref I.heap.objs.size) G.objs.size) af:=by
  rintro af rfl
  refine EG (λn s'=>∃i ys us k H',Inv (hX X own scope cl G.objs.size U I H2) [(I.heap.objs.size,iG us k)] (List.replicate own.length none++σ) H' s'/\Vals ys us/\ys.length<=sizeLine/\tn i s'.heap/\(∀b∈U,H' b=none)/\W i n ys H')
   ?_ m0 ⟨0,[],[],0,H2,I3,.nil,Q0a _,aB,aL,w0⟩
  intro n s4 zq;obtain⟨i,ys,us,k,H4,I4,r4,z4,aC,aD,w4⟩:=zq;rcases turn i n ys H4 w4 with⟨stop,qn⟩|⟨go,aM,step⟩
  . refine eU (T.done (hX X own scope cl G.objs.size U I H2) rfl rfl rfl hc i _ s4 _ H4 (λ_ _=>False) I4 (aj aD) aC stop) λr s5 ⟨hr,I5⟩=>?_;subst hr;exact aK G.objs.size I.heap.objs.size s5 H4 ys us k hC (Q00 _) av I5 r4 z4 qn
  . refine eU (T.item (hX X own scope cl G.objs.size U I H2) rfl rfl rfl hc i _ s4 _ H4 (λ_ _=>False) I4 (aj aD) aC go) λr s5 ⟨u,hr,h5⟩=>?_;subst hr;refine eU h5 λ_ s6 zq=>?_;obtain⟨x,H6,I6,r6,y6,ah,aP⟩:=zq;have aQ:=I6.pinned (aj aP) (T.obj _ _ ah);refine eU (hg cl G.objs.size U I H2 _ s6 _ H6 x u _ aQ r6 (step x H6 y6)) λ_ s7 zq=>?_;obtain⟨ab,H7,I7,d7,q7⟩:=zq;refine eU (ht cl G.objs.size U I H2 _ s7 ab H7 _ I7 q7) λb s8 ⟨H8,I8,q8⟩=>?_;have an:(List.replicate own.length none++σ).length=ab.length:=by rw[I7.len,<-I6.len]
    have back:∀(j:Nat) v,(List.replicate own.length none++σ)[j]? =some (some v)->ab[j]? =some (some v):=λj v e=>by
     obtain⟨hk,e'⟩:=zk e;rw[<-d7,List.getElem?_drop] at e';rw[<-e'];congr 1;omega
    cases b with
    |false=>
     have q8:∃m',m'<n/\W (i+1) m' ys H8:=q8;obtain⟨m',hm,w8⟩:=q8;refine⟨m',hm,i+1,ys,us,k,H8,I8.kK.weak an back,r4,z4,T.keep _ _ _ ah λb L o e=>?_,λb L=>?_,w8⟩
     . exact(I8.pin (b,o) (Q05 _ (Q05 _ (nU L e)))).1
     . obtain⟨o,e,d⟩:=T.obj _ _ ah b L;exact(I8.pin (b,o) (Q05 _ (Q05 _ (nU L e)))).2.1
    |true=>
     have q8:te ab H8 λy H9=>∃m',m'<n/\W (i+1) m' (ys++[y]) H9:=q8;show wpAny _ _ _ _ _ _;refine eU (he cl G.objs.size U I H2 _ s8 ab H8 _ I8 q8) λyv s9 zq=>?_;obtain⟨y,H9,I9,r9,m',hm,w9⟩:=zq;obtain⟨eD,nD,aE,aT,_⟩:=I9.pin (I.heap.objs.size,iG us k) (Q05 _ (Q0r _ Q0b));have hl:=r4.length;refine append_at (hsz:=by rw[Q04,<-hl];exact z4) eD λaw ao aJ=>?_
     have ap:∀b∈U,∀o,s6.heap.get? b=some o->s9.heap.get? b=some o/\H9 b=none:=λb L o e=>by
      have q:=I9.pin (b,o) (Q05 _ (Q05 _ (nU L e)));exact⟨q.1,q.2.1⟩
     have aU:∀b∈U,b≠I.heap.objs.size:=λb L=>Q07 (ak b L);have aV:Inv (hX X own scope cl G.objs.size U I H2) [] ab H9 s9:=I9.lA λp hp=>(nomatch hp)
     have aW:Inv (hX X own scope cl G.objs.size U I H2) [] ab H9 { s9 with heap:=aw }:=
      aV.turned (t':=s9.toks) (λb o L e=>ao.extBut b o L e) nD aE (.inr (Q00 _)) (λx c e z=>by
        obtain⟨v,q⟩:=I2.cell x c (ai x c e);exact absurd q.lt (by rw[z];exact Q0l _)) λp hp=>(nomatch hp)
     have aX:Inv (hX X own scope cl G.objs.size U I H2) [(I.heap.objs.size,iG (us++[yv]) (k+1))] ab H9 { s9 with heap:=aw }:=aW.lA λp hp=>by
      have e:p=(I.heap.objs.size,iG (us++[yv]) (k+1)):=by simpa using hp
      subst e
      refine⟨?_,nD,aE,aT,λv z=>by
       have z:Data.seq (us++[yv]).toArray (k+1)=Data.cell v:=z
       cases z⟩
      show aw.get? _=some { cls:=.type "list",data:=.seq (us++[yv]).toArray (k+1) };rw[<-List.push_toArray];exact aJ
     refine⟨m',hm,i+1,ys++[y],us++[yv],k+1,H9,aX.weak an back,r4.append (.cons r9 .nil),by rw[Q0c,Q1r];exact aM,T.keep _ _ _ ah λb L o e=>ao.extBut b o (aU b L) (ap b L o e).1,λb L=>?_,w9⟩;obtain⟨o,e,d⟩:=T.obj _ _ ah b L;exact(ap b L o e).2
 exact codeAny_compStart_list (am _ rfl) (T.self _ 0 _ _ _ aB (am _ rfl))
theorem kT {tg iter aa:Expr}{ab:List Expr}{pos:Pos}{wi:TI}{g:TG}{tt:TT}{te:TE}(hc:X.calm=true)(S:iW X own scope)(hi:PI X tg iter wi)
 (hg:∀cl C Y z L,PG (hX X own scope cl C Y z L) tg g) (ht:∀cl C Y z L,om (hX X own scope cl C Y z L) ab tt)
 (he:∀cl C Y z L,PE (hX X own scope cl C Y z L) aa te) (hs:∀x,foldedSetIterable iter X.env x=pure x:=by intro _;rfl):
 PE X (.ListComp aa [⟨tg,iter,ab,0⟩] scope pos) (zj own.length wi g tt te):=by
 intro pins s σ H Q I h;obtain⟨cl,U,ac,ae⟩:=sg (S.cells I);rw[eval_ListComp];refine wpAny_comprehension_free (use:=none) rfl hs U S.kind S.names ?_;refine eU (hi pins s σ H _ I h) λv s1 h1=>eU h1 λak s2 h2=>?_;obtain⟨it,Y,tn,J,H2,af,I2,T,ag,f2,W,⟨m0,w0⟩,turn⟩:=h2;subst af;refine zl (RR:=λah C=>compPost (model X.prog X.w) X.A X.xe none (EP X pins σ Q) ah C) hc S ac ae I2 T ag f2 w0 turn hg ht he ?_;intro C D s5 H5 ys us k hC hD ai I5 r5 z5 fin;obtain⟨m5,n5,_⟩:=id I5.loc;refine⟨m5,n5,λh' aj=>?_⟩;obtain⟨I6,nD⟩:=I2.unblock f2 I5 Q0b hC hD ai r5 z5 aj;exact⟨.ref D,_,I6,rfl,fin _ nD⟩
theorem zm {i:Nat}{y:Str}{py Y:Pos}{tg iter aa:Expr}{ab:List Expr}{pos:Pos}{wi:TI}{g:TG}{tt:TT}{te:TE}(hN:X.N.Nodup)(hy:X.N[i]? =some y)(hL:Loc X.env.scope y)(hc:X.calm=true)(S:iW X own scope)(hi:PI X tg iter wi)
 (hg:∀cl C fp L U,PG (hX X own scope cl C fp L U) tg g) (ht:∀cl C fp L U,om (hX X own scope cl C fp L U) ab tt)
 (he:∀cl C fp L U,PE (hX X own scope cl C fp L U) aa te) (hf:X.fn y=true\/X.env.scope.names.lookup y=some .local:=by first|exact .inl rfl|exact .inr rfl|assumption)
 (ak:swapsWith (.ListComp aa [⟨tg,iter,ab,0⟩] scope pos) (some (.Name y py)) Y.line X.env=pure true:=by rfl) (hs:∀x,foldedSetIterable iter X.env x=pure x:=by intro _;rfl):
 PS X (.Assign [.Name y py] (.ListComp aa [⟨tg,iter,ab,0⟩] scope pos) Y) (lC (zj own.length wi g tt te) (gX i)):=by
 intro pins s σ H E I h;obtain⟨cl,ac,ah,ai⟩:=sg (S.cells I);rw[exec_Assign_Name_used _ _ _ _ ak];refine Q0 (wpAny_standAt (Q0 ?_));show wpAny _ _ (do let _ <-comprehension _ scope X.env _ (newList []) false (eval iter X.env) (some (assign (.Name y py) X.env))) _ _ s
 refine Q0 (eU (wpAny_comprehension_free (use:=some (assign (.Name y py) X.env)) (Q:=λ_ s'=>SP X pins E .next s') rfl hs ac S.kind S.names
  (eU (hi pins s σ H _ I h) λv s1 h1=>eU h1 λaq s2 h2=>?_)) λ_ s' hq=>Q09 (Q09 hq))
 obtain⟨it,fp,tn,J,H2,al,I2,T,am,f2,W,⟨m0,w0⟩,turn⟩:=h2;subst al;refine zl (RR:=λan C=>compPost (model X.prog X.w) X.A X.xe (some (assign (.Name y py) X.env)) (λ_ s'=>SP X pins E .next s') an C) hc S ah ai I2 T am f2 w0 turn hg ht he ?_;intro C D s5 H5 ys us k hC hD af I5 r5 z5 fin;obtain⟨m5,n5,_⟩:=id I5.loc;obtain⟨I6,nD⟩:=I2.unblock f2 I5 Q0b hC hD af r5 z5 (Heap.SameBut.refl C s5.heap);obtain⟨oC,es,ep,eC,dC,rC⟩:=id n5;have nC:upd H5 D (.lst ys) C=none:=by rw[d_ (Ne.symm af)];exact I5.free
 have ag:C≠X.env.locals:=Q0q (Q06 I2.lt hC)
 have ae:∀x c,X.env.cells.lookup x=some c->c≠C:=λx c e z=>by
  obtain⟨v,q⟩:=I2.cell x c e;exact absurd q.lt (by rw[z];exact Nat.not_lt.mpr hC)
 have aj:∀p∈X.pn++pins,p.1≠C:=λp hp z=>by
  have:=Q01 (I2.pin p hp).1;rw[z] at this;exact absurd this (Nat.not_lt.mpr hC)
 have I7:Inv X (pins++[(C,oC)]) σ (upd H5 D (.lst ys)) s5:=by
  refine I6.lA λp hp=>?_;rcases List.mem_append.mp hp with z|z
  . exact I6.pin p (Q05 _ z)
  . have e:p=(C,oC):=by simpa using z
    subst e
    exact⟨eC,nC,ag,I2.mB hC,λv z=>by
     have z:oC.data=Data.cell v:=z;rw[dC] at z;cases z⟩
 show wpAny _ _ (assign (.Name y py) X.env (.ref D)) _ _ s5;refine wpAny_assign_Name (nN (v:=.ref D) I7 hN hy hL rfl (λs8 I8=>?_) hf);obtain⟨ao,ar,_⟩:=I8.pin (C,oC) (Q05 _ (Q05 _ Q0b));refine⟨_,⟨oC,es,ep,ao,dC,rC⟩,λh' ap=>?_⟩
 have I9:Inv X pins (σ.set i (some (.ref D))) (upd H5 D (.lst ys)) { s8 with heap:=h' }:=
  I8.kK.turned (t':=s8.toks) (λb o hb e=>(ap.2 b hb).trans e) nC ag (.inr (Q0f I2.sz hC)) ae aj
 exact⟨_,_,I9,fin _ nD⟩
end
section
variable {X:Cx}
theorem EI {e:Expr}:PT X e (λ_ _ _=>False):=λ_ _ _ _ _ _ h=>h.elim
theorem iq:iT X (.builtin "isinstance") (λxs H Q=>∃x T t b,xs=[x,.ty T]/\iD X.K H x t/\W.kitOne X.K t (.type T)=some b/\Q (.bl b) H):=by
 intro pins s σ H xs us Q I r h;obtain⟨x,T,t,b,rfl,ty,e,q⟩:=h;obtain⟨u,c,rfl,z,J⟩:=vals2 r
 cases J;exact DN I z ty e λtk=>⟨.bl b,H,I.tok tk,rfl,q⟩
theorem sj:iT X (.builtin "len") (λxs H Q=>(∃a kvs,xs=[V.ref a]/\H a=some (.dK kvs)/\Q (.int kvs.length) H)\/∃p ys,xs=[.ref p]/\(eG X.K H p ys\/eB X.K H p ys)/\Q (.int ys.length) H):=by
 intro pins s σ H xs us Q I r h;rcases h with h|h
 . exact zg pins s σ H xs us Q I r h
 . exact gZ pins s σ H xs us Q I r h
theorem zo:∀{ss:List Str}{vs:List Value},Vals (ss.map V.str) vs->StrsAre vs ss
 |[],_,r=>by cases r;exact .nil
 |y::r,_,h=>by
  cases h with
  |cons a b=>
   obtain⟨t,e⟩:=a;subst e;exact .cons y t (zo b)
theorem zp:∀{vs:List Value}{ss:List Str},StrsAre vs ss->Vals (ss.map V.str) vs
 |_,_,.nil=>.nil
 |_,_,.cons y t h=>.cons ⟨t,rfl⟩ (zp h)
theorem EJ:iT X (.builtin "sorted") (λxs H Q=>∃a ss,xs=[.ref a]/\eG X.K H a (ss.map V.str)/\ss.length<64/\
 ∀p z,H p=none->z.Perm ss->sortedS z=true->Q (.ref p) (upd H p (.lst (z.map V.str)))):=by
 intro pins s σ H xs us Q I r h;obtain⟨a,ss,rfl,U,aa,q⟩:=h;obtain⟨u,rfl,Y⟩:=vals1 r
 cases Y;obtain⟨J,L,pl,hz⟩:=I.list U;have hl:J.length=ss.length:=by rw[<-L.length,Q03]
 refine sorted_strs pl.isList (zo L) (by omega) λout z h1 h2 h3=>?_;obtain⟨e,he⟩:=sortedAll_at s.heap J out;refine⟨.ref (s.heap.objs.size+1),upd H (s.heap.objs.size+1) (.lst (z.map V.str)),I.laid (t':=s.toks) (λ_ _=>sortedAll_old) (Q17 _) ?_,rfl,q _ z (I.hok.fresh (Q17 _)) h2 h3⟩;refine⟨?_,out.toList,e,zp h1,he⟩;rw[Q03,h2.length_eq];have:ss.length<=1000:=by omega
 exact Q0o (gN this)
noncomputable def lP (z:List Value) (i:Nat):Bool:=match z[i]? with
 |some (.bool b)=>b
 |_=>false
theorem EK:∀{bs:List Bool}{z:List Value},Vals (bs.map V.bl) z->(List.range z.length).all (lP z)=bs.all id:=by
 intro bs z r
 have key:∀i,i<bs.length->lP z i=bs.getD i false:=λi hi=>by
  have e:(bs.map V.bl)[i]? =some (.bl bs[i]):=by rw[Q0s,Q02 hi];rfl
  obtain⟨u,J,L⟩:=r.get e
  cases L;unfold lP;rw[J,Q0d,Q02 hi];rfl
 have hl:z.length=bs.length:=by rw[<-r.length,Q03]
 rw[hl,Bool.eq_iff_iff,Q10,Q10];constructor
 . intro h b U;obtain⟨i,hi,e⟩:=Q1b U;have q:=h i (List.mem_range.mpr hi);rw[key i hi,Q0d,Q02 hi,Q2v,e] at q;exact q
 . intro h i hi;have I:=List.mem_range.mp hi;rw[key i I,Q0d,Q02 I,Q2v];exact h _ (Q0v I)
theorem pJ (hc:X.calm=true):iT X (.builtin "all") (λxs H Q=>∃(a:Addr) (bs:List Bool),xs=[.ref a]/\eG X.K H a (bs.map V.bl)/\Q (.bl (bs.all id)) H):=by
 intro pins s σ H xs us Q I r h;obtain⟨a,bs,rfl,hq,q⟩:=h;obtain⟨u,rfl,ru⟩:=vals1 r
 cases ru;obtain⟨z,U,pl,hz⟩:=I.list hq;have Y:a<s.heap.objs.size:=by obtain⟨_,e,_⟩:=pl.isList;exact Q01 e
 refine call_all_walk (wpAny_pyIter_list pl.isList ?_);refine⟨s.heap.objs.size,_,_,_,_,_,lP z,rfl,Walks.list (show X.A.in1.handled=none from I.ok.hd hc) s.heap.objs.size a (Q07 Y) z.toArray,⟨⟨_,Q0n _ rfl,rfl,rfl⟩,pl.isList.push _⟩,λi v s' Q' E' hP hQ=>?_,λh' tk hk=>?_⟩
 . have e:z[i]? =some v:=by simpa using hP
   have hi:i<z.length:=(List.getElem?_eq_some_iff.mp e).1;have hb:i<(bs.map V.bl).length:=by rw[U.length];exact hi
   obtain⟨w',ew,J⟩:=U.get (Q02 hb);rw[e] at ew;cases ew;rw[List.getElem_map] at J
   cases J;refine wpAny_truthy_bool ?_;have L:lP z i=bs[i]'(by simpa using hb):=by unfold lP;rw[e]
   rw[L] at hQ;exact hQ
 . have e:(List.range z.toArray.size).all (lP z)=bs.all id:=by rw[Q04];exact EK U
   rw[e];have ns:H s.heap.objs.size=none:=I.hok.fresh (Q00 _);refine⟨.bl (bs.all id),H,I.kept (h':=h') (t':=tk) λb o L=>hk b o ?_ (Q08 _ L),rfl,q⟩;intro hm;have:b=s.heap.objs.size:=by simpa using hm
   exact absurd (Q01 L) (by rw[this];exact Q0l _)
noncomputable def Ite (K:W.Frag) (a:Addr):It:=
 ⟨λi H=>∃xs x,eG K H a xs/\xs[i]? =some x,
  λi H x H'=>∃p y,H p=none/\x=.ref p/\(∀xs,eG K H a xs->xs[i]? =some y)/\H'=upd H p (.tup [.int i,y]),
  λi H=>∃xs,eG K H a xs/\xs.length<=i⟩
theorem EL {P:Program}{w:World}{K:W.Frag}{ac:List Expr}{k:Nat}{tpos:Pos}{a e it:Addr}(aa:e≠it):
 Turn P w K (.Tuple ac k tpos) (Ite K a) [e,it] e (λi h=>∃L,IsEnum h e it (i:Int) L/\h.IsListIter it a i) where
 mem:=by simp
 obj:=λi h st b J=>by
  obtain⟨L,h1,h2⟩:=st;have J:b=e\/b=it:=by simpa using J
  rcases J with rfl|rfl
  . exact⟨_,h1,λv z=>by
     have z:Data.fields _=Data.cell v:=z
     cases z⟩
  . obtain⟨o,q,c,d⟩:=h2;exact⟨o,q,λv z=>by rw[d] at z;cases z⟩
 keep:=λi h h' st k=>by
  obtain⟨L,h1,h2⟩:=st;exact⟨L,k e (by simp) _ h1,h2.at λo q=>k it (by simp) o q⟩
 item:=by
  intro X hP hw hK hc i pins s σ H E I hf st hg;subst hP hw hK;obtain⟨L,h1,h2⟩:=st;obtain⟨xs,x,hq,hx⟩:=hg;obtain⟨ae,rv,p,hz⟩:=I.list hq;obtain⟨u,hu,ru⟩:=rv.get hx;obtain⟨e0,e1,e2,e3,e4,e5⟩:=hf e (by simp);obtain⟨f0,f1,f2,f3,f4,f5⟩:=hf it (by simp);have Y:H s.heap.objs.size=none:=I.hok.fresh (Q00 _);refine wpAny_pyNext_enum_item h1 h2 p.isList (x:=u) (by simpa using hu) aa λh' q1 q2 q3 q4 q5=>?_;refine⟨_,rfl,wpAny_letOwnedTupleGo_enum (s:={ s with heap:=h',toks:=s.toks+1 }) q1 λU g1 g2=>?_⟩;have af:∀b o,s.heap.get? b=some o->b≠s.heap.objs.size:=λb o q=>Q07 (Q01 q);have kk:∀b o,b≠e->b≠it->s.heap.get? b=some o->U.get? b=some o:=λb o n1 n2 q=>g2.extBut b o n1 (q5 b o n1 n2 q);have pe:s.heap.objs.size≠e:=Q0q (Q01 h1);have tup:U.get? s.heap.objs.size=some { cls:=.type "tuple",data:=.seq #[.int i s.toks,u] }:=g2.extBut _ _ pe q3
  have I1:Inv X pins σ (upd H s.heap.objs.size (.tup [.int i,x])) { s with heap:=U,toks:=s.toks+1 }:=by
   refine I.step (g':=s.gens) (d':=s.drawn) (ch:=[e,it]) (λb J=>?_) (λb o _ _ hc q _=>?_) (λb o _ _ hc q _=>?_) (λb o _ q n=>?_) (λb o hc q=>?_) (λb ys q=>?_) (λb o v q=>?_) (λb ps q=>?_) (λm hm=>?_) (λb o q=>?_) I.bare
   . have J:b=e\/b=it:=by simpa using J
     rcases J with rfl|rfl
     . exact⟨e3,e1,e4,e5⟩
     . exact⟨f3,f1,f4,f5⟩
   . exact kk b o (λz=>hc (by simp[z])) (λz=>hc (by simp[z])) q
   . exact⟨o.slots,kk b o (λz=>hc (by simp[z])) (λz=>hc (by simp[z])) q⟩
   . rw[d_ (af b o q)];exact n
   . exact⟨o,kk b o (λz=>hc (by simp[z])) (λz=>hc (by simp[z])) q⟩
   . rw[d_ (eM q Y)];exact q
   . rw[d_ (eM q Y)];exact q
   . exact⟨#[],by rw[d_ (eM q Y),q];simp⟩
   . obtain⟨o,es,ep,ho,r⟩:=hm;exact⟨o,es,ep,kk _ o (Ne.symm e1) (Ne.symm f1) ho,r⟩
   . by_cases J:b=s.heap.objs.size
     . subst J;rw[eK] at q;cases q;refine⟨vp,[.int i s.toks,u],.cons ⟨_,rfl⟩ (.cons ru .nil),?_⟩;exact⟨_,tup,rfl,_,rfl⟩
     . rw[d_ J] at q;refine(I.hok b o q).stay (λc v ab z=>kk c v ?_ ?_ z) (λc z=>by rw[d_ (eM z Y)];exact z) λc ys z=>by rw[d_ (eM z Y)];exact z
       . rcases ab with z|z
         . rw[z];exact eM q e0
         . exact eM z e0
       . rcases ab with z|z
         . rw[z];exact eM q f0
         . exact eM z f0
  refine⟨.ref s.heap.objs.size,_,I1,rfl,⟨s.heap.objs.size,x,Y,rfl,λys hy=>by rw[I.pf hy hq];exact hx,rfl⟩,⟨u,?_,q2.extBut g2.extBut (Ne.symm aa)⟩,λb J=>?_⟩
  . have ei:((i+1:Nat):Int)=(i:Int)+1:=by omega
    show IsEnum U e it ((i+1:Nat):Int) u;rw[ei];exact g1
  . have ag:b=e\/b=it:=by simpa using J
    have ah:b<s.heap.objs.size:=by
     rcases ag with rfl|rfl
     . exact Q01 h1
     . obtain⟨o,q,_⟩:=h2;exact Q01 q
    rw[d_ (Q07 ah)];exact(hf b J).1
 done:=by
  intro X hP hw hK hc i pins s σ H E I hf st hg;subst hP hw hK;obtain⟨L,h1,h2⟩:=st;obtain⟨xs,hq,hx⟩:=hg;obtain⟨ae,rv,p,hz⟩:=I.list hq;obtain⟨f0,f1,f2,f3,f4,f5⟩:=hf it (by simp);have hl:=rv.length;exact wpAny_pyNext_enum_end (I.ok.hd hc) h1 h2 p.isList (by simp;omega) λh' eb=>⟨rfl,I.turned (t':=s.toks) (λb o J q=>eb b o J q) f0 f1 f3 f4 f5⟩
 self:=λA i s Q E st q=>by
  obtain⟨L,h1,_⟩:=st;exact wpAny_pyIter_enum h1 q
def EM (K:W.Frag) (ta:TA):TI:=λσ H R=>ta σ H λvs H1=>∃a,vs=[.ref a]/\(∃xs,eG K H1 a xs)/\R (Ite K a) H1
theorem EN:bootBuiltins "enumerate"=some (.type "enumerate"):=by decide +kernel
theorem zq {a:Expr}{ta:TA}{p pos tpos:Pos}{U:List Expr}{k:Nat}(hg:Gl X "enumerate")(hm:X.mg "enumerate"=none)(ha:PA X [a] ta)(hs:starEach [a] X.env=[(false,eval a X.env)]:=by rfl):
 PI X (.Tuple U k tpos) (.Call (.Name "enumerate" p) [a] [] pos) (EM X.K ta):=by
 intro pins s σ H R I h;refine Call_ (kG I hg hm EN (PyProof.Rows.callWith_type1 (eU (ha pos pins s σ H _ I h) λus J zq=>?_) hs rfl));obtain⟨vs,H1,Y,r1,q1⟩:=zq;obtain⟨l,e,⟨xs,hq⟩,q⟩:=q1;subst e;obtain⟨u,rfl,ru⟩:=vals1 r1
 cases ru;obtain⟨aa,rv,pl,hz⟩:=Y.list hq;refine call_enumerate_list pl.isList λh' q1 q2 q3 q4=>?_;refine wpAny_pyIter_enum q1 ?_;have I2:Inv X pins σ H1 { J with heap:=h' }:=Y.kept (t':=J.toks) q4;refine⟨J.heap.objs.size+1,[J.heap.objs.size+1,J.heap.objs.size],_,_,H1,rfl,I2,EL (Q0q (Q0y _)),⟨.none,q1,q2⟩,λb L=>?_,q⟩
 have L:J.heap.objs.size<=b:=by
  have L:b=J.heap.objs.size+1\/b=J.heap.objs.size:=by simpa using L
  rcases L with z|z
  . rw[z];exact Q17 _
  . rw[z];exact Q00 _
 exact Y.lD L (Y.hok.fresh L)
theorem boot_zip:bootBuiltins "zip"=some (.type "zip"):=by decide +kernel
theorem EO:gA X (binaryOp .Mult) (λx y H Q=>∃z i,x=.str z/\y=.int i/\MulOk z i/\Q (.str (Txt.mul z i)) H):=by
 intro pins s σ H x y v u Q I J L h;obtain⟨z,i,rfl,rfl,ok,q⟩:=h;obtain⟨t,rfl⟩:=J;obtain⟨t',rfl⟩:=L;exact SB.mul ok λU k=>⟨.str (Txt.mul z i),H,I.tok k,⟨_,rfl⟩,q⟩
theorem zr {v:Value}{o:Option Int}(h:IsPart v o):(v=.none/\o=none)\/∃i t,v=.int i t/\o=some i:=by
 cases h with
 |none=>exact .inl ⟨rfl,rfl⟩
 |int i t=>exact .inr ⟨i,t,rfl,rfl⟩
theorem zt:rS X (λx lo hi H Q=>∃z,x=.str z/\z.length<=sizeLine/\Q (.str (Txt.slice z lo hi)) H):=by
 intro pins s σ H x v vl vu lo hi sl Q I rx hs pl pu h;obtain⟨z,rfl,hz,q⟩:=h;obtain⟨t,rfl⟩:=rx
 have fin:∀{lo hi:Option Int} (q:Q (.str (Txt.slice z lo hi)) H),(Txt.slice z lo hi).length<=sizeLine/\∀t' k,EP X pins σ Q (.str (Txt.slice z lo hi) t') { s with toks:=k }:=
  λq=>⟨Q0f (Txt.slice_le z _ _) hz,λt' k=>⟨.str _,H,I.tok k,⟨t',rfl⟩,q⟩⟩
 refine⟨"str",_,F.slot_str_getitem.lookup,typeIs_str _ _ _,?_⟩;obtain⟨o,J,hc,L⟩:=hs;rcases zr pl with⟨U,rfl⟩|⟨i,Y,U,rfl⟩ <;> rcases zr pu with⟨e2,rfl⟩|⟨j,tj,e2,rfl⟩ <;> subst U <;> subst e2
 . exact wpAny_getItem_str_slice (l:=none) (u:=none) (st:=none) ⟨o,J,hc,L⟩ rfl (post_val_or_str (fin q))
 . exact wpAny_getItem_str_slice (l:=none) (u:=some (j,tj)) (st:=none) ⟨o,J,hc,L⟩ rfl (post_val_or_str (fin q))
 . exact wpAny_getItem_str_slice (l:=some (i,Y)) (u:=none) (st:=none) ⟨o,J,hc,L⟩ rfl (post_val_or_str (fin q))
 . exact wpAny_getItem_str_slice (l:=some (i,Y)) (u:=some (j,tj)) (st:=none) ⟨o,J,hc,L⟩ rfl (post_val_or_str (fin q))
end
theorem yes {σ:St}{H:Hp}{Q:Bool->Hp->Prop}(h:Q true H):kQ σ H Q:=h
section
variable {K:W.Frag}{σ:St}{H:Hp}{Q:VK}{D:Ends}
theorem oo {i:Nat}{a b:Str}{T U:TS}(h:σ[i]? =some (some (.str a)))(z:decide (V.str a=V.str b)=true)(q:T D σ H):j6 (jO (f_ j9 (fT i) (tC (.str b)))) T U D σ H:=
 ⟨_,h,rfl,_,rfl,by rw[z];exact fF q⟩
theorem iH {i:Nat}{a b:Str}{T U:TS}(h:σ[i]? =some (some (.str a)))(z:decide (V.str a=V.str b)=false)(q:U D σ H):j6 (jO (f_ j9 (fT i) (tC (.str b)))) T U D σ H:=
 ⟨_,h,rfl,_,rfl,by rw[z];exact fe q⟩
theorem jU {i:Nat}{p:Addr}{xs:List V}{a b:Str}{T U:TS}(h:σ[i]? =some (some (.ref p)))(h2:H p=some (.tup xs))(z:xs[0]? =some (.str a))(I:decide (V.str a=V.str b)=true)(q:T D σ H):
 j6 (jO (f_ j9 (f_ (ic K) (fT i) (tC (.int 0))) (tC (.str b)))) T U D σ H:=
 ⟨_,h,p,xs,0,.str a,rfl,rfl,eB.of h2,g9 (j:=0) z,rfl,_,rfl,by rw[I];exact fF q⟩
theorem gw {i:Nat}{p:Addr}{xs:List V}{a b:Str}{T U:TS}(h:σ[i]? =some (some (.ref p)))(h2:H p=some (.tup xs))(z:xs[0]? =some (.str a))(I:decide (V.str a=V.str b)=false)(q:U D σ H):
 j6 (jO (f_ j9 (f_ (ic K) (fT i) (tC (.int 0))) (tC (.str b)))) T U D σ H:=
 ⟨_,h,p,xs,0,.str a,rfl,rfl,eB.of h2,g9 (j:=0) z,rfl,_,rfl,by rw[I];exact fe q⟩
end
end L2
namespace L2
noncomputable def sr (own N:List Str) (scope sc:Scope):Bool:=
 scope.names.all (λy=>decide (y.2≠ .cell)) && scope.names.all (λy=>decide (y.2=.local->scope.names.lookup y.1=some .local)) &&
 scope.names.all (λy=>decide (y.2=.free->sc.names.lookup y.1=some .cell\/sc.names.lookup y.1=some .free)) && decide (own++N).Nodup && N.all λx=>decide (scope.names.lookup x≠some .local)
theorem iW.of {X:Cx}{own N:List Str}{scope sc:Scope}(z:X.env.scope=sc)(I:X.N=N)(k:scope.kind=.function)(c:sr own N scope sc=true):iW X own scope:=by
 unfold sr at c;simp only[Bool.and_eq_true,Q10,decide_eq_true_eq] at c;obtain⟨⟨⟨⟨J,L⟩,U⟩,Y⟩,c5⟩:=c;exact⟨k,J,L,λy hy hf=>by rw[show X.env.kindOf y.1=X.env.scope.names.lookup y.1 from rfl,z];exact U y hy hf,by rw[I];exact Y,by rw[I];exact c5⟩
end L2
namespace kf
open W PyProof.Rows
noncomputable def fw {α:Type}(f:Nat->Nat->Bool):KasT α->α
 | .ret a=>a
 | .ask i j k=>fw f (k (f i j))
theorem mR {α z:Type}(f:Nat->Nat->Bool)(g:α->KasT z):∀t:KasT α,fw f (t.bind g)=fw f (g (fw f t))
 | .ret _=>rfl
 | .ask i j k=>mR f g (k (f i j))
def Bn {α:Type}(n:Nat) (R:α->Prop):KasT α->Prop
 | .ret a=>R a
 | .ask i j k=>i<n/\j<n/\∀b,Bn n R (k b)
theorem Bn.bind {α z:Type}{n:Nat}{R:α->Prop}{S:z->Prop}{g:α->KasT z}:∀{t:KasT α},Bn n R t->(∀a,R a->Bn n S (g a))->Bn n S (t.bind g)
 | .ret a,h,k=>k a h
 | .ask i j q,h,k=>⟨h.1,h.2.1,λb=>Bn.bind (h.2.2 b) k⟩
theorem zu {α:Type}{n:Nat}{R:α->Prop}{f:Nat->Nat->Bool}{z:Nat->Nat->(Bool->Shared->Prop)->Shared->Prop}{Q:α->Shared->Prop}{s:Shared}
 (h:∀i j (C:Bool->Shared->Prop),i<n->j<n->C (f i j) s->z i j C s):∀{t:KasT α},Bn n R t->Q (fw f t) s->t.kasWp z Q s
 | .ret a,_,q=>q
 | .ask i j k,b,q=>h i j _ b.1 b.2.1 (zu h (b.2.2 (f i j)) q)
def Lt (n:Nat) (p:Array Nat):Prop:=0<n/\∀x∈p,x<n
theorem Lt.at {n:Nat}{p:Array Nat}(h:Lt n p)(i:Nat):p.getD i 0<n:=by
 rw[Q1g]
 cases e:p[i]? with
 |none=>exact h.1
 |some x=>exact h.2 x (Array.mem_of_getElem? e)
theorem Lt.perm {n:Nat}{p q:Array Nat}(h:Lt n p)(hp:q.Perm p):Lt n q:=⟨h.1,λx z=>h.2 x (hp.mem_iff.mp z)⟩
theorem kg (p:Array Nat)(i j:Nat):(kas_rev p i j).Perm p:=mirror_perm _ _ _ _
theorem ER (p:Array Nat)(i j:Nat):(kas_rev p i j).size=p.size:=mirror_size _ _ _ _
theorem su {n:Nat}{p:Array Nat}(h:Lt n p):∀f m,Bn n (λ_=>True) (kas_asc p f m)
 |0,_=>trivial
 |f+1,m=>⟨h.at _,h.at _,λb=>by
   cases b with
   |true=>exact trivial
   |false=>exact su h f (m+1)⟩
theorem pK {n:Nat}:∀f (p:Array Nat) m q,Lt n p->Bn n (λr:Array Nat × Nat × Nat=>Lt n r.1) (kas_desc f p m q)
 |0,_,_,_,h=>h
 |f+1,p,m,q,h=>⟨h.at _,h.at _,λb=>by
   cases b with
   |true=>
    show Bn n _ (if q > 0 then kas_desc f (kas_rev p (m - (q+1)) m) (m+1) 0 else kas_desc f p (m+1) 0);split
    . exact pK f _ _ _ (h.perm (kg _ _ _))
    . exact pK f _ _ _ h
   |false=>
    refine⟨h.at _,h.at _,λd=>?_⟩
    cases d with
    |true=>exact h
    |false=>exact pK f _ _ _ h⟩
theorem zv {n m r:Nat}{p:Array Nat}(h:Lt n p):Bn n (λq:Nat × Array Nat=>Lt n q.2) (kas_tail3 m r p):=
 (su (h.perm (kg _ _ _)) _ _).bind λ_ _=>h.perm (kg _ _ _)
theorem zw {n m r:Nat}{p:Array Nat}(h:Lt n p):Bn n (λq:Nat × Array Nat=>Lt n q.2) (kas_descPart m r p):=by
 refine(pK _ _ _ _ h).bind λa z=>?_;split
 . exact zv (z.perm (kg _ _ _))
 . exact zv z
theorem ES {n r:Nat}{p:Array Nat}(h:Lt n p):Bn n (λq:Nat × Array Nat=>Lt n q.2) (kas_count r p):=by
 refine(su h _ _).bind λa _=>?_;split
 . exact h
 split
 . refine⟨h.at _,h.at _,λb=>?_⟩
   cases b with
   |true=>exact h
   |false=>exact zw (h.perm (kg _ _ _))
 . exact zw h
theorem sx {n k:Nat}{p:Array Nat}(h:Lt n p):∀f l r,Bn n (λ_=>True) (kas_place p k f l r)
 |0,_,_=>trivial
 |f+1,l,r=>by
  unfold kas_place;split
  . exact trivial
  . refine⟨h.at _,h.at _,λb=>?_⟩
    cases b with
    |true=>exact sx h f _ _
    |false=>exact sx h f _ _
theorem zx {n:Nat}:∀f (p:Array Nat) k,Lt n p->Bn n (λ_=>True) (kas_bin f p k)
 |0,_,_,_=>trivial
 |f+1,p,k,h=>(sx h _ _ _).bind λl _=>zx f _ _ (h.perm (bubble_perm _ _ _))
theorem ET {n:Nat}(z:0<n):Bn n (λ_=>True) (kas_sort n):=by
 have h:Lt n (List.toArray (List.range n)):=⟨z,λx I=>by simpa using I⟩;refine(ES h).bind λr J=>?_;split
 . exact zx _ _ _ J
 . exact trivial
section
variable {O:KeyOrd}(key:Nat->O.α)
noncomputable def fH:Nat->Nat->Bool:=λi j=>O.blt (key i) (key j)
noncomputable def Kp (p:Array Nat) (i:Nat):O.α:=key (p.getD i 0)
def iX (p:Array Nat) (k:Nat):Prop:=∀i j,i<=j->j<k->O.kle (Kp key p i) (Kp key p j)
def jl (p:Array Nat) (k:Nat):Prop:=∀i j,i<=j->j<k->O.kle (Kp key p j) (Kp key p i)
variable {key}
theorem iX.succ {p:Array Nat}{n:Nat}(h:iX key p n)(h1:1<=n)(e:O.kle (Kp key p (n - 1)) (Kp key p n)):iX key p (n+1):=by
 intro i j z J;by_cases I:j<n
 . exact h i j z I
 . have:j=n:=by omega
   subst this;by_cases hi:i=j
   . subst hi;exact KeyOrd.kle_refl _
   . exact KeyOrd.kle_trans (h i (j - 1) (by omega) (by omega)) e
theorem jl.succ {p:Array Nat}{n:Nat}(h:jl key p n)(h1:1<=n)(e:O.kle (Kp key p n) (Kp key p (n - 1))):jl key p (n+1):=by
 intro i j z J;by_cases I:j<n
 . exact h i j z I
 . have:j=n:=by omega
   subst this;by_cases hi:i=j
   . subst hi;exact KeyOrd.kle_refl _
   . exact KeyOrd.kle_trans e (h i (j - 1) (by omega) (by omega))
theorem oq {p q:Array Nat}{i j:Nat}(h:p[i]? =q[j]?):Kp key p i=Kp key q j:=by
 unfold Kp;rw[Q1g,Q1g,h]
theorem sy {p:Array Nat}{i j:Nat}(z:j<=p.size)(k:Nat):Kp key (kas_rev p i j) k=if i<=k/\k<j then Kp key p (i+j - 1 - k) else Kp key p k:=by
 have e:=getElem?_mirror_all (i:=i) z k;by_cases h1:i<=k/\k<j
 . rw[if_pos h1] at e ⊢;exact oq e
 . rw[if_neg h1] at e ⊢;exact oq e
theorem sA {p:Array Nat}{i j:Nat}(I:j<=p.size)(z:∀k,i<=k->k<j->Kp key p k=Kp key p (j - 1))(k:Nat):Kp key (kas_rev p i j) k=Kp key p k:=by
 rw[sy I];split
 . rw[z _ (by omega) (by omega),z k (by omega) (by omega)]
 . rfl
theorem EU {p:Array Nat}{src d:Nat}(z:src<p.size)(I:d<=src)(k:Nat):
 Kp key (bubble p src d) k=if k=src - d then Kp key p src else if src - d<k/\k<=src then Kp key p (k - 1) else Kp key p k:=by
 have e:=getElem?_bubble z d I k;by_cases h1:k=src - d
 . rw[if_pos h1] at e ⊢;exact oq e
 . rw[if_neg h1] at e ⊢;by_cases h2:src - d<k/\k<=src
   . rw[if_pos h2] at e ⊢;exact oq e
   . rw[if_neg h2] at e ⊢;exact oq e
theorem jl.congr {p q:Array Nat}{n:Nat}(h:jl key p n)(e:∀k,Kp key q k=Kp key p k):jl key q n:=λi j a b=>by
 rw[e,e];exact h i j a b
theorem sC {p:Array Nat}:∀f n,1<=n->iX key p n->n<=fw (fH key) (kas_asc p f n)/\fw (fH key) (kas_asc p f n)<=n+f/\iX key p (fw (fH key) (kas_asc p f n))/\
 (fw (fH key) (kas_asc p f n)<n+f->O.klt (Kp key p (fw (fH key) (kas_asc p f n))) (Kp key p (fw (fH key) (kas_asc p f n) - 1)))
 |0,n,_,h=>⟨Q00 _,Q00 _,h,λz=>absurd z (Q0l _)⟩
 |f+1,n,h1,h=>by
  have e:fw (fH key) (kas_asc p (f+1) n)=fw (fH key) (if O.blt (Kp key p n) (Kp key p (n - 1))=true then .ret n else kas_asc p f (n+1)):=rfl;rw[e]
  cases c:O.blt (Kp key p n) (Kp key p (n - 1)) with
  |true=>
   rw[if_pos rfl];exact⟨Q00 _,Q1h _ _,h,λ_=>c⟩
  |false=>
   rw[if_neg (by simp)];obtain⟨L,U,I,J⟩:=sC f (n+1) (by omega) (h.succ h1 c);exact⟨by omega,by omega,I,λz=>J (by omega)⟩
structure DI (O:KeyOrd) (key:Nat->O.α) (p₀:Array Nat) (p:Array Nat) (n q:Nat):Prop where
 perm:p.Perm p₀
 non:jl key p n
 one:q+1<=n
 size:n<=p.size
 eq:∀k,n - (q+1)<=k->k<n->Kp key p k=Kp key p (n - 1)
theorem pL {z:Array Nat}:∀f (p:Array Nat) n q,DI O key z p n q->n+f<=z.size->
 ∃I n' J,fw (fH key) (kas_desc f p n q)=(I,n',J)/\DI O key z I n' J/\n'<=n+f
 |0,p,n,q,d,_=>⟨p,n,q,rfl,d,Q00 _⟩
 |f+1,p,n,q,d,hs=>by
  have hsz:p.size=z.size:=d.perm.size_eq
  have e:fw (fH key) (kas_desc (f+1) p n q)=fw (fH key) (if O.blt (Kp key p n) (Kp key p (n - 1))=true then(if q > 0 then kas_desc f (kas_rev p (n - (q+1)) n) (n+1) 0 else kas_desc f p (n+1) 0)
   else .ask (p.getD (n - 1) 0) (p.getD n 0) λd=>if d=true then .ret (p,n,q) else kas_desc f p (n+1) (q+1)):=rfl
  rw[e];have one:=d.one
  cases c:O.blt (Kp key p n) (Kp key p (n - 1)) with
  |true=>
   rw[if_pos rfl];have cl:O.kle (Kp key p n) (Kp key p (n - 1)):=KeyOrd.kle_of_klt c;by_cases Y:q > 0
   . rw[if_pos Y];have ek:∀k,Kp key (kas_rev p (n - (q+1)) n) k=Kp key p k:=sA d.size d.eq
     have d':DI O key z (kas_rev p (n - (q+1)) n) (n+1) 0:=⟨(kg _ _ _).trans d.perm,(d.non.succ (by omega) cl).congr ek,by omega,by rw[ER];omega,λk h1 h2=>by
      have:k=n:=by omega
      subst this;rfl⟩
     obtain⟨I,n',J,L,U,r3⟩:=pL f _ _ _ d' (by omega);exact⟨I,n',J,L,U,by omega⟩
   . rw[if_neg Y]
     have d':DI O key z p (n+1) 0:=⟨d.perm,d.non.succ (by omega) cl,by omega,by omega,λk h1 h2=>by
      have:k=n:=by omega
      subst this;rfl⟩
     obtain⟨I,n',J,L,U,r3⟩:=pL f _ _ _ d' (by omega);exact⟨I,n',J,L,U,by omega⟩
  |false=>
   rw[if_neg (by simp)];have e2:fw (fH key) (.ask (p.getD (n - 1) 0) (p.getD n 0) λd=>if d=true then .ret (p,n,q) else kas_desc f p (n+1) (q+1))=fw (fH key) (if O.blt (Kp key p (n - 1)) (Kp key p n)=true then .ret (p,n,q) else kas_desc f p (n+1) (q+1)):=rfl;rw[e2]
   cases c2:O.blt (Kp key p (n - 1)) (Kp key p n) with
   |true=>
    rw[if_pos rfl];exact⟨p,n,q,rfl,d,by omega⟩
   |false=>
    rw[if_neg (by simp)];have ee:Kp key p n=Kp key p (n - 1):=O.total _ _ c c2
    have d':DI O key z p (n+1) (q+1):=⟨d.perm,d.non.succ (by omega) (by rw[ee];exact KeyOrd.kle_refl _),by omega,by omega,λk h1 h2=>by
     show Kp key p k=Kp key p n;by_cases hk:k=n
     . rw[hk]
     . rw[ee];exact d.eq k (by omega) (by omega)⟩
    obtain⟨I,n',J,L,U,r3⟩:=pL f _ _ _ d' (by omega);exact⟨I,n',J,L,U,by omega⟩
def ot (O:KeyOrd) (key:Nat->O.α) (z:Array Nat) (nrem:Nat) (r:Nat × Array Nat):Prop:=r.2.Perm z/\1<=r.1/\r.1<=nrem/\iX key r.2 r.1
theorem zy {z p:Array Nat}{n nrem:Nat}(hp:p.Perm z)(h1:1<=n)(U:n<=nrem)(Y:nrem<=z.size)(h:jl key p n):ot O key z nrem (fw (fH key) (kas_tail3 n nrem p)):=by
 have hsz:p.size=z.size:=hp.size_eq;unfold kas_tail3;rw[mR]
 have I:iX key (kas_rev p 0 n) n:=λi j L hj=>by
  rw[sy (by omega),sy (by omega),if_pos (by omega),if_pos (by omega)];exact h _ _ (by omega) (by omega)
 obtain⟨a1,a2,J,_⟩:=sC (key:=key) (p:=kas_rev p 0 n) (nrem - n) n h1 I;exact⟨(kg _ _ _).trans hp,by show 1<=fw _ _;omega,by show fw _ _<=nrem;omega,J⟩
theorem zA {z p:Array Nat}{n nrem:Nat}(hp:p.Perm z)(h1:1<=n)(hn:n+1<=nrem)(U:nrem<=z.size)(h:jl key p (n+1)):ot O key z nrem (fw (fH key) (kas_descPart n nrem p)):=by
 have hsz:p.size=z.size:=hp.size_eq;unfold kas_descPart;rw[mR]
 have d:DI O key z p (n+1) 0:=⟨hp,h,by omega,by omega,λk h1 h2=>by
  have:k=n:=by omega
  subst this;rfl⟩
 obtain⟨J,n',L,r1,I,r3⟩:=pL (key:=key) (nrem - (n+1)) p (n+1) 0 d (by omega);rw[r1];have o:=I.one;have sz:=I.size;have aa:J.size=z.size:=I.perm.size_eq;by_cases Y:L > 0
 . show ot O key z nrem (fw (fH key) (if L > 0 then kas_tail3 n' nrem (kas_rev J (n' - (L+1)) n') else kas_tail3 n' nrem J));rw[if_pos Y];exact zy ((kg _ _ _).trans I.perm) (by omega) (by omega) U (I.non.congr (sA I.size I.eq))
 . show ot O key z nrem (fw (fH key) (if L > 0 then kas_tail3 n' nrem (kas_rev J (n' - (L+1)) n') else kas_tail3 n' nrem J));rw[if_neg Y];exact zy I.perm (by omega) (by omega) U I.non
theorem EV {p:Array Nat}{nrem:Nat}(h1:1<=nrem)(Y:nrem<=p.size):ot O key p nrem (fw (fH key) (kas_count nrem p)):=by
 unfold kas_count;rw[mR]
 obtain⟨z,a2,J,a4⟩:=sC (key:=key) (p:=p) (nrem - 1) 1 (Q00 _) (λi j I hj=>by
  have L:i=0:=by omega
  have U:j=0:=by omega
  subst L;subst U;exact KeyOrd.kle_refl _)
 generalize fw (fH key) (kas_asc p (nrem - 1) 1)=n at *;by_cases hn:n=nrem
 . rw[if_pos (by simpa using hn)];exact⟨Array.Perm.refl _,z,by show n<=nrem;omega,J⟩
 . rw[if_neg (by simpa using hn)];have cl:O.klt (Kp key p n) (Kp key p (n - 1)):=a4 (by omega);by_cases hg:n > 1
   . rw[if_pos hg]
     have e:fw (fH key) (.ask (p.getD 0 0) (p.getD (n - 1) 0) λc=>if c=true then .ret (n,p) else kas_descPart n nrem (kas_rev p 0 n))=
      fw (fH key) (if O.blt (Kp key p 0) (Kp key p (n - 1))=true then .ret (n,p) else kas_descPart n nrem (kas_rev p 0 n)):=rfl
     rw[e]
     cases c:O.blt (Kp key p 0) (Kp key p (n - 1)) with
     |true=>
      rw[if_pos rfl];exact⟨Array.Perm.refl _,z,by show n<=nrem;omega,J⟩
     |false=>
      rw[if_neg (by simp)]
      have all:∀k,0<=k->k<n->Kp key p k=Kp key p (n - 1):=λk _ hk=>by
       have c':O.kle (Kp key p (n - 1)) (Kp key p 0):=c;exact KeyOrd.kle_antisymm (J k (n - 1) (by omega) (by omega)) (KeyOrd.kle_trans c' (J 0 k (by omega) hk))
      have ek:∀k,Kp key (kas_rev p 0 n) k=Kp key p k:=sA (by omega) all;refine zA (kg _ _ _) z (by omega) Y (jl.congr (jl.succ (n:=n) (λi j I hj=>?_) z (KeyOrd.kle_of_klt cl)) ek);rw[all i (by omega) (by omega),all j (by omega) (by omega)];exact KeyOrd.kle_refl _
   . rw[if_neg hg];have:n=1:=by omega
     subst this;refine zA (Array.Perm.refl _) z (by omega) Y (jl.succ (n:=1) (λi j I hj=>?_) z (KeyOrd.kle_of_klt cl));have L:i=0:=by omega
     have U:j=0:=by omega
     subst L;subst U;exact KeyOrd.kle_refl _
theorem sE {p:Array Nat}{k:Nat}(h:iX key p k):∀f l r,l<=r->r<=k->r - l<=f->(∀i,i<l->O.kle (Kp key p i) (Kp key p k))->(∀i,r<=i->i<k->O.klt (Kp key p k) (Kp key p i))->
 ∃m,fw (fH key) (kas_place p k f l r)=m/\m<=k/\(∀i,i<m->O.kle (Kp key p i) (Kp key p k))/\(∀i,m<=i->i<k->O.klt (Kp key p k) (Kp key p i))
 |0,l,r,h1,h2,L,z,I=>⟨l,rfl,by omega,z,λi a b=>I i (by omega) b⟩
 |f+1,l,r,h1,h2,L,z,I=>by
  by_cases J:l ≥ r
  . refine⟨l,?_,by omega,z,λi a b=>I i (by omega) b⟩;unfold kas_place;rw[if_pos J];rfl
  . have e:fw (fH key) (kas_place p k (f+1) l r)=fw (fH key) (if O.blt (Kp key p k) (Kp key p ((l+r) / 2))=true then kas_place p k f l ((l+r) / 2) else kas_place p k f ((l+r) / 2+1) r):=by
     show fw (fH key) (if l ≥ r then .ret l else _)=_;rw[if_neg J];rfl
    rw[e]
    cases c:O.blt (Kp key p k) (Kp key p ((l+r) / 2)) with
    |true=>
     rw[if_pos rfl];exact sE h f _ _ (by omega) (by omega) (by omega) z λi a b=>KeyOrd.klt_of_klt_of_kle (show O.klt _ _ from c) (h _ _ a b)
    |false=>
     rw[if_neg (by simp)];exact sE h f _ _ (by omega) h2 (by omega) (λi a=>KeyOrd.kle_trans (h i ((l+r) / 2) (by omega) (by omega)) (show O.kle _ _ from c)) I
theorem zB:∀f (p:Array Nat) k,iX key p k->k+f<=p.size->(fw (fH key) (kas_bin f p k)).Perm p/\iX key (fw (fH key) (kas_bin f p k)) (k+f)
 |0,p,k,h,_=>⟨Array.Perm.refl _,h⟩
 |f+1,p,k,h,hs=>by
  have e:fw (fH key) (kas_bin (f+1) p k)=fw (fH key) (kas_bin f (bubble p k (k - fw (fH key) (kas_place p k k 0 k))) (k+1)):=by
   show fw (fH key) ((kas_place p k k 0 k).bind λl=>kas_bin f (bubble p k (k - l)) (k+1))=_;rw[mR]
  rw[e];obtain⟨m,em,m1,m2,m3⟩:=sE h k 0 k (Q0a _) (Q00 _) (Q00 _) (λi z=>absurd z (Q28 _)) (λi a b=>absurd a (by omega));rw[em];have J:=λi=>EU (key:=key) (p:=p) (src:=k) (d:=k - m) (by omega) (by omega) i;have hm:k - (k - m)=m:=by omega
  rw[hm] at J
  have hS:iX key (bubble p k (k - m)) (k+1):=by
   intro i j L hj;rw[J i,J j];by_cases U:i=m
   . rw[if_pos U];by_cases I:j=m
     . rw[if_pos I];exact KeyOrd.kle_refl _
     . rw[if_neg I,if_pos (by omega)];exact KeyOrd.kle_of_klt (m3 _ (by omega) (by omega))
   . rw[if_neg U];by_cases Y:m<i/\i<=k
     . rw[if_pos Y,if_neg (by omega),if_pos (by omega)];exact h _ _ (by omega) (by omega)
     . rw[if_neg Y];by_cases I:j=m
       . rw[if_pos I];exact m2 i (by omega)
       . rw[if_neg I];by_cases lj:m<j/\j<=k
         . rw[if_pos lj];exact h _ _ (by omega) (by omega)
         . rw[if_neg lj];exact h _ _ L (by omega)
  obtain⟨b1,b2⟩:=zB f (bubble p k (k - m)) (k+1) hS (by rw[bubble_size];omega);exact⟨b1.trans (bubble_perm _ _ _),by rw[show k+(f+1)=k+1+f by omega];exact b2⟩
theorem EW {n:Nat}(hn:1<=n):(fw (fH key) (kas_sort n)).toList.Perm (List.range n)/\((fw (fH key) (kas_sort n)).toList.map key).Pairwise O.kle:=by
 have U:(List.toArray (List.range n)).size=n:=by simp
 obtain⟨z,Y,c3,c4⟩:=EV (key:=key) (p:=List.toArray (List.range n)) (nrem:=n) hn (by omega)
 have main:(fw (fH key) (kas_sort n)).Perm (List.toArray (List.range n))/\iX key (fw (fH key) (kas_sort n)) n:=by
  unfold kas_sort;rw[mR];generalize fw (fH key) (kas_count n (List.toArray (List.range n)))=r at *;obtain⟨m,p⟩:=r;have hsz:p.size=n:=by rw[z.size_eq,U]
  by_cases hm:m<n
  . show(fw (fH key) (if m<n then kas_bin (n - max m 1) p (max m 1) else .ret p)).Perm _/\iX key (fw (fH key) (if m<n then kas_bin (n - max m 1) p (max m 1) else .ret p)) n;rw[if_pos hm];have Y:1<=m:=Y;have em:max m 1=m:=by omega
    rw[em];obtain⟨b1,b2⟩:=zB (key:=key) (n - m) p m c4 (by omega);exact⟨b1.trans z,by rw[show n=m+(n - m) by omega];rw[show m+(n - m) - m=n - m by omega];exact b2⟩
  . show(fw (fH key) (if m<n then kas_bin (n - max m 1) p (max m 1) else .ret p)).Perm _/\iX key (fw (fH key) (if m<n then kas_bin (n - max m 1) p (max m 1) else .ret p)) n;rw[if_neg hm];have c3:m<=n:=c3;have:m=n:=by omega
    subst this;exact⟨z,c4⟩
 refine⟨Array.perm_iff_toList_perm.mp main.1,?_⟩;have hsz:(fw (fH key) (kas_sort n)).size=n:=by rw[main.1.size_eq,U]
 rw[Q29,Q2w];intro i j hi hj I;have J:i<(fw (fH key) (kas_sort n)).size:=by simpa using hi
 have L:j<(fw (fH key) (kas_sort n)).size:=by simpa using hj
 have q:=main.2 i j (Q0o I) (by omega);unfold Kp at q;rw[Q1g,Q1g,Q2x J,Q2x L] at q;simpa using q
end
end kf
namespace L2
open Spec PyProof.Rows
def mS (c':Addr) (qual:Str):Heap->Prop:=λh=>h.CodeRec (.ref c') qual
def lQ (P:Addr) (pos:Pos) (qual:Str) (c':Addr) (H:Hp):Prop:=H P=some (.gq #[rawInt pos.line,rawInt pos.col,.ref c'])/\H c'=some (.ext (mS c' qual))
def eQ (P:Addr) (pos:Pos) (qual:Str) (H:Hp):Prop:=H P=some (.gq #[])\/∃c',lQ P pos qual c' H
theorem lQ.mono {P:Addr}{pos:Pos}{qual:Str}{c':Addr}{H H':Hp}(h:lQ P pos qual c' H)(k:∀b o,(b=P\/b=c')->H b=some o->H' b=some o):lQ P pos qual c' H':=⟨k _ _ (.inl rfl) h.1,k _ _ (.inr rfl) h.2⟩
def BM (mg:Str->Option Value) (base:Heap):Prop:=
 ∃z o,mg "__builtins__"=some (.ref z)/\z≠builtinsNs/\z≠mainGlobals/\base.get? z=some o/\o.cls=.type "module"/\o.dict=some builtinsNs/\o.data=.plain
def EX (P:Addr) (pos:Pos) (qual:Str) (ps:Array Value) (H:Hp):Prop:=H P=some (.gq ps)/\TriplesOk ps.toList/\(codeAmong pos ps.toList=none\/∃c',codeAmong pos ps.toList=some (.ref c')/\H c'=some (.ext (mS c' qual)))
def EY (P:Addr) (pos:Pos) (qual:Str) (ps:Array Value) (c':Addr) (H:Hp):Prop:=((codeAmong pos ps.toList=none/\H P=some (.gq (ps++#[rawInt pos.line,rawInt pos.col,.ref c'])))\/(codeAmong pos ps.toList=some (.ref c')/\H P=some (.gq ps)))/\H c'=some (.ext (mS c' qual))
section
variable {X:Cx}{pins:List (Addr × Obj)}{σ:St}{H:Hp}{s:Shared}
theorem Inv.zC (I:Inv X pins σ H s){P b:Addr}{o:HO}{u:Obj}(e:H P=some o)(J:X.base.get? b=some u):b≠P:=λz=>by
 have:=(I.bs b u J).2;rw[z,e] at this;cases this
theorem Inv.zD (I:Inv X pins σ H s)(B:BM X.mg X.base){P:Addr}{o:HO}(e:H P=some o):s.heap.BuiltinsAt X.mg P:=by
 obtain⟨z,J,U,Y,b3,L,b5⟩:=B;exact⟨z,J,U,Y,b3,I.zC e L,(I.bs z J L).1,b5⟩
theorem Inv.adopt {b:Addr}{o:HO}{h':Heap}{t':Nat}(I:Inv X pins σ H s)(f:h_ X pins H b)(k:∀c u,c≠b->s.heap.get? c=some u->h'.get? c=some u)(new:gh X.prog X.w (upd H b o) h' b o):
 Inv X pins σ (upd H b o) { s with heap:=h',toks:=t' }:=by
 obtain⟨U,f1,f2,f3,Y,f5⟩:=f;have J:∀c u,H c=some u->c≠b:=λc u e=>eM e U
 refine I.step (g':=s.gens) (d':=s.drawn) (ch:=[b]) (λc hc=>?_) (λc u _ _ hc e _=>k c u (λz=>hc (by simp[z])) e) (λc u _ _ hc e _=>⟨u.slots,k c u (λz=>hc (by simp[z])) e⟩) (λc u hc e n=>?_)
  (λc u hc e=>⟨u,k c u (λz=>hc (by simp[z])) e⟩) (λc xs e=>?_) (λc L u e=>?_) (λc ps e=>⟨#[],?_⟩) (λm hm=>?_) (λc u e=>?_) I.bare
 . have e:c=b:=by simpa using hc
   subst e;exact⟨f3,f1,Y,f5⟩
 . rw[d_ (λz=>hc (by simp[z]))];exact n
 . rw[d_ (J _ _ e)];exact e
 . rw[d_ (J _ _ e)];exact e
 . rw[d_ (J _ _ e),e];simp
 . obtain⟨L,es,ep,ho,r⟩:=hm;exact⟨L,es,ep,k _ L (Ne.symm f1) ho,r⟩
 . by_cases hc:c=b
   . subst hc;rw[eK] at e;cases e;exact new
   . rw[d_ hc] at e;refine(I.hok c u e).stay (λd v hd q=>k d v ?_ q) (λd q=>by rw[d_ (J _ _ q)];exact q) λd xs q=>by rw[d_ (J _ _ q)];exact q
     rcases hd with z|z
     . rw[z];exact hc
     . exact J _ _ z
theorem Inv.own {b:Addr}{h':Heap}{t':Nat}(I:Inv X pins σ H s)(f:h_ X pins H b)(z:Heap.SameBut b s.heap h'):Inv X pins σ H { s with heap:=h',toks:=t' }:=
 I.turned (t':=t') (λc u hc e=>(z.2 c hc).trans e) f.1 f.2.1 f.2.2.2.1 f.2.2.2.2.1 f.2.2.2.2.2
theorem zE {kh:Array Value}{name qual:Str}{L:Arguments}{body:Expr}{scope:Scope}{pos:Pos}{U:Nat}{cl:List (Str × Addr)}{c P:Addr}{Q:Value->Shared->Prop}{E:Value->Shared->Prop}(I:Inv X pins σ H s)(aa:X.env.code=.ref c)(C:W.CodeHd X.base c P)
 (B:BM X.mg X.base) (T:EX P pos qual kh H) (ac:closureFor scope X.env=pure cl)
 (h:∀(f c':Addr) (pm Y:Value) (H':Hp) (s':Shared),Inv X (pins++[(f,W.kla_obj name qual L body scope cl pm c' Y)]) σ H' s'->EY P pos qual kh c' H'->(∀b o,b≠P->H b=some o->H' b=some o)->Q (.ref f) s'):
 wpAny (model X.prog X.w) X.A (makeFunction name qual L (.expr body) scope X.env [] [] [] pos U) Q E s:=by
 have hg:s.heap.Ns mainGlobals X.mg:=I.mod.glob.keeps I.bk;have C':=C.keeps I.bk
 have ae:∀{H':Hp} {s':Shared} {f:Addr} {o:Obj},Inv X pins σ H' s'->s'.heap.get? f=some o->H' f=none->s.heap.objs.size<=f->(∀v,o.data≠ .cell v)->Inv X (pins++[(f,o)]) σ H' s':=λ{H' s' f o} J e n hz d=>
  J.lA λp hp=>(List.mem_append.mp hp).elim (λz=>J.pin p (Q05 _ z)) λz=>by
    have:p=(f,o):=by simpa using z
    subst this;exact⟨e,n,Q0q (Q06 I.lt hz),I.mB hz,d⟩
 obtain⟨e,af,ag|⟨c',e1,e2⟩⟩:=T
 . have hP:s.heap.get? P=some (W.tabObj kh):=I.hok P _ e;have ah:P<s.heap.objs.size:=Q01 hP
   have am:mainGlobals≠P:=by
    obtain⟨o,es,ep,eo,_⟩:=I.mod.glob;exact I.zC e eo
   refine W.kla_makeFunction (mg:=X.mg) ac I.ok.glob hg aa C' hP af ag am (I.zD B e) λc' Y h' tk hx ab ai al aj=>?_;have ak:c'≠P:=Q0q (Q06 ah ab);have an:H c'=none:=I.hok.fresh ab
   have nP:∀b u,H b=some u->u≠ .gq kh->b≠P:=λb u q d z=>by
    rw[z,e] at q;exact d (Option.some.inj q).symm
   have nC:∀b u,H b=some u->b≠c':=λb u q=>eM q an;have kk:∀(ob:Obj) b u,b≠P->s.heap.get? b=some u->(h'.push ob).get? b=some u:=λob b u hb q=>Q08 _ (hx b u hb q)
   have I1:Inv X pins σ (upd (upd H P (.gq (kh++#[rawInt pos.line,rawInt pos.col,.ref c']))) c' (.ext (mS c' qual))) { s with heap:=h'.push (W.kla_obj name qual L body scope cl ((X.mg "__name__").getD .none) c' Y),toks:=tk }:=by
    refine I.step (g':=s.gens) (d':=s.drawn) (ch:=[]) (λ_ z=>nomatch z) (λb o _ _ _ q n=>kk _ b o (λz=>by rw[z,e] at n;cases n) q) (λb o _ _ _ q n=>⟨o.slots,kk _ b o (λz=>by rw[z,e] at n;cases n) q⟩)
     (λb o _ q n=>?_) (λb o _ q=>?_) (λb xs q=>?_) (λb o u q=>?_) (λb ps q=>?_) (λm hm=>?_) (λb o q=>?_) I.bare
    . have b1:b≠P:=λz=>by rw[z,e] at n;cases n
      have b2:b≠c':=Q07 (Q06 (Q01 q) ab);rw[d_ b2,d_ b1];exact n
    . by_cases hb:b=P
      . subst hb;exact⟨_,Q08 _ aj⟩
      . exact⟨o,kk _ b o hb q⟩
    . rw[d_ (nC _ _ q),d_ (nP _ _ q (by intro z;cases z))];exact q
    . rw[d_ (nC _ _ q),d_ (nP _ _ q (by intro z;cases z))];exact q
    . by_cases hb:b=P
      . subst hb;rw[e] at q;cases q;exact⟨_,by rw[d_ (Ne.symm ak),eK]⟩
      . exact⟨#[],by rw[d_ (nC _ _ q),d_ hb,q];simp⟩
    . obtain⟨o,es,ep,ho,r⟩:=hm;exact⟨o,es,ep,kk _ _ o (λz=>by have:=I.free;rw[z,e] at this;cases this) ho,r⟩
    . by_cases hb:b=c'
      . subst hb;rw[eK] at q;cases q;obtain⟨aq,oc,vs,t,z1,z2,z3,z4⟩:=al
        cases z1;refine⟨⟨_,oc,vs,t,rfl,Q08 _ z2,z3,z4⟩,⟨oc,Q08 _ z2⟩,λh1 h2 y hy=>?_⟩;obtain⟨ar,ao,ap,t',y1,y2,y3,y4⟩:=y
        cases y1;exact⟨_,ao,ap,t',rfl,hy _ y2,y3,y4⟩
      . rw[d_ hb] at q;by_cases hp:b=P
        . subst hp;rw[eK] at q;cases q;show(h'.push _).get? b=some { cls:=.none,data:=.fields _ };exact Q08 _ aj
        . rw[d_ hp] at q;refine(I.hok b o q).stay (λd v hd y=>kk _ d v ?_ y) (λd y=>by rw[d_ (nC _ _ y),d_ (nP _ _ y (by intro z;cases z))];exact y) λd xs y=>by rw[d_ (nC _ _ y),d_ (nP _ _ y (by intro z;cases z))];exact y
          rcases hd with z|z
          . rw[z];exact hp
          . exact nP _ _ z (by intro z;cases z)
   have fz:s.heap.objs.size<=h'.objs.size:=Q0o (Q1f ab ai)
   have fn:upd (upd H P (.gq (kh++#[rawInt pos.line,rawInt pos.col,.ref c']))) c' (.ext (mS c' qual)) h'.objs.size=none:=by
    rw[d_ (Q0q ai),d_ (Q0q (Q06 ah fz))];exact I.hok.fresh fz
   refine h h'.objs.size c' ((X.mg "__name__").getD .none) Y _ _ (ae I1 (Q0n _ rfl) fn fz (by intro v z;cases z)) ⟨.inl ⟨ag,by rw[d_ (Ne.symm ak),eK]⟩,eK⟩ λb o hb q=>?_;rw[d_ (nC _ _ q),d_ hb];exact q
 . have hP:s.heap.get? P=some (W.tabObj kh):=I.hok P _ e;refine W.kla_makeFunctionHit (mg:=X.mg) (cv:=.ref c') ac I.ok.glob hg aa C' hP af e1 (I.zD B e) λY h' tk hk hsz=>?_;exact h h'.objs.size c' ((X.mg "__name__").getD .none) Y H _ (ae (I.kept λb u q=>Q08 _ (hk b u q)) (Q0n _ rfl) (I.hok.fresh hsz) hsz (by intro v z;cases z)) ⟨.inr ⟨e1,e⟩,e2⟩ λb o _ q=>q
theorem EZ {name qual:Str}{aa:Arguments}{body:Expr}{scope:Scope}{pos:Pos}{Y:Nat}{cl:List (Str × Addr)}{c P:Addr}{Q:Value->Shared->Prop}{E:Value->Shared->Prop}(I:Inv X pins σ H s)(ac:X.env.code=.ref c)(C:W.CodeHd X.base c P)
 (B:BM X.mg X.base) (T:eQ P pos qual H) (ae:closureFor scope X.env=pure cl)
 (h:∀(f c':Addr) (pm ab:Value) (H':Hp) (s':Shared),Inv X (pins++[(f,W.kla_obj name qual aa body scope cl pm c' ab)]) σ H' s'->lQ P pos qual c' H'->(∀b o,b≠P->H b=some o->H' b=some o)->Q (.ref f) s'):
 wpAny (model X.prog X.w) X.A (makeFunction name qual aa (.expr body) scope X.env [] [] [] pos Y) Q E s:=by
 rcases T with e|⟨U,e,ec⟩
 . refine zE (kh:=#[]) I ac C B ⟨e,by simp[TriplesOk],.inl rfl⟩ ae λf c' pm ab H' s' J L m=>h f c' pm ab H' s' J ?_ m;obtain⟨z|z,y⟩:=L
   . exact⟨z.2,y⟩
   . cases z.1
 . refine zE (kh:=#[rawInt pos.line,rawInt pos.col,.ref U]) I ac C B ⟨e,by simp[TriplesOk,rawInt],.inr ⟨U,by simp[codeAmong,rawInt],ec⟩⟩ ae λf c' pm ab H' s' J L m=>h f c' pm ab H' s' J ?_ m;have hc:codeAmong pos [rawInt pos.line,rawInt pos.col,.ref U]=some (.ref U):=by simp[codeAmong,rawInt]
   obtain⟨z|z,y⟩:=L
   . exact absurd (hc.symm.trans z.1) (by intro z;cases z)
   . have:U=c':=by
      have:=hc.symm.trans z.1
      cases this;rfl
     subst this;exact⟨z.2,y⟩
structure ki (X:Cx) (x:Str) (N':List Str) (scope:Scope):Prop where
 kind:scope.kind=.function
 co:scope.isCoroutine=false
 gen:scope.isGenerator=false
 cell:∀y∈scope.names,y.2≠ .cell
 loc:scope.names.lookup x=some .local
 free:∀y∈scope.names,y.2=.free->X.env.kindOf y.1=some .cell\/X.env.kindOf y.1=some .free
 len:N'.length=X.N.length
 outer:∀(i:Nat) (y:Str),N'[i]? =some y->scope.names.lookup y=none\/(X.N[i]? =some y/\scope.names.lookup y≠some .local)
noncomputable def lU (scope:Scope):List Str->List Str->Bool
 |[],[]=>true
 |y::r,z::q=>(decide (scope.names.lookup y=none) || (decide (z=y) && decide (scope.names.lookup y≠some .local))) && lU scope r q
 |_,_=>false
theorem zF {scope:Scope}:∀{N' N:List Str},lU scope N' N=true->N'.length=N.length
 |[],[],_=>rfl
 |y::r,z::q,h=>by
  simp only[lU,Bool.and_eq_true] at h;rw[Q0g,Q0g,zF h.2]
theorem zG {scope:Scope}:∀{N' N:List Str},lU scope N' N=true->∀(i:Nat) (y:Str),N'[i]? =some y->scope.names.lookup y=none\/(N[i]? =some y/\scope.names.lookup y≠some .local)
 |[],[],_,i,y,e=>by simp at e
 |w::r,z::q,h,0,y,e=>by
  simp only[lU,Bool.and_eq_true,Bool.or_eq_true,decide_eq_true_eq] at h;have e:some w=some y:=e
  cases e;rcases h.1 with h1|⟨h1,h2⟩
  . exact .inl h1
  . subst h1;exact .inr ⟨rfl,h2⟩
 |w::r,z::q,h,i+1,y,e=>by
  simp only[lU,Bool.and_eq_true] at h;have:=zG h.2 i y (by simpa using e);simpa using this
noncomputable def zH (x:Str) (N' N:List Str) (scope sc:Scope):Bool:=
 scope.names.all (λy=>decide (y.2≠ .cell)) && decide (scope.names.lookup x=some .local) && scope.names.all (λy=>decide (y.2=.free->sc.names.lookup y.1=some .cell\/sc.names.lookup y.1=some .free)) && lU scope N' N
theorem ki.of {x:Str}{N' N:List Str}{scope sc:Scope}(z:X.env.scope=sc)(I:X.N=N)(k:scope.kind=.function)(L:scope.isCoroutine=false)(U:scope.isGenerator=false)(c:zH x N' N scope sc=true):ki X x N' scope:=by
 unfold zH at c;simp only[Bool.and_eq_true,Q10,decide_eq_true_eq] at c;obtain⟨⟨⟨Y,a2⟩,a3⟩,J⟩:=c;exact⟨k,L,U,Y,a2,λy hy hf=>by rw[show X.env.kindOf y.1=X.env.scope.names.lookup y.1 from rfl,z];exact a3 y hy hf,by rw[I];exact zF J,by rw[I];exact zG J⟩
noncomputable abbrev pM (qual:Str) (scope:Scope) (cl:List (Str × Addr)) (f c':Addr) (s:Shared):Env:=W.envX qual scope s.heap.objs.size f (.ref c') cl
noncomputable def pN (X:Cx) (x:Str) (N':List Str) (scope:Scope) (cl:List (Str × Addr)) (qual:Str) (f c':Addr) (s:Shared) (H:Hp):Cx:=
 { X with A:=X.A.in1.in1.deeper (pM qual scope cl f c' s),N:=x::N',s₀:=s,H₀:=H,env:=pM qual scope cl f c' s,outer:=X.stack,stack:=pM qual scope cl f c' s::X.stack,ex:=[],fn:=λ_=>false,pn:=[],calm:=true,xe:=λ_ _=>False }
theorem Inv.lam {x:Str}{N':List Str}{scope:Scope}{cl:List (Str × Addr)}{qual:Str}{f c':Addr}{v:V}{u:Value}{L:Heap}{t':Nat}(I:Inv X pins σ H s)(S:ki X x N' scope)(hd:X.A.handled=none)
 (J:∀y c,cl.lookup y=some c->X.env.cells.lookup y=some c) (ab:∀y,(y,NameKind.free)∈scope.names->cl.lookup y=X.env.cells.lookup y) (r:RelV v u)
 (hn:L.Ns s.heap.objs.size (λy=>([(x,u)]:List (Str × Value)).reverse.lookup y)) (aa:∀b o,s.heap.get? b=some o->L.get? b=some o):
 Inv (pN X x N' scope cl qual f c' s H) [] (some v::σ) H { s with heap:=L,toks:=t' }:=by
 have ok:=I.ok
 have U:∀y,(scope.names.lookup y=some .cell\/scope.names.lookup y=some .free)->(y,NameKind.free)∈scope.names:=λy hy=>by
  rcases hy with hy|hy
  . exact absurd rfl (S.cell _ (PySem.mem_of_lookup hy))
  . exact PySem.mem_of_lookup hy
 refine⟨⟨ok.mod,S.kind,rfl,rfl,Q00 _,λy z c Y e2=>ok.inj y z c (J y c Y) (J z c e2),λy hy=>?_,λy c hy _=>(nomatch hy),λ_=>hd,Around.frames_deeper (show X.A.in1.in1.frames=some X.stack from ok.frames),.inr ⟨rfl,rfl⟩,λb hb=>absurd (show b∈([]:List Addr) from hb) (by simp),I.bs,Q0f ok.jx I.sz,
  λb o _ hb=>absurd (show b∈([]:List Addr) from hb) (by simp),λb hb=>absurd (show b∈([]:List Addr) from hb) (by simp),I.stack,I.nM⟩,
  rfl,I.bare,Un.kept aa,⟨_,hn,λi y v' Y e2 e3=>?_⟩,λy c e=>?_,I.hok.fresh (Q00 _),λy c e=>I.iA y c (J y c e),λp hp=>absurd (show p∈([]:List (Addr × Obj)) from hp) (by simp),I.hok.kept aa,?_⟩
 . have hm:=U y hy;obtain⟨c,e⟩:=ok.has y (S.free _ hm rfl);exact⟨c,by rw[show(pN X x N' scope cl qual f c' s H).env.cells=cl from rfl,ab y hm];exact e⟩
 . cases i with
   |zero=>
    have Y:some x=some y:=Y
    cases Y;have e2:some (some v)=some (some v'):=e2
    cases e2;exact⟨u,r,.inl ⟨S.loc,by simp⟩⟩
   |succ i=>
    have Y:N'[i]? =some y:=by
     have Y:(x::N')[i+1]? =some y:=Y;simpa using Y
    have e2:σ[i]? =some (some v'):=by simpa using e2
    have ho:X.N[i]? =some y/\scope.names.lookup y≠some .local:=by
     have e3:scope.names.lookup y=some .local\/scope.names.lookup y=some .cell\/scope.names.lookup y=some .free:=e3;rcases S.outer i y Y with q|q
     . rw[q] at e3;rcases e3 with z|z|z <;> cases z
     . exact q
    have ae:scope.names.lookup y=some .cell\/scope.names.lookup y=some .free:=by
     rcases e3 with q|q
     . exact absurd q ho.2
     . exact q
    have hm:=U y ae;have af:=S.free _ hm rfl;obtain⟨mX,ah,ag⟩:=I.loc;obtain⟨u',r',lk⟩:=ag i y v' ho.1 e2 (.inr af);refine⟨u',r',.inr ⟨ae,?_⟩⟩;rcases lk with⟨q,_⟩|⟨_,c,ec,hc⟩
    . rcases af with z|z
      . rw[z] at q;cases q
      . rw[z] at q;cases q
    . obtain⟨o,ho,ac⟩:=hc;exact⟨c,(ab y hm).trans ec,o,aa _ _ ho,ac⟩
 . obtain⟨w',o,ho,ac⟩:=I.cell y c (J y c e);exact⟨w',o,aa _ _ ho,ac⟩
 . show _=(x::N').length;rw[Q0g,Q0g,I.len,S.len]
theorem E1 {x:Str}{N':List Str}{name qual:Str}{z:Arguments}{body:Expr}{scope:Scope}{cl:List (Str × Addr)}{f c':Addr}{pm L:Value}{v:V}{u:Value}{te:TE}{Q:VK}{E:Value->Shared->Prop}(I:Inv X pins σ H s)(S:ki X x N' scope)(hd:X.A.handled=none)(Y:X.A.depth<recursionLimit)
 (aa:∀y c,cl.lookup y=some c->X.env.cells.lookup y=some c) (ab:∀y,(y,NameKind.free)∈scope.names->cl.lookup y=X.env.cells.lookup y) (hf:(f,W.kla_obj name qual z body scope cl pm c' L)∈pins) (hc:H c'=some (.ext (mS c' qual)))
 (hb:∀u:Value,bindArgs (W.kla_fn name qual z body scope cl pm (.ref c') L) ⟨[u],[]⟩=pure [(x,u)]) (r:RelV v u) (he:∀(s:Shared) (H:Hp),PE (pN X x N' scope cl qual f c' s H) body te) (h:te (some v::σ) H Q):
 wpAny (model X.prog X.w) X.A.in1.in1 (call (.ref f) [u]) (EP X pins σ Q) E s:=by
 obtain⟨p1,p2,p3,p4,p5⟩:=I.pin _ (Q05 _ hf);refine wpAny_call (W.kla_callFunE Y p1 rfl S.co S.gen rfl (I.hok c' _ hc).1 ?_);rw[hb];refine Q09 (wpAny_newFunctionEnv S.cell (λy hy=>?_) (λac ae af=>?_) S.kind)
 . have e:y=(x,u):=by simpa using hy
   subst e;exact S.loc
 have U:∀b o,s.heap.get? b=some o->ac.get? b=some o:=λb o e=>af.extBut b o (Q07 (Q01 e)) (Q08 _ e);refine⟨I.nolimit.keeps U,?_⟩;show codeAny _ _ (.expr body (pM qual scope cl f c' s)) _ _;have J:=I.lam (t':=s.toks+([(x,u)]:List (Str × Value)).length) (qual:=qual) (f:=f) (c':=c') S hd aa ab r ae U;refine W.kla_codeExpr (Q0m (he s H [] _ _ H Q J h) (λu' s' hq=>?_) λe s' hF=>hF.elim);obtain⟨v',H',J',rv,q⟩:=hq;exact I.after ⟨v',H',J'.os,J'.bare,J'.base,J'.hok,rv,q⟩
end
section
variable {X:Cx}{pins:List (Addr × Obj)}{σ:St}{H:Hp}{s:Shared}
def Asks (prog:Program) (w:World) (A:Around) (s:Shared) (us:List Value) {O:KeyOrd}(key:Nat->O.α):Prop:=
 2<=us.length->wpAny (model prog w) A (keyKind' us.toArray) (λκ s'=>s'=s/\∀(i j:Nat) (C:Bool->Shared->Prop),i<us.length->j<us.length->C (O.blt (key i) (key j)) s->W.kas_ask prog w A κ us i j C s) (λ_ _=>False) s
theorem zI {xs:List V}{vs:List Value}(r:Vals xs vs):∀p:List Nat,Vals (p.map λi=>xs.getD i .non) (p.map λi=>vs.getD i Value.none)
 |[]=>.nil
 |i::p=>by
  refine .cons ?_ (zI r p);show RelV (xs.getD i .non) (vs.getD i Value.none);rw[Q0d,Q0d]
  cases e:xs[i]? with
  |none=>
   rw[r.none_of e];exact rfl
  |some x=>
   obtain⟨u,z,I⟩:=r.get e;rw[z];exact I
theorem E2 {α:Type}(a0:α)(l:List α):((List.range l.length).map λi=>l.getD i a0)=l:=by
 apply Q2y
 . simp
 . intro i h1 h2;simp[h2]
theorem E3 {us vs:List Value}(hl:us.length=vs.length):((List.toArray us).zip (List.toArray vs)).map (·.2)=List.toArray vs:=by
 apply Array.toList_inj.mp;rw[Array.toList_map,ksk_zip];show List.map Prod.snd (us.zip vs)=vs;exact List.map_snd_zip (by omega)
theorem E4 {α:Type}{R:α->α->Prop}(key:Nat->α){n:Nat}(h:n<2):((List.range n).map key).Pairwise R:=by
 have:n=0\/n=1:=by omega
 rcases this with rfl|rfl
 . exact List.Pairwise.nil
 . exact Q2z _ _
noncomputable abbrev lo (xs:List Value) (n:Nat):Obj:=seqObj "list" (List.toArray xs) n
theorem zJ {E:Value->Shared->Prop}{kS D:Addr}{us:List Value}{e L:Nat}{st:SortSt}{out:List Value}{outV:List V}{P:PySem.Fin->Shared->Prop}{A:Around}(I:Inv X (pins++[(kS,lo us e),(D,lo [] L)]) σ H s)(fK:h_ X pins H kS)(fD:h_ X pins H D)(Y:kS≠D)(ab:us.length<64)(ho:out.length<64)
 (J:(arrOf st).map (·.2)=List.toArray out) (hf:failedOf st=none) (rv:Vals outV out)
 (h:∀s',Inv X pins σ (upd H D (.lst outV)) s'->P (.done (.ret .none)) s'):wpAny (model X.prog X.w) A (ksk_tail D false L (.ref kS) st) P E s:=by
 have nk:=(I.pin (kS,lo us e) (Q05 _ (Q05 _ (Q0b)))).1;have nD:=(I.pin (D,lo [] L) (Q05 _ (Q05 _ (Q0e _ Q0b)))).1;have s1:=Heap.SameBut.update s.heap kS (Obj.mapSeq λ_=>(#[]:Array Value));have z:(s.heap.update kS (Obj.mapSeq λ_=>(#[]:Array Value))).get? D=some (lo [] L):=(s1.2 D Y.symm).trans nD;have s2:=Heap.SameBut.update (s.heap.update kS (Obj.mapSeq λ_=>(#[]:Array Value))) D (Obj.mapSeq λ_=>List.toArray out);obtain⟨U,aa⟩:∃U,((s.heap.update kS (Obj.mapSeq λ_=>(#[]:Array Value))).update D (Obj.mapSeq λ_=>List.toArray out)).get? D=some (lo out U):=⟨_,get?_update_seq z λ_=>List.toArray out⟩;have I1:Inv X pins σ H { s with heap:=s.heap.update kS (Obj.mapSeq λ_=>(#[]:Array Value)) }:=I.kK.own (t':=s.toks) fK s1
 have I2:Inv X pins σ (upd H D (.lst outV)) { s with heap:=(s.heap.update kS (Obj.mapSeq λ_=>(#[]:Array Value))).update D (Obj.mapSeq λ_=>List.toArray out) }:=
  I1.adopt (t':=s.toks) fD (λc u hc q=>(s2.2 c hc).trans q) ⟨by rw[rv.length];exact Q0o (gN (by omega)),out,U,rv,aa⟩
 unfold ksk_tail
 try dsimp only
 rw[J];refine Q0 (listUpdate_at nk rfl ?_ (by rw[Q04,sizeLine_eq];omega) (Q0a _));refine Q0 (wpAny_letGo ?_);refine Q0 (seqEpoch_at z rfl ?_);refine Q0 (listUpdate_at z rfl ?_ (Q0a _) (by show(List.toArray out).size<=_;rw[Q04,sizeLine_eq];omega));rw[hf];simp only[bne_self_eq_false,Bool.false_eq_true,if_false];exact Q09 (h _ I2)
theorem E5 {E:Value->Shared->Prop}{kS D:Addr}{us vs:List Value}{xs:List V}{e e1:Nat}{P:PySem.Fin->Shared->Prop}{A:Around}{O:KeyOrd}{key:Nat->O.α}(I:Inv X (pins++[(kS,lo us e),(D,lo [] e1)]) σ H s)(fK:h_ X pins H kS)(fD:h_ X pins H D)(aa:kS≠D)
 (hl:us.length=vs.length) (U:vs.length<64) (rv:Vals xs vs) (ask:Asks X.prog X.w A s us key)
 (h:∀(p:List Nat),p.Perm (List.range vs.length)->(p.map key).Pairwise O.kle->∀s',Inv X pins σ (upd H D (.lst (p.map λi=>xs.getD i .non))) s'->P (.done (.ret .none)) s'):
 wpAny (model X.prog X.w) A (ksk_end D false (List.toArray vs) e1 (.ref kS) (List.toArray us)) P E s:=by
 unfold ksk_end
 try dsimp only
 simp only[Bool.false_eq_true,if_false];by_cases h2:vs.toArray.size<2
 . rw[if_pos h2,if_pos h2];have Y:vs.length<2:=by simpa using h2
   refine Q0 (Q09 ?_);rw[StateT.run_pure];refine Q0 (Q09 ?_)
   try dsimp only
   have ab:xs.length=vs.length:=rv.length
   have ez:((List.range vs.length).map λi=>xs.getD i .non)=xs:=by
    rw[<-ab];exact E2 _ xs
   refine zJ (out:=vs) (outV:=xs) (st:=SortSt.mk' general' ((List.toArray us).zip (List.toArray vs)) #[] 7 none) I fK fD aa (by omega) U (E3 hl) rfl rv λs' J=>?_;have q:=h (List.range vs.length) (List.Perm.refl _) (E4 key Y) s';rw[ez] at q;exact q J
 . rw[if_neg h2,if_neg h2];have Y:2<=vs.length:=by simpa using h2
   refine Q0 (Q0m (ask (by omega)) (λκ s' hk=>?_) λ_ _ hF=>hF.elim);obtain⟨rfl,hk⟩:=hk;obtain⟨k1,k2⟩:=kf.EW (key:=key) (n:=vs.length) (by omega)
   refine Q0 (Q0m (W.kat_run (κ:=κ) (ks:=us) (vs:=vs) (Q:=λL z=>z=s'/\arrOf L=(kf.fw (kf.fH key) (W.kas_sort vs.length)).map (W.kas_item ((List.toArray us).zip vs.toArray))/\failedOf L=none)
    (G:=λp z=>z=s'/\p=kf.fw (kf.fH key) (W.kas_sort vs.length)) hl Y U (λp L z _ a2 a3 a4=>⟨a4.1,by rw[a2,a4.2],a3⟩)
    (kf.zu (f:=kf.fH key) (λi j C hi hj q=>hk i j C (by omega) (by omega) q) (kf.ET (by omega)) ⟨rfl,rfl⟩)) ?_ λ_ _ x=>x)
   rintro⟨⟨⟩,L⟩ z ⟨rfl,ac,ae⟩
   try dsimp only
   refine zJ I fK fD aa (by omega) (by rw[Q03,k1.length_eq,Q2a];exact U) (W.kat_snds hl ac) ae (zI rv _) λs' J=>h _ k1 k2 s' J
theorem E6 {prog:Program}{w:World}{A:Around}{E:Value->Shared->Prop}{s:Shared}{l:Addr}{vs:List Value}{Q:List Value->Shared->Prop}(hl:IsTup s.heap l vs.toArray)
 (h:Q vs { s with heap:=(s.heap.push (seqObj "list" #[] 0)).update s.heap.objs.size (Obj.mapSeq (· ++vs.toArray)) }) (hsz:vs.length<=sizeLine):
 wpAny (model prog w) A (collect (.ref l)) Q E s:=by
 obtain⟨o,I,hc,n,J⟩:=id hl;unfold collect;refine Q0 (wpAny_runValue (codeAny_builtin entry_proto_collect' ?_));refine Q0 (wpAny_newList (Q09 ⟨Code.quiet_builtin _ (by decide +kernel),codeAny_builtin entry_list_iadd' ?_⟩));change wpAny _ _ (Builtin.List.listExtendWith (.ref s.heap.objs.size) (.ref l) (.ref s.heap.objs.size)) _ _ { s with heap:=s.heap.push (seqObj "list" #[] 0) };unfold Builtin.List.listExtendWith;have z:(s.heap.push (seqObj "list" #[] 0)).get? l=some o:=Q08 _ I;refine Q0 (wpAny_typeOf (T:="tuple") ⟨o,z,hc⟩ ?_);have ht:(Value.type "tuple" == Value.type "tuple")=true:=by rfl
 rw[if_pos (by rw[ht];simp)];refine Q0 (listItems_at z J ?_);refine Q0 (listItems_at (xs:=#[]) (n:=0) (Q0n _ rfl) rfl ?_);rw[if_neg (by simp)];refine Q0 (listUpdate_at (xs:=#[]) (n:=0) (Q0n _ rfl) rfl ?_ (Q0a _) (by show(#[]++vs.toArray).size<=sizeLine+1;simp only[Q3,Q04,Q25];omega));refine Q09 ?_;refine Q0 (wpAny_load (get?_update_seq (Q0n _ rfl) _) ?_);change wpAny _ _ (pure ((#[]:Array Value)++vs.toArray).toList) Q E _;rw[show((#[]:Array Value)++vs.toArray).toList=vs by simp];exact Q09 h
theorem E7 {E:Value->Shared->Prop}{f a:Addr}{xs:List V}{Q:VK}{W:List V->Hp->Prop}(I:Inv X pins σ H s)(hq:eG X.K H a xs\/eB X.K H a xs)(ar:xs.length<64)(w0:W [] H)
 (turn:∀(pl:List (Addr × Obj)) (s':Shared) (H':Hp) (ks:List V) (y:V) (u:Value),Inv X (pins++pl) σ H' s'->W ks H'->xs[ks.length]? =some y->RelV y u->
   wpAny (model X.prog X.w) X.A.in1.in1 (call (.ref f) [u]) (EP X (pins++pl) σ λk aa=>W (ks++[k]) aa) (λ_ _=>False) s')
 (fin:∀(pl:List (Addr × Obj)) (s':Shared) (H':Hp) (ks:List V) (us:List Value),Inv X (pins++pl) σ H' s'->W ks H'->ks.length=xs.length->Vals ks us->∃(O:KeyOrd) (key:Nat->O.α),Asks X.prog X.w X.A.in1.in1 s' us key/\
   ∀p:List Nat,p.Perm (List.range xs.length)->(p.map key).Pairwise O.kle->∀D,H' D=none->Q (.ref D) (upd H' D (.lst (p.map λi=>xs.getD i .non)))):
 wpAny (model X.prog X.w) X.A (call (.builtin "sorted") [.ref a] [(Str.ofString "key",.ref f)]) (EP X pins σ Q) E s:=by
 obtain⟨vs,rv,al⟩:∃vs,Vals xs vs/\∀{A:Around} {E:Value->Shared->Prop} {Q:List Value->Shared->Prop},Q vs { s with heap:=(s.heap.push (seqObj "list" #[] 0)).update s.heap.objs.size (Obj.mapSeq (· ++vs.toArray)) }->vs.length<=sizeLine->wpAny (model X.prog X.w) A (collect (.ref a)) Q E s:=by
  rcases hq with hq|hq
  . obtain⟨vs,rv,pl,hz⟩:=I.list hq;exact⟨vs,rv,λh1 h2=>collect_list pl.isList h1 h2⟩
  . obtain⟨vs,rv,pl,hz⟩:=I.tuple hq;exact⟨vs,rv,λh1 h2=>E6 pl h1 h2⟩
 have hl:xs.length=vs.length:=rv.length;refine call_function_entry_kw kind_sorted plain_sorted entry_sorted (ksk_s1 _ _) ?_;unfold Builtin.«sorted»;refine Q0 (m:=checkCount "sorted" 1 1 _) (Q09 ?_);refine Q0 (al ?_ (by rw[sizeLine_eq];omega));refine Q0 (wpAny_newList ?_ (by rw[sizeLine_eq];omega))
 have hsz:((s.heap.push (seqObj "list" #[] 0)).update s.heap.objs.size (Obj.mapSeq (· ++vs.toArray))).objs.size=s.heap.objs.size+1:=by
  rw[Q2b,size_push']
 have U:(((s.heap.push (seqObj "list" #[] 0)).update s.heap.objs.size (Obj.mapSeq (· ++vs.toArray))).push (seqObj "list" vs.toArray 0)).get? (s.heap.objs.size+1)=some (seqObj "list" vs.toArray 0):=by
  rw[<-hsz];exact Q0n _ rfl
 have keep:∀b o,s.heap.get? b=some o->(((s.heap.push (seqObj "list" #[] 0)).update s.heap.objs.size (Obj.mapSeq (· ++vs.toArray))).push (seqObj "list" vs.toArray 0)).get? b=some o:=λb o q=>by
  have ac:b<s.heap.objs.size:=Q01 q;rw[Q30 _ _ _ (by rw[hsz];exact Q07 (Nat.lt_succ_of_lt ac)),Q2c _ _ _ _ (Q07 ac),Q30 _ _ _ (Q07 ac)];exact q
 show wpAny _ _ _ _ _ { s with heap:=((s.heap.push (seqObj "list" #[] 0)).update s.heap.objs.size (Obj.mapSeq (· ++vs.toArray))).push (seqObj "list" vs.toArray 0) };rw[hsz];generalize hG:((s.heap.push (seqObj "list" #[] 0)).update s.heap.objs.size (Obj.mapSeq (· ++vs.toArray))).push (seqObj "list" vs.toArray 0)=G at U keep ⊢;have am:G.objs.size=s.heap.objs.size+2:=by rw[<-hG,size_push',hsz]
 have I1:Inv X pins σ H { s with heap:=G }:=I.kept (t':=s.toks) keep;refine Q0 (wpAny_holding (wpAny_call_entry_kw slot_list_sort ⟨_,U,rfl⟩ entry_list_sort ?body (ksk_l1 _ _)))
 case body=>
  show wpAny (model X.prog X.w) X.A.in1.in1 (Builtin.«list.sort» ⟨[.ref (s.heap.objs.size+1)],[(Str.ofString "key",.ref f)]⟩) _ _ _;rw[ksk_t1];unfold ksk_tree;generalize hD:s.heap.objs.size+1=D at U ⊢;have af:s.heap.objs.size<=D:=by omega
  have s1:=Heap.SameBut.update G D (Obj.mapSeq λ_=>(#[]:Array Value));obtain⟨e1,ag⟩:∃e1,(G.update D (Obj.mapSeq λ_=>(#[]:Array Value))).get? D=some (lo [] e1):=⟨_,get?_update_seq U λ_=>#[]⟩;refine Q0 (listItems_at U rfl ?_);refine Q0 (listUpdate_at U rfl ?_ (by rw[Q04,sizeLine_eq];omega) (Q0a _));refine Q0 (seqEpoch_at ag rfl ?_);refine Q0 (wpAny_newTuple ?_ (by show vs.length<=_;rw[sizeLine_eq];omega));refine Q0 (wpAny_newList ?_ (Q0a _));refine wpAny_holding ?_;show wpAny (model X.prog X.w) X.A.in1.in1 _ _ _ { s with heap:=((G.update D (Obj.mapSeq λ_=>(#[]:Array Value))).push (seqObj "tuple" vs.toArray 0)).push (seqObj "list" #[] 0) };generalize ah:((G.update D (Obj.mapSeq λ_=>(#[]:Array Value))).push (seqObj "tuple" vs.toArray 0)).objs.size=kS;have aq:kS=s.heap.objs.size+3:=by rw[<-ah,size_push',Q2b,am]
  have ai:kS≠D:=by omega
  have L:h_ X pins H D:=I.lD af (I.hok.fresh af);have ab:h_ X pins H kS:=I.lD (by omega) (I.hok.fresh (by omega))
  have ae:∀b o,b≠D->G.get? b=some o->(((G.update D (Obj.mapSeq λ_=>(#[]:Array Value))).push (seqObj "tuple" vs.toArray 0)).push (seqObj "list" #[] 0)).get? b=some o:=λb o hb q=>
   Q08 _ (Q08 _ ((s1.2 b hb).trans q))
  have I2:Inv X pins σ H { s with heap:=((G.update D (Obj.mapSeq λ_=>(#[]:Array Value))).push (seqObj "tuple" vs.toArray 0)).push (seqObj "list" #[] 0) }:=
   Inv.turned (s:={ s with heap:=G }) (t':=s.toks) (it:=D) I1 ae L.1 L.2.1 L.2.2.2.1 L.2.2.2.2.1 L.2.2.2.2.2
  have hK:(((G.update D (Obj.mapSeq λ_=>(#[]:Array Value))).push (seqObj "tuple" vs.toArray 0)).push (seqObj "list" #[] 0)).get? kS=some (lo [] 0):=by rw[<-ah];exact Q0n _ rfl
  have aj:(((G.update D (Obj.mapSeq λ_=>(#[]:Array Value))).push (seqObj "tuple" vs.toArray 0)).push (seqObj "list" #[] 0)).get? D=some (lo [] e1):=Q08 _ (Q08 _ ag);generalize ((G.update D (Obj.mapSeq λ_=>(#[]:Array Value))).push (seqObj "tuple" vs.toArray 0)).push (seqObj "list" #[] 0)=G2 at I2 hK aj ⊢
  have pinned:∀{H':Hp} {s':Shared} {us:List Value} {e:Nat},Inv X pins σ H' s'->s'.heap.get? kS=some (lo us e)->s'.heap.get? D=some (lo [] e1)->H' kS=none->H' D=none->Inv X (pins++[(kS,lo us e),(D,lo [] e1)]) σ H' s':=λ{H' s' us e} J k1 k2 n1 n2=>
   J.lA λp hp=>(List.mem_append.mp hp).elim (λz=>J.pin p (Q05 _ z)) λz=>by
     have z:p=(kS,lo us e)\/p=(D,lo [] e1):=by simpa using z
     rcases z with rfl|rfl
     . exact⟨k1,n1,ab.2.1,ab.2.2.1,by intro v z;cases z⟩
     . exact⟨k2,n2,L.2.1,L.2.2.1,by intro v z;cases z⟩
  have own:∀{H':Hp} {b:Addr},(b=kS\/b=D)->H' b=none->h_ X pins H' b:=λ{H' b} hb n=>by
   rcases hb with rfl|rfl
   . exact⟨n,ab.2⟩
   . exact⟨n,L.2⟩
  unfold ksk_rest;refine Q0 (wpAny_rule ?_)
  first
   |rw[List.forIn_toArray]
   |(rw[<-Q31];simp only[List.toList_toArray])
   |rw[<-Q31]
  refine Q0 (ksk_fold (λi s'=>∃ks us e H',Inv X (pins++[(kS,lo us e),(D,lo [] e1)]) σ H' s'/\Vals ks us/\ks.length=i/\i<=vs.length/\W ks H') vs 0 _
   ⟨[],[],0,H,pinned I2 hK aj ab.1 L.1,.nil,rfl,Q0a _,w0⟩ (λj x s' hx hJ=>?_) λs' hJ=>?_)
  . obtain⟨ks,us,e,H',J,rk,hi,an,wk⟩:=hJ;have hi:ks.length=j:=by omega
    have hj:j<vs.length:=(List.getElem?_eq_some_iff.mp hx).1;have ak:j<xs.length:=by omega
    obtain⟨u,hu,ru⟩:=rv.get (Q02 ak);rw[hx] at hu;cases hu;refine Q0 (wpAny_attempt (Q0m (turn _ s' H' ks (xs[j]) x J wk (by rw[hi];exact Q02 ak) ru) (λk Y hk=>?_) λ_ _ hF=>hF.elim));obtain⟨kv,aa,J',ao,w'⟩:=hk;have pk:=J'.pin (kS,lo us e) (Q05 _ (Q05 _ (Q0b)));have pD:=J'.pin (D,lo [] e1) (Q05 _ (Q05 _ (Q0e _ Q0b)));have au:us.length=ks.length:=rk.length.symm;have s2:=Heap.SameBut.update Y.heap kS (Obj.mapSeq (·.push k));have ea:(List.toArray us).push k=List.toArray (us++[k]):=by simp
    obtain⟨c2,ap⟩:∃c2,(Y.heap.update kS (Obj.mapSeq (·.push k))).get? kS=some (lo (us++[k]) c2):=⟨_,by show _=some (seqObj "list" (List.toArray (us++[k])) _);rw[<-ea];exact get?_update_seq pk.1 (·.push k)⟩
    try dsimp only
    refine Q0 (listUpdate_at pk.1 rfl ?_ (by rw[Q04,sizeLine_eq];omega) (Q0f (Q1n (Array.size_push ..)) (by rw[Q04,sizeLine_eq];omega)));have J2:Inv X pins σ aa { Y with heap:=Y.heap.update kS (Obj.mapSeq (·.push k)) }:=J'.kK.own (t':=Y.toks) (own (.inl rfl) pk.2.1) s2;refine Q09 ⟨rfl,ks++[kv],us++[k],c2,aa,pinned J2 ap ((s2.2 D ai.symm).trans pD.1) pk.2.1 pD.2.1,rk.append (.cons ao .nil),by rw[Q0c,Q1r];omega,by omega,w'⟩
  . obtain⟨ks,us,e,H',J,rk,hi,an,wk⟩:=hJ;have hi:ks.length=vs.length:=by omega
    have pk:=J.pin (kS,lo us e) (Q05 _ (Q05 _ (Q0b)));have pD:=J.pin (D,lo [] e1) (Q05 _ (Q05 _ (Q0e _ Q0b)))
    try dsimp only
    refine Q0 (listItems_at pk.1 rfl ?_);obtain⟨O,key,ask,q⟩:=fin _ s' H' ks us J wk (by omega) rk;refine E5 J (own (.inl rfl) pk.2.1) (own (.inr rfl) pD.2.1) ai (by rw[<-rk.length];exact hi) (by omega) rv ask λp p1 p2 Y J'=>?_;exact⟨_,rfl,Q09 ⟨_,rfl,.ref D,_,J',rfl,q p (by rw[hl];exact p1) p2 D pD.2.1⟩⟩
theorem E8 {E:Value->Shared->Prop}{f a:Addr}{xs:List V}{Q:VK}{W:List V->Hp->Prop}(I:Inv X pins σ H s)(L:eG X.K H a xs)(z:xs.length<64)(U:W [] H)
 (turn:∀(pl:List (Addr × Obj)) (s':Shared) (H':Hp) (ks:List V) (y:V) (u:Value),Inv X (pins++pl) σ H' s'->W ks H'->xs[ks.length]? =some y->RelV y u->
   wpAny (model X.prog X.w) X.A.in1.in1 (call (.ref f) [u]) (EP X (pins++pl) σ λk J=>W (ks++[k]) J) (λ_ _=>False) s')
 (fin:∀(pl:List (Addr × Obj)) (s':Shared) (H':Hp) (ks:List V) (us:List Value),Inv X (pins++pl) σ H' s'->W ks H'->ks.length=xs.length->Vals ks us->∃(O:KeyOrd) (key:Nat->O.α),Asks X.prog X.w X.A.in1.in1 s' us key/\
   ∀p:List Nat,p.Perm (List.range xs.length)->(p.map key).Pairwise O.kle->∀D,H' D=none->Q (.ref D) (upd H' D (.lst (p.map λi=>xs.getD i .non)))):
 wpAny (model X.prog X.w) X.A (call (.builtin "sorted") [.ref a] [(Str.ofString "key",.ref f)]) (EP X pins σ Q) E s:=E7 I (.inl L) z U turn fin
end
noncomputable def ir:Key->Key->Bool
 | .inl i,.inl j=>decide (i<j)
 | .inl _,.inr _=>true
 | .inr _,.inl _=>false
 | .inr x,.inr y=>decide (x.cps.toList<y.cps.toList)
theorem E9 (a:Key):ir a a=false:=by
 cases a with
 |inl i=>simp[ir]
 |inr x=>simpa[ir] using List.lt_irrefl x.cps.toList
theorem E_ {a b c:Key}(h1:ir a b=true)(h2:ir b c=true):ir a c=true:=by
 cases a <;> cases b <;> cases c <;> simp only[ir,decide_eq_true_eq,Bool.false_eq_true] at * <;> first|omega|exact List.lt_trans h1 h2
theorem Fb {x y:Str}(h:x.cps.toList=y.cps.toList):x=y:=by
 cases x;cases y;simp only[Str.mk.injEq];exact Array.toList_inj.mp h
theorem Fc (a b:Key):ir a b=true\/a=b\/ir b a=true:=by
 cases a with
 |inl i=>
  cases b with
  |inl j=>
   simp only[ir,decide_eq_true_eq];rcases Int.lt_trichotomy i j with h|h|h
   . exact .inl h
   . exact .inr (.inl (by rw[h]))
   . exact .inr (.inr h)
  |inr y=>exact .inl rfl
 |inr x=>
  cases b with
  |inl j=>exact .inr (.inr rfl)
  |inr y=>
   simp only[ir,decide_eq_true_eq];by_cases h1:x.cps.toList<y.cps.toList
   . exact .inl h1
   . by_cases h2:y.cps.toList<x.cps.toList
     . exact .inr (.inr h2)
     . exact .inr (.inl (by rw[Fb (List.le_antisymm (List.not_lt.mp h2) (List.not_lt.mp h1))]))
theorem Fe {a b:Key}(h:ir a b=true):a≠b:=λe=>by
 rw[e,E9] at h;cases h
noncomputable def gC:List Key->List Key->Bool
 |[],[]=>false
 |[],_::_=>true
 |_::_,[]=>false
 |x::xs,y::ys=>if x=y then gC xs ys else ir x y
theorem pO:∀a:List Key,gC a a=false
 |[]=>rfl
 |x::xs=>by
  show(if x=x then gC xs xs else ir x x)=false;rw[if_pos rfl];exact pO xs
theorem ou (x y:Key)(xs ys:List Key):gC (x::xs) (y::ys)=if x=y then gC xs ys else ir x y:=rfl
theorem mT:∀(a b c:List Key),gC a b=true->gC b c=true->gC a c=true
 |[],[],_,h,_=>by cases h
 |[],_::_,[],_,h=>by cases h
 |[],_::_,_::_,_,_=>rfl
 |_::_,[],_,h,_=>by cases h
 |_::_,_::_,[],_,h=>by cases h
 |x::xs,y::ys,z::zs,h1,h2=>by
  rw[ou] at *;by_cases J:x=y
  . subst J;rw[if_pos rfl] at h1;by_cases I:x=z
    . rw[if_pos I] at h2 ⊢;exact mT xs ys zs h1 h2
    . rw[if_neg I] at h2 ⊢;exact h2
  . rw[if_neg J] at h1;by_cases I:y=z
    . subst I;rw[if_neg J];exact h1
    . rw[if_neg I] at h2;have q:=E_ h1 h2;rw[if_neg (Fe q)];exact q
theorem pP:∀a b:List Key,gC a b=true\/a=b\/gC b a=true
 |[],[]=>.inr (.inl rfl)
 |[],_::_=>.inl rfl
 |_::_,[]=>.inr (.inr rfl)
 |x::xs,y::ys=>by
  rw[ou,ou];by_cases e:x=y
  . subst e;rw[if_pos rfl,if_pos rfl];rcases pP xs ys with h|h|h
    . exact .inl h
    . exact .inr (.inl (by rw[h]))
    . exact .inr (.inr h)
  . rw[if_neg e,if_neg (λz=>e z.symm)];rcases Fc x y with h|h|h
    . exact .inl h
    . exact absurd h e
    . exact .inr (.inr h)
@[reducible] noncomputable def pQ:KeyOrd where
  α:=List Key
  blt:=gC
  irrefl:=pO
  trans:=mT
  negTrans a b c h:=by
   rcases pP a b with q|q|q
   . exact .inl q
   . exact .inr (by rw[<-q];exact h)
   . exact .inr (mT b a c q h)
  total a b h1 h2:=by
   rcases pP a b with q|q|q
   . rw[h1] at q;cases q
   . exact q
   . rw[h2] at q;cases q
def lV (a b:List Key):Prop:=gC b a=false
noncomputable def gE:Key->Bool
 | .inl _=>true
 | .inr _=>false
def zK (z:List (List Key)):Prop:=∃ts:List Bool,ts≠[]/\∀I∈z,I.map gE=ts
def lW (H:Hp):List V->List (List Key)->Prop:=Paired λk z=>∃p,k=.ref p/\H p=some (.tup (z.map kV))
section
variable {X:Cx}{pins:List (Addr × Obj)}{σ:St}{H:Hp}{s:Shared}
theorem lX {k:Key}{u:Value}(r:RelV (kV k) u):(∃i t,k=.inl i/\u=.int i t)\/∃x t,k=.inr x/\u=.str x t:=by
 cases k with
 |inl i=>
  obtain⟨t,rfl⟩:=r;exact .inl ⟨i,t,rfl,rfl⟩
 |inr x=>
  obtain⟨t,rfl⟩:=r;exact .inr ⟨x,t,rfl,rfl⟩
theorem sF {prog:Program}{w:World}{A:Around}{C:Bool->Shared->Prop}:∀(L U:List Key) (I J:List Value) (i:Nat),Vals (L.map kV) I->Vals (U.map kV) J->L.map gE=U.map gE->C (gC L U) s->
 W.KatLex prog w A true false C (I.zip J) i s
 |[],[],I,J,i,Y,r2,_,q=>by
  cases Y;cases r2;exact W.kat_nil q
 |[],_::_,_,_,_,_,_,h,_=>by cases h
 |_::_,[],_,_,_,_,_,h,_=>by cases h
 |x::xs,y::ys,I,J,i,Y,r2,h,q=>by
  cases Y with
  |cons a1 b1=>
  cases r2 with
  |cons a2 b2=>
  have h1:gE x=gE y:=(List.cons.inj h).1;have h2:xs.map gE=ys.map gE:=(List.cons.inj h).2;rw[ou] at q;rcases lX a1 with⟨m,t,rfl,rfl⟩|⟨m,t,rfl,rfl⟩ <;> rcases lX a2 with⟨n,t',rfl,rfl⟩|⟨n,t',rfl,rfl⟩
  . refine W.kat_cons (wpAny_eqBool_int ?_);by_cases e:m=n
    . subst e;rw[if_pos rfl] at q;rw[beq_self_eq_true];exact W.kat_yes (sF xs ys _ _ (i+1) b1 b2 h2 q)
    . rw[if_neg (λz=>e (Sum.inl.inj z))] at q;rw[beq_false_of_ne e];refine W.kat_no ?_
      cases hi:(i == 0) with
      |true=>exact oneLt_int q
      |false=>exact W.kat_one _ _ (lt_int q)
  . cases h1
  . cases h1
  . refine W.kat_cons (wpAny_eqBool_str ?_);by_cases e:m=n
    . subst e;rw[if_pos rfl] at q;rw[decide_eq_true rfl];exact W.kat_yes (sF xs ys _ _ (i+1) b1 b2 h2 q)
    . rw[if_neg (λz=>e (Sum.inr.inj z))] at q;rw[decide_eq_false e];refine W.kat_no ?_
      cases hi:(i == 0) with
      |true=>exact oneLt_str q
      |false=>exact W.kat_one _ _ (lt_str q)
theorem zL {ks:List V}{us:List Value}{z:List (List Key)}(I:Inv X pins σ H s)(r:Vals ks us)(L:lW H ks z){i:Nat}(hi:i<us.length):
 ∃p J,us.getD i Value.none=.ref p/\IsTup s.heap p (List.toArray J)/\Vals ((z.getD i []).map kV) J/\z.getD i []∈z:=by
 have hl:=r.length;have aa:ks.length=z.length:=Paired.length L;have e1:ks[i]? =some (ks[i]'(by omega)):=Q02 (by omega);obtain⟨u,hu,U⟩:=r.get e1;have Y:z.getD i []=z[i]'(by omega):=by rw[Q0d,Q02 (by omega)];rfl
 have key:∀(ks:List V) (z:List (List Key)),lW H ks z->∀i (h1:i<ks.length) (h2:i<z.length),∃p,ks[i]=.ref p/\H p=some (.tup (z[i].map kV)):=by
  intro ks z L
  induction L with
  |nil=>intro i h1;simp at h1
  |cons a b ih=>
   intro i h1 h2
   cases i with
   |zero=>exact a
   |succ i=>simpa using ih i (by simpa using h1) (by simpa using h2)
 obtain⟨p,hp,hH⟩:=key ks z L i (by omega) (by omega);rw[hp] at U
 cases U;obtain⟨J,rv,tp,_⟩:=I.tuple (eB.of hH);refine⟨p,J,by rw[Q0d,hu];rfl,tp,by rw[Y];exact rv,by rw[Y];exact Q0v _⟩
theorem zM (I:Inv X pins σ H s){t:Bool}:∀{ks:List V}{us:List Value}{z:List (List Key)},Vals ks us->lW H ks z->(∀J∈z,∃k r,J=k::r/\gE k=t)->
 ∃fs,W.KatTups s.heap us fs/\fs.length=us.length/\∀v∈fs,(t=true/\∃i tk,v=.int i tk)\/(t=false/\∃x tk,v=.str x tk)
 |_,_,_,.nil,.nil,_=>⟨[],W.KatTups.nil,rfl,λv L=>nomatch L⟩
 |_,_,_,.cons a r,.cons b q,h=>by
  obtain⟨p,rfl,hp⟩:=b
  cases a;obtain⟨fs,f1,f2,f3⟩:=zM I r q λJ Y=>h J (Q0e _ Y);obtain⟨k,rr,rfl,U⟩:=h _ Q0b;obtain⟨aa,rv,⟨o,ho,hc,n,hd⟩,_⟩:=I.tuple (eB.of hp)
  cases rv with
  |cons a1 b1=>
   refine⟨_::fs,W.KatTups.cons ho hc hd (by simp;rfl) f1,by rw[Q0g,Q0g,f2],λv L=>?_⟩;rcases List.mem_cons.mp L with e|e
   . subst e;rcases lX a1 with⟨i,tk,rfl,rfl⟩|⟨x,tk,rfl,rfl⟩
     . exact .inl ⟨U.symm,i,tk,rfl⟩
     . exact .inr ⟨U.symm,x,tk,rfl⟩
   . exact f3 v e
theorem Ff {A:Around}{ks:List V}{us:List Value}{J:List (List Key)}(I:Inv X pins σ H s)(r:Vals ks us)(hk:lW H ks J)(aa:zK J):Asks X.prog X.w A s us (O:=pQ) (λi=>J.getD i []):=by
 intro h2;obtain⟨ts,ab,L⟩:=aa
 obtain⟨t,tr,rfl⟩:∃t tr,ts=t::tr:=by
  cases ts with
  |nil=>exact absurd rfl ab
  |cons t tr=>exact⟨t,tr,rfl⟩
 have hh:∀kl∈J,∃k r,kl=k::r/\gE k=t:=λkl hm=>by
  have e:=L kl hm
  cases kl with
  |nil=>cases e
  |cons k r=>exact⟨k,r,rfl,(List.cons.inj e).1⟩
 obtain⟨fs,f1,f2,f3⟩:=zM I r hk hh
 have fin:∀(i j:Nat) (C:Bool->Shared->Prop),i<us.length->j<us.length->C (gC (J.getD i []) (J.getD j [])) s->W.kas_ask X.prog X.w A (tuples' true) us i j C s:=by
  intro i j C hi hj q;unfold W.kas_ask;obtain⟨p,U,e1,⟨o,ho,hc,n,hd⟩,rv,m1⟩:=zL I r hk hi;obtain⟨p',its',ac,⟨o',ae,ag,n',af⟩,Y,m2⟩:=zL I r hk hj;rw[e1,ac];have ht:(J.getD i []).map gE=(J.getD j []).map gE:=(L _ m1).trans (L _ m2).symm
  have hl:U.length=its'.length:=by
   have:=congrArg List.length ht;rw[Q03,Q03] at this;rw[<-rv.length,<-Y.length,Q03,Q03,this]
  refine W.kat_lt ho hd ae af ?_;have ef:decide ((List.toArray U).size<(List.toArray its').size)=false:=by rw[Q04,Q04,hl];simp
  rw[ef];exact sF _ _ _ _ 0 rv Y ht q
 cases t with
 |true=>
  refine W.kat_kind (T:=.type "int") f1 (by omega) (λv hv=>?_) rfl ⟨rfl,fin⟩;rcases f3 v hv with⟨_,i,tk,rfl⟩|⟨z,_⟩
  . exact W.Looks.of_pure rfl
  . cases z
 |false=>
  refine W.kat_kind (T:=.type "str") f1 (by omega) (λv hv=>?_) rfl ⟨rfl,fin⟩;rcases f3 v hv with⟨z,_⟩|⟨_,x,tk,rfl⟩
  . cases z
  . exact W.Looks.of_pure rfl
end
def pR (K:PySem.W.Frag) (P:Addr) (J:Pos) (qual:Str) (te:TE) (σ:St) (Q:VK):VK:=λx H1=>∃a xs,x=.ref a/\eG K H1 a xs/\xs.length<64/\eQ P J qual H1/\
 ∀c' H2,lQ P J qual c' H2->(∀b o,b≠P->H1 b=some o->H2 b=some o)->
 ∃W:List V->Hp->Prop,W [] H2/\(∀ks z,W ks z->lQ P J qual c' z)/\(∀ks z y,W ks z->xs[ks.length]? =some y->te (some y::σ) z λk L=>W (ks++[k]) L)/\
 ∀ks z,W ks z->ks.length=xs.length->∃I,lW z ks I/\zK I/\∀p:List Nat,p.Perm (List.range xs.length)->(p.map λi=>I.getD i []).Pairwise lV->∀D,z D=none->Q (.ref D) (upd z D (.lst (p.map λi=>xs.getD i .non)))
def Fg (K:W.Frag) (P:Addr) (z:Pos) (qual:Str) (tl te:TE):TE:=λσ H Q=>tl σ H (pR K P z qual te σ Q)
section
variable {X:Cx}
theorem pS {x:Str}{N':List Str}{l body:Expr}{L:Arguments}{scope:Scope}{lp kp p pos:Pos}{qual:Str}{c P:Addr}{tl te:TE}{k:Nat}(hg:Gl X "sorted")(hm:X.mg "sorted"=none)(hv:bootBuiltins "sorted"=some (.builtin "sorted"))(hr:fy k X.A)(hq:X.env.qual++"<lambda>"=qual)(Y:X.env.code=.ref c)(C:PySem.W.CodeHd X.base c P)
 (B:BM X.mg X.base) (S:ki X x N' scope) (ab:defaultsOf L X.env=([],[])) (hb:∀(cl:List (Str × Addr)) (pm:Value) (c':Addr) (U u:Value),bindArgs (PySem.W.kla_fn "<lambda>" qual L body scope cl pm (.ref c') U) ⟨[u],[]⟩=pure [(x,u)])
 (hl:PE X l tl) (he:∀(cl:List (Str × Addr)) (f c':Addr) (s:Shared) (H:Hp),PE (pN X x N' scope cl qual f c' s H) body te) (hs:starEach [l] X.env=[(false,eval l X.env)]:=by rfl):
 PE X (.Call (.Name "sorted" p) [l] [⟨some "key",.Lambda L body scope lp,kp⟩] pos) (Fg X.K P lp qual tl te):=by
 intro pins s σ H Q I h;refine wpAny_Call_Name_kw (kG I hg hm hv ?_);have ha:PA X [l] (gp tl g8):=a_ hl c_ (by rw[hs];rfl);refine callWith_kw (eU (ha pos pins s σ H (λvs H1=>match vs with|[x]=>pR X.K P lp qual te σ Q x H1|_=>False) I h) λus s1 zq=>?_) (by rw[hs];rfl) (by rw[hs];rfl);obtain⟨vs,H1,I1,r1,q1⟩:=zq
 obtain⟨x',rfl⟩:∃x',vs=[x']:=by
  match vs,q1 with
  |[x'],_=>exact⟨x',rfl⟩
 have q1:pR X.K P lp qual te σ Q x' H1:=q1;obtain⟨a,xs,rfl,ag,ah,T,cont⟩:=q1;obtain⟨u,rfl,ru⟩:=vals1 r1
 cases ru;show wpAny _ _ (evalAll [do let v <-eval (.Lambda L body scope lp) X.env;standAt pos;pure v]) _ _ s1;obtain⟨cl,aa,ac,ae⟩:=sg (scope:=scope) (env:=X.env) λy hy hf=>I1.ok.has y.1 (S.free y hy hf);refine wpAny_evalAll_cons (Q0 (PySem.W.kla_eval ab ?_));rw[hq];refine EZ I1 Y C B T aa λf c' pm U H2 s2 I2 ai mono=>?_;refine Q0 (wpAny_standAt (Q09 (wpAny_evalAll_nil ?_)));show wpAny _ _ (call (.builtin "sorted") [.ref a] [(Str.ofString "key",.ref f)]) _ _ s2;obtain⟨W,w0,wL,wt,wf⟩:=cont c' H2 ai mono
 have aj:∃ps,H1 P=some (.gq ps):=by
  rcases T with e|⟨al,e,_⟩
  . exact⟨_,e⟩
  . exact⟨_,e⟩
 have ak:eG X.K H2 a xs:=by
  obtain⟨ps,hP⟩:=aj;rcases ag with(z|⟨o,z⟩)|z
  . exact .inl (.inl (mono a _ (gz z hP (by intro z;cases z)) z))
  . exact .inl (.inr ⟨o,mono a _ (gz z hP (by intro z;cases z)) z⟩)
  . exact .inr z
 refine eU (E8 (Q:=Q) (W:=W) I2 ak ah w0 (λpl s' H' ks y u J wk hy ry=>?_) λpl s' H' ks us J wk af rk=>?_) λr s' ⟨v,H',J,rv,q⟩=>⟨v,H',J.kK,rv,q⟩
 . exact E1 J S hr.hd hr.depth ac ae (Q0r _ (Q05 _ Q0b)) (wL ks H' wk).2 (hb cl pm c' U) ry (he cl f c') (wt ks H' y wk hy)
 . obtain⟨am,k1,k2,k3⟩:=wf ks H' wk af;exact⟨pQ,_,Ff J rk k1 k2,λp p1 p2 D hD=>k3 p p1 p2 D hD⟩
end
noncomputable def ow (K:W.Frag) (a b:Addr):It:=
 ⟨λi H=>∃xs ys x y,eG K H a xs/\eG K H b ys/\xs[i]? =some x/\ys[i]? =some y,
  λi H v H'=>∃p x y,H p=none/\v=.ref p/\(∀xs,eG K H a xs->xs[i]? =some x)/\(∀ys,eG K H b ys->ys[i]? =some y)/\H'=upd H p (.tup [x,y]),
  λi H=>∃xs ys,eG K H a xs/\eG K H b ys/\(xs.length<=i\/ys.length<=i)⟩
theorem Fh {P:Program}{w:World}{K:W.Frag}{ai:List Expr}{k:Nat}{tpos:Pos}{z TI TO J L l1 l2:Addr}(D:ZipApart z TI TO J L l1 l2):
 Turn P w K (.Tuple ai k tpos) (ow K l1 l2) [z,TI,TO,J,L] z (λi h=>∃oa ob,IsZip h z TI TO .none/\IsPair h TI (.ref J) (.ref L)/\IsPair h TO oa ob/\h.IsListIter J l1 i/\h.IsListIter L l2 i) where
 mem:=by simp
 obj:=λi h st b U=>by
  obtain⟨oa,ob,h1,h2,h3,h4,h5⟩:=st;have U:b=z\/b=TI\/b=TO\/b=J\/b=L:=by simpa using U
  rcases U with rfl|rfl|rfl|rfl|rfl
  . exact⟨_,h1,λv y=>by
     have y:Data.fields _=Data.cell v:=y
     cases y⟩
  . exact⟨_,h2,λv y=>by
     have y:Data.seq _ _=Data.cell v:=y
     cases y⟩
  . exact⟨_,h3,λv y=>by
     have y:Data.seq _ _=Data.cell v:=y
     cases y⟩
  . obtain⟨o,q,c,d⟩:=h4;exact⟨o,q,λv y=>by rw[d] at y;cases y⟩
  . obtain⟨o,q,c,d⟩:=h5;exact⟨o,q,λv y=>by rw[d] at y;cases y⟩
 keep:=λi h h' st k=>by
  obtain⟨oa,ob,h1,h2,h3,h4,h5⟩:=st;exact⟨oa,ob,k z (by simp) _ h1,k TI (by simp) _ h2,k TO (by simp) _ h3,h4.at λo q=>k J (by simp) o q,h5.at λo q=>k L (by simp) o q⟩
 item:=by
  intro X hP hw hK hc i pins s σ H E I Y st hg;subst hP hw hK;obtain⟨oa,ob,h1,h2,h3,h4,h5⟩:=st;obtain⟨xs,ys,x,y,aa,ab,hx,hy⟩:=hg;obtain⟨aj,ae,p1,am⟩:=I.list aa;obtain⟨ak,af,p2,an⟩:=I.list ab;obtain⟨u1,ao,ap⟩:=ae.get hx;obtain⟨u2,aq,ar⟩:=af.get hy;have fr:H s.heap.objs.size=none:=I.hok.fresh (Q00 _);refine wpAny_pyNext_zip_item D h1 h2 h3 h4 h5 p1.isList p2.isList (x:=u1) (y:=u2) (by simpa using ao) (by simpa using aq) λh' q1 q2 q3 q4 q5 q6 q7=>?_;refine⟨_,rfl,wpAny_letOwnedTupleGo_zip (s:={ s with heap:=h' }) q1 λac g1 g2=>?_⟩
  have au:∀b∈[z,TI,TO,J,L],b<s.heap.objs.size:=λb U=>by
   have U:b=z\/b=TI\/b=TO\/b=J\/b=L:=by simpa using U
   rcases U with rfl|rfl|rfl|rfl|rfl
   . exact Q01 h1
   . exact Q01 h2
   . exact Q01 h3
   . obtain⟨o,q,_⟩:=h4;exact Q01 q
   . obtain⟨o,q,_⟩:=h5;exact Q01 q
  have av:∀b o,s.heap.get? b=some o->b≠s.heap.objs.size:=λb o q=>Q07 (Q01 q);have kk:∀b o,b≠z->b≠TO->b≠J->b≠L->s.heap.get? b=some o->ac.get? b=some o:=λb o n1 n2 n3 n4 q=>g2.extBut b o n1 (q7 b o n1 n2 n3 n4 q);have kn:∀b o,b ∉ [z,TO,J,L]->s.heap.get? b=some o->ac.get? b=some o:=λb o n q=>kk b o (λy=>n (by simp[y])) (λy=>n (by simp[y])) (λy=>n (by simp[y])) (λy=>n (by simp[y])) q;have tup:ac.get? s.heap.objs.size=some { cls:=.type "tuple",data:=.seq #[u1,u2] }:=g2.extBut _ _ (Q0q (Q01 h1)) q5
  have I1:Inv X pins σ (upd H s.heap.objs.size (.tup [x,y])) { s with heap:=ac }:=by
   refine I.step (g':=s.gens) (d':=s.drawn) (t':=s.toks) (ch:=[z,TO,J,L]) (λb U=>?_) (λb o _ _ hc q _=>kn b o hc q) (λb o _ _ hc q _=>⟨o.slots,kn b o hc q⟩) (λb o _ q n=>?_) (λb o hc q=>⟨o,kn b o hc q⟩) (λb ws q=>?_) (λb o v q=>?_) (λb ps q=>?_) (λm hm=>?_) (λb o q=>?_) I.bare
   . have ag:b∈[z,TI,TO,J,L]:=by
      have U:b=z\/b=TO\/b=J\/b=L:=by simpa using U
      rcases U with rfl|rfl|rfl|rfl <;> simp
     obtain⟨f0,f1,f2,f3,f4,f5⟩:=Y b ag;exact⟨f3,f1,f4,f5⟩
   . rw[d_ (av b o q)];exact n
   . rw[d_ (eM q fr)];exact q
   . rw[d_ (eM q fr)];exact q
   . exact⟨#[],by rw[d_ (eM q fr),q];simp⟩
   . obtain⟨o,es,ep,ho,r⟩:=hm;exact⟨o,es,ep,kk _ o (Ne.symm (Y z (by simp)).2.1) (Ne.symm (Y TO (by simp)).2.1) (Ne.symm (Y J (by simp)).2.1) (Ne.symm (Y L (by simp)).2.1) ho,r⟩
   . by_cases U:b=s.heap.objs.size
     . subst U;rw[eK] at q;cases q;exact⟨vp,[u1,u2],.cons ap (.cons ar .nil),⟨_,tup,rfl,_,rfl⟩⟩
     . rw[d_ U] at q
       have nn:∀c v,H c=some v->c ∉ [z,TO,J,L]:=λc v e hm=>by
        have aw:c∈[z,TI,TO,J,L]:=by
         have hm:c=z\/c=TO\/c=J\/c=L:=by simpa using hm
         rcases hm with rfl|rfl|rfl|rfl <;> simp
        have:=(Y c aw).1;rw[e] at this;cases this
       refine(I.hok b o q).stay (λc v ah y=>kn c v ?_ y) (λc y=>by rw[d_ (eM y fr)];exact y) λc ws y=>by rw[d_ (eM y fr)];exact y
       rcases ah with y|y
       . rw[y];exact nn b o q
       . exact nn c _ y
  refine⟨.ref s.heap.objs.size,_,I1,rfl,⟨s.heap.objs.size,x,y,fr,rfl,λws hw=>by rw[I.pf hw aa];exact hx,λws hw=>by rw[I.pf hw ab];exact hy,rfl⟩,⟨u1,u2,g1,?_,?_,?_,?_⟩,λb U=>?_⟩
  . exact kk TI _ D.TIz D.TITO D.TIi1 D.TIi2 h2
  . exact g2.extBut _ _ D.TOz q2
  . exact q3.at λo q=>g2.extBut _ _ D.i1z q
  . exact q4.at λo q=>g2.extBut _ _ D.i2z q
  . rw[d_ (Q07 (au b U))];exact(Y b U).1
 done:=by
  intro X hP hw hK hc i pins s σ H E I Y st hg;subst hP hw hK;obtain⟨oa,ob,h1,h2,h3,h4,h5⟩:=st;obtain⟨xs,ys,aa,ab,al⟩:=hg;obtain⟨aj,ae,p1,am⟩:=I.list aa;obtain⟨ak,af,p2,an⟩:=I.list ab;have e1:=ae.length;have e2:=af.length
  refine wpAny_pyNext_zip_end (I.ok.hd hc) D h1 h2 h3 h4 h5 p1.isList p2.isList (by
   rcases al with q|q
   . exact .inl (by simp;omega)
   . exact .inr (by simp;omega)) λh' hk=>⟨rfl,?_⟩
  refine I.step (g':=s.gens) (d':=s.drawn) (t':=s.toks) (ch:=[z,TO,J,L]) (λb U=>?_) (λb o _ _ hc q _=>?_) (λb o _ _ hc q _=>?_) (λb o _ q n=>n) (λb o hc q=>?_) (λb ys q=>q) (λb o v q=>q) (λb ps q=>⟨#[],by rw[q];simp⟩) (λm hm=>?_) (λb o q=>?_) I.bare
  . have ag:b∈[z,TI,TO,J,L]:=by
     have U:b=z\/b=TO\/b=J\/b=L:=by simpa using U
     rcases U with rfl|rfl|rfl|rfl <;> simp
    obtain⟨f0,f1,f2,f3,f4,f5⟩:=Y b ag;exact⟨f3,f1,f4,f5⟩
  . exact hk b o (λy=>hc (by simp[y])) (λy=>hc (by simp[y])) (λy=>hc (by simp[y])) (λy=>hc (by simp[y])) q
  . exact⟨o.slots,hk b o (λy=>hc (by simp[y])) (λy=>hc (by simp[y])) (λy=>hc (by simp[y])) (λy=>hc (by simp[y])) q⟩
  . exact⟨o,hk b o (λy=>hc (by simp[y])) (λy=>hc (by simp[y])) (λy=>hc (by simp[y])) (λy=>hc (by simp[y])) q⟩
  . obtain⟨o,es,ep,ho,r⟩:=hm;exact⟨o,es,ep,hk _ o (Ne.symm (Y z (by simp)).2.1) (Ne.symm (Y TO (by simp)).2.1) (Ne.symm (Y J (by simp)).2.1) (Ne.symm (Y L (by simp)).2.1) ho,r⟩
  . have nn:∀c v,H c=some v->∀y∈[z,TI,TO,J,L],c≠y:=λc v e y hy=>eM e (Y y hy).1;refine(I.hok b o q).stay (λc v ah y=>hk c v ?_ ?_ ?_ ?_ y) (λ_ y=>y) λ_ _ y=>y <;> (rcases ah with y|y)
    all_goals first
     |(rw[y];exact nn b o q _ (by simp))
     |exact nn c _ y _ (by simp)
 self:=λA i s Q E st q=>by
  obtain⟨oa,ob,h1,_⟩:=st;exact wpAny_pyIter_zip h1 q
def Fi (K:W.Frag) (ta:TA):TI:=λσ H R=>ta σ H λvs H1=>∃a b,vs=[.ref a,.ref b]/\(∃xs,eG K H1 a xs)/\(∃ys,eG K H1 b ys)/\R (ow K a b) H1
section
variable {X:Cx}
theorem sG {aa:List Expr}{k:Nat}{tpos:Pos}{a b:Expr}{ta:TA}{p pos:Pos}(hg:Gl X "zip")(hm:X.mg "zip"=none)(ha:PA X [a,b] ta)(hs:starEach [a,b] X.env=[(false,eval a X.env),(false,eval b X.env)]:=by rfl)
 (Y:starEach [b] X.env=[(false,eval b X.env)]:=by rfl):PI X (.Tuple aa k tpos) (.Call (.Name "zip" p) [a,b] [] pos) (Fi X.K ta):=by
 intro pins s σ H R I h;refine Call_ (kG I hg hm boot_zip (PyProof.Rows.callWith_type1 (eU (ha pos pins s σ H _ I h) λus J zq=>?_) (by rw[hs,Y]) (by rw[Y];rfl)));obtain⟨vs,H1,U,r1,q1⟩:=zq;obtain⟨l1,l2,e,⟨xs,ab⟩,⟨ys,ac⟩,q⟩:=q1;subst e;obtain⟨u1,u2,rfl,ae,af⟩:=vals2 r1
 cases ae
 cases af;obtain⟨ag,ai,p1,aj⟩:=U.list ab;obtain⟨ah,ak,p2,al⟩:=U.list ac;have a1:l1<J.heap.objs.size:=by obtain⟨_,e,_⟩:=p1.isList;exact Q01 e
 have a2:l2<J.heap.objs.size:=by obtain⟨_,e,_⟩:=p2.isList;exact Q01 e
 refine call_zip_2 p1.isList p2.isList λh' q1 q2 q3 q4 q5 q6 q7=>?_;refine wpAny_pyIter_zip q1 ?_;have I2:Inv X pins σ H1 { J with heap:=h' }:=U.kept (t':=J.toks) q7
 have Dz:ZipApart (J.heap.objs.size+4) (J.heap.objs.size+2) (J.heap.objs.size+3) J.heap.objs.size (J.heap.objs.size+1) l1 l2:=by
  have b1:@LT.lt Nat _ l1 J.heap.objs.size:=a1;have b2:@LT.lt Nat _ l2 J.heap.objs.size:=a2;constructor <;> (intro z;have z':(_:Nat)=_:=z;omega)
 refine⟨J.heap.objs.size+4,[J.heap.objs.size+4,J.heap.objs.size+2,J.heap.objs.size+3,J.heap.objs.size,J.heap.objs.size+1],_,_,H1,rfl,I2,Fh Dz,⟨.none,.none,q1,q2,q3,q4,q5⟩,λb L=>?_,q⟩
 have L:J.heap.objs.size<=b:=by
  have L:b=J.heap.objs.size+4\/b=J.heap.objs.size+2\/b=J.heap.objs.size+3\/b=J.heap.objs.size\/b=J.heap.objs.size+1:=by simpa using L
  rcases L with z|z|z|z|z <;> rw[z]
  . exact Q1h _ _
  . exact Q1h _ _
  . exact Q1h _ _
  . exact Q00 _
  . exact Q1h _ _
 exact U.lD L (U.hok.fresh L)
end
end L2
namespace HT
open PyProof.Rows L2
section
open SeqAt
open PySem.AutoSeq1 (wpAny_loadPart')
open MeetsSeq MeetsSeq2 MeetsSeq3
inductive KeysAre:List Value->List Key->Prop
 |nil:KeysAre [] []
 |cons {u:Value} {k:Key} {us:List Value} {ks:List Key}:RelV (kV k) u->KeysAre us ks->KeysAre (u::us) (k::ks)
theorem KeysAre.of:∀{ks:List Key}{us:List Value},Vals (ks.map kV) us->KeysAre us ks
 |[],_,r=>by cases r;exact .nil
 |k::ks,_,r=>by
  cases r with
  |cons a b=>exact .cons a (KeysAre.of b)
theorem KeysAre.length:∀{us:List Value}{ks:List Key},KeysAre us ks->us.length=ks.length
 |_,_,.nil=>rfl
 |_,_,.cons _ h=>by rw[Q0g,Q0g,h.length]
theorem Fj (A:Around)(s:Shared){k j:Key}{u v:Value}(r:RelV (kV k) u)(q:RelV (kV j) v)(ht:gE k=gE j):∃e,SeqAt.EqAt A s u v e/\(e=true↔k=j):=by
 rcases lX r with⟨m,t,rfl,rfl⟩|⟨m,t,rfl,rfl⟩ <;> rcases lX q with⟨n,t',rfl,rfl⟩|⟨n,t',rfl,rfl⟩
 . exact⟨m == n,SeqAt.EqAt.int_int m t n t',by simp⟩
 . cases ht
 . cases ht
 . exact⟨m == n,SeqAt.EqAt.str_str m t n t',by simp⟩
theorem Fk (A:Around)(s:Shared){k j:Key}{u v:Value}(r:RelV (kV k) u)(q:RelV (kV j) v)(ht:gE k=gE j)(prog:Program)(w:World)(E:Value->Shared->Prop)(Q:Value->Shared->Prop)(h:Q (.bool (!ir j k)) s):
 wpAny (model prog w) A (richCompare .LtE u v) Q E s:=by
 rcases lX r with⟨m,t,rfl,rfl⟩|⟨m,t,rfl,rfl⟩ <;> rcases lX q with⟨n,t',rfl,rfl⟩|⟨n,t',rfl,rfl⟩
 . have e:(!ir (.inl n) (.inl m))=decide (m<=n):=by
    show(!decide (n<m))=decide (m<=n);rw[<-decide_not];exact decide_eq_decide.mpr Int.not_lt
   rw[e] at h;exact(PyProof.Rows.le_int h:wpAny (model prog w) A (compareOp .LtE (.int m t) (.int n t')) Q E s)
 . cases ht
 . cases ht
 . exact(PySem.P.le_str h:wpAny (model prog w) A (compareOp .LtE (.str m t) (.str n t')) Q E s)
theorem Fl (l b:Addr)(I z:Array Value)(n n2:Nat)(dd ai:Option Addr)(sl aj:Array (Option Value))(ns ms:List Key)(hi:KeysAre I.toList ns)(hj:KeysAre z.toList ms)(ht:ns.map gE=ms.map gE):
 Meets (Builtin.«tuple.__le__» ⟨[.ref l,.ref b],[]⟩)
  (λ_ R s=>s.heap.get? l=some { cls:=.type "tuple",dict:=dd,data:=.seq I n,slots:=sl }/\s.heap.get? b=some { cls:=.type "tuple",dict:=ai,data:=.seq z n2,slots:=aj }/\
    R (.ok (.ret (.bool (!gC ms ns)))) s):=
 .of_wp λprog w A R s h=>by
   obtain⟨hp,g,d,tk,os⟩:=s;obtain⟨hl,hb,h⟩:=h;have f2:=AutoSeq1.sub_tuple_tuple;have z1:I.size=ns.length:=by rw[<-hi.length];simp
   have z2:z.size=ms.length:=by rw[<-hj.length];simp
   have z3:ns.length=ms.length:=by have:=congrArg List.length ht;simpa using this
   wp_walk using wpAny_loadPart' hl,wpAny_loadPart' hb,wpAny_forIn_list _ (λrest b s'=>b.1=none/\s'=⟨hp,g,d,tk,os⟩/\∃(vs ws:List Value) (L U:List Key),rest=vs.zip ws/\
    KeysAre vs L/\KeysAre ws U/\L.map gE=U.map gE/\R (.ok (.ret (.bool (!gC U L)))) ⟨hp,g,d,tk,os⟩) _
   case turn=>
    rintro⟨y,x⟩ rest b s' ⟨ac,rfl,vs,ws,L,U,Y,ae,aa,J,hR⟩
    cases ae with
    |nil=>rw[List.zip_nil_left] at Y;cases Y
    |cons a ag=>
     cases aa with
     |nil=>rw[List.zip_nil_right] at Y;cases Y
     |cons c ah=>
      rw[Q32] at Y;injection Y with ak af
      injection ak with hy hx
      subst hy hx;rw[ou] at hR;have t1:=(List.cons.inj J).1;have t2:=(List.cons.inj J).2;obtain⟨e,he,ab⟩:=Fj A.in1 ⟨hp,g,d,tk,os⟩ a c t1;refine Q0 (he prog w _ _ ?_)
      cases e with
      |true=>
       rw[if_pos (ab.mp rfl).symm] at hR
       wp_walk
       exact⟨rfl,rfl,_,_,_,_,af,ag,ah,t2,hR⟩
      |false=>
       rw[if_neg (λq=>absurd (ab.mpr q.symm) Bool.false_ne_true)] at hR;have al:=Fk A.in1 ⟨hp,g,d,tk,os⟩ a c t1 prog w
       wp_walk using al
       exact⟨_,rfl,by simpa using hR⟩
   case fin=>
    rintro⟨b1,b2⟩ s' ⟨ac,rfl,vs,ws,L,U,Y,ae,aa,J,hR⟩;simp only at ac;subst ac
    have hv:(!gC U L)=decide (I.size<=z.size):=by
     cases ae with
     |nil=>
      cases aa with
      |nil=>exact(decide_eq_true (by omega)).symm
      |cons c hw=>cases J
     |cons a hv=>
      cases aa with
      |nil=>cases J
      |cons c hw=>
       rw[Q32] at Y
       cases Y
    rw[hv] at hR
    wp_walk
    exact⟨_,rfl,by simpa[Builtin.Tuple.tupleCompareSizes] using hR⟩
   case h=>
    exact⟨rfl,rfl,I.toList,z.toList,ns,ms,rfl,hi,hj,ht,h⟩
end
section
variable {prog:Program}{w:World}{A:Around}{E:Value->Shared->Prop}{s:Shared}
theorem Fm {l b:Addr}{I z:Array Value}{ns ms:List Key}{Q:Value->Shared->Prop}(hl:IsTup s.heap l I)(hb:IsTup s.heap b z)(hi:KeysAre I.toList ns)(hj:KeysAre z.toList ms)(ht:ns.map gE=ms.map gE)
 (hu:A.units<cLine) (h:Q (.bool (!gC ms ns)) s):wpAny (model prog w) A (compareOp .LtE (.ref l) (.ref b)) Q E s:=by
 obtain⟨⟨cls,dd,data,sl⟩,ho,hc,n,hd⟩:=id hl;obtain⟨⟨ab,Y,data2,aa⟩,J,L,n2,U⟩:=id hb;simp only at hc hd L U;subst hc hd L U
 exact richCompare_meets_room (op:=.LtE) ⟨_,ho,rfl⟩ ⟨_,J,rfl⟩ PySem.F.slot_tuple_le PySem.F.entry_tuple_le (PySem.F.args_tuple_le_2 _ _) (Fl l b I z n n2 dd Y sl aa ns ms hi hj ht)
  ⟨ho,J,show Value.bool (!gC ms ns)≠Value.notImplemented/\Q (.bool (!gC ms ns)) s from⟨(λx=>nomatch x),h⟩⟩ hu
end
end HT
namespace L2
open Spec PyProof.Rows
section
variable {X:Cx}
def Fn (K:W.Frag):R2:=λx y H Q=>∃a b ns ms,x=.ref a/\y=.ref b/\eB K H a (ns.map kV)/\eB K H b (ms.map kV)/\ns.map gE=ms.map gE/\Q (.bl (!gC ms ns)) H
theorem zN (J:X.A.units<cLine):gA X (compareOp .LtE) (Fn X.K):=by
 intro pins s σ H x y v u Q I L U h;obtain⟨a,b,ns,ms,rfl,rfl,Y,hb,ht,q⟩:=h
 cases L
 cases U;obtain⟨aa,r1,p1,_⟩:=I.tuple Y;obtain⟨z,r2,p2,_⟩:=I.tuple hb;exact HT.Fm p1 p2 (by simpa using HT.KeysAre.of r1) (by simpa using HT.KeysAre.of r2) ht J ⟨.bl (!gC ms ns),H,I,rfl,q⟩
end
inductive iJ (K:W.Frag) (H:Hp):Nat->V->V->Bool->Prop
 |ref {n:Nat} (a:Addr):iJ K H n (.ref a) (.ref a) true
 |int {n:Nat} (a b:Int):iJ K H n (.int a) (.int b) (decide (a=b))
 |str {n:Nat} (a b:Str):iJ K H n (.str a) (.str b) (decide (a=b))
 |is {n:Nat} (a:Int) (b:Str):iJ K H n (.int a) (.str b) false
 |si {n:Nat} (a:Str) (b:Int):iJ K H n (.str a) (.int b) false
 |lst {n:Nat} {a b:Addr} {xs ys:List V} {e:Nat->Bool} (ne:a≠b) (ha:eG K H a xs) (hb:eG K H b ys) (hl:xs.length=ys.length) (he:∀(j:Nat) (x y:V),xs[j]? =some x->ys[j]? =some y->iJ K H n x y (e j)):
   iJ K H (n+1) (.ref a) (.ref b) ((List.range xs.length).all e)
 |tup {n:Nat} {a b:Addr} {xs ys:List V} {e:Nat->Bool} (ne:a≠b) (ha:eB K H a xs) (hb:eB K H b ys) (he:∀(j:Nat) (x y:V),xs[j]? =some x->ys[j]? =some y->iJ K H n x y (e j)):
   iJ K H (n+1) (.ref a) (.ref b) ((List.range (min xs.length ys.length)).all e && xs.length == ys.length)
section
variable {X:Cx}{pins:List (Addr × Obj)}{σ:St}{H:Hp}{s:Shared}
theorem Vals.at:∀{xs:List V}{us:List Value},Vals xs us->∀(j:Nat) (h:j<us.length),∃x,xs[j]? =some x/\RelV x us[j]
 |_,_,.nil,j,h=>absurd h (by simp)
 |_,_,.cons a r,0,h=>⟨_,rfl,a⟩
 |_,_,.cons a r,j+1,h=>by
  obtain⟨x,h1,h2⟩:=Vals.at r j (by simpa using h);exact⟨x,by simpa using h1,h2⟩
theorem iJ.pT (I:Inv X pins σ H s){n:Nat}{x y:V}{b:Bool}(h:iJ X.K H n x y b):∀(A:Around) (u v:Value),RelV x u->RelV y v->A.units+n<cLine->SeqAt.EqAt A s u v b:=by
 induction h with
 |ref a=>
  intro A u v J L hu
  cases J
  cases L;exact SeqAt.EqAt.same _
 |int a b=>
  intro A u v J L hu;obtain⟨t,rfl⟩:=J;obtain⟨t',rfl⟩:=L;exact SeqAt.EqAt.int_int a t b t'
 |str a b=>
  intro A u v J L hu;obtain⟨t,rfl⟩:=J;obtain⟨t',rfl⟩:=L
  have e:decide (a=b)=(a == b):=by
   by_cases z:a=b
   . rw[decide_eq_true z,z];simp
   . rw[decide_eq_false z];exact(beq_eq_false_iff_ne.mpr z).symm
  rw[e];exact SeqAt.EqAt.str_str a t b t'
 |is a b=>
  intro A u v J L hu;obtain⟨t,rfl⟩:=J;obtain⟨t',rfl⟩:=L;exact SeqAt.EqAt.int_str a t b t'
 |si a b=>
  intro A u v J L hu;obtain⟨t,rfl⟩:=J;obtain⟨t',rfl⟩:=L;exact SeqAt.EqAt.str_int a t b t'
 |@lst n a b xs ys e ne ha hb hl he ih=>
  intro A u v J L hu
  cases J
  cases L;obtain⟨Y,r1,p1,_⟩:=I.list ha;obtain⟨U,r2,p2,_⟩:=I.list hb;have l1:=r1.length;have l2:=r2.length;refine .of_refs ne ?_;have q:xs.length=Y.toArray.size:=by rw[Q04];exact l1
  rw[q];refine SeqAt.RcAt.lists p1.isList p2.isList (by rw[Q04,Q04];omega) (by omega) λj h1 h2=>?_;obtain⟨x',e1,q1⟩:=Vals.at r1 j (by simpa using h1);obtain⟨y',e2,q2⟩:=Vals.at r2 j (by simpa using h2);refine ih j x' y' e1 e2 _ _ _ (by simpa using q1) (by simpa using q2) ?_;show A.units+1+n<cLine;omega
 |@tup n a b xs ys e ne ha hb he ih=>
  intro A u v J L hu
  cases J
  cases L;obtain⟨Y,r1,p1,_⟩:=I.tuple ha;obtain⟨U,r2,p2,_⟩:=I.tuple hb;have l1:=r1.length;have l2:=r2.length;refine .of_refs ne ?_;have q:xs.length=Y.toArray.size:=by rw[Q04];exact l1
  have q':ys.length=U.toArray.size:=by rw[Q04];exact l2
  rw[q,q'];refine SeqAt.RcAt.tuples p1 p2 (by omega) λj h1 h2=>?_;obtain⟨x',e1,q1⟩:=Vals.at r1 j (by simpa using h1);obtain⟨y',e2,q2⟩:=Vals.at r2 j (by simpa using h2);refine ih j x' y' e1 e2 _ _ _ (by simpa using q1) (by simpa using q2) ?_;show A.units+1+n<cLine;omega
def pU (K:W.Frag) (H:Hp) (n:Nat) (xs ys:List V) (e:Nat->Bool):Prop:=∀(j:Nat) (x y:V),xs[j]? =some x->ys[j]? =some y->iJ K H n x y (e j)
def zO (K:W.Frag) (n:Nat):R2:=λx y H Q=>∃a b xs ys e,x=.ref a/\y=.ref b/\pU K H n xs ys e/\
 ((eG K H a xs/\eG K H b ys/\((xs.length=ys.length/\Q (.bl ((List.range xs.length).all e)) H)\/(xs.length≠ys.length/\Q (.bl false) H)))\/
  (eB K H a xs/\eB K H b ys/\Q (.bl ((List.range (min xs.length ys.length)).all e && xs.length == ys.length)) H))
theorem Fo {n:Nat}(hu:X.A.units+1+n<cLine):gA X (compareOp .Eq) (zO X.K n):=by
 intro pins s σ H x y v u Q I rx ry h;obtain⟨a,b,xs,ys,e,rfl,rfl,hd,h⟩:=h
 cases rx
 cases ry;rcases h with⟨ha,hb,h⟩|⟨ha,hb,q⟩
 . obtain⟨L,U,p1,_⟩:=I.list ha;obtain⟨J,Y,p2,_⟩:=I.list hb;have l1:=U.length;have l2:=Y.length;rcases h with⟨hl,q⟩|⟨hl,q⟩
   . have z:xs.length=L.toArray.size:=by rw[Q04];exact l1
     rw[z] at q;refine SeqAt.eq_listAt (e:=e) p1.isList p2.isList (by rw[Q04,Q04];omega) (by omega) (λj h1 h2=>?_) ⟨.bl _,H,I,rfl,q⟩;obtain⟨x',e1,q1⟩:=Vals.at U j (by simpa using h1);obtain⟨y',e2,q2⟩:=Vals.at Y j (by simpa using h2);refine(hd j x' y' e1 e2).pT I _ _ _ (by simpa using q1) (by simpa using q2) ?_;show X.A.units+1+n<cLine;omega
   . refine SeqAt.eq_list_lengthsAt p1.isList p2.isList ?_ (by omega) ⟨.bl false,H,I,rfl,q⟩;rw[Q04,Q04];simp;omega
 . obtain⟨L,U,p1,_⟩:=I.tuple ha;obtain⟨J,Y,p2,_⟩:=I.tuple hb;have l1:=U.length;have l2:=Y.length;have z:xs.length=L.toArray.size:=by rw[Q04];exact l1
   have z':ys.length=J.toArray.size:=by rw[Q04];exact l2
   rw[z,z'] at q;refine SeqAt.eq_tupleAt (e:=e) p1 p2 (by omega) (λj h1 h2=>?_) ⟨.bl _,H,I,rfl,q⟩;obtain⟨x',e1,q1⟩:=Vals.at U j (by simpa using h1);obtain⟨y',e2,q2⟩:=Vals.at Y j (by simpa using h2);refine(hd j x' y' e1 e2).pT I _ _ _ (by simpa using q1) (by simpa using q2) ?_;show X.A.units+1+n<cLine;omega
def Fp (K:W.Frag) (n:Nat):R2:=λx y H Q=>∃a b xs ys e,x=.ref a/\y=.ref b/\pU K H n xs ys e/\
 ((eG K H a xs/\eG K H b ys/\((xs.length=ys.length/\Q (.bl (!(List.range xs.length).all e)) H)\/(xs.length≠ys.length/\Q (.bl true) H)))\/
  (eB K H a xs/\eB K H b ys/\Q (.bl (!((List.range (min xs.length ys.length)).all e && xs.length == ys.length))) H))
theorem Fq {n:Nat}(hu:X.A.units+1+n<cLine):gA X (compareOp .NotEq) (Fp X.K n):=by
 intro pins s σ H x y v u Q I rx ry h;obtain⟨a,b,xs,ys,e,rfl,rfl,hd,h⟩:=h
 cases rx
 cases ry;rcases h with⟨ha,hb,h⟩|⟨ha,hb,q⟩
 . obtain⟨L,U,p1,_⟩:=I.list ha;obtain⟨J,Y,p2,_⟩:=I.list hb;have l1:=U.length;have l2:=Y.length;rcases h with⟨hl,q⟩|⟨hl,q⟩
   . have z:xs.length=L.toArray.size:=by rw[Q04];exact l1
     rw[z] at q;refine(SeqAt.RcNeAt.lists (e:=e) p1.isList p2.isList (by rw[Q04,Q04];omega) (by omega) (λj h1 h2=>?_)) X.prog X.w _ _ ⟨.bl _,H,I,rfl,q⟩;obtain⟨x',e1,q1⟩:=Vals.at U j (by simpa using h1);obtain⟨y',e2,q2⟩:=Vals.at Y j (by simpa using h2);refine(hd j x' y' e1 e2).pT I _ _ _ (by simpa using q1) (by simpa using q2) ?_;show X.A.units+1+n<cLine;omega
   . refine(SeqAt.RcNeAt.lists_lengths p1.isList p2.isList ?_ (by omega)) X.prog X.w _ _ ⟨.bl true,H,I,rfl,q⟩;rw[Q04,Q04];simp;omega
 . obtain⟨L,U,p1,_⟩:=I.tuple ha;obtain⟨J,Y,p2,_⟩:=I.tuple hb;have l1:=U.length;have l2:=Y.length;have z:xs.length=L.toArray.size:=by rw[Q04];exact l1
   have z':ys.length=J.toArray.size:=by rw[Q04];exact l2
   rw[z,z'] at q;refine(SeqAt.RcNeAt.tuples (e:=e) p1 p2 (by omega) (λj h1 h2=>?_)) X.prog X.w _ _ ⟨.bl _,H,I,rfl,q⟩;obtain⟨x',e1,q1⟩:=Vals.at U j (by simpa using h1);obtain⟨y',e2,q2⟩:=Vals.at Y j (by simpa using h2);refine(hd j x' y' e1 e2).pT I _ _ _ (by simpa using q1) (by simpa using q2) ?_;show X.A.units+1+n<cLine;omega
end
def Ft (e:Addr) (l:List Env) (h h':Heap):Prop:=
 (∀b o,b ∉ frs l->b≠e->h.get? b=some o->h'.get? b=some o)/\∀b o,b≠e->h.get? b=some o->∃z,h'.get? b=some { o with slots:=z }
theorem sH {f:Array Value->Array Value}{o:Obj}{vs:Array Value}(h:o.data=.fields vs):Obj.mapFields f o={ o with data:=.fields (f vs) }:=by
 obtain⟨c,d,z,I⟩:=o;have h:z=.fields vs:=h;subst h;rfl
section
variable {M:Model}{A:Around}{E:Value->Shared->Prop}{s:Shared}
theorem zP {base:Heap}{env:Env}{outer:List Env}{L e:Addr}{I:Obj}{vs:Array Value}{head:Value}{ac:Bool}{Q:Unit->Shared->Prop}
 (ae:A.frames=some (env::outer)) (hl:s.heap.FunFrames base (env::outer)) (hf:env.frame=some L) (he:s.heap.get? e=some I) (hd:I.data=.fields vs) (hsz:1<vs.size)
 (h:∀(h':Heap) (T:Addr),s.heap.objs.size<=T->Ft e (env::outer) s.heap h'->h'.get? e=some { I with data:=.fields (vs.setIfInBounds 1 (.ref T)) }->(∃oT ts,h'.get? T=some oT/\oT.data=.fields ts/\ts[3]? =some (rawInt L))->Q () { s with heap:=h' }):
 wpAny M A (do let a <-frameOf env;let pl <-entryPlaceOf L ac;let b <-EntryCells.newEntry head a .none (rawInt L) .none pl;setField (.ref e) 1 b) Q E s:=by
 have af:e ∉ (env::outer).filterMap (·.frame):=λz=>by
  obtain⟨_,o,Y,hn⟩:=hl.mem z;rw[he] at Y
  cases Y;exact hn vs hd
 refine Q0 (wpAny_frameOf_fun ae hl hf λh1 x1=>?_);refine Q0 (wpAny_entryPlaceOf λpl aa=>?_);unfold EntryCells.newEntry newFields;refine Q0 (wpAny_newObj_type ?_ (aa.sizeOk5 _ _ _ _ _));have e1:h1.get? e=some I:=(x1.2.1 e af).trans he;generalize ab:({ cls:=.type "traceback",dict:=none,data:=.fields ([head,.ref L,.none,rawInt L,.none]++(if pl.isEmpty then List.replicate 6 Value.none else pl)).toArray }:Obj)=ob;have e2:(h1.push ob).get? e=some I:=Q08 ob e1;have ag:h1.objs.size≠e:=Q0q (Q01 e1);have U:({ I with data:=.fields (vs.setIfInBounds 1 (.ref h1.objs.size)) }:Obj).isFreed=false:=Obj.isFreed_of_fields rfl;have em:Obj.mapFields (·.setIfInBounds 1 (Value.ref h1.objs.size)) I={ I with data:=.fields (vs.setIfInBounds 1 (.ref h1.objs.size)) }:=sH hd;refine wpAny_setField e2 hd hsz (h _ h1.objs.size (Q1n x1.1.symm) ⟨λb o hb J Y=>?_,λb o J Y=>?_⟩ ?_ ?_)
 . rw[Q15 _ _ (Ne.symm J)];exact Q08 ob ((x1.2.1 b hb).trans Y)
 . obtain⟨sl,hs⟩:=x1.2.2 b o Y;refine⟨sl,?_⟩;rw[Q15 _ _ (Ne.symm J)];exact Q08 ob hs
 . have:=Q1d (Obj.mapFields (·.setIfInBounds 1 (Value.ref h1.objs.size))) e2 (by rw[em];exact U);rw[em] at this;exact this
 . refine⟨ob,_,?_,by rw[<-ab],?_⟩
   . rw[Q15 _ _ (Ne.symm ag)];exact Q0n h1 (by rw[<-ab];rfl)
   . first|(simp;done)|(rcases aa with rfl|⟨_,_,_,_,_,_,_,rfl⟩ <;> simp)
structure Tr (h:Heap) (e T:Addr) (cls fl:Value):Prop where
 ex:∃oe vs,h.get? e=some oe/\oe.cls=cls/\oe.dict=none/\oe.data=.fields vs/\vs[1]? =some (.ref T)
 tb:∃oT ts,h.get? T=some oT/\oT.data=.fields ts/\ts[3]? =some fl
 ne:T≠e
end
theorem gh.ex {P:Program}{w:World}{H:Hp}{h:Heap}{a:Addr}{o:HO}(x:gh P w H h a o):∃z,h.get? a=some z:=by
 cases o with
 |lst xs=>obtain⟨_,_,_,_,e⟩:=x;exact⟨_,e⟩
 |tup xs=>obtain⟨_,_,_,z,e,_⟩:=x;exact⟨z,e⟩
 |dK kvs=>obtain⟨_,_,_,_,z,_,_,e,_⟩:=x;exact⟨z,e⟩
 |dT kvs=>obtain⟨_,_,_,_,z,_,_,e,_⟩:=x;exact⟨z,e⟩
 |set S n=>obtain⟨z,_,_,_,e,_⟩:=x;exact⟨z,e⟩
 |ins C dx fs=>obtain⟨_,_,_,e,_⟩:=x;exact⟨_,e⟩
 |own y=>exact x
 |xd fs=>obtain⟨_,⟨z,_,_,e,_⟩,_⟩:=x;exact⟨z,e⟩
 |rng lo hi=>obtain⟨_,_,_,e⟩:=x;exact⟨_,e⟩
 |iz z u=>obtain⟨e,_⟩:=x;exact⟨_,e⟩
 |gq ps=>exact⟨_,show h.get? a=some _ from x⟩
 |met f y=>exact⟨_,show h.get? a=some _ from x⟩
 |ext I=>obtain⟨_,⟨z,e⟩,_⟩:=x;exact⟨z,e⟩
section
variable {X:Cx}{pins:List (Addr × Obj)}{σ:St}{H:Hp}{s:Shared}
theorem Heap.zQ {h:Heap}{a:Addr}(e:h.objs.size<=a):h.get? a=none:=by
 cases q:h.get? a with
 |none=>rfl
 |some o=>exact absurd (Q06 (Q01 q) e) (Q0l _)
theorem Inv.mU (I:Inv X pins σ H s)(hex:X.ex=[]){a:Addr}(e:s.heap.get? a=none):X.s₀.heap.get? a=none:=by
 cases q:X.s₀.heap.get? a with
 |none=>rfl
 |some o=>
  obtain⟨o',z⟩:=I.base.there a o q (by rw[hex];simp);rw[e] at z;cases z
theorem Inv.zR (I:Inv X pins σ H s)(hex:X.ex=[]){a T:Addr}{h':Heap}(ha:X.s₀.heap.get? a=none)(hT:X.s₀.heap.get? T=none)(na:H a=none)(nT:H T=none)
 (k1:∀b o,b ∉ frs X.stack->b≠a->b≠T->s.heap.get? b=some o->h'.get? b=some o) (k2:∀b o,b≠a->b≠T->s.heap.get? b=some o->∃sl,h'.get? b=some { o with slots:=sl }):
 Un (frs X.outer) [] X.H₀ H X.s₀.heap h'/\f9 X.prog X.w H h':=by
 have B:=I.base;rw[hex] at B
 have J:∀b o,X.s₀.heap.get? b=some o->b≠a/\b≠T/\b≠X.env.locals:=λb o e=>by
  have hb:=Q01 e;exact⟨(λz=>by rw[z,ha] at e;cases e),(λz=>by rw[z,hT] at e;cases e),λz=>Q0l _ (Q06 (z ▸ hb) I.ok.above)⟩
 refine⟨⟨λb o e n hf _=>?_,λb o e n hf _=>?_,λb o e n _=>B.free b o e n (by simp),λb o e _=>?_,B.tups,B.iQ,B.iR⟩,λb o e=>(I.hok b o e).stay (λc u hc r=>?_) (λ_ r=>r) λ_ _ r=>r⟩
 . obtain⟨U,Y,o3⟩:=J b o e;refine k1 b o (λz=>?_) U Y (B.keep b o e n hf (by simp));rcases List.mem_cons.mp (I.mC b z) with z|z
   . exact o3 z
   . exact hf z
 . obtain⟨U,Y,o3⟩:=J b o e;obtain⟨sl,e1⟩:=B.slot b o e n hf (by simp);obtain⟨aa,e2⟩:=k2 b _ U Y e1;exact⟨aa,e2⟩
 . obtain⟨U,Y,o3⟩:=J b o e;obtain⟨o',e1⟩:=B.there b o e (by simp);obtain⟨sl,e2⟩:=k2 b o' U Y e1;exact⟨_,e2⟩
 . have ab:∃v,H c=some v:=by
    rcases hc with z|z
    . exact⟨o,by rw[z];exact e⟩
    . exact⟨_,z⟩
   obtain⟨v,L⟩:=ab;refine k1 c u (λz=>?_) (λz=>?_) (λz=>?_) r
   . rw[I.nM c z] at L;cases L
   . rw[z,na] at L;cases L
   . rw[z,nT] at L;cases L
end
section
variable {M:Model}{A:Around}{E:Value->Shared->Prop}{s:Shared}
end
section
variable {X:Cx}{pins:List (Addr × Obj)}{σ:St}{H:Hp}{s:Shared}
end
section
variable {X:Cx}{k:Nat}{f:Addr}{fd:FuncData}{ps:List Str}{sp:Sp}{gM:List V}{ds:List Value}{Ek:XK}{x:Str}{p pos:Pos}{e:Expr}{es:List Expr}{t:TA}{te:TE}
end
end L2
namespace L2
open Spec PyProof.Rows W
theorem Fu {M:Model}{A:Around}{E:Value->Shared->Prop}{K:Frag}{s:Shared}{a C D:Addr}{I:Obj}{b:Bool}{Q:Bool->Shared->Prop}(X:K.In s.heap)(h1:typeIn K (.ref D)=some (.type "type"))(h2:(clsIn K D).isSome=true)(U:subIn K (.ref D) (.type "BaseException")=some true)
 (Y:subIn K (.ref C) (.ref D)=some b) (he:s.heap.get? a=some I) (hc:I.cls=.ref C) (hq:Q b s):wpAny M A (excMatches (.ref a) (.ref D)) Q E s:=by
 obtain⟨h,g,d,t,os⟩:=s;have L1:=looks_typeIn (M:=M) X h1;have L2:Looks M h (isSubtype (.type "type") (.type "tuple")) false:=Looks.of_pure tc_notTuple;have L3:=looks_subIn (M:=M) X U;have L4:=looks_subIn (M:=M) X Y
 have L5:Looks M h (isType (.ref D)) true:=by
  unfold clsIn at h2;split at h2
  . rename_i c' d' aa ab ho;intro J Q' L s' k q;unfold isType loadHead;exact Q0 (wpAny_loadPart (k _ _ (X _ _ ho)) (Q09 q))
  . cases h2
 have L6:Looks M h (typeOf (.ref a)) (.ref C):=by
  have z:Looks M h (typeOf (.ref a)) I.cls:=(Looks.ld (show h.get? a=some I from he)).andThen .now;rw[hc] at z;exact z
 have L7:Looks M h (isInstance (.ref D) (.type "tuple")) false:=L1.andThen L2
 have L8:Looks M h (isExcClass (.ref D)) true:=λJ Q' L s' k q=>by
  unfold isExcClass;exact Q0 (L5 J _ L s' k (L3 J _ L s' k q))
 unfold excMatches;refine Q0 (L7.at ?_)
 repeat (any_goals (first|assumption|with_reducible refine L8.at ?_|with_reducible refine L6.at ?_|with_reducible refine L4.at ?_|wp_step))
 cases b <;> (repeat (any_goals (first|assumption|wp_step)))
end L2
namespace L2
open Spec PyProof.Rows
section
variable {X:Cx}{pins:List (Addr × Obj)}{σ:St}{H:Hp}{s:Shared}
theorem Inv.unbind {M:Model}{A:Around}{E:Value->Shared->Prop}{i:Nat}{x:Str}{pos:Pos}{Q:Unit->Shared->Prop}(I:Inv X pins σ H s)(hN:X.N.Nodup)(hi:X.N[i]? =some x)(hk:X.env.kindOf x=some .local)
 (h:∀s',Inv X pins (σ.set i none) H s'->Q () s'):wpAny M A (do bindName X.env x .none;unbindBehindTheSuite X.env x pos) Q E s:=by
 obtain⟨m,hn,hl⟩:=id I.loc;have aa:(X.env.scope.kind == .class || (X.env.scope.kind == .module && X.env.locals != X.env.globals))=false:=by rw[I.ok.kind];rfl
 have ab:i<σ.length:=by rw[I.len];exact(List.getElem?_eq_some_iff.mp hi).1
 have jy:=I.jy;refine wpAny_nameGoes_keeps hk hn aa λh' v ac L=>?_;obtain⟨oL,_,_,ae,_⟩:=id hn
 have J:f9 X.prog X.w H h':=λb ob e=>by
  refine(I.hok b ob e).stay (λc w' hc q=>(L.2 c ?_).trans q) (λ_ q=>q) λ_ _ q=>q;rintro rfl;rcases hc with rfl|hc
  . rw[I.free] at e;cases e
  . rw[I.free] at hc;cases hc
 refine h _ ⟨I.ok,I.os,I.bare,⟨λb o e n hb Y=>?_,λb o e n hb Y=>?_,I.base.free,λb o e Y=>?_,I.base.tups,I.base.iQ,I.base.iR⟩,⟨_,ac,λj y v' U e2 e3=>?_⟩,λy c e=>?_,I.free,I.iA,λp hp=>?_,J,by simpa using I.len⟩
 . exact(L.2 b (Q07 (Q06 (Q01 e) I.ok.above))).trans (I.base.keep b o e n hb Y)
 . obtain⟨sl,U⟩:=I.base.slot b o e n hb Y;exact⟨sl,(L.2 b (Q07 (Q06 (Q01 e) I.ok.above))).trans U⟩
 . obtain⟨o',U⟩:=I.base.there b o e Y;exact⟨o',(L.2 b (Q07 (Q06 (Q01 e) I.ok.above))).trans U⟩
 . by_cases hj:j=i
   . subst hj;rw[Q22 ab] at e2
     cases e2
   . rw[Q23 (Ne.symm hj)] at e2;obtain⟨u',r',q⟩:=hl j y v' U e2 e3;refine⟨u',r',?_⟩;rcases q with⟨k,e⟩|⟨k,c,e,z⟩
     . refine .inl ⟨k,?_⟩;have:y≠x:=λe=>hj (rn hN U (e ▸ hi));simp[this,e]
     . exact .inr ⟨k,c,e,z.sameBut L (jy y c e)⟩
 . obtain⟨w',z⟩:=I.cell y c e;exact⟨w',z.sameBut L (jy y c e)⟩
 . obtain⟨e,n,ne,nf,d⟩:=I.pin p hp;exact⟨(L.2 p.1 ne).trans e,n,ne,nf,d⟩
noncomputable abbrev Cx.marked (X:Cx) (a:Addr):Cx:={ X with A:=X.A.mark (some (.ref a)),calm:=false,xe:=λ_ _=>False }
theorem Inv.marked (I:Inv X pins σ H s)(a:Addr):Inv (X.marked a) pins σ H s:=
 ⟨⟨I.ok.mod,I.ok.kind,I.ok.glob,I.ok.blt,I.ok.above,I.ok.inj,I.ok.has,I.ok.cab,(λz=>by cases z),I.ok.frames,I.ok.stk,I.ok.rm,I.ok.bs,I.ok.jx,I.ok.mz,I.ok.nL,I.ok.i6,I.ok.kF⟩,I.os,I.bare,I.base,I.loc,I.cell,I.free,I.iA,I.pin,I.hok,I.len⟩
theorem Inv.unmarked {a:Addr}(I:Inv (X.marked a) pins σ H s)(ok:X.Ok):Inv X pins σ H s:=⟨ok,I.os,I.bare,I.base,I.loc,I.cell,I.free,I.iA,I.pin,I.hok,I.len⟩
end
def Ends.un (D:Ends) (i:Nat):Ends:={ nx:=λσ H=>D.nx (σ.set i none) H,rt:=D.rt,bk:=λσ H=>D.bk (σ.set i none) H,ct:=λσ H=>D.ct (σ.set i none) H }
end L2
namespace L2
open Spec Calls PyProof.Rows W Builtin Builtin.ObjectAttr Builtin.Getset_descriptor
structure mV (K:Frag) (C:Addr):Prop where
 ga:findIn K (.ref C) "__getattribute__"=some (some (.builtin "BaseException.__getattribute__"))
 gt:findIn K (.ref C) "__getattr__"=some none
 cl:findIn K (.ref C) "__class__"=some (some (.builtin "object.__class__"))
 ob:mroIn K C (.type "object")=some true
 bx:mroIn K C (.type "BaseException")=some true
 is:(clsIn K C).isSome=true
section
variable {prog:Program}{w:World}{A:Around}{E:Value->Shared->Prop}{K:Frag}{h:Heap}{g:Array GenState}{d:Drawn}{t:Nat}{os:OsState}{a C:Addr}{o:Obj}
theorem Fv {z:Value}{M:Model}{Q:Unit->Shared->Prop}(X:K.In h)(Z:mV K C)(J:h.get? a=some o)(hc:o.cls=.ref C)(L:Q () ⟨h,g,d,t,os⟩):
 wpAny M A (checkBuiltinCall "BaseException.__getattribute__" ⟨[.ref a,z],[]⟩) Q E ⟨h,g,d,t,os⟩:=by
 have U:builtinKind "BaseException.__getattribute__"=some .slot:=by decide +kernel
 have I:splitId "BaseException.__getattribute__"=some ("BaseException","__getattribute__"):=by decide +kernel
 have ha:=F.args_bexc_ga (.ref a) z;have Y:=looks_mroIn (M:=M) X Z.bx;simp only[checkBuiltinCall,U,I];refine Q0 ?_
 . unfold isInstance
   repeat (first|(with_reducible refine wpAny_loadPart_at J ?_;rw[hc])|with_reducible refine Y.at ?_|wp_step)
   exact L
end
end L2
namespace L2
open Spec PyProof.Rows
section
variable {X:Cx}{es:List Expr}{n k:Nat}{t:St->Hp->Prop}{pos:Pos}
end
section
variable {X:Cx}
end
variable {P:Program}{w:World}{K:W.Frag}{mg:Str->Option Value}{base:Heap}
section
variable {X:Cx}
def pV (K:W.Frag) (n:Nat):R2:=λx y H Q=>(x=.non/\(∃b ys,y=.ref b/\eB K H b ys)/\Q (.bl false) H)\/zO K n x y H Q
theorem pW {n:Nat}(L:X.A.units+1+n<cLine):gA X (compareOp .Eq) (pV X.K n):=by
 intro pins s σ H x y v u Q I z J h;rcases h with⟨rfl,⟨b,ys,rfl,U⟩,q⟩|h
 . cases z
   cases J;obtain⟨Y,r1,p1,_⟩:=I.tuple U;exact SeqAt.RcAt.none_tuple p1 (by omega) _ _ _ _ ⟨.bl false,H,I,rfl,q⟩
 . exact Fo L pins s σ H x y v u Q I z J h
end
theorem jC.pX {x qual:Str}{st:Stmt}{f c:Addr}{fd:FuncData}{N ps:List Str}{k:Nat}{sp:Sp}(F:jC K x qual st f fd)(hc:fd.code=.ref c)(S:fo N ps (eP st))(len:∀vs H Q E,sp vs H Q E->vs.length=ps.length)
 (z:∀(A:Around) (outer:List Env) (s:Shared) (H:Hp) (vs:List V) (Q:VK) (E:XK),fy k (A.deeper (envOfC qual (eP st) s.heap.objs.size f (.ref c)))->sp vs H Q E->
   ∃t,h9 (fh eI P w K mg base N qual (eP st) f (.ref c) A outer s H E).fj (gj st) t/\t { nx:=λ_ H'=>Q .non H',rt:=Q } (start N vs) H):eE P w K mg base eI (k+1) f fd ps sp:=by
 obtain⟨oc,od,kV,aa,pm,an,I,ct,ab,rfl,U,J⟩:=F.ex;have hc:I=.ref c:=hc;subst hc;refine pF U J S len λA outer s H vs Q E Y L=>?_;obtain⟨t,h,q⟩:=z A outer s H vs Q E Y L;exact⟨t,h.fj,q⟩
def pY (z:List Addr) (H:Hp):Prop:=∀b,H b=none\/(∃o xs,H b=some (.iz o (.lst xs)))\/(b∈z/\H b=some (.gq #[]))
theorem Fw {P:Program}{w:World}{K:W.Frag}{mg mb:Str->Option Value}{CX:iE}{k:Nat}{fa a:Addr}{fd:FuncData}{x:Str}{sp:Sp}{I:Shared}{vs:List Value}{ns:List Int}{J:List (Addr × Addr)}
 (KX:K.In I.heap) (hT:W.TabsAt J I.heap) (aq:W.noTabs K=true) (ar:BM mg I.heap) (ai:I.heap.Ns mainGlobals mg) (L:I.heap.Ns builtinsNs mb) (au:∀x:Str,x≠"__name__"->mb x=bootBuiltins x) (an:I.heap.NoLimit) (hg:I.gens=#[])
 (ha:I.heap.get? a=some { cls:=.type "list",data:=.seq vs.toArray }) (hi:IntsAre vs ns) (hl:ns.length<=sizeLine) (hr:fy k callerA)
 (F:∀base:Heap,K.In base->base.Ns mainGlobals mg->BM mg base->eE P w K mg base CX k fa fd [x] sp) (ah:∀(s:Shared) (u:Value),BindsTo s fd ⟨[u],[]⟩ [(x,u)])
 (av:∀H:Hp,pY (J.map (·.2)) H->(∀q∈J,H q.2=some (.gq #[]))->eG K H a (ns.map V.int)->sp [.ref a] H (λv _=>v=.bl true) λ_ _ _=>False)
 (aw:∀H e s',CX [] H I (λ_ _ _=>False) e s'->False):
 codeAny (model P w) callerA (.call (.ref fa) ⟨[.ref a],[]⟩) (λr s'=>r=.ok (.ret (.bool true))/\OldK I.heap s'.heap/\s'.os=I.os/\AllBare s'.gens) I:=by
 have rv:=ze hi;have ao:=hi.length
 have Y:∀b,b∈J.map (·.2)->I.heap.get? b=some (W.tabObj #[]):=λb hm=>by
  obtain⟨q,hq,rfl⟩:=List.mem_map.mp hm;exact(hT q hq).2
 have aj:a ∉ J.map (·.2):=λhm=>by
  have:=Y a hm;rw[ha] at this;cases this
 have af:∀H:Hp,pY (J.map (·.2)) H->(∀q∈J,H q.2=some (.gq #[]))->eG K H a (ns.map V.int)->f9 P w H I.heap->(∀b,H b≠none->b=a\/b∈J.map (·.2))->(H a≠none->K.lookup a=none)->
  codeAny (model P w) callerA (.call (.ref fa) ⟨[.ref a],[]⟩) (λr s'=>r=.ok (.ret (.bool true))/\OldK I.heap s'.heap/\s'.os=I.os/\AllBare s'.gens) I:=by
  intro H hO ak hS al hA hK;have U:∀{b:Addr} {o:Obj},I.heap.get? b=some o->H b=none->(jL I.heap H).get? b=some o:=λe n=>CM e n
  have ab:∀{b:Addr} {o:Obj},I.heap.get? b=some o->(∀us n,o.data≠ .seq us n)->(∀us,o.data≠ .fields us)->H b=none:=λ{b o} e d1 d2=>by
   cases q:H b with
   |none=>rfl
   |some u=>
    rcases hA b (by rw[q];simp) with e'|e'
    . subst e';rw[ha] at e;cases e;exact absurd rfl (d1 _ _)
    . rw[Y b e'] at e;cases e;exact absurd rfl (d2 _)
  have ae:∀{b:Addr} {m:Str->Option Value},I.heap.Ns b m->(jL I.heap H).Ns b m:=λ{b m} ⟨o,es,ep,e,d,r⟩=>⟨o,es,ep,U e (ab e (by rw[d];intro us n z;cases z) (by rw[d];intro us z;cases z)),d,r⟩
  have am:K.In (jL I.heap H):=λb o e=>U (KX b o e) (by
   cases q:H b with
   |none=>rfl
   |some u=>
    rcases hA b (by rw[q];simp) with e'|e'
    . subst e';rw[hK (by rw[q];simp)] at e;cases e
    . have e2:=KX b o e;rw[Y b e'] at e2;cases e2;have:=List.all_eq_true.mp aq _ (W.mem_of_lookupK e);simp at this)
  have hM:Mod K mg (jL I.heap H):=⟨am,ae ai,⟨mb,ae L,au⟩,let⟨mc,h1,h2⟩:=an;⟨mc,ae h1,h2⟩⟩
  have ax:BM mg (jL I.heap H):=by
   obtain⟨bm,o,b1,b2,b3,b4,b5,b6,b7⟩:=ar;exact⟨bm,o,b1,b2,b3,U b4 (ab b4 (by rw[b7];intro us n z;cases z) (by rw[b7];intro us z;cases z)),b5,b6,b7⟩
  have e0:lK P w K mg (jL I.heap H) callerA [] I H:=⟨rfl,hM,λb o e=>CN e,Q1n (CL _ _),trivial,λb L=>absurd (show b∈([]:List Addr) from L) (by simp),al,.of_eq hg⟩;refine codeAny_mono ((F _ am (ae ai) ax).run callerA [] I H ⟨[.ref a],[]⟩ [.ref a] [.ref a] _ _ hr e0 (ah I (.ref a)) (.cons rfl .nil) (av H hO ak hS)) λr s' h=>?_
  cases r with
  |error e=>exact(aw H e s' h).elim
  |ok fl=>
   cases fl with
   |next=>exact False.elim h
   |brk=>exact False.elim h
   |cont=>exact False.elim h
   |ret u=>
    obtain⟨v,H',os,ap,un,ag,r',q⟩:=h;have q':v=.bl true:=q;subst q';obtain rfl:u=Value.bool true:=r'
    have ac:∀b,b∈J.map (·.2)->∃ps,s'.heap.get? b=some (W.tabObj ps):=λb hm=>by
     obtain⟨q,hq,rfl⟩:=List.mem_map.mp hm;obtain⟨ay,e⟩:=un.iR _ _ (ak q hq);exact⟨_,ag _ _ e⟩
    have keep:∀b o,b ∉ J.map (·.2)->I.heap.get? b=some o->s'.heap.get? b=some o:=λb o L e=>by
     cases q:H b with
     |none=>exact un.keep b o e q (by intro z;exact absurd (show b∈([]:List Addr) from z) (by simp)) (by simp)
     |some u=>
      rcases hO b with z|⟨ob,xs,z⟩|⟨z,_⟩
      . rw[q] at z;cases z
      . have z2:=un.iQ b ob _ z;obtain⟨e1,_⟩:=al b _ z;obtain⟨e2,_⟩:=ag b _ z2;rw[e] at e1;cases e1;exact e2
      . exact absurd z L
    refine⟨rfl,⟨λb o e=>?_,λb o e=>?_⟩,os,ap⟩
    . by_cases L:b∈J.map (·.2)
      . obtain⟨ps,hP⟩:=ac b L;have e2:=Y b L;rw[e] at e2;cases e2;obtain⟨q,hq,rfl⟩:=List.mem_map.mp L;exact .inr (.inl ⟨((hT q hq).1.tab (hT q hq).2).isCodeTable,rfl,#[],ps,rfl,by rw[Q2o];exact hP⟩)
      . exact .inl (keep b o L e)
    . by_cases L:b∈J.map (·.2)
      . obtain⟨ps,hP⟩:=ac b L;exact⟨_,hP⟩
      . exact⟨o,keep b o L e⟩
 cases hk:K.lookup a with
 |some o=>
  have e:=KX a o hk;rw[ha] at e
  cases e;refine af (λb=>if b∈J.map (·.2) then some (.gq #[]) else none) (λb=>?_) (λq hq=>if_pos (Q1i hq)) (.inr ⟨_,vs.toArray,_,hk,rfl,rfl,rfl,by rw[Q04,ao];exact hl,by simpa using rv⟩) (λb u z=>?_) (λb z=>?_) λz=>absurd (if_neg aj) z
  . by_cases L:b∈J.map (·.2)
    . exact .inr (.inr ⟨L,if_pos L⟩)
    . exact .inl (if_neg L)
  . by_cases L:b∈J.map (·.2)
    . have z':=(if_pos L).symm.trans z
      cases z';exact Y b L
    . have z':=(if_neg L).symm.trans z
      cases z'
  . by_cases L:b∈J.map (·.2)
    . exact .inr L
    . exact absurd (if_neg L) z
 |none=>
  refine af (λb=>if b∈J.map (·.2) then some (.gq #[]) else if b=a then some (.iz { cls:=.type "list",data:=.seq vs.toArray } (.lst (ns.map V.int))) else none) (λb=>?_) (λq hq=>if_pos (Q1i hq))
   (.inl (.inr ⟨{ cls:=.type "list",data:=.seq vs.toArray },(if_neg aj).trans (if_pos rfl)⟩)) (λb u z=>?_) (λb z=>?_) λ_=>hk
  . by_cases L:b∈J.map (·.2)
    . exact .inr (.inr ⟨L,if_pos L⟩)
    . by_cases aa:b=a
      . exact .inr (.inl ⟨_,_,(if_neg L).trans (if_pos aa)⟩)
      . exact .inl ((if_neg L).trans (if_neg aa))
  . by_cases L:b∈J.map (·.2)
    . have z':=(if_pos L).symm.trans z
      cases z';exact Y b L
    . have z:=(if_neg L).symm.trans z;by_cases aa:b=a
      . have z':=(if_pos aa).symm.trans z
        cases z';subst aa;exact⟨ha,by rw[Q03];exact hl,vs,_,rv,ha⟩
      . have z':=(if_neg aa).symm.trans z
        cases z'
  . by_cases L:b∈J.map (·.2)
    . exact .inr L
    . by_cases aa:b=a
      . exact .inl aa
      . exact absurd ((if_neg L).trans (if_neg aa)) z
theorem Fx {l:W.OpenLaw}{n k:Nat}{q:Program}{loose:List Str}{XP:(Str->Option Value)->Heap->Prop}{YP:World->Heap->Prop}{d:DefRec}{K:Params->W.Frag}{sp:World->List (Addr × Addr)->Sp}{x:Str}{names:List Str}
 (hn:l.most=some n) (ac:n<=sizeLine) (ae:d.params.defaults=[]) (hr:fy k callerA)
 (hY:∀(w:World) (h:Heap),YP w h->(K w.params).In h) (af:∀w:World,W.noTabs (K w.params)=true)
 (tb:∀w:World,∃I:List (Addr × Addr),(∀q'∈I,∃y∈names,W.tabIn (K w.params) y=some q')/\
   (∀(mg:Str->Option Value) (fa:Addr) (h:Heap),(K w.params).In h->h.Ns mainGlobals mg->mg d.name=some (.ref fa)->
   ∃fd:FuncData,(∀(s:Shared) (u:Value),BindsTo s fd ⟨[u],[]⟩ [(x,u)])/\
    ∀base:Heap,(K w.params).In base->base.Ns mainGlobals mg->BM mg base->eE l.prog w (K w.params) mg base eI k fa fd [x] (sp w I)))
 (aa:∀y∈names,∃d',(recsOf q).find? (λe=>e.name == y)=some d')
 (ag:∀(w:World) (I:List (Addr × Addr)) (H:Hp) (a:Addr) (ns:List Int),ns.length<=n->pY (I.map (·.2)) H->(∀q∈I,H q.2=some (.gq #[]))->eG (K w.params) H a (ns.map V.int)->sp w I [.ref a] H (λv _=>v=.bl true) λ_ _ _=>False):
 W.WalkO q loose XP YP l.row.toRowW d [] (λf vs=>PySem.call f vs):=by
 refine zd.EB hn ae λw s₀ J mg mb fa o pm cd al a vs ns G Y ho hd am ah ab U L hg=>?_;have KX:=hY w _ Y;obtain⟨I,ht,F⟩:=tb w;obtain⟨fd,hb,hF⟩:=F mg fa _ KX G.T.g ah
 have hT:W.TabsAt I J.heap:=λq' hq=>by
  obtain⟨y,hy,ai⟩:=ht q' hq;obtain⟨d',aj⟩:=aa y hy;exact W.tab_of G.T KX aj ai
 have ak:BM mg J.heap:=by
  obtain⟨bm,ob,b1,b2,b3,b4,b5,b6⟩:=G.T.bmain;refine⟨bm,ob,b1,b2,λz=>?_,b3,b4,b5,b6⟩;obtain⟨o',es,ep,e,hd,_⟩:=G.T.g;rw[z,e] at b3;cases b3;rw[hd] at b6;cases b6
 exact Fw KX hT (af w) ak G.T.g G.T.b G.T.builtins G.T.nolimit hg ab U (Q0f L ac) hr hF hb (λH hO hP hS=>ag w I H a ns L hO hP hS) λH e s' h=>h.elim
end L2
namespace Pb
open L2 PyProof.Rows
mutual
inductive Kd where
 |num
 |fC
 |fL (fs:Fs)
 |rows (key by_:Str) (fs:Fs)
 |tree (k:Kd)
 |gy (fs:Fs)
inductive Fs where
 |nil
 |cons (x:Str) (k:Kd) (r:Fs)
end
mutual
inductive D where
 |int (z:Int)
 |str (x:Str)
 |non
 |boo (b:Bool)
 |tup (xs:Ds)
 |lst (xs:Ds)
 |dct (m:Ds)
inductive Ds where
 |nil
 |cons (x:Str) (d:D) (r:Ds)
end
mutual
noncomputable def Kd.dep:Kd->Nat
 | .num=>1
 | .fC=>1
 | .fL fs=>fs.dep+1
 | .rows _ _ fs=>fs.dep+1
 | .tree k=>k.dep+1
 | .gy fs=>fs.dep+1
noncomputable def Fs.dep:Fs->Nat
 | .nil=>0
 | .cons _ k r=>max k.dep r.dep
end
mutual
noncomputable def D.dep:D->Nat
 | .int _=>1
 | .str _=>1
 | .non=>1
 | .boo _=>1
 | .tup xs=>xs.dep+1
 | .lst xs=>xs.dep+1
 | .dct m=>m.dep+1
noncomputable def Ds.dep:Ds->Nat
 | .nil=>0
 | .cons _ d r=>max d.dep r.dep
end
theorem Kd.kU (k:Kd):1<=k.dep:=by cases k <;> simp[Kd.dep]
theorem D.kU (d:D):1<=d.dep:=by cases d <;> simp[D.dep]
noncomputable def Fs.names:Fs->List Str
 | .nil=>[]
 | .cons x _ r=>x::r.names
noncomputable def Fs.get:Fs->Str->Option Kd
 | .nil,_=>none
 | .cons y k r,x=>if x=y then some k else r.get x
noncomputable def Fs.at:Fs->Nat->Option (Str × Kd)
 | .nil,_=>none
 | .cons x k _,0=>some (x,k)
 | .cons _ _ r,i+1=>r.at i
noncomputable def Fs.snoc:Fs->Str->Kd->Fs
 | .nil,x,k=>.cons x k .nil
 | .cons y q r,x,k=>.cons y q (r.snoc x k)
noncomputable def Fs.take:Fs->Nat->Fs
 | .nil,_=>.nil
 | .cons _ _ _,0=>.nil
 | .cons x k r,i+1=>.cons x k (r.take i)
theorem Fs.sI:∀(fs:Fs) (x:Str) (k:Kd),(fs.snoc x k).names=fs.names++[x]
 | .nil,_,_=>rfl
 | .cons y q r,x,k=>by
   show y::(r.snoc x k).names=_;rw[Fs.sI r x k];rfl
theorem Fs.sJ:∀(fs:Fs) (x:Str) (k:Kd),(fs.snoc x k).dep=max fs.dep k.dep
 | .nil,_,k=>by simp[Fs.snoc,Fs.dep]
 | .cons y q r,x,k=>by
   show max q.dep (r.snoc x k).dep=max (max q.dep r.dep) k.dep;rw[Fs.sJ r x k,Nat.max_assoc]
theorem Fs.jD:∀(fs:Fs) (i:Nat),fs.names[i]? =(fs.at i).map (·.1)
 | .nil,i=>by simp[Fs.names,Fs.at]
 | .cons x k r,0=>by simp[Fs.names,Fs.at]
 | .cons x k r,i+1=>by
   show(x::r.names)[i+1]? =_;rw[Q33,Fs.jD r i];rfl
theorem Fs.zS:∀{fs:Fs}{i:Nat},i<fs.names.length->∃x k,fs.at i=some (x,k)
 | .nil,i,h=>by simp[Fs.names] at h
 | .cons x k r,0,h=>⟨x,k,rfl⟩
 | .cons x k r,i+1,h=>Fs.zS (fs:=r) (i:=i) (by simpa[Fs.names] using h)
theorem Fs.lY:∀{fs:Fs}{i:Nat}{x:Str}{k:Kd},fs.at i=some (x,k)->k.dep<=fs.dep
 | .nil,_,_,_,h=>by cases h
 | .cons x k r,0,_,_,h=>by
   cases h;exact Q1t _ _
 | .cons x k r,i+1,_,_,h=>Q0f (Fs.lY (fs:=r) (i:=i) h) (Q1u _ _)
theorem Fs.jV:∀{fs:Fs}{i:Nat}{x:Str}{k:Kd},fs.names.Nodup->fs.at i=some (x,k)->fs.get x=some k
 | .nil,_,_,_,_,h=>by cases h
 | .cons y q r,0,x,k,_,h=>by
   cases h;simp[Fs.get]
 | .cons y q r,i+1,x,k,z,h=>by
   have z:(y::r.names).Nodup:=z;obtain⟨I,J⟩:=List.nodup_cons.mp z;have h:r.at i=some (x,k):=h;have L:x∈r.names:=Q19 (i:=i) (by rw[Fs.jD,h];rfl);show(if x=y then some q else r.get x)=some k;rw[if_neg (λe=>I (by rw[<-e];exact L))];exact Fs.jV J h
theorem Fs.take_succ:∀{fs:Fs}{i:Nat}{x:Str}{k:Kd},fs.at i=some (x,k)->fs.take (i+1)=(fs.take i).snoc x k
 | .nil,_,_,_,h=>by cases h
 | .cons y q r,0,x,k,h=>by
   cases h
   cases r <;> rfl
 | .cons y q r,i+1,x,k,h=>by
   show Fs.cons y q (r.take (i+1))=Fs.cons y q ((r.take i).snoc x k);rw[Fs.take_succ (fs:=r) (i:=i) h]
theorem Fs.take_zero (fs:Fs):fs.take 0=.nil:=by cases fs <;> rfl
theorem Fs.take_all:∀(fs:Fs),fs.take fs.names.length=fs
 | .nil=>rfl
 | .cons x k r=>by
   show Fs.cons x k (r.take r.names.length)=_;rw[Fs.take_all r]
def kW:Kd->Prop
 | .num=>True
 | .fC=>True
 |_=>False
def Fs.pl (fs:Fs) (x:Str):Prop:=∃k,fs.get x=some k/\kW k
mutual
def Kd.W:Kd->Prop
 | .num=>True
 | .fC=>True
 | .fL fs=>fs.names.Nodup/\fs.names.length<=12/\fs.W
 | .rows key by_ fs=>fs.names.Nodup/\fs.names.length<=12/\fs.W/\fs.pl key/\(by_=""\/fs.pl by_)
 | .tree k=>k.W
 | .gy fs=>fs.names.Nodup/\fs.names.length<=12/\1<=fs.names.length/\fs.W
def Fs.W:Fs->Prop
 | .nil=>True
 | .cons x k r=>k.W/\x≠""/\r.W
end
theorem Fs.lZ:∀{fs:Fs}{i:Nat}{x:Str}{k:Kd},fs.W->fs.at i=some (x,k)->k.W
 | .nil,_,_,_,_,h=>by cases h
 | .cons x k r,0,_,_,w,h=>by
   unfold Fs.W at w
   cases h;exact w.1
 | .cons x k r,i+1,_,_,w,h=>by
   unfold Fs.W at w;exact Fs.lZ (fs:=r) (i:=i) w.2.2 h
theorem Fs.sL {x:Str}{k:Kd}(z:k.W)(I:x≠""):∀{fs:Fs},fs.W->(fs.snoc x k).W
 | .nil,_=>by
   show(Fs.cons x k .nil).W;unfold Fs.W;exact⟨z,I,by unfold Fs.W;trivial⟩
 | .cons y q r,h=>by
   unfold Fs.W at h;show(Fs.cons y q (r.snoc x k)).W;unfold Fs.W;exact⟨h.1,h.2.1,Fs.sL z I h.2.2⟩
noncomputable def Ds.get:Ds->Str->Option D
 | .nil,_=>none
 | .cons y d r,x=>if x=y then some d else r.get x
noncomputable def keyOf (m:Ds) (x:Str):Key:=match m.get x with
 |some (.int z)=>.inl z
 |some (.str s)=>.inr s
 |_=>.inl 0
noncomputable def rankOf (key by_:Str) (m:Ds):List Key:=if by_="" then [keyOf m key] else [keyOf m by_,keyOf m key]
theorem Fy {key by_:Str}{a b:Ds}(h:rankOf key by_ a=rankOf key by_ b):keyOf a key=keyOf b key:=by
 unfold rankOf at h;split at h
 . exact(List.cons.inj h).1
 . exact(List.cons.inj (List.cons.inj h).2).1
def g5 (key by_:Str) (a b:Ds):Prop:=gC (rankOf key by_ a) (rankOf key by_ b)=true
def l4 (key by_:Str) (a b:Ds):Prop:=lV (rankOf key by_ a) (rankOf key by_ b)
noncomputable def ins (key by_:Str) (m:Ds):List Ds->List Ds
 |[]=>[m]
 |y::q=>if gC (rankOf key by_ y) (rankOf key by_ m)=true then y::ins key by_ m q else m::y::q
noncomputable def fV (key by_:Str):List Ds->List Ds
 |[]=>[]
 |m::r=>ins key by_ m (fV key by_ r)
theorem sM (key by_:Str)(m:Ds):∀l:List Ds,(ins key by_ m l).Perm (m::l)
 |[]=>List.Perm.refl _
 |y::q=>by
  unfold ins;split
  . exact((sM key by_ m q).cons y).trans (List.Perm.swap m y q)
  . exact List.Perm.refl _
theorem i_ (key by_:Str):∀l:List Ds,(fV key by_ l).Perm l
 |[]=>List.Perm.refl _
 |m::r=>(sM key by_ m _).trans ((i_ key by_ r).cons m)
theorem zT {a b:List Key}(h:gC a b=true):lV a b:=KeyOrd.kle_of_klt (O:=pQ) h
theorem Fz {a b c:List Key}(h1:lV a b)(h2:lV b c):lV a c:=KeyOrd.kle_trans (O:=pQ) h1 h2
theorem zU (key by_:Str)(m:Ds):∀{l:List Ds},l.Pairwise (l4 key by_)->(ins key by_ m l).Pairwise (l4 key by_)
 |[],_=>Q2z _ _
 |y::q,h=>by
  obtain⟨h1,h2⟩:=List.pairwise_cons.mp h;unfold ins;by_cases c:gC (rankOf key by_ y) (rankOf key by_ m)=true
  . rw[if_pos c];refine List.pairwise_cons.mpr ⟨λz I=>?_,zU key by_ m h2⟩;rcases List.mem_cons.mp ((sM key by_ m q).mem_iff.mp I) with e|e
    . rw[e];exact zT c
    . exact h1 z e
  . rw[if_neg c];have c':l4 key by_ m y:=by unfold l4 lV;simpa using c
    refine List.pairwise_cons.mpr ⟨λz I=>?_,h⟩;rcases List.mem_cons.mp I with e|e
    . rw[e];exact c'
    . exact Fz c' (h1 z e)
theorem mW (key by_:Str):∀l:List Ds,(fV key by_ l).Pairwise (l4 key by_)
 |[]=>List.Pairwise.nil
 |m::r=>zU key by_ m (mW key by_ r)
theorem mY {key by_:Str}{l:List Ds}(h:l.Pairwise (l4 key by_))(I:(l.map λm=>keyOf m key).Nodup):l.Pairwise (g5 key by_):=by
 have z:l.Pairwise λa b=>keyOf a key≠keyOf b key:=List.pairwise_map.mp I;refine(h.and z).imp λ{a b} ⟨h1,h2⟩=>?_;rcases pP (rankOf key by_ a) (rankOf key by_ b) with q|q|q
 . exact q
 . exact absurd (Fy q) h2
 . have h1:gC (rankOf key by_ b) (rankOf key by_ a)=false:=h1;rw[h1] at q;cases q
theorem zV {key by_:Str}:∀{J I:List Ds},J.Perm I->J.Pairwise (g5 key by_)->I.Pairwise (g5 key by_)->J=I
 |[],I,p,_,_=>by rw[p.nil_eq]
 |a::r,[],p,_,_=>absurd p.length_eq (by simp)
 |a::r,b::q,p,h1,h2=>by
  obtain⟨U,Y⟩:=List.pairwise_cons.mp h1;obtain⟨b1,b2⟩:=List.pairwise_cons.mp h2
  have e:a=b:=by
   have ha:a∈b::q:=p.mem_iff.mp Q0b;have hb:b∈a::r:=p.mem_iff.mpr Q0b;rcases List.mem_cons.mp ha with e|e
   . exact e
   . rcases List.mem_cons.mp hb with L|L
     . exact L.symm
     . have z:=mT _ _ _ (U b L) (b1 a e);rw[pO] at z;cases z
  subst e;rw[zV ((List.perm_cons a).mp p) Y b2]
theorem sN {key by_:Str}{l z:List Ds}(p:z.Perm l)(h:z.Pairwise (l4 key by_))(I:(l.map λm=>keyOf m key).Nodup):z=fV key by_ l:=
 zV (p.trans (i_ key by_ l).symm) (mY h ((p.map _).nodup_iff.mpr I)) (mY (mW key by_ l) (((i_ key by_ l).map _).nodup_iff.mpr I))
noncomputable def fi:List Ds->Ds
 |[]=>.nil
 |m::r=>.cons "" (.dct m) (fi r)
noncomputable abbrev pairD (a b:D):D:=.tup (.cons "" a (.cons "" b .nil))
mutual
def Tree (P:D->Prop):D->Prop
 | .tup xs=>ja P xs
 |_=>False
def ja (P:D->Prop):Ds->Prop
 | .cons _ t (.cons _ (.lst as) .nil)=>P t/\iu P as
 |_=>False
def iu (P:D->Prop):Ds->Prop
 | .nil=>True
 | .cons _ d r=>Tree P d/\iu P r
end
mutual
def fg:Kd->D->Prop
 | .num,d=>∃z,d=.int z
 | .fC,d=>∃x,d=.str x
 | .fL fs,d=>∃m,d=.dct m/\fQ fs m
 | .rows key by_ fs,d=>∃rs:List Ds,d=.lst (fi rs)/\(∀m∈rs,fQ fs m)/\rs.Pairwise (g5 key by_)/\(rs.map λm=>keyOf m key).Nodup
 | .tree k,d=>Tree (fg k) d
 | .gy fs,d=>∃x v,d=pairD (.str x) v/\jE fs x v
def fQ:Fs->Ds->Prop
 | .nil,m=>m=.nil
 | .cons x k r,m=>∃d q,m=.cons x d q/\fg k d/\fQ r q
def jE:Fs->Str->D->Prop
 | .nil,_,_=>False
 | .cons y k r,x,v=>(x=y/\fg k v)\/(x≠y/\jE r x v)
end
theorem Tree.shape {P:D->Prop}:∀{d:D},Tree P d->∃x y t as,d=.tup (.cons x t (.cons y (.lst as) .nil))/\P t/\iu P as
 | .tup (.cons x t (.cons y (.lst as) .nil)),h=>by
   unfold Tree ja at h;exact⟨x,y,t,as,rfl,h.1,h.2⟩
 | .tup .nil,h=>by unfold Tree ja at h;exact h.elim
 | .tup (.cons _ _ .nil),h=>by unfold Tree ja at h;exact h.elim
 | .tup (.cons _ _ (.cons _ (.int _) _)),h=>by unfold Tree ja at h;exact h.elim
 | .tup (.cons _ _ (.cons _ (.str _) _)),h=>by unfold Tree ja at h;exact h.elim
 | .tup (.cons _ _ (.cons _ .non _)),h=>by unfold Tree ja at h;exact h.elim
 | .tup (.cons _ _ (.cons _ (.boo _) _)),h=>by unfold Tree ja at h;exact h.elim
 | .tup (.cons _ _ (.cons _ (.tup _) _)),h=>by unfold Tree ja at h;exact h.elim
 | .tup (.cons _ _ (.cons _ (.dct _) _)),h=>by unfold Tree ja at h;exact h.elim
 | .tup (.cons _ _ (.cons _ (.lst _) (.cons _ _ _))),h=>by unfold Tree ja at h;exact h.elim
 | .int _,h=>by unfold Tree at h;exact h.elim
 | .str _,h=>by unfold Tree at h;exact h.elim
 | .non,h=>by unfold Tree at h;exact h.elim
 | .boo _,h=>by unfold Tree at h;exact h.elim
 | .lst _,h=>by unfold Tree at h;exact h.elim
 | .dct _,h=>by unfold Tree at h;exact h.elim
theorem fQ.get:∀{fs:Fs}{m:Ds}{x:Str}{k:Kd},fQ fs m->fs.get x=some k->∃d,m.get x=some d/\fg k d
 | .nil,_,_,_,_,h=>by cases h
 | .cons y q r,m,x,k,f,h=>by
   unfold fQ at f;obtain⟨d,t,rfl,f1,f2⟩:=f;have h:(if x=y then some q else r.get x)=some k:=h;by_cases e:x=y
   . rw[if_pos e] at h
     cases h;exact⟨d,by show(if x=y then some d else t.get x)=_;rw[if_pos e],f1⟩
   . rw[if_neg e] at h;obtain⟨d',z,I⟩:=fQ.get f2 h;exact⟨d',by show(if x=y then some d else t.get x)=_;rw[if_neg e];exact z,I⟩
theorem fQ.plain {fs:Fs}{m:Ds}{x:Str}(f:fQ fs m)(h:fs.pl x):(m.get x=some (.int 0)\/True)/\((∃z,m.get x=some (.int z)/\keyOf m x=.inl z/\fs.get x=some .num)\/∃s,m.get x=some (.str s)/\keyOf m x=.inr s/\fs.get x=some .fC):=by
 refine⟨.inr trivial,?_⟩;obtain⟨k,h1,h2⟩:=h;obtain⟨d,I,J⟩:=f.get h1
 cases k with
 |num=>
  unfold fg at J;obtain⟨z,rfl⟩:=J;exact .inl ⟨z,I,by unfold keyOf;rw[I],h1⟩
 |fC=>
  unfold fg at J;obtain⟨s,rfl⟩:=J;exact .inr ⟨s,I,by unfold keyOf;rw[I],h1⟩
 |fL _=>exact h2.elim
 |rows _ _ _=>exact h2.elim
 |tree _=>exact h2.elim
 |gy _=>exact h2.elim
theorem zW:∀{fs:Fs}{x:Str}{v:D},jE fs x v->x∈fs.names
 | .nil,_,_,h=>by unfold jE at h;exact h.elim
 | .cons y k r,x,v,h=>by
   unfold jE at h;rcases h with⟨e,_⟩|⟨_,h⟩
   . rw[e];exact Q0b
   . exact Q0e _ (zW h)
noncomputable def jW:Option Kd->Bool
 |some .num=>true
 |_=>false
theorem fQ.tag {fs:Fs}{m:Ds}{x:Str}(f:fQ fs m)(h:fs.pl x):gE (keyOf m x)=jW (fs.get x):=by
 rcases(f.plain h).2 with⟨z,_,e,g⟩|⟨s,_,e,g⟩ <;> rw[e,g] <;> rfl
theorem mZ {fs:Fs}{key by_:Str}{m:Ds}(f:fQ fs m)(h1:fs.pl key)(h2:by_=""\/fs.pl by_):(rankOf key by_ m).map gE=if by_="" then [jW (fs.get key)] else [jW (fs.get by_),jW (fs.get key)]:=by
 unfold rankOf;split
 . show [gE (keyOf m key)]=_;rw[f.tag h1]
 . rename_i e;rcases h2 with z|z
   . exact absurd z e
   . show [gE (keyOf m by_),gE (keyOf m key)]=_;rw[f.tag h1,f.tag z]
noncomputable def cellAt (ns:List Int) (n:Int):Int:=if 0<ns.length then ns.getD (n % (ns.length:Int)).toNat 0 else 0
noncomputable def nx (ns:List Int) (n:Int):Int:=
 ((cellAt ns n % 2147483647+n * n * 7919+11) * 48271 % 2147483647) * ((cellAt ns n % 2147483647+n * n * 7919+11) * 48271 % 2147483647) % 1999999973
theorem pZ (ns:List Int)(n:Int):0<=nx ns n:=Q0h _ (by decide)
theorem sO (ns:List Int)(n:Int):nx ns n<1999999973:=Q0j _ (by decide)
noncomputable def num (ns:List Int) (n:Int):Int:=
 if nx ns n % 3=0 then nx ns n / 3 % 7 - 3 else(cellAt ns n % 10 ^ 40+nx ns n * 10 ^ 29) % (2 * 10 ^ 40) - 10 ^ 40
noncomputable def jm:Str:=" !#$&'()*+,-./0123456789:;<=>?@ABCDEFGHIJKLMNOPQRSTUVWXYZ"++"[\\]^_`abcdefghijklmnopqrstuvwxyz{|}~"
noncomputable def m4 (m:Int):Nat->Str
 |0=>""
 |k+1=>m4 m k++⟨#[(jm.cps.toList.getD ((m / 145+(k:Int) * (k:Int) * (m / 7 % 3)) % 93).toNat 0)]⟩
noncomputable def fC (ns:List Int) (n:Int):Str:=m4 (nx ns n) (if nx ns n / 5 % 29=0 then 40 else(nx ns n % 5).toNat)
noncomputable def times (g:Int->D × Int):Nat->Int->Ds × Int
 |0,n=>(.nil,n)
 |m+1,n=>(.cons "" (g n).1 (times g m (g n).2).1,(times g m (g n).2).2)
noncomputable def gD (ns:List Int) (f:Nat->Int->D × Int):Nat->Nat->Int->D × Int
 |0,_,n=>(.int 0,n)
 |fu+1,room,n=>
  (pairD (f (room / 2) n).1 (.lst (times (gD ns f fu (room / 2)) (nx ns ((f (room / 2) n).2+1) % ((room:Int)+1)).toNat ((f (room / 2) n).2+1)).1),
    (times (gD ns f fu (room / 2)) (nx ns ((f (room / 2) n).2+1) % ((room:Int)+1)).toNat ((f (room / 2) n).2+1)).2)
noncomputable def kX (key:Str) (l:List Ds) (k:Key):Bool:=l.any λr=>decide (keyOf r key=k)
noncomputable def fW (g:Int->Ds × Int) (key:Str):Nat->List Ds->Int->List Ds × Int
 |0,z,n=>(z,n)
 |m+1,z,n=>if kX key z (keyOf (g n).1 key)=true then fW g key m z (g n).2 else fW g key m (z++[(g n).1]) (g n).2
mutual
noncomputable def val (ns:List Int):Kd->Nat->Int->D × Int
 | .num,_,n=>(.int (num ns (n+1)),n+1)
 | .fC,_,n=>(.str (fC ns (n+1)),n+1)
 | .fL fs,room,n=>(.dct (e_ ns fs room n).1,(e_ ns fs room n).2)
 | .rows key by_ fs,room,n=>
   (.lst (fi (fV key by_ (fW (e_ ns fs (room / 2)) key (nx ns (n+1) % ((room:Int)+1)).toNat [] (n+1)).1)),(fW (e_ ns fs (room / 2)) key (nx ns (n+1) % ((room:Int)+1)).toNat [] (n+1)).2)
 | .tree k,room,n=>gD ns (val ns k) 4 room n
 | .gy fs,room,n=>g6 ns fs (nx ns (n+1) % (fs.names.length:Int)).toNat room (n+1)
noncomputable def e_ (ns:List Int):Fs->Nat->Int->Ds × Int
 | .nil,_,n=>(.nil,n)
 | .cons x k r,room,n=>(.cons x (val ns k room n).1 (e_ ns r room (val ns k room n).2).1,(e_ ns r room (val ns k room n).2).2)
noncomputable def g6 (ns:List Int):Fs->Nat->Nat->Int->D × Int
 | .nil,_,_,n=>(.int 0,n)
 | .cons x k _,0,room,n=>(pairD (.str x) (val ns k room n).1,(val ns k room n).2)
 | .cons _ _ r,i+1,room,n=>g6 ns r i room n
end
theorem p6 {g:Int->Ds × Int}{key:Str}:∀(m:Nat) (z:List Ds) (n:Int),(z.map λr=>keyOf r key).Nodup->((fW g key m z n).1.map λr=>keyOf r key).Nodup
 |0,_,_,h=>h
 |m+1,z,n,h=>by
  unfold fW;split
  . exact p6 m z _ h
  . rename_i c;refine p6 m _ _ ?_;rw[Q0k];refine List.nodup_append.mpr ⟨h,by simp,λa I b J=>?_⟩;have:b=keyOf (g n).1 key:=by simpa using J
    rw[this];obtain⟨r,L,e⟩:=List.mem_map.mp I;exact λU=>c (List.any_eq_true.mpr ⟨r,L,decide_eq_true (e.trans U)⟩)
theorem m7 {g:Int->Ds × Int}{key:Str}{R:Ds->Prop}(I:∀n,R (g n).1):∀(m:Nat) (z:List Ds) (n:Int),(∀r∈z,R r)->∀r∈(fW g key m z n).1,R r
 |0,_,_,h=>h
 |m+1,z,n,h=>by
  unfold fW;split
  . exact m7 I m z _ h
  . refine m7 I m _ _ λr J=>?_;rcases List.mem_append.mp J with q|q
    . exact h r q
    . have:r=(g n).1:=by simpa using q
      rw[this];exact I n
theorem zX {P:D->Prop}{g:Int->D × Int}(z:∀n,Tree P (g n).1):∀(m:Nat) (n:Int),iu P (times g m n).1
 |0,_=>by unfold times iu;trivial
 |m+1,n=>by
  unfold times iu;exact⟨z n,zX z m _⟩
theorem zY {ns:List Int}{P:D->Prop}{f:Nat->Int->D × Int}(z:∀room n,room<8->P (f room n).1):∀(fu room:Nat) (n:Int),room<8->room<2 ^ fu->Tree P (gD ns f (fu+1) room n).1
 |0,room,n,_,h=>by
  have e:room=0:=by simpa using h
  subst e;unfold gD
  have I:(nx ns ((f (0 / 2) n).2+1) % (((0:Nat):Int)+1)).toNat=0:=by
   have:nx ns ((f (0 / 2) n).2+1) % (((0:Nat):Int)+1)=0:=by
    show _ % (1:Int)=0;exact Int.emod_one _
   rw[this];rfl
  rw[I];unfold Tree ja;exact⟨z _ _ (by decide),by unfold times iu;trivial⟩
 |fu+1,room,n,L,h=>by
  have J:=λm=>zY (ns:=ns) z fu (room / 2) m (by omega) (by rw[Nat.pow_succ] at h;omega);unfold gD;unfold Tree ja;exact⟨z _ _ (by omega),zX J _ _⟩
mutual
theorem p7 (ns:List Int):∀(k:Kd),k.W->∀(room:Nat) (n:Int),room<8->fg k (val ns k room n).1
 | .num,_,room,n,_=>by unfold val fg;exact⟨_,rfl⟩
 | .fC,_,room,n,_=>by unfold val fg;exact⟨_,rfl⟩
 | .fL fs,w,room,n,h=>by
   unfold Kd.W at w;unfold val fg;exact⟨_,rfl,l5 ns fs w.2.2 room n h⟩
 | .rows key by_ fs,w,room,n,h=>by
   unfold Kd.W at w;unfold val fg;have z:=p6 (g:=e_ ns fs (room / 2)) (key:=key) (nx ns (n+1) % ((room:Int)+1)).toNat [] (n+1) Q0w;refine⟨_,rfl,λm I=>?_,?_,?_⟩
   . exact m7 (R:=fQ fs) (λn=>l5 ns fs w.2.2.1 (room / 2) n (by omega)) _ _ _ (λr J=>absurd J (by simp)) m ((i_ key by_ _).mem_iff.mp I)
   . exact mY (mW key by_ _) (((i_ key by_ _).map _).nodup_iff.mpr z)
   . exact((i_ key by_ _).map _).nodup_iff.mpr z
 | .tree k,w,room,n,h=>by
   unfold Kd.W at w;unfold val fg;exact zY (λroom n h=>p7 ns k w room n h) 3 room n h (by simpa using h)
 | .gy fs,w,room,n,h=>by
   unfold Kd.W at w;unfold val fg
   have hl:(nx ns (n+1) % (fs.names.length:Int)).toNat<fs.names.length:=by
    have:=Q0j (nx ns (n+1)) (show(0:Int)<fs.names.length by omega);have:=Q0h (nx ns (n+1)) (show(fs.names.length:Int)≠0 by omega);omega
   exact zZ ns fs w.2.2.2 w.1 _ room _ h hl
theorem l5 (ns:List Int):∀(fs:Fs),fs.W->∀(room:Nat) (n:Int),room<8->fQ fs (e_ ns fs room n).1
 | .nil,_,_,_,_=>by unfold e_ fQ;rfl
 | .cons x k r,w,room,n,h=>by
   unfold Fs.W at w;unfold e_ fQ;exact⟨_,_,rfl,p7 ns k w.1 room n h,l5 ns r w.2.2 room _ h⟩
theorem zZ (ns:List Int):∀(fs:Fs),fs.W->fs.names.Nodup->∀(i room:Nat) (n:Int),room<8->i<fs.names.length->∃x v,(g6 ns fs i room n).1=pairD (.str x) v/\jE fs x v
 | .nil,_,_,i,_,_,_,hi=>by simp[Fs.names] at hi
 | .cons x k r,w,I,0,room,n,h,hi=>by
   unfold Fs.W at w;unfold g6;exact⟨x,_,rfl,by unfold jE;exact .inl ⟨rfl,p7 ns k w.1 room n h⟩⟩
 | .cons x k r,w,I,i+1,room,n,h,hi=>by
   unfold Fs.W at w;unfold g6;have I:(x::r.names).Nodup:=I;obtain⟨J,L⟩:=List.nodup_cons.mp I;obtain⟨y,v,e,f⟩:=zZ ns r w.2.2 L i room n h (by simpa[Fs.names] using hi);refine⟨y,v,e,?_⟩;unfold jE;exact .inr ⟨λz=>J (by rw[<-z];exact zW f),f⟩
end
mutual
noncomputable def Kd.dB:Kd->Nat
 | .num=>1
 | .fC=>1
 | .fL fs=>fs.dB+1
 | .rows _ _ fs=>fs.dB+2
 | .tree k=>k.dB+10
 | .gy fs=>fs.dB+2
noncomputable def Fs.dB:Fs->Nat
 | .nil=>0
 | .cons _ k r=>max k.dB r.dB
end
mutual
noncomputable def Kd.cB:Kd->Nat
 | .num=>1
 | .fC=>1
 | .fL fs=>fs.cB
 | .rows _ _ fs=>8 * fs.cB+1
 | .tree k=>(k.cB+1) * 585
 | .gy fs=>fs.cB+1
noncomputable def Fs.cB:Fs->Nat
 | .nil=>0
 | .cons _ k r=>k.cB+r.cB
end
theorem oy:∀{l:List Ds}{n:Nat},(∀m∈l,m.dep<=n)->(fi l).dep<=n+1
 |[],n,_=>by simp[fi,Ds.dep]
 |m::r,n,h=>by
  have h1:=h m Q0b;have h2:=oy (l:=r) (n:=n) λx z=>h x (Q0e _ z);simp only[fi,Ds.dep,D.dep];omega
theorem z7 {g:Int->D × Int}{N:Nat}(z:∀n,(g n).1.dep<=N):∀(m:Nat) (n:Int),(times g m n).1.dep<=N
 |0,_=>by simp[times,Ds.dep]
 |m+1,n=>by
  have h1:=z n;have h2:=z7 z m (g n).2;simp only[times,Ds.dep];omega
theorem z8 {ns:List Int}{f:Nat->Int->D × Int}{N:Nat}(h1:1<=N)(z:∀room n,(f room n).1.dep<=N):∀(fu room:Nat) (n:Int),(gD ns f fu room n).1.dep<=N+2 * fu
 |0,_,_=>by simp[gD,D.dep];omega
 |fu+1,room,n=>by
  have a:=z (room / 2) n;have b:=z7 (g:=gD ns f fu (room / 2)) (N:=N+2 * fu) (λn=>z8 h1 z fu (room / 2) n) (nx ns ((f (room / 2) n).2+1) % ((room:Int)+1)).toNat ((f (room / 2) n).2+1);simp only[gD,D.dep,Ds.dep];omega
theorem Kd.FC (k:Kd):1<=k.dB:=by cases k <;> simp[Kd.dB]
mutual
theorem sP (ns:List Int):∀(k:Kd) (room:Nat) (n:Int),(val ns k room n).1.dep<=k.dB
 | .num,_,_=>by simp[val,D.dep,Kd.dB]
 | .fC,_,_=>by simp[val,D.dep,Kd.dB]
 | .fL fs,room,n=>by
   have:=p8 ns fs room n;simp only[val,D.dep,Kd.dB];omega
 | .rows key by_ fs,room,n=>by
   have:=oy (l:=fV key by_ (fW (e_ ns fs (room / 2)) key (nx ns (n+1) % ((room:Int)+1)).toNat [] (n+1)).1) (n:=fs.dB) λm z=>
    m7 (R:=λm=>m.dep<=fs.dB) (λn=>p8 ns fs (room / 2) n) _ _ _ (λr I=>absurd I (by simp)) m ((i_ key by_ _).mem_iff.mp z)
   simp only[val,D.dep,Kd.dB];omega
 | .tree k,room,n=>by
   have:=z8 (ns:=ns) (f:=val ns k) k.FC (λroom n=>sP ns k room n) 4 room n;simp only[val,Kd.dB];omega
 | .gy fs,room,n=>by
   have:=z9 ns fs (nx ns (n+1) % (fs.names.length:Int)).toNat room (n+1);simp only[val,Kd.dB];omega
theorem p8 (ns:List Int):∀(fs:Fs) (room:Nat) (n:Int),(e_ ns fs room n).1.dep<=fs.dB
 | .nil,_,_=>by simp[e_,Ds.dep]
 | .cons x k r,room,n=>by
   have a:=sP ns k room n;have b:=p8 ns r room (val ns k room n).2;simp only[e_,Ds.dep,Fs.dB];omega
theorem z9 (ns:List Int):∀(fs:Fs) (i room:Nat) (n:Int),(g6 ns fs i room n).1.dep<=fs.dB+2
 | .nil,_,_,_=>by simp[g6,D.dep]
 | .cons x k r,0,room,n=>by
   have a:=sP ns k room n;simp only[g6,D.dep,Ds.dep,Fs.dB];omega
 | .cons x k r,i+1,room,n=>by
   have a:=z9 ns r i room n;simp only[g6,Fs.dB];omega
end
theorem mod_le {a:Int}{room:Nat}(h:room<8):(a % ((room:Int)+1)).toNat<=room:=by
 have:=Q0j a (show(0:Int)<(room:Int)+1 by omega);have:=Q0h a (show((room:Int)+1)≠0 by omega);omega
theorem sQ {g:Int->D × Int}{N:Nat}(z:∀n,n<=(g n).2/\(g n).2<=n+N):∀(m:Nat) (n:Int),n<=(times g m n).2/\(times g m n).2<=n+(m * N:Nat)
 |0,n=>by simp[times]
 |m+1,n=>by
  obtain⟨I,J⟩:=z n;obtain⟨L,U⟩:=sQ z m (g n).2;have e:(m+1) * N=m * N+N:=Q1j m N;simp only[times];rw[e];omega
noncomputable def jX:Nat->Nat
 |0=>0
 |n+1=>8 * jX n+1
theorem m8 {ns:List Int}{f:Nat->Int->D × Int}{N:Nat}(z:∀room n,room<8->n<=(f room n).2/\(f room n).2<=n+N):∀(fu room:Nat) (n:Int),room<8->n<=(gD ns f fu room n).2/\(gD ns f fu room n).2<=n+((N+1) * jX fu:Nat)
 |0,_,n,_=>by simp[gD,jX]
 |fu+1,room,n,h=>by
  obtain⟨I,J⟩:=z (room / 2) n (by omega);obtain⟨L,U⟩:=sQ (g:=gD ns f fu (room / 2)) (N:=(N+1) * jX fu) (λn=>m8 z fu (room / 2) n (by omega)) (nx ns ((f (room / 2) n).2+1) % ((room:Int)+1)).toNat ((f (room / 2) n).2+1);have c:=mod_le (a:=nx ns ((f (room / 2) n).2+1)) h;have d:(nx ns ((f (room / 2) n).2+1) % ((room:Int)+1)).toNat * ((N+1) * jX fu)<=8 * ((N+1) * jX fu):=Q11 _ (by omega)
  have e:(N+1) * jX (fu+1)=8 * ((N+1) * jX fu)+(N+1):=by
   show(N+1) * (8 * jX fu+1)=_;rw[Nat.mul_add,Q34,Nat.mul_one]
  simp only[gD];rw[e];omega
theorem p9 {g:Int->Ds × Int}{key:Str}{N:Nat}(I:∀n,n<=(g n).2/\(g n).2<=n+N):∀(m:Nat) (z:List Ds) (n:Int),n<=(fW g key m z n).2/\(fW g key m z n).2<=n+(m * N:Nat)
 |0,_,n=>by simp[fW]
 |m+1,z,n=>by
  obtain⟨U,Y⟩:=I n;have e:(m+1) * N=m * N+N:=Q1j m N;unfold fW;rw[e];split
  . obtain⟨J,L⟩:=p9 (key:=key) I m z (g n).2;omega
  . obtain⟨J,L⟩:=p9 (key:=key) I m (z++[(g n).1]) (g n).2;omega
mutual
theorem m9 (ns:List Int):∀(k:Kd) (room:Nat) (n:Int),room<8->n<=(val ns k room n).2/\(val ns k room n).2<=n+k.cB
 | .num,_,_,_=>by simp only[val,Kd.cB];omega
 | .fC,_,_,_=>by simp only[val,Kd.cB];omega
 | .fL fs,room,n,h=>by
   have:=m_ ns fs room n h;simp only[val,Kd.cB];omega
 | .rows key by_ fs,room,n,h=>by
   obtain⟨z,I⟩:=p9 (g:=e_ ns fs (room / 2)) (key:=key) (N:=fs.cB) (λn=>m_ ns fs (room / 2) n (by omega)) (nx ns (n+1) % ((room:Int)+1)).toNat [] (n+1);have c:=mod_le (a:=nx ns (n+1)) h;have d:(nx ns (n+1) % ((room:Int)+1)).toNat * fs.cB<=8 * fs.cB:=Q11 _ (by omega);simp only[val,Kd.cB];omega
 | .tree k,room,n,h=>by
   have:=m8 (ns:=ns) (f:=val ns k) (N:=k.cB) (λroom n h=>m9 ns k room n h) 4 room n h;have e:jX 4=585:=rfl;rw[e] at this;simp only[val,Kd.cB];omega
 | .gy fs,room,n,h=>by
   have:=z_ ns fs (nx ns (n+1) % (fs.names.length:Int)).toNat room (n+1) h;simp only[val,Kd.cB];omega
theorem m_ (ns:List Int):∀(fs:Fs) (room:Nat) (n:Int),room<8->n<=(e_ ns fs room n).2/\(e_ ns fs room n).2<=n+fs.cB
 | .nil,_,_,_=>by simp[e_,Fs.cB]
 | .cons x k r,room,n,h=>by
   have a:=m9 ns k room n h;have b:=m_ ns r room (val ns k room n).2 h;simp only[e_,Fs.cB];omega
theorem z_ (ns:List Int):∀(fs:Fs) (i room:Nat) (n:Int),room<8->n<=(g6 ns fs i room n).2/\(g6 ns fs i room n).2<=n+fs.cB
 | .nil,_,_,_,_=>by simp[g6,Fs.cB]
 | .cons x k r,0,room,n,h=>by
   have a:=m9 ns k room n h;simp only[g6,Fs.cB];omega
 | .cons x k r,i+1,room,n,h=>by
   have a:=z_ ns r i room n h;simp only[g6,Fs.cB];omega
end
noncomputable def CB:Nat->Nat
 |0=>1
 |d+1=>1200 * CB d
theorem ng:∀d,1<=CB d
 |0=>Q00 _
 |d+1=>by have:=ng d;show 1<=1200 * CB d;omega
mutual
theorem Aa:∀(k:Kd) (d:Nat),k.W->k.dep<=d+1->k.cB<=CB d
 | .num,d,_,_=>ng d
 | .fC,d,_,_=>ng d
 | .fL fs,0,_,h=>by
   simp only[Kd.dep] at h
   cases fs with
   |nil=>simp[Kd.cB,Fs.cB]
   |cons x k r=>have:=k.kU;simp only[Fs.dep] at h;omega
 | .fL fs,d+1,w,h=>by
   unfold Kd.W at w;simp only[Kd.dep] at h;have:=oz fs d w.2.2 (by omega);have e:fs.names.length * CB d<=12 * CB d:=Q11 _ w.2.1;show fs.cB<=1200 * CB d;omega
 | .rows key by_ fs,0,w,h=>by
   simp only[Kd.dep] at h
   cases fs with
   |nil=>simp[Kd.cB,Fs.cB,CB]
   |cons x k r=>have:=k.kU;simp only[Fs.dep] at h;omega
 | .rows key by_ fs,d+1,w,h=>by
   unfold Kd.W at w;simp only[Kd.dep] at h;have:=oz fs d w.2.2.1 (by omega);have e:fs.names.length * CB d<=12 * CB d:=Q11 _ w.2.1;have p:=ng d;show 8 * fs.cB+1<=1200 * CB d;omega
 | .tree k,0,w,h=>by
   have:=k.kU;simp only[Kd.dep] at h;omega
 | .tree k,d+1,w,h=>by
   unfold Kd.W at w;simp only[Kd.dep] at h;have:=Aa k d w (by omega);have p:=ng d;show(k.cB+1) * 585<=1200 * CB d;omega
 | .gy fs,0,w,h=>by
   simp only[Kd.dep] at h
   cases fs with
   |nil=>simp[Kd.cB,Fs.cB,CB]
   |cons x k r=>have:=k.kU;simp only[Fs.dep] at h;omega
 | .gy fs,d+1,w,h=>by
   unfold Kd.W at w;simp only[Kd.dep] at h;have:=oz fs d w.2.2.2 (by omega);have e:fs.names.length * CB d<=12 * CB d:=Q11 _ w.2.1;have p:=ng d;show fs.cB+1<=1200 * CB d;omega
theorem oz:∀(fs:Fs) (d:Nat),fs.W->fs.dep<=d+1->fs.cB<=fs.names.length * CB d
 | .nil,d,_,_=>by simp[Fs.cB]
 | .cons x k r,d,w,h=>by
   unfold Fs.W at w;simp only[Fs.dep] at h;have a:=Aa k d w.1 (by omega);have b:=oz r d w.2.2 (by omega);show k.cB+r.cB<=(r.names.length+1) * CB d;rw[Q1j];omega
end
mutual
theorem Ab:∀(k:Kd),k.dB+8<=10 * k.dep
 | .num=>by simp[Kd.dB,Kd.dep]
 | .fC=>by simp[Kd.dB,Kd.dep]
 | .fL fs=>by have:=oA fs;simp only[Kd.dB,Kd.dep];omega
 | .rows _ _ fs=>by have:=oA fs;simp only[Kd.dB,Kd.dep];omega
 | .tree k=>by have:=Ab k;simp only[Kd.dB,Kd.dep];omega
 | .gy fs=>by have:=oA fs;simp only[Kd.dB,Kd.dep];omega
theorem oA:∀(fs:Fs),fs.dB<=10 * fs.dep - 8
 | .nil=>by simp[Fs.dB]
 | .cons x k r=>by
   have a:=Ab k;have b:=oA r;simp only[Fs.dB,Fs.dep];omega
end
end Pb
namespace Pb
open L2
mutual
def KA (H:Hp):V->Kd->Prop
 |v,.num=>∃a,v=.ref a/\H a=some (.tup [.str "number"])
 |v,.fC=>∃a,v=.ref a/\H a=some (.tup [.str "word"])
 |v,.fL fs=>∃a b vs,v=.ref a/\H a=some (.tup [.str "record",.ref b])/\H b=some (.tup vs)/\FA H vs fs
 |v,.rows key by_ fs=>∃a b vs,v=.ref a/\H a=some (.tup [.str "rows",.str key,.str by_,.ref b])/\H b=some (.tup vs)/\FA H vs fs
 |v,.tree k=>∃a u,v=.ref a/\H a=some (.tup [.str "tree",u])/\KA H u k
 |v,.gy fs=>∃a b vs,v=.ref a/\H a=some (.tup [.str "either",.ref b])/\H b=some (.tup vs)/\FA H vs fs
def FA (H:Hp):List V->Fs->Prop
 |vs,.nil=>vs=[]
 |vs,.cons x k r=>∃c u z,vs=.ref c::z/\H c=some (.tup [.str x,u])/\KA H u k/\FA H z r
end
def Tu (H H':Hp):Prop:=∀a xs,H a=some (.tup xs)->H' a=some (.tup xs)
theorem Tu.trans {H H1 H2:Hp}(a:Tu H H1)(b:Tu H1 H2):Tu H H2:=λc xs h=>b c xs (a c xs h)
theorem Tu.of {H H':Hp}(s:Same H H'):Tu H H':=λa xs h=>s a _ h
theorem Tu.wr {H:Hp}{p:Addr}{o:HO}(h:∀xs,H p≠some (.tup xs)):Tu H (upd H p o):=λa xs e=>by
 rw[d_ (λz=>h xs (by rw[<-z];exact e))];exact e
mutual
theorem KA.mono {H H':Hp}(t:Tu H H'):∀{v:V}(k:Kd),KA H v k->KA H' v k
 |v,.num,h=>by
  unfold KA at h ⊢;obtain⟨a,e,q⟩:=h;exact⟨a,e,t _ _ q⟩
 |v,.fC,h=>by
  unfold KA at h ⊢;obtain⟨a,e,q⟩:=h;exact⟨a,e,t _ _ q⟩
 |v,.fL fs,h=>by
  unfold KA at h ⊢;obtain⟨a,b,vs,e,z,I,f⟩:=h;exact⟨a,b,vs,e,t _ _ z,t _ _ I,FA.mono t fs f⟩
 |v,.rows key by_ fs,h=>by
  unfold KA at h ⊢;obtain⟨a,b,vs,e,z,I,f⟩:=h;exact⟨a,b,vs,e,t _ _ z,t _ _ I,FA.mono t fs f⟩
 |v,.tree k,h=>by
  unfold KA at h ⊢;obtain⟨a,u,e,q,f⟩:=h;exact⟨a,u,e,t _ _ q,KA.mono t k f⟩
 |v,.gy fs,h=>by
  unfold KA at h ⊢;obtain⟨a,b,vs,e,z,I,f⟩:=h;exact⟨a,b,vs,e,t _ _ z,t _ _ I,FA.mono t fs f⟩
theorem FA.mono {H H':Hp}(t:Tu H H'):∀{vs:List V}(fs:Fs),FA H vs fs->FA H' vs fs
 |vs,.nil,h=>by
  unfold FA at h ⊢;exact h
 |vs,.cons x k r,h=>by
  unfold FA at h ⊢;obtain⟨c,u,z,e,q,f,g⟩:=h;exact⟨c,u,z,e,t _ _ q,KA.mono t k f,FA.mono t r g⟩
end
theorem FA.len {H:Hp}:∀{vs:List V}(fs:Fs),FA H vs fs->vs.length=fs.names.length
 |vs,.nil,h=>by
  unfold FA at h;rw[h];rfl
 |vs,.cons x k r,h=>by
  unfold FA at h;obtain⟨c,u,z,e,_,_,g⟩:=h;rw[e];show z.length+1=r.names.length+1;rw[FA.len r g]
theorem FA.get {H:Hp}:∀{vs:List V}(fs:Fs) {i:Nat}{v:V},FA H vs fs->vs[i]? =some v->∃c u x k,v=.ref c/\fs.at i=some (x,k)/\H c=some (.tup [.str x,u])/\KA H u k
 |vs,.nil,i,v,h,e=>by
  unfold FA at h;rw[h] at e;simp at e
 |vs,.cons x k r,0,v,h,e=>by
  unfold FA at h;obtain⟨c,u,I,z,q,f,_⟩:=h;rw[z] at e;have e:some (V.ref c)=some v:=e
  cases e;exact⟨c,u,x,k,rfl,rfl,q,f⟩
 |vs,.cons x k r,i+1,v,h,e=>by
  unfold FA at h;obtain⟨c,u,I,z,_,_,g⟩:=h;rw[z] at e;exact FA.get r (i:=i) g (by simpa using e)
theorem FA.at {H:Hp}{vs:List V}{fs:Fs}{i:Nat}{x:Str}{k:Kd}(h:FA H vs fs)(e:fs.at i=some (x,k)):∃c u,vs[i]? =some (.ref c)/\H c=some (.tup [.str x,u])/\KA H u k:=by
 have hl:=FA.len fs h
 have hi:i<fs.names.length:=by
  have:fs.names[i]? =some x:=by rw[Fs.jD,e];rfl
  exact(List.getElem?_eq_some_iff.mp this).1
 have z:vs[i]? =some (vs[i]'(by omega)):=Q02 (by omega);obtain⟨c,u,L,U,h1,h2,I,J⟩:=FA.get fs h z;rw[e] at h2;cases h2;exact⟨c,u,by rw[z,h1],I,J⟩
theorem FA.snoc {H:Hp}{c:Addr}{u:V}{x:Str}{k:Kd}(hc:H c=some (.tup [.str x,u]))(z:KA H u k):∀{vs:List V}(fs:Fs),FA H vs fs->FA H (vs++[.ref c]) (fs.snoc x k)
 |vs,.nil,h=>by
  unfold FA at h;subst h;show FA H [.ref c] (.cons x k .nil);unfold FA;exact⟨c,u,[],rfl,hc,z,by unfold FA;rfl⟩
 |vs,.cons y q r,h=>by
  unfold FA at h;obtain⟨d,w,I,e,h1,h2,J⟩:=h;subst e;show FA H (.ref d::(I++[.ref c])) (.cons y q (r.snoc x k));unfold FA;exact⟨d,w,I++[.ref c],rfl,h1,h2,FA.snoc hc z r J⟩
mutual
def Own (H:Hp):V->D->List Addr->Prop
 |v,.int z,I=>v=.int z/\I=[]
 |v,.str x,I=>v=.str x/\I=[]
 |v,.non,I=>v=.non/\I=[]
 |v,.boo b,I=>v=.bl b/\I=[]
 |v,.tup xs,I=>∃a vs,v=.ref a/\H a=some (.tup vs)/\eR H vs xs I
 |v,.lst xs,I=>∃a vs J,v=.ref a/\H a=some (.lst vs)/\I=a::J/\eR H vs xs J
 |v,.dct m,I=>∃a kvs J,v=.ref a/\H a=some (.dK kvs)/\I=a::J/\eN H kvs m J
def eR (H:Hp):List V->Ds->List Addr->Prop
 |vs,.nil,z=>vs=[]/\z=[]
 |vs,.cons _ d r,z=>∃v q f1 f2,vs=v::q/\z=f1++f2/\Own H v d f1/\eR H q r f2
def eN (H:Hp):List (Key × V)->Ds->List Addr->Prop
 |kvs,.nil,z=>kvs=[]/\z=[]
 |kvs,.cons x d r,z=>∃v q f1 f2,kvs=(Sum.inr x,v)::q/\z=f1++f2/\Own H v d f1/\eN H q r f2
end
mutual
theorem Own.keep {H H':Hp}(t:Tu H H'):∀{v:V}(d:D) {I:List Addr},(∀a∈I,∀o,H a=some o->H' a=some o)->Own H v d I->Own H' v d I
 |v,.int z,I,k,h=>by unfold Own at h ⊢;exact h
 |v,.str x,I,k,h=>by unfold Own at h ⊢;exact h
 |v,.non,I,k,h=>by unfold Own at h ⊢;exact h
 |v,.boo _,I,k,h=>by unfold Own at h ⊢;exact h
 |v,.tup xs,I,k,h=>by
  unfold Own at h ⊢;obtain⟨a,vs,e,q,f⟩:=h;exact⟨a,vs,e,t _ _ q,eR.keep t xs k f⟩
 |v,.lst xs,I,k,h=>by
  unfold Own at h ⊢;obtain⟨a,vs,J,e,q,rfl,f⟩:=h;exact⟨a,vs,J,e,k a Q0b _ q,rfl,eR.keep t xs (λb L=>k b (Q0e _ L)) f⟩
 |v,.dct m,I,k,h=>by
  unfold Own at h ⊢;obtain⟨a,vs,J,e,q,rfl,f⟩:=h;exact⟨a,vs,J,e,k a Q0b _ q,rfl,eN.keep t m (λb L=>k b (Q0e _ L)) f⟩
theorem eR.keep {H H':Hp}(t:Tu H H'):∀{vs:List V}(xs:Ds) {z:List Addr},(∀a∈z,∀o,H a=some o->H' a=some o)->eR H vs xs z->eR H' vs xs z
 |vs,.nil,z,k,h=>by unfold eR at h ⊢;exact h
 |vs,.cons x d r,z,k,h=>by
  unfold eR at h ⊢;obtain⟨v,q,f1,f2,e,rfl,J,L⟩:=h;exact⟨v,q,f1,f2,e,rfl,Own.keep t d (λb I=>k b (Q0r _ I)) J,eR.keep t r (λb I=>k b (Q05 _ I)) L⟩
theorem eN.keep {H H':Hp}(t:Tu H H'):∀{kvs:List (Key × V)}(m:Ds) {z:List Addr},(∀a∈z,∀o,H a=some o->H' a=some o)->eN H kvs m z->eN H' kvs m z
 |kvs,.nil,z,k,h=>by unfold eN at h ⊢;exact h
 |kvs,.cons x d r,z,k,h=>by
  unfold eN at h ⊢;obtain⟨v,q,f1,f2,e,rfl,J,L⟩:=h;exact⟨v,q,f1,f2,e,rfl,Own.keep t d (λb I=>k b (Q0r _ I)) J,eN.keep t r (λb I=>k b (Q05 _ I)) L⟩
end
theorem Own.same {H H':Hp}{v:V}{d:D}{z:List Addr}(s:Same H H')(h:Own H v d z):Own H' v d z:=h.keep (Tu.of s) d λa _ o e=>s a o e
theorem eR.same {H H':Hp}{v:List V}{d:Ds}{z:List Addr}(s:Same H H')(h:eR H v d z):eR H' v d z:=h.keep (Tu.of s) d λa _ o e=>s a o e
theorem eN.same {H H':Hp}{v:List (Key × V)}{d:Ds}{z:List Addr}(s:Same H H')(h:eN H v d z):eN H' v d z:=h.keep (Tu.of s) d λa _ o e=>s a o e
def Mu (H:Hp) (a:Addr):Prop:=(∃xs,H a=some (.lst xs))\/∃kvs,H a=some (.dK kvs)
mutual
theorem Own.alive {H:Hp}:∀{v:V}(d:D) {I:List Addr},Own H v d I->∀a∈I,Mu H a
 |v,.int z,I,h=>by unfold Own at h;rw[h.2];intro a J;exact absurd J (by simp)
 |v,.str x,I,h=>by unfold Own at h;rw[h.2];intro a J;exact absurd J (by simp)
 |v,.non,I,h=>by unfold Own at h;rw[h.2];intro a J;exact absurd J (by simp)
 |v,.boo _,I,h=>by unfold Own at h;rw[h.2];intro a J;exact absurd J (by simp)
 |v,.tup xs,I,h=>by
  unfold Own at h;obtain⟨a,vs,e,q,f⟩:=h;exact eR.alive xs f
 |v,.lst xs,I,h=>by
  unfold Own at h;obtain⟨a,vs,U,e,q,rfl,f⟩:=h;intro b L;rcases List.mem_cons.mp L with z|z
  . rw[z];exact .inl ⟨_,q⟩
  . exact eR.alive xs f b z
 |v,.dct m,I,h=>by
  unfold Own at h;obtain⟨a,vs,U,e,q,rfl,f⟩:=h;intro b L;rcases List.mem_cons.mp L with z|z
  . rw[z];exact .inr ⟨_,q⟩
  . exact eN.alive m f b z
theorem eR.alive {H:Hp}:∀{vs:List V}(xs:Ds) {I:List Addr},eR H vs xs I->∀a∈I,Mu H a
 |vs,.nil,I,h=>by unfold eR at h;rw[h.2];intro a J;exact absurd J (by simp)
 |vs,.cons x d r,I,h=>by
  unfold eR at h;obtain⟨v,q,f1,f2,e,rfl,L,U⟩:=h;intro b Y;rcases List.mem_append.mp Y with z|z
  . exact Own.alive d L b z
  . exact eR.alive r U b z
theorem eN.alive {H:Hp}:∀{kvs:List (Key × V)}(m:Ds) {I:List Addr},eN H kvs m I->∀a∈I,Mu H a
 |kvs,.nil,I,h=>by unfold eN at h;rw[h.2];intro a J;exact absurd J (by simp)
 |kvs,.cons x d r,I,h=>by
  unfold eN at h;obtain⟨v,q,f1,f2,e,rfl,L,U⟩:=h;intro b Y;rcases List.mem_append.mp Y with z|z
  . exact Own.alive d L b z
  . exact eN.alive r U b z
end
theorem Mu.ex {H:Hp}{a:Addr}(h:Mu H a):∃o,H a=some o:=by
 rcases h with⟨_,h⟩|⟨_,h⟩ <;> exact⟨_,h⟩
theorem Mu.sR {H:Hp}{a:Addr}(h:Mu H a)(xs:List V):H a≠some (.tup xs):=λz=>by
 rcases h with⟨_,h⟩|⟨_,h⟩ <;> rw[h] at z <;> cases z
noncomputable def Ds.len:Ds->Nat
 | .nil=>0
 | .cons _ _ r=>r.len+1
noncomputable def Ds.names:Ds->List Str
 | .nil=>[]
 | .cons x _ r=>x::r.names
noncomputable def Ds.at:Ds->Nat->Option D
 | .nil,_=>none
 | .cons _ d _,0=>some d
 | .cons _ _ r,i+1=>r.at i
noncomputable def Ds.snoc:Ds->Str->D->Ds
 | .nil,x,d=>.cons x d .nil
 | .cons y e r,x,d=>.cons y e (r.snoc x d)
theorem Ds.lY:∀{xs:Ds}{i:Nat}{d:D},xs.at i=some d->d.dep<=xs.dep
 | .nil,_,_,h=>by cases h
 | .cons _ d r,0,_,h=>by cases h;exact Q1t _ _
 | .cons _ d r,i+1,_,h=>Q0f (Ds.lY (xs:=r) (i:=i) h) (Q1u _ _)
theorem Ds.p_:∀{xs:Ds}{x:Str}{d:D},xs.get x=some d->d.dep<=xs.dep
 | .nil,_,_,h=>by cases h
 | .cons y e r,x,d,h=>by
   have h:(if x=y then some e else r.get x)=some d:=h;by_cases c:x=y
   . rw[if_pos c] at h;cases h;exact Q1t _ _
   . rw[if_neg c] at h;exact Q0f (Ds.p_ h) (Q1u _ _)
theorem eR.len {H:Hp}:∀{vs:List V}(xs:Ds) {z:List Addr},eR H vs xs z->vs.length=xs.len
 |vs,.nil,z,h=>by unfold eR at h;rw[h.1];rfl
 |vs,.cons x d r,z,h=>by
  unfold eR at h;obtain⟨v,q,f1,f2,rfl,rfl,J,I⟩:=h;show q.length+1=r.len+1;rw[eR.len r I]
theorem eR.get {H:Hp}:∀{vs:List V}(xs:Ds) {z:List Addr}{i:Nat}{v:V},eR H vs xs z->vs[i]? =some v->∃d f,xs.at i=some d/\Own H v d f/\∀a∈f,a∈z
 |vs,.nil,z,i,v,h,e=>by
  unfold eR at h;rw[h.1] at e;simp at e
 |vs,.cons x d r,z,0,v,h,e=>by
  unfold eR at h;obtain⟨w,q,f1,f2,rfl,rfl,J,L⟩:=h;have e:some w=some v:=e
  cases e;exact⟨d,f1,rfl,J,λa I=>Q0r _ I⟩
 |vs,.cons x d r,z,i+1,v,h,e=>by
  unfold eR at h;obtain⟨w,q,f1,f2,rfl,rfl,J,L⟩:=h;obtain⟨d',f,h1,h2,U⟩:=eR.get r (i:=i) L (by simpa using e);exact⟨d',f,h1,h2,λa I=>Q05 _ (U a I)⟩
theorem eR.snoc {H:Hp}{v:V}{d:D}{g:List Addr}{y:Str}(I:Own H v d g):∀{vs:List V}(xs:Ds) {z:List Addr},eR H vs xs z->eR H (vs++[v]) (xs.snoc y d) (z++g)
 |vs,.nil,z,h=>by
  unfold eR at h;obtain⟨rfl,rfl⟩:=h;show eR H [v] (.cons y d .nil) g;unfold eR;exact⟨v,[],g,[],rfl,by simp,I,by unfold eR;exact⟨rfl,rfl⟩⟩
 |vs,.cons x e r,z,h=>by
  unfold eR at h;obtain⟨w,q,f1,f2,rfl,rfl,J,L⟩:=h;show eR H (w::(q++[v])) (.cons x e (r.snoc y d)) (f1++f2++g);unfold eR;exact⟨w,q++[v],f1,f2++g,rfl,by rw[Q0p],J,eR.snoc I r L⟩
theorem eN.snoc {H:Hp}{v:V}{d:D}{g:List Addr}{y:Str}(I:Own H v d g):∀{kvs:List (Key × V)}(xs:Ds) {z:List Addr},eN H kvs xs z->eN H (kvs++[(Sum.inr y,v)]) (xs.snoc y d) (z++g)
 |kvs,.nil,z,h=>by
  unfold eN at h;obtain⟨rfl,rfl⟩:=h;show eN H [(Sum.inr y,v)] (.cons y d .nil) g;unfold eN;exact⟨v,[],g,[],rfl,by simp,I,by unfold eN;exact⟨rfl,rfl⟩⟩
 |kvs,.cons x e r,z,h=>by
  unfold eN at h;obtain⟨w,q,f1,f2,rfl,rfl,J,L⟩:=h;show eN H ((Sum.inr x,w)::(q++[(Sum.inr y,v)])) (.cons x e (r.snoc y d)) (f1++f2++g);unfold eN;exact⟨w,q++[(Sum.inr y,v)],f1,f2++g,rfl,by rw[Q0p],J,eN.snoc I r L⟩
theorem eN.keys {H:Hp}:∀{kvs:List (Key × V)}(m:Ds) {z:List Addr},eN H kvs m z->kvs.map (·.1)=m.names.map Sum.inr
 |kvs,.nil,z,h=>by unfold eN at h;rw[h.1];rfl
 |kvs,.cons x d r,z,h=>by
  unfold eN at h;obtain⟨v,q,f1,f2,rfl,rfl,J,I⟩:=h;show Sum.inr x::q.map (·.1)=Sum.inr x::r.names.map Sum.inr;rw[eN.keys r I]
theorem eN.len {H:Hp}{kvs:List (Key × V)}{m:Ds}{z:List Addr}(h:eN H kvs m z):kvs.length=m.names.length:=by
 have:=congrArg List.length (eN.keys m h);simpa using this
theorem eN.val {H:Hp}:∀{kvs:List (Key × V)}(m:Ds) {J:List Addr}{x:Str}{d:D},eN H kvs m J->m.get x=some d->∃v f,gH kvs (Sum.inr x)=some v/\Own H v d f/\∀a∈f,a∈J
 |kvs,.nil,J,x,d,h,e=>by cases e
 |kvs,.cons y e r,J,x,d,h,I=>by
  unfold eN at h;obtain⟨v,q,f1,f2,rfl,rfl,U,Y⟩:=h;have I:(if x=y then some e else r.get x)=some d:=I;by_cases c:x=y
  . rw[if_pos c] at I
    cases I;exact⟨v,f1,n0 (by rw[c]),U,λa L=>Q0r _ L⟩
  . rw[if_neg c] at I;obtain⟨w,f,h1,h2,h3⟩:=eN.val r Y I;exact⟨w,f,by rw[n6 (λz=>c (Sum.inr.inj z).symm)];exact h1,h2,λa L=>Q05 _ (h3 a L)⟩
theorem fQ.names:∀{fs:Fs}{m:Ds},fQ fs m->m.names=fs.names
 | .nil,m,h=>by unfold fQ at h;rw[h];rfl
 | .cons x k r,m,h=>by
   unfold fQ at h;obtain⟨d,q,rfl,_,g⟩:=h;show x::q.names=x::r.names;rw[fQ.names g]
theorem eN.Ac {H:Hp}{kvs:List (Key × V)}{m:Ds}{z:List Addr}{x:Str}(h:eN H kvs m z)(I:x ∉ m.names):gH kvs (Sum.inr x)=none:=by
 cases e:gH kvs (Sum.inr x) with
 |none=>rfl
 |some v=>
  have:=EC e;rw[eN.keys m h] at this;obtain⟨y,J,L⟩:=List.mem_map.mp this
  cases L;exact absurd J I
theorem qa {kvs:List (Key × V)}{k:Key}{v:V}(h:gH kvs k=none):putK kvs k v=kvs++[(k,v)]:=by
 unfold putK;rw[if_neg];rw[n9,h];simp
def Kp (S:Addr->Prop) (H H':Hp):Prop:=∀c o,¬S c->H c=some o->H' c=some o
theorem Kp.refl (S:Addr->Prop)(H:Hp):Kp S H H:=λ_ _ _ h=>h
theorem Kp.trans {S:Addr->Prop}{H H1 H2:Hp}(x:Kp S H H1)(y:Kp S H1 H2):Kp S H H2:=λc o n h=>y c o n (x c o n h)
theorem Kp.of {S:Addr->Prop}{H H':Hp}(s:Same H H'):Kp S H H':=λc o _ h=>s c o h
theorem Kp.oB {S:Addr->Prop}{H H':Hp}{a:Addr}(x:Kp S H H')(z:¬S a)(h:H' a=none):H a=none:=by
 cases e:H a with
 |none=>rfl
 |some o=>rw[x a o z e] at h;cases h
inductive A3 {α β γ:Type} (R:α->β->γ->Prop):List α->List β->List γ->Prop
 |nil:A3 R [] [] []
 |cons {a:α} {b:β} {c:γ} {as:List α} {bs:List β} {cs:List γ}:R a b c->A3 R as bs cs->A3 R (a::as) (b::bs) (c::cs)
theorem A3.snoc {α z I:Type}{R:α->z->I->Prop}{a:α}{b:z}{c:I}(h:R a b c):∀{as:List α}{bs:List z}{J:List I},A3 R as bs J->A3 R (as++[a]) (bs++[b]) (J++[c])
 |_,_,_,.nil=>.cons h .nil
 |_,_,_,.cons x r=>.cons x (A3.snoc h r)
theorem A3.len {α I J:Type}{R:α->I->J->Prop}:∀{as:List α}{bs:List I}{z:List J},A3 R as bs z->as.length=bs.length/\as.length=z.length
 |_,_,_,.nil=>⟨rfl,rfl⟩
 |_,_,_,.cons x r=>by
  obtain⟨h1,h2⟩:=A3.len r;simp only[Q0g];omega
theorem A3.at {α z I:Type}{R:α->z->I->Prop}{a0:α}{b0:z}{c0:I}:∀{as:List α}{bs:List z}{J:List I},A3 R as bs J->∀i,i<as.length->R (as.getD i a0) (bs.getD i b0) (J.getD i c0)
 |_,_,_,.nil,i,h=>absurd h (by simp)
 |_,_,_,.cons x r,0,h=>x
 |_,_,_,.cons x r,i+1,h=>by
  have:=A3.at (a0:=a0) (b0:=b0) (c0:=c0) r i (by simpa using h);simpa using this
theorem A3.pick {α z I:Type}{R:α->z->I->Prop}{a0:α}{b0:z}{c0:I}{as:List α}{bs:List z}{J:List I}(h:A3 R as bs J):∀p:List Nat,(∀i∈p,i<as.length)->A3 R (p.map λi=>as.getD i a0) (p.map λi=>bs.getD i b0) (p.map λi=>J.getD i c0)
 |[],_=>.nil
 |i::p,hp=>.cons (h.at i (hp i Q0b)) (A3.pick h p λj L=>hp j (Q0e _ L))
theorem FD {α:Type}(a0:α):∀l:List α,((List.range l.length).map λi=>l.getD i a0)=l:=λl=>by
 apply Q2y
 . simp
 . intro i h1 h2;simp[h2]
theorem qb {α:Type}(a0:α){l:List α}{p:List Nat}(h:p.Perm (List.range l.length)):(p.map λi=>l.getD i a0).Perm l:=by
 have:=h.map (λi=>l.getD i a0)
 rwa [FD] at this
theorem qc {α:Type}{z I:List (List α)}(h:z.Perm I):z.flatten.Perm I.flatten:=by
 induction h with
 |nil=>exact List.Perm.refl _
 |cons x _ J=>exact J.append_left x
 |swap x y l=>
  show(y++(x++l.flatten)).Perm (x++(y++l.flatten));rw[<-Q0p,<-Q0p];exact List.perm_append_comm.append_right _
 |trans _ _ a b=>exact a.trans b
abbrev fc (H:Hp):List V->List Ds->List (List Addr)->Prop:=A3 λv m f=>Own H v (.dct m) f
theorem fc.own {H:Hp}:∀{vs:List V}{rs:List Ds}{fs:List (List Addr)},fc H vs rs fs->eR H vs (fi rs) fs.flatten
 |_,_,_,.nil=>by unfold fi eR;exact⟨rfl,rfl⟩
 |_,_,_,.cons h r=>by
  unfold fi eR;exact⟨_,_,_,_,rfl,rfl,h,fc.own r⟩
theorem eR.rows {H:Hp}:∀{rs:List Ds}{vs:List V}{z:List Addr},eR H vs (fi rs) z->∃fs,fc H vs rs fs/\z=fs.flatten
 |[],vs,z,h=>by
  unfold fi eR at h;obtain⟨rfl,rfl⟩:=h;exact⟨[],.nil,rfl⟩
 |m::rs,vs,z,h=>by
  unfold fi eR at h;obtain⟨v,q,f1,f2,rfl,rfl,I,J⟩:=h;obtain⟨fs,h1,rfl⟩:=eR.rows J;exact⟨f1::fs,.cons I h1,rfl⟩
noncomputable def lt (z:Int):Str:=⟨#[97+z.toNat]⟩
theorem qd (z:Int):(lt z).length=1:=rfl
theorem FE:∀j:Nat,j<26->(("abcdefghijklmnopqrstuvwxyz":Str)).cps.toList[j]? =some (97+j):=by decide +kernel
theorem FF:(("abcdefghijklmnopqrstuvwxyz":Str)).cps.toList.length=26:=by decide +kernel
theorem qe {z:Int}(I:0<=z)(h1:z<26):gB (("abcdefghijklmnopqrstuvwxyz":Str)).cps.toList z=some (97+z.toNat):=by
 unfold gB jQ;rw[FF,if_pos I,if_pos (show z<((26:Nat):Int) by omega)];exact FE z.toNat (by omega)
theorem FG {z:Int}(I:0<=z)(h1:z<6):gB [V.int 1,.int 3,.int 5,.int 7,.int 9,.int 11] z=some (.int (2 * z+1)):=by
 obtain⟨n,rfl⟩:=Int.eq_ofNat_of_zero_le I;have h:=Int.ofNat_lt.mp h1;clear I h1;revert n
 decide
noncomputable def nameAt (m:Int) (k:Nat):Str:=
 if m / 12168 % 4=0 then Txt.mul (lt (m / 6 % 26)) ((k:Int)+1)
 else Txt.slice (lt (m / 6 % 26)++lt (m / 156 % 26)) none (some (m / 4056 % 3))++lt ((m / 156+(k:Int) * (2 * (m % 6)+1)) % 26)++Txt.slice (lt (m / 6 % 26)++lt (m / 156 % 26)) (some (m / 4056 % 3)) none
theorem foldl_size (a:Array Nat):∀(n:Nat) (b:Array Nat),((List.replicate n a).foldl (· ++ ·) b).size=b.size+n * a.size
 |0,b=>by simp
 |n+1,b=>by
  rw[Q2d,Q35,foldl_size a n,Q3,Q1j];omega
theorem Ad {x:Str}(z:x.length=1)(k:Nat):(Txt.mul x ((k:Int)+1)).length=k+1:=by
 have I:x.cps.size=1:=z;unfold Txt.mul;rw[if_neg (by omega)];by_cases h:k=0
 . subst h;rw[if_pos (by simp)];exact z
 . rw[if_neg]
   . show((List.replicate ((k:Int)+1).toNat x.cps).foldl (· ++ ·) #[]).size=k+1;rw[foldl_size,I,show((k:Int)+1).toNat=k+1 by omega];simp
   . rw[z];simp;omega
theorem sS (x y:Str):(x++y).cps.toList=x.cps.toList++y.cps.toList:=by
 show(x.cps++y.cps).toList=_;simp
theorem Ae (x y:Str):(x++y).length=x.length+y.length:=by
 show(x.cps++y.cps).size=x.cps.size+y.cps.size;simp
theorem FH {p q:Str}{z w:Int}(h:p++lt z++q=p++lt w++q):z.toNat=w.toNat:=by
 have e:=congrArg (λs:Str=>s.cps.toList) h;simp only[sS] at e;have e:=List.append_cancel_left (List.append_cancel_right e);have e:[97+z.toNat]=[97+w.toNat]:=e;have e:=List.cons.inj e |>.1;omega
theorem FI:∀s:Nat,s<6->∀i,i<12->∀j,j<12->(i * (2 * s+1)) % 26=(j * (2 * s+1)) % 26->i=j:=by decide +kernel
theorem FJ {m:Int}{i j:Nat}(L:0<=m)(hi:i<12)(I:j<12)(h:nameAt m i=nameAt m j):i=j:=by
 unfold nameAt at h;by_cases z:m / 12168 % 4=0
 . rw[if_pos z,if_pos z] at h;have e:=congrArg Str.length h;rw[Ad (qd _),Ad (qd _)] at e;omega
 . rw[if_neg z,if_neg z] at h;have e:=FH h;obtain⟨s,J⟩:∃s:Nat,m % 6=s:=⟨(m % 6).toNat,by omega⟩;rw[J] at e;have e:((m / 156+(i * (2 * s+1):Nat)) % 26).toNat=((m / 156+(j * (2 * s+1):Nat)) % 26).toNat:=e;generalize m / 156=a at e;exact FI s (by omega) i hi j I (by omega)
theorem FK {f:Nat->Str}:∀{n:Nat},(∀i j,i<n->j<n->f i=f j->i=j)->((List.range n).map f).Nodup:=by
 intro n h;refine List.pairwise_map.mpr (List.Pairwise.imp_of_mem (λ{a b} I J z=>?_) (List.nodup_range (n:=n)));intro e;exact z (h a b (List.mem_range.mp I) (List.mem_range.mp J) e)
theorem names_nodup {m:Int}{n:Nat}(z:0<=m)(I:n<=12):((List.range n).map (nameAt m)).Nodup:=
 FK λi j hi J e=>FJ z (by omega) (by omega) e
theorem FL {x:Str}(I:x.length=1){k:Nat}(U:k<12)(hl:∀n,n<=1000->Builtin.Str.tooLong n=false):MulOk x ((k:Int)+1):=by
 refine⟨?_,λ_ z=>?_,λ_ _=>?_⟩
 . have J:decide (((k:Int)+1)< -(2 ^ 63:Int))=false:=decide_eq_false (by omega);have L:decide (((k:Int)+1) ≥ 2 ^ 63)=false:=decide_eq_false (by omega);rw[J,L];rfl
 . rw[I];clear hl I z;revert k
   decide
 . rw[I];exact hl _ (by omega)
end Pb
namespace Pb
open L2 PyProof.Rows Spec StrLaws Builtin Builtin.Str
theorem foldl_rep (c:Nat):∀(n:Nat) (b:Array Nat),((List.replicate n #[c]).foldl (· ++ ·) b).toList=b.toList++List.replicate n c
 |0,b=>by simp
 |n+1,b=>by
  rw[Q2d,Q35,foldl_rep c n,Array.toList_append,Q0p];rfl
theorem FN (z:Int)(k:Nat):(Txt.mul (lt z) ((k:Int)+1)).cps.toList=List.replicate (k+1) (97+z.toNat):=by
 unfold Txt.mul;rw[if_neg (by omega)];by_cases h:(((k:Int)+1 == 1) || (lt z).length == 0)=true
 . rw[if_pos h]
   have I:k=0:=by
    rw[qd] at h;simp at h;omega
   subst I;rfl
 . rw[if_neg h];have e:((k:Int)+1).toNat=k+1:=by omega
   rw[e];show((List.replicate (k+1) #[97+z.toNat]).foldl (· ++ ·) #[]).toList=_;rw[foldl_rep];rfl
theorem FO (a b:Int){c:Int}(L:0<=c)(h1:c<3):∃z I:List Nat,(Txt.slice (lt a++lt b) none (some c)).cps.toList=z/\(Txt.slice (lt a++lt b) (some c) none).cps.toList=I/\z++I=[97+a.toNat,97+b.toNat]:=by
 have J:(lt a++lt b)=⟨#[97+a.toNat,97+b.toNat]⟩:=rfl;rw[J];have:c=0\/c=1\/c=2:=by omega
 rcases this with rfl|rfl|rfl
 . refine⟨[],[97+a.toNat,97+b.toNat],rfl,?_,rfl⟩;have e:strSliceIndices (some 0) none 1 2=[0,1]:=by decide +kernel
   unfold Txt.slice;rw[show(⟨#[97+a.toNat,97+b.toNat]⟩:Str).length=2 from rfl,e];rfl
 . refine⟨[97+a.toNat],[97+b.toNat],rfl,?_,rfl⟩;have e:strSliceIndices (some 1) none 1 2=[1]:=by decide +kernel
   unfold Txt.slice;rw[show(⟨#[97+a.toNat,97+b.toNat]⟩:Str).length=2 from rfl,e];rfl
 . exact⟨[97+a.toNat,97+b.toNat],[],rfl,rfl,rfl⟩
theorem Af:("":Str).cps.toList=[]:=by decide +kernel
theorem FP {m:Int}{i:Nat}:nameAt m i≠"":=by
 intro e;unfold nameAt at e;by_cases h:m / 12168 % 4=0
 . rw[if_pos h] at e;have:=congrArg (λx:Str=>x.cps.toList) e;have this:(Txt.mul (lt (m / 6 % 26)) ((i:Int)+1)).cps.toList=("":Str).cps.toList:=this;rw[FN,Af] at this;rw[Q2d] at this
   cases this
 . rw[if_neg h] at e;obtain⟨p1,p2,I,J,L⟩:=FO (m / 6 % 26) (m / 156 % 26) (c:=m / 4056 % 3) (by omega) (by omega)
   have z:(Txt.slice (lt (m / 6 % 26)++lt (m / 156 % 26)) none (some (m / 4056 % 3))++lt ((m / 156+(i:Int) * (2 * (m % 6)+1)) % 26)++Txt.slice (lt (m / 6 % 26)++lt (m / 156 % 26)) (some (m / 4056 % 3)) none).cps.toList
    =p1++[97+((m / 156+(i:Int) * (2 * (m % 6)+1)) % 26).toNat]++p2:=by
    rw[sS,sS,I,J];rfl
   have U:p1.length+p2.length=2:=by
    have:=congrArg List.length L;rw[Q0c] at this;exact this
   have:=congrArg (λx:Str=>x.cps.toList.length) e;have this:List.length _=List.length _:=this;rw[z,Af,Q0c,Q0c,Q1r] at this;have:p1.length+1+p2.length=0:=this;omega
end Pb
namespace Pb
open L2
theorem boot_isinstance:bootBuiltins "isinstance"=some (.builtin "isinstance"):=by decide +kernel
theorem boot_sorted:bootBuiltins "sorted"=some (.builtin "sorted"):=by decide +kernel
theorem boot_all:bootBuiltins "all"=some (.builtin "all"):=by decide +kernel
theorem boot_int:bootBuiltins "int"=some (.type "int"):=by decide +kernel
theorem boot_bool:bootBuiltins "bool"=some (.type "bool"):=by decide +kernel
theorem boot_str:bootBuiltins "str"=some (.type "str"):=by decide +kernel
theorem boot_list:bootBuiltins "list"=some (.type "list"):=by decide +kernel
theorem boot_tuple:bootBuiltins "tuple"=some (.type "tuple"):=by decide +kernel
theorem boot_min:bootBuiltins "min"=some (.builtin "min"):=by decide +kernel
theorem boot_dict:bootBuiltins "dict"=some (.type "dict"):=by decide +kernel
structure Tb (mg:Str->Option Value):Prop where
 gK:mg "len"=none
 iw:mg "isinstance"=none
 oE:mg "sorted"=none
 qf:mg "all"=none
 kY:mg "range"=none
 Ag:mg "enumerate"=none
 sT:mg "zip"=none
 sU:mg "int"=none
 sV:mg "bool"=none
 sW:mg "str"=none
 nh:mg "list"=none
 qg:mg "tuple"=none
 sX:mg "dict"=none
 FQ:mg "min"=none
structure Dn (K:W.Frag) (mg:Str->Option Value) (x:Str) (ps:List Str) (st:Stmt) (f:Addr) (fd:FuncData):Prop where
 F:jC K x x st f fd
 b:Binds K fd ps []
 m:mg x=some (.ref f)
theorem eV {X:Cx}{k J:Nat}{f:Addr}{fd:FuncData}{ps:List Str}{sp:Sp}{x:Str}{p pos:Pos}{e:Expr}{es:List Expr}{t:TA}{st:Stmt}(F:eE X.prog X.w X.K X.mg X.base eI k f fd ps sp)(L:fy J X.A)(D:Dn X.K X.mg x ps st f fd)(U:PA X (e::es) t)(Y:Gl X x:=by rfl)(z:(x == ("__debug__":Str))=false:=by decide)(he:starEach (e::es) X.env=(false,eval e X.env)::starEach es X.env:=by rfl)(I:(backTo pos (starEach es X.env)).any (·.1)=false:=by rfl)(hk:k<=J:=by first|decide|omega):PE X (.Call (.Name x p) (e::es) [] pos) (lL sp [] E0 t):=mK F (L.mono hk) Y D.m D.F.kp D.b .nil iV U z he I
theorem eX {X:Cx}(i:Nat){x:Str}{e:Expr}{te:TE}{pos z:Pos}(I:X.N.Nodup)(J:PE X e te)(hi:X.N[i]? =some x:=by rfl)(L:Loc X.env.scope x:=by exact Or.inl rfl)(U:swapsWith e (some (.Name x z)) pos.line X.env=pure false:=by rfl)(Y:X.fn x=true\/X.env.scope.names.lookup x=some .local:=by first|exact .inl rfl|exact .inr rfl|assumption):PS X (.Assign [.Name x z] e pos) (lC te (gX i)):=yr I hi L J U Y
theorem FR {X:Cx}(i:Nat){x:Str}{e:Expr}{te:TE}{pos z:Pos}(I:X.N.Nodup)(J:PE X e te)(hi:X.N[i]? =some x:=by rfl)(L:Loc X.env.scope x:=by exact Or.inr rfl)(U:swapsWith e (some (.Name x z)) pos.line X.env=pure false:=by rfl)(Y:X.fn x=true\/X.env.scope.names.lookup x=some .local:=by first|exact .inl rfl|exact .inr rfl|assumption):PS X (.Assign [.Name x z] e pos) (lC te (gX i)):=yr I hi L J U Y
theorem ni:0<=sizeLine:=by decide
theorem hZ:1<=sizeLine:=by decide
theorem gF:2<=sizeLine:=by decide
theorem Jv:3<=sizeLine:=by decide
theorem oF:4<=sizeLine:=by decide
theorem FT:5<=sizeLine:=by decide
theorem FU:6<=sizeLine:=by decide
theorem eS {X:Cx}{a b:Expr}{ta tb:TE}{pos:Pos}(z:PE X a ta)(I:PE X b tb)(J:pG b:=by exact λ_ _=>rfl):PE X (.Subscript a b pos) (f_ (ic X.K) ta tb):=kP DV z I J
theorem gO {X:Cx}{a b:Expr}{ta tb:TE}{pos:Pos}(z:PE X a ta)(I:PE X b tb)(J:pG b:=by exact λ_ _=>rfl):PE X (.Subscript a b pos) (f_ (yV X.K) ta tb):=kP yW z I J
theorem jY {X:Cx}{own N:List Str}{scope sc:Scope}(z:X.env.scope=sc:=by rfl)(I:X.N=N:=by rfl)(k:scope.kind=.function:=by rfl)(c:sr own N scope sc=true:=by decide +kernel):iW X own scope:=iW.of z I k c
theorem gJ {α:Type}{a:α}{p:Prop}:a=a\/p:=Or.inl rfl
theorem fM {N P:List Str}{sc:Scope}(h:(sc.kind == .function && !sc.isCoroutine && !sc.isGenerator && decide N.Nodup && N.take P.length == P && P.all (λx=>sc.names.lookup x == some .local || sc.names.lookup x == some .cell) && sc.names.all (λy=>y.2 != .free))=true:=by decide +kernel):fo N P sc:=by
 simp only[Bool.and_eq_true,Q10,Bool.or_eq_true,beq_iff_eq,bne_iff_ne,decide_eq_true_eq,Bool.not_eq_true',ne_eq] at h;obtain⟨⟨⟨⟨⟨⟨h1,h2⟩,z⟩,I⟩,J⟩,L⟩,U⟩:=h;exact⟨h1,h2,z,I,J,L,U⟩
abbrev fk:List Str:=XA
abbrev ia:List Str:=XI
abbrev iK:List Str:=XE
abbrev iY:List Str:=XG
abbrev iZ:List Str:=["kind","value"]
abbrev jb:List Str:=XZ
abbrev jn:List Str:=XY
abbrev jo:List Str:=XQ
abbrev jF:List Str:=XX
abbrev jG:List Str:=XH
abbrev km:List Str:=Xa
abbrev ko:List Str:=["kind","tree"]
abbrev kZ:List Str:=Xe
abbrev l6:List Str:=["kind","row"]
abbrev l7:List Str:=["fields","name"]
abbrev l8:List Str:=["value"]
abbrev nj:List Str:=XM
abbrev oG:List Str:=Xc
abbrev oH:List Str:=["fields","value"]
abbrev qh:List Str:=XS
abbrev qi:List Str:=["self","by"]
abbrev qj:List Str:=Xh
abbrev qm:List Str:=Xb
abbrev qo:List Str:=["self","way"]
abbrev qp:List Str:=["kind","seen"]
abbrev qq:List Str:=XW
abbrev qr:List Str:=XV
abbrev qt:List Str:=["_law_kind_here"]
abbrev qu:List Str:=Xf
abbrev qw:List Str:=XJ
abbrev qx:List Str:=XO
def i2 (K:W.Frag) (H:Hp) (a:Addr) (ns:List Int):Prop:=
 (∃o,H a=some (.iz o (.lst (ns.map V.int))))\/
   ∃(o:Obj) (z:Array Value) (n:Nat),K.lookup a=some o/\o.cls=.type "list"/\o.dict=none/\o.data=.seq z n/\z.size<=sizeLine/\Vals (ns.map V.int) z.toList
theorem i2.sq {K:W.Frag}{H:Hp}{a:Addr}{ns:List Int}(h:i2 K H a ns):eG K H a (ns.map V.int):=by
 rcases h with⟨o,h⟩|h
 . exact .inl (.inr ⟨o,h⟩)
 . exact .inr h
def SB (b:Addr) (H H':Hp):Prop:=∀c o,c≠b->H c=some o->H' c=some o
theorem SB.trans {b:Addr}{H H1 H2:Hp}(x:SB b H H1)(y:SB b H1 H2):SB b H H2:=λc o n h=>y c o n (x c o n h)
theorem SB.of {b:Addr}{H H':Hp}(s:Same H H'):SB b H H':=λc o _ h=>s c o h
theorem SB.wr {b:Addr}{H:Hp}{o:HO}:SB b H (upd H b o):=λc u n h=>by rw[d_ n];exact h
theorem SB.new {b p:Addr}{H:Hp}{o:HO}(h:H p=none):SB b H (upd H p o):=λc u n q=>by rw[d_ (eM q h)];exact q
structure G0 (K:W.Frag) (H:Hp) (a b:Addr) (ns:List Int) (n:Int):Prop where
 i3:i2 K H a ns
 len:ns.length<=63
 at_:H b=some (.lst [.int n])
 pos:0<=n
theorem SB.i3 {K:W.Frag}{b:Addr}{H H':Hp}{a:Addr}{ns:List Int}{n:Int}(x:SB b H H')(I:H b=some (.lst [.int n]))(h:i2 K H a ns):i2 K H' a ns:=by
 rcases h with⟨o,h⟩|h
 . exact .inl ⟨o,x a _ (gz h I (by intro z;cases z)) h⟩
 . exact .inr h
theorem SB.tu {b:Addr}{H H':Hp}{n:Int}(x:SB b H H')(I:H b=some (.lst [.int n])):Tu H H':=λc xs h=>x c _ (gz h I (by intro z;cases z)) h
theorem G0.go {K:W.Frag}{H H':Hp}{a b:Addr}{ns:List Int}{n n':Int}(g:G0 K H a b ns n)(x:SB b H H')(h:H' b=some (.lst [.int n']))(z:n<=n'):G0 K H' a b ns n':=
 ⟨x.i3 g.at_ g.i3,g.len,h,by have:=g.pos;omega⟩
theorem Same.new {H:Hp}{p:Addr}{o:HO}(h:H p=none):Same H (upd H p o):=λc u q=>by rw[d_ (eM q h)];exact q
theorem int_at {ns:List Int}{z:Int}(I:0<=z)(h1:z<ns.length):gB (ns.map V.int) z=some (.int (ns.getD z.toNat 0)):=by
 obtain⟨j,rfl⟩:∃j:Nat,z=(j:Int):=⟨z.toNat,by omega⟩;rw[Q1q];exact g9 (by rw[Q0s,Q0d,Q02 (by omega)];rfl)
def k6 (K:W.Frag):Sp:=λvs H Q _=>∃a b ns n,vs=[.ref a,.ref b]/\G0 K H a b ns n/\n<=1000000000000/\
 ∀(H':Hp),SB b H H'->H' b=some (.lst [.int (n+1)])->Q (.int (nx ns (n+1))) H'
def k7 (K:W.Frag):Sp:=λvs H Q _=>∃a b ns n,vs=[.ref a,.ref b]/\G0 K H a b ns n/\n<=1000000000000/\
 ∀(r:Int) (H':Hp),0<=r->r<1999999973->SB b H H'->H' b=some (.lst [.int (n+1)])->Q (.int r) H'
theorem qy {P:Program}{w:World}{K:W.Frag}{mg:Str->Option Value}{base:Heap}{CX:iE}{k:Nat}{f:Addr}{fd:FuncData}{ps:List Str}(F:eE P w K mg base CX k f fd ps (k6 K)):eE P w K mg base CX k f fd ps (k7 K):=
 F.imp λvs H Q E ⟨a,b,ns,n,e,g,z,q⟩=>⟨a,b,ns,n,e,g,z,λH' I h1=>q _ H' (pZ _ _) (sO _ _) I h1⟩
def oJ (K:W.Frag):Sp:=λvs H Q _=>∃a b ns n,vs=[.ref a,.ref b]/\G0 K H a b ns n/\n<=1000000000000/\
 ∀(v:V) (k:Kd) (H':Hp),SB b H H'->H' b=some (.lst [.int (n+1)])->KA H' v k->k.dep<=1->kW k->k.W->Q v H'
def qz (K:W.Frag):Sp:=λvs H Q _=>∃a b ns n,∃m:Nat,vs=[.ref a,.ref b,.int m]/\m<=12/\G0 K H a b ns n/\n<=1000000000000/\
 ∀(p:Addr) (ss:List Str) (H':Hp),SB b H H'->H' b=some (.lst [.int (n+1)])->p≠b->H' p=some (.lst (ss.map V.str))->ss.length=m->ss.Nodup->(∀x∈ss,x≠"")->Q (.ref p) H'
noncomputable def ck:Nat->Nat
 |0=>2
 |d+1=>3 * ck d+6
def l9 (K:W.Frag) (d:Nat):Sp:=λvs H Q _=>∃a b ns n,vs=[.ref a,.ref b,.int d]/\G0 K H a b ns n/\n+ck d<=1000000000000/\
 ∀(v:V) (k:Kd) (n':Int) (H':Hp),SB b H H'->H' b=some (.lst [.int n'])->n<=n'->n'<=n+ck d->KA H' v k->k.dep<=d+1->k.W->Q v H'
def Ah (K:W.Frag) (d:Nat):Sp:=λvs H Q _=>∃a b ns n,∃m:Nat,vs=[.ref a,.ref b,.int m,.int d]/\m<=3/\G0 K H a b ns n/\n+1+3 * ck d<=1000000000000/\
 ∀(t:Addr) (xs:List V) (fs:Fs) (n':Int) (H':Hp),SB b H H'->H' b=some (.lst [.int n'])->n<=n'->n'<=n+1+3 * ck d->H' t=some (.tup xs)->FA H' xs fs->fs.names.Nodup->fs.names.length=m->fs.dep<=d+1->fs.W->Q (.ref t) H'
def Ai (K:W.Frag) (d:Nat):Sp:=λvs H Q _=>∃a b ns n,∃m:Nat,vs=[.ref a,.ref b,.int m,.int d]/\1<=m/\m<=3/\G0 K H a b ns n/\n+5+3 * ck d<=1000000000000/\
 ∀(v:V) (k:Kd) (n':Int) (H':Hp),SB b H H'->H' b=some (.lst [.int n'])->n<=n'->n'<=n+5+3 * ck d->KA H' v k->k.dep<=d+2->k.W->Q v H'
def qA (K:W.Frag) (d:Nat):Sp:=λvs H Q _=>∃a b ns n,∃m:Nat,vs=[.ref a,.ref b,.int m,.int d]/\1<=m/\m<=12/\G0 K H a b ns n/\n+2+(m:Int) * (ck d+1)<=1000000000000/\
 ∀(v:V) (key by_:Str) (fs:Fs) (n':Int) (H':Hp),SB b H H'->H' b=some (.lst [.int n'])->n<=n'->n'<=n+2+(m:Int) * (ck d+1)->KA H' v (.rows key by_ fs)->(Kd.rows key by_ fs).dep<=d+2->(Kd.rows key by_ fs).W->fs.names.length=m->Q v H'
def Aj (K:W.Frag):Sp:=λvs H Q _=>∃a b ns n,vs=[.ref a,.ref b]/\G0 K H a b ns n/\n<=1000000000000/\
 ∀(H':Hp),SB b H H'->H' b=some (.lst [.int (n+1)])->Q (.int (num ns (n+1))) H'
def Ak (K:W.Frag):Sp:=λvs H Q _=>∃a b ns n,vs=[.ref a,.ref b]/\G0 K H a b ns n/\n<=1000000000000/\
 ∀(H':Hp),SB b H H'->H' b=some (.lst [.int (n+1)])->Q (.str (fC ns (n+1))) H'
variable {P:Program}{w:World}{K:W.Frag}{mg:Str->Option Value}{base:Heap}
theorem FV:fo ["_law_script","_law_at","_law_cell","_law_m"] XA (eP (top 24)):=fM
theorem oK (T:Tb mg)(I:Dn K mg "_law_next" fk (top 24) J L):eE P w K mg base eI (1) J L fk (k6 K):=by
 refine I.F.ok FV λvs H Q E h=>?_;obtain⟨a,b,ns,n,rfl,g,hn,q⟩:=h;refine⟨rfl,λaa A outer s Y hr hu=>?_⟩
 refine⟨_,(eF (pq (eJ g7 (gO (pv 1) b_) b_) (C9 (pv 1) b_ set_list))
  (eF (eX 2 Y b_)
  (eF (eY (eW mH (fA gZ (by rfl) T.gK PySem.boot_len (a_ (pv 0) c_)) b_ (eT _)) (eL (eX 2 Y (gO (pv 0) (eJ fv (gO (pv 1) b_) (fA gZ (by rfl) T.gK PySem.boot_len (a_ (pv 0) c_)))))) eZ)
  (eF (eX 3 Y (eJ fv (eJ j8 (eJ g7 (eJ g7 (eJ fv (pv 2) b_) (eJ j8 (eJ j8 (gO (pv 1) b_) (gO (pv 1) b_)) b_)) b_) b_) b_))
  (eL (eO (eJ fv (eJ j8 (pv 3) (pv 3)) b_))))))),?_⟩
 ac_rfl
 have hb:=g.at_;have hp:=g.pos;have hS:eG K (upd H b (.lst [.int (n+1)])) a (ns.map V.int):=(SB.wr.i3 hb g.i3).sq;have U:upd H b (.lst [.int (n+1)]) b=some (.lst [.int (n+1)]):=eK;refine⟨_,rfl,b,_,_,_,rfl,rfl,eG.of hb,rfl,_,_,rfl,rfl,_,rfl,b,_,_,0,rfl,rfl,hb,rfl,?_⟩;refine⟨_,rfl,a,_,rfl,.inl hS,_,_,rfl,rfl,_,rfl,?_⟩;have hl:(ns.map V.int).length=ns.length:=Q03 _;refine fJ (λc=>?_) (λc=>?_)
 . have c':(0:Int)<((ns.map V.int).length:Nat):=of_decide_eq_true c;rw[hl] at c';have i0:=Q0h (n+1) (show(ns.length:Int)≠0 by omega);have i1:=Q0j (n+1) c'
   have hz:gB (ns.map V.int) ((n+1) % (((ns.map V.int).length:Nat):Int))=some (.int (cellAt ns (n+1))):=by
    rw[hl,int_at i0 i1];unfold cellAt;rw[if_pos (by omega)]
   refine⟨_,rfl,_,rfl,b,_,_,_,rfl,rfl,eG.of U,rfl,_,rfl,a,_,rfl,.inl hS,_,_,rfl,rfl,by rw[hl];exact c',a,_,_,_,rfl,rfl,hS,hz,?_⟩
   refine⟨_,rfl,_,_,rfl,rfl,(by show(0:Int)<_;decide),_,rfl,b,_,_,_,rfl,rfl,eG.of U,rfl,_,rfl,b,_,_,_,rfl,rfl,eG.of U,rfl,_,_,rfl,rfl,.inl ⟨by omega,by omega⟩,_,_,rfl,rfl,.inr ⟨by decide,by decide⟩,
    _,_,rfl,rfl,_,_,rfl,rfl,_,_,rfl,rfl,.inr ⟨by decide,by decide⟩,_,_,rfl,rfl,(by show(0:Int)<_;decide),?_⟩
   refine⟨_,rfl,_,rfl,_,_,rfl,rfl,.inl ⟨?_,?_⟩,_,_,rfl,rfl,(by show(0:Int)<_;decide),q _ SB.wr U⟩
   . exact Q36 (by decide) (Q0h _ (by decide))
   . exact Int.lt_trans (Q0j _ (by decide)) (by decide)
 . have c':¬(0:Int)<((ns.map V.int).length:Nat):=λz=>c (decide_eq_true z);rw[hl] at c'
   have hz:cellAt ns (n+1)=0:=by
    unfold cellAt;rw[if_neg (by omega)]
   have q':Q (.int (((0:Int) % 2147483647+(n+1) * (n+1) * 7919+11) * 48271 % 2147483647 * (((0:Int) % 2147483647+(n+1) * (n+1) * 7919+11) * 48271 % 2147483647) % 1999999973)) (upd H b (.lst [.int (n+1)])):=by
    have:=q _ SB.wr U;unfold nx at this;rw[hz] at this;exact this
   refine⟨_,rfl,_,_,rfl,rfl,(by show(0:Int)<_;decide),_,rfl,b,_,_,_,rfl,rfl,eG.of U,rfl,_,rfl,b,_,_,_,rfl,rfl,eG.of U,rfl,_,_,rfl,rfl,.inl ⟨by omega,by omega⟩,_,_,rfl,rfl,.inr ⟨by decide,by decide⟩,
    _,_,rfl,rfl,_,_,rfl,rfl,_,_,rfl,rfl,.inr ⟨by decide,by decide⟩,_,_,rfl,rfl,(by show(0:Int)<_;decide),?_⟩
   refine⟨_,rfl,_,rfl,_,_,rfl,rfl,.inl ⟨?_,?_⟩,_,_,rfl,rfl,(by show(0:Int)<_;decide),q'⟩
   . exact Q36 (by decide) (Q0h _ (by decide))
   . exact Int.lt_trans (Q0j _ (by decide)) (by decide)
theorem FW:fo XA XA (eP (top 28)):=fM
theorem sY (T:Tb mg)(z:Dn K mg "_law_plain" fk (top 28) I J)(L:Dn K mg "_law_next" fk (top 24) U Y)(aa:eE P w K mg base eI (1) U Y fk (k7 K)):eE P w K mg base eI (2) I J fk (oJ K):=by
 refine z.F.ok FW λvs H Q E h=>?_;obtain⟨a,b,ns,n,rfl,g,hn,q⟩:=h;refine⟨rfl,λac A outer s nd hr hu=>?_⟩
 refine⟨_,(eF (eY (eW fE (eJ fv (eV aa hr L (a_ (pv 0) (a_ (pv 1) c_))) b_) b_ (eT _)) (eL (eO (f7 (a_ fm c_)))) eZ)
  (eL (eO (f7 (a_ fm c_))))),?_⟩
 ac_rfl
 refine⟨_,rfl,_,rfl,a,b,ns,n,rfl,g,hn,λr H1 r0 r1 s1 h1=>?_⟩;refine⟨_,_,rfl,rfl,(by show(0:Int)<_;decide),rfl,_,rfl,?_⟩
 have fin:∀(x:Str) (k:Kd),(∀(p:Addr) (H2:Hp),H2 p=some (.tup [.str x])->KA H2 (.ref p) k)->k.dep<=1->kW k->k.W->∀p,H1 p=none->Q (.ref p) (upd H1 p (.tup [.str x])):=λx k hk hd hp hw p ab=>
  q _ k _ (s1.trans (SB.new ab)) (by rw[d_ (eM h1 ab)];exact h1) (hk p _ eK) hd hp hw
 refine fJ (λc=>?_) (λc=>?_)
 . exact⟨hZ,λp hp=>fin _ .num (λp H2 e=>by unfold KA;exact⟨p,rfl,e⟩) (Q00 _) trivial (by unfold Kd.W;trivial) p hp⟩
 . exact⟨hZ,λp hp=>fin _ .fC (λp H2 e=>by unfold KA;exact⟨p,rfl,e⟩) (Q00 _) trivial (by unfold Kd.W;trivial) p hp⟩
theorem FX:fo ["_law_script","_law_at","_law_m","_law_cell"] XA (eP (top 25)):=fM
theorem FY (T:Tb mg)(I:Dn K mg "_law_number" fk (top 25) J L)(U:Dn K mg "_law_next" fk (top 24) Y aa)(ab:eE P w K mg base eI (1) Y aa fk (k6 K)):eE P w K mg base eI (2) J L fk (Aj K):=by
 refine I.F.ok FX λvs H Q E h=>?_;obtain⟨a,b,ns,n,rfl,g,hn,q⟩:=h;refine⟨rfl,λae A outer s nd hr hu=>?_⟩
 refine⟨_,(eF (eX 2 nd (eV ab hr U (a_ (pv 0) (a_ (pv 1) c_))))
  (eF (eX 3 nd b_)
  (eF (eY (eW mH (fA gZ (by rfl) T.gK PySem.boot_len (a_ (pv 0) c_)) b_ (eT _)) (eL (eX 3 nd (gO (pv 0) (eJ fv (gO (pv 1) b_) (fA gZ (by rfl) T.gK PySem.boot_len (a_ (pv 0) c_)))))) eZ)
  (eF (eY (eW fE (eJ fv (pv 2) b_) b_ (eT _)) (eL (eO (eJ jN (eJ fv (eJ gm (pv 2) b_) b_) b_))) eZ)
  (eL (eO (eJ jN (eJ fv (eJ g7 (eJ fv (pv 3) (eJ pB b_ b_)) (eJ j8 (pv 2) (eJ pB b_ b_))) (eJ j8 b_ (eJ pB b_ b_))) (eJ pB b_ b_)))))))),?_⟩
 ac_rfl
 refine⟨_,rfl,_,rfl,a,b,ns,n,rfl,g,hn,λH1 s1 h1=>?_⟩;have g1:=g.go s1 h1 (by omega);have hS:=g1.i3.sq;have r0:=pZ ns (n+1);have r1:=sO ns (n+1);have hl:(ns.map V.int).length=ns.length:=Q03 _;have hq:∀e,num ns (n+1)=e->Q (.int e) H1:=λe he=>by rw[<-he];exact q _ s1 h1
 unfold num at hq;refine⟨_,rfl,a,_,rfl,.inl hS,_,_,rfl,rfl,_,rfl,?_⟩;have pw:rG 10 40:=⟨by decide,by decide,by decide⟩;have ac:rG 10 29:=⟨by decide,by decide,by decide⟩;refine fJ (λc=>?_) (λc=>?_)
 . have c':(0:Int)<((ns.map V.int).length:Nat):=of_decide_eq_true c;rw[hl] at c';have i0:=Q0h (n+1) (show(ns.length:Int)≠0 by omega);have i1:=Q0j (n+1) c'
   have hz:gB (ns.map V.int) ((n+1) % (((ns.map V.int).length:Nat):Int))=some (.int (cellAt ns (n+1))):=by
    rw[hl,int_at i0 i1];unfold cellAt;rw[if_pos (by omega)]
   refine⟨_,rfl,_,rfl,b,_,_,_,rfl,rfl,eG.of h1,rfl,_,rfl,a,_,rfl,.inl hS,_,_,rfl,rfl,by rw[hl];exact c',a,_,_,_,rfl,rfl,hS,hz,?_⟩;refine⟨_,rfl,_,_,rfl,rfl,(by show(0:Int)<_;decide),rfl,_,rfl,fJ (λc2=>?_) (λc2=>?_)⟩
   . have c3:nx ns (n+1) % 3=0:=by
      have:=of_decide_eq_true c2;injection this
     refine⟨_,rfl,_,_,rfl,rfl,⟨by decide,by decide⟩,_,_,rfl,rfl,(by show(0:Int)<_;decide),_,_,rfl,rfl,hq _ (by rw[if_pos c3])⟩
   . have c3:¬nx ns (n+1) % 3=0:=λz=>c2 (decide_eq_true (show V.int (nx ns (n+1) % 3)=V.int 0 by rw[z]));refine⟨_,rfl,_,_,rfl,rfl,pw,_,_,rfl,rfl,(by show(0:Int)<_;decide),_,rfl,_,_,rfl,rfl,ac,_,_,rfl,rfl,.inl ⟨by omega,by omega⟩,_,_,rfl,rfl,_,_,rfl,rfl,pw,_,_,rfl,rfl,.inl ⟨by decide,by decide⟩,_,_,rfl,rfl,(by show(0:Int)<_;decide),_,_,rfl,rfl,pw,_,_,rfl,rfl,hq _ (by rw[if_neg c3];rfl)⟩
 . have c':¬(0:Int)<((ns.map V.int).length:Nat):=λz=>c (decide_eq_true z);rw[hl] at c'
   have hz:cellAt ns (n+1)=0:=by
    unfold cellAt;rw[if_neg (by omega)]
   refine⟨_,rfl,_,_,rfl,rfl,(by show(0:Int)<_;decide),rfl,_,rfl,fJ (λc2=>?_) (λc2=>?_)⟩
   . have c3:nx ns (n+1) % 3=0:=by
      have:=of_decide_eq_true c2;injection this
     refine⟨_,rfl,_,_,rfl,rfl,⟨by decide,by decide⟩,_,_,rfl,rfl,(by show(0:Int)<_;decide),_,_,rfl,rfl,hq _ (by rw[if_pos c3])⟩
   . have c3:¬nx ns (n+1) % 3=0:=λz=>c2 (decide_eq_true (show V.int (nx ns (n+1) % 3)=V.int 0 by rw[z]));refine⟨_,rfl,_,_,rfl,rfl,pw,_,_,rfl,rfl,(by show(0:Int)<_;decide),_,rfl,_,_,rfl,rfl,ac,_,_,rfl,rfl,.inl ⟨by omega,by omega⟩,_,_,rfl,rfl,_,_,rfl,rfl,pw,_,_,rfl,rfl,.inl ⟨by decide,by decide⟩,_,_,rfl,rfl,(by show(0:Int)<_;decide),_,_,rfl,rfl,pw,_,_,rfl,rfl,hq _ (by rw[if_neg c3,hz];rfl)⟩
theorem nq:jm.length=93:=by decide +kernel
theorem Al {z:Int}(I:0<=z)(h1:z<93):gB jm.cps.toList z=some (jm.cps.toList.getD z.toNat 0):=by
 have hl:jm.cps.toList.length=93:=by
  have:=nq;rw[Q1l];exact this
 unfold gB jQ;rw[hl,if_pos I,if_pos (show z<((93:Nat):Int) by omega)];show jm.cps.toList[z.toNat]? =_;rw[Q0d,Q02 (by omega)];rfl
theorem sZ (m:Int):∀k,(m4 m k).length=k
 |0=>rfl
 |k+1=>by
  show(m4 m k++_).length=_;rw[Ae,sZ m k];rfl
noncomputable def σW (a b:Addr) (m:Int) (k:Int) (w:Str) (y z:Option V):St:=[some (.ref a),some (.ref b),some (.str jm),some (.int m),some (.int k),some (.str w),y,z]
theorem FZ:fo ["_law_script","_law_at","_law_signs","_law_m","_law_many","_law_word_here","_law_k","_law_place"] XA (eP (top 26)):=fM
theorem F0 (T:Tb mg)(I:Dn K mg "_law_word" fk (top 26) J L)(U:Dn K mg "_law_next" fk (top 24) Y aa)(ab:eE P w K mg base eI (1) Y aa fk (k6 K)):eE P w K mg base eI (2) J L fk (Ak K):=by
 refine I.F.ok FZ λvs H Q E h=>?_;obtain⟨a,b,ns,n,rfl,g,hn,q⟩:=h;refine⟨rfl,λae A outer s nd hr hu=>?_⟩
 refine⟨_,(eF (eX 2 nd fm)
  (eF (eX 2 nd (eJ nV (pv 2) fm))
  (eF (eX 3 nd (eV ab hr U (a_ (pv 0) (a_ (pv 1) c_))))
  (eF (eX 4 nd (eJ fv (pv 3) b_))
  (eF (eY (eW fE (eJ fv (eJ gm (pv 3) b_) b_) b_ (eT _)) (eL (eX 4 nd b_)) eZ)
  (eF (eX 5 nd fm)
  (eF (iS PassesOwn.never rfl (lF rfl T.kY (a_ (pv 4) c_)) (fX (i:=6) nd rfl gJ) (eF (eX 7 nd (eJ g7 (eJ gm (pv 3) b_) (eJ j8 (eJ j8 (pv 6) (pv 6)) (eJ fv (eJ gm (pv 3) b_) b_))))
  (eL (eX 5 nd (eJ nV (pv 5) (kP nZ (pv 2) (eJ fv (pv 7) (fA D7 (by rfl) T.gK PySem.boot_len (a_ (pv 2) c_))) (λ_ _=>rfl)))))))
  (eL (eO (pv 5)))))))))),?_⟩
 ac_rfl
 have ac:(jm).length<=sizeLine:=by rw[nq];decide
 refine⟨_,rfl,_,_,rfl,rfl,ac,?_⟩;refine⟨_,rfl,_,rfl,a,b,ns,n,rfl,g,hn,λH1 s1 h1=>?_⟩;have r0:=pZ ns (n+1);have r1:=sO ns (n+1);have hq:∀e,fC ns (n+1)=e->Q (.str e) H1:=λe he=>by rw[<-he];exact q _ s1 h1
 unfold fC at hq;generalize nx ns (n+1)=m at *;refine⟨_,rfl,_,_,rfl,rfl,(by show(0:Int)<_;decide),?_⟩;refine⟨_,rfl,_,_,rfl,rfl,⟨by decide,by decide⟩,_,_,rfl,rfl,(by show(0:Int)<_;decide),rfl,_,rfl,fJ (λc=>?_) (λc=>?_)⟩
 . have c3:m / 5 % 29=0:=by
    have:=of_decide_eq_true c;injection this
   rw[if_pos c3] at hq;refine⟨_,rfl,_,rfl,by decide,by decide,kL (n:=Int.toNat 40) (λi σ H'=>∃y z,σ=σW a b m 40 (m4 m i) y z/\H'=H1) ⟨_,_,rfl,rfl⟩ ?_ ?_⟩
   . rintro i σ H' hi ⟨y,z,rfl,rfl⟩;have hi:i<40:=hi;have e0:(0:Int)+(i:Int)=(i:Int):=by omega
     have l3:0<=(m / 145+((0:Int)+(i:Int)) * ((0:Int)+(i:Int)) * (m / 7 % 3)) % 93/\(m / 145+((0:Int)+(i:Int)) * ((0:Int)+(i:Int)) * (m / 7 % 3)) % 93<93:=⟨Q0h _ (by decide),Q0j _ (by decide)⟩;refine⟨_,rfl,_,_,rfl,rfl,⟨by decide,by decide⟩,_,rfl,_,rfl,_,_,rfl,rfl,.inl ⟨by omega,by omega⟩,_,rfl,_,_,rfl,rfl,⟨by decide,by decide⟩,_,_,rfl,rfl,(by show(0:Int)<_;decide),_,_,rfl,rfl,.inr ⟨by omega,by omega⟩,_,_,rfl,rfl,?_⟩;refine⟨_,rfl,_,rfl,_,rfl,_,rfl,_,rfl,ac,_,_,rfl,rfl,(by show(0:Int)<((jm.length:Nat):Int);rw[nq];decide),jm,_,_,rfl,rfl,ac,(by rw[nq];exact Al l3.1 l3.2),_,_,rfl,rfl,?_,?_⟩
     . rw[sZ];show i+1<=sizeLine;exact Q0o (gN (by omega))
     . rw[e0];exact⟨_,_,rfl,rfl⟩
   . rintro σ H' ⟨y,z,rfl,rfl⟩;exact⟨_,rfl,hq _ rfl⟩
 . have c3:¬m / 5 % 29=0:=λz=>c (decide_eq_true (show V.int (m / 5 % 29)=V.int 0 by rw[z]));rw[if_neg c3] at hq;have h5:0<=m % 5/\m % 5<5:=by omega
   refine⟨_,rfl,_,rfl,by omega,by omega,kL (n:=Int.toNat (m % 5)) (λi σ H'=>∃y z,σ=σW a b m (m % 5) (m4 m i) y z/\H'=H1) ⟨_,_,rfl,rfl⟩ ?_ ?_⟩
   . rintro i σ H' hi ⟨y,z,rfl,rfl⟩;have hi:i<40:=by omega
     have e0:(0:Int)+(i:Int)=(i:Int):=by omega
     have l3:0<=(m / 145+((0:Int)+(i:Int)) * ((0:Int)+(i:Int)) * (m / 7 % 3)) % 93/\(m / 145+((0:Int)+(i:Int)) * ((0:Int)+(i:Int)) * (m / 7 % 3)) % 93<93:=⟨Q0h _ (by decide),Q0j _ (by decide)⟩;refine⟨_,rfl,_,_,rfl,rfl,⟨by decide,by decide⟩,_,rfl,_,rfl,_,_,rfl,rfl,.inl ⟨by omega,by omega⟩,_,rfl,_,_,rfl,rfl,⟨by decide,by decide⟩,_,_,rfl,rfl,(by show(0:Int)<_;decide),_,_,rfl,rfl,.inr ⟨by omega,by omega⟩,_,_,rfl,rfl,?_⟩;refine⟨_,rfl,_,rfl,_,rfl,_,rfl,_,rfl,ac,_,_,rfl,rfl,(by show(0:Int)<((jm.length:Nat):Int);rw[nq];decide),jm,_,_,rfl,rfl,ac,(by rw[nq];exact Al l3.1 l3.2),_,_,rfl,rfl,?_,?_⟩
     . rw[sZ];show i+1<=sizeLine;exact Q0o (gN (by omega))
     . rw[e0];exact⟨_,_,rfl,rfl⟩
   . rintro σ H' ⟨y,z,rfl,rfl⟩;exact⟨_,rfl,hq _ rfl⟩
theorem F1 (n:Nat)(h:n<=1000):Builtin.Str.tooLong n=false:=by
 have:n<=sizeLine:=Q0o (gN h);unfold Builtin.Str.tooLong;exact decide_eq_false (by omega)
theorem F2 (f:Nat->Str)(i:Nat):((List.range (i+1)).map f).map V.str=((List.range i).map f).map V.str++[V.str (f i)]:=by
 rw[List.range_succ,Q0k,Q0k];rfl
noncomputable abbrev abc:Str:="abcdefghijklmnopqrstuvwxyz"
noncomputable abbrev stemOf (r:Int):Str:=lt (r / 6 % 26)++lt (r / 156 % 26)
noncomputable def σN (a b:Addr) (m:Nat) (r:Int) (p:Addr) (y z:Option V):St:=
 [some (.ref a),some (.ref b),some (.int m),some (.str abc),some (.int r),some (.int (2 * (r % 6)+1)),some (.str (stemOf r)),some (.int (r / 4056 % 3)),some (.ref p),y,z]
theorem F3:fo ["_law_script","_law_at","_law_many","_law_letters","_law_m","_law_step","_law_stem","_law_cut","_law_names_here","_law_k","_law_sign"] Xa (eP (top 27)):=fM
theorem Am (T:Tb mg)(I:Dn K mg "_law_names" km (top 27) J L)(U:Dn K mg "_law_next" fk (top 24) Y aa)(ab:eE P w K mg base eI (1) Y aa fk (k7 K)):eE P w K mg base eI (2) J L km (qz K):=by
 refine I.F.ok F3 λvs H Q E h=>?_;obtain⟨a,b,ns,n,m,rfl,hm,g,hn,q⟩:=h;refine⟨rfl,λal A outer s nd hr hu=>?_⟩
 refine⟨_,(eF (eX 3 nd fm)
  (eF (eX 4 nd (eV ab hr U (a_ (pv 0) (a_ (pv 1) c_))))
  (eF (eX 5 nd (gO (fY (a_ b_ (a_ b_ (a_ b_ (a_ b_ (a_ b_ (a_ b_ c_))))))) (eJ fv (pv 4) b_)))
  (eF (eX 6 nd (eJ nV (kP nZ (pv 3) (eJ fv (eJ gm (pv 4) b_) b_) (λ_ _=>rfl)) (kP nZ (pv 3) (eJ fv (eJ gm (pv 4) b_) b_) (λ_ _=>rfl))))
  (eF (eX 7 nd (eJ fv (eJ gm (pv 4) b_) b_))
  (eF (eX 8 nd (fY c_))
  (eF (iS PassesOwn.never rfl (lF rfl T.kY (a_ (pv 2) c_)) (fX (i:=9) nd rfl gJ) (eL (eY (eW fE (eJ fv (eJ gm (pv 4) b_) b_) b_ (eT _)) (eL (jM (lM PySem.F.plainAttrs_list PySem.F.slot_list_append PySem.F.type_list_append mL (pv 8) (a_ (eJ EO (kP nZ (pv 3) (eJ fv (eJ gm (pv 4) b_) b_) (λ_ _=>rfl)) (eJ g7 (pv 9) b_)) c_)))) (eF (eX 10 nd (kP nZ (pv 3) (eJ fv (eJ g7 (eJ gm (pv 4) b_) (eJ j8 (pv 9) (pv 5))) b_) (λ_ _=>rfl)))
  (eL (jM (lM PySem.F.plainAttrs_list PySem.F.slot_list_append PySem.F.type_list_append mL (pv 8) (a_ (eJ nV (eJ nV (i9 zt (pv 6) i7 (i8 (pv 7))) (pv 10)) (i9 zt (pv 6) (i8 (pv 7)) i7)) c_))))))))
  (eL (eO (fA EJ (by rfl) T.oE boot_sorted (a_ (pv 8) c_))))))))))),?_⟩
 ac_rfl
 refine⟨_,rfl,_,rfl,a,b,ns,n,rfl,g,hn,λr H1 r0 r1 s1 h1=>?_⟩;have hz:(abc).length<=sizeLine:=by decide +kernel
 have m6:0<=r % 6/\r % 6<6:=by omega
 have l1:0<=r / 6 % 26/\r / 6 % 26<26:=by omega
 have l2:0<=r / 156 % 26/\r / 156 % 26<26:=by omega
 refine⟨FU,λp1 ai=>?_⟩;refine⟨_,rfl,_,_,rfl,rfl,(by show(0:Int)<_;decide),p1,_,_,_,rfl,rfl,eG.of eK,FG m6.1 m6.2,?_⟩;have s2:SB b H (upd H1 p1 (.lst [.int 1,.int 3,.int 5,.int 7,.int 9,.int 11])):=s1.trans (SB.new ai);have h2:upd H1 p1 (.lst [.int 1,.int 3,.int 5,.int 7,.int 9,.int 11]) b=some (.lst [.int (n+1)]):=by rw[d_ (eM h1 ai)];exact h1
 generalize upd H1 p1 (.lst [.int 1,.int 3,.int 5,.int 7,.int 9,.int 11])=H2 at s2 h2
 refine⟨_,rfl,_,rfl,_,_,rfl,rfl,⟨by decide,by decide⟩,_,_,rfl,rfl,(by show(0:Int)<_;decide),_,_,_,rfl,rfl,hz,qe l1.1 l1.2,_,rfl,_,rfl,_,_,rfl,rfl,⟨by decide,by decide⟩,_,_,rfl,rfl,(by show(0:Int)<_;decide),_,_,_,rfl,rfl,hz,qe l2.1 l2.2,
  _,_,rfl,rfl,gF,?_⟩
 refine⟨_,rfl,_,_,rfl,rfl,⟨by decide,by decide⟩,_,_,rfl,rfl,(by show(0:Int)<_;decide),?_⟩;refine⟨ni,λp hp=>?_⟩;have aj:p≠b:=λz=>by rw[z,h2] at hp;cases hp
 have em:Int.toNat (m:Int)=m:=by omega
 refine⟨_,rfl,_,rfl,by omega,by omega,kL (n:=Int.toNat (m:Int)) (λi σ H'=>∃y z,σ=σN a b m r p y z/\SB b H H'/\H' b=some (.lst [.int (n+1)])/\H' p=some (.lst (((List.range i).map (nameAt r)).map V.str))) ?_ ?_ ?_⟩
 . exact⟨_,_,rfl,s2.trans (SB.new hp),by rw[d_ (eM h2 hp)];exact h2,eK⟩
 . intro i σ H' hi zq;obtain⟨y,z,rfl,sb,ag,ae⟩:=zq;rw[em] at hi
   have ac:(((List.range i).map (nameAt r)).map V.str).length<sizeLine:=by
    rw[Q03,Q03,Q2a];exact gN (by omega)
   have next:∀(v:Str) (y' z':Option V),v=nameAt r i->∃y z,σN a b m r p y' z'=σN a b m r p y z/\SB b H (upd H' p (.lst (((List.range i).map (nameAt r)).map V.str++[V.str v])))/\
    upd H' p (.lst (((List.range i).map (nameAt r)).map V.str++[V.str v])) b=some (.lst [.int (n+1)])/\upd H' p (.lst (((List.range i).map (nameAt r)).map V.str++[V.str v])) p=some (.lst (((List.range (i+1)).map (nameAt r)).map V.str)):=by
    rintro v y' z' rfl;refine⟨y',z',rfl,λc o hc hh=>?_,by rw[d_ (Ne.symm aj)];exact ag,by rw[eK,F2]⟩;by_cases e:c=p
    . subst e;have:=s2 c o hc hh;rw[hp] at this;cases this
    . rw[d_ e];exact sb c o hc hh
   have e0:(0:Int)+(i:Int)=(i:Int):=by omega
   refine⟨_,rfl,_,_,rfl,rfl,⟨by decide,by decide⟩,_,_,rfl,rfl,(by show(0:Int)<_;decide),rfl,_,rfl,?_⟩;refine fJ (λc=>?_) (λc=>?_)
   . have c':r / 12168 % 4=0:=by
      have:=of_decide_eq_true c;injection this
     refine⟨_,rfl,.inl ⟨rfl,_,eG.of ae⟩,_,rfl,_,rfl,_,_,rfl,rfl,⟨by decide,by decide⟩,_,_,rfl,rfl,(by show(0:Int)<_;decide),_,_,_,rfl,rfl,hz,qe l1.1 l1.2,_,rfl,_,_,rfl,rfl,_,_,rfl,rfl,?_,p,_,_,rfl,rfl,ae,ac,?_⟩
     . rw[e0];exact FL (qd _) (by omega) F1
     . refine next _ _ _ ?_;rw[e0];unfold nameAt;rw[if_pos c'];rfl
   . have c':¬r / 12168 % 4=0:=λz=>c (decide_eq_true (show V.int (r / 12168 % 4)=V.int 0 by rw[z]));have l3:0<=(r / 156+((0:Int)+(i:Int)) * (2 * (r % 6)+1)) % 26/\(r / 156+((0:Int)+(i:Int)) * (2 * (r % 6)+1)) % 26<26:=⟨Q0h _ (by decide),Q0j _ (by decide)⟩;have ls:(stemOf r).length<=sizeLine:=gF;refine⟨_,rfl,_,rfl,_,_,rfl,rfl,⟨by decide,by decide⟩,_,rfl,_,rfl,_,_,rfl,rfl,.inl ⟨by omega,by omega⟩,_,_,rfl,rfl,_,_,rfl,rfl,(by show(0:Int)<_;decide),_,_,_,rfl,rfl,hz,qe l3.1 l3.2,?_⟩;have k1:=Txt.slice_le (stemOf r) none (some (r / 4056 % 3));have k2:=Txt.slice_le (stemOf r) (some (r / 4056 % 3)) none;have k0:(stemOf r).length=2:=rfl;rw[k0] at k1 k2;refine⟨_,rfl,.inl ⟨rfl,_,eG.of ae⟩,_,rfl,_,rfl,_,rfl,_,rfl,ls,_,rfl,_,_,rfl,rfl,?_,_,rfl,_,rfl,_,rfl,_,rfl,ls,_,_,rfl,rfl,?_,p,_,_,rfl,rfl,ae,ac,?_⟩
     . show _+1<=sizeLine;exact Q0f (Q37 k1 1) (by decide)
     . rw[Ae];show _+1+_<=sizeLine;exact Q0f (Nat.add_le_add (Q37 k1 1) k2) (by decide)
     . refine next _ _ _ ?_;rw[e0];unfold nameAt;rw[if_neg c'];rfl
 . intro σ H' zq;obtain⟨y,z,rfl,sb,ag,ae⟩:=zq;rw[em] at ae;have ac:((List.range m).map (nameAt r)).length=m:=by rw[Q03,Q2a]
   refine⟨_,rfl,p,_,rfl,eG.of ae,by rw[ac];omega,λp' ak ah af _=>?_⟩;refine q p' ak _ (sb.trans (SB.new ah)) (by rw[d_ (eM ag ah)];exact ag) (λz=>by rw[z,ag] at ah;cases ah) eK (af.length_eq.trans ac) ?_ ?_
   . exact af.nodup_iff.mpr (names_nodup r0 hm)
   . intro x hx;obtain⟨i,hi,rfl⟩:=List.mem_map.mp (af.mem_iff.mp hx);exact FP
theorem F4:fo Xd XG (eP (top 29)):=fM
theorem F5 (d:Nat)(T:Tb mg)(I:Dn K mg "_law_fields" iY (top 29) J L)(U:Dn K mg "_law_names" km (top 27) Y aa)(ab:eE P w K mg base eI (2) Y aa km (qz K))(ac:Dn K mg "_law_kind" jb (top 31) ae af)(ag:eE P w K mg base eI (2 * d+4) ae af jb (l9 K d)):eE P w K mg base eI (2 * d+5) J L iY (Ah K d):=by
 refine I.F.ok F4 λvs H Q E h=>?_;obtain⟨a,b,ns,n,m,rfl,hm,g,hn,q⟩:=h;refine⟨rfl,λaC A outer s nd hr hu=>?_⟩
 refine⟨_,(eF (eX 4 nd (eV ab hr U (a_ (pv 0) (a_ (pv 1) (a_ (pv 2) c_)))))
  (eL (eO (nX yY (by rfl) T.qg boot_tuple (a_ (kT (g:=(gX 0)) (tt:=kQ) (te:=(kM (gp (fT 0) (gp (lL _ _ _ (gp (fT 1) (gp (fT 2) (gp (fT 4) g8)))) g8)))) (own:=["_law_name"]) rfl (jY (N:=Xd) (sc:=eP (top 29))) (rB (pv 4)) (λ_ _ _ _ _=>(fX (i:=0) (show(["_law_name","_law_script","_law_at","_law_many","_law_deep","_law_names_here"]:List Str).Nodup by decide +kernel) rfl (Or.inl rfl) (.inr rfl))) (λ_ _ _ _ _=>mQ) (λ_ _ _ _ _=>(f7 (a_ (pv 0) (a_ (eV ag hr ac (a_ (pv 1) (a_ (pv 2) (a_ (pv 4) c_)))) c_))))) c_))))),?_⟩
 ac_rfl
 have ap:n<=1000000000000:=by omega
 refine⟨_,rfl,_,rfl,_,rfl,a,b,ns,n,m,rfl,by omega,g,ap,λp ss H1 s1 h1 aq hp hl ar au=>?_⟩
 refine⟨_,rfl,p,rfl,⟨_,eG.of hp⟩,λi m' ys H'=>m'=ss.length - i/\i<=ss.length/\∃(fs:Fs) (n':Int),SB b H H'/\H' b=some (.lst [.int n'])/\n<=n'/\n'<=n+1+i * ck d/\H' p=some (.lst (ss.map V.str))/\FA H' ys fs/\fs.names=ss.take i/\fs.dep<=d+1/\ys.length=i/\fs.W,
  ⟨_,rfl,Q0a _,.nil,n+1,s1,h1,by omega,by omega,hp,by unfold FA;rfl,by simp[Fs.names],by simp[Fs.dep],rfl,by unfold Fs.W;trivial⟩,?_⟩
 intro i m' ys H' zq;obtain⟨rfl,aB,fs,n',sb,ai,z1,z2,aj,hf,ak,av,hy,hW⟩:=zq;by_cases hi:i<ss.length
 . refine .inr ⟨⟨_,.str ss[i],eG.of aj,by rw[Q0s,Q02 hi];rfl⟩,gN (by omega),λx aw y=>?_⟩;obtain⟨rfl,y⟩:=y;have hx:=y _ (eG.of aj)
   have ex:x=.str ss[i]:=by
    rw[Q0s,Q02 hi] at hx;exact(Option.some.inj hx).symm
   subst ex;refine⟨rfl,yes (fF ?_)⟩;have ax:(i:Int)<=2:=by omega
   have aD:(i:Int) * ck d<=2 * ck d:=Q1k ax (by omega);refine⟨_,rfl,_,rfl,_,rfl,_,rfl,a,b,ns,n',rfl,g.go sb ai z1,by omega,λv k ay H2 s2 h2 y1 y2 hk aE az=>?_⟩;refine⟨gF,λt ht=>?_⟩;have aA:t≠b:=λz=>by rw[z,h2] at ht;cases ht
   have al:Tu H2 (upd H2 t (.tup [.str ss[i],v])):=Tu.of (λc o h=>by rw[d_ (eM h ht)];exact h);have tu:Tu aw (upd H2 t (.tup [.str ss[i],v])):=(s2.tu ai).trans al;refine⟨_,Nat.sub_lt_sub_left hi (Q0y i),rfl,hi,fs.snoc ss[i] k,ay,sb.trans (s2.trans (SB.new ht)),by rw[d_ (Ne.symm aA)];exact h2,by omega,?_,?_,FA.snoc eK (KA.mono al k hk) fs (FA.mono tu fs hf),?_,?_,?_,Fs.sL az (au _ (Q0v _)) hW⟩
   . have e:((i+1:Nat):Int) * ck d=(i:Int) * ck d+ck d:=by
      rw[Q1v,Q1w];simp
     rw[e];omega
   . have h3:=s2 p _ aq aj;rw[d_ (eM h3 ht)];exact h3
   . rw[Fs.sI,ak,Q0t,Q02 hi];rfl
   . rw[Fs.sJ];omega
   . rw[Q0c,hy];rfl
 . have ei:i=m:=by omega
   subst ei;refine .inl ⟨⟨_,eG.of aj,by rw[Q03];omega⟩,λp' ah=>?_⟩;have e3:(i:Int) * ck d<=3 * ck d:=Q1k (by omega) (by omega);refine⟨p',ys,rfl,.inl ⟨eG.of eK,λt ht=>?_⟩⟩;have ao:p'≠b:=λz=>by rw[z,ai] at ah;cases ah
   have am:upd H' p' (.lst ys) b=some (.lst [.int n']):=by rw[d_ (Ne.symm ao)];exact ai
   have tu:Tu H' (upd (upd H' p' (.lst ys)) t (.tup ys)):=λc xs h=>by
    rw[d_ (eM (show upd H' p' (.lst ys) c=some (.tup xs) by rw[d_ (eM h ah)];exact h) ht),d_ (eM h ah)];exact h
   have an:ss.take i=ss:=by rw[<-hl,Q12]
   refine q t ys fs n' _ (sb.trans ((SB.new ah).trans (SB.new ht))) (by rw[d_ (eM am ht)];exact am) z1 (by omega) eK (FA.mono tu fs hf) ?_ ?_ av hW
   . rw[ak,an];exact ar
   . rw[ak,an];exact hl
noncomputable def σR (a b:Addr) (m d:Nat) (p:Addr) (r:Int) (I:Addr) (x y z:Option V):St:=
 [some (.ref a),some (.ref b),some (.int m),some (.int d),some (.ref p),some (.int r),some (.int (r % m)),some (.int (r / m % (m+1))),some (.ref I),x,y,z]
theorem qB {ss:List Str}{z:Int}(I:0<=z)(h1:z<ss.length):∃x:Str,gB (ss.map V.str) z=some (.str x)/\ss[z.toNat]? =some x:=by
 obtain⟨j,rfl⟩:∃j:Nat,z=(j:Int):=⟨z.toNat,by omega⟩;exact⟨ss[j]'(by omega),g9 (by rw[Q0s,Q02 (by omega)];rfl),by rw[Q1q];exact Q02 (by omega)⟩
theorem Fs.An:∀{fs:Fs}{x:Str}{k:Kd}{j:Nat}{y:Str}{q:Kd},fs.at j=some (y,q)->(fs.snoc x k).at j=some (y,q)
 | .nil,_,_,_,_,_,h=>by cases h
 | .cons _ _ _,_,_,0,_,_,h=>h
 | .cons _ _ r,x,k,j+1,y,q,h=>Fs.An (fs:=r) (j:=j) h
theorem Fs.Ao:∀{fs:Fs}{x:Str}{k:Kd},(fs.snoc x k).at fs.names.length=some (x,k)
 | .nil,_,_=>rfl
 | .cons _ _ r,x,k=>Fs.Ao (fs:=r)
theorem F6:fo ["_law_script","_law_at","_law_many","_law_deep","_law_names_here","_law_m","_law_lead","_law_by","_law_fields_here","_law_k","_law_kind_here","_law_name"] XG (eP (top 30)):=fM
theorem s_ (d:Nat)(T:Tb mg)(L:Dn K mg "_law_rows_kind" iY (top 30) U Y)(ac:Dn K mg "_law_names" km (top 27) ae af)(ag:eE P w K mg base eI (2) ae af km (qz K))(am:Dn K mg "_law_next" fk (top 24) an ao)(ap:eE P w K mg base eI (1) an ao fk (k7 K))(ah:Dn K mg "_law_plain" fk (top 28) ai aj)(ak:eE P w K mg base eI (2) ai aj fk (oJ K))(aq:Dn K mg "_law_kind" jb (top 31) ar au)(av:eE P w K mg base eI (2 * d+4) ar au jb (l9 K d)):
 eE P w K mg base eI (2 * d+5) U Y iY (qA K d):=by
 refine L.F.ok F6 λvs H Q E h=>?_;obtain⟨a,b,ns,n,m,rfl,bo,hm,g,hn,q⟩:=h;refine⟨rfl,λbp A outer s nd hr hu=>?_⟩;have bq:(0:Int)<=(m:Int) * (ck d+1):=Int.mul_nonneg (by omega) (by omega)
 refine⟨_,(eF (eX 4 nd (eV ag hr ac (a_ (pv 0) (a_ (pv 1) (a_ (pv 2) c_)))))
  (eF (eX 5 nd (eV ap hr am (a_ (pv 0) (a_ (pv 1) c_))))
  (eF (eX 6 nd (eJ fv (pv 5) (pv 2)))
  (eF (eX 7 nd (eJ fv (eJ gm (pv 5) (pv 2)) (eJ g7 (pv 2) b_)))
  (eF (eX 8 nd (fY c_))
  (eF (iS PassesOwn.never rfl (lF rfl T.kY (a_ (pv 2) c_)) (fX (i:=9) nd rfl gJ) (eF (eX 10 nd (eV av hr aq (a_ (pv 0) (a_ (pv 1) (a_ (pv 3) c_)))))
  (eF (eY (PW.pt (il (eW fE (pv 9) (pv 6) (eT _)) (iB (eW fE (pv 9) (pv 7) (eT _))))) (eL (eX 10 nd (eV ak hr ah (a_ (pv 0) (a_ (pv 1) c_))))) eZ)
  (eL (jM (lM PySem.F.plainAttrs_list PySem.F.slot_list_append PySem.F.type_list_append mL (pv 8) (a_ (f7 (a_ (gO (pv 4) (pv 9)) (a_ (pv 10) c_))) c_)))))))
  (eF (eX 11 nd fm)
  (eF (eY (PW.pt (mD (eW mG (pv 7) (pv 2) (eT _)) (nQ (eW jj (pv 7) (pv 6) (eT _))))) (eL (eX 11 nd (gO (pv 4) (pv 7)))) eZ)
  (eL (eO (f7 (a_ fm (a_ (gO (pv 4) (pv 6)) (a_ (pv 11) (a_ (nX yY (by rfl) T.qg boot_tuple (a_ (pv 8) c_)) c_))))))))))))))),?_⟩
 ac_rfl
 refine⟨_,rfl,_,rfl,_,rfl,a,b,ns,n,m,rfl,by omega,g,by omega,λp ss H1 s1 h1 aA hp hl a8 a9=>?_⟩;refine⟨_,rfl,_,rfl,a,b,ns,n+1,rfl,g.go s1 h1 (by omega),by omega,λr H2 r0 r1 s2 h2=>?_⟩;have aL:H2 p=some (.lst (ss.map V.str)):=s2 p _ aA hp;have aU:SB b H H2:=s1.trans s2;refine⟨_,rfl,_,rfl,_,_,rfl,rfl,by omega,?_⟩;refine⟨_,rfl,_,rfl,_,_,rfl,rfl,⟨by omega,by omega⟩,_,rfl,_,_,rfl,rfl,_,_,rfl,rfl,by omega,?_⟩;refine⟨ni,λI aB=>?_⟩;have aa:I≠b:=λz=>by rw[z,h2] at aB;cases aB
 have aV:p≠I:=λz=>by rw[z,aB] at aL;cases aL
 have a4:∀o,H I=some o->False:=λo ho=>by
  have:=aU I o aa ho;rw[aB] at this;cases this
 have em:Int.toNat (m:Int)=m:=by omega
 refine⟨_,rfl,_,rfl,by omega,by omega,kL (n:=Int.toNat (m:Int)) (λi σ H'=>∃(x y z:Option V) (n':Int) (ys:List V) (fs:Fs),σ=σR a b m d p r I x y z/\SB b H H'/\H' b=some (.lst [.int n'])/\n<=n'/\n'<=n+2+i * (ck d+1)/\
  H' p=some (.lst (ss.map V.str))/\H' I=some (.lst ys)/\FA H' ys fs/\fs.dep<=d+1/\ys.length=i/\fs.W/\fs.names=ss.take i/\∀j:Nat,j<i->((j:Int)=r % m\/(j:Int)=r / m % (m+1))->∃y q,fs.at j=some (y,q)/\kW q) ?_ ?_ ?_⟩
 . refine⟨_,_,_,n+1+1,[],.nil,rfl,aU.trans (SB.new aB),by rw[d_ (Ne.symm aa)];exact h2,by omega,by omega,by rw[d_ aV];exact aL,eK,by unfold FA;rfl,by simp[Fs.dep],rfl,by unfold Fs.W;trivial,rfl,λj hj=>absurd hj (by omega)⟩
 . intro i σ H' hi zq;obtain⟨x,y,z,n',ys,fs,rfl,sb,ax,z1,z2,al,J,aG,ba,hy,hW,aH,aJ⟩:=zq;rw[em] at hi
   have e1:((i+1:Nat):Int) * (ck d+1)=(i:Int) * (ck d+1)+(ck d+1):=by
    rw[Q1v,Q1w];simp
   have bb:((i+1:Nat):Int) * (ck d+1)<=(m:Int) * (ck d+1):=Q1k (by omega) (by omega);rw[e1] at bb;have aC:ys.length<sizeLine:=gN (by omega);have bc:∃q:Str,gB (ss.map V.str) ((0:Int)+(i:Int))=some (.str q)/\ss[((0:Int)+(i:Int)).toNat]? =some q:=qB (by omega) (by omega);obtain⟨nm,aD,aw⟩:=bc
   have aw:ss[i]? =some nm:=by
    rw[show((0:Int)+(i:Int)).toNat=i by omega] at aw;exact aw
   have bd:fs.names.length=i:=by rw[<-FA.len fs aG];exact hy
   have next:∀(x' y' z':Option V) (v:V) (k:Kd) (n2:Int) (H3:Hp) (t:Addr),SB b H' H3->H3 b=some (.lst [.int n2])->n'<=n2->n2<=n'+(ck d+1)->KA H3 v k->k.dep<=d+1->k.W->(((i:Int)=r % m\/(i:Int)=r / m % (m+1))->kW k)->H3 t=none->
    ∃(x y z:Option V) (n':Int) (aM:List V) (fs:Fs),σR a b m d p r I x' y' z'=σR a b m d p r I x y z/\SB b H (upd (upd H3 t (.tup [.str nm,v])) I (.lst (ys++[.ref t])))/\(upd (upd H3 t (.tup [.str nm,v])) I (.lst (ys++[.ref t]))) b=some (.lst [.int n'])/\n<=n'/\
     n'<=n+2+((i+1:Nat):Int) * (ck d+1)/\(upd (upd H3 t (.tup [.str nm,v])) I (.lst (ys++[.ref t]))) p=some (.lst (ss.map V.str))/\(upd (upd H3 t (.tup [.str nm,v])) I (.lst (ys++[.ref t]))) I=some (.lst aM)/\
     FA (upd (upd H3 t (.tup [.str nm,v])) I (.lst (ys++[.ref t]))) aM fs/\fs.dep<=d+1/\aM.length=i+1/\fs.W/\fs.names=ss.take (i+1)/\∀j:Nat,j<i+1->((j:Int)=r % m\/(j:Int)=r / m % (m+1))->∃y q,fs.at j=some (y,q)/\kW q:=by
    intro x' y' z' v k n2 H3 t s3 h3 w1 w2 hk aW aP be ht;have aX:H3 I=some (.lst ys):=s3 I _ aa J;have aY:H3 p=some (.lst (ss.map V.str)):=s3 p _ aA al;have bf:t≠I:=λz=>by rw[z,aX] at ht;cases ht
    have bg:t≠b:=λz=>by rw[z,h3] at ht;cases ht
    have bh:t≠p:=λz=>by rw[z,aY] at ht;cases ht
    have aZ:Tu H3 (upd (upd H3 t (.tup [.str nm,v])) I (.lst (ys++[.ref t]))):=λc xs h=>by
     rw[d_ (gz h aX (by intro z;cases z)),d_ (eM h ht)];exact h
    have oM:upd (upd H3 t (.tup [.str nm,v])) I (.lst (ys++[.ref t])) t=some (.tup [.str nm,v]):=by rw[d_ bf];exact eK
    refine⟨x',y',z',n2,ys++[.ref t],fs.snoc nm k,rfl,λc o hc hh=>?_,?_,by omega,by rw[e1];omega,?_,eK,FA.snoc oM (KA.mono aZ k hk) fs (FA.mono ((s3.tu ax).trans aZ) fs aG),by rw[Fs.sJ];omega,by rw[Q0c,hy];rfl,Fs.sL aP (a9 _ (Q19 aw)) hW,by rw[Fs.sI,aH,Q0t,aw];rfl,λj hj az=>?_⟩
    . have q1:=s3 c o hc (sb c o hc hh);by_cases e:c=I
      . subst e;exact(a4 o hh).elim
      . rw[d_ e,d_ (eM q1 ht)];exact q1
    . rw[d_ (Ne.symm aa),d_ (Ne.symm bg)];exact h3
    . rw[d_ aV,d_ (Ne.symm bh)];exact aY
    . by_cases e:j<i
      . obtain⟨y,q,e1,e2⟩:=aJ j e az;exact⟨y,q,Fs.An e1,e2⟩
      . have:j=i:=by omega
        subst this;exact⟨nm,k,by have:=Fs.Ao (fs:=fs) (x:=nm) (k:=k);rwa [bd] at this,be az⟩
   refine⟨_,rfl,_,rfl,_,rfl,a,b,ns,n',rfl,g.go sb ax z1,by omega,λv k n2 H3 s3 h3 w1 w2 hk aW aP=>?_⟩;refine⟨_,rfl,_,rfl,rfl,_,rfl,?_⟩;refine fJ (λc=>fF ?_) (λcL=>⟨_,rfl,_,rfl,rfl,_,rfl,fJ (λc=>?_) (λc=>?_)⟩)
   . refine⟨_,rfl,_,rfl,a,b,ns,n2,rfl,(g.go sb ax z1).go s3 h3 w1,by omega,λv' k' H4 s4 h4 aQ a5 aE aF=>?_⟩;have ab:=s3.trans s4;refine⟨_,rfl,.inl ⟨rfl,_,eG.of (ab I _ aa J)⟩,_,rfl,_,rfl,p,_,_,_,rfl,rfl,eG.of (ab p _ aA al),aD,_,rfl,gF,λt ht=>?_⟩;refine⟨I,_,_,rfl,rfl,by rw[d_ (eM (ab I _ aa J) ht)];exact ab I _ aa J,aC,?_⟩;exact next _ _ _ v' k' _ H4 t ab h4 (by omega) (by omega) aQ (by omega) aF (λ_=>aE) ht
   . refine⟨_,rfl,_,rfl,a,b,ns,n2,rfl,(g.go sb ax z1).go s3 h3 w1,by omega,λv' k' H4 s4 h4 aQ a5 aE aF=>?_⟩;have ab:=s3.trans s4;refine⟨_,rfl,.inl ⟨rfl,_,eG.of (ab I _ aa J)⟩,_,rfl,_,rfl,p,_,_,_,rfl,rfl,eG.of (ab p _ aA al),aD,_,rfl,gF,λt ht=>?_⟩;refine⟨I,_,_,rfl,rfl,by rw[d_ (eM (ab I _ aa J) ht)];exact ab I _ aa J,aC,?_⟩;exact next _ _ _ v' k' _ H4 t ab h4 (by omega) (by omega) aQ (by omega) aF (λ_=>aE) ht
   . refine⟨_,rfl,.inl ⟨rfl,_,eG.of (s3 I _ aa J)⟩,_,rfl,_,rfl,p,_,_,_,rfl,rfl,eG.of (s3 p _ aA al),aD,_,rfl,gF,λt ht=>?_⟩;refine⟨I,_,_,rfl,rfl,by rw[d_ (eM (s3 I _ aa J) ht)];exact s3 I _ aa J,aC,?_⟩;refine next _ _ _ v k _ H3 t s3 h3 (by omega) (by omega) hk aW aP (λaz=>?_) ht
     exact(by
      rcases az with e|e
      . exact absurd (decide_eq_true (show V.int ((0:Int)+(i:Int))=V.int (r % m) by rw[<-e];congr 1;omega)) cL
      . exact absurd (decide_eq_true (show V.int ((0:Int)+(i:Int))=V.int (r / m % (m+1)) by rw[<-e];congr 1;omega)) c)
 . intro σ H' zq;obtain⟨x,y,z,n',ys,fs,rfl,sb,ax,z1,z2,al,J,aG,ba,hy,hW,aH,aJ⟩:=zq;rw[em] at z2 hy aJ aH;have l0:0<=r % (m:Int):=Q0h _ (by omega);have l1:r % (m:Int)<m:=Q0j _ (by omega);have b0:0<=r / (m:Int) % ((m:Int)+1):=Q0h _ (by omega);obtain⟨xk,aT,bi⟩:=qB (ss:=ss) l0 (by omega);have ay:fs.names=ss:=by rw[aH,<-hl,Q12]
   have a1:fs.names.Nodup:=by rw[ay];exact a8
   have pl:∀(z:Int) (x:Str),0<=z->z<m->(z=r % m\/z=r / m % (m+1))->ss[z.toNat]? =some x->fs.pl x:=λz x h0 h1 az hx=>by
    obtain⟨y,q,e1,e2⟩:=aJ z.toNat (by omega) (by rw[Int.toNat_of_nonneg h0];exact az);have a2:=Fs.jD fs z.toNat;rw[e1,ay,hx] at a2;have e3:some x=some y:=a2
    cases e3;exact⟨q,Fs.jV a1 e1,e2⟩
   have bj:fs.pl xk:=pl _ _ l0 l1 (.inl rfl) bi;have aK:fs.names.length<=12:=by rw[ay,hl];omega
   have fin:∀(nm:Str),(nm=""\/fs.pl nm)->∀(t:Addr),H' t=none->∀v:Addr,upd H' t (.tup ys) v=none->Q (.ref v) (upd (upd H' t (.tup ys)) v (.tup [.str "rows",.str xk,.str nm,.ref t])):=by
    intro nm bm t ht v hv;have bn:v≠t:=λz=>by rw[z,eK] at hv;cases hv
    have tu:Tu H' (upd (upd H' t (.tup ys)) v (.tup [.str "rows",.str xk,.str nm,.ref t])):=λc xs h=>by
     have e:upd H' t (.tup ys) c=some (.tup xs):=by rw[d_ (eM h ht)];exact h
     rw[d_ (eM e hv)];exact e
    have a3:upd H' t (.tup ys) b=some (.lst [.int n']):=by rw[d_ (eM ax ht)];exact ax
    refine q (.ref v) xk nm fs n' _ (sb.trans ((SB.new ht).trans (SB.new hv))) (by rw[d_ (eM a3 hv)];exact a3) z1 (by omega) ?_ (by simp only[Kd.dep];omega) (by unfold Kd.W;exact⟨a1,aK,hW,bj,bm⟩) (by rw[ay,hl]);unfold KA;exact⟨v,t,ys,rfl,eK,by rw[d_ (Ne.symm bn)];exact eK,FA.mono tu fs aG⟩
   refine⟨_,rfl,_,rfl,_,_,rfl,rfl,_,rfl,?_⟩;refine fJ (λc=>⟨_,rfl,_,rfl,rfl,_,rfl,fJ (λc2=>?_) (λc2=>?_)⟩) (λc=>fe ?_)
   . have c':r / (m:Int) % ((m:Int)+1)<m:=of_decide_eq_true c;obtain⟨nm,a6,a7⟩:=qB (ss:=ss) b0 (by omega);refine⟨_,rfl,_,rfl,p,_,_,_,rfl,rfl,eG.of al,a6,?_⟩;exact⟨_,rfl,_,rfl,p,_,_,_,rfl,rfl,eG.of al,aT,_,rfl,_,rfl,I,ys,rfl,.inl ⟨eG.of J,λt ht=>⟨oF,λv hv=>fin nm (.inr (pl _ _ b0 c' (.inr rfl) a7)) t ht v hv⟩⟩⟩
   . exact⟨_,rfl,_,rfl,p,_,_,_,rfl,rfl,eG.of al,aT,_,rfl,_,rfl,I,ys,rfl,.inl ⟨eG.of J,λt ht=>⟨oF,λv hv=>fin _ (.inl rfl) t ht v hv⟩⟩⟩
   . exact⟨_,rfl,_,rfl,p,_,_,_,rfl,rfl,eG.of al,aT,_,rfl,_,rfl,I,ys,rfl,.inl ⟨eG.of J,λt ht=>⟨oF,λv hv=>fin _ (.inl rfl) t ht v hv⟩⟩⟩
theorem F7 (d:Nat)(T:Tb mg)(z:Dn K mg "_law_rows_kind" iY (top 30) I J)(L:Dn K mg "_law_names" km (top 27) U Y)(aa:eE P w K mg base eI (2) U Y km (qz K))(ag:Dn K mg "_law_next" fk (top 24) ah ai)(aj:eE P w K mg base eI (1) ah ai fk (k7 K))(ab:Dn K mg "_law_plain" fk (top 28) ac ae)(af:eE P w K mg base eI (2) ac ae fk (oJ K))(ak:Dn K mg "_law_kind" jb (top 31) al am)(an:eE P w K mg base eI (2 * d+4) al am jb (l9 K d)):
 eE P w K mg base eI (2 * d+5) I J iY (Ai K d):=(s_ d T z L aa ag aj ab af ak an).imp λvs H Q E h=>by
 obtain⟨a,b,ns,n,m,e,h1,h3,g,hn,q⟩:=h;have e3:(m:Int) * (ck d+1)<=3 * (ck d+1):=Q1k (by omega) (by omega);exact⟨a,b,ns,n,m,e,h1,by omega,g,by omega,λv key by_ fs n' H' s h0 l1 l2 k kd kw _=>q v _ n' H' s h0 l1 (by omega) k kd kw⟩
theorem Ap:fo ["_law_script","_law_at","_law_deep","_law_m"] XZ (eP (top 31)):=fM
theorem F8 (T:Tb mg)(U:Dn K mg "_law_kind" jb (top 31) Y aa)(ab:Dn K mg "_law_next" fk (top 24) ac ae)(af:eE P w K mg base eI (1) ac ae fk (k7 K))(z:Dn K mg "_law_plain" fk (top 28) I J)(L:eE P w K mg base eI (2) I J fk (oJ K)):eE P w K mg base eI (2 * 0+4) Y aa jb (l9 K 0):=by
 refine U.F.ok Ap λvs H Q E h=>?_;obtain⟨a,b,ns,n,rfl,g,hn,q⟩:=h;refine⟨rfl,λah A outer s nd hr hu=>?_⟩;have ag:ck 0=2:=rfl;rw[ag] at hn q
 refine⟨_,(eF (eX 3 nd (eV af hr ab (a_ (pv 0) (a_ (pv 1) c_))))
  (eF (eY (PW.pt (il (eW yC (pv 2) b_ (eT _)) (iB EI))) (eL (eO (eV L hr z (a_ (pv 0) (a_ (pv 1) c_))))) eZ) C7)),?_⟩
 ac_rfl
 refine⟨_,rfl,_,rfl,a,b,ns,n,rfl,g,by omega,λr H1 r0 r1 s1 h1=>?_⟩;refine⟨_,rfl,_,_,rfl,rfl,_,rfl,?_⟩;refine fJ (λc=>fF ?_) (λc=>(c (by decide)).elim);refine⟨_,rfl,_,rfl,a,b,ns,n+1,rfl,g.go s1 h1 (by omega),by omega,λv k H2 s2 h2 hk hd hp hw=>?_⟩;exact q v k (n+1+1) H2 (s1.trans s2) h2 (by omega) (by omega) hk (by omega) hw
theorem F9 (d:Nat)(T:Tb mg)(J:Dn K mg "_law_kind" jb (top 31) L U)(ak:Dn K mg "_law_next" fk (top 24) al am)(an:eE P w K mg base eI (1) al am fk (k7 K))(ag:Dn K mg "_law_plain" fk (top 28) ah ai)(aj:eE P w K mg base eI (2) ah ai fk (oJ K))(z:Dn K mg "_law_fields" iY (top 29) ae af)(I:eE P w K mg base eI (2 * d+5) ae af iY (Ah K d))(Y:Dn K mg "_law_rows_kind" iY (top 30) aa ab)(ac:eE P w K mg base eI (2 * d+5) aa ab iY (Ai K d))
 (ao:eE P w K mg base eI (2 * d+4) L U jb (l9 K d)):eE P w K mg base eI (2 * (d+1)+4) L U jb (l9 K (d+1)):=by
 refine J.F.ok Ap λvs H Q E h=>?_;obtain⟨a,b,ns,n,rfl,g,hn,q⟩:=h;refine⟨rfl,λav A outer s nd hr hu=>?_⟩
 have ap:(ck (d+1):Int)=3 * ck d+6:=by
  have:ck (d+1)=3 * ck d+6:=rfl;omega
 rw[ap] at hn
 refine⟨_,(eF (eX 3 nd (eV an hr ak (a_ (pv 0) (a_ (pv 1) c_))))
  (eF (eY (PW.pt (il (eW yC (pv 2) b_ (eT _)) (iB (eW mG (eJ fv (pv 3) b_) b_ (eT _))))) (eL (eO (eV aj hr ag (a_ (pv 0) (a_ (pv 1) c_))))) eZ)
  (eF (eY (eW mG (eJ fv (pv 3) b_) b_ (eT _)) (eL (eO (f7 (a_ fm (a_ (eV I hr z (a_ (pv 0) (a_ (pv 1) (a_ (eJ fv (eJ gm (pv 3) b_) b_) (a_ (eJ jN (pv 2) b_) c_))))) c_))))) eZ)
  (eF (eY (eW mG (eJ fv (pv 3) b_) b_ (eT _)) (eL (eO (eV ac hr Y (a_ (pv 0) (a_ (pv 1) (a_ (eJ g7 b_ (eJ fv (eJ gm (pv 3) b_) b_)) (a_ (eJ jN (pv 2) b_) c_))))))) eZ)
  (eF (eY (eW fE (eJ fv (pv 3) b_) b_ (eT _)) (eL (eO (f7 (a_ fm (a_ (eV ao hr J (a_ (pv 0) (a_ (pv 1) (a_ (eJ jN (pv 2) b_) c_)))) c_))))) eZ)
  (eL (eO (f7 (a_ fm (a_ (eV I hr z (a_ (pv 0) (a_ (pv 1) (a_ (eJ g7 b_ (eJ fv (eJ gm (pv 3) b_) b_)) (a_ (eJ jN (pv 2) b_) c_))))) c_)))))))))),?_⟩
 ac_rfl
 refine⟨_,rfl,_,rfl,a,b,ns,n,rfl,g,by omega,λr H1 r0 r1 s1 h1=>?_⟩;have g1:=g.go s1 h1 (by omega);have e2:(((d+1:Nat):Int)) - 1=(d:Int):=by omega
 have e0:(if decide ((((d+1:Nat):Int))<=0)=true then True else False)=False:=by
  rw[if_neg (by rw[decide_eq_true_iff];omega)]
 refine⟨_,rfl,_,_,rfl,rfl,_,rfl,fJ (λc=>?_) (λc=>?_)⟩
 . exact absurd (of_decide_eq_true c) (by omega)
 refine⟨_,rfl,_,_,rfl,rfl,(by show(0:Int)<_;decide),_,_,rfl,rfl,_,rfl,fJ (λc1=>?_) (λc1=>?_)⟩
 . refine⟨_,rfl,_,rfl,a,b,ns,n+1,rfl,g1,by omega,λv k H2 s2 h2 hk hd hp hw=>?_⟩;exact q v k (n+1+1) H2 (s1.trans s2) h2 (by omega) (by rw[ap];omega) hk (by omega) hw
 refine⟨_,rfl,_,_,rfl,rfl,(by show(0:Int)<_;decide),_,_,rfl,rfl,_,rfl,fJ (λc2=>?_) (λc2=>?_)⟩
 . obtain⟨m,hm⟩:∃m:Nat,r / 10 % 4=(m:Int):=⟨(r / 10 % 4).toNat,by omega⟩;refine⟨_,rfl,_,rfl,_,rfl,_,_,rfl,rfl,⟨by decide,by decide⟩,_,_,rfl,rfl,(by show(0:Int)<_;decide),_,rfl,_,_,rfl,rfl,a,b,ns,n+1,m,(by show [V.ref a,V.ref b,V.int (r / 10 % 4),V.int (((d+1:Nat):Int) - 1)]=_;rw[hm,e2]),by omega,g1,by omega,λt xs fs n' H2 s2 h2 w1 w2 ht aq ar hl au hW=>?_⟩;refine⟨gF,λv hv=>?_⟩;have tu:Tu H2 (upd H2 v (.tup [.str "record",.ref t])):=λc ys h=>by rw[d_ (eM h hv)];exact h
   refine q (.ref v) (.fL fs) n' _ (s1.trans (s2.trans (SB.new hv))) (by rw[d_ (eM h2 hv)];exact h2) (by omega) (by rw[ap];omega) ?_ (by simp only[Kd.dep];omega) (by unfold Kd.W;exact⟨ar,by omega,hW⟩);unfold KA;exact⟨v,t,xs,rfl,eK,tu _ _ ht,FA.mono tu fs aq⟩
 refine⟨_,rfl,_,_,rfl,rfl,(by show(0:Int)<_;decide),_,_,rfl,rfl,_,rfl,fJ (λc3=>?_) (λc3=>?_)⟩
 . obtain⟨m,hm⟩:∃m:Nat,1+r / 10 % 3=(m:Int):=⟨(1+r / 10 % 3).toNat,by omega⟩;refine⟨_,rfl,_,rfl,_,rfl,_,_,rfl,rfl,⟨by decide,by decide⟩,_,_,rfl,rfl,(by show(0:Int)<_;decide),_,_,rfl,rfl,_,rfl,_,_,rfl,rfl,a,b,ns,n+1,m,(by show [V.ref a,V.ref b,V.int (1+r / 10 % 3),V.int (((d+1:Nat):Int) - 1)]=_;rw[hm,e2]),by omega,by omega,g1,by omega,λv k n' H2 s2 h2 w1 w2 hk au hw=>?_⟩;exact q v k n' H2 (s1.trans s2) h2 (by omega) (by rw[ap];omega) hk (by omega) hw
 refine⟨_,rfl,_,_,rfl,rfl,(by show(0:Int)<_;decide),rfl,_,rfl,fJ (λc4=>?_) (λc4=>?_)⟩
 . refine⟨_,rfl,_,rfl,_,rfl,_,_,rfl,rfl,a,b,ns,n+1,(by show [V.ref a,V.ref b,V.int (((d+1:Nat):Int) - 1)]=_;rw[e2]),g1,by omega,λu k n' H2 s2 h2 w1 w2 hk au hw=>?_⟩;refine⟨gF,λv hv=>?_⟩;have tu:Tu H2 (upd H2 v (.tup [.str "tree",u])):=λc ys h=>by rw[d_ (eM h hv)];exact h
   refine q (.ref v) (.tree k) n' _ (s1.trans (s2.trans (SB.new hv))) (by rw[d_ (eM h2 hv)];exact h2) (by omega) (by rw[ap];omega) ?_ (by simp only[Kd.dep];omega) (by unfold Kd.W;exact hw);unfold KA;exact⟨v,u,rfl,eK,KA.mono tu k hk⟩
 . obtain⟨m,hm⟩:∃m:Nat,1+r / 10 % 3=(m:Int):=⟨(1+r / 10 % 3).toNat,by omega⟩;refine⟨_,rfl,_,rfl,_,rfl,_,_,rfl,rfl,⟨by decide,by decide⟩,_,_,rfl,rfl,(by show(0:Int)<_;decide),_,_,rfl,rfl,_,rfl,_,_,rfl,rfl,a,b,ns,n+1,m,(by show [V.ref a,V.ref b,V.int (1+r / 10 % 3),V.int (((d+1:Nat):Int) - 1)]=_;rw[hm,e2]),by omega,g1,by omega,λt xs fs n' H2 s2 h2 w1 w2 ht aq ar hl au hW=>?_⟩;refine⟨gF,λv hv=>?_⟩;have tu:Tu H2 (upd H2 v (.tup [.str "either",.ref t])):=λc ys h=>by rw[d_ (eM h hv)];exact h
   refine q (.ref v) (.gy fs) n' _ (s1.trans (s2.trans (SB.new hv))) (by rw[d_ (eM h2 hv)];exact h2) (by omega) (by rw[ap];omega) ?_ (by simp only[Kd.dep];omega) (by unfold Kd.W;exact⟨ar,by omega,by omega,hW⟩);unfold KA;exact⟨v,t,xs,rfl,eK,tu _ _ ht,FA.mono tu fs aq⟩
theorem kind_all (T:Tb mg)(J:Dn K mg "_law_kind" jb (top 31) aa ab)(z:Dn K mg "_law_next" fk (top 24) al am)(I:Dn K mg "_law_plain" fk (top 28) ah ai)(U:Dn K mg "_law_names" km (top 27) aj ak)(Y:Dn K mg "_law_fields" iY (top 29) af ag)(L:Dn K mg "_law_rows_kind" iY (top 30) ac ae):∀d:Nat,eE P w K mg base eI (2 * d+4) aa ab jb (l9 K d)
 |0=>F8 T J z (qy (oK T z)) I (sY T I z (qy (oK T z)))
 |d+1=>by
  have N:=qy (oK (P:=P) (w:=w) (base:=base) T z);have Pl:=sY T I z N;have Nm:=Am T U z N;have ih:=kind_all T J z I U Y L d;have Fd:=F5 d T Y U Nm J ih;have Rw:=F7 d T L U Nm z N I Pl J ih;exact F9 d T J z N I Pl Y Fd L Rw ih
theorem Aq (ns:List Int)(x:Str)(k:Kd)(room:Nat):∀(fs:Fs) (n:Int),e_ ns (fs.snoc x k) room n=((e_ ns fs room n).1.snoc x (val ns k room (e_ ns fs room n).2).1,(val ns k room (e_ ns fs room n).2).2)
 | .nil,n=>by
   show e_ ns (.cons x k .nil) room n=_;simp only[e_,Ds.snoc]
 | .cons y q r,n=>by
   show e_ ns (.cons y q (r.snoc x k)) room n=_;simp only[e_,Ds.snoc];rw[Aq ns x k room r]
theorem Ar (g:Int->D × Int):∀(m:Nat) (n:Int),times g (m+1) n=((times g m n).1.snoc "" (g (times g m n).2).1,(g (times g m n).2).2)
 |0,n=>by simp only[times,Ds.snoc]
 |m+1,n=>by
  have z:=Ar g m (g n).2;show(Ds.cons "" (g n).1 (times g (m+1) (g n).2).1,(times g (m+1) (g n).2).2)=_;rw[z];simp only[times,Ds.snoc]
theorem tf {g h:Int->D × Int}(e:∀n,g n=h n):∀(m:Nat) (n:Int),times g m n=times h m n
 |0,n=>rfl
 |m+1,n=>by
  simp only[times];rw[e n,tf e m]
theorem k8 {ns:List Int}{f:Nat->Int->D × Int}:∀(fu room:Nat) (n:Int),room<2 ^ fu->gD ns f (fu+1) room n=gD ns f (fu+2) room n
 |0,room,n,h=>by
  have e:room=0:=by simpa using h
  subst e
  have z:(nx ns ((f (0 / 2) n).2+1) % (((0:Nat):Int)+1)).toNat=0:=by
   have:nx ns ((f (0 / 2) n).2+1) % (((0:Nat):Int)+1)=0:=by
    show _ % (1:Int)=0;exact Int.emod_one _
   rw[this];rfl
  unfold gD;rw[z];rfl
 |fu+1,room,n,h=>by
  have I:=λm=>k8 (ns:=ns) (f:=f) fu (room / 2) m (by rw[Nat.pow_succ] at h;omega);show(pairD (f (room / 2) n).1 (.lst (times (gD ns f (fu+1) (room / 2)) _ _).1),(times (gD ns f (fu+1) (room / 2)) _ _).2)=(pairD (f (room / 2) n).1 (.lst (times (gD ns f (fu+2) (room / 2)) _ _).1),(times (gD ns f (fu+2) (room / 2)) _ _).2);rw[tf I]
theorem F_ (ns:List Int)(k:Kd)(room:Nat)(n:Int)(h:room<8):val ns (.tree k) room n=
 (pairD (val ns k (room / 2) n).1 (.lst (times (val ns (.tree k) (room / 2)) (nx ns ((val ns k (room / 2) n).2+1) % ((room:Int)+1)).toNat ((val ns k (room / 2) n).2+1)).1),
   (times (val ns (.tree k) (room / 2)) (nx ns ((val ns k (room / 2) n).2+1) % ((room:Int)+1)).toNat ((val ns k (room / 2) n).2+1)).2):=by
 have e:∀m,val ns (.tree k) (room / 2) m=gD ns (val ns k) 3 (room / 2) m:=λm=>by
  show gD ns (val ns k) 4 (room / 2) m=_;exact(k8 2 (room / 2) m (by show _<4;omega)).symm
 rw[tf e];simp only[val,gD]
theorem tm {g:Int->Ds × Int}{key:Str}:∀(m:Nat) (z:List Ds) (n:Int),fW g key (m+1) z n=
 (if kX key (fW g key m z n).1 (keyOf (g (fW g key m z n).2).1 key)=true then((fW g key m z n).1,(g (fW g key m z n).2).2) else((fW g key m z n).1++[(g (fW g key m z n).2).1],(g (fW g key m z n).2).2))
 |0,z,n=>by
  simp only[fW]
  first
   |rfl
   |(by_cases c:kX key z (keyOf (g n).1 key)=true <;> simp[c])
 |m+1,z,n=>by
  rw[fW];split
  . rename_i c;rw[tm m z]
    conv=>rhs;rw[fW]
    simp only[c,if_true]
  . rename_i c;rw[tm m (z++[(g n).1])]
    conv=>rhs;rw[fW]
    simp only[c,if_false];rfl
noncomputable def mu:Kd->Nat->Nat
 | .rows key by_ fs,room=>(2 * (fs.dep+1)+1) * 8+room
 |k,room=>(2 * k.dep) * 8+room
theorem tw (k:Kd)(room:Nat):mu k room<=(2 * k.dep+1) * 8+room:=by
 cases k <;> simp only[mu,Kd.dep] <;> omega
theorem tz {k I:Kd}{room z:Nat}(h:k.dep<I.dep)(J:room<8):mu k room<mu I z:=by
 have:=tw k room
 cases I <;> simp only[mu,Kd.dep] at * <;> omega
noncomputable def gr (room:Nat):Nat:=if room=0 then 1 else if room=1 then 9 else if room<4 then 73 else 585
noncomputable def kc:Kd->Nat->Nat
 | .tree k,room=>(k.cB+1) * gr room
 |k,_=>k.cB
theorem tD (room:Nat):1<=gr room/\gr room<=585:=by
 unfold gr;by_cases z:room=0
 . rw[if_pos z];omega
 . rw[if_neg z];by_cases h1:room=1
   . rw[if_pos h1];omega
   . rw[if_neg h1];by_cases h2:room<4
     . rw[if_pos h2];omega
     . rw[if_neg h2];omega
theorem Ga (room:Nat):gr room<=585:=(tD room).2
theorem tE (k:Kd)(room:Nat):kc k room<=k.cB:=by
 cases k with
 |tree k=>exact Q38 _ (Ga room)
 |_=>exact Q00 _
theorem Gb {room:Nat}(h1:1<=room)(z:room<8):1+room * gr (room / 2)<=gr room:=by
 have h:room=1\/room=2\/room=3\/room=4\/room=5\/room=6\/room=7:=by omega
 rcases h with h|h|h|h|h|h|h <;> subst h <;> decide
theorem Gc (ns:List Int)(k:Kd)(room:Nat)(n:Int)(h:room<8):n<=(val ns (.tree k) room n).2/\(val ns (.tree k) room n).2<=n+((k.cB+1) * gr room:Nat):=by
 have z:=λ(room:Nat) (n:Int) (h:room<8)=>m9 ns k room n h;have e:val ns (.tree k) room n=gD ns (val ns k) 4 room n:=by simp only[val]
 rw[e];unfold gr;by_cases I:room=0
 . rw[if_pos I,<-k8 2 room n (by omega),<-k8 1 room n (by omega),<-k8 0 room n (by omega)];exact m8 (N:=k.cB) z 1 room n h
 . rw[if_neg I];by_cases h1:room=1
   . rw[if_pos h1,<-k8 2 room n (by omega),<-k8 1 room n (by omega)];exact m8 (N:=k.cB) z 2 room n h
   . rw[if_neg h1];by_cases h2:room<4
     . rw[if_pos h2,<-k8 2 room n (by omega)];exact m8 (N:=k.cB) z 3 room n h
     . rw[if_neg h2];exact m8 (N:=k.cB) z 4 room n h
theorem As (ns:List Int):∀(fs:Fs) (i room:Nat) (n:Int) (x:Str) (k:Kd),fs.at i=some (x,k)->g6 ns fs i room n=(pairD (.str x) (val ns k room n).1,(val ns k room n).2)
 | .nil,i,_,_,_,_,h=>by cases h
 | .cons y q r,0,room,n,x,k,h=>by
   cases h;simp only[g6]
 | .cons y q r,i+1,room,n,x,k,h=>by
   simp only[g6];exact As ns r i room n x k h
theorem Fs.Au:∀{fs:Fs}{i:Nat}{x:Str}{k:Kd},fs.at i=some (x,k)->k.cB<=fs.cB
 | .nil,_,_,_,h=>by cases h
 | .cons y q r,0,x,k,h=>by
   cases h;simp only[Fs.cB];omega
 | .cons y q r,i+1,x,k,h=>by
   have:=Fs.Au (fs:=r) (i:=i) h;simp only[Fs.cB];omega
theorem Fs.Av:∀{fs:Fs}{i:Nat}{x:Str}{k:Kd},fs.at i=some (x,k)->(fs.take i).cB+k.cB<=fs.cB
 | .nil,_,_,_,h=>by cases h
 | .cons y q r,0,x,k,h=>by
   cases h;simp only[Fs.take,Fs.cB];omega
 | .cons y q r,i+1,x,k,h=>by
   have:=Fs.Av (fs:=r) (i:=i) h;simp only[Fs.take,Fs.cB];omega
theorem Fs.tF:∀(fs:Fs) (i:Nat),(fs.take i).names=fs.names.take i
 | .nil,i=>by simp[Fs.take,Fs.names]
 | .cons x k r,0=>by simp[Fs.take,Fs.names]
 | .cons x k r,i+1=>by
   show x::(r.take i).names=x::r.names.take i;rw[Fs.tF r i]
theorem Fs.Gd {fs:Fs}{i:Nat}{x:Str}{k:Kd}(z:fs.names.Nodup)(h:fs.at i=some (x,k)):x ∉ (fs.take i).names:=by
 rw[Fs.tF];intro I;obtain⟨j,J,e⟩:=Q1b I;have L:fs.names[i]? =some x:=by rw[Fs.jD,h];rfl
 obtain⟨hi,U⟩:=List.getElem?_eq_some_iff.mp L;rw[Q0i] at J;rw[Q13] at e;have:=(Q21 z).mp (e.trans U.symm);omega
theorem qC (ns:List Int)(room:Nat):∀(fs:Fs) (n:Int),(e_ ns fs room n).1.names=fs.names
 | .nil,n=>by simp[e_,Ds.names,Fs.names]
 | .cons x k r,n=>by
   simp only[e_,Ds.names,Fs.names];rw[qC ns room r]
theorem eN.key {H:Hp}{kvs:List (Key × V)}{m:Ds}{L:List Addr}{fs:Fs}{x:Str}(h:eN H kvs m L)(f:fQ fs m)(hp:fs.pl x):gH kvs (Sum.inr x)=some (kV (keyOf m x)):=by
 rcases(f.plain hp).2 with⟨z,I,J,_⟩|⟨s,I,J,_⟩
 . obtain⟨v,g,h1,h2,_⟩:=eN.val m h I;unfold Own at h2;rw[h1,J,h2.1];rfl
 . obtain⟨v,g,h1,h2,_⟩:=eN.val m h I;unfold Own at h2;rw[h1,J,h2.1];rfl
abbrev ft (b P:Addr):Hp->Hp->Prop:=Kp (λc=>c=b\/c=P)
theorem _root_.L2.eQ.tab {P:Addr}{z:Pos}{I:Str}{H:Hp}(h:eQ P z I H):∃ps,H P=some (.gq ps):=by
 rcases h with e|⟨c,e,_⟩ <;> exact⟨_,e⟩
theorem _root_.L2.eQ.keep {P:Addr}{I:Pos}{J:Str}{H H':Hp}(h:eQ P I J H)(k:∀c o,(∀xs,o≠ .lst xs)->H c=some o->H' c=some o):eQ P I J H':=by
 rcases h with e|⟨c,e,f⟩
 . exact .inl (k _ _ (by intro xs z;cases z) e)
 . exact .inr ⟨c,k _ _ (by intro xs z;cases z) e,k _ _ (by intro xs z;cases z) f⟩
theorem _root_.L2.eQ.same {P:Addr}{z:Pos}{I:Str}{H H':Hp}(h:eQ P z I H)(s:Same H H'):eQ P z I H':=h.keep λc o _ e=>s c o e
theorem _root_.L2.eQ.sb {P b:Addr}{z:Pos}{I:Str}{H H':Hp}{l:List V}(h:eQ P z I H)(J:H b=some (.lst l))(s:SB b H H'):eQ P z I H':=
 h.keep λc o L e=>s c o (gz e J (L l)) e
theorem _root_.L2.eQ.wr {P p:Addr}{J:Pos}{L:Str}{H:Hp}{o:HO}(h:eQ P J L H)(hp:Mu H p):eQ P J L (upd H p o):=by
 have key:∀c u,(∀xs,u≠ .lst xs)->(∀I,u≠ .dK I)->H c=some u->upd H p o c=some u:=λc u h1 h2 e=>by
  rw[d_];· exact e
  intro z;subst z;rcases hp with⟨xs,q⟩|⟨I,q⟩
  . rw[e] at q;exact h1 xs (Option.some.inj q)
  . rw[e] at q;exact h2 I (Option.some.inj q)
 rcases h with e|⟨c,e,f⟩
 . exact .inl (key _ _ (by intro xs z;cases z) (by intro xs z;cases z) e)
 . exact .inr ⟨c,key _ _ (by intro xs z;cases z) (by intro xs z;cases z) e,key _ _ (by intro xs z;cases z) (by intro xs z;cases z) f⟩
theorem SB.fU {b P:Addr}{H H':Hp}(s:SB b H H'):ft b P H H':=λc o n e=>s c o (λz=>n (.inl z)) e
theorem ft.at {b P c:Addr}{H H':Hp}{n:Int}{I:Pos}{J:Str}{o:HO}(x:ft b P H H')(L:H b=some (.lst [.int n]))(hT:eQ P I J H)(h1:o≠ .lst [.int n])(h2:∀ps,o≠ .gq ps)(e:H c=some o):H' c=some o:=by
 obtain⟨ps,U⟩:=hT.tab;refine x c o (λz=>?_) e;rcases z with z|z
 . exact gz e L h1 z
 . exact gz e U (h2 ps) z
theorem ft.tu {b P:Addr}{H H':Hp}{n:Int}{I:Pos}{J:Str}(x:ft b P H H')(L:H b=some (.lst [.int n]))(hT:eQ P I J H):Tu H H':=λa xs e=>x.at L hT (by intro z;cases z) (by intro ps z;cases z) e
theorem ft.g0 {K:W.Frag}{a b P:Addr}{H H':Hp}{ns:List Int}{n n':Int}{I:Pos}{J:Str}(x:ft b P H H')(g:G0 K H a b ns n)(hT:eQ P I J H)(h:H' b=some (.lst [.int n']))(L:n<=n'):G0 K H' a b ns n':=by
 refine⟨?_,g.len,h,by have:=g.pos;omega⟩;rcases g.i3 with⟨o,e⟩|e
 . exact .inl ⟨o,x.at g.at_ hT (by intro z;cases z) (by intro ps z;cases z) e⟩
 . exact .inr e
theorem Own.fU {b P:Addr}{H₀ H H':Hp}{v:V}{d:D}{I:List Addr}{n:Int}{L:Pos}{U:Str}(h:Own H v d I)(x:ft b P H H')(Y:H b=some (.lst [.int n]))(hT:eQ P L U H)(J:∃o,H₀ b=some o)(fr:∀c∈I,H₀ c=none):Own H' v d I:=by
 refine h.keep (x.tu Y hT) d λc hc o e=>x c o (λz=>?_) e;rcases z with z|z
 . obtain⟨o',e'⟩:=J;have:=fr c hc;rw[z,e'] at this;cases this
 . obtain⟨ps,hP⟩:=hT.tab;rcases Own.alive d h c hc with⟨xs,q⟩|⟨xs,q⟩ <;> rw[z,hP] at q <;> cases q
def kq:Sp:=λvs H Q _=>∃p r b key by_ fs kvs m z,vs=[.ref p,.ref r]/\H p=some (.tup [.str "rows",.str key,.str by_,.ref b])/\H r=some (.dK kvs)/\eN H kvs m z/\fQ fs m/\fs.pl key/\(by_=""\/fs.pl by_)/\
 ∀q,H q=none->Q (.ref q) (upd H q (.tup ((rankOf key by_ m).map kV)))
noncomputable def qD (st:Stmt):Pos:=match(gj st).getLast? with
 |some (.Return (some (.Call _ _ [⟨_,.Lambda _ _ _ z,_⟩] _)) _)=>z
 |_=>⟨0,0,0,0⟩
noncomputable abbrev g_:Pos:=qD (top 33)
noncomputable abbrev hU:Str:=("_law_rows":Str)++".<locals>."++"<lambda>"
def l_ (K:W.Frag) (P:Addr) (N:Nat):Sp:=λvs H Q _=>∃a b ns n I k,∃room:Nat,vs=[.ref a,.ref b,I,.int room]/\G0 K H a b ns n/\eQ P g_ hU H/\KA H I k/\k.W/\room<8/\mu k room<=N/\n+kc k room<=1000000000000/\
 ∀(v:V) (H':Hp) (z:List Addr),ft b P H H'->H' b=some (.lst [.int (val ns k room n).2])->eQ P g_ hU H'->Own H' v (val ns k room n).1 z->z.Nodup->(∀c∈z,H c=none)->Q v H'
def Aw (K:W.Frag) (P:Addr) (N:Nat):Sp:=λvs H Q _=>∃a b ns n I key by_ fs,∃room:Nat,vs=[.ref a,.ref b,I,.int room]/\G0 K H a b ns n/\eQ P g_ hU H/\KA H I (.rows key by_ fs)/\(Kd.rows key by_ fs).W/\room<8/\mu (.rows key by_ fs) room<=N+1/\n+(Kd.rows key by_ fs).cB<=1000000000000/\
 ∀(v:V) (H':Hp) (z:List Addr),ft b P H H'->H' b=some (.lst [.int (val ns (.rows key by_ fs) room n).2])->eQ P g_ hU H'->Own H' v (val ns (.rows key by_ fs) room n).1 z->z.Nodup->(∀c∈z,H c=none)->Q v H'
theorem Ge:fo XX XX (eP (top 32)):=fM
theorem Ax (T:Tb mg)(I:Dn K mg "_law_rank" jF (top 32) J L):eE P w K mg base eI (1) J L jF (kq):=by
 refine I.F.ok Ge λvs H Q E h=>?_;obtain⟨p,r,b,key,by_,fs,kvs,m,fp,rfl,hp,hR,hO,hF,hk,Y,q⟩:=h;refine⟨rfl,λab A outer s nd hr U=>?_⟩
 refine⟨_,(eF (eY (eW fE (eS (pv 0) b_) fm (eT _)) (eL (eO (f7 (a_ (iU U (pv 1) (eS (pv 0) b_) (λ_ _=>rfl)) c_)))) eZ)
  (eL (eO (f7 (a_ (iU U (pv 1) (eS (pv 0) b_) (λ_ _=>rfl)) (a_ (iU U (pv 1) (eS (pv 0) b_) (λ_ _=>rfl)) c_)))))),?_⟩
 ac_rfl
 have gk:gf H r (.str key) (some (kV (keyOf m key))):=by have:=gf.k (k:=Sum.inr key) hR;rw[hO.key hF hk] at this;exact this
 refine⟨_,rfl,p,_,_,_,rfl,rfl,eB.of hp,rfl,rfl,_,rfl,fJ (λc=>?_) (λc=>?_)⟩
 . have c':by_="":=by
    have:=of_decide_eq_true c;injection this
   refine⟨_,rfl,_,rfl,p,_,_,_,rfl,rfl,eB.of hp,rfl,r,_,rfl,gk,hZ,λt ht=>?_⟩;have:=q t ht;unfold rankOf at this;rw[if_pos c'] at this;exact this
 . have c':¬by_="":=λz=>c (decide_eq_true (show V.str by_=V.str "" by rw[z]));have aa:fs.pl by_:=Y.resolve_left c';have gb:gf H r (.str by_) (some (kV (keyOf m by_))):=by have:=gf.k (k:=Sum.inr by_) hR;rw[hO.key hF aa] at this;exact this
   refine⟨_,rfl,_,rfl,p,_,_,_,rfl,rfl,eB.of hp,rfl,r,_,rfl,gb,_,rfl,_,rfl,p,_,_,_,rfl,rfl,eB.of hp,rfl,r,_,rfl,gk,gF,λt ht=>?_⟩;have:=q t ht;unfold rankOf at this;rw[if_neg c'] at this;exact this
theorem Gf:fo ["kind","row","key","by"] ["kind","row"] (eP (top 15)):=fM
theorem Ay (T:Tb mg)(I:Dn K mg "rank" l6 (top 15) J L):eE P w K mg base eI (1) J L l6 (kq):=by
 refine I.F.ok Gf λvs H Q E h=>?_;obtain⟨p,r,b,key,by_,fs,kvs,m,fp,rfl,hp,hR,hO,hF,hk,Y,q⟩:=h;refine⟨rfl,λab A outer s nd hr U=>?_⟩
 refine⟨_,(eF (eX 2 nd (eS (pv 0) b_))
  (eF (eX 3 nd (eS (pv 0) b_))
  (eF (eY (eW fE (pv 3) fm (eT _)) (eL (eO (f7 (a_ (iU U (pv 1) (pv 2) (λ_ _=>rfl)) c_)))) eZ)
  (eL (eO (f7 (a_ (iU U (pv 1) (pv 3) (λ_ _=>rfl)) (a_ (iU U (pv 1) (pv 2) (λ_ _=>rfl)) c_)))))))),?_⟩
 ac_rfl
 have gk:gf H r (.str key) (some (kV (keyOf m key))):=by have:=gf.k (k:=Sum.inr key) hR;rw[hO.key hF hk] at this;exact this
 refine⟨_,rfl,p,_,_,_,rfl,rfl,eB.of hp,rfl,?_⟩;refine⟨_,rfl,p,_,_,_,rfl,rfl,eB.of hp,rfl,?_⟩;refine⟨_,rfl,rfl,_,rfl,fJ (λc=>?_) (λc=>?_)⟩
 . have c':by_="":=by
    have:=of_decide_eq_true c;injection this
   refine⟨_,rfl,_,rfl,r,_,rfl,gk,hZ,λt ht=>?_⟩;have:=q t ht;unfold rankOf at this;rw[if_pos c'] at this;exact this
 . have c':¬by_="":=λz=>c (decide_eq_true (show V.str by_=V.str "" by rw[z]));have aa:fs.pl by_:=Y.resolve_left c';have gb:gf H r (.str by_) (some (kV (keyOf m by_))):=by have:=gf.k (k:=Sum.inr by_) hR;rw[hO.key hF aa] at this;exact this
   refine⟨_,rfl,_,rfl,r,_,rfl,gb,_,rfl,_,rfl,r,_,rfl,gk,gF,λt ht=>?_⟩;have:=q t ht;unfold rankOf at this;rw[if_neg c'] at this;exact this
noncomputable def σV (a b pk:Addr) (room:Nat) (z ps:Addr) (x y:Option V):St:=[some (.ref a),some (.ref b),some (.ref pk),some (.int room),some (.ref z),some (.ref ps),x,y]
theorem tG {α z:Type}{F:α->z->Prop}{a:α}{b:z}:∀{as:List α}{bs:List z},Paired F as bs->F a b->Paired F (as++[a]) (bs++[b])
 |_,_,.nil,h=>.cons h .nil
 |_,_,.cons x r,h=>.cons x (tG r h)
theorem Az {I:List (Key × V)}{z:List Ds}{key:Str}(h:I.map (·.1)=z.map λr=>keyOf r key)(k:Key):(gH I k).isSome=kX key z k:=by
 rw[<-n9];unfold kX;have e:∀(l:List Ds),(l.any λr=>decide (keyOf r key=k))=((l.map λr=>keyOf r key).any λx=>decide (x=k)):=λl=>by rw[Q2e];rfl
 rw[e,<-h,Q2e];rfl
theorem fc.fU {b P:Addr}{H₀ H H':Hp}{n:Int}{U:Pos}{Y:Str}(x:ft b P H H')(J:H b=some (.lst [.int n]))(hT:eQ P U Y H)(z:∃o,H₀ b=some o):
 ∀{vs:List V} {rs:List Ds} {I:List (List Addr)},fc H vs rs I->(∀c∈I.flatten,H₀ c=none)->fc H' vs rs I
 |_,_,_,.nil,_=>.nil
 |_,_,_,.cons h r,L=>.cons (h.fU x J hT z λc hc=>L c (Q0r _ hc)) (fc.fU x J hT z r λc hc=>L c (Q05 _ hc))
theorem fc.keep {H H':Hp}(t:Tu H H'):∀{vs:List V}{rs:List Ds}{z:List (List Addr)},fc H vs rs z->(∀c∈z.flatten,∀o,H c=some o->H' c=some o)->fc H' vs rs z
 |_,_,_,.nil,_=>.nil
 |_,_,_,.cons h r,k=>.cons (h.keep t _ λc hc=>k c (Q0r _ hc)) (fc.keep t r λc hc=>k c (Q05 _ hc))
theorem fc.mu {H:Hp}{vs:List V}{rs:List Ds}{z:List (List Addr)}(h:fc H vs rs z):∀c∈z.flatten,Mu H c:=eR.alive _ h.own
theorem AB:fo XT XI (eP (top 33)):=fM
theorem Gg {Pt c:Addr}(N:Nat)(T:Tb mg)(ah:Dn K mg "_law_rows" ia (top 33) ai U)(bb:U.code=.ref c)(bA:W.CodeHd base c Pt)(bB:BM mg base)(aj:Dn K mg "_law_next" fk (top 24) ak al)(am:eE P w K mg base eI (1) ak al fk (k6 K))(J:Dn K mg "_law_rank" jF (top 32) an ao)(ap:eE P w K mg base eI (1) an ao jF (kq))(ab:Dn K mg "_law_value" ia (top 34) ac ae)(af:eE P w K mg base eI (2 * N+5) ac ae ia (l_ K Pt N)):
 eE P w K mg base eI (2 * N+6) ai U ia (Aw K Pt N):=by
 refine ah.F.pX bb AB (λvs H Q E h=>?_) (λA outer s H vs Q E hr h=>?_)
 . obtain⟨a,b,ns,n,kv,key,by_,fs,room,rfl,_⟩:=h;rfl
 obtain⟨a,b,ns,n,kv,key,by_,fs,room,rfl,g,hT,hk,hW,b3,bC,hn,q⟩:=h;have nd:=AB.nd;have hu:=zf hr;unfold KA at hk;obtain⟨pk,pb,xs,rfl,aY,bD,bE⟩:=hk;have b4:=hW;unfold Kd.W at hW;obtain⟨bF,bG,aZ,aE,be⟩:=hW
 refine⟨_,(eF (eX 4 nd (fY c_))
  (eF (eX 5 nd pH)
  (eF (iS PassesOwn.never rfl (lF rfl T.kY (a_ (eJ fv (eV am hr aj (a_ (pv 0) (a_ (pv 1) c_))) (eJ g7 (pv 3) b_)) c_)) (fX (i:=6) nd rfl gJ) (eF (eX 7 nd (eV af hr ab (a_ (pv 0) (a_ (pv 1) (a_ (f7 (a_ fm (a_ (eS (pv 2) b_) c_))) (a_ (eJ gm (pv 3) b_) c_))))))
  (eL (eY (rq (zc hu (iU hu (pv 7) (eS (pv 2) b_) (λ_ _=>rfl)) (pv 5)) (by with_unfolding_all rfl)) (eF (mP hu (pv 5) (iU hu (pv 7) (eS (pv 2) b_) (λ_ _=>rfl)) gR rfl)
  (eL (jM (lM PySem.F.plainAttrs_list PySem.F.slot_list_append PySem.F.type_list_append mL (pv 4) (a_ (pv 7) c_))))) eZ))))
  (eL (eO (pS (x:="_law_row") (N':=["","","_law_kind_here","","","","",""]) rfl T.oE boot_sorted hr rfl rfl bA bB (ki.of (N:=XT) (sc:=eP (top 33)) rfl rfl rfl rfl rfl (by decide +kernel)) rfl (λ_ _ _ _ _=>rfl) (pv 4) (λ_ _ _ _ _=>(mK ap (fy.deeper (k:=1) (fy.in1 (k:=2) (fy.in1 (k:=3) (hr.mono (by omega)))) _) rfl J.m J.F.kp J.b .nil iV (a_ (pv 3) (a_ (pv 0) c_)))))))))),?_⟩
 ac_rfl
 have bH:(Kd.rows key by_ fs).cB=8 * fs.cB+1:=rfl;rw[bH] at hn;have hb:=g.at_;obtain⟨b5,hP⟩:=hT.tab;refine⟨ni,λpr aL=>?_⟩;intro ps ay
 have aF:H ps=none:=by
  by_cases e:ps=pr
  . rw[e,eK] at ay;cases ay
  . rwa [d_ e] at ay
 have a1:ps≠pr:=λe=>by rw[e,eK] at ay;cases ay
 have s0:Same H (upd (upd H pr (.lst [])) ps (.dK [])):=(Same.new aL).trans (Same.new ay);have hT0:=hT.same s0;have g0:G0 K (upd (upd H pr (.lst [])) ps (.dK [])) a b ns n:=⟨(SB.of s0).i3 hb g.i3,g.len,s0 _ _ hb,g.pos⟩;refine⟨_,rfl,_,rfl,a,b,ns,n,rfl,g0,by omega,λH1 s1 h1=>?_⟩;refine⟨_,rfl,_,_,rfl,rfl,_,_,rfl,rfl,by omega,?_⟩;have b6:=Q0h (nx ns (n+1)) (show((room:Int)+1)≠0 by omega);have b7:=Q0j (nx ns (n+1)) (show(0:Int)<(room:Int)+1 by omega);have a2:b≠pr:=eM hb aL;have a3:b≠ps:=eM hb aF;have jw:Pt≠pr:=eM hP aL;have bI:Pt≠ps:=eM hP aF;have bJ:H1 pr=some (.lst []):=s1 pr _ (Ne.symm a2) (by rw[d_ (Ne.symm a1)];exact eK);have bK:H1 ps=some (.dK []):=s1 ps _ (Ne.symm a3) eK;have bL:eQ Pt g_ hU H1:=hT0.sb (s0 _ _ hb) s1;have k1:ft b Pt H H1:=λc o nc e=>s1 c o (λz=>nc (.inl z)) (s0 c o e);have cnt:=λm=>m_ ns fs (room / 2) m (by omega)
 refine⟨_,rfl,by omega,by omega,kL (n:=Int.toNat (nx ns (n+1) % ((room:Int)+1))) (λi σ H'=>∃x y vs fl sk,σ=σV a b pk room pr ps x y/\ft b Pt H H'/\H' b=some (.lst [.int (fW (e_ ns fs (room / 2)) key i [] (n+1)).2])/\eQ Pt g_ hU H'/\
  H' pr=some (.lst vs)/\H' ps=some (.dK sk)/\fc H' vs (fW (e_ ns fs (room / 2)) key i [] (n+1)).1 fl/\fl.flatten.Nodup/\(∀c∈fl.flatten,H c=none/\c≠pr/\c≠ps)/\sk.map (·.1)=((fW (e_ ns fs (room / 2)) key i [] (n+1)).1.map λr=>keyOf r key)/\vs.length<=i) ?_ ?_ ?_⟩
 . exact⟨_,_,[],[],[],rfl,k1,h1,bL,bJ,bK,.nil,Q0w,λc hc=>absurd hc (by simp),rfl,Q00 _⟩
 . intro i σ H' hi zq;obtain⟨x,y,vs,fl,sk,rfl,kp,aB,az,aM,a4,Y,aP,ar,aC,bM⟩:=zq;have b8:i<8:=by omega
   obtain⟨c1,c2⟩:=p9 (key:=key) cnt i [] (n+1);have c3:i * fs.cB<=7 * fs.cB:=Q11 _ (by omega);have aD:Tu H H':=kp.tu hb hT;refine⟨_,rfl,_,rfl,_,rfl,pk,_,_,_,rfl,rfl,eB.of (aD _ _ aY),rfl,gF,λt ht=>?_⟩;have st:Same H' (upd H' t (.tup [.str "record",.ref pb])):=Same.new ht;have e2:((room / 2:Nat):Int)=(room:Int) / 2:=by omega
   have bN:KA (upd H' t (.tup [.str "record",.ref pb])) (.ref t) (.fL fs):=by
    unfold KA;exact⟨t,pb,xs,rfl,eK,st _ _ (aD _ _ bD),FA.mono (aD.trans (Tu.of st)) fs bE⟩
   have b9:=g.pos;refine⟨_,rfl,_,_,rfl,rfl,⟨by decide,by decide⟩,a,b,ns,(fW (e_ ns fs (room / 2)) key i [] (n+1)).2,.ref t,.fL fs,room / 2,(by rw[e2];rfl),ft.g0 (kp.trans (Kp.of st)) g hT (st _ _ aB) (by omega),az.same st,bN,(by unfold Kd.W;exact⟨bF,bG,aZ⟩),by omega,(by simp only[mu,Kd.dep] at bC ⊢;omega),(by simp only[kc,Kd.cB];omega),?_⟩;intro v H2 fp fU aA bf av bt aV;have ev:val ns (.fL fs) (room / 2) (fW (e_ ns fs (room / 2)) key i [] (n+1)).2=(.dct (e_ ns fs (room / 2) (fW (e_ ns fs (room / 2)) key i [] (n+1)).2).1,(e_ ns fs (room / 2) (fW (e_ ns fs (room / 2)) key i [] (n+1)).2).2):=by simp only[val]
   rw[ev] at aA av;have bu:=l5 ns fs aZ (room / 2) (fW (e_ ns fs (room / 2)) key i [] (n+1)).2 (by omega);have succ:=tm (g:=e_ ns fs (room / 2)) (key:=key) i [] (n+1);generalize fW (e_ ns fs (room / 2)) key (i+1) [] (n+1)=ca at succ ⊢;generalize fW (e_ ns fs (room / 2)) key i [] (n+1)=I at *;generalize e_ ns fs (room / 2) I.2=aa at *;have aq:ft b Pt H' H2:=(Kp.of st).trans fU;have bO:∃o,H b=some o:=⟨_,hb⟩;have bg:H2 pr=some (.lst vs):=aq pr _ (λz=>z.elim (Ne.symm a2) (Ne.symm jw)) aM;have aQ:H2 ps=some (.dK sk):=aq ps _ (λz=>z.elim (Ne.symm a3) (Ne.symm bI)) a4;have L:fc H2 vs I.1 fl:=fc.fU aq aB az bO Y λc hc=>(ar c hc).1;have bc:=av;unfold Own at av;obtain⟨rr,kvs,fq,rfl,a5,cb,a6⟩:=av;have aw:H2 pk=some (.tup [.str "rows",.str key,.str by_,.ref pb]):=ft.at (kp.trans aq) hb hT (by intro z;cases z) (by intro ps z;cases z) aY;have gk:gf H2 rr (.str key) (some (kV (keyOf aa.1 key))):=by have:=gf.k (k:=Sum.inr key) a5;rw[a6.key bu aE] at this;exact this
   have gs:gf H2 ps (kV (keyOf aa.1 key)) (gH sk (keyOf aa.1 key)):=gf.k aQ;have sv:=Az aC (keyOf aa.1 key);have aH:ft b Pt H H2:=kp.trans aq;refine⟨_,rfl,_,rfl,pk,_,_,_,rfl,rfl,eB.of aw,rfl,rr,_,rfl,gk,_,rfl,ps,_,rfl,gs,_,rfl,?_⟩
   cases ec:kX key I.1 (keyOf aa.1 key) with
   |true=>
    rw[ec] at sv;rw[ec,if_pos rfl] at succ;rw[sv];subst succ;exact fe ⟨_,_,vs,fl,sk,rfl,aH,aA,bf,bg,aQ,L,aP,ar,aC,by omega⟩
   |false=>
    rw[ec] at sv;rw[ec,if_neg (by simp)] at succ;rw[sv];subst succ;refine fF ?_
    have bP:gH sk (keyOf aa.1 key)=none:=by
     cases z:gH sk (keyOf aa.1 key) with
     |none=>rfl
     |some o=>rw[z] at sv;cases sv
    have bv:sk.length<sizeLine:=by
     have e1:sk.length=(I.1.map λr=>keyOf r key).length:=by rw[<-aC,Q03]
     rw[Q03] at e1;have cd:=(A3.len L).1;exact gN (by omega)
    refine⟨_,rfl,_,rfl,_,rfl,pk,_,_,_,rfl,rfl,eB.of aw,rfl,rr,_,rfl,gk,ps,_,rfl,jB.k aQ bv,?_⟩;rw[qa bP];have bh:Mu H2 ps:=.inr ⟨_,aQ⟩;have bQ:Tu H2 (upd H2 ps (.dK (sk++[(keyOf aa.1 key,.bl true)]))):=Tu.wr λys z=>bh.sR ys z;have a7:upd H2 ps (.dK (sk++[(keyOf aa.1 key,.bl true)])) pr=some (.lst vs):=by rw[d_ (Ne.symm a1)];exact bg
    refine⟨_,rfl,.inl ⟨rfl,_,eG.of a7⟩,_,rfl,pr,_,_,rfl,rfl,a7,gN (by omega),?_⟩;have bi:Mu (upd H2 ps (.dK (sk++[(keyOf aa.1 key,.bl true)]))) pr:=.inl ⟨_,a7⟩;have bj:Tu H2 (upd (upd H2 ps (.dK (sk++[(keyOf aa.1 key,.bl true)]))) pr (.lst (vs++[.ref rr]))):=bQ.trans (Tu.wr λys z=>bi.sR ys z)
    have aG:∀c∈fp,H c=none/\c≠pr/\c≠ps:=λc hc=>by
     have z:=aV c hc;have z':H' c=none:=st.free z;have nb:c≠b:=λe=>by rw[e,aB] at z';cases z'
     obtain⟨bm,a8⟩:=az.tab;have nP:c≠Pt:=λe=>by rw[e,a8] at z';cases z'
     refine⟨kp.oB (λe=>e.elim nb nP) z',λe=>?_,λe=>?_⟩
     . rw[e,aM] at z';cases z'
     . rw[e,a4] at z';cases z'
    have ag:∀c,c≠pr->c≠ps->upd (upd H2 ps (.dK (sk++[(keyOf aa.1 key,.bl true)]))) pr (.lst (vs++[.ref rr])) c=H2 c:=λc n1 n2=>by rw[d_ n1,d_ n2]
    refine⟨_,_,vs++[.ref rr],fl++[fp],_,rfl,λc o nc e=>?_,by rw[ag b a2 a3];exact aA,(bf.wr bh).wr bi,eK,by rw[d_ a1];exact eK,?_,?_,?_,?_,by rw[Q0c];show vs.length+1<=i+1;omega⟩
    . rw[ag c (eM e aL) (eM e aF)];exact aH c o nc e
    . refine A3.snoc ?_ (fc.keep bj L λc hc o e=>by rw[ag c (ar c hc).2.1 (ar c hc).2.2];exact e);exact bc.keep bj _ λc hc o e=>by rw[ag c (aG c hc).2.1 (aG c hc).2.2];exact e
    . rw[Q2f];refine List.nodup_append.mpr ⟨aP,by simpa using bt,λc hc d hd=>?_⟩;have bR:d∈fp:=by simpa using hd
      intro e;subst e;obtain⟨o,eo⟩:=(fc.mu Y c hc).ex;have:=st.free (aV c bR);rw[eo] at this;cases this
    . intro c hc;rw[Q2f] at hc;rcases List.mem_append.mp hc with z|z
      . exact ar c z
      . exact aG c (by simpa using z)
    . rw[Q0k,Q0k,aC];rfl
 . intro σ H' zq;obtain⟨x,y,vs,fl,sk,rfl,kp,aB,az,aM,a4,Y,aP,ar,aC,bM⟩:=zq;have bS:val ns (.rows key by_ fs) room n=(.lst (fi (fV key by_ (fW (e_ ns fs (room / 2)) key (nx ns (n+1) % ((room:Int)+1)).toNat [] (n+1)).1)),(fW (e_ ns fs (room / 2)) key (nx ns (n+1) % ((room:Int)+1)).toNat [] (n+1)).2):=by simp only[val]
   rw[bS] at q;have aJ:∀m∈(fW (e_ ns fs (room / 2)) key (nx ns (n+1) % ((room:Int)+1)).toNat [] (n+1)).1,fQ fs m:=m7 (R:=fQ fs) (λn=>l5 ns fs aZ (room / 2) n (by omega)) _ _ _ (λr hr=>absurd hr (by simp));have bT:=p6 (g:=e_ ns fs (room / 2)) (key:=key) (nx ns (n+1) % ((room:Int)+1)).toNat [] (n+1) Q0w;generalize fW (e_ ns fs (room / 2)) key (nx ns (n+1) % ((room:Int)+1)).toNat [] (n+1)=I at *;obtain⟨aW,bw⟩:=A3.len Y;refine⟨_,rfl,pr,vs,rfl,eG.of aM,by omega,az,λc' H2 a9 mono=>?_⟩;have aD:Tu H H':=kp.tu hb hT
   have np:∀cc o,(∀ps,o≠ .gq ps)->H' cc=some o->H2 cc=some o:=λcc o ho e=>by
    obtain⟨bm,a8⟩:=az.tab;exact mono cc o (gz e a8 (ho bm)) e
   have bn:Tu H' H2:=λcc ys e=>np cc _ (by intro ps z;cases z) e
   have L:fc H2 vs I.1 fl:=fc.keep bn Y λcc hc o e=>np cc o (by
    intro ps z;rcases fc.mu Y cc hc with⟨_,q⟩|⟨_,q⟩ <;> rw[e] at q <;> rw[z] at q <;> cases q) e
   have aw:H2 pk=some (.tup [.str "rows",.str key,.str by_,.ref pb]):=bn _ _ (aD _ _ aY);refine⟨λks H3=>Same H2 H3/\ks.length<=vs.length/\lW H3 ks ((I.1.map (rankOf key by_)).take ks.length),⟨Same.refl _,Q0a _,.nil⟩,λks H3 hw=>a9.mono λcc o _ e=>hw.1 _ _ e,?_,?_⟩
   . rintro ks H3 yv ⟨s3,bU,aT⟩ hy;have bo:ks.length<vs.length:=(List.getElem?_eq_some_iff.mp hy).1;have aX:=A3.at (a0:=V.non) (b0:=Ds.nil) (c0:=[]) L ks.length bo;have ey:vs.getD ks.length .non=yv:=by rw[Q0d,hy];rfl
     rw[ey] at aX
     have bx:I.1.getD ks.length .nil∈I.1:=by
      rw[Q0d,Q02 (by omega)];exact Q0v _
     have aK:=Own.same s3 aX;unfold Own at aK;obtain⟨rr,kvs,fq,rfl,a5,_,a6⟩:=aK;refine⟨_,rfl,_,rfl,pk,rr,pb,key,by_,fs,kvs,_,fq,rfl,s3 _ _ aw,a5,a6,aJ _ bx,aE,be,λt ht=>⟨s3.trans (Same.new ht),by rw[Q0c];exact bo,?_⟩⟩
     have et:(I.1.map (rankOf key by_)).take (ks++[V.ref t]).length=(I.1.map (rankOf key by_)).take ks.length++[rankOf key by_ (I.1.getD ks.length .nil)]:=by
      rw[Q0c];show List.take (ks.length+1) _=_;rw[Q0t,Q0s,Q0d,Q02 (by omega)];rfl
     rw[et];refine tG (Paired.nJ aT λk kl z=>?_) ⟨t,rfl,eK⟩;obtain⟨pp,e,hh⟩:=z;exact⟨pp,e,by rw[d_ (eM hh ht)];exact hh⟩
   . rintro ks H3 ⟨s3,bU,aT⟩ bz
     have bV:(I.1.map (rankOf key by_)).take ks.length=I.1.map (rankOf key by_):=by
      rw[bz,aW,Q1c (by rw[Q03];exact Q00 _)]
     rw[bV] at aT;refine⟨_,aT,⟨if by_="" then [jW (fs.get key)] else [jW (fs.get by_),jW (fs.get key)],by split <;> simp,λkl bW=>?_⟩,λp hp hs D hD=>?_⟩
     . obtain⟨m,hm,rfl⟩:=List.mem_map.mp bW;exact mZ (aJ m hm) aE be
     have ba:∀i∈p,i<vs.length:=λi hi=>by
      have:=hp.mem_iff.mp hi;simpa using this
     have bX:p.Perm (List.range I.1.length):=by rw[<-aW];exact hp
     have hz:(p.map λi=>I.1.getD i .nil)=fV key by_ I.1:=by
      refine sN (qb _ bX) ?_ bT;rw[Q29] at hs ⊢;refine List.Pairwise.imp_of_mem (λ{i j} hi hj h=>?_) hs;have bY:=ba i hi;have bZ:=ba j hj
      have ge:∀i,i<vs.length->(I.1.map (rankOf key by_)).getD i []=rankOf key by_ (I.1.getD i .nil):=λi hi=>by
       rw[Q0d,Q0d,Q0s,Q02 (by omega)];rfl
      rw[ge i bY,ge j bZ] at h;exact h
     have ax:fc H3 vs I.1 fl:=fc.keep (Tu.of s3) L λcc _ o e=>s3 cc o e;have sD:Same H3 (upd H3 D (.lst (p.map λi=>vs.getD i .non))):=Same.new hD;have aU:fc (upd H3 D (.lst (p.map λi=>vs.getD i .non))) vs I.1 fl:=fc.keep (Tu.of sD) ax λcc _ o e=>sD cc o e;have bd:=A3.pick (a0:=V.non) (b0:=Ds.nil) (c0:=[]) aU p ba;have b1:(p.map λi=>fl.getD i []).Perm fl:=qb _ (by rw[<-bw];exact hp);have au:=qc b1;have aA:H2 b=some (.lst [.int I.2]):=np b _ (by intro ps z;cases z) aB;have bp:D≠b:=λe=>by rw[e,s3 _ _ aA] at hD;cases hD
     have bq:D≠Pt:=λe=>by rw[e,s3 _ _ a9.1] at hD;cases hD
     have br:=s3.free hD
     have b2:H' D=none:=by
      cases e:H' D with
      |none=>rfl
      |some o=>rw[mono D o bq e] at br;cases br
     refine q (.ref D) _ (D::(p.map λi=>fl.getD i []).flatten) (λcc o nc e=>?_) (by rw[d_ (Ne.symm bp)];exact s3 _ _ aA) (.inr ⟨c',a9.mono λcc o _ e=>sD _ _ (s3 _ _ e)⟩) ?_ ?_ ?_
     . have e1:=kp cc o nc e;exact sD _ _ (s3 _ _ (mono cc o (λz=>nc (.inr z)) e1))
     . unfold Own;exact⟨D,_,_,rfl,eK,rfl,by rw[<-hz];exact fc.own bd⟩
     . refine List.nodup_cons.mpr ⟨λhm=>?_,au.nodup_iff.mpr aP⟩;obtain⟨o,eo⟩:=(fc.mu ax D (au.mem_iff.mp hm)).ex;rw[hD] at eo;cases eo
     . intro cc hc;rcases List.mem_cons.mp hc with z|z
       . rw[z];exact kp.oB (λe=>e.elim bp bq) b2
       . exact(ar cc (au.mem_iff.mp z)).1
theorem Gh (k:Kd)(room:Nat):16<=mu k room:=by
 have:=k.kU
 cases k <;> simp only[mu,Kd.dep] at * <;> omega
noncomputable def σU (a b:Addr) (z:V) (room:Nat) (I J L U Y:Option V):St:=[some (.ref a),some (.ref b),some z,some (.int room),I,J,L,U,Y]
theorem eN.fU {b P:Addr}{H₀ H H':Hp}{v:List (Key × V)}{d:Ds}{I:List Addr}{n:Int}{L:Pos}{U:Str}(h:eN H v d I)(x:ft b P H H')(Y:H b=some (.lst [.int n]))(hT:eQ P L U H)(J:∃o,H₀ b=some o)(fr:∀c∈I,H₀ c=none):eN H' v d I:=by
 refine h.keep (ft.tu x Y hT) d λc hc o e=>x c o (λz=>?_) e;rcases z with z|z
 . obtain⟨o',e'⟩:=J;have:=fr c hc;rw[z,e'] at this;cases this
 . obtain⟨ps,hP⟩:=hT.tab;rcases eN.alive d h c hc with⟨xs,q⟩|⟨xs,q⟩ <;> rw[z,hP] at q <;> cases q
theorem eR.fU {b P:Addr}{H₀ H H':Hp}{v:List V}{d:Ds}{I:List Addr}{n:Int}{L:Pos}{U:Str}(h:eR H v d I)(x:ft b P H H')(Y:H b=some (.lst [.int n]))(hT:eQ P L U H)(J:∃o,H₀ b=some o)(fr:∀c∈I,H₀ c=none):eR H' v d I:=by
 refine h.keep (ft.tu x Y hT) d λc hc o e=>x c o (λz=>?_) e;rcases z with z|z
 . obtain⟨o',e'⟩:=J;have:=fr c hc;rw[z,e'] at this;cases this
 . obtain⟨ps,hP⟩:=hT.tab;rcases eR.alive d h c hc with⟨xs,q⟩|⟨xs,q⟩ <;> rw[z,hP] at q <;> cases q
theorem ft.fresh {b P c:Addr}{H H':Hp}{n:Int}{I:Pos}{J:Str}(x:ft b P H H')(L:H' b=some (.lst [.int n]))(hT:eQ P I J H')(h:H' c=none):H c=none:=by
 obtain⟨ps,U⟩:=hT.tab;exact x.oB (λe=>e.elim (λz=>by rw[z,L] at h;cases h) λz=>by rw[z,U] at h;cases h) h
theorem AD:fo XR XI (eP (top 34)):=fM
theorem Gi {Pt:Addr}(T:Tb mg)(z:Dn K mg "_law_value" ia (top 34) I J):eE P w K mg base eI (2 * 0+5) I J ia (l_ K Pt 0):=by
 refine z.F.ok AD λvs H Q E h=>?_;obtain⟨a,b,ns,n,kv,k,room,rfl,g,hT,hk,hW,U,L,_⟩:=h;refine⟨rfl,λY A outer s nd hr hu=>?_⟩;exact absurd L (by have:=Gh k room;omega)
theorem Gj {Pt:Addr}(N:Nat)(T:Tb mg)(I:Dn K mg "_law_value" ia (top 34) aa ab)(L:eE P w K mg base eI (2 * N+5) aa ab ia (l_ K Pt N))(ao:Dn K mg "_law_rows" ia (top 33) ap aq)(ar:eE P w K mg base eI (2 * N+6) ap aq ia (Aw K Pt N))(ac:Dn K mg "_law_next" fk (top 24) au av)(ae:eE P w K mg base eI (1) au av fk (k6 K))(ak:Dn K mg "_law_number" fk (top 25) al am)(an:eE P w K mg base eI (2) al am fk (Aj K))(aw:Dn K mg "_law_word" fk (top 26) ax ay)(az:eE P w K mg base eI (2) ax ay fk (Ak K)):
 eE P w K mg base eI (2 * (N+1)+5) aa ab ia (l_ K Pt (N+1)):=by
 refine I.F.ok AD λvs H Q E h=>?_;obtain⟨a,b,ns,n,kv,k,room,rfl,g,hT,hk,hW,Y,a5,hn,q⟩:=h;refine⟨rfl,λbD A outer s nd hr hu=>?_⟩
 refine⟨_,(eF (eY (eW fE (eS (pv 2) b_) fm (eT _)) (eL (eO (eV an hr ak (a_ (pv 0) (a_ (pv 1) c_))))) eZ)
  (eF (eY (eW fE (eS (pv 2) b_) fm (eT _)) (eL (eO (eV az hr aw (a_ (pv 0) (a_ (pv 1) c_))))) eZ)
  (eF (eY (eW fE (eS (pv 2) b_) fm (eT _)) (eF (eX 4 nd pH)
  (eF (iS PassesOwn.never rfl (kJ (eS (pv 2) b_)) (jh rfl (gT (fX (i:=5) nd rfl gJ) (gT (fX (i:=6) nd rfl gJ) jg))) (eL (mP hu (pv 4) (pv 5) (eV L hr I (a_ (pv 0) (a_ (pv 1) (a_ (pv 6) (a_ (pv 3) c_))))) rfl)))
  (eL (eO (pv 4))))) eZ)
  (eF (eY (eW fE (eS (pv 2) b_) fm (eT _)) (eL (eO (eV ar hr ao (a_ (pv 0) (a_ (pv 1) (a_ (pv 2) (a_ (pv 3) c_))))))) eZ)
  (eF (eY (eW fE (eS (pv 2) b_) fm (eT _)) (eF (eX 7 nd (eV L hr I (a_ (pv 0) (a_ (pv 1) (a_ (eS (pv 2) b_) (a_ (eJ gm (pv 3) b_) c_))))))
  (eF (eX 8 nd (eJ fv (eV ae hr ac (a_ (pv 0) (a_ (pv 1) c_))) (eJ g7 (pv 3) b_)))
  (eL (eO (f7 (a_ (pv 7) (a_ (kT (g:=(gX 0)) (tt:=kQ) (te:=(lL _ _ _ (gp (fT 1) (gp (fT 2) (gp (fT 3) (gp (f_ _ (fT 4) (tC (.int 2))) g8)))))) (own:=["_law_k"]) rfl (jY (N:=XR) (sc:=eP (top 34))) (lF rfl T.kY (a_ (pv 8) c_)) (λ_ _ _ _ _=>(fX (i:=0) (show(["_law_k","_law_script","_law_at","_law_kind_here","_law_room","_law_made","_law_name","_law_inner","_law_top","_law_many"]:List Str).Nodup by decide +kernel) rfl (Or.inl rfl) (.inr rfl))) (λ_ _ _ _ _=>mQ) (λ_ _ _ _ _=>(eV L hr I (a_ (pv 1) (a_ (pv 2) (a_ (pv 3) (a_ (eJ gm (pv 4) b_) c_))))))) c_))))))) eZ)
  (eF (pq (eS (eS (pv 2) b_) (eJ fv (eV ae hr ac (a_ (pv 0) (a_ (pv 1) c_))) (fA gZ (by rfl) T.gK PySem.boot_len (a_ (eS (pv 2) b_) c_)))) (jh rfl (gT (fX (i:=5) nd rfl gJ) (gT (fX (i:=6) nd rfl gJ) jg))))
  (eL (eO (f7 (a_ (pv 5) (a_ (eV L hr I (a_ (pv 0) (a_ (pv 1) (a_ (pv 6) (a_ (pv 3) c_))))) c_))))))))))),?_⟩
 ac_rfl
 have hb:=g.at_;have bE:=g.pos;have aU:∃o,H b=some o:=⟨_,hb⟩;obtain⟨bF,hP⟩:=hT.tab;have e2:((room / 2:Nat):Int)=(room:Int) / 2:=by omega
 cases k with
 |num=>
  unfold KA at hk;obtain⟨c,rfl,hc⟩:=hk;simp only[kc,Kd.cB] at hn;refine jU rfl hc rfl (by decide +kernel) ?_;refine⟨_,rfl,_,rfl,a,b,ns,n,rfl,g,by omega,λH1 s1 h1=>?_⟩;have ev:val ns .num room n=(.int (num ns (n+1)),n+1):=by simp only[val]
  rw[ev] at q;exact q _ H1 [] (SB.fU s1) h1 (hT.sb hb s1) (by unfold Own;exact⟨rfl,rfl⟩) Q0w λc hc=>absurd hc (by simp)
 |fC=>
  unfold KA at hk;obtain⟨c,rfl,hc⟩:=hk;simp only[kc,Kd.cB] at hn;refine gw rfl hc rfl (by decide +kernel) ?_;refine jU rfl hc rfl (by decide +kernel) ?_;refine⟨_,rfl,_,rfl,a,b,ns,n,rfl,g,by omega,λH1 s1 h1=>?_⟩;have ev:val ns .fC room n=(.str (fC ns (n+1)),n+1):=by simp only[val]
  rw[ev] at q;exact q _ H1 [] (SB.fU s1) h1 (hT.sb hb s1) (by unfold Own;exact⟨rfl,rfl⟩) Q0w λc hc=>absurd hc (by simp)
 |fL fs=>
  unfold KA at hk;obtain⟨pk,pb,xs,rfl,U,aC,aD⟩:=hk;unfold Kd.W at hW;obtain⟨a6,bg,aV⟩:=hW;refine gw rfl U rfl (by decide +kernel) ?_;refine gw rfl U rfl (by decide +kernel) ?_;refine jU rfl U rfl (by decide +kernel) ?_;intro p hp;have a7:b≠p:=eM hb hp;have bh:Pt≠p:=eM hP hp;have s0:Same H (upd H p (.dK [])):=Same.new hp;have bi:val ns (.fL fs) room n=(.dct (e_ ns fs room n).1,(e_ ns fs room n).2):=by simp only[val]
  rw[bi] at q;simp only[kc,Kd.cB] at hn
  refine⟨_,rfl,pk,_,_,_,rfl,rfl,eB.of (s0 _ _ U),rfl,pb,rfl,⟨_,eB.of (s0 _ _ aC)⟩,pz (xs:=xs) (λi σ H'=>∃x2 x3 x4 x5 kvs fq,σ=σU a b (.ref pk) room (some (.ref p)) x2 x3 x4 x5/\ft b Pt H H'/\H' b=some (.lst [.int (e_ ns (fs.take i) room n).2])/\eQ Pt g_ hU H'/\
   H' p=some (.dK kvs)/\eN H' kvs (e_ ns (fs.take i) room n).1 fq/\fq.Nodup/\∀c∈fq,H c=none/\c≠p) ?_ ?_ ?_ ?_⟩
  . rw[Fs.take_zero];refine⟨_,_,_,_,[],[],rfl,Kp.of s0,by simp only[e_];exact s0 _ _ hb,hT.same s0,eK,?_,Q0w,λc hc=>absurd hc (by simp)⟩;simp only[e_];unfold eN;exact⟨rfl,rfl⟩
  . intro i σ H' _ zq;obtain⟨x2,x3,x4,x5,kvs,fq,rfl,kp,_⟩:=zq;exact eB.of (ft.tu kp hb hT _ _ aC)
  . intro i v σ H' hv zq;obtain⟨x2,x3,x4,x5,kvs,fq,rfl,kp,af,ag,aJ,hO,aE,ah⟩:=zq;have a8:=ft.tu kp hb hT;obtain⟨c,u,nm,k,rfl,ai,hc,hk⟩:=FA.get fs aD hv;have cn:=m_ ns (fs.take i) room n Y;have cb:=Fs.Av ai;refine⟨c,_,rfl,eB.of (a8 _ _ hc),rfl,_,_,rfl,_,_,rfl,rfl,?_⟩;refine⟨_,rfl,_,rfl,_,rfl,_,rfl,a,b,ns,(e_ ns (fs.take i) room n).2,u,k,room,rfl,ft.g0 kp g hT af cn.1,ag,KA.mono a8 k hk,Fs.lZ aV ai,Y,?_,by have:=tE k room;omega,?_⟩
    . have:mu k room<mu (.fL fs) room:=tz (by have:=Fs.lY ai;simp only[Kd.dep];omega) Y;omega
    intro v2 H2 fp fU aF aG aA aB aj;have a9:H2 p=some (.dK kvs):=fU p _ (λz=>z.elim (Ne.symm a7) (Ne.symm bh)) aJ;have bj:=eN.fU hO fU af ag aU λc hc=>(ah c hc).1;have bm:nm ∉ (e_ ns (fs.take i) room n).1.names:=by rw[qC];exact Fs.Gd a6 ai
    have bn:kvs.length<sizeLine:=by
     rw[eN.len hO,qC];have:(fs.take i).names.length<=fs.names.length:=by rw[Fs.tF,Q0i];omega
     exact gN (by omega)
    refine⟨_,rfl,_,rfl,p,_,rfl,jB.k (k:=Sum.inr nm) a9 bn,?_⟩;rw[qa (eN.Ac hO bm)];have ba:Mu H2 p:=.inr ⟨_,a9⟩;have bb:Tu H2 (upd H2 p (.dK (kvs++[(Sum.inr nm,v2)]))):=Tu.wr λys z=>ba.sR ys z
    have aP:∀c∈fp,H c=none/\c≠p:=λc hc=>by
     have z:=aj c hc;exact⟨ft.fresh kp af ag z,λe=>by rw[e,aJ] at z;cases z⟩
    have sn:=Aq ns nm k room (fs.take i) n;rw[Fs.take_succ ai,sn];refine⟨_,_,_,_,_,fq++fp,rfl,λc o nc e=>?_,by rw[d_ a7];exact aF,aG.wr ba,eK,?_,?_,?_⟩
    . rw[d_ (eM e hp)];exact fU c o nc (kp c o nc e)
    . exact eN.snoc (aA.keep bb _ λc hc o e=>by rw[d_ (aP c hc).2];exact e) _ (bj.keep bb _ λc hc o e=>by rw[d_ (ah c hc).2];exact e)
    . refine List.nodup_append.mpr ⟨aE,aB,λc hc d hd=>?_⟩;intro e;subst e;obtain⟨o,eo⟩:=(eN.alive _ hO c hc).ex;rw[aj c hd] at eo;cases eo
    . intro c hc;rcases List.mem_append.mp hc with z|z
      . exact ah c z
      . exact aP c z
  . intro σ H' zq;obtain⟨x2,x3,x4,x5,kvs,fq,rfl,kp,af,ag,aJ,hO,aE,ah⟩:=zq;rw[FA.len fs aD,Fs.take_all] at af hO;refine⟨_,rfl,q (.ref p) H' (p::fq) kp af ag ?_ ?_ ?_⟩
    . unfold Own;exact⟨p,kvs,fq,rfl,aJ,rfl,hO⟩
    . exact List.nodup_cons.mpr ⟨λhm=>(ah p hm).2 rfl,aE⟩
    . intro c hc;rcases List.mem_cons.mp hc with z|z
      . rw[z];exact hp
      . exact(ah c z).1
 |rows key by_ fs=>
  have aW:=hk;unfold KA at hk;obtain⟨pk,pb,xs,rfl,U,aC,aD⟩:=hk;simp only[kc] at hn;refine gw rfl U rfl (by decide +kernel) ?_;refine gw rfl U rfl (by decide +kernel) ?_;refine gw rfl U rfl (by decide +kernel) ?_;refine jU rfl U rfl (by decide +kernel) ?_;exact⟨_,rfl,_,rfl,_,rfl,_,rfl,a,b,ns,n,_,key,by_,fs,room,rfl,g,hT,aW,hW,Y,a5,hn,q⟩
 |tree k=>
  have aW:=hk;unfold KA at hk;obtain⟨pk,u,rfl,U,bo⟩:=hk;unfold Kd.W at hW;refine gw rfl U rfl (by decide +kernel) ?_;refine gw rfl U rfl (by decide +kernel) ?_;refine gw rfl U rfl (by decide +kernel) ?_;refine gw rfl U rfl (by decide +kernel) ?_;refine jU rfl U rfl (by decide +kernel) ?_;have ev:=F_ ns k room n Y;rw[ev] at q;simp only[kc,Kd.cB] at hn;have bG:k.cB+1<=(k.cB+1) * gr room:=Q39 _ (tD room).1
  have m1:mu k (room / 2)<=N:=by
   have:mu k (room / 2)<mu (.tree k) room:=tz (by simp only[Kd.dep];omega) (by omega);omega
  refine⟨_,rfl,_,rfl,_,rfl,pk,_,_,_,rfl,rfl,eB.of U,rfl,_,rfl,_,_,rfl,rfl,⟨by decide,by decide⟩,a,b,ns,n,u,k,room / 2,(by rw[e2];rfl),g,hT,bo,hW,by omega,m1,by have:=tE k (room / 2);have:k.cB+1<=(k.cB+1) * gr room:=Q39 _ (tD room).1;omega,?_⟩;intro vt Ht aK aX aL bc bp bq aY;have ct:=m9 ns k (room / 2) n (by omega);generalize bH:val ns k (room / 2) n=J at *;refine⟨_,rfl,_,rfl,a,b,ns,J.2,rfl,ft.g0 aX g hT aL ct.1,by omega,λH1 s1 h1=>?_⟩;have g1:G0 K H1 a b ns (J.2+1):=(ft.g0 aX g hT aL ct.1).go s1 h1 (by omega);have aZ:=bc.sb aL s1;have k1:ft b Pt H H1:=aX.trans (SB.fU s1);have aQ:Own H1 vt J.1 aK:=bp.fU (SB.fU s1) aL bc aU aY;refine⟨_,rfl,_,_,rfl,rfl,_,_,rfl,rfl,by omega,?_⟩;have br:=Q0h (nx ns (J.2+1)) (show((room:Int)+1)≠0 by omega);have bt:=Q0j (nx ns (J.2+1)) (show(0:Int)<(room:Int)+1 by omega);have bu:=λm=>Gc ns k (room / 2) m (by omega);have be:=λi=>sQ (g:=val ns (.tree k) (room / 2)) (N:=(k.cB+1) * gr (room / 2)) bu i (J.2+1)
  refine⟨_,rfl,_,rfl,_,rfl,by omega,by omega,λi m ys H'=>m=(nx ns (J.2+1) % ((room:Int)+1)).toNat - i/\i<=(nx ns (J.2+1) % ((room:Int)+1)).toNat/\ys.length=i/\∃fq,ft b Pt H1 H'/\H' b=some (.lst [.int (times (val ns (.tree k) (room / 2)) i (J.2+1)).2])/\eQ Pt g_ hU H'/\
   eR H' ys (times (val ns (.tree k) (room / 2)) i (J.2+1)).1 fq/\fq.Nodup/\∀c∈fq,H1 c=none,⟨(nx ns (J.2+1) % ((room:Int)+1)).toNat,rfl,Q0a _,rfl,[],Kp.refl _ _,h1,aZ,?_,Q0w,λc hc=>absurd hc (by simp)⟩,?_⟩
  . simp only[times];unfold eR;exact⟨rfl,rfl⟩
  intro i m ys H' zq;obtain⟨rfl,bC,bv,fq,kp,af,ag,hO,aE,ah⟩:=zq;by_cases hi:i<(nx ns (J.2+1) % ((room:Int)+1)).toNat
  . refine .inr ⟨hi,gN (by omega),λx bw y=>?_⟩;obtain⟨rfl,rfl⟩:=y;refine⟨rfl,yes (fF ?_)⟩;have bx:1<=room:=by omega
    have bI:=be i
    have bz:(times (val ns (.tree k) (room / 2)) i (J.2+1)).2+((k.cB+1) * gr (room / 2):Nat)<=1000000000000:=by
     have a1:=Q38 (k.cB+1) (Gb bx Y);have a2:(k.cB+1) * (1+room * gr (room / 2))=(k.cB+1)+room * ((k.cB+1) * gr (room / 2)):=by rw[Nat.mul_add,Nat.mul_one,Q34]
     have a3:(i+1) * ((k.cB+1) * gr (room / 2))<=room * ((k.cB+1) * gr (room / 2)):=Q11 _ (by omega);have a4:(i+1) * ((k.cB+1) * gr (room / 2))=i * ((k.cB+1) * gr (room / 2))+(k.cB+1) * gr (room / 2):=Q1j _ _;omega
    have kA:ft b Pt H bw:=k1.trans kp;refine⟨_,rfl,_,rfl,_,rfl,_,rfl,_,_,rfl,rfl,⟨by decide,by decide⟩,a,b,ns,(times (val ns (.tree k) (room / 2)) i (J.2+1)).2,.ref pk,.tree k,room / 2,(by rw[e2];rfl),ft.g0 kA g hT af (by omega),ag,KA.mono (ft.tu kA hb hT) _ aW,(by unfold Kd.W;exact hW),by omega,(by simp only[mu] at a5 ⊢;omega),bz,?_⟩;intro v2 H2 fp fU aF aG aA aB aj;have sn:=Ar (val ns (.tree k) (room / 2)) i (J.2+1);refine⟨(nx ns (J.2+1) % ((room:Int)+1)).toNat - (i+1),by omega,rfl,hi,by rw[Q0c,bv];rfl,fq++fp,kp.trans fU,by rw[sn];exact aF,aG,?_,?_,?_⟩
    . rw[sn];exact eR.snoc aA _ (eR.fU hO fU af ag ⟨_,h1⟩ ah)
    . refine List.nodup_append.mpr ⟨aE,aB,λc hc d hd=>?_⟩;intro e;subst e;obtain⟨o,eo⟩:=(eR.alive _ hO c hc).ex;rw[aj c hd] at eo;cases eo
    . intro c hc;rcases List.mem_append.mp hc with z|z
      . exact ah c z
      . exact ft.fresh kp af ag (aj c z)
  . have ei:i=(nx ns (J.2+1) % ((room:Int)+1)).toNat:=by omega
    subst ei;refine .inl ⟨Q00 _,λpl aM=>⟨gF,λt ht=>?_⟩⟩;have sl:Same H' (upd H' pl (.lst ys)):=Same.new aM;have st:Same (upd H' pl (.lst ys)) (upd (upd H' pl (.lst ys)) t (.tup [vt,.ref pl])):=Same.new ht;have sa:=sl.trans st;have aT:Own H' vt J.1 aK:=aQ.fU kp h1 aZ aU aY;have kA:ft b Pt H H':=k1.trans kp;refine q (.ref t) _ (aK++(pl::fq)) (kA.trans (Kp.of sa)) (sa _ _ af) (ag.same sa) ?_ ?_ ?_
    . unfold Own;refine⟨t,_,rfl,eK,?_⟩;unfold eR;refine⟨vt,[.ref pl],aK,pl::fq,rfl,rfl,Own.same sa aT,?_⟩;unfold eR;refine⟨.ref pl,[],pl::fq,[],rfl,by simp,?_,by unfold eR;exact⟨rfl,rfl⟩⟩;unfold Own;exact⟨pl,ys,fq,rfl,st _ _ eK,rfl,eR.same sa hO⟩
    . refine List.nodup_append.mpr ⟨bq,List.nodup_cons.mpr ⟨λhm=>?_,aE⟩,λc hc d hd=>?_⟩
      . obtain⟨o,eo⟩:=(eR.alive _ hO pl hm).ex;rw[aM] at eo;cases eo
      . intro e;subst e;rcases List.mem_cons.mp hd with z|z
        . obtain⟨o,eo⟩:=(Own.alive _ aT c hc).ex;rw[z,aM] at eo;cases eo
        . obtain⟨o,eo⟩:=(Own.alive _ aQ c hc).ex;rw[ah c z] at eo;cases eo
    . intro c hc;rcases List.mem_append.mp hc with z|z
      . exact aY c z
      . rcases List.mem_cons.mp z with y|y
        . rw[y];exact ft.fresh kA af ag aM
        . exact ft.fresh k1 h1 aZ (ah c y)
 |gy fs=>
  unfold KA at hk;obtain⟨pk,pb,xs,rfl,U,aC,aD⟩:=hk;unfold Kd.W at hW;obtain⟨a6,bg,bJ,aV⟩:=hW;refine gw rfl U rfl (by decide +kernel) ?_;refine gw rfl U rfl (by decide +kernel) ?_;refine gw rfl U rfl (by decide +kernel) ?_;refine gw rfl U rfl (by decide +kernel) ?_;refine gw rfl U rfl (by decide +kernel) ?_;simp only[kc,Kd.cB] at hn;refine⟨_,rfl,pk,_,_,_,rfl,rfl,eB.of U,rfl,_,rfl,_,rfl,a,b,ns,n,rfl,g,by omega,λH1 s1 h1=>?_⟩;have aH:=s1.tu hb;have bd:(xs.length:Int)=(fs.names.length:Int):=by rw[FA.len fs aD]
  have br:=Q0h (nx ns (n+1)) (show((fs.names.length:Int))≠0 by omega);have bt:=Q0j (nx ns (n+1)) (show(0:Int)<(fs.names.length:Int) by omega);obtain⟨nm,k,ai⟩:=Fs.zS (fs:=fs) (i:=(nx ns (n+1) % (fs.names.length:Int)).toNat) (by omega);obtain⟨c,u,bA,hc,hk⟩:=FA.at aD ai
  have bB:gB xs (nx ns (n+1) % ((xs.length:Nat):Int))=some (.ref c):=by
   have e:nx ns (n+1) % ((xs.length:Nat):Int)=(((nx ns (n+1) % (fs.names.length:Int)).toNat:Nat):Int):=by rw[bd];omega
   rw[e];exact g9 bA
  refine⟨_,rfl,pk,_,_,_,rfl,rfl,eB.of (aH _ _ U),rfl,pb,_,rfl,.inr (eB.of (aH _ _ aC)),_,_,rfl,rfl,by rw[bd];omega,pb,_,_,_,rfl,rfl,eB.of (aH _ _ aC),bB,?_⟩;refine⟨c,_,rfl,eB.of (aH _ _ hc),rfl,_,_,rfl,_,_,rfl,rfl,?_⟩
  have ev:val ns (.gy fs) room n=(pairD (.str nm) (val ns k room (n+1)).1,(val ns k room (n+1)).2):=by
   show g6 ns fs (nx ns (n+1) % (fs.names.length:Int)).toNat room (n+1)=_;exact As ns fs _ room (n+1) nm k ai
  rw[ev] at q;have cb:=Fs.Au ai;refine⟨_,rfl,_,rfl,_,rfl,_,rfl,_,rfl,a,b,ns,n+1,u,k,room,rfl,g.go s1 h1 (by omega),hT.sb hb s1,KA.mono aH k hk,Fs.lZ aV ai,Y,?_,by have:=tE k room;omega,?_⟩
  . have:mu k room<mu (.gy fs) room:=tz (by have:=Fs.lY ai;simp only[Kd.dep];omega) Y;omega
  intro v2 H2 fp fU aF aG aA aB aj;have bf:ft b Pt H H2:=(SB.fU s1).trans fU;refine⟨gF,λt ht=>?_⟩;have st:Same H2 (upd H2 t (.tup [.str nm,v2])):=Same.new ht;refine q (.ref t) _ fp (bf.trans (Kp.of st)) (st _ _ aF) (aG.same st) ?_ aB λc hc=>ft.fresh (SB.fU s1) h1 (hT.sb hb s1) (aj c hc);unfold Own;refine⟨t,_,rfl,eK,?_⟩;unfold eR;refine⟨.str nm,[v2],[],fp,rfl,rfl,by unfold Own;exact⟨rfl,rfl⟩,?_⟩;unfold eR;exact⟨v2,[],fp,[],rfl,by simp,Own.same st aA,by unfold eR;exact⟨rfl,rfl⟩⟩
theorem AE {Pt c:Addr}{ac:Addr}{ae:FuncData}(T:Tb mg)(I:Dn K mg "_law_value" ia (top 34) aa ab)(L:Dn K mg "_law_rows" ia (top 33) aj af)(ag:af.code=.ref c)(ao:W.CodeHd base c Pt)(ap:BM mg base)(z:Dn K mg "_law_next" fk (top 24) ak al)(J:Dn K mg "_law_number" fk (top 25) ah ai)(U:Dn K mg "_law_word" fk (top 26) am an)(Y:Dn K mg "_law_rank" jF (top 32) ac ae):∀N:Nat,eE P w K mg base eI (2 * N+5) aa ab ia (l_ K Pt N)
 |0=>Gi T I
 |N+1=>by
  have ih:=AE T I L ag ao ap z J U Y N;have Nx:=oK (P:=P) (w:=w) (base:=base) T z;have R:=Gg N T L ag ao ap z Nx Y (Ax T Y) I ih;exact Gj N T I ih L R z Nx J (FY T J z Nx) U (F0 T U z Nx)
mutual
def D.Sm:D->Prop
 | .int _=>True
 | .str _=>True
 | .non=>True
 | .boo _=>True
 | .tup xs=>xs.len<=100/\xs.Sm
 | .lst xs=>xs.len<=100/\xs.Sm
 | .dct m=>m.len<=100/\m.Sm
def Ds.Sm:Ds->Prop
 | .nil=>True
 | .cons _ d r=>d.Sm/\r.Sm
end
theorem Ds.tH:∀{xs:Ds}{i:Nat}{d:D},xs.Sm->xs.at i=some d->d.Sm
 | .nil,_,_,_,h=>by cases h
 | .cons _ d r,0,_,w,h=>by unfold Ds.Sm at w;cases h;exact w.1
 | .cons _ d r,i+1,_,w,h=>by unfold Ds.Sm at w;exact Ds.tH (xs:=r) (i:=i) w.2 h
theorem Ds.qE:∀{xs:Ds}{x:Str}{d:D},xs.Sm->xs.get x=some d->d.Sm
 | .nil,_,_,_,h=>by cases h
 | .cons y e r,x,d,w,h=>by
   unfold Ds.Sm at w;have h:(if x=y then some e else r.get x)=some d:=h;by_cases c:x=y
   . rw[if_pos c] at h;cases h;exact w.1
   . rw[if_neg c] at h;exact Ds.qE w.2 h
theorem ma:∀(m:Ds),m.names.length=m.len
 | .nil=>rfl
 | .cons _ _ r=>by show r.names.length+1=r.len+1;rw[ma r]
theorem kr:∀l:List Ds,(fi l).len=l.length
 |[]=>rfl
 |m::r=>by show(fi r).len+1=r.length+1;rw[kr r]
theorem oN:∀{l:List Ds},(∀m∈l,(D.dct m).Sm)->(fi l).Sm
 |[],_=>by unfold fi Ds.Sm;trivial
 |m::r,h=>by
  unfold fi Ds.Sm;exact⟨h m Q0b,oN λx z=>h x (Q0e _ z)⟩
theorem qF:∀{l:List Ds},(fi l).Sm->∀m∈l,(D.dct m).Sm
 |[],_,m,z=>absurd z (by simp)
 |x::r,h,m,z=>by
  unfold fi Ds.Sm at h;rcases List.mem_cons.mp z with e|e
  . rw[e];exact h.1
  . exact qF h.2 m e
theorem oO:∀{l:List Ds},∀m∈l,m.dep+1<=(fi l).dep
 |[],m,z=>absurd z (by simp)
 |x::r,m,z=>by
  simp only[fi,Ds.dep,D.dep];rcases List.mem_cons.mp z with e|e
  . rw[e];omega
  . have:=oO (l:=r) m e;omega
theorem AG (g:Int->D × Int):∀(m:Nat) (n:Int),(times g m n).1.len=m
 |0,_=>rfl
 |m+1,n=>by show(times g m (g n).2).1.len+1=m+1;rw[AG g m]
theorem AH {g:Int->D × Int}(z:∀n,(g n).1.Sm):∀(m:Nat) (n:Int),(times g m n).1.Sm
 |0,_=>by unfold times Ds.Sm;trivial
 |m+1,n=>by
  unfold times Ds.Sm;exact⟨z n,AH z m _⟩
theorem AI {a b:D}(h1:a.Sm)(h2:b.Sm):(pairD a b).Sm:=by
 unfold D.Sm;exact⟨by show 2<=100;decide,by unfold Ds.Sm;exact⟨h1,by unfold Ds.Sm;exact⟨h2,by unfold Ds.Sm;trivial⟩⟩⟩
theorem AJ {ns:List Int}{f:Nat->Int->D × Int}(z:∀room n,room<8->(f room n).1.Sm):∀(fu room:Nat) (n:Int),room<8->(gD ns f fu room n).1.Sm
 |0,_,_,_=>by unfold gD D.Sm;trivial
 |fu+1,room,n,h=>by
  unfold gD;refine AI (z _ _ (by omega)) ?_;unfold D.Sm;refine⟨?_,AH (λn=>AJ z fu (room / 2) n (by omega)) _ _⟩;rw[AG];have:=mod_le (a:=nx ns ((f (room / 2) n).2+1)) h;omega
theorem tK {g:Int->Ds × Int}{key:Str}:∀(m:Nat) (z:List Ds) (n:Int),(fW g key m z n).1.length<=z.length+m
 |0,z,n=>by simp[fW]
 |m+1,z,n=>by
  unfold fW;split
  . have:=tK (g:=g) (key:=key) m z (g n).2;omega
  . have:=tK (g:=g) (key:=key) m (z++[(g n).1]) (g n).2;rw[Q0c] at this;have e:[(g n).1].length=1:=rfl;omega
mutual
theorem tL (ns:List Int):∀(k:Kd),k.W->∀(room:Nat) (n:Int),room<8->(val ns k room n).1.Sm
 | .num,_,_,_,_=>by unfold val D.Sm;trivial
 | .fC,_,_,_,_=>by unfold val D.Sm;trivial
 | .fL fs,w,room,n,h=>by
   unfold Kd.W at w;unfold val;exact qG ns fs w.2.2 room n h w.2.1
 | .rows key by_ fs,w,room,n,h=>by
   unfold Kd.W at w;unfold val D.Sm;refine⟨?_,oN λm z=>?_⟩
   . rw[kr,(i_ key by_ _).length_eq];have:=tK (g:=e_ ns fs (room / 2)) (key:=key) (nx ns (n+1) % ((room:Int)+1)).toNat [] (n+1);have e:=mod_le (a:=nx ns (n+1)) h;have J:([]:List Ds).length=0:=rfl;omega
   . exact m7 (R:=λm=>(D.dct m).Sm) (λn=>qG ns fs w.2.2.1 (room / 2) n (by omega) w.2.1) _ _ _ (λr I=>absurd I (by simp)) m ((i_ key by_ _).mem_iff.mp z)
 | .tree k,w,room,n,h=>by
   unfold Kd.W at w;unfold val;exact AJ (λroom n h=>tL ns k w room n h) 4 room n h
 | .gy fs,w,room,n,h=>by
   unfold Kd.W at w;unfold val;exact AK ns fs w.2.2.2 _ room _ h
theorem qG (ns:List Int):∀(fs:Fs),fs.W->∀(room:Nat) (n:Int),room<8->fs.names.length<=12->(D.dct (e_ ns fs room n).1).Sm
 | .nil,_,_,_,_,_=>by
   unfold e_ D.Sm;exact⟨by show 0<=100;omega,by unfold Ds.Sm;trivial⟩
 | .cons x k r,w,room,n,h,hl=>by
   unfold Fs.W at w;have hl:r.names.length+1<=12:=hl;have a:=tL ns k w.1 room n h;have b:=qG ns r w.2.2 room (val ns k room n).2 h (by omega);unfold D.Sm at b;unfold e_ D.Sm;refine⟨?_,by unfold Ds.Sm;exact⟨a,b.2⟩⟩;show(e_ ns r room (val ns k room n).2).1.len+1<=100;rw[<-ma,qC];omega
theorem AK (ns:List Int):∀(fs:Fs),fs.W->∀(i room:Nat) (n:Int),room<8->(g6 ns fs i room n).1.Sm
 | .nil,_,_,_,_,_=>by unfold g6 D.Sm;trivial
 | .cons x k r,w,0,room,n,h=>by
   unfold Fs.W at w;unfold g6;exact AI (by unfold D.Sm;trivial) (tL ns k w.1 room n h)
 | .cons x k r,w,i+1,room,n,h=>by
   unfold Fs.W at w;unfold g6;exact AK ns r w.2.2 i room n h
end
theorem iu.at {P:D->Prop}:∀{xs:Ds}{i:Nat}{d:D},iu P xs->xs.at i=some d->Tree P d
 | .nil,_,_,_,h=>by cases h
 | .cons _ d r,0,_,w,h=>by unfold iu at w;cases h;exact w.1
 | .cons _ d r,i+1,_,w,h=>by unfold iu at w;exact iu.at (xs:=r) (i:=i) w.2 h
theorem Own.pair {H:Hp}{v:V}{x y:Str}{a b:D}{z:List Addr}(h:Own H v (.tup (.cons x a (.cons y b .nil))) z):∃c v1 v2 f1 f2,v=.ref c/\H c=some (.tup [v1,v2])/\z=f1++f2/\Own H v1 a f1/\Own H v2 b f2:=by
 unfold Own at h;obtain⟨c,vs,rfl,hc,h⟩:=h;unfold eR at h;obtain⟨v1,q,f1,f2,rfl,rfl,I,h⟩:=h;unfold eR at h;obtain⟨v2,L,g,f3,rfl,rfl,J,h⟩:=h;unfold eR at h;obtain⟨rfl,rfl⟩:=h;exact⟨c,v1,v2,f1,g,rfl,hc,by simp,I,J⟩
theorem AL:∀{l:List Ds}{i:Nat}{d:D},(fi l).at i=some d->∃m∈l,d=.dct m
 |[],_,_,h=>by cases h
 |m::r,0,_,h=>by cases h;exact⟨m,Q0b,rfl⟩
 |m::r,i+1,d,h=>by
  obtain⟨z,h1,h2⟩:=AL (l:=r) (i:=i) h;exact⟨z,Q0e _ h1,h2⟩
noncomputable def iL:List D->Ds
 |[]=>.nil
 |d::r=>.cons "" d (iL r)
noncomputable def Ds.upd:Ds->Str->D->Ds
 | .nil,_,_=>.nil
 | .cons y d r,x,e=>.cons y (if y=x then e else d) (r.upd x e)
noncomputable def Ds.del:Ds->Str->Ds
 | .nil,_=>.nil
 | .cons y d r,x=>if y=x then r.del x else .cons y d (r.del x)
noncomputable def Fs.toL:Fs->List (Str × Kd)
 | .nil=>[]
 | .cons x k r=>(x,k)::r.toL
inductive gu:Nat->Kd->D->List Key->Prop
 |num {n:Nat} {d:D} (h:∀z,d≠ .int z):gu (n+1) .num d []
 |fC {n:Nat} {d:D} (h:∀x,d≠ .str x):gu (n+1) .fC d []
 |md {n:Nat} {fs:Fs} {d:D} (h:∀m,d=.dct m->m.names.length≠fs.names.length\/∃x∈fs.names,x ∉ m.names):gu (n+1) (.fL fs) d []
 |oP {n:Nat} {fs:Fs} {m:Ds} {i:Nat} {x:Str} {k:Kd} {d:D} {p:List Key} (h1:m.names=fs.names) (ha:fs.at i=some (x,k))
   (hj:∀j y q,j<i->fs.at j=some (y,q)->∃e,m.get y=some e/\fg q e/\e.dep<=n/\e.Sm) (hg:m.get x=some d) (hm:gu n k d p):gu (n+1) (.fL fs) (.dct m) (Sum.inr x::p)
 |rows0 {n:Nat} {key by_:Str} {fs:Fs} {d:D} (h:∀xs,d≠ .lst xs):gu (n+1) (.rows key by_ fs) d []
 |oQ {n:Nat} {key by_:Str} {fs:Fs} {xs:Ds} {i:Nat} {e:D} {p:List Key} {rs:List Ds} (hl:xs.len<=100) (hi:i<=rs.length) (hat:∀j,j<i->xs.at j=some (.dct (rs.getD j .nil)))
   (hf:∀m∈rs,fQ fs m/\m.dep<=n/\m.Sm) (hs:rs.Pairwise (g5 key by_)) (hk:(rs.map λm=>keyOf m key).Nodup) (he:xs.at i=some e) (hm:gu (n+1) (.fL fs) e p):gu (n+1) (.rows key by_ fs) (.lst xs) (Sum.inl (i:Int)::p)
 |me {n:Nat} {key by_:Str} {fs:Fs} {xs:Ds} {i:Nat} {rs:List Ds} (hl:xs.len<=100) (h0:0<i) (hi:i<rs.length) (hat:∀j,j<=i->xs.at j=some (.dct (rs.getD j .nil)))
   (hf:∀m∈rs,fQ fs m/\m.dep<=n/\m.Sm) (hs:(rs.take i).Pairwise (g5 key by_)) (hk:((rs.take i).map λm=>keyOf m key).Nodup) (hno:¬g5 key by_ (rs.getD (i - 1) .nil) (rs.getD i .nil)):gu (n+1) (.rows key by_ fs) (.lst xs) [Sum.inl (i:Int)]
 |oR {n:Nat} {k:Kd} {d:D} (h:∀xs as,d=.tup xs->xs.len=2->xs.at 1≠some (.lst as)):gu (n+1) (.tree k) d []
 |qH {n:Nat} {k:Kd} {t:D} {as:Ds} {p:List Key} (hm:gu n k t p):gu (n+1) (.tree k) (pairD t (.lst as)) (Sum.inr "knot"::p)
 |qI {n:Nat} {k:Kd} {t e:D} {as:Ds} {i:Nat} {p:List Key} (ht:fg k t/\t.dep<=n/\t.Sm) (hl:as.len<=100) (hj:∀j a,j<i->as.at j=some a->Tree (fg k) a/\a.dep<=n/\a.Sm) (he:as.at i=some e) (hm:gu n (.tree k) e p):
   gu (n+1) (.tree k) (pairD t (.lst as)) (Sum.inl (i:Int)::p)
 |oS {n:Nat} {fs:Fs} {d:D} (h:∀xs,d=.tup xs->xs.len=2->(∃x,xs.at 0=some (.str x)/\x ∉ fs.names)\/(∃z,xs.at 0=some (.int z))\/∃l,xs.at 0=some (.lst l)):gu (n+1) (.gy fs) d []
 |qJ {n:Nat} {fs:Fs} {x:Str} {k:Kd} {v:D} {p:List Key} (hg:fs.get x=some k) (hm:gu n k v p):gu (n+1) (.gy fs) (pairD (.str x) v) (Sum.inr x::p)
theorem gu.up {n:Nat}{k:Kd}{d:D}{p:List Key}(h:gu n k d p):gu (n+1) k d p:=by
 induction h with
 |num h=>exact .num h
 |fC h=>exact .fC h
 |md h=>exact .md h
 |oP h1 ha L U _ I=>exact .oP h1 ha (λj y q l e=>let⟨e,a,b,c,d⟩:=L j y q l e;⟨e,a,b,by omega,d⟩) U I
 |rows0 h=>exact .rows0 h
 |oQ hl hi J Y hs hk he _ I=>exact .oQ hl hi J (λm hm=>let⟨a,b,c⟩:=Y m hm;⟨a,by omega,c⟩) hs hk he I
 |me hl h0 hi J Y hs hk aa=>exact .me hl h0 hi J (λm hm=>let⟨a,b,c⟩:=Y m hm;⟨a,by omega,c⟩) hs hk aa
 |oR h=>exact .oR h
 |qH _ I=>exact .qH I
 |qI ht hl L he _ I=>exact .qI ⟨ht.1,by omega,ht.2.2⟩ hl (λj a l e=>let⟨x,y,z⟩:=L j a l e;⟨x,by omega,z⟩) he I
 |oS h=>exact .oS h
 |qJ U _ I=>exact .qJ U I
theorem Ds.qK:∀(m:Ds) (x:Str) (e:D),(m.upd x e).names=m.names
 | .nil,_,_=>rfl
 | .cons y d r,x,e=>by
   show y::(r.upd x e).names=_;rw[Ds.qK r x e];rfl
theorem Ds.tM:∀(m:Ds) (x:Str),x ∉ (m.del x).names
 | .nil,_=>by simp[Ds.del,Ds.names]
 | .cons y d r,x=>by
   unfold Ds.del;split
   . exact Ds.tM r x
   . rename_i h;intro z;rcases List.mem_cons.mp (show x∈y::(r.del x).names from z) with e|e
     . exact h e.symm
     . exact Ds.tM r x e
theorem Fs.tN:∀(fs:Fs) (i:Nat),fs.toL[i]? =fs.at i
 | .nil,i=>by simp[Fs.toL,Fs.at]
 | .cons x k r,0=>rfl
 | .cons x k r,i+1=>by
   show((x,k)::r.toL)[i+1]? =r.at i;rw[Q33,Fs.tN r i]
theorem Fs.AM:∀(fs:Fs),fs.toL.length=fs.names.length
 | .nil=>rfl
 | .cons x k r=>by
   show r.toL.length+1=r.names.length+1;rw[Fs.AM r]
theorem Ds.AN {x z:Str}(h:z≠x)(e:D):∀(m:Ds),(m.upd x e).get z=m.get z
 | .nil=>rfl
 | .cons y d r=>by
   show(if z=y then some (if y=x then e else d) else(r.upd x e).get z)=(if z=y then some d else r.get z);by_cases c:z=y
   . rw[if_pos c,if_pos c,if_neg (λq=>h (c.trans q))]
   . rw[if_neg c,if_neg c,Ds.AN h e r]
theorem Ds.tO {x:Str}(e:D):∀{m:Ds},x∈m.names->(m.upd x e).get x=some e
 | .nil,h=>by simp[Ds.names] at h
 | .cons y d r,h=>by
   show(if x=y then some (if y=x then e else d) else(r.upd x e).get x)=some e;by_cases c:x=y
   . rw[if_pos c,if_pos c.symm]
   . rw[if_neg c];rcases List.mem_cons.mp (show x∈y::r.names from h) with q|q
     . exact absurd q c
     . exact Ds.tO e q
theorem Ds.mf:∀{xs:Ds}{i:Nat}{d:D},xs.at i=some d->i<xs.len
 | .nil,_,_,h=>by cases h
 | .cons x d r,0,_,_=>by show 0<r.len+1;omega
 | .cons x d r,i+1,_,h=>by
   have:=Ds.mf (xs:=r) (i:=i) h;show i+1<r.len+1;omega
theorem tQ:∀{fs:Fs}{x:Str}{v:D},jE fs x v->∃k,fs.get x=some k/\fg k v
 | .nil,_,_,h=>by unfold jE at h;exact h.elim
 | .cons y k r,x,v,h=>by
   unfold jE at h;rcases h with⟨e,f⟩|⟨e,h⟩
   . exact⟨k,by show(if x=y then some k else r.get x)=_;rw[if_pos e],f⟩
   . obtain⟨z,I,J⟩:=tQ h;exact⟨z,by show(if x=y then some k else r.get x)=_;rw[if_neg e];exact I,J⟩
theorem Fs.tR:∀{fs:Fs}{x:Str}{k:Kd},fs.W->fs.get x=some k->k.W
 | .nil,_,_,_,h=>by cases h
 | .cons y q r,x,k,w,h=>by
   unfold Fs.W at w;have h:(if x=y then some q else r.get x)=some k:=h;by_cases e:x=y
   . rw[if_pos e] at h;cases h;exact w.1
   . rw[if_neg e] at h;exact Fs.tR w.2.2 h
theorem tT:∀{rs:List Ds}{i:Nat},i<rs.length->(fi rs).at i=some (.dct (rs.getD i .nil))
 |[],_,h=>by simp at h
 |m::r,0,_=>rfl
 |m::r,i+1,h=>by
  show(fi r).at i=_;rw[tT (by simpa using h)];rfl
theorem iu.all {P:D->Prop}{xs:Ds}(h:iu P xs){i:Nat}{d:D}(e:xs.at i=some d):Tree P d:=iu.at h e
theorem Ds.AO (x:Str)(e:D):∀m:Ds,(m.upd x e).dep<=max m.dep e.dep
 | .nil=>Q0a _
 | .cons y d r=>by
   have:=Ds.AO x e r;show max (if y=x then e else d).dep (r.upd x e).dep<=max (max d.dep r.dep) e.dep;split <;> omega
theorem Fs.mh:∀{fs:Fs}{x:Str}{k:Kd},fs.get x=some k->x∈fs.names
 | .cons y q r,x,k,h=>by
   unfold Fs.get at h;by_cases e:x=y
   . rw[e];exact Q0b
   . rw[if_neg e] at h;exact Q0e _ (Fs.mh h)
noncomputable def kD:Key->D
 | .inl z=>.int z
 | .inr s=>.str s
def jc:Option Kd->Key->Prop
 |some .num,.inl _=>True
 |some .fC,.inr _=>True
 |_,_=>False
theorem jc.fit {o:Option Kd}{p:Key}(h:jc o p):∃k,o=some k/\kW k/\fg k (kD p):=by
 unfold jc at h;split at h
 . exact⟨.num,rfl,trivial,by unfold fg kD;exact⟨_,rfl⟩⟩
 . exact⟨.fC,rfl,trivial,by unfold fg kD;exact⟨_,rfl⟩⟩
 . exact h.elim
theorem jc.of {fs:Fs}{m:Ds}{x:Str}(f:fQ fs m)(h:fs.pl x):jc (fs.get x) (keyOf m x):=by
 obtain⟨_,⟨z,_,e,k⟩|⟨s,_,e,k⟩⟩:=f.plain h
 . rw[e,k];exact trivial
 . rw[e,k];exact trivial
theorem Gk (p:Key):(kD p).dep=1:=by cases p <;> rfl
theorem Gm (p:Key):(kD p).Sm:=by cases p <;> (unfold kD D.Sm;trivial)
theorem Gn {m:Ds}{x:Str}{p:Key}(h:x∈m.names):keyOf (m.upd x (kD p)) x=p:=by
 unfold keyOf;rw[Ds.tO _ h]
 cases p <;> rfl
theorem Ds.AQ {x:Str}{e:D}:∀{m:Ds},x ∉ m.names->m.upd x e=m
 | .nil,_=>rfl
 | .cons y d r,h=>by
   show Ds.cons y (if y=x then e else d) (r.upd x e)=_;rw[if_neg (λz=>h (by rw[z];exact Q0b)),Ds.AQ (m:=r) λz=>h (Q0e _ z)]
theorem fQ.upd {x:Str}{k:Kd}{e:D}(J:fg k e):∀{fs:Fs}{m:Ds},fs.names.Nodup->fs.get x=some k->fQ fs m->fQ fs (m.upd x e)
 | .nil,_,_,h,_=>by cases h
 | .cons y q r,m,I,h,f=>by
   unfold fQ at f;obtain⟨d,m,rfl,f1,f2⟩:=f;have I:(y::r.names).Nodup:=I;obtain⟨L,U⟩:=List.nodup_cons.mp I;unfold Fs.get at h;show fQ _ (.cons y (if y=x then e else d) (m.upd x e));unfold fQ;by_cases ex:x=y
   . rw[if_pos ex] at h
     cases h;subst ex;rw[if_pos rfl,Ds.AQ (by rw[f2.names];exact L)];exact⟨_,_,rfl,J,f2⟩
   . rw[if_neg ex] at h;rw[if_neg (λz=>ex z.symm)];exact⟨_,_,rfl,f1,fQ.upd J U h f2⟩
theorem Ds.Gp (x:Str)(e:D)(m:Ds):(m.upd x e).len=m.len:=by rw[<-ma,Ds.qK,ma]
theorem Ds.AR {x:Str}{e:D}(z:e.Sm):∀{m:Ds},m.Sm->(m.upd x e).Sm
 | .nil,h=>h
 | .cons y d r,h=>by
   unfold Ds.Sm at h;show Ds.Sm (.cons y (if y=x then e else d) (r.upd x e));unfold Ds.Sm;refine⟨?_,Ds.AR z h.2⟩;split
   . exact z
   . exact h.1
def mi (fs:Fs) (m:Ds):Prop:=fQ fs m/\m.dep<=fs.dB+1/\(D.dct m).Sm
theorem mi.upd {fs:Fs}{m:Ds}{x:Str}{p:Key}(z:fs.names.Nodup)(h:mi fs m)(hp:jc (fs.get x) p):mi fs (m.upd x (kD p)):=by
 obtain⟨k,e,_,I⟩:=hp.fit;refine⟨h.1.upd I z e,?_,?_⟩
 . have:=Ds.AO x (kD p) m;have a:=h.2.1;rw[Gk] at this;omega
 . have s:=h.2.2;unfold D.Sm at s ⊢;exact⟨by rw[Ds.Gp];exact s.1,Ds.AR (Gm p) s.2⟩
noncomputable def nr (ns:List Int) (key by_:Str) (fs:Fs) (room:Nat) (q:List Ds × Int) (p:Key):List Ds × Int:=
 if 0<nx ns (q.2+1) % 3 then
  (q.1++[(if by_≠""/\q.1≠[]/\nx ns (q.2+1) / 3 % 2=0 then(e_ ns fs room (q.2+1)).1.upd by_ (kD (keyOf (q.1.getLastD .nil) by_)) else(e_ ns fs room (q.2+1)).1).upd key (kD p)],(e_ ns fs room (q.2+1)).2)
 else(q.1,q.2+1)
noncomputable def gP (ns:List Int) (key by_:Str) (fs:Fs) (room:Nat) (ps:List Key) (n:Int):List Ds × Int:=ps.foldl (nr ns key by_ fs room) ([],n)
theorem AU {ns:List Int}{key by_:Str}{fs:Fs}{room:Nat}{ps:List Key}{p:Key}{n:Int}:gP ns key by_ fs room (ps++[p]) n=nr ns key by_ fs room (gP ns key by_ fs room ps n) p:=by
 unfold gP;rw[List.foldl_append];rfl
theorem Gq {ns:List Int}{key by_:Str}{fs:Fs}{room:Nat}{ps:List Key}{p:Key}{n:Int}{i:Nat}(h:ps[i]? =some p):gP ns key by_ fs room (ps.take (i+1)) n=nr ns key by_ fs room (gP ns key by_ fs room (ps.take i) n) p:=by
 rw[Q0t,h];exact AU
structure nt (fs:Fs) (key:Str) (room:Nat) (ps:List Key) (n:Int) (q:List Ds × Int):Prop where
 ok:∀m∈q.1,mi fs m
 keys:(q.1.map λm=>keyOf m key).Sublist ps
 lo:n<=q.2
 hi:q.2<=n+ps.length * ((fs.cB:Int)+1)
theorem AV {α:Type}{l:List α}{d:α}(h:l≠[]):l.getLastD d∈l:=by
 cases l with
 |nil=>exact absurd rfl h
 |cons a r=>exact List.mem_of_getLast? (by rw[List.getLast?_eq_some_getLast (List.cons_ne_nil a r)];rw[List.getLastD_cons,<-List.getLast_eq_getLastD])
theorem nt.step {ns:List Int}{key by_:Str}{fs:Fs}{room:Nat}{ps:List Key}{n:Int}{q:List Ds × Int}{p:Key}(h:nt fs key room ps n q)(hW:(Kd.rows key by_ fs).W)(U:room<8)(hp:jc (fs.get key) p):nt fs key room (ps++[p]) n (nr ns key by_ fs room q p):=by
 unfold Kd.W at hW;obtain⟨I,aa,J,L,ab⟩:=hW;have c:=m_ ns fs room (q.2+1) U
 have e:((ps++[p]).length:Int) * ((fs.cB:Int)+1)=ps.length * ((fs.cB:Int)+1)+(fs.cB+1):=by
  rw[Q0c];show((ps.length+1:Nat):Int) * _=_;rw[Q1v,Q1w];simp
 have lo:=h.lo;have hi:=h.hi;unfold nr;split
 . have v0:mi fs (e_ ns fs room (q.2+1)).1:=⟨l5 ns fs J room _ U,Nat.le_succ_of_le (p8 ns fs room _),qG ns fs J room _ U aa⟩;generalize e_ ns fs room (q.2+1)=v at *
   have v1:mi fs (if by_≠""/\q.1≠[]/\nx ns (q.2+1) / 3 % 2=0 then v.1.upd by_ (kD (keyOf (q.1.getLastD .nil) by_)) else v.1):=by
    split
    . rename_i hc;exact v0.upd I (jc.of (h.ok _ (AV hc.2.1)).1 (ab.resolve_left hc.1))
    . exact v0
   generalize (if by_≠""/\q.1≠[]/\nx ns (q.2+1) / 3 % 2=0 then v.1.upd by_ (kD (keyOf (q.1.getLastD .nil) by_)) else v.1)=Y at *
   have hm:key∈Y.names:=by
    rw[v1.1.names];obtain⟨k,e,_⟩:=L;exact Fs.mh e
   refine⟨λm ac=>?_,?_,by show n<=v.2;omega,by show v.2<=_;rw[e];omega⟩
   . rcases List.mem_append.mp ac with z|z
     . exact h.ok m z
     . rw[List.mem_singleton.mp z];exact v1.upd I hp
   . show((q.1++[Y.upd key (kD p)]).map λm=>keyOf m key).Sublist _;rw[Q0k];refine List.Sublist.append h.keys ?_;show [keyOf (Y.upd key (kD p)) key].Sublist [p];rw[Gn hm];exact List.Sublist.refl _
 . exact⟨h.ok,h.keys.trans (List.sublist_append_left _ _),by show n<=q.2+1;omega,by show q.2+1<=_;rw[e];omega⟩
theorem tU {ns:List Int}{key by_:Str}{fs:Fs}{room:Nat}{ps:List Key}{n:Int}(z:(Kd.rows key by_ fs).W)(I:room<8)(hp:∀p∈ps,jc (fs.get key) p):∀i,nt fs key room (ps.take i) n (gP ns key by_ fs room (ps.take i) n)
 |0=>by
  rw[Q3a];exact { ok:=(λm h=>by cases h),keys:=List.Sublist.refl _,lo:=Q2g n,hi:=by show n<=n+((0:Nat):Int) * _;simp }
 |i+1=>by
  have J:=tU z I hp (n:=n) (ns:=ns) i
  cases e:ps[i]? with
  |none=>
   have:ps.take (i+1)=ps.take i:=by rw[Q0t,e];exact Q0u _
   rw[this];exact J
  |some p=>
   have L:ps.take (i+1)=ps.take i++[p]:=by rw[Q0t,e];rfl
   rw[L,AU];exact J.step z I (hp p (Q19 e))
abbrev ku (Pt:Addr) (H H':Hp):Prop:=Kp (λc=>c=Pt) H H'
theorem tV {K:W.Frag}{P:Addr}{lp:Pos}{ql:Str}{j:Nat}{σ:L2.St}{Q:VK}{H:Hp}{pr pk pb:Addr}{vs:List V}{ms:List Ds}{fl:List (List Addr)}{key by_:Str}{fs:Fs}(hr:eG K H pr vs)(J:fc H vs ms fl)(hl:vs.length<64)(hT:eQ P lp ql H)(av:σ[j]? =some (some (.ref pk)))
 (aw:H pk=some (.tup [.str "rows",.str key,.str by_,.ref pb])) (U:∀m∈ms,fQ fs m) (ac:fs.pl key) (aj:by_=""\/fs.pl by_) (ax:(ms.map λm=>keyOf m key).Nodup)
 (q:∀D ak al H',ku P H H'->eQ P lp ql H'->H D=none->H' D=some (.lst ak)->fc H' ak (fV key by_ ms) al->al.Perm fl->Q (.ref D) H'):
 pR K P lp ql (lL kq [] E0 (gp (fT (j+1)) (gp (fT 0) g8))) σ Q (.ref pr) H:=by
 obtain⟨ae,ap⟩:=A3.len J;refine⟨pr,vs,rfl,hr,hl,hT,λc' H2 ag mono=>?_⟩
 have np:∀I o,(∀ps,o≠ .gq ps)->H I=some o->H2 I=some o:=λI o ho e=>by
  obtain⟨ay,az⟩:=hT.tab;exact mono I o (gz e az (ho ay)) e
 have am:Tu H H2:=λI ys e=>np I _ (by intro ps z;cases z) e
 have L:fc H2 vs ms fl:=fc.keep am J λI hc o e=>np I o (by
  intro ps z;rcases fc.mu J I hc with⟨_,q⟩|⟨_,q⟩ <;> rw[e] at q <;> rw[z] at q <;> cases q) e
 have aq:H2 pk=some (.tup [.str "rows",.str key,.str by_,.ref pb]):=am _ _ aw;refine⟨λks H3=>Same H2 H3/\ks.length<=vs.length/\lW H3 ks ((ms.map (rankOf key by_)).take ks.length),⟨Same.refl _,Q0a _,.nil⟩,λks H3 hw=>ag.mono λI o _ e=>hw.1 _ _ e,?_,?_⟩
 . rintro ks H3 yv ⟨s3,aA,aa⟩ hy;have an:ks.length<vs.length:=(List.getElem?_eq_some_iff.mp hy).1;have af:=A3.at (a0:=V.non) (b0:=Ds.nil) (c0:=[]) L ks.length an;have ey:vs.getD ks.length .non=yv:=by rw[Q0d,hy];rfl
   rw[ey] at af
   have ar:ms.getD ks.length .nil∈ms:=by
    rw[Q0d,Q02 (by omega)];exact Q0v _
   have Y:=Own.same s3 af;unfold Own at Y;obtain⟨rr,kvs,fq,rfl,aB,_,aC⟩:=Y;refine⟨_,av,_,rfl,pk,rr,pb,key,by_,fs,kvs,_,fq,rfl,s3 _ _ aq,aB,aC,U _ ar,ac,aj,λt ht=>⟨s3.trans (Same.new ht),by rw[Q0c];exact an,?_⟩⟩
   have et:(ms.map (rankOf key by_)).take (ks++[V.ref t]).length=(ms.map (rankOf key by_)).take ks.length++[rankOf key by_ (ms.getD ks.length .nil)]:=by
    rw[Q0c];show List.take (ks.length+1) _=_;rw[Q0t,Q0s,Q0d,Q02 (by omega)];rfl
   rw[et];refine tG (Paired.nJ aa λk kl z=>?_) ⟨t,rfl,eK⟩;obtain⟨pp,e,hh⟩:=z;exact⟨pp,e,by rw[d_ (eM hh ht)];exact hh⟩
 . rintro ks H3 ⟨s3,aA,aa⟩ au
   have aD:(ms.map (rankOf key by_)).take ks.length=ms.map (rankOf key by_):=by
    rw[au,ae,Q1c (by rw[Q03];exact Q00 _)]
   rw[aD] at aa;refine⟨_,aa,⟨if by_="" then [jW (fs.get key)] else [jW (fs.get by_),jW (fs.get key)],by split <;> simp,λkl aE=>?_⟩,λp hp hs D hD=>?_⟩
   . obtain⟨m,hm,rfl⟩:=List.mem_map.mp aE;exact mZ (U m hm) ac aj
   have ah:∀i∈p,i<vs.length:=λi hi=>by
    have:=hp.mem_iff.mp hi;simpa using this
   have aF:p.Perm (List.range ms.length):=by rw[<-ae];exact hp
   have hz:(p.map λi=>ms.getD i .nil)=fV key by_ ms:=by
    refine sN (qb _ aF) ?_ ax;rw[Q29] at hs ⊢;refine List.Pairwise.imp_of_mem (λ{i j} hi hj h=>?_) hs;have aG:=ah i hi;have aH:=ah j hj
    have ge:∀i,i<vs.length->(ms.map (rankOf key by_)).getD i []=rankOf key by_ (ms.getD i .nil):=λi hi=>by
     rw[Q0d,Q0d,Q0s,Q02 (by omega)];rfl
    rw[ge i aG,ge j aH] at h;exact h
   have sD:Same H3 (upd H3 D (.lst (p.map λi=>vs.getD i .non))):=Same.new hD;have ab:fc (upd H3 D (.lst (p.map λi=>vs.getD i .non))) vs ms fl:=fc.keep (Tu.of (s3.trans sD)) L λI _ o e=>sD _ _ (s3 I o e);have ai:=A3.pick (a0:=V.non) (b0:=Ds.nil) (c0:=[]) ab p ah;have aJ:(p.map λi=>fl.getD i []).Perm fl:=qb _ (by rw[<-ap];exact hp);have aK:D≠P:=λe=>by rw[e,s3 _ _ ag.1] at hD;cases hD
   have ao:=s3.free hD
   have aL:H D=none:=by
    cases e:H D with
    |none=>rfl
    |some o=>rw[mono D o aK e] at ao;cases ao
   exact q D _ _ _ (λI o nc e=>sD _ _ (s3 _ _ (mono I o nc e))) (.inr ⟨c',ag.mono λI o _ e=>sD _ _ (s3 _ _ e)⟩) aL eK (by rw[<-hz];exact ai) aJ
noncomputable abbrev ie:Pos:=qD (top 16)
noncomputable abbrev ig:Str:=("in_order":Str)++".<locals>."++"<lambda>"
noncomputable abbrev jq:Pos:=qD (top 42)
noncomputable abbrev jr:Str:=("_law_sorted":Str)++".<locals>."++"<lambda>"
noncomputable abbrev mj:Pos:=qD (top 38)
noncomputable abbrev ml:Str:=("_law_some":Str)++".<locals>."++"<lambda>"
def nu (P:Addr) (L:Pos) (U:Str):Sp:=λvs H Q _=>∃pk Y pb key by_ fs J ms fl,vs=[.ref pk,.ref Y]/\H pk=some (.tup [.str "rows",.str key,.str by_,.ref pb])/\H Y=some (.lst J)/\fc H J ms fl/\J.length<64/\eQ P L U H/\(∀m∈ms,fQ fs m)/\fs.pl key/\(by_=""\/fs.pl by_)/\(ms.map λm=>keyOf m key).Nodup/\
 ∀D z I H',ku P H H'->eQ P L U H'->H D=none->H' D=some (.lst z)->fc H' z (fV key by_ ms) I->I.Perm fl->Q (.ref D) H'
abbrev jH (b P z:Addr):Hp->Hp->Prop:=Kp (λc=>c=b\/c=P\/c=z)
def AW (K:W.Frag) (Pt Ps:Addr) (N:Nat):Sp:=λvs H Q _=>∃a b ns n pk pb xs key by_ fs pl,∃ps:List Key,∃room:Nat,vs=[.ref a,.ref b,.ref pk,.ref pl,.int room]/\G0 K H a b ns n/\eQ Pt g_ hU H/\eQ Ps mj ml H/\Pt≠Ps/\H pk=some (.tup [.str "rows",.str key,.str by_,.ref pb])/\H pb=some (.tup xs)/\FA H xs fs/\(Kd.rows key by_ fs).W/\
 H pl=some (.lst (ps.map kV))/\pl≠b/\ps.length<=30/\(∀p∈ps,jc (fs.get key) p)/\ps.Nodup/\room<8/\mu (.fL fs) room<=N/\n+ps.length * ((fs.cB:Int)+1)<=1000000000000/\
 ∀D z I H',jH b Pt Ps H H'->H' b=some (.lst [.int (gP ns key by_ fs room ps n).2])->eQ Pt g_ hU H'->eQ Ps mj ml H'->H' D=some (.lst z)->fc H' z (fV key by_ (gP ns key by_ fs room ps n).1) I->(∀c∈D::I.flatten,H c=none)->Q (.ref D) H'
theorem AX:fo XY XY (eP (top 16)):=fM
theorem Gr {Pi c:Addr}(T:Tb mg)(J:Dn K mg "in_order" jn (top 16) L z)(ab:z.code=.ref c)(ae:W.CodeHd base c Pi)(af:BM mg base)(I:Dn K mg "rank" l6 (top 15) U Y)(aa:eE P w K mg base eI (1) U Y l6 (kq)):eE P w K mg base eI (8) L z jn (nu Pi ie ig):=by
 refine J.F.pX ab AX (λvs H Q E h=>?_) (λA outer s H vs Q E hr h=>?_)
 . obtain⟨pk,pr,pb,key,by_,fs,ws,ms,fl,rfl,_⟩:=h;rfl
 obtain⟨pk,pr,pb,key,by_,fs,ws,ms,fl,rfl,ag,ah,ac,hl,hT,hf,hk,ai,aj,q⟩:=h;have nd:=AX.nd;refine⟨_,(eL (eO (pS (x:="row") (N':=["kind",""]) rfl T.oE boot_sorted hr rfl rfl ae af (ki.of (N:=XY) (sc:=eP (top 16)) rfl rfl rfl rfl rfl (by decide +kernel)) rfl (λ_ _ _ _ _=>rfl) (pv 1) (λ_ _ _ _ _=>(mK aa (fy.deeper (k:=1) (fy.in1 (k:=2) (fy.in1 (k:=3) (hr.mono (by decide)))) _) rfl I.m I.F.kp I.b .nil iV (a_ (pv 1) (a_ (pv 0) c_))))))),?_⟩
 ac_rfl
 exact⟨_,rfl,tV (eG.of ah) ac hl hT rfl ag hf hk ai aj q⟩
theorem AY:fo XH XH (eP (top 42)):=fM
theorem Gs {Po c:Addr}(T:Tb mg)(J:Dn K mg "_law_sorted" jG (top 42) L I)(ab:I.code=.ref c)(ae:W.CodeHd base c Po)(af:BM mg base)(z:Dn K mg "_law_rank" jF (top 32) U Y)(aa:eE P w K mg base eI (1) U Y jF (kq)):eE P w K mg base eI (8) L I jG (nu Po jq jr):=by
 refine J.F.pX ab AY (λvs H Q E h=>?_) (λA outer s H vs Q E hr h=>?_)
 . obtain⟨pk,pr,pb,key,by_,fs,ws,ms,fl,rfl,_⟩:=h;rfl
 obtain⟨pk,pr,pb,key,by_,fs,ws,ms,fl,rfl,ag,ah,ac,hl,hT,hf,hk,ai,aj,q⟩:=h;have nd:=AY.nd;refine⟨_,(eL (eO (pS (x:="_law_row") (N':=["_law_kind_here",""]) rfl T.oE boot_sorted hr rfl rfl ae af (ki.of (N:=XH) (sc:=eP (top 42)) rfl rfl rfl rfl rfl (by decide +kernel)) rfl (λ_ _ _ _ _=>rfl) (pv 1) (λ_ _ _ _ _=>(mK aa (fy.deeper (k:=1) (fy.in1 (k:=2) (fy.in1 (k:=3) (hr.mono (by decide)))) _) rfl z.m z.F.kp z.b .nil iV (a_ (pv 1) (a_ (pv 0) c_))))))),?_⟩
 ac_rfl
 exact⟨_,rfl,tV (eG.of ah) ac hl hT rfl ag hf hk ai aj q⟩
theorem AZ {H:Hp}{p:Key}:Own H (kV p) (kD p) []:=by
 cases p <;> (unfold kV kD Own;exact⟨rfl,rfl⟩)
theorem qL {A B:TS}{D:Ends}{σ:L2.St}{H:Hp}(Pv:L2.St->Hp->Prop)(I:∀z H',Pv z H'->B D z H')(J:(∀z H',Pv z H'->B D z H')->A { D with nx:=B D } σ H):yo A B D σ H:=J I
theorem _root_.L2.eQ.off {P:Addr}{I:Pos}{J:Str}{H H':Hp}(h:eQ P I J H)(k:∀c o,(∀xs,o≠ .lst xs)->(∀L,o≠ .dK L)->H c=some o->H' c=some o):eQ P I J H':=by
 rcases h with e|⟨c,e,f⟩
 . exact .inl (k _ _ (by intro xs z;cases z) (by intro xs z;cases z) e)
 . exact .inr ⟨c,k _ _ (by intro xs z;cases z) (by intro xs z;cases z) e,k _ _ (by intro xs z;cases z) (by intro xs z;cases z) f⟩
theorem Gu {α:Type}{l:List α}{x:α}(h:l[l.length - 1]? =some x):gB l (-1)=some x:=by
 have hl:=(List.getElem?_eq_some_iff.mp h).1;unfold gB jQ;rw[if_neg (by decide),if_pos (by omega)];show l[((-1:Int)+(l.length:Int)).toNat]? =_;rw[show((-1:Int)+(l.length:Int)).toNat=l.length - 1 by omega];exact h
theorem _root_.L2.eQ.kp {P J b:Addr}{lp L:Pos}{ql U:Str}{H H':Hp}{l:List V}(h:eQ P lp ql H)(x:ft b J H H')(hb:H b=some (.lst l))(h':eQ J L U H)(I:J≠P):eQ P lp ql H':=by
 obtain⟨aa,Y⟩:=h'.tab;have k:∀c o,c≠J->(∀xs,o≠ .lst xs)->H c=some o->H' c=some o:=λc o hc ho e=>x c o (λz=>z.elim (λz=>by rw[z,hb] at e;cases e;exact ho _ rfl) hc) e;rcases h with e|⟨c,e,f⟩
 . exact .inl (k _ _ (Ne.symm I) (by intro xs z;cases z) e)
 . exact .inr ⟨c,k _ _ (Ne.symm I) (by intro xs z;cases z) e,k _ _ (gz f Y (by intro z;cases z)) (by intro xs z;cases z) f⟩
theorem _root_.L2.eQ.nv {P J:Addr}{U:Pos}{Y:Str}{H H':Hp}{ps:Array Value}(h:eQ P U Y H)(x:ku J H H')(L:H J=some (.gq ps))(I:J≠P):eQ P U Y H':=by
 rcases h with e|⟨c,e,f⟩
 . exact .inl (x _ _ (Ne.symm I) e)
 . exact .inr ⟨c,x _ _ (Ne.symm I) e,x _ _ (gz f L (by intro z;cases z)) f⟩
theorem eN.A0 {H:Hp}{x:Str}{v:V}{e:D}(U:Own H v e []):∀{m:Ds}{kvs:List (Key × V)}{J:List Addr},eN H kvs m J->∃I,eN H (kvs.map λL=>if L.1=Sum.inr x then(L.1,v) else L) (m.upd x e) I/\I.Sublist J
 | .nil,kvs,J,h=>by
   unfold eN at h;obtain⟨rfl,rfl⟩:=h;exact⟨[],by unfold Ds.upd eN;exact⟨rfl,rfl⟩,List.Sublist.refl _⟩
 | .cons y d r,kvs,J,h=>by
   unfold eN at h;obtain⟨u,q,f1,f2,rfl,rfl,ho,hr⟩:=h;obtain⟨f3,Y,s3⟩:=eN.A0 U hr;show ∃I,eN H ((if(Sum.inr y:Key)=Sum.inr x then(Sum.inr y,v) else(Sum.inr y,u))::q.map _) (.cons y (if y=x then e else d) (r.upd x e)) I/\_;by_cases ex:y=x
   . refine⟨[]++f3,?_,s3.trans (List.sublist_append_right _ _)⟩;rw[if_pos ex,if_pos (by rw[ex])];unfold eN;exact⟨_,_,[],f3,rfl,rfl,U,Y⟩
   . refine⟨f1++f3,?_,List.Sublist.append (List.Sublist.refl _) s3⟩;rw[if_neg ex,if_neg (λz=>ex (Sum.inr.inj z))];unfold eN;exact⟨_,_,f1,f3,rfl,rfl,ho,Y⟩
theorem eN.qM {H:Hp}{x:Str}{v:V}{e:D}{m:Ds}{kvs:List (Key × V)}{I:List Addr}(h:eN H kvs m I)(J:Own H v e [])(L:x∈m.names):∃z,eN H (putK kvs (Sum.inr x) v) (m.upd x e) z/\z.Sublist I:=by
 unfold putK;rw[if_pos]
 . exact h.A0 J
 . rw[Q2h];have:(Sum.inr x:Key)∈kvs.map (·.1):=by rw[eN.keys m h];exact Q1i L
   obtain⟨U,h1,h2⟩:=List.mem_map.mp this;exact⟨U,h1,decide_eq_true h2⟩
theorem Gv {kvs:List (Key × V)}{x:Str}{v:V}{m:Ds}{H:Hp}{I:List Addr}(h:eN H kvs m I)(z:x∈m.names):(putK kvs (Sum.inr x) v).length=kvs.length:=by
 obtain⟨L,h',_⟩:=h.qM (v:=.non) (e:=.non) (by unfold Own;exact⟨rfl,rfl⟩) z;unfold putK;rw[if_pos]
 . rw[Q03]
 . rw[Q2h];have:(Sum.inr x:Key)∈kvs.map (·.1):=by rw[eN.keys m h];exact Q1i z
   obtain⟨J,h1,h2⟩:=List.mem_map.mp this;exact⟨J,h1,decide_eq_true h2⟩
theorem A1:fo XN Xc (eP (top 38)):=fM
theorem Gw {Pt Ps c:Addr}(N:Nat)(T:Tb mg)(am:Dn K mg "_law_some" oG (top 38) an Y)(bb:Y.code=.ref c)(bF:W.CodeHd base c Ps)(bG:BM mg base)(ao:Dn K mg "_law_next" fk (top 24) ap aq)(ar:eE P w K mg base eI (1) ap aq fk (k6 K))(J:Dn K mg "_law_rank" jF (top 32) au av)(aw:eE P w K mg base eI (1) au av jF (kq))(ae:Dn K mg "_law_value" ia (top 34) af ag)(ah:eE P w K mg base eI (2 * N+5) af ag ia (l_ K Pt N)):eE P w K mg base eI (2 * N+8) an Y oG (AW K Pt Ps N):=by
 refine am.F.pX bb A1 (λvs H Q E h=>?_) (λA outer s H vs Q E hr h=>?_)
 . obtain⟨a,b,ns,n,pk,pb,xs,key,by_,fs,pl,ps,room,rfl,_⟩:=h;rfl
 obtain⟨a,b,ns,n,pk,pb,xs,key,by_,fs,pl,ps,room,rfl,g,hT,hS,be,a5,bH,bI,hW,a6,bw,ce,bJ,bK,aA,bL,hn,q⟩:=h;have nd:=A1.nd;have hu:=zf hr
 refine⟨_,(eF (eX 5 nd (fY c_))
  (eF (iS PassesOwn.never rfl (rB (pv 3)) (fX (i:=6) nd rfl gJ) (eF (eX 7 nd (eV ar hr ao (a_ (pv 0) (a_ (pv 1) c_))))
  (eL (eY (eW mH (eJ fv (pv 7) b_) b_ (eT _)) (eF (eX 8 nd (eV ah hr ae (a_ (pv 0) (a_ (pv 1) (a_ (f7 (a_ fm (a_ (eS (pv 2) b_) c_))) (a_ (pv 4) c_))))))
  (eF (eY (PW.pt (mD (eW jj (eS (pv 2) b_) fm (eT _)) (mD (eW mH (fA gZ (by rfl) T.gK PySem.boot_len (a_ (pv 5) c_)) b_ (eT _)) (nQ (eW fE (eJ fv (eJ gm (pv 7) b_) b_) b_ (eT _)))))) (eL (mP hu (pv 8) (eS (pv 2) b_) (iU hu (gO (pv 5) (Dw DA b_)) (eS (pv 2) b_) (λ_ _=>rfl)) rfl)) eZ)
  (eF (mP hu (pv 8) (eS (pv 2) b_) (pv 6) rfl)
  (eL (jM (lM PySem.F.plainAttrs_list PySem.F.slot_list_append PySem.F.type_list_append mL (pv 5) (a_ (pv 8) c_))))))) eZ))))
  (eL (eO (pS (x:="_law_row") (N':=["","","_law_kind_here","","","","","",""]) rfl T.oE boot_sorted hr rfl rfl bF bG (ki.of (N:=XN) (sc:=eP (top 38)) rfl rfl rfl rfl rfl (by decide +kernel)) rfl (λ_ _ _ _ _=>rfl) (pv 5) (λ_ _ _ _ _=>(mK aw (fy.deeper (k:=1) (fy.in1 (k:=2) (fy.in1 (k:=3) (hr.mono (by omega)))) _) rfl J.m J.F.kp J.b .nil iV (a_ (pv 3) (a_ (pv 0) c_))))))))),?_⟩
 ac_rfl
 have bf:=λi=>tU (ns:=ns) (n:=n) hW aA bJ i;have cf:=hW;unfold Kd.W at hW;obtain⟨bM,bN,bg,a2,bh⟩:=hW;have hb:=g.at_;obtain⟨cg,hP⟩:=hT.tab;refine⟨ni,λpr aY=>?_⟩;have s0:Same H (upd H pr (.lst [])):=Same.new aY;have a7:b≠pr:=eM hb aY;have jw:Pt≠pr:=eM hP aY;have bi:∃o,H b=some o:=⟨_,hb⟩;refine⟨_,rfl,pl,rfl,⟨_,eG.of (s0 _ _ a6)⟩,Dt (xs:=ps.map kV) (λi σ H'=>∃x y z vs fl,σ=[some (.ref a),some (.ref b),some (.ref pk),some (.ref pl),some (.int room),some (.ref pr),x,y,z]/\ft b Pt H H'/\H' b=some (.lst [.int (gP ns key by_ fs room (ps.take i) n).2])/\eQ Pt g_ hU H'/\H' pr=some (.lst vs)/\fc H' vs (gP ns key by_ fs room (ps.take i) n).1 fl/\(∀c∈fl.flatten,H c=none/\c≠pr)/\vs.length<=i) ?_ ?_ ?_ ?_⟩
 . rw[Q3a];exact⟨_,_,_,[],[],rfl,Kp.of s0,s0 _ _ hb,hT.same s0,eK,.nil,λc hc=>absurd hc (by simp),Q00 _⟩
 . intro i σ H' _ zq;obtain⟨x,y,z,vs,fl,rfl,kp,_⟩:=zq;exact eG.of (kp pl _ (λz=>z.elim bw (gz a6 hP (by intro z;cases z))) a6)
 . intro i v σ H' hv zq;obtain⟨x,y,z,vs,fl,rfl,kp,ai,aF,aK,ac,az,bj⟩:=zq;obtain⟨p,hp,rfl⟩:=Option.map_eq_some_iff.mp (List.getElem?_map.symm.trans hv);have hi:i<ps.length:=(List.getElem?_eq_some_iff.mp hp).1;have so:=bf i;have add:=Gq (ns:=ns) (key:=key) (by_:=by_) (fs:=fs) (room:=room) (n:=n) hp;have bO:(ps.take i).length=i:=by rw[Q0i];omega
   have e1:((i+1:Nat):Int) * ((fs.cB:Int)+1)=(i:Int) * ((fs.cB:Int)+1)+(fs.cB+1):=by
    rw[Q1v,Q1w];simp
   have cb:((i+1:Nat):Int) * ((fs.cB:Int)+1)<=(ps.length:Int) * ((fs.cB:Int)+1):=Q1k (by omega) (by omega);have bP:=so.lo;have bQ:=so.hi;rw[bO] at bQ;have ci:=g.pos;have bx:=so.ok;generalize gP ns key by_ fs room (ps.take i) n=I at *;generalize gP ns key by_ fs room (ps.take (i+1)) n=cj at *;have bm:Tu H H':=kp.tu hb hT;refine⟨_,rfl,_,rfl,a,b,ns,I.2,rfl,ft.g0 kp g hT ai bP,by omega,λH1 s1 h1=>?_⟩;have aG:ft b Pt H H1:=kp.trans (SB.fU s1);have aZ:eQ Pt g_ hU H1:=aF.sb ai s1;have aL:H1 pr=some (.lst vs):=s1 pr _ (Ne.symm a7) aK;have ak:fc H1 vs I.1 fl:=fc.fU (SB.fU s1) ai aF bi ac λc hc=>(az c hc).1;unfold nr at add;refine⟨_,rfl,_,_,rfl,rfl,(by show(0:Int)<_;decide),_,_,rfl,rfl,_,rfl,fJ (λc=>?_) (λc=>?_)⟩
   . have c:0<nx ns (I.2+1) % 3:=of_decide_eq_true c;rw[if_pos c] at add;have a8:Tu H H1:=aG.tu hb hT;refine⟨_,rfl,_,rfl,_,rfl,pk,_,_,_,rfl,rfl,eB.of (a8 _ _ a5),rfl,gF,λt ht=>?_⟩;have st:Same H1 (upd H1 t (.tup [.str "record",.ref pb])):=Same.new ht
     have bR:KA (upd H1 t (.tup [.str "record",.ref pb])) (.ref t) (.fL fs):=by
      unfold KA;exact⟨t,pb,xs,rfl,eK,st _ _ (a8 _ _ bH),FA.mono (a8.trans (Tu.of st)) fs bI⟩
     refine⟨_,rfl,a,b,ns,I.2+1,.ref t,.fL fs,room,rfl,ft.g0 (aG.trans (Kp.of st)) g hT (st _ _ h1) (by omega),aZ.same st,bR,(by unfold Kd.W;exact⟨bM,bN,bg⟩),aA,bL,(by simp only[kc,Kd.cB];omega),?_⟩;intro v H2 fp fU bn bS aM bz bA;have ev:val ns (.fL fs) room (I.2+1)=(.dct (e_ ns fs room (I.2+1)).1,(e_ ns fs room (I.2+1)).2):=by simp only[val]
     rw[ev] at bn aM;have ax:=l5 ns fs bg room (I.2+1) aA;generalize e_ ns fs room (I.2+1)=a9 at *;have aP:ft b Pt H1 H2:=(Kp.of st).trans fU;have aW:ft b Pt H H2:=aG.trans aP;have bT:Tu H H2:=aW.tu hb hT;have ay:H2 pr=some (.lst vs):=aP pr _ (λz=>z.elim (Ne.symm a7) (Ne.symm jw)) aL;have U:fc H2 vs I.1 fl:=fc.fU aP h1 aZ bi ak λc hc=>(az c hc).1;unfold Own at aM;obtain⟨rr,kvs,fq,rfl,aH,rfl,a1⟩:=aM;have aE:=bT _ _ a5
     have ab:∀c∈rr::fq,H c=none/\c≠pr/\H1 c=none:=λc hc=>by
      have z:=st.free (bA c hc);have nb:c≠b:=λe=>by rw[e,h1] at z;cases z
      obtain⟨cm,bU⟩:=aZ.tab;have nP:c≠Pt:=λe=>by rw[e,bU] at z;cases z
      exact⟨aG.oB (λe=>e.elim nb nP) z,(λe=>by rw[e,aL] at z;cases z),z⟩
     have bB:b≠rr:=λe=>by have:=(ab rr Q0b).1;rw[<-e,hb] at this;cases this
     have cc:Pt≠rr:=λe=>by have:=(ab rr Q0b).1;rw[<-e,hP] at this;cases this
     have aB:pr≠rr:=λe=>(ab rr Q0b).2.1 e.symm
     have bV:∀c∈fl.flatten,c≠rr:=λc hc e=>by
      obtain⟨o,eo⟩:=(fc.mu ak c hc).ex;have:=(ab rr Q0b).2.2;rw[<-e,eo] at this;cases this
     have bW:rr ∉ fq:=(List.nodup_cons.mp bz).1
     have al:∀{x:Str},fs.pl x->∀{m:Ds},m.names=fs.names->x∈m.names:=λhx m hm=>by
      obtain⟨k,e,_⟩:=hx;rw[hm];exact Fs.mh e
     have bo:∀L:List (Key × V),L.length=kvs.length->L.length<sizeLine:=λL e=>by
      rw[e,eN.len a1,ax.names];exact gN (by omega)
     dsimp only[gX]
     refine qL (A:=j6 _ _ _) (λbp H3=>∃L aJ,∃m1:Ds,bp=[some (.ref a),some (.ref b),some (.ref pk),some (.ref pl),some (.int room),some (.ref pr),some (kV p),some (.int (nx ns (I.2+1))),some (.ref rr)]/\H3 rr=some (.dK L)/\(∀c,c≠rr->H3 c=H2 c)/\eN H2 L m1 aJ/\aJ.Sublist fq/\m1.names=fs.names/\L.length=kvs.length/\
      m1=(if by_≠""/\I.1≠[]/\nx ns (I.2+1) / 3 % 2=0 then a9.1.upd by_ (kD (keyOf (I.1.getLastD .nil) by_)) else a9.1)) ?_ (λhB=>?_)
     . intro bp H3 zq;obtain⟨L,aJ,m1,rfl,h3,aC,aQ,aj,bC,bc,bX⟩:=zq;have bY:Tu H2 H3:=λc xs e=>by rw[aC c (gz e aH (by intro z;cases z))];exact e
       have bZ:=al a2 bC;refine⟨_,rfl,_,rfl,_,rfl,pk,_,_,_,rfl,rfl,eB.of (bY _ _ aE),rfl,rr,_,rfl,jB.k (k:=Sum.inr key) h3 (bo _ bc),?_⟩;have bD:H3 pr=some (.lst vs):=by rw[aC pr aB];exact ay
       have a3:upd H3 rr (.dK (putK L (Sum.inr key) (kV p))) pr=some (.lst vs):=by rw[d_ aB];exact bD
       refine⟨_,rfl,.inl ⟨rfl,_,eG.of a3⟩,_,rfl,pr,_,_,rfl,rfl,a3,gN (by omega),?_⟩;obtain⟨ba,bE,aX⟩:=aQ.qM (v:=kV p) (e:=kD p) AZ bZ;have aa:∀c,c≠rr->c≠pr->upd (upd H3 rr (.dK (putK L (Sum.inr key) (kV p)))) pr (.lst (vs++[.ref rr])) c=H2 c:=λc n1 n2=>by rw[d_ n2,d_ n1,aC c n1]
       have bq:Tu H2 (upd (upd H3 rr (.dK (putK L (Sum.inr key) (kV p)))) pr (.lst (vs++[.ref rr]))):=λc xs e=>by
        rw[aa c (gz e aH (by intro z;cases z)) (gz e ay (by intro z;cases z))];exact e
       rw[add];refine⟨_,_,_,vs++[.ref rr],fl++[rr::ba],rfl,λc o nc e=>?_,by rw[aa b bB a7];exact bn,bS.off (λc o h1 h2 e=>?_),eK,?_,?_,by rw[Q0c];show vs.length+1<=i+1;omega⟩
       . rw[aa c (λz=>by have:=(ab rr Q0b).1;rw[<-z,e] at this;cases this) (eM e aY)];exact aW c o nc e
       . rw[aa c (λz=>by rw[z,aH] at e;cases e;exact h2 _ rfl) (λz=>by rw[z,ay] at e;cases e;exact h1 _ rfl)];exact e
       . refine A3.snoc ?_ (fc.keep bq U λc hc o e=>by rw[aa c (bV c hc) (az c hc).2];exact e);unfold Own;refine⟨rr,_,ba,rfl,by rw[d_ (Ne.symm aB)];exact eK,rfl,?_⟩;rw[<-bX]
         exact bE.keep bq _ λc hc o e=>by
          have br:=aj.subset (aX.subset hc);rw[aa c (λz=>bW (by rw[<-z];exact br)) (ab c (Q0e _ br)).2.1];exact e
       . intro c hc;rw[Q2f] at hc;rcases List.mem_append.mp hc with z|z
         . exact az c z
         . have z:c∈rr::ba:=by simpa using z
           have:c∈rr::fq:=by
            rcases List.mem_cons.mp z with e|e
            . rw[e];exact Q0b
            . exact Q0e _ (aj.subset (aX.subset e))
           exact⟨(ab c this).1,(ab c this).2.1⟩
     . have aT:∀z:¬(by_≠""/\I.1≠[]/\nx ns (I.2+1) / 3 % 2=0),_:=λz=>hB _ _ ⟨kvs,fq,a9.1,rfl,aH,λ_ _=>rfl,a1,List.Sublist.refl _,ax.names,rfl,(if_neg z).symm⟩;refine⟨_,rfl,pk,_,_,_,rfl,rfl,eB.of aE,rfl,rfl,_,rfl,fJ (λc1=>?_) (λc1=>?_)⟩
       . refine⟨_,rfl,pr,_,rfl,.inl (eG.of ay),_,_,rfl,rfl,_,rfl,fJ (λc2=>?_) (λc2=>?_)⟩
         . refine⟨_,rfl,_,_,rfl,rfl,⟨by decide,by decide⟩,_,_,rfl,rfl,(by show(0:Int)<2;decide),rfl,_,rfl,fJ (λc3=>?_) (λc3=>aT λz=>c3 (decide_eq_true (show V.int (nx ns (I.2+1) / 3 % 2)=V.int 0 by rw[z.2.2])))⟩;have d1:by_≠"":=λz=>by rw[z] at c1;exact absurd c1 (by decide)
           have d3:nx ns (I.2+1) / 3 % 2=0:=by
            have this:V.int (nx ns (I.2+1) / 3 % 2)=V.int 0:=of_decide_eq_true c3;injection this
           have a4:0<vs.length:=by have:=of_decide_eq_true c2;omega
           obtain⟨aU,cd⟩:=A3.len U;have aD:=A3.at (a0:=V.non) (b0:=Ds.nil) (c0:=[]) U (vs.length - 1) (by omega);have hg:vs[vs.length - 1]? =some (vs.getD (vs.length - 1) .non):=by rw[Q0d,Q02 (by omega)];rfl
           have d2:I.1≠[]:=λz=>by rw[z] at aU;rw[aU] at a4;exact absurd a4 (by decide)
           have b1:I.1.getD (vs.length - 1) .nil=I.1.getLastD .nil:=by
            rw[aU,Q0d,List.getLastD_eq_getLast?,List.getLast?_eq_getElem?]
           have b2:I.1.getLastD .nil∈I.1:=AV d2;rw[b1] at aD;generalize vs.getD (vs.length - 1) .non=lv at *;unfold Own at aD;obtain⟨rl,cn,co,rfl,b3,_,b4⟩:=aD;have aV:fs.pl by_:=bh.resolve_left d1;have gl:gf H2 rl (.str by_) (some (kV (keyOf (I.1.getLastD .nil) by_))):=by have:=gf.k (k:=Sum.inr by_) b3;rw[b4.key (bx _ b2).1 aV] at this;exact this
           obtain⟨aJ,aQ,aj⟩:=a1.qM (v:=kV (keyOf (I.1.getLastD .nil) by_)) (e:=kD (keyOf (I.1.getLastD .nil) by_)) AZ (al aV ax.names);refine⟨_,rfl,_,rfl,pr,_,_,_,rfl,rfl,eG.of ay,Gu hg,_,rfl,pk,_,_,_,rfl,rfl,eB.of aE,rfl,rl,_,rfl,gl,_,rfl,_,rfl,pk,_,_,_,rfl,rfl,eB.of aE,rfl,rr,_,rfl,jB.k (k:=Sum.inr by_) aH (bo _ rfl),?_⟩;exact hB _ _ ⟨_,aJ,_,rfl,eK,λc hc=>d_ hc,aQ,aj,by rw[Ds.qK];exact ax.names,Gv a1 (al aV ax.names),(if_pos ⟨d1,d2,d3⟩).symm⟩
         . refine aT λz=>c2 (decide_eq_true ?_);have:=(A3.len U).1;have hp:0<I.1.length:=List.length_pos_iff.mpr z.2.1;omega
       . refine aT λz=>c1 ?_;rw[decide_eq_false (λe=>z.1 (by injection e))];rfl
   . have c:¬0<nx ns (I.2+1) % 3:=λz=>c (decide_eq_true z);rw[if_neg c] at add;rw[add];exact⟨_,_,_,vs,fl,rfl,aG,h1,aZ,aL,ak,az,by omega⟩
 . intro σ H' zq;obtain⟨x,y,z,vs,fl,rfl,kp,ai,aF,aK,ac,az,bj⟩:=zq;rw[Q03] at ai ac bj;have so:=bf ps.length;rw[Q12] at ai ac so;have bm:Tu H H':=kp.tu hb hT;have bt:=hS.kp kp hb hT be;refine⟨_,rfl,tV (eG.of aK) ac (by omega) bt rfl (bm _ _ a5) (λm hm=>(so.ok m hm).1) a2 bh (so.keys.nodup bK) λD b5 b6 H2 fU b7 hD b8 U bd=>?_⟩;obtain⟨cp,bu⟩:=bt.tab;have b9:b≠Ps:=gz ai bu (by intro z;cases z);refine q D b5 b6 H2 (λc o nc e=>fU c o (λz=>nc (.inr (.inr z))) (kp c o (λz=>nc (z.elim .inl λz=>.inr (.inl z))) e)) (fU b _ b9 ai) ?_ b7 b8 U (λc hc=>?_)
   . obtain⟨ca,bv⟩:=aF.tab;exact aF.nv fU bu (Ne.symm be)
   . rcases List.mem_cons.mp hc with z|z
     . rw[z];obtain⟨ca,bv⟩:=aF.tab;exact kp.oB (λe=>e.elim (λe=>by rw[e,ai] at hD;cases hD) (λe=>by rw[e,bv] at hD;cases hD)) hD
     . exact(az c ((qc bd).mem_iff.mp z)).1
end Pb
namespace L2
open Spec PyProof.Rows
section
variable {X:Cx}{pins:List (Addr × Obj)}{σ:St}{H:Hp}{s:Shared}
end
section
variable {prog:Program}{w:World}{A:Around}{E:Value->Shared->Prop}{s:Shared}
end
section
variable {X:Cx}
end
end L2
namespace Pb
open L2
end Pb
namespace L2
open Spec PyProof.Rows
section
variable {X:Cx}
theorem Gx:iT X (.type "dict") (λxs H Q=>∃a kvs,xs=[.ref a]/\H a=some (.dK kvs)/\∀l,H l=none->Q (.ref l) (upd H l (.dK kvs))):=by
 intro pins s σ H xs us Q I r h;obtain⟨a,kvs,rfl,L,q⟩:=h;obtain⟨u,rfl,U⟩:=vals1 r
 cases U;obtain⟨z,Y,vs,J,dd⟩:=sd I.hok L;refine kt_call_dict Y dd (by rw[<-J.length];exact z) λh' hd hs=>?_;have hb:(s.heap.objs.size == sysModules)=false:=beq_eq_false_iff_ne.mpr (Q0q I.big);refine⟨.ref s.heap.objs.size,_,I.laid (a:=s.heap.objs.size) (o:=.dK kvs) (t':=s.toks) (λb o e=>?_) (Q00 _) ⟨z,hb,vs,J,hd⟩,rfl,q _ (I.hok.fresh (Q00 _))⟩;exact hs.extBut b o (Q07 (Q01 e)) (Q08 _ e)
end
section
variable {X:Cx}
def Gy:V->List V->Hp->VK->Prop:=λx vs H Q=>∃a kvs k v,x=.ref a/\vs=[kV k]/\H a=some (.dK kvs)/\gH kvs k=some v/\Q v (upd H a (.dK (ke kvs k)))
theorem Gz:rW X "dict.pop" Gy:=by
 intro pins s σ H x vs v us Q I z J h;obtain⟨a,kvs,k,w,rfl,rfl,L,U,q⟩:=h;obtain⟨u,rfl,Y⟩:=vals1 J
 cases z;exact Em I L Y U (.inl rfl) λw' s3 I3 r=>⟨w,_,I3,r,q⟩
end
end L2
namespace Pb
open L2
def A2 (b:Addr) (H:Hp) (v:V) (d:D):Prop:=∃z,Own H v d z/\b ∉ z
def iM (b:Addr) (H:Hp) (kvs:List (Key × V)) (m:Ds):Prop:=∃z,eN H kvs m z/\b ∉ z
section
variable {b:Addr}{H H':Hp}{n:Int}
theorem iM.cons {x:Str}{v:V}{d:D}{vs:List (Key × V)}{r:Ds}(h:A2 b H v d)(t:iM b H vs r):iM b H ((Sum.inr x,v)::vs) (.cons x d r):=by
 obtain⟨f1,h1,I⟩:=h;obtain⟨f2,h2,J⟩:=t;refine⟨f1++f2,?_,by rw[List.mem_append];exact λz=>z.elim I J⟩;unfold eN;exact⟨v,vs,f1,f2,rfl,rfl,h1,h2⟩
theorem iM.nil:iM b H [] .nil:=⟨[],by unfold eN;exact⟨rfl,rfl⟩,by simp⟩
theorem iM.GA {kvs:List (Key × V)}(h:iM b H kvs .nil):kvs=[]:=by
 obtain⟨f,h,_⟩:=h;unfold eN at h;exact h.1
theorem iM.GB {kvs:List (Key × V)}{x:Str}{d:D}{r:Ds}(h:iM b H kvs (.cons x d r)):∃v q,kvs=(Sum.inr x,v)::q/\A2 b H v d/\iM b H q r:=by
 obtain⟨f,h,I⟩:=h;unfold eN at h;obtain⟨v,q,f1,f2,e,rfl,h1,h2⟩:=h;exact⟨v,q,e,⟨f1,h1,λz=>I (Q0r _ z)⟩,f2,h2,λz=>I (Q05 _ z)⟩
theorem iM.del {x:Str}:∀{m:Ds}{kvs:List (Key × V)},iM b H kvs m->iM b H (ke kvs (Sum.inr x)) (m.del x)
 | .nil,kvs,h=>by rw[h.GA];exact .nil
 | .cons y d r,kvs,h=>by
   obtain⟨w,q,rfl,h1,h2⟩:=h.GB;have z:=iM.del (x:=x) h2;unfold ke at z ⊢;unfold Ds.del;by_cases c:y=x
   . rw[if_pos c,List.filter_cons_of_neg (by simp[c])];exact z
   . rw[if_neg c,List.filter_cons_of_pos (by simp[c])];exact .cons h1 z
end
end Pb
namespace L2
open Spec PyProof.Rows
section
variable {X:Cx}
def GC (K:W.Frag):R2:=λx y H Q=>j9 x y H Q\/(∃s a xs,x=.str s/\y=.ref a/\eG K H a xs/\Q (.bl false) H)
theorem GD (Y:X.A.units+1<cLine):gA X (compareOp .Eq) (GC X.K):=by
 intro pins s σ H x y v u Q I z J h;rcases h with h|⟨t,a,xs,rfl,rfl,L,q⟩
 . exact fE pins s σ H x y v u Q I z J h
 . obtain⟨tk,rfl⟩:=z
   cases J;obtain⟨U,r1,p1,_⟩:=I.list L;exact W.cmp_ofEq (SeqAt.RcAt.str_list t tk p1.isList (by omega) _ _ _ _ ⟨.bl false,H,I,rfl,q⟩)
end
theorem eE.or {P:Program}{w:World}{K:W.Frag}{mg:Str->Option Value}{base:Heap}{CX:iE}{k:Nat}{f:Addr}{fd:FuncData}{ps:List Str}{sp z:Sp}(F:eE P w K mg base CX k f fd ps sp)(G:eE P w K mg base CX k f fd ps z):
 eE P w K mg base CX k f fd ps (λvs H Q E=>sp vs H Q E\/z vs H Q E):=
 ⟨λvs H Q E q=>q.elim (F.len vs H Q E) (G.len vs H Q E),λA outer s H args us vs Q E I J L U Y=>Y.elim (F.run A outer s H args us vs Q E I J L U) (G.run A outer s H args us vs Q E I J L U)⟩
end L2
namespace Pb
open L2
theorem Fs.get_mem:∀{fs:Fs}{x:Str}{k:Kd},fs.get x=some k->x∈fs.names
 | .nil,_,_,h=>by cases h
 | .cons y q r,x,k,h=>by
   have h:(if x=y then some q else r.get x)=some k:=h;by_cases e:x=y
   . rw[e];exact Q0b
   . rw[if_neg e] at h;exact Q0e _ (Fs.get_mem h)
theorem A4 {K:PySem.W.Frag}{a:Addr}{xs:List V}{g:TG}{tb:TS}{D:Ends}{σ:St}{H:Hp}(Pv:Nat->St->Hp->Prop)(U:Pv 0 σ H)(hl:∀i σ H,i<=xs.length->Pv i σ H->eG K H a xs)
 (Y:∀(i:Nat) y σ H p,xs[i]? =some y->Pv i σ H->H p=none->g (.ref p) σ (upd H p (.tup [.int i,y])) λz H2=>tb { D with nx:=Pv (i+1),ct:=Pv (i+1),bk:=D.nx } z H2) (hd:∀σ H,Pv xs.length σ H->D.nx σ H):
 ∃W:Nat->Nat->St->Hp->Prop,(∃m,W 0 m σ H)/\∀i m σ H,W i m σ H->
  ((Ite K a).stop i H/\D.nx σ H)\/((Ite K a).go i H/\∃N:St->Hp->Prop,(∀I H',N I H'->∃L,L<m/\W (i+1) L I H')/\∀x H',(Ite K a).ji i H x H'->g x σ H' λz H2=>tb { D with nx:=N,ct:=N,bk:=D.nx } z H2):=by
 refine⟨λi m σ H=>m=xs.length - i/\i<=xs.length/\Pv i σ H,⟨xs.length,by simp,Q0a _,U⟩,?_⟩;rintro i m σ H ⟨rfl,hi,p⟩;by_cases J:i<xs.length
 . refine .inr ⟨⟨xs,xs[i],hl i σ H hi p,by simp[J]⟩,Pv (i+1),λI H' p'=>⟨xs.length - (i+1),by omega,rfl,J,p'⟩,λx H' y=>?_⟩;obtain⟨q,y,hq,rfl,hy,rfl⟩:=y;exact Y i y σ H q (hy xs (hl i σ H hi p)) p hq
 . have e:i=xs.length:=by omega
   subst e;exact .inl ⟨⟨xs,hl _ σ H (Q00 _) p,Q00 _⟩,hd σ H p⟩
theorem A5 {k:Key}:∀{kvs:List (Key × V)},k∈kvs.map (·.1)->(gH kvs k).isSome=true
 |[],h=>by simp at h
 |p::r,h=>by
  by_cases e:p.1=k
  . rw[n0 e];rfl
  . rw[n6 e];rcases List.mem_cons.mp (show k∈p.1::r.map (·.1) from h) with z|z
    . exact absurd z.symm e
    . exact A5 z
def A6 (K:W.Frag) (H:Hp) (v:V):Option Str->Prop
 |some x=>v=.str x
 |none=>(∃z,v=.int z)\/∃a xs,v=.ref a/\eG K H a xs
def qN (H:Hp) (u:V):Option Kd->Prop
 |some k=>KA H u k
 |none=>u=.non
def tW (K:W.Frag):Sp:=λvs H Q _=>∃b v xs fs o,vs=[.ref b,v]/\H b=some (.tup xs)/\FA H xs fs/\fs.names.Nodup/\A6 K H v o/\∀u,qN H u (o.bind fs.get)->Q u H
noncomputable def D.mq:D->Bool
 | .tup xs=>decide (xs.len=2)
 |_=>false
def tX:Sp:=λvs H Q _=>∃v d z,vs=[v]/\Own H v d z/\Q (.bl d.mq) H
noncomputable def hasB (fs:Fs) (m:Ds):Bool:=decide (m.names.length=fs.names.length) && fs.names.all λx=>decide (x∈m.names)
def A7:Sp:=λvs H Q _=>∃b a xs kvs fs m z,vs=[.ref b,.ref a]/\H b=some (.tup xs)/\FA H xs fs/\fs.names.length<=12/\H a=some (.dK kvs)/\eN H kvs m z/\∀H',Same H H'->Q (.bl (hasB fs m)) H'
def Rs (n:Nat) (k:Kd) (d:D):Option (List Key)->Prop
 |none=>fg k d/\d.dep<=n/\d.Sm
 |some p=>gu n k d p/\p.length<=1000
def kx (H:Hp) (u:V):Option (List Key)->Prop
 |none=>u=.non
 |some p=>∃l,u=.ref l/\H l=some (.lst (p.map kV))
def mr (n:Nat):Sp:=λvs H Q _=>∃z v k d I r,vs=[z,v]/\KA H z k/\k.W/\Own H v d I/\Rs n k d r/\∀u H',Same H H'->kx H' u r->Q u H'
def tY (n:Nat):Sp:=λvs H Q _=>∃b v xs fs d z r,vs=[.ref b,v]/\H b=some (.tup xs)/\FA H xs fs/\fs.names.Nodup/\fs.names.length<=12/\fs.W/\Own H v d z/\Rs (n+1) (.fL fs) d r/\∀u H',Same H H'->kx H' u r->Q u H'
def A8 (n:Nat):Sp:=λvs H Q _=>∃pk pb v xs key by_ fs d z r,vs=[.ref pk,v]/\H pk=some (.tup [.str "rows",.str key,.str by_,.ref pb])/\H pb=some (.tup xs)/\FA H xs fs/\(Kd.rows key by_ fs).W/\Own H v d z/\Rs (n+1) (.rows key by_ fs) d r/\∀u H',Same H H'->kx H' u r->Q u H'
def oU (n:Nat):Sp:=λvs H Q _=>∃a w v k d z r,vs=[.ref a,v]/\H a=some (.tup [.str "tree",w])/\KA H w k/\k.W/\Own H v d z/\Rs n (.tree k) d r/\∀u H',Same H H'->kx H' u r->Q u H'
def A9 (n:Nat):Sp:=λvs H Q _=>∃b v xs fs d z r,vs=[.ref b,v]/\H b=some (.tup xs)/\FA H xs fs/\fs.names.Nodup/\fs.W/\Own H v d z/\Rs (n+1) (.gy fs) d r/\∀u H',Same H H'->kx H' u r->Q u H'
theorem KA.GF {H:Hp}:∀{u:V}{k:Kd},KA H u k->u≠ .non
 |_,.num,h=>by unfold KA at h;obtain⟨a,rfl,_⟩:=h;intro z;cases z
 |_,.fC,h=>by unfold KA at h;obtain⟨a,rfl,_⟩:=h;intro z;cases z
 |_,.fL _,h=>by unfold KA at h;obtain⟨a,b,vs,rfl,_⟩:=h;intro z;cases z
 |_,.rows _ _ _,h=>by unfold KA at h;obtain⟨a,b,vs,rfl,_⟩:=h;intro z;cases z
 |_,.tree _,h=>by unfold KA at h;obtain⟨a,b,rfl,_⟩:=h;intro z;cases z
 |_,.gy _,h=>by unfold KA at h;obtain⟨a,b,vs,rfl,_⟩:=h;intro z;cases z
variable {P:Program}{w:World}{K:W.Frag}{mg:Str->Option Value}{base:Heap}
theorem GH:fo ["fields","name","pair"] ["fields","name"] (eP (top 6)):=fM
theorem A_ (T:Tb mg)(I:Dn K mg "kind_at" l7 (top 6) J L):eE P w K mg base eI (1) J L l7 (tW K):=by
 refine I.F.ok GH λvs H Q E h=>?_;obtain⟨b,v,xs,fs,o,rfl,hb,aa,ac,hv,q⟩:=h;refine⟨rfl,λag A outer s nd hr hu=>?_⟩
 refine⟨_,(eF (iS PassesOwn.never rfl (kJ (pv 0)) (fX (i:=2) nd rfl gJ) (eL (eY (eW (GD hu) (eS (pv 2) b_) (pv 1) (eT _)) (eL (eO (eS (pv 2) b_))) eZ)))
  (eL (eO gW))),?_⟩
 ac_rfl
 refine⟨_,rfl,b,rfl,⟨_,eB.of hb⟩,pz (xs:=xs) (λi σ H'=>H'=H/\(∃z,σ=[some (.ref b),some v,z])/\∀j x,o=some x->j<i->fs.names[j]? ≠some x) ⟨rfl,⟨_,rfl⟩,λj x _ Y=>absurd Y (by omega)⟩ ?_ ?_ ?_⟩
 . rintro i σ H' _ ⟨rfl,_⟩;exact eB.of hb
 . rintro i w σ H' hw ⟨rfl,⟨z,rfl⟩,U⟩;obtain⟨c,u,nm,k',rfl,ab,hc,hk⟩:=FA.get fs aa hw;have ae:fs.names[i]? =some nm:=by rw[Fs.jD,ab];rfl
   cases o with
   |some x=>
    have hv:v=.str x:=hv;subst hv;refine⟨_,rfl,c,_,_,_,rfl,rfl,eB.of hc,rfl,_,rfl,.inl ⟨rfl,_,rfl,fJ (λcc=>?_) (λcc=>?_)⟩⟩
    . have e:nm=x:=by
       have:=of_decide_eq_true cc;injection this
      subst e;refine⟨_,rfl,c,_,_,_,rfl,rfl,eB.of hc,rfl,q u ?_⟩;show qN H' u (fs.get nm);rw[Fs.jV ac ab];exact hk
    . refine⟨rfl,⟨_,rfl⟩,λj y hy Y=>?_⟩
      cases hy;by_cases e:j<i
      . exact U j x rfl e
      . have:j=i:=by omega
        subst this;rw[ae];intro z
        cases z;exact cc (decide_eq_true rfl)
   |none=>
    have done:(λ(σ:St) (af:Hp)=>af=H'/\(∃z,σ=[some (.ref b),some v,z])/\∀j x,(none:Option Str)=some x->j<i+1->fs.names[j]? ≠some x) [some (.ref b),some v,some (.ref c)] H':=⟨rfl,⟨_,rfl⟩,λ_ _ hx=>by cases hx⟩;rcases hv with⟨z,rfl⟩|⟨a,ys,rfl,ha⟩
    . exact⟨_,rfl,c,_,_,_,rfl,rfl,eB.of hc,rfl,_,rfl,.inl ⟨rfl,_,rfl,fe done⟩⟩
    . exact⟨_,rfl,c,_,_,_,rfl,rfl,eB.of hc,rfl,_,rfl,.inr ⟨nm,a,ys,rfl,rfl,ha,_,rfl,fe done⟩⟩
 . rintro σ H' ⟨rfl,⟨z,rfl⟩,U⟩;refine q .non ?_
   cases o with
   |none=>rfl
   |some x=>
    show qN H' .non (fs.get x)
    cases e:fs.get x with
    |none=>rfl
    |some k=>
     obtain⟨j,Y,e'⟩:=Q1b (Fs.get_mem e);exact absurd (by rw[Q02 Y,e']) (U j x rfl (by rw[FA.len fs aa];exact Y))
theorem GI:fo ["value"] ["value"] (eP (top 12)):=fM
theorem GJ (T:Tb mg)(I:Dn K mg "is_pair" l8 (top 12) J L):eE P w K mg base eI (1) J L l8 (tX):=by
 refine I.F.ok GI λvs H Q E h=>?_;obtain⟨v,d,fp,rfl,U,q⟩:=h;refine⟨rfl,λaa A outer s nd hr hu=>?_⟩;refine⟨_,(eL (eO (kH (fA iq (by rfl) T.iw boot_isinstance (a_ (pv 0) (a_ (ik (v:=.ty "tuple") rfl T.qg boot_tuple rfl) c_))) (j5 (jk fE (fA gZ (by rfl) T.gK PySem.boot_len (a_ (pv 0) c_)) b_ (eT _)))))),?_⟩
 ac_rfl
 cases d with
 |int z=>
  unfold Own at U;obtain⟨rfl,_⟩:=U;exact⟨_,rfl,_,_,_,false,rfl,.int z,rfl,false,rfl,fe q⟩
 |str z=>
  unfold Own at U;obtain⟨rfl,_⟩:=U;exact⟨_,rfl,_,_,_,false,rfl,.str z,rfl,false,rfl,fe q⟩
 |non=>
  unfold Own at U;obtain⟨rfl,_⟩:=U;exact⟨_,rfl,_,_,_,false,rfl,.non,rfl,false,rfl,fe q⟩
 |boo z=>
  unfold Own at U;obtain⟨rfl,_⟩:=U;exact⟨_,rfl,_,_,_,false,rfl,.bl z,rfl,false,rfl,fe q⟩
 |lst xs=>
  unfold Own at U;obtain⟨a,vs,fq,rfl,Y,_,hl⟩:=U;exact⟨_,rfl,_,_,_,false,rfl,.lst Y,rfl,false,rfl,fe q⟩
 |dct m=>
  unfold Own at U;obtain⟨a,vs,fq,rfl,Y,_,hl⟩:=U;exact⟨_,rfl,_,_,_,false,rfl,.dK Y,rfl,false,rfl,fe q⟩
 |tup xs=>
  unfold Own at U;obtain⟨a,vs,rfl,Y,hl⟩:=U;refine⟨_,rfl,_,_,_,true,rfl,.tup Y,rfl,true,rfl,fF ?_⟩;refine⟨_,rfl,a,_,rfl,.inr (eB.of Y),rfl,?_⟩
  have e:decide (V.int (vs.length:Nat)=V.int 2)=(D.tup xs).mq:=by
   show _=decide (xs.len=2);rw[eR.len xs hl];rw[Bool.eq_iff_iff,decide_eq_true_iff,decide_eq_true_iff];constructor
   . intro z;injection z with z;omega
   . intro z;rw[z];rfl
  rw[e];exact q
theorem GK:fo XQ XQ (eP (top 10)):=fM
theorem GL (T:Tb mg)(I:Dn K mg "has_just" jo (top 10) J L):eE P w K mg base eI (1) J L jo (A7):=by
 refine I.F.ok GK λvs H Q E h=>?_;obtain⟨b,a,xs,kvs,fs,m,fp,rfl,Y,aa,hx,ha,hO,q⟩:=h;refine⟨rfl,λae A outer s nd hr hu=>?_⟩;refine⟨_,(eL (eO (kH (jk fE (fA zg (by rfl) T.gK PySem.boot_len (a_ (pv 1) c_)) (fA gZ (by rfl) T.gK PySem.boot_len (a_ (pv 0) c_)) (eT _)) (j5 (fA (pJ rfl) (by rfl) T.qf boot_all (a_ (kT (g:=(nS K 2 (j7 (gX 0) (j7 (gX 1) nR)))) (tt:=kQ) (te:=_) (own:=["name","inner"]) rfl (jY (N:=XQ) (sc:=eP (top 10))) (kJ (pv 0)) (λ_ _ _ _ _=>(jh rfl (gT (fX (i:=0) (show(["name","inner","fields","record"]:List Str).Nodup by decide +kernel) rfl (Or.inl rfl) (.inr rfl)) (gT (fX (i:=1) (show(["name","inner","fields","record"]:List Str).Nodup by decide +kernel) rfl (Or.inl rfl) (.inr rfl)) jg)))) (λ_ _ _ _ _=>mQ) (λ_ _ _ _ _=>(CV (zb hu (pv 0) (pv 3)) (by with_unfolding_all rfl)))) c_)))))),?_⟩
 ac_rfl
 have e1:kvs.length=m.names.length:=eN.len hO;have e2:xs.length=fs.names.length:=FA.len fs aa;have af:xs.length<=12:=by omega
 refine⟨_,rfl,a,_,rfl,ha,_,rfl,b,_,rfl,.inr (eB.of Y),rfl,_,rfl,?_⟩;by_cases c:m.names.length=fs.names.length
 . rw[decide_eq_true (show V.int (kvs.length:Nat)=V.int (xs.length:Nat) by rw[e1,e2,c])];refine fF ?_;refine⟨_,rfl,b,rfl,⟨_,eB.of Y⟩,λi k ys H'=>H'=H/\k=xs.length - i/\i<=xs.length/\ys=((fs.names.take i).map λx=>decide (x∈m.names)).map V.bl,⟨xs.length,rfl,by simp,Q0a _,rfl⟩,?_⟩;rintro i k ys H' ⟨rfl,rfl,hi,rfl⟩;by_cases U:i<xs.length
   . refine .inr ⟨⟨xs,xs[i],eB.of Y,by simp[U]⟩,by rw[Q03,Q03,Q0i];exact gN (by omega),λx H' y=>?_⟩;obtain⟨rfl,y⟩:=y;have hv:=y xs (eB.of Y);obtain⟨c',u,nm,k,rfl,ab,hc,hk⟩:=FA.get fs aa hv;have ac:fs.names[i]? =some nm:=by rw[Fs.jD,ab];rfl
     refine⟨c',_,rfl,eB.of hc,rfl,_,_,rfl,_,_,rfl,rfl,rfl,yes (fF ?_)⟩;refine⟨_,rfl,_,rfl,a,_,rfl,gf.k (k:=Sum.inr nm) ha,?_⟩;refine⟨xs.length - (i+1),by omega,rfl,rfl,U,?_⟩;rw[Q0t,ac,Q0k,Q0k];congr 1;show [V.bl (gH kvs (Sum.inr nm)).isSome]=[V.bl (decide (nm∈m.names))];congr 2;by_cases z:nm∈m.names
     . rw[decide_eq_true z];obtain⟨j,hj,e⟩:=Q1b z;have hk:=eN.keys m hO;have:(Sum.inr nm:Key)∈kvs.map (·.1):=by rw[hk];exact Q1i z
       exact A5 this
     . rw[decide_eq_false z,eN.Ac hO z];rfl
   . refine .inl ⟨⟨xs,eB.of Y,Q1 U⟩,λp hp=>⟨p,(fs.names.take i).map λx=>decide (x∈m.names),rfl,eG.of eK,?_⟩⟩;have e:i=fs.names.length:=by omega
     have:((fs.names.take i).map λx=>decide (x∈m.names)).all id=hasB fs m:=by
      unfold hasB;rw[decide_eq_true c,Bool.true_and,e,Q12,List.all_map];rfl
     rw[this];exact q _ (Same.new hp)
 . rw[decide_eq_false (show ¬V.int (kvs.length:Nat)=V.int (xs.length:Nat) by intro z;injection z with z;omega)];refine fe ?_;have:hasB fs m=false:=by unfold hasB;rw[decide_eq_false c,Bool.false_and]
   rw[this] at q;exact q _ (Same.refl _)
noncomputable def D.tag:D->String
 | .int _=>"int"
 | .str _=>"str"
 | .non=>"NoneType"
 | .boo _=>"bool"
 | .tup _=>"tuple"
 | .lst _=>"list"
 | .dct _=>"dict"
theorem Own.ty {K:W.Frag}{H:Hp}:∀{d:D}{v:V}{I:List Addr},Own H v d I->iD K H v (.type d.tag)
 | .int z,v,I,h=>by unfold Own at h;rw[h.1];exact .int z
 | .str z,v,I,h=>by unfold Own at h;rw[h.1];exact .str z
 | .non,v,I,h=>by unfold Own at h;rw[h.1];exact .non
 | .boo z,v,I,h=>by unfold Own at h;rw[h.1];exact .bl z
 | .tup xs,v,I,h=>by unfold Own at h;obtain⟨a,vs,rfl,J,_⟩:=h;exact .tup J
 | .lst xs,v,I,h=>by unfold Own at h;obtain⟨a,vs,L,rfl,J,_⟩:=h;exact .lst J
 | .dct xs,v,I,h=>by unfold Own at h;obtain⟨a,vs,L,rfl,J,_⟩:=h;exact .dK J
theorem GN {K:W.Frag}{d:D}(h:∀m,d≠ .dct m):W.kitOne K (.type d.tag) (.type "dict")=some false:=by
 cases d <;> first|rfl|exact absurd rfl (h _)
theorem Ba {K:W.Frag}{d:D}(h:∀m,d≠ .lst m):W.kitOne K (.type d.tag) (.type "list")=some false:=by
 cases d <;> first|rfl|exact absurd rfl (h _)
theorem GO {K:W.Frag}{d:D}(h:∀m,d≠ .str m):W.kitOne K (.type d.tag) (.type "str")=some false:=by
 cases d <;> first|rfl|exact absurd rfl (h _)
theorem Bb {fs:Fs}{m:Ds}(h:m.names=fs.names):hasB fs m=true:=by
 unfold hasB;rw[h,decide_eq_true rfl,Bool.true_and,Q10];exact λx z=>decide_eq_true z
theorem GP {fs:Fs}{m:Ds}(h:m.names.length≠fs.names.length\/∃x∈fs.names,x ∉ m.names):hasB fs m=false:=by
 unfold hasB;rcases h with h|⟨x,h1,h2⟩
 . rw[decide_eq_false h,Bool.false_and]
 . have:(fs.names.all λx=>decide (x∈m.names))=false:=by
    rw[List.all_eq_false];exact⟨x,h1,by simp[h2]⟩
   rw[this,Bool.and_false]
theorem GQ {n:Nat}{fs:Fs}{m:Ds}{r:Option (List Key)}(Y:fs.names.Nodup)(hR:Rs (n+1) (.fL fs) (.dct m) r):(hasB fs m=false/\r=some [])\/(hasB fs m=true/\∃stop:Nat->Prop,stop 0/\(stop fs.names.length->r=none)/\
 ∀i x k,stop i->fs.at i=some (x,k)->∃e,m.get x=some e/\((Rs n k e none/\stop (i+1))\/∃p',r=some (Sum.inr x::p')/\Rs n k e (some p'))):=by
 cases r with
 |none=>
  obtain⟨hF,hd,J⟩:=hR;unfold fg at hF;obtain⟨m',e,hF⟩:=hF
  cases e;simp only[D.dep] at hd;unfold D.Sm at J;refine .inr ⟨Bb hF.names,λ_=>True,trivial,λ_=>rfl,λi x k _ z=>?_⟩;obtain⟨e,U,hf⟩:=hF.get (Fs.jV Y z);exact⟨e,U,.inl ⟨⟨hf,Q0f (Ds.p_ U) (by omega),Ds.qE J.2 U⟩,trivial⟩⟩
 |some p=>
  obtain⟨hM,L⟩:=hR
  cases hM with
  |md h=>
   exact .inl ⟨GP (h m rfl),rfl⟩
  |@oP _ _ _ I x0 k0 d0 p0 h1 h2 hj hg hm=>
   refine .inr ⟨Bb h1,λi=>i<=I,Q0a _,λhh=>?_,λi x k hi z=>?_⟩
   . have:I<fs.names.length:=(List.getElem?_eq_some_iff.mp (by rw[Fs.jD,h2];rfl:fs.names[I]? =some x0)).1;exact absurd hh (by omega)
   . by_cases e:i=I
     . subst e;rw[h2] at z
       cases z;exact⟨d0,hg,.inr ⟨p0,rfl,hm,by rw[Q0g] at L;omega⟩⟩
     . obtain⟨e',aa,ab,ac,ae⟩:=hj i x k (by omega) z;exact⟨e',aa,.inl ⟨⟨ab,ac,ae⟩,by show i+1<=I;omega⟩⟩
theorem jd {n:Nat}(h:n<=2000):n<=sizeLine:=Q0f h (by decide)
theorem GS:fo ["fields","record","name","inner","place"] XQ (eP (top 9)):=fM
theorem GU (n:Nat)(T:Tb mg)(I:Dn K mg "record_misfit" jo (top 9) J L)(U:Dn K mg "has_just" jo (top 10) Y aa)(ab:eE P w K mg base eI (1) Y aa jo (A7))(ac:Dn K mg "misfit" iZ (top 8) ae af)(ag:eE P w K mg base eI (4 * n+3) ae af iZ (mr n)):eE P w K mg base eI (4 * n+4) J L jo (tY n):=by
 refine I.F.ok GS λvs H Q E h=>?_;obtain⟨b,v,xs,fs,d,fp,r,rfl,hb,ao,aw,hx,au,hO,hR,q⟩:=h;refine⟨rfl,λaA A outer s nd hr hu=>?_⟩
 refine⟨_,(eF (eY (PW.pt (il (gY (gS (fA iq (by rfl) T.iw boot_isinstance (a_ (pv 1) (a_ (ik (v:=.ty "dict") rfl T.sX boot_dict rfl) c_))))) (iB (gY (gS (eV ab hr U (a_ (pv 0) (a_ (pv 1) c_)))))))) (eL (eO (fY c_))) eZ)
  (eF (iS PassesOwn.never rfl (kJ (pv 0)) (jh rfl (gT (fX (i:=2) nd rfl gJ) (gT (fX (i:=3) nd rfl gJ) jg))) (eF (eX 4 nd (eV ag hr ac (a_ (pv 3) (a_ (iU hu (pv 1) (pv 2) (λ_ _=>rfl)) c_))))
  (eL (eY (eW mI (pv 4) gW (eT _)) (eL (eO (eJ iF (fY (a_ (pv 2) c_)) (pv 4)))) eZ))))
  (eL (eO gW)))),?_⟩
 ac_rfl
 have ak:∀H1,Same H H1->r=some []->(0:Nat)<=sizeLine/\∀p,H1 p=none->Q (.ref p) (upd H1 p (.lst [])):=λH1 s1 e=>⟨Q0a _,λp hp=>by
  subst e;exact q _ _ (s1.trans (Same.new hp)) ⟨p,rfl,eK⟩⟩
 by_cases al:∃m,d=.dct m
 . obtain⟨m,rfl⟩:=al;unfold Own at hO;obtain⟨a,kvs,fq,rfl,ha,_,hO⟩:=hO;refine⟨_,rfl,_,_,_,true,rfl,.dK ha,rfl,true,rfl,fe ?_⟩;refine⟨_,rfl,_,rfl,b,a,xs,kvs,fs,m,fq,rfl,hb,ao,hx,ha,hO,λH1 s1=>?_⟩;rcases GQ aw hR with⟨hh,er⟩|⟨hh,stop,ax,ay,step⟩
   . rw[hh];exact⟨false,rfl,fF (ak H1 s1 er)⟩
   . rw[hh];refine⟨true,rfl,fe ?_⟩;refine⟨_,rfl,b,rfl,⟨_,eB.of (s1 _ _ hb)⟩,pz (xs:=xs) (λi σ H'=>Same H H'/\stop i/\∃x y z,σ=[some (.ref b),some (.ref a),x,y,z]) ⟨s1,ax,_,_,_,rfl⟩ ?_ ?_ ?_⟩
     . rintro i σ H' _ ⟨s2,_⟩;exact eB.of (s2 _ _ hb)
     . intro i v σ H' hv zq;obtain⟨s2,ai,x,y,z,rfl⟩:=zq;obtain⟨c,u,nm,k,rfl,ap,hc,hk⟩:=FA.get fs ao hv;obtain⟨e,he,ar⟩:=step i nm k ai ap;obtain⟨ev,f,am,an,_⟩:=eN.val _ hO he;refine⟨c,_,rfl,eB.of (s2 _ _ hc),rfl,_,_,rfl,_,_,rfl,rfl,?_⟩;rcases ar with⟨aj,av⟩|⟨p',er,aj⟩
       . refine⟨_,rfl,_,rfl,_,rfl,a,ev,rfl,(by have:=gf.k (k:=Sum.inr nm) (s2 _ _ ha);rw[am] at this;exact this),u,ev,k,e,f,none,rfl,KA.mono (Tu.of s2) k hk,Fs.lZ au ap,Own.same s2 an,aj,λu' H3 s3 ah=>?_⟩;have ah:u'=.non:=ah;subst ah;refine⟨_,rfl,rfl,_,rfl,?_⟩;rw[decide_eq_true rfl];exact fe ⟨s2.trans s3,av,_,_,_,rfl⟩
       . refine⟨_,rfl,_,rfl,_,rfl,a,ev,rfl,(by have:=gf.k (k:=Sum.inr nm) (s2 _ _ ha);rw[am] at this;exact this),u,ev,k,e,f,some p',rfl,KA.mono (Tu.of s2) k hk,Fs.lZ au ap,Own.same s2 an,aj,λu' H3 s3 ah=>?_⟩;obtain⟨l,rfl,hl⟩:=ah;refine⟨_,rfl,rfl,_,rfl,?_⟩;rw[decide_eq_false (by intro z;cases z)];refine fF ?_;refine⟨_,rfl,jd (show 1<=2000 by decide),λp hp=>⟨_,rfl,p,l,_,_,rfl,rfl,eK,by rw[d_ (eM hl hp)];exact hl,jd (by rw[Q03];have:=aj.2;show 1+p'.length<=2000;omega),λp2 az=>?_⟩⟩;subst er;exact q _ _ (s2.trans (s3.trans ((Same.new hp).trans (Same.new az)))) ⟨p2,rfl,eK⟩
     . rintro σ H' ⟨s2,ai,_⟩;rw[FA.len fs ao] at ai;have:=ay ai;subst this;exact q _ _ s2 rfl
 . have aq:∀m,d≠ .dct m:=λm z=>al ⟨m,z⟩
   have er:r=some []:=by
    cases r with
    |none=>
     obtain⟨hF,_⟩:=hR;unfold fg at hF;obtain⟨m',e,_⟩:=hF;exact absurd e (aq _)
    |some p=>
     obtain⟨hM,_⟩:=hR
     cases hM with
     |md _=>rfl
     |oP _ _ _ _ _=>exact absurd rfl (aq _)
   exact⟨_,rfl,_,_,_,false,rfl,hO.ty,GN aq,false,rfl,fF (fF (ak H (Same.refl _) er))⟩
theorem GV {n:Nat}{key by_:Str}{fs:Fs}{xs:Ds}{r:Option (List Key)}(hR:Rs (n+1) (.rows key by_ fs) (.lst xs) r):xs.len<=100/\∃(rs:List Ds) (z:Nat),z<=rs.length/\(∀m∈rs,fQ fs m/\m.dep<=n/\m.Sm)/\(rs.take z).Pairwise (g5 key by_)/\((rs.take z).map λm=>keyOf m key).Nodup/\
 (∀j,j<z->xs.at j=some (.dct (rs.getD j .nil)))/\((z=xs.len/\r=none)\/(∃e p',xs.at z=some e/\r=some (Sum.inl (z:Int)::p')/\Rs (n+1) (.fL fs) e (some p'))\/
   (0<z/\z<rs.length/\xs.at z=some (.dct (rs.getD z .nil))/\¬g5 key by_ (rs.getD (z - 1) .nil) (rs.getD z .nil)/\r=some [Sum.inl (z:Int)])):=by
 cases r with
 |none=>
  obtain⟨hF,hd,J⟩:=hR;unfold fg at hF;obtain⟨rs,e,L,U,Y⟩:=hF
  cases e;unfold D.Sm at J;simp only[D.dep] at hd;refine⟨J.1,rs,rs.length,Q00 _,λm hm=>?_,by rw[Q12];exact U,by rw[Q12];exact Y,λj hj=>tT hj,.inl ⟨(kr rs).symm,rfl⟩⟩;have a:=oO m hm;have b:=qF J.2 m hm;unfold D.Sm at b;exact⟨L m hm,by omega,b.2⟩
 |some p=>
  obtain⟨hM,aa⟩:=hR
  cases hM with
  |rows0 h=>exact absurd rfl (h _)
  |@oQ _ _ _ _ _ i e p rs hl hi I L U Y he hm=>
   exact⟨hl,rs,i,hi,L,U.sublist (Q18 _ _),Y.sublist ((Q18 _ _).map _),I,.inr (.inl ⟨e,p,he,rfl,hm,by rw[Q0g] at aa;omega⟩)⟩
  |@me _ _ _ _ _ i rs hl h0 hi I L U Y ab=>
   exact⟨hl,rs,i,Q0o hi,L,U,Y,λj hj=>I j (Q0o hj),.inr (.inr ⟨h0,hi,I i (Q00 _),ab,rfl⟩)⟩
theorem GW:fo ["kind","rows","earlier","number","row","place"] XY (eP (top 11)):=fM
theorem GX (n:Nat)(T:Tb mg)(ab:Dn K mg "rows_misfit" jn (top 11) ac ae)(I:Dn K mg "record_misfit" jo (top 9) J L)(U:eE P w K mg base eI (4 * n+4) J L jo (tY n))(am:Dn K mg "rank" l6 (top 15) aC aD)(an:eE P w K mg base eI (1) aC aD l6 (kq)):eE P w K mg base eI (4 * n+5) ac ae jn (A8 n):=by
 refine ab.F.ok GW λvs H Q E h=>?_;obtain⟨pk,pb,v,xs,key,by_,fs,d,fp,r,rfl,af,aT,aU,hW,hO,hR,q⟩:=h;refine⟨rfl,λbv A outer s nd hr hu=>?_⟩;have bb:=hr.rM;unfold Kd.W at hW;obtain⟨aV,aW,aX,ai,ax⟩:=hW
 refine⟨_,(eF (eY (gY (gS (fA iq (by rfl) T.iw boot_isinstance (a_ (pv 1) (a_ (ik (v:=.ty "list") rfl T.nh boot_list rfl) c_))))) (eL (eO (fY c_))) eZ)
  (eF (eX 2 nd pH)
  (eF (iS PassesOwn.never rfl (zq rfl T.Ag (a_ (pv 1) c_)) (jh rfl (gT (fX (i:=3) nd rfl gJ) (gT (fX (i:=4) nd rfl gJ) jg))) (eF (eX 5 nd (eV U hr I (a_ (eS (pv 0) b_) (a_ (pv 4) c_))))
  (eF (eY (eW mI (pv 5) gW (eT _)) (eL (eO (eJ iF (fY (a_ (pv 3) c_)) (pv 5)))) eZ)
  (eF (eY (PW.pt (mD (eW mH (pv 3) b_ (eT _)) (nQ (eW (zN bb) (eV an hr am (a_ (pv 0) (a_ (pv 4) c_))) (eV an hr am (a_ (pv 0) (a_ (gO (pv 1) (eJ jN (pv 3) b_)) c_))) (eT _))))) (eL (eO (fY (a_ (pv 3) c_)))) eZ)
  (eF (eY (rq (zb hu (iU hu (pv 4) (eS (pv 0) b_) (λ_ _=>rfl)) (pv 2)) (by with_unfolding_all rfl)) (eL (eO (fY (a_ (pv 3) c_)))) eZ)
  (eL (mP hu (pv 2) (iU hu (pv 4) (eS (pv 0) b_) (λ_ _=>rfl)) gR rfl)))))))
  (eL (eO gW))))),?_⟩
 ac_rfl
 by_cases aE:∃ds,d=.lst ds
 . obtain⟨ds,rfl⟩:=aE;unfold Own at hO;obtain⟨a,ys,fq,rfl,ha,_,aH⟩:=hO;obtain⟨bo,rs,aa,bq,av,aP,bc,aY,au⟩:=GV hR;have aj:∀m∈rs,fQ fs m:=λm hm=>(av m hm).1;have br:ys.length=ds.len:=eR.len ds aH
   have bp:aa<=ds.len:=by
    rcases au with⟨e,_⟩|⟨e,p',he,_⟩|⟨_,_,he,_⟩
    . omega
    . have:=Ds.mf he;omega
    . have:=Ds.mf he;omega
   refine⟨_,rfl,_,_,_,true,rfl,.lst ha,rfl,true,rfl,fe ?_⟩;intro p hp;have s0:Same H (upd H p (.dK [])):=Same.new hp;refine⟨_,rfl,a,rfl,⟨_,eG.of (s0 _ _ ha)⟩,A4 (xs:=ys) (λi σ H'=>i<=aa/\∃x y z ek,σ=[some (.ref pk),some (.ref a),some (.ref p),x,y,z]/\Same H H'/\H' p=some (.dK ek)/\ek.map (·.1)=(rs.take i).map λm=>keyOf m key) ⟨Q0a _,_,_,_,[],rfl,s0,eK,rfl⟩ ?_ ?_ ?_⟩
   . intro i σ H' _ zq;obtain⟨_,x,y,z,ek,rfl,s2,_⟩:=zq;exact eG.of (s2 _ _ ha)
   . rintro i yv σ H' t hy ⟨bw,x,y,z,ek,rfl,s2,bd,aJ⟩ ht;have hi:i<ys.length:=(List.getElem?_eq_some_iff.mp hy).1;have st:Same H' (upd H' t (.tup [.int i,yv])):=Same.new ht;have s3:=s2.trans st;refine⟨t,_,rfl,eB.of eK,rfl,_,_,rfl,_,_,rfl,rfl,?_⟩
     have aQ:(i=aa/\∃e p',ds.at i=some e/\r=some (Sum.inl (i:Int)::p')/\Rs (n+1) (.fL fs) e (some p'))\/(i<rs.length/\ds.at i=some (.dct (rs.getD i .nil))/\(i<aa\/(i=aa/\0<i/\¬g5 key by_ (rs.getD (i - 1) .nil) (rs.getD i .nil)/\r=some [Sum.inl (i:Int)]))):=by
      by_cases aK:i=aa
      . subst aK;rcases au with⟨e,_⟩|h|⟨h0,h1,h2,h3,h4⟩
        . omega
        . exact .inl ⟨rfl,h⟩
        . exact .inr ⟨h1,h2,.inr ⟨rfl,h0,h3,h4⟩⟩
      . exact .inr ⟨by omega,aY i (by omega),.inl (by omega)⟩
     rcases aQ with⟨aK,e,p',he,er,aZ⟩|⟨bt,a6,ak⟩
     . subst aK;obtain⟨e',f,aF,a7,_⟩:=eR.get ds aH hy;rw[he] at aF
       cases aF;refine⟨_,rfl,pk,_,_,_,rfl,rfl,eB.of (s3 _ _ af),rfl,_,rfl,pb,yv,xs,fs,e,f,some p',rfl,s3 _ _ aT,FA.mono (Tu.of s3) fs aU,aV,aW,aX,Own.same s3 a7,aZ,λu' H4 s4 ao=>?_⟩;obtain⟨l,rfl,hl⟩:=ao;refine⟨_,rfl,rfl,_,rfl,?_⟩;rw[decide_eq_false (by intro z;cases z)];refine fF ?_;refine⟨_,rfl,jd (show 1<=2000 by decide),λp3 ay=>⟨_,rfl,p3,l,_,_,rfl,rfl,eK,by rw[d_ (eM hl ay)];exact hl,jd (by rw[Q03];have:=aZ.2;show 1+p'.length<=2000;omega),λp2 be=>?_⟩⟩;subst er;exact q _ _ (s3.trans (s4.trans ((Same.new ay).trans (Same.new be)))) ⟨p2,rfl,eK⟩
     have a1:∀j,j<=i->∃rr kvs fq,ys[j]? =some (.ref rr)/\H rr=some (.dK kvs)/\eN H kvs (rs.getD j .nil) fq/\rs.getD j .nil∈rs:=λj hj=>by
      obtain⟨d',f,h1,h2,_⟩:=eR.get ds aH (Q02 (by omega:j<ys.length))
      have a8:ds.at j=some (.dct (rs.getD j .nil)):=by
       by_cases e:j=i
       . rw[e];exact a6
       . exact aY j (by omega)
      rw[a8] at h1
      cases h1;unfold Own at h2;obtain⟨rr,kvs,ap,e,aq,_,ar⟩:=h2;refine⟨rr,kvs,ap,?_,aq,ar,?_⟩
      . rw[Q02 (by omega:j<ys.length),e]
      . rw[Q0d,Q02 (by omega)];exact Q0v _
     obtain⟨rr,kvs,ap,a2,aq,ar,al⟩:=a1 i (Q00 _);rw[hy] at a2
     cases a2;have a3:upd H' t (.tup [.int i,.ref rr]) p=some (.dK ek):=st _ _ bd
     have gk:∀H4,Same H H4->gf H4 rr (.str key) (some (kV (keyOf (rs.getD i .nil) key))):=λH4 s4=>by
      have:=gf.k (k:=Sum.inr key) (s4 _ _ aq);rw[ar.key (aj _ al) ai] at this;exact this
     have aL:=av _ al;refine⟨_,rfl,pk,_,_,_,rfl,rfl,eB.of (s3 _ _ af),rfl,_,rfl,pb,.ref rr,xs,fs,.dct (rs.getD i .nil),rr::ap,none,rfl,s3 _ _ aT,FA.mono (Tu.of s3) fs aU,aV,aW,aX,by unfold Own;exact⟨rr,kvs,ap,rfl,s3 _ _ aq,rfl,eN.same s3 ar⟩,⟨by unfold fg;exact⟨_,rfl,aL.1⟩,by simp only[D.dep];omega,by unfold D.Sm;exact⟨by rw[<-ma,aL.1.names];omega,aL.2.2⟩⟩,λu' H4 s4 ao=>?_⟩;have ao:u'=.non:=ao;subst ao;have ag:=s3.trans s4;refine⟨_,rfl,rfl,_,rfl,?_⟩;rw[decide_eq_true rfl];refine fe ?_
     have ah:i<aa->gH ek (keyOf (rs.getD i .nil) key)=none:=λY=>by
      have sv:=Az aJ (keyOf (rs.getD i .nil) key)
      have:kX key (rs.take i) (keyOf (rs.getD i .nil) key)=false:=by
       cases z:kX key (rs.take i) (keyOf (rs.getD i .nil) key) with
       |false=>rfl
       |true=>
        obtain⟨m,hm,e⟩:=List.any_eq_true.mp z;have e:=of_decide_eq_true e;obtain⟨j,hj,ej⟩:=Q1b hm;rw[Q0i] at hj;rw[Q13] at ej;have bf:i<rs.length:=by omega
        have e2:rs.getD i .nil=rs[i]:=by rw[Q0d,Q02 bf];rfl
        have:=List.pairwise_iff_getElem.mp (List.pairwise_map.mp bc) j i (by rw[Q0i];omega) (by rw[Q0i];omega) (by omega);rw[Q13,Q13,ej,<-e2] at this;exact absurd e this
      rw[this] at sv
      cases z:gH ek (keyOf (rs.getD i .nil) key) with
      |none=>rfl
      |some o=>rw[z] at sv;cases sv
     have fin:i<aa->∀H5,Same (upd H' t (.tup [.int i,.ref rr])) H5->∀(DD:Ends),DD.nx=(λσ H'=>i+1<=aa/\∃x y z ek,σ=[some (.ref pk),some (.ref a),some (.ref p),x,y,z]/\Same H H'/\H' p=some (.dK ek)/\ek.map (·.1)=(rs.take (i+1)).map λm=>keyOf m key)->∀z':Option V,
      DD.nx [some (.ref pk),some (.ref a),some (.ref p),some (.int i),some (.ref rr),z'] (upd H5 p (.dK (ek++[(keyOf (rs.getD i .nil) key,.bl true)]))):=λY H5 s5 DD bg z'=>by
      rw[bg];refine⟨by omega,_,_,_,_,rfl,λc o e=>?_,eK,?_⟩
      . rw[d_ (eM e hp)];exact s5 _ _ (s3 _ _ e)
      . rw[Q0k,aJ,Q0t,Q0k];congr 1;rw[Q02 (by omega),Q0d,Q02 (by omega)];rfl
     have aG:ek.length<sizeLine:=by
      have e1:=congrArg List.length aJ;rw[Q03,Q03,Q0i] at e1;have:=hr.rM;exact gN (by omega)
     refine⟨_,rfl,_,_,rfl,rfl,_,rfl,fJ (λc=>?_) (λc=>fe ?_)⟩
     . have bx:0<i:=by
        have:(0:Int)<(i:Int):=of_decide_eq_true c;omega
       obtain⟨rp,bh,bi,a9,bj,ba,aw⟩:=a1 (i - 1) (by omega);refine⟨_,rfl,_,rfl,pk,rr,pb,key,by_,fs,kvs,_,ap,rfl,ag _ _ af,ag _ _ aq,eN.same ag ar,aj _ al,ai,ax,λt1 bm=>?_⟩;have aM:Same H4 (upd H4 t1 (.tup ((rankOf key by_ (rs.getD i .nil)).map kV))):=Same.new bm;have s5:=ag.trans aM
       have bn:gB ys ((i:Int) - 1)=some (.ref rp):=by
        have e:(i:Int) - 1=((i - 1:Nat):Int):=by omega
        rw[e];exact g9 a9
       refine⟨_,rfl,_,rfl,_,rfl,_,_,rfl,rfl,a,_,_,_,rfl,rfl,eG.of (s5 _ _ ha),bn,pk,rp,pb,key,by_,fs,bh,_,bi,rfl,s5 _ _ af,s5 _ _ bj,eN.same s5 ba,aj _ aw,ai,ax,λt2 jI=>?_⟩;have az:Same (upd H4 t1 (.tup ((rankOf key by_ (rs.getD i .nil)).map kV))) (upd (upd H4 t1 (.tup ((rankOf key by_ (rs.getD i .nil)).map kV))) t2 (.tup ((rankOf key by_ (rs.getD (i - 1) .nil)).map kV))):=Same.new jI;have s6:=s5.trans az;have ge:∀j (h:j<rs.length),rs.getD j .nil=rs[j]:=λj h=>by rw[Q0d,Q02 h];rfl
       refine⟨t1,t2,_,_,rfl,rfl,eB.of (az _ _ eK),eB.of eK,(mZ (aj _ al) ai ax).trans (mZ (aj _ aw) ai ax).symm,_,rfl,?_⟩;by_cases aA:gC (rankOf key by_ (rs.getD (i - 1) .nil)) (rankOf key by_ (rs.getD i .nil))=true
       case neg=>
        have er:r=some [Sum.inl (i:Int)]:=by
         rcases ak with Y|⟨_,_,_,er⟩
         . refine absurd ?_ aA;have:=List.pairwise_iff_getElem.mp aP (i - 1) i (by rw[Q0i];omega) (by rw[Q0i];omega) (by omega);rw[Q13,Q13] at this;rw[ge (i - 1) (by omega),ge i (by omega)];exact this
         . exact er
        rw[Bool.eq_false_iff.mpr aA];subst er;exact fF ⟨_,rfl,jd (show 1<=2000 by decide),λp3 ay=>q _ _ (s6.trans (Same.new ay)) ⟨p3,rfl,eK⟩⟩
       have Y:i<aa:=by
        rcases ak with h|⟨_,_,h,_⟩
        . exact h
        . exact absurd aA h
       have ah:=ah Y;rw[aA];refine fe ?_;have a4:=az _ _ (aM _ _ (s4 _ _ a3));refine⟨_,rfl,_,rfl,pk,_,_,_,rfl,rfl,eB.of (s6 _ _ af),rfl,rr,_,rfl,gk _ s6,_,rfl,p,_,rfl,gf.k a4,_,rfl,?_⟩;rw[ah];refine fe ?_;refine⟨_,rfl,_,rfl,_,rfl,pk,_,_,_,rfl,rfl,eB.of (s6 _ _ af),rfl,rr,_,rfl,gk _ s6,p,_,rfl,jB.k a4 aG,?_⟩;rw[qa ah];exact fin Y _ (s4.trans (aM.trans az)) _ rfl _
     . have Y:i<aa:=by
        rcases ak with h|⟨_,h,_⟩
        . exact h
        . exact absurd (decide_eq_true (show(0:Int)<(i:Int) by omega)) c
       have ah:=ah Y;have a5:=s4 _ _ a3;refine⟨_,rfl,_,rfl,pk,_,_,_,rfl,rfl,eB.of (ag _ _ af),rfl,rr,_,rfl,gk _ ag,_,rfl,p,_,rfl,gf.k a5,_,rfl,?_⟩;rw[ah];refine fe ?_;refine⟨_,rfl,_,rfl,_,rfl,pk,_,_,_,rfl,rfl,eB.of (ag _ _ af),rfl,rr,_,rfl,gk _ ag,p,_,rfl,jB.k a5 aG,?_⟩;rw[qa ah];exact fin Y _ s4 _ rfl _
   . intro σ H' zq;obtain⟨bu,x,y,z,ek,rfl,s2,_⟩:=zq
     have er:r=none:=by
      rcases au with⟨_,e⟩|⟨e,p',he,_⟩|⟨_,_,he,_⟩
      . exact e
      . have:=Ds.mf he;omega
      . have:=Ds.mf he;omega
     subst er;exact q _ _ s2 rfl
 . have aB:∀m,d≠ .lst m:=λm z=>aE ⟨m,z⟩
   have er:r=some []:=by
    cases r with
    |none=>
     obtain⟨hF,_⟩:=hR;unfold fg at hF;obtain⟨rs,e,_⟩:=hF;exact absurd e (aB _)
    |some p=>
     obtain⟨hM,_⟩:=hR
     cases hM with
     |rows0 _=>rfl
     |oQ _ _ _ _ _ _ _ _=>exact absurd rfl (aB _)
     |me _ _ _ _ _ _ _ _=>exact absurd rfl (aB _)
   subst er;exact⟨_,rfl,_,_,_,false,rfl,hO.ty,Ba aB,false,rfl,fF ⟨Q0a _,λp hp=>q _ _ (Same.new hp) ⟨p,rfl,eK⟩⟩⟩
theorem GY {xs:Ds}(h:xs.len=2):∃x a y c,xs=.cons x a (.cons y c .nil):=by
 cases xs with
 |nil=>cases h
 |cons x a r=>
  cases r with
  |nil=>cases h
  |cons y c t=>
   cases t with
   |nil=>exact⟨x,a,y,c,rfl⟩
   |cons z e t=>have h:t.len+1+1+1=2:=h;omega
theorem GZ {n:Nat}{k:Kd}{x y:Str}{t:D}{as:Ds}{r:Option (List Key)}(hR:Rs (n+1) (.tree k) (.tup (.cons x t (.cons y (.lst as) .nil))) r):(∃J,r=some (Sum.inr ("knot":Str)::J)/\Rs n k t (some J))\/(Rs n k t none/\∃z,(∀j a,j<z->as.at j=some a->Rs n (.tree k) a none)/\
 ((z=as.len/\r=none)\/∃e J,as.at z=some e/\r=some (Sum.inl (z:Int)::J)/\Rs n (.tree k) e (some J))):=by
 cases r with
 |none=>
  obtain⟨hF,hd,L⟩:=hR;have hT:Tree (fg k) (.tup (.cons x t (.cons y (.lst as) .nil))):=by unfold fg at hF;exact hF
  obtain⟨x',y',t',ac,e,ht,aa⟩:=hT.shape
  cases e;unfold D.Sm Ds.Sm at L;obtain⟨_,ab,U⟩:=L;unfold Ds.Sm at U;have Y:=U.1;unfold D.Sm at Y;simp only[D.dep,Ds.dep] at hd;refine .inr ⟨⟨ht,by omega,ab⟩,as.len,λj a _ ha=>?_,.inl ⟨rfl,rfl⟩⟩;have:=Ds.lY ha;exact⟨by unfold fg;exact iu.all aa ha,by omega,Ds.tH Y.2 ha⟩
 |some p=>
  obtain⟨hM,I⟩:=hR
  cases hM with
  |oR h=>exact absurd rfl (h _ as rfl rfl)
  |@qH _ _ _ _ p hm=>exact .inl ⟨p,rfl,hm,by rw[Q0g] at I;omega⟩
  |@qI _ _ _ e _ i p ht hl hj he hm=>
   refine .inr ⟨ht,i,λj a h1 h2=>?_,.inr ⟨e,p,he,rfl,hm,by rw[Q0g] at I;omega⟩⟩;obtain⟨a1,a2,a3⟩:=hj j a h1 h2;exact⟨by unfold fg;exact a1,a2,a3⟩
theorem Bc {n:Nat}{k:Kd}{d:D}{r:Option (List Key)}(hR:Rs (n+1) (.tree k) d r)(h:∀x y t as,d≠ .tup (.cons x t (.cons y (.lst as) .nil))):r=some []:=by
 cases r with
 |none=>
  obtain⟨hF,_⟩:=hR;have hT:Tree (fg k) d:=by unfold fg at hF;exact hF
  obtain⟨U,Y,t',J,e,ht,L⟩:=hT.shape;exact absurd e (h _ _ _ _)
 |some p=>
  obtain⟨I,z⟩:=hR
  cases I with
  |oR _=>rfl
  |qH _=>exact absurd rfl (h _ _ _ _)
  |qI _ _ _ _ _=>exact absurd rfl (h _ _ _ _)
theorem G3 {n:Nat}{fs:Fs}{x y:Str}{a c:D}{r:Option (List Key)}(hW:fs.W)(hR:Rs (n+1) (.gy fs) (.tup (.cons x a (.cons y c .nil))) r):(∃nm k Y,a=.str nm/\fs.get nm=some k/\Rs n k c Y/\r=Y.map (Sum.inr nm:: ·))\/
 (r=some []/\((∃nm,a=.str nm/\fs.get nm=none)\/(∃z,a=.int z)\/∃l,a=.lst l)):=by
 cases r with
 |none=>
  obtain⟨hF,hd,J⟩:=hR;unfold fg at hF;obtain⟨nm,v,e,hE⟩:=hF
  cases e;obtain⟨k,I,hf⟩:=tQ hE;unfold D.Sm Ds.Sm at J;obtain⟨_,_,L⟩:=J;unfold Ds.Sm at L;simp only[D.dep,Ds.dep] at hd;exact .inl ⟨nm,k,none,rfl,I,⟨hf,by omega,L.1⟩,rfl⟩
 |some p=>
  obtain⟨hM,U⟩:=hR
  cases hM with
  |oS h=>
   refine .inr ⟨rfl,?_⟩;rcases h _ rfl rfl with⟨nm,e,hn⟩|⟨z,e⟩|⟨l,e⟩
   . refine .inl ⟨nm,Option.some.inj e,?_⟩
     cases I:fs.get nm with
     |none=>rfl
     |some k=>exact absurd (Fs.get_mem I) hn
   . exact .inr (.inl ⟨z,Option.some.inj e⟩)
   . exact .inr (.inr ⟨l,Option.some.inj e⟩)
  |@qJ _ _ nm k _ p I hm=>exact .inl ⟨nm,k,some p,rfl,I,⟨hm,by rw[Q0g] at U;omega⟩,rfl⟩
theorem G4 {n:Nat}{fs:Fs}{d:D}{r:Option (List Key)}(hR:Rs (n+1) (.gy fs) d r)(h:d.mq=false):r=some []:=by
 cases r with
 |none=>
  obtain⟨hF,_⟩:=hR;unfold fg at hF;obtain⟨nm,v,e,hE⟩:=hF;rw[e] at h;cases h
 |some p=>
  obtain⟨I,z⟩:=hR
  cases I with
  |oS _=>rfl
  |qJ _ _=>cases h
theorem G5 {d:D}(h:d.mq=false):∀x y t as,d≠ .tup (.cons x t (.cons y (.lst as) .nil)):=λx y t as e=>by
 rw[e] at h;cases h
theorem Bd {d:D}(h:d.mq=true):∃x a y c,d=.tup (.cons x a (.cons y c .nil)):=by
 cases d with
 |tup xs=>
  obtain⟨x,a,y,c,e⟩:=GY (of_decide_eq_true (show decide (xs.len=2)=true from h));exact⟨x,a,y,c,by rw[e]⟩
 |_=>cases h
theorem Be {k:Kd}{d:D}{r:Option (List Key)}(h:Rs 0 k d r):False:=by
 cases r with
 |none=>exact absurd h.2.1 (by have:=d.kU;omega)
 |some p=>obtain⟨h,_⟩:=h;cases h
theorem Bf:fo ["kind","tree","place","number","arm"] ["kind","tree"] (eP (top 13)):=fM
theorem G6 (T:Tb mg)(z:Dn K mg "tree_misfit" ko (top 13) I J):eE P w K mg base eI (4 * 0+2) I J ko (oU 0):=by
 refine z.F.ok Bf λvs H Q E h=>?_;obtain⟨a,u,v,k,d,Y,r,rfl,_,_,_,_,L,_⟩:=h;refine⟨rfl,λU A outer s nd hr hu=>?_⟩;exact(Be L).elim
theorem G7 (n:Nat)(T:Tb mg)(I:Dn K mg "tree_misfit" ko (top 13) J L)(Y:eE P w K mg base eI (4 * n+2) J L ko (oU n))(aa:Dn K mg "is_pair" l8 (top 12) ab ac)(ae:eE P w K mg base eI (1) ab ac l8 (tX))(af:Dn K mg "misfit" iZ (top 8) ag ah)(ai:eE P w K mg base eI (4 * n+3) ag ah iZ (mr n)):eE P w K mg base eI (4 * (n+1)+2) J L ko (oU (n+1)):=by
 refine I.F.ok Bf λvs H Q E h=>?_;obtain⟨a,u,v,k,d,fp,r,rfl,ha,hk,hW,hO,hR,q⟩:=h;refine⟨rfl,λaD A outer s nd hr hu=>?_⟩
 refine⟨_,(eF (eY (PW.pt (il (gY (gS (eV ae hr aa (a_ (pv 1) c_)))) (iB (gY (gS (fA iq (by rfl) T.iw boot_isinstance (a_ (eS (pv 1) b_) (a_ (ik (v:=.ty "list") rfl T.nh boot_list rfl) c_)))))))) (eL (eO (fY c_))) eZ)
  (eF (eX 2 nd (eV ai hr af (a_ (eS (pv 0) b_) (a_ (eS (pv 1) b_) c_))))
  (eF (eY (eW mI (pv 2) gW (eT _)) (eL (eO (eJ iF (fY (a_ fm c_)) (pv 2)))) eZ)
  (eF (iS PassesOwn.never rfl (zq rfl T.Ag (a_ (eS (pv 1) b_) c_)) (jh rfl (gT (fX (i:=3) nd rfl gJ) (gT (fX (i:=4) nd rfl gJ) jg))) (eF (eX 2 nd (eV Y hr I (a_ (pv 0) (a_ (pv 4) c_))))
  (eL (eY (eW mI (pv 2) gW (eT _)) (eL (eO (eJ iF (fY (a_ (pv 3) c_)) (pv 2)))) eZ))))
  (eL (eO gW)))))),?_⟩
 ac_rfl
 refine⟨_,rfl,v,d,fp,rfl,hO,?_⟩
 cases hP:d.mq with
 |false=>
  have er:=Bc hR (G5 hP);subst er;exact⟨false,rfl,fF (fF ⟨Q0a _,λp hp=>q _ _ (Same.new hp) ⟨p,rfl,eK⟩⟩)⟩
 |true=>
  obtain⟨x,t,y,ar,rfl⟩:=Bd hP;obtain⟨c,v1,v2,f1,f2,rfl,hc,rfl,au,an⟩:=hO.pair;refine⟨true,rfl,fe ?_⟩;by_cases hl:¬∃as,ar=.lst as
  . have av:∀m,ar≠ .lst m:=λm z=>hl ⟨m,z⟩;have er:=Bc hR λx y t as e=>by cases e;exact av _ rfl
    subst er;exact⟨_,rfl,c,_,_,_,rfl,rfl,eB.of hc,rfl,_,_,_,false,rfl,an.ty,Ba av,false,rfl,fF ⟨Q0a _,λp hp=>q _ _ (Same.new hp) ⟨p,rfl,eK⟩⟩⟩
  obtain⟨as,rfl⟩:=Classical.not_not.mp hl;unfold Own at an;obtain⟨pl,ys,fq,rfl,ao,rfl,aw⟩:=an;refine⟨_,rfl,c,_,_,_,rfl,rfl,eB.of hc,rfl,_,_,_,true,rfl,.lst ao,rfl,true,rfl,fe ?_⟩;rcases GZ hR with⟨p',er,ak⟩|⟨ak,ax,az,al⟩
  . refine⟨_,rfl,a,_,_,_,rfl,rfl,eB.of ha,rfl,_,rfl,c,_,_,_,rfl,rfl,eB.of hc,rfl,u,v1,k,t,f1,some p',rfl,hk,hW,au,ak,λu' H1 s1 U=>?_⟩;obtain⟨l,rfl,hl⟩:=U;refine⟨_,rfl,rfl,_,rfl,?_⟩;rw[decide_eq_false (by intro z;cases z)];refine fF ?_;refine⟨jd (show 1<=2000 by decide),λp3 aj=>⟨_,rfl,p3,l,_,_,rfl,rfl,eK,by rw[d_ (eM hl aj)];exact hl,jd (by rw[Q03];have:=ak.2;show 1+p'.length<=2000;omega),λp2 ap=>?_⟩⟩;subst er;exact q _ _ (s1.trans ((Same.new aj).trans (Same.new ap))) ⟨p2,rfl,eK⟩
  . refine⟨_,rfl,a,_,_,_,rfl,rfl,eB.of ha,rfl,_,rfl,c,_,_,_,rfl,rfl,eB.of hc,rfl,u,v1,k,t,f1,none,rfl,hk,hW,au,ak,λu' H1 s1 U=>?_⟩;have U:u'=.non:=U;subst U;refine⟨_,rfl,rfl,_,rfl,?_⟩;rw[decide_eq_true rfl];refine fe ?_;refine⟨_,rfl,c,_,_,_,rfl,rfl,eB.of (s1 _ _ hc),rfl,pl,rfl,⟨_,eG.of (s1 _ _ ao)⟩,A4 (xs:=ys) (λi σ H'=>Same H H'/\i<=ax/\∃x y z,σ=[some (.ref a),some (.ref c),x,y,z]) ⟨s1,Q0a _,_,_,_,rfl⟩ ?_ ?_ ?_⟩
    . rintro i σ H' _ ⟨s2,_⟩;exact eG.of (s2 _ _ ao)
    . rintro i yv σ H' tt hy ⟨s2,aE,x,y,z,rfl⟩ aB;have st:Same H' (upd H' tt (.tup [.int i,yv])):=Same.new aB;have s3:=s2.trans st;obtain⟨d',f,aq,ay,_⟩:=eR.get _ aw hy;refine⟨tt,_,rfl,eB.of eK,rfl,_,_,rfl,_,_,rfl,rfl,?_⟩;by_cases aC:i=ax
      . subst aC
        obtain⟨e,p',he,er,am⟩:∃e p',as.at i=some e/\r=some (Sum.inl (i:Int)::p')/\Rs n (.tree k) e (some p'):=by
         rcases al with⟨e,_⟩|h
         . have:=Ds.mf aq;omega
         . exact h
        rw[aq] at he
        cases he;refine⟨_,rfl,_,rfl,a,u,yv,k,d',f,some p',rfl,s3 _ _ ha,KA.mono (Tu.of s3) k hk,hW,Own.same s3 ay,am,λu' H4 s4 U=>?_⟩;obtain⟨l,rfl,hl⟩:=U;refine⟨_,rfl,rfl,_,rfl,?_⟩;rw[decide_eq_false (by intro z;cases z)];refine fF ?_;refine⟨_,rfl,jd (show 1<=2000 by decide),λp3 aj=>⟨_,rfl,p3,l,_,_,rfl,rfl,eK,by rw[d_ (eM hl aj)];exact hl,jd (by rw[Q03];have:=am.2;show 1+p'.length<=2000;omega),λp2 ap=>?_⟩⟩;subst er;exact q _ _ (s3.trans (s4.trans ((Same.new aj).trans (Same.new ap)))) ⟨p2,rfl,eK⟩
      . refine⟨_,rfl,_,rfl,a,u,yv,k,d',f,none,rfl,s3 _ _ ha,KA.mono (Tu.of s3) k hk,hW,Own.same s3 ay,az i d' (by omega) aq,λu' H4 s4 U=>?_⟩;have U:u'=.non:=U;subst U;refine⟨_,rfl,rfl,_,rfl,?_⟩;rw[decide_eq_true rfl];exact fe ⟨s3.trans s4,by omega,_,_,_,rfl⟩
    . rintro σ H' ⟨s2,aA,_⟩
      have er:r=none:=by
       rw[eR.len as aw] at aA;rcases al with⟨_,e⟩|⟨e,p',he,_⟩
       . exact e
       . have:=Ds.mf he;omega
      subst er;exact q _ _ s2 rfl
theorem G8:fo ["fields","value","inner","place"] ["fields","value"] (eP (top 14)):=fM
theorem G9 (n:Nat)(T:Tb mg)(I:Dn K mg "either_misfit" oH (top 14) J L)(Y:Dn K mg "is_pair" l8 (top 12) aa ab)(ac:eE P w K mg base eI (1) aa ab l8 (tX))(ae:Dn K mg "kind_at" l7 (top 6) af ag)(ah:eE P w K mg base eI (1) af ag l7 (tW K))(ai:Dn K mg "misfit" iZ (top 8) aj ak)(am:eE P w K mg base eI (4 * n+3) aj ak iZ (mr n)):eE P w K mg base eI (4 * n+4) J L oH (A9 n):=by
 refine I.F.ok G8 λvs H Q E h=>?_;obtain⟨b,v,xs,fs,d,fp,r,rfl,hb,ap,aq,ar,hO,hR,q⟩:=h;refine⟨rfl,λaA A outer s nd hr hu=>?_⟩
 refine⟨_,(eF (eY (gY (gS (eV ac hr Y (a_ (pv 1) c_)))) (eL (eO (fY c_))) eZ)
  (eF (eX 2 nd (eV ah hr ae (a_ (pv 0) (a_ (eS (pv 1) b_) c_))))
  (eF (eY (eW rJ (pv 2) gW (eT _)) (eL (eO (fY c_))) eZ)
  (eF (eX 3 nd (eV am hr ai (a_ (pv 2) (a_ (eS (pv 1) b_) c_))))
  (eF (eY (eW mI (pv 3) gW (eT _)) (eL (eO (eJ iF (fY (a_ (eS (pv 1) b_) c_)) (pv 3)))) eZ)
  (eL (eO gW))))))),?_⟩
 ac_rfl
 refine⟨_,rfl,v,d,fp,rfl,hO,?_⟩
 cases hP:d.mq with
 |false=>
  have er:=G4 hR hP;subst er;exact⟨false,rfl,fF ⟨Q0a _,λp hp=>q _ _ (Same.new hp) ⟨p,rfl,eK⟩⟩⟩
 |true=>
  obtain⟨x,a,y,c,rfl⟩:=Bd hP;obtain⟨t,v1,v2,f1,f2,rfl,ht,rfl,U,ax⟩:=hO.pair;refine⟨true,rfl,fe ?_⟩;rcases G3 ar hR with⟨nm,k,r',rfl,ao,au,er⟩|⟨er,aw⟩
  . unfold Own at U;obtain⟨rfl,_⟩:=U;refine⟨_,rfl,_,rfl,t,_,_,_,rfl,rfl,eB.of ht,rfl,b,.str nm,xs,fs,some nm,rfl,hb,ap,aq,rfl,λu hu=>?_⟩;have hu:qN H u (fs.get nm):=hu;rw[ao] at hu;have hu:KA H u k:=hu;refine⟨_,rfl,rfl,_,rfl,?_⟩;rw[decide_eq_false hu.GF];refine fe ?_;refine⟨_,rfl,_,rfl,t,_,_,_,rfl,rfl,eB.of ht,rfl,u,v2,k,c,f2,r',rfl,hu,Fs.tR ar ao,ax,au,λu' H1 s1 an=>?_⟩
    cases r' with
    |none=>
     have an:u'=.non:=an;subst an;subst er;refine⟨_,rfl,rfl,_,rfl,?_⟩;rw[decide_eq_true rfl];exact fe (q _ _ s1 rfl)
    |some p'=>
     obtain⟨l,rfl,hl⟩:=an;refine⟨_,rfl,rfl,_,rfl,?_⟩;rw[decide_eq_false (by intro z;cases z)];refine fF ?_;refine⟨_,rfl,t,_,_,_,rfl,rfl,eB.of (s1 _ _ ht),rfl,jd (show 1<=2000 by decide),λp3 av=>⟨_,rfl,p3,l,_,_,rfl,rfl,eK,by rw[d_ (eM hl av)];exact hl,jd (by rw[Q03];have:=au.2;show 1+p'.length<=2000;omega),λp2 ay=>?_⟩⟩;subst er;exact q _ _ (s1.trans ((Same.new av).trans (Same.new ay))) ⟨p2,rfl,eK⟩
  . subst er
    obtain⟨o,hn,ho⟩:∃o,A6 K H v1 o/\o.bind fs.get=none:=by
     rcases aw with⟨nm,rfl,hg⟩|⟨z,rfl⟩|⟨l,rfl⟩
     . unfold Own at U;exact⟨some nm,U.1,hg⟩
     . unfold Own at U;exact⟨none,.inl ⟨z,U.1⟩,rfl⟩
     . unfold Own at U;obtain⟨al,ys,fq,e,az,_⟩:=U;exact⟨none,.inr ⟨al,ys,e,eG.of az⟩,rfl⟩
    refine⟨_,rfl,_,rfl,t,_,_,_,rfl,rfl,eB.of ht,rfl,b,v1,xs,fs,o,rfl,hb,ap,aq,hn,λu hu=>?_⟩;rw[ho] at hu;have hu:u=.non:=hu;subst hu;refine⟨_,rfl,rfl,_,rfl,?_⟩;rw[decide_eq_true rfl];exact fF ⟨Q0a _,λp hp=>q _ _ (Same.new hp) ⟨p,rfl,eK⟩⟩
theorem Bg:fo ["kind","value","form"] ["kind","value"] (eP (top 8)):=fM
theorem G_ (T:Tb mg)(z:Dn K mg "misfit" iZ (top 8) I J):eE P w K mg base eI (4 * 0+3) I J iZ (mr 0):=by
 refine z.F.ok Bg λvs H Q E h=>?_;obtain⟨Y,v,k,d,fp,r,rfl,_,_,_,L,_⟩:=h;refine⟨rfl,λU A outer s nd hr hu=>?_⟩;exact(Be L).elim
theorem Ha (n:Nat)(T:Tb mg)(am:Dn K mg "misfit" iZ (top 8) an ao)(I:Dn K mg "record_misfit" jo (top 9) J L)(U:eE P w K mg base eI (4 * n+4) J L jo (tY n))(ae:Dn K mg "rows_misfit" jn (top 11) af ag)(ah:eE P w K mg base eI (4 * n+5) af ag jn (A8 n))(ai:Dn K mg "tree_misfit" ko (top 13) aj ak)(al:eE P w K mg base eI (4 * (n+1)+2) aj ak ko (oU (n+1)))(Y:Dn K mg "either_misfit" oH (top 14) aa ab)(ac:eE P w K mg base eI (4 * n+4) aa ab oH (A9 n)):
 eE P w K mg base eI (4 * (n+1)+3) an ao iZ (mr (n+1)):=by
 refine am.F.ok Bg λvs H Q E h=>?_;obtain⟨kv,v,k,d,fp,r,rfl,hk,hW,hO,hR,q⟩:=h;refine⟨rfl,λar A outer s nd hr hu=>?_⟩
 refine⟨_,(eF (eX 2 nd (eS (pv 0) b_))
  (eF (eY (eW fE (pv 2) fm (eT _)) (eL (eO (yn (PW.pt (mD (gS (fA iq (by rfl) T.iw boot_isinstance (a_ (pv 1) (a_ (ik (v:=.ty "int") rfl T.sU boot_int rfl) c_)))) (nQ (gY (gS (fA iq (by rfl) T.iw boot_isinstance (a_ (pv 1) (a_ (ik (v:=.ty "bool") rfl T.sV boot_bool rfl) c_)))))))) gW (fY c_)))) eZ)
  (eF (eY (eW fE (pv 2) fm (eT _)) (eL (eO (yn (gS (fA iq (by rfl) T.iw boot_isinstance (a_ (pv 1) (a_ (ik (v:=.ty "str") rfl T.sW boot_str rfl) c_)))) gW (fY c_)))) eZ)
  (eF (eY (eW fE (pv 2) fm (eT _)) (eL (eO (eV U hr I (a_ (eS (pv 0) b_) (a_ (pv 1) c_))))) eZ)
  (eF (eY (eW fE (pv 2) fm (eT _)) (eL (eO (eV ah hr ae (a_ (pv 0) (a_ (pv 1) c_))))) eZ)
  (eF (eY (eW fE (pv 2) fm (eT _)) (eL (eO (eV al hr ai (a_ (pv 0) (a_ (pv 1) c_))))) eZ)
  (eL (eO (eV ac hr Y (a_ (eS (pv 0) b_) (a_ (pv 1) c_))))))))))),?_⟩
 ac_rfl
 have aq:r=some []->(0:Nat)<=sizeLine/\∀p,H p=none->Q (.ref p) (upd H p (.lst [])):=λe=>⟨Q0a _,λp hp=>by
  subst e;exact q _ _ (Same.new hp) ⟨p,rfl,eK⟩⟩
 cases k with
 |num=>
  unfold KA at hk;obtain⟨a,rfl,ha⟩:=hk;refine⟨_,rfl,a,_,_,_,rfl,rfl,eB.of ha,rfl,?_⟩;refine oo rfl (by decide +kernel) ?_;by_cases hi:∃z,d=.int z
  . obtain⟨z,rfl⟩:=hi;unfold Own at hO;obtain⟨rfl,rfl⟩:=hO
    have er:r=none:=by
     cases r with
     |none=>rfl
     |some p=>obtain⟨hM,_⟩:=hR;cases hM with|num h=>exact absurd rfl (h _)
    subst er;refine⟨_,rfl,_,_,_,true,rfl,.int z,rfl,true,rfl,fF ?_⟩;refine⟨_,rfl,_,_,_,false,rfl,.int z,rfl,false,rfl,fF ?_⟩;exact q _ _ (Same.refl _) rfl
  . have er:r=some []:=by
     cases r with
     |none=>obtain⟨hF,_⟩:=hR;unfold fg at hF;exact absurd hF hi
     |some p=>obtain⟨hM,_⟩:=hR;cases hM with|num h=>rfl
    by_cases hb:∃z,d=.boo z
    . obtain⟨z,rfl⟩:=hb;unfold Own at hO;obtain⟨rfl,rfl⟩:=hO;refine⟨_,rfl,_,_,_,true,rfl,.bl z,rfl,true,rfl,fF ?_⟩;refine⟨_,rfl,_,_,_,true,rfl,.bl z,rfl,true,rfl,fe ?_⟩;exact aq er
    . have hk:W.kitOne K (.type d.tag) (.type "int")=some false:=by
       cases d <;> first|rfl|exact absurd ⟨_,rfl⟩ hi|exact absurd ⟨_,rfl⟩ hb
      exact⟨_,rfl,_,_,_,false,rfl,hO.ty,hk,false,rfl,fe (fe (aq er))⟩
 |fC=>
  unfold KA at hk;obtain⟨a,rfl,ha⟩:=hk;refine⟨_,rfl,a,_,_,_,rfl,rfl,eB.of ha,rfl,?_⟩;refine iH rfl (by decide +kernel) ?_;refine oo rfl (by decide +kernel) ?_;by_cases hi:∃z,d=.str z
  . obtain⟨z,rfl⟩:=hi;unfold Own at hO;obtain⟨rfl,rfl⟩:=hO
    have er:r=none:=by
     cases r with
     |none=>rfl
     |some p=>obtain⟨hM,_⟩:=hR;cases hM with|fC h=>exact absurd rfl (h _)
    subst er;refine⟨_,rfl,_,_,_,true,rfl,.str z,rfl,true,rfl,fF ?_⟩;exact q _ _ (Same.refl _) rfl
  . have er:r=some []:=by
     cases r with
     |none=>obtain⟨hF,_⟩:=hR;unfold fg at hF;exact absurd hF hi
     |some p=>obtain⟨hM,_⟩:=hR;cases hM with|fC h=>rfl
    exact⟨_,rfl,_,_,_,false,rfl,hO.ty,GO λz e=>hi ⟨z,e⟩,false,rfl,fe (aq er)⟩
 |fL fs=>
  unfold KA at hk;obtain⟨a,b,xs,rfl,ha,hb,ap⟩:=hk;unfold Kd.W at hW;refine⟨_,rfl,a,_,_,_,rfl,rfl,eB.of ha,rfl,?_⟩;refine iH rfl (by decide +kernel) ?_;refine iH rfl (by decide +kernel) ?_;refine oo rfl (by decide +kernel) ?_;exact⟨_,rfl,a,_,_,_,rfl,rfl,eB.of ha,rfl,_,rfl,b,v,xs,fs,d,fp,r,rfl,hb,ap,hW.1,hW.2.1,hW.2.2,hO,hR,q⟩
 |rows key by_ fs=>
  unfold KA at hk;obtain⟨a,b,xs,rfl,ha,hb,ap⟩:=hk;refine⟨_,rfl,a,_,_,_,rfl,rfl,eB.of ha,rfl,?_⟩;refine iH rfl (by decide +kernel) ?_;refine iH rfl (by decide +kernel) ?_;refine iH rfl (by decide +kernel) ?_;refine oo rfl (by decide +kernel) ?_;exact⟨_,rfl,_,rfl,a,b,v,xs,key,by_,fs,d,fp,r,rfl,ha,hb,ap,hW,hO,hR,q⟩
 |tree k=>
  unfold KA at hk;obtain⟨a,u,rfl,ha,hk⟩:=hk;unfold Kd.W at hW;refine⟨_,rfl,a,_,_,_,rfl,rfl,eB.of ha,rfl,?_⟩;refine iH rfl (by decide +kernel) ?_;refine iH rfl (by decide +kernel) ?_;refine iH rfl (by decide +kernel) ?_;refine iH rfl (by decide +kernel) ?_;refine oo rfl (by decide +kernel) ?_;exact⟨_,rfl,_,rfl,a,u,v,k,d,fp,r,rfl,ha,hk,hW,hO,hR,q⟩
 |gy fs=>
  unfold KA at hk;obtain⟨a,b,xs,rfl,ha,hb,ap⟩:=hk;unfold Kd.W at hW;refine⟨_,rfl,a,_,_,_,rfl,rfl,eB.of ha,rfl,?_⟩;refine iH rfl (by decide +kernel) ?_;refine iH rfl (by decide +kernel) ?_;refine iH rfl (by decide +kernel) ?_;refine iH rfl (by decide +kernel) ?_;refine iH rfl (by decide +kernel) ?_;exact⟨_,rfl,a,_,_,_,rfl,rfl,eB.of ha,rfl,_,rfl,b,v,xs,fs,d,fp,r,rfl,hb,ap,hW.1,hW.2.2.2,hO,hR,q⟩
def qO (J:It) (H:Hp) (xs:List V):Prop:=(∀i x,xs[i]? =some x->J.go i H)/\(∀i x H',J.ji i H x H'->H'=H/\xs[i]? =some x)/\J.stop xs.length H
theorem tZ {K:W.Frag}{H:Hp}{a:Addr}{xs:List V}(h:eB K H a xs):qO (mF K a) H xs:=⟨λ_ _ e=>⟨_,_,h,e⟩,λ_ _ _ y=>⟨y.1,y.2 _ h⟩,_,h,Q00 _⟩
theorem Hb {K:W.Frag}{H:Hp}{a:Addr}{xs:List V}(h:eG K H a xs):qO (mE K a) H xs:=⟨λ_ _ e=>⟨_,_,h,e⟩,λ_ _ _ y=>⟨y.1,y.2 _ h⟩,_,h,Q00 _⟩
def CW (F:Nat->List V) (n:Nat) (H:Hp) (i m:Nat) (ys:List V) (H':Hp):Prop:=m=n - i/\i<=n/\ys=F i/\(F i).length<=i/\H'=H
theorem t7 {J:It}{H:Hp}{xs:List V}{S:List V->Hp->Prop}{C:(Nat->Nat->List V->Hp->Prop)->Nat->Nat->List V->V->Hp->Prop}(U:qO J H xs)(F:Nat->List V)(aa:xs.length<=1000)
 (q:S (F xs.length) H) (step:∀i x,xs[i]? =some x->(∀y,F (i+1)=F i++[y]->∃L,L<xs.length - i/\CW F xs.length H (i+1) L (F i++[y]) H)->(F (i+1)=F i->∃L,L<xs.length - i/\CW F xs.length H (i+1) L (F i) H)->C (CW F xs.length H) i (xs.length - i) (F i) x H) (Y:F 0=[]:=by rfl):
 ∃W:Nat->Nat->List V->Hp->Prop,(∃m,W 0 m [] H)/\∀i m ys H',W i m ys H'->(J.stop i H'/\S ys H')\/(J.go i H'/\ys.length<sizeLine/\∀x I,J.ji i H' x I->C W i m ys x I):=by
 refine⟨CW F xs.length H,⟨_,rfl,Q0a _,Y.symm,by rw[Y];exact Q00 0,rfl⟩,?_⟩;rintro i m ys H' ⟨rfl,hi,rfl,hl,rfl⟩;by_cases z:i<xs.length
 . refine .inr ⟨U.1 i _ (Q02 z),gN (by omega),λx I y=>?_⟩;obtain⟨rfl,hx⟩:=U.2.1 _ _ _ y;exact step i x hx (λy e=>⟨_,Q1x _ _ z,rfl,z,e.symm,by rw[e,Q0c];exact Q3b hl,rfl⟩) (λe=>⟨_,Q1x _ _ z,rfl,z,e.symm,by rw[e];omega,rfl⟩)
 . cases Q2i hi (Q1 z);exact .inl ⟨U.2.2,q⟩
theorem take_add {α:Type}{l:List α}{i:Nat}{x:α}(h:l[i]? =some x):l.take (i+1)=l.take i++[x]:=by
 rw[Q0t,h];rfl
theorem Bh {α z:Type}{l:List α}{p:α->Bool}{f:α->z}{i:Nat}{x:α}(h:l[i]? =some x)(c:p x=true):((l.take (i+1)).filter p).map f=((l.take i).filter p).map f++[f x]:=by
 rw[take_add h,Q3c,Q1s,if_pos c,Q0k];rfl
theorem Bi {α z:Type}{l:List α}{p:α->Bool}{f:α->z}{i:Nat}{x:α}(h:l[i]? =some x)(c:¬p x=true):((l.take (i+1)).filter p).map f=((l.take i).filter p).map f:=by
 rw[take_add h,Q3c,Q1s,if_neg c,List.filter_nil,Q0u]
theorem Fs.t8:∀{fs:Fs}{x:Str}{k:Kd},fs.get x=some k->∃j,fs.at j=some (x,k)
 | .nil,_,_,h=>by cases h
 | .cons y q r,x,k,h=>by
   have h:(if x=y then some q else r.get x)=some k:=h;by_cases e:x=y
   . rw[if_pos e] at h
     cases h;exact⟨0,by rw[e];rfl⟩
   . rw[if_neg e] at h;obtain⟨j,z⟩:=Fs.t8 h;exact⟨j+1,z⟩
theorem Fs.t9 {fs:Fs}{i j:Nat}{x:Str}{k z:Kd}(I:fs.names.Nodup)(h1:fs.at i=some (x,k))(h2:fs.at j=some (x,z)):i=j:=by
 have J:fs.names[i]? =some x:=by rw[Fs.jD,h1];rfl
 have L:fs.names[j]? =some x:=by rw[Fs.jD,h2];rfl
 obtain⟨l1,U⟩:=List.getElem?_eq_some_iff.mp J;obtain⟨l2,Y⟩:=List.getElem?_eq_some_iff.mp L;exact(Q21 I).mp (U.trans Y.symm)
theorem t_ (i:Nat):(List.replicate i true).all id=true:=by
 rw[Q10];intro z I;rw[List.eq_of_mem_replicate I];rfl
def ny (n:Nat):Sp:=λvs H Q _=>∃z v1 v2 k d f1 f2,vs=[z,v1,v2]/\KA H z k/\k.W/\Own H v1 d f1/\Own H v2 d f2/\fg k d/\d.dep<=n/\d.Sm/\∀H',Same H H'->Q (.bl true) H'
theorem Hc:fo XF XE (eP (top 35)):=fM
theorem Hd (n:Nat)(T:Tb mg)(I:Dn K mg "_law_alike" iK (top 35) Y aa)(J:eE P w K mg base eI (n+1) Y aa iK (ny n)):eE P w K mg base eI ((n+1)+1) Y aa iK (ny (n+1)):=by
 refine I.F.ok Hc λvs H Q E h=>?_;obtain⟨kv,v1,v2,k,d,f1,f2,rfl,hk,hW,af,ag,hF,aq,ai,q⟩:=h;refine⟨rfl,λa7 A outer s nd hr hu=>?_⟩
 refine⟨_,(eF (eY (eW fE (eS (pv 0) b_) fm (eT _)) (eL (eO (kH (fA iq (by rfl) T.iw boot_isinstance (a_ (pv 1) (a_ (ik (v:=.ty "int") rfl T.sU boot_int rfl) c_))) (kH (ym (fA iq (by rfl) T.iw boot_isinstance (a_ (pv 1) (a_ (ik (v:=.ty "bool") rfl T.sV boot_bool rfl) c_)))) (j5 (jk fE (pv 1) (pv 2) (eT _))))))) eZ)
  (eF (eY (eW fE (eS (pv 0) b_) fm (eT _)) (eL (eO (kH (fA iq (by rfl) T.iw boot_isinstance (a_ (pv 1) (a_ (ik (v:=.ty "str") rfl T.sW boot_str rfl) c_))) (j5 (jk fE (pv 1) (pv 2) (eT _)))))) eZ)
  (eF (eY (eW fE (eS (pv 0) b_) fm (eT _)) (eF (eY (PW.pt (il (gY (gS (fA iq (by rfl) T.iw boot_isinstance (a_ (pv 1) (a_ (ik (v:=.ty "dict") rfl T.sX boot_dict rfl) c_))))) (iB (eW jj (fA sj (by rfl) T.gK PySem.boot_len (a_ (pv 1) c_)) (fA gZ (by rfl) T.gK PySem.boot_len (a_ (eS (pv 0) b_) c_)) (eT _))))) (eL (eO gR)) eZ)
  (eF (iS PassesOwn.never rfl (kJ (eS (pv 0) b_)) (jh rfl (gT (fX (i:=3) nd rfl gJ) (gT (fX (i:=4) nd rfl gJ) jg))) (eL (eY (PW.pt (il (rq (zc hu (pv 3) (pv 1)) (by with_unfolding_all rfl)) (iB (gY (gS (eV J hr I (a_ (pv 4) (a_ (iU hu (pv 1) (pv 3) (λ_ _=>rfl)) (a_ (iU hu (pv 2) (pv 3) (λ_ _=>rfl)) c_))))))))) (eL (eO gR)) eZ)))
  (eL (eO gR)))) eZ)
  (eF (eY (eW fE (eS (pv 0) b_) fm (eT _)) (eF (eY (PW.pt (il (gY (gS (fA iq (by rfl) T.iw boot_isinstance (a_ (pv 1) (a_ (ik (v:=.ty "list") rfl T.nh boot_list rfl) c_))))) (iB (eW jj (fA sj (by rfl) T.gK PySem.boot_len (a_ (pv 1) c_)) (fA gZ (by rfl) T.gK PySem.boot_len (a_ (pv 2) c_)) (eT _))))) (eL (eO gR)) eZ)
  (eL (eO (fA (pJ rfl) (by rfl) T.qf boot_all (a_ (kT (g:=(nS K 2 (j7 (gX 0) (j7 (gX 1) nR)))) (tt:=kQ) (te:=(lL _ _ _ (gp (kM (gp (tC (.str "record")) (gp (f_ (ic K) (fT 2) (tC (.int 3))) g8))) (gp (fT 0) (gp (fT 1) g8))))) (own:=["_law_a","_law_b"]) rfl (jY (N:=XF) (sc:=eP (top 35))) (sG rfl T.sT (a_ (pv 1) (a_ (pv 2) c_))) (λ_ _ _ _ _=>(jh rfl (gT (fX (i:=0) (show(XB:List Str).Nodup by decide +kernel) rfl (Or.inl rfl) (.inr rfl)) (gT (fX (i:=1) (show(XB:List Str).Nodup by decide +kernel) rfl (Or.inl rfl) (.inr rfl)) jg)))) (λ_ _ _ _ _=>mQ) (λ_ _ _ _ _=>(eV J hr I (a_ (f7 (a_ fm (a_ (eS (pv 2) b_) c_))) (a_ (pv 0) (a_ (pv 1) c_)))))) c_))))) eZ)
  (eF (eY (PW.pt (il (gY (gS (fA iq (by rfl) T.iw boot_isinstance (a_ (pv 1) (a_ (ik (v:=.ty "tuple") rfl T.qg boot_tuple rfl) c_))))) (iB (eW jj (fA sj (by rfl) T.gK PySem.boot_len (a_ (pv 1) c_)) b_ (eT _))))) (eL (eO gR)) eZ)
  (eF (eY (eW fE (eS (pv 0) b_) fm (eT _)) (eF (eY (PW.pt (il (gY (gS (fA iq (by rfl) T.iw boot_isinstance (a_ (eS (pv 1) b_) (a_ (ik (v:=.ty "str") rfl T.sW boot_str rfl) c_))))) (iB (eW jj (eS (pv 1) b_) (eS (pv 2) b_) (eT _))))) (eL (eO gR)) eZ)
  (eF (zm (i:=4) nd rfl gJ (g:=(gX 0)) (tt:=(jO (f_ j9 (f_ (ic K) (fT 0) (tC (.int 0))) (f_ (ic K) (fT 3) (tC (.int 0)))))) (te:=(f_ (ic K) (fT 0) (tC (.int 1)))) (own:=["_law_pair"]) rfl (jY (N:=XF) (sc:=eP (top 35))) (kJ (eS (pv 0) b_)) (λ_ _ _ _ _=>(fX (i:=0) (show(["_law_pair","_law_kind_here","_law_found","_law_due","_law_name","_law_inner"]:List Str).Nodup by decide +kernel) rfl (Or.inl rfl) (.inr rfl))) (λ_ _ _ _ _=>(pI (eW fE (eS (pv 0) b_) (eS (pv 3) b_) (eT _)))) (λ_ _ _ _ _=>(eS (pv 0) b_)))
  (eL (eO (eV J hr I (a_ (gO (pv 4) b_) (a_ (eS (pv 1) b_) (a_ (eS (pv 2) b_) c_)))))))) eZ)
  (eF (eY (PW.pt (il (gY (gS (fA iq (by rfl) T.iw boot_isinstance (a_ (eS (pv 1) b_) (a_ (ik (v:=.ty "list") rfl T.nh boot_list rfl) c_))))) (iB (eW jj (fA gZ (by rfl) T.gK PySem.boot_len (a_ (eS (pv 1) b_) c_)) (fA gZ (by rfl) T.gK PySem.boot_len (a_ (eS (pv 2) b_) c_)) (eT _))))) (eL (eO gR)) eZ)
  (eF (eY (gY (gS (eV J hr I (a_ (eS (pv 0) b_) (a_ (eS (pv 1) b_) (a_ (eS (pv 2) b_) c_)))))) (eL (eO gR)) eZ)
  (eL (eO (fA (pJ rfl) (by rfl) T.qf boot_all (a_ (kT (g:=(nS K 2 (j7 (gX 0) (j7 (gX 1) nR)))) (tt:=kQ) (te:=(lL _ _ _ (gp (fT 2) (gp (fT 0) (gp (fT 1) g8))))) (own:=["_law_a","_law_b"]) rfl (jY (N:=XF) (sc:=eP (top 35))) (sG rfl T.sT (a_ (eS (pv 1) b_) (a_ (eS (pv 2) b_) c_))) (λ_ _ _ _ _=>(jh rfl (gT (fX (i:=0) (show(XB:List Str).Nodup by decide +kernel) rfl (Or.inl rfl) (.inr rfl)) (gT (fX (i:=1) (show(XB:List Str).Nodup by decide +kernel) rfl (Or.inl rfl) (.inr rfl)) jg)))) (λ_ _ _ _ _=>mQ) (λ_ _ _ _ _=>(eV J hr I (a_ (pv 2) (a_ (pv 0) (a_ (pv 1) c_)))))) c_)))))))))))),?_⟩
 ac_rfl
 cases k with
 |num=>
  unfold KA at hk;obtain⟨a,rfl,ha⟩:=hk;unfold fg at hF;obtain⟨z,rfl⟩:=hF;unfold Own at af ag;obtain⟨rfl,rfl⟩:=af;obtain⟨rfl,rfl⟩:=ag;refine jU rfl ha rfl (by decide +kernel) ?_;refine⟨_,rfl,_,_,_,true,rfl,.int z,rfl,true,rfl,fF ?_⟩;refine⟨_,rfl,_,_,_,false,rfl,.int z,rfl,false,rfl,true,rfl,fF ?_⟩;refine⟨_,rfl,_,rfl,rfl,?_⟩;rw[decide_eq_true rfl];exact q _ (Same.refl _)
 |fC=>
  unfold KA at hk;obtain⟨a,rfl,ha⟩:=hk;unfold fg at hF;obtain⟨z,rfl⟩:=hF;unfold Own at af ag;obtain⟨rfl,rfl⟩:=af;obtain⟨rfl,rfl⟩:=ag;refine gw rfl ha rfl (by decide +kernel) ?_;refine jU rfl ha rfl (by decide +kernel) ?_;refine⟨_,rfl,_,_,_,true,rfl,.str _,rfl,true,rfl,fF ?_⟩;refine⟨_,rfl,_,rfl,rfl,?_⟩;rw[decide_eq_true rfl];exact q _ (Same.refl _)
 |fL fs=>
  unfold KA at hk;obtain⟨a,b,xs,rfl,ha,hb,ah⟩:=hk;unfold fg at hF;obtain⟨m,rfl,hF⟩:=hF;unfold Own at af ag;obtain⟨c1,aD,g1,rfl,L,rfl,aj⟩:=af;obtain⟨c2,a8,g2,rfl,ab,rfl,an⟩:=ag;unfold Kd.W at hW;unfold D.Sm at ai;simp only[D.dep] at aq;have aL:m.dep<=n:=by omega
  refine gw rfl ha rfl (by decide +kernel) ?_;refine gw rfl ha rfl (by decide +kernel) ?_;refine jU rfl ha rfl (by decide +kernel) ?_;have el:aD.length=xs.length:=by rw[eN.len aj,FA.len fs ah,hF.names]
  refine⟨_,rfl,_,_,_,true,rfl,.dK L,rfl,true,rfl,fe ?_⟩;refine⟨_,rfl,.inl ⟨c1,_,rfl,L,_,rfl,a,_,_,_,rfl,rfl,eB.of ha,rfl,b,_,rfl,.inr (eB.of hb),rfl,_,rfl,?_⟩⟩;refine jS (show V.int (aD.length:Nat)=V.int (xs.length:Nat) by rw[el]) ?_;refine⟨_,rfl,a,_,_,_,rfl,rfl,eB.of ha,rfl,b,rfl,⟨_,eB.of hb⟩,pz (xs:=xs) (λi σ H'=>Same H H'/\∃x y,σ=[some (.ref a),some (.ref c1),some (.ref c2),x,y]) ⟨Same.refl _,_,_,rfl⟩ ?_ ?_ ?_⟩
  . rintro i σ H' _ ⟨s2,_⟩;exact eB.of (s2 _ _ hb)
  . rintro i v σ H' hv ⟨s2,x,y,rfl⟩;obtain⟨c,u,nm,k,rfl,ac,hc,hk⟩:=FA.get fs ah hv;obtain⟨d,hd,al⟩:=hF.get (Fs.jV hW.1 ac);obtain⟨e1,f1,aU,aM,_⟩:=eN.val _ aj hd;obtain⟨e2,f2,aV,aP,_⟩:=eN.val _ an hd;have g1:gf H' c1 (.str nm) (some e1):=by have:=gf.k (k:=Sum.inr nm) (s2 _ _ L);rw[aU] at this;exact this
    have g2:gf H' c2 (.str nm) (some e2):=by have:=gf.k (k:=Sum.inr nm) (s2 _ _ ab);rw[aV] at this;exact this
    refine⟨c,_,rfl,eB.of (s2 _ _ hc),rfl,_,_,rfl,_,_,rfl,rfl,?_⟩;refine⟨_,rfl,_,rfl,c1,_,rfl,g1,false,rfl,fe ?_⟩;refine⟨_,rfl,_,rfl,_,rfl,c1,e1,rfl,g1,_,rfl,_,rfl,c2,e2,rfl,g2,u,e1,e2,k,d,f1,f2,rfl,KA.mono (Tu.of s2) k hk,Fs.lZ hW.2.2 ac,Own.same s2 aM,Own.same s2 aP,al,Q0f (Ds.p_ hd) aL,Ds.qE ai.2 hd,λH3 s3=>⟨true,rfl,fe ?_⟩⟩;exact⟨s2.trans s3,_,_,rfl⟩
  . rintro σ H' ⟨s2,_⟩;exact q _ s2
 |rows key by_ fs=>
  unfold KA at hk;obtain⟨a,b,xs,rfl,ha,hb,ah⟩:=hk;unfold fg at hF;obtain⟨rs,rfl,al,a6,a9⟩:=hF;unfold Own at af ag;obtain⟨c1,U,g1,rfl,L,rfl,aj⟩:=af;obtain⟨c2,ae,g2,rfl,ab,rfl,an⟩:=ag;unfold Kd.W at hW;unfold D.Sm at ai;simp only[D.dep] at aq;have ak:U.length=(fi rs).len:=eR.len _ aj;have ao:ae.length=(fi rs).len:=eR.len _ an;have aQ:=ai.1;refine gw rfl ha rfl (by decide +kernel) ?_;refine gw rfl ha rfl (by decide +kernel) ?_;refine gw rfl ha rfl (by decide +kernel) ?_;refine jU rfl ha rfl (by decide +kernel) ?_;refine⟨_,rfl,_,_,_,true,rfl,.lst L,rfl,true,rfl,fe ?_⟩;refine⟨_,rfl,.inr ⟨c1,_,rfl,.inl (eG.of L),_,rfl,c2,_,rfl,.inl (eG.of ab),rfl,_,rfl,jS (show V.int (U.length:Nat)=V.int (ae.length:Nat) by rw[ak,ao]) ?_⟩⟩;refine⟨_,rfl,_,rfl,c1,c2,rfl,⟨_,eG.of L⟩,⟨_,eG.of ab⟩,λi m zs H'=>m=U.length - i/\i<=U.length/\zs=(List.replicate i true).map V.bl/\Same H H',⟨U.length,rfl,Q0a _,rfl,Same.refl _⟩,?_⟩;rintro i mm zs H' ⟨rfl,aT,rfl,s2⟩;by_cases hi:i<U.length
  . have au:i<ae.length:=by omega
    refine .inr ⟨⟨U,ae,U[i],ae[i],eG.of (s2 _ _ L),eG.of (s2 _ _ ab),Q02 hi,Q02 au⟩,by rw[Q03,Q1p];exact gN (by omega),λx aW y=>?_⟩;obtain⟨p,x1,x2,hp,rfl,e1,e2,rfl⟩:=y;have e1:=e1 _ (eG.of (s2 _ _ L));have e2:=e2 _ (eG.of (s2 _ _ ab));obtain⟨d,fa,ac,av,_⟩:=eR.get _ aj e1;obtain⟨d',fb,am,aw,_⟩:=eR.get _ an e2;rw[ac] at am
    cases am;obtain⟨m,hm,rfl⟩:=AL ac;have aX:=oO m hm;have s3:Same H' (upd H' p (.tup [x1,x2])):=Same.new hp;have sa:=s2.trans s3;refine⟨p,_,rfl,eB.of eK,rfl,_,_,rfl,_,_,rfl,rfl,rfl,yes (fF ?_)⟩;refine⟨_,rfl,a,_,_,_,rfl,rfl,eB.of (sa _ _ ha),rfl,gF,λt ht=>?_⟩;have st:Same (upd H' p (.tup [x1,x2])) (upd (upd H' p (.tup [x1,x2])) t (.tup [.str "record",.ref b])):=Same.new ht;have sb:=sa.trans st;refine⟨_,rfl,_,rfl,.ref t,x1,x2,.fL fs,.dct m,fa,fb,rfl,?_,?_,Own.same sb av,Own.same sb aw,?_,by simp only[D.dep];omega,qF ai.2 m hm,λH3 s4=>?_⟩
    . unfold KA;exact⟨t,b,xs,rfl,eK,sb _ _ hb,FA.mono (Tu.of sb) fs ah⟩
    . unfold Kd.W;exact⟨hW.1,hW.2.1,hW.2.2.1⟩
    . unfold fg;exact⟨m,rfl,al m hm⟩
    . refine⟨U.length - (i+1),by omega,rfl,hi,?_,sb.trans s4⟩;rw[List.replicate_succ',Q0k];rfl
  . refine .inl ⟨⟨U,ae,eG.of (s2 _ _ L),eG.of (s2 _ _ ab),.inl (Q1 hi)⟩,λp hp=>⟨p,List.replicate i true,rfl,eG.of eK,?_⟩⟩;rw[t_];exact q _ (s2.trans (Same.new hp))
 |tree k=>
  have aY:=hk;unfold KA at hk;obtain⟨a,u,rfl,ha,aZ⟩:=hk;unfold fg at hF;have a1:=hW;unfold Kd.W at hW;obtain⟨x,y,t,as,rfl,a2,ah⟩:=hF.shape;obtain⟨c1,u1,w1,ax,ba,rfl,L,rfl,ay,aE⟩:=af.pair;obtain⟨c2,u2,w2,az,bb,rfl,ab,rfl,aA,aF⟩:=ag.pair;unfold Own at aE aF;obtain⟨l1,U,g1,rfl,ak,rfl,aj⟩:=aE;obtain⟨l2,ae,g2,rfl,ao,rfl,an⟩:=aF;simp only[D.dep,Ds.dep] at aq;unfold D.Sm Ds.Sm at ai;obtain⟨_,aG,ap⟩:=ai;unfold Ds.Sm at ap;have aB:=ap.1;unfold D.Sm at aB;have aQ:=aB.1;have a3:U.length=as.len:=eR.len _ aj;have a4:ae.length=as.len:=eR.len _ an;refine gw rfl ha rfl (by decide +kernel) ?_;refine gw rfl ha rfl (by decide +kernel) ?_;refine gw rfl ha rfl (by decide +kernel) ?_;refine gw rfl ha rfl (by decide +kernel) ?_;refine⟨_,rfl,_,_,_,true,rfl,.tup L,rfl,true,rfl,fe ?_⟩;refine⟨_,rfl,.inr ⟨c1,_,rfl,.inr (eB.of L),rfl,_,rfl,jS rfl ?_⟩⟩;refine gw rfl ha rfl (by decide +kernel) ?_;refine⟨_,rfl,c1,_,_,_,rfl,rfl,eB.of L,rfl,_,_,_,true,rfl,.lst ak,rfl,true,rfl,fe ?_⟩;refine⟨_,rfl,c1,_,_,_,rfl,rfl,eB.of L,rfl,l1,_,rfl,.inl (eG.of ak),_,rfl,c2,_,_,_,rfl,rfl,eB.of ab,rfl,l2,_,rfl,.inl (eG.of ao),rfl,_,rfl,jS (show V.int (U.length:Nat)=V.int (ae.length:Nat) by rw[a3,a4]) ?_⟩;refine⟨_,rfl,a,_,_,_,rfl,rfl,eB.of ha,rfl,_,rfl,c1,_,_,_,rfl,rfl,eB.of L,rfl,_,rfl,c2,_,_,_,rfl,rfl,eB.of ab,rfl,u,u1,u2,k,t,ax,az,rfl,aZ,hW,ay,aA,a2,by omega,aG,λH1 s1=>⟨true,rfl,fe ?_⟩⟩;refine⟨_,rfl,c1,_,_,_,rfl,rfl,eB.of (s1 _ _ L),rfl,_,rfl,c2,_,_,_,rfl,rfl,eB.of (s1 _ _ ab),rfl,l1,l2,rfl,⟨_,eG.of (s1 _ _ ak)⟩,⟨_,eG.of (s1 _ _ ao)⟩,λi m zs H'=>m=U.length - i/\i<=U.length/\zs=(List.replicate i true).map V.bl/\Same H H',⟨U.length,rfl,Q0a _,rfl,s1⟩,?_⟩;rintro i mm zs H' ⟨rfl,aT,rfl,s2⟩;by_cases hi:i<U.length
  . have au:i<ae.length:=by omega
    refine .inr ⟨⟨U,ae,U[i],ae[i],eG.of (s2 _ _ ak),eG.of (s2 _ _ ao),Q02 hi,Q02 au⟩,by rw[Q03,Q1p];exact gN (by omega),λx aW y=>?_⟩;obtain⟨p,x1,x2,hp,rfl,e1,e2,rfl⟩:=y;have e1:=e1 _ (eG.of (s2 _ _ ak));have e2:=e2 _ (eG.of (s2 _ _ ao));obtain⟨d,fa,ac,av,_⟩:=eR.get _ aj e1;obtain⟨d',fb,am,aw,_⟩:=eR.get _ an e2;rw[ac] at am
    cases am;have aX:=Ds.lY ac;have s3:Same H' (upd H' p (.tup [x1,x2])):=Same.new hp;have sa:=s2.trans s3;refine⟨p,_,rfl,eB.of eK,rfl,_,_,rfl,_,_,rfl,rfl,rfl,yes (fF ?_)⟩;refine⟨_,rfl,_,rfl,_,rfl,.ref a,x1,x2,.tree k,d,fa,fb,rfl,KA.mono (Tu.of sa) _ aY,a1,Own.same sa av,Own.same sa aw,(by unfold fg;exact iu.at ah ac),by omega,Ds.tH aB.2 ac,λH3 s4=>?_⟩;refine⟨U.length - (i+1),by omega,rfl,hi,?_,sa.trans s4⟩;rw[List.replicate_succ',Q0k];rfl
  . refine .inl ⟨⟨U,ae,eG.of (s2 _ _ ak),eG.of (s2 _ _ ao),.inl (Q1 hi)⟩,λp hp=>⟨p,List.replicate i true,rfl,eG.of eK,?_⟩⟩;rw[t_];exact q _ (s2.trans (Same.new hp))
 |gy fs=>
  unfold KA at hk;obtain⟨a,b,xs,rfl,ha,hb,ah⟩:=hk;unfold fg at hF;obtain⟨x,v',rfl,hE⟩:=hF;obtain⟨c1,z1,u1,bc,ax,rfl,L,rfl,aH,ay⟩:=af.pair;obtain⟨c2,z2,u2,bd,az,rfl,ab,rfl,aJ,aA⟩:=ag.pair;unfold Own at aH aJ;obtain⟨rfl,rfl⟩:=aH;obtain⟨rfl,rfl⟩:=aJ;unfold Kd.W at hW;simp only[D.dep,Ds.dep] at aq;unfold D.Sm Ds.Sm at ai;obtain⟨_,aG,ap⟩:=ai;unfold Ds.Sm at ap;obtain⟨k,ar,al⟩:=tQ hE;obtain⟨j,hj⟩:=Fs.t8 ar;obtain⟨c,u,aC,hc,a5⟩:=FA.at ah hj;have be:j<xs.length:=(List.getElem?_eq_some_iff.mp aC).1;have bf:xs.length<=12:=by rw[FA.len fs ah];exact hW.2.1
  refine gw rfl ha rfl (by decide +kernel) ?_;refine gw rfl ha rfl (by decide +kernel) ?_;refine gw rfl ha rfl (by decide +kernel) ?_;refine gw rfl ha rfl (by decide +kernel) ?_;refine⟨_,rfl,_,_,_,true,rfl,.tup L,rfl,true,rfl,fe ?_⟩;refine⟨_,rfl,.inr ⟨c1,_,rfl,.inr (eB.of L),rfl,_,rfl,jS rfl ?_⟩⟩;refine jU rfl ha rfl (by decide +kernel) ?_;refine⟨_,rfl,c1,_,_,_,rfl,rfl,eB.of L,rfl,_,_,_,true,rfl,.str _,rfl,true,rfl,fe ?_⟩;refine⟨_,rfl,c1,_,_,_,rfl,rfl,eB.of L,rfl,_,rfl,c2,_,_,_,rfl,rfl,eB.of ab,rfl,rfl,_,rfl,jS rfl ?_⟩;refine⟨_,rfl,a,_,_,_,rfl,rfl,eB.of ha,rfl,b,rfl,⟨_,eB.of hb⟩,t7 (tZ (eB.of hb)) (λi=>if j<i then [u] else []) (by omega) (λp hp=>?_) (λi z hv add skip=>?_) (if_neg (Q28 _))⟩
  . rw[if_pos (List.getElem?_eq_some_iff.mp aC).1];have s1:Same H (upd H p (.lst [u])):=Same.new hp
    exact⟨_,rfl,p,_,_,_,rfl,rfl,eG.of eK,g9 (j:=0) rfl,_,rfl,c1,_,_,_,rfl,rfl,eB.of (s1 _ _ L),rfl,_,rfl,c2,_,_,_,rfl,rfl,eB.of (s1 _ _ ab),rfl,
     u,u1,u2,k,v',ax,az,rfl,KA.mono (Tu.of s1) k a5,Fs.tR hW.2.2.2 ar,Own.same s1 ay,Own.same s1 aA,al,by omega,ap.1,λH2 s2=>q _ (s1.trans s2)⟩
  . obtain⟨d,w',nm,k',rfl,ac,hd,bg⟩:=FA.get _ ah hv;refine⟨rfl,_,rfl,d,_,_,_,rfl,rfl,eB.of hd,rfl,_,rfl,c2,_,_,_,rfl,rfl,eB.of ab,rfl,rfl,_,rfl,fJ (λcc=>?_) (λcc=>skip ?_)⟩
    . have e:nm=x:=by
       have:=of_decide_eq_true cc;injection this
      subst e
      cases Fs.t9 hW.1 ac hj;rw[aC] at hv
      cases hv;rw[hc] at hd
      cases hd;refine⟨_,rfl,c,_,_,_,rfl,rfl,eB.of hc,rfl,add _ ?_⟩;rw[if_neg (Q0l _),if_pos (Q0y _)];rfl
    . have ne:i≠j:=λe=>by
       subst e;rw[ac] at hj
       cases hj;exact cc (decide_eq_true rfl)
      by_cases aK:j<i
      . rw[if_pos aK,if_pos (by omega)]
      . rw[if_neg aK,if_neg (by omega)]
theorem Bj (T:Tb mg)(z:Dn K mg "_law_alike" iK (top 35) I J):∀n:Nat,eE P w K mg base eI (n+1) I J iK (ny n)
 |0=>by
  have L:∀vs H Q E,¬ny 0 vs H Q E:=λvs H Q E h=>by
   obtain⟨_,_,_,_,d,_,_,_,_,_,_,_,_,U,_⟩:=h;have:=d.kU;omega
  exact⟨λvs H Q E h=>absurd h (L vs H Q E),λA outer s H args us vs Q E _ _ _ _ h=>absurd h (L vs H Q E)⟩
 |n+1=>Hd n T z (Bj T z n)
theorem Bk {y q:Key}:j_ (kV y) (kV q)=true↔y=q:=by
 constructor
 . intro h
   cases y <;> cases q
   . exact congrArg Sum.inl (eq_of_beq (α:=Int) h)
   . cases h
   . cases h
   . exact congrArg Sum.inr (eq_of_beq (α:=Str) h)
 . rintro rfl
   cases y
   . exact BEq.rfl (α:=Int)
   . exact BEq.rfl (α:=Str)
theorem He {q:Key}{ps:List Key}:inV (kV q) (ps.map kV)=true↔q∈ps:=by
 unfold inV;rw[Q2e,Q2h];constructor
 . rintro⟨y,z,e⟩;rw[<-Bk.mp e];exact z
 . exact λh=>⟨q,h,Bk.mpr rfl⟩
theorem Bl (q:Key):jR (kV q)=true:=by cases q <;> rfl
theorem flat_keys {ps:List Key}:(ps.map kV).all jR=true:=by
 rw[List.all_map,Q10];exact λq _=>Bl q
theorem Hf {H:Hp}{o:Option Kd}{k:Kd}{d:D}{v:V}{L:List Addr}(e:o=some k)(hp:kW k)(I:fg k d)(J:Own H v d L):∃q,v=kV q/\d=kD q/\jc o q:=by
 subst e
 cases k with
 |num=>
  unfold fg at I;obtain⟨z,rfl⟩:=I;unfold Own at J;exact⟨.inl z,J.1,rfl,trivial⟩
 |fC=>
  unfold fg at I;obtain⟨z,rfl⟩:=I;unfold Own at J;exact⟨.inr z,J.1,rfl,trivial⟩
 |_=>exact hp.elim
def Bm (K:W.Frag) (Pt:Addr) (N:Nat):Sp:=λvs H Q _=>∃a b ns n pk pb xs key by_ fs,∃m:Nat,vs=[.ref a,.ref b,.ref pk,.int m]/\G0 K H a b ns n/\eQ Pt g_ hU H/\H pk=some (.tup [.str "rows",.str key,.str by_,.ref pb])/\H pb=some (.tup xs)/\FA H xs fs/\(Kd.rows key by_ fs).W/\m<=30/\n+100<=1000000000000/\24<=N/\
 ∀D (ps:List Key) n' H',ft b Pt H H'->H' b=some (.lst [.int n'])->n<=n'->n'<=n+m->eQ Pt g_ hU H'->H D=none->D≠b->H' D=some (.lst (ps.map kV))->ps.Nodup->ps.length<=m->(∀p∈ps,jc (fs.get key) p)->Q (.ref D) H'
theorem Hg:fo XU XS (eP (top 37)):=fM
theorem Hh {Pt:Addr}(N:Nat)(T:Tb mg)(Y:Dn K mg "_law_pool" qh (top 37) aa ab)(I:Dn K mg "_law_value" ia (top 34) J L)(U:eE P w K mg base eI (2 * N+5) J L ia (l_ K Pt N)):eE P w K mg base eI (2 * N+6) aa ab qh (Bm K Pt N):=by
 refine Y.F.ok Hg λvs H Q E h=>?_;obtain⟨a,b,ns,n,pk,pb,xs,key,by_,fs,m,rfl,g,hT,ar,au,am,hW,hm,hn,hN,q⟩:=h;refine⟨rfl,λaL A outer s nd hr hu=>?_⟩
 refine⟨_,(eF (eX 4 nd (gO (kT (g:=(gX 0)) (tt:=(jO (f_ j9 (f_ (ic K) (fT 0) (tC (.int 0))) (f_ (ic K) (fT 3) (tC (.int 1)))))) (te:=(f_ (ic K) (fT 0) (tC (.int 1)))) (own:=["_law_pair"]) rfl (jY (N:=XU) (sc:=eP (top 37))) (kJ (eS (pv 2) b_)) (λ_ _ _ _ _=>(fX (i:=0) (show(["_law_pair","_law_script","_law_at","_law_kind_here","_law_many","_law_lead","_law_pool_here","_law_k","_law_one"]:List Str).Nodup by decide +kernel) rfl (Or.inl rfl) (.inr rfl))) (λ_ _ _ _ _=>(pI (eW fE (eS (pv 0) b_) (eS (pv 3) b_) (eT _)))) (λ_ _ _ _ _=>(eS (pv 0) b_))) b_))
  (eF (eX 5 nd (fY c_))
  (eF (iS PassesOwn.never rfl (lF rfl T.kY (a_ (pv 3) c_)) (fX (i:=6) nd rfl gJ) (eF (eX 7 nd (eV U hr I (a_ (pv 0) (a_ (pv 1) (a_ (pv 4) (a_ b_ c_))))))
  (eL (eY (eW D6 (pv 7) (pv 5) (by with_unfolding_all rfl)) (eL (jM (lM PySem.F.plainAttrs_list PySem.F.slot_list_append PySem.F.type_list_append mL (pv 5) (a_ (pv 7) c_)))) eZ))))
  (eL (eO (pv 5)))))),?_⟩
 ac_rfl
 unfold Kd.W at hW;obtain⟨aF,aM,aG,aD,aP⟩:=hW;obtain⟨k,av,ae⟩:=aD;obtain⟨j,hj⟩:=Fs.t8 av;have aH:=FA.len fs am
 have an:j<xs.length:=by
  rw[aH];have:=Fs.jD fs j;rw[hj] at this;exact(List.getElem?_eq_some_iff.mp this).1
 obtain⟨cj,uj,aQ,kj,ej,al,aw,ax⟩:=FA.get fs am (Q02 an);rw[hj] at al
 cases al;refine⟨_,rfl,pk,_,_,_,rfl,rfl,eB.of ar,rfl,pb,rfl,⟨_,eB.of au⟩,t7 (tZ (eB.of au)) (λi=>if j<i then [uj] else []) (by omega) (λp hp=>?_) (λi z hv add skip=>?_) (if_neg (Q28 _))⟩
 case refine_2=>
  obtain⟨d,w',nm,k',rfl,ay,hd,aT⟩:=FA.get _ am hv;refine⟨rfl,_,rfl,d,_,_,_,rfl,rfl,eB.of hd,rfl,_,rfl,pk,_,_,_,rfl,rfl,eB.of ar,rfl,rfl,_,rfl,fJ (λcc=>?_) (λcc=>skip ?_)⟩
  . have e:nm=key:=by
     have:=of_decide_eq_true cc;injection this
    subst e
    cases Fs.t9 aF ay hj;rw[Q02 an,ej] at hv
    cases hv;rw[aw] at hd
    cases hd;refine⟨_,rfl,cj,_,_,_,rfl,rfl,eB.of aw,rfl,add _ ?_⟩;rw[if_neg (Q0l _),if_pos (Q0y _)];rfl
  . have ne:i≠j:=λe=>by
     subst e;rw[ay] at hj
     cases hj;exact cc (decide_eq_true rfl)
    by_cases az:j<i
    . rw[if_pos az,if_pos (by omega)]
    . rw[if_neg az,if_neg (by omega)]
 rw[if_pos an];have s1:Same H (upd H p (.lst [uj])):=Same.new hp;refine⟨p,_,_,_,rfl,rfl,eG.of eK,g9 (j:=0) rfl,?_⟩;generalize upd H p (.lst [uj])=H1 at s1;have hb:=g.at_;have aU:=hT.same s1;refine⟨ni,λpr aA=>?_⟩;have s2:=s1.trans (Same.new aA (o:=.lst []));have af:H pr=none:=s1.free aA;have ao:b≠pr:=eM hb af;have aV:=KA.mono (Tu.of s2) k ax;have ai:=hT.same s2;obtain⟨aW,hP⟩:=hT.tab;have jw:Pt≠pr:=eM hP af;have em:Int.toNat (m:Int)=m:=by omega
 refine⟨_,rfl,_,rfl,by omega,by omega,kL (n:=Int.toNat (m:Int)) (λi σ H'=>∃(x z:Option V) (ps:List Key) (n':Int),σ=[some (.ref a),some (.ref b),some (.ref pk),some (.int m),some uj,some (.ref pr),x,z]/\ft b Pt H H'/\H' b=some (.lst [.int n'])/\n<=n'/\n'<=n+i/\eQ Pt g_ hU H'/\H' pr=some (.lst (ps.map kV))/\ps.Nodup/\ps.length<=i/\∀p∈ps,jc (fs.get key) p) ?_ ?_ ?_⟩
 . exact⟨_,_,[],n,rfl,Kp.of s2,s2 _ _ hb,Q2g _,by omega,ai,eK,Q0w,Q00 _,λp hp=>nomatch hp⟩
 . intro i σ H' hi zq;obtain⟨x,z,ps,n',rfl,kp,ap,w1,w2,aq,ag,aj,ah,ak⟩:=zq;rw[em] at hi;have aB:=Fs.lZ aG hj;have aX:k.dep=1:=by cases k with|num=>rfl|fC=>rfl|_=>exact ae.elim
   have aY:kc k 0<=1:=by cases k with|num=>exact Q00 _|fC=>exact Q00 _|_=>exact ae.elim
   refine⟨_,rfl,_,rfl,_,rfl,a,b,ns,n',uj,k,0,rfl,ft.g0 kp g hT ap w1,aq,KA.mono (kp.tu hb hT) k ax,aB,by decide,(by have:=tw k 0;omega),by omega,λv H2 fp fU aC ai aE _ _=>?_⟩;have c2:=m9 ns k 0 n' (by decide);have aZ:k.cB<=1:=by cases k with|num=>exact Q00 _|fC=>exact Q00 _|_=>exact ae.elim
   obtain⟨qk,rfl,_,aJ⟩:=Hf av ae (p7 ns k aB 0 n' (by decide)) aE;generalize (val ns k 0 n').2=n2 at *;have ac:H2 pr=some (.lst (ps.map kV)):=fU pr _ (λz=>z.elim (Ne.symm ao) (Ne.symm jw)) ag;have jZ:=kp.trans fU;refine⟨_,rfl,_,rfl,pr,_,rfl,.inl (eG.of ac),Bl _,flat_keys,_,rfl,fJ (λcc=>?_) (λcc=>?_)⟩
   . have aK:qk ∉ ps:=λz=>by
      have cc:(!inV (kV qk) (ps.map kV))=true:=cc;rw[He.mpr z] at cc
      cases cc
     refine⟨_,rfl,.inl ⟨rfl,_,eG.of ac⟩,_,rfl,pr,_,_,rfl,rfl,ac,gN (by rw[Q03];omega),?_⟩;refine⟨_,_,ps++[qk],n2,rfl,λc o nc e=>?_,by rw[d_ ao];exact aC,by omega,by omega,ai.wr (.inl ⟨_,ac⟩),by rw[Q0k];exact eK,?_,by rw[Q0c];show ps.length+1<=i+1;omega,λp hp=>?_⟩
     . rw[d_ (eM e af)];exact jZ c o nc e
     . exact List.nodup_append.mpr ⟨aj,List.nodup_cons.mpr ⟨by simp,Q0w⟩,λa ha b hb e=>by rw[List.mem_singleton.mp hb] at e;rw[e] at ha;exact aK ha⟩
     . rcases List.mem_append.mp hp with z|z
       . exact ak p z
       . rw[List.mem_singleton.mp z];exact aJ
   . exact⟨_,_,ps,n2,rfl,jZ,aC,by omega,by omega,ai,ac,aj,by omega,ak⟩
 . intro σ H' zq;obtain⟨x,z,ps,n',rfl,kp,ap,w1,w2,aq,ag,aj,ah,ak⟩:=zq;rw[em] at w2 ah;exact⟨_,rfl,q pr ps n' H' kp ap w1 w2 aq af (Ne.symm ao) ag aj ah ak⟩
theorem Hi (xs:List V)(i:Nat):jP xs none (some (i:Int))=xs.take i:=by
 unfold jP;rw[HT.yR,HT.yS,List.drop_zero,Nat.sub_zero];exact List.take_eq_take_iff.mpr (by omega)
theorem Hj (xs:List V)(i:Nat):jP xs (some (i:Int)) none=xs.drop i:=by
 unfold jP;rw[HT.yR,HT.yS];rcases Nat.le_total i xs.length with h|h
 . rw[Nat.min_eq_left h];exact Q1c (by rw[Q0z];exact Q00 _)
 . rw[Nat.min_eq_right h,Q3d (Q00 _),Q3d h];simp
theorem Bo (T:Tb mg)(L:Dn K mg "misfit" iZ (top 8) ag ah)(z:Dn K mg "record_misfit" jo (top 9) ai aj)(aa:Dn K mg "has_just" jo (top 10) ao ap)(U:Dn K mg "rows_misfit" jn (top 11) am an)(af:Dn K mg "rank" l6 (top 15) ax ay)(I:Dn K mg "tree_misfit" ko (top 13) ac ae)(Y:Dn K mg "is_pair" l8 (top 12) aq ar)(J:Dn K mg "either_misfit" oH (top 14) ak al)(ab:Dn K mg "kind_at" l7 (top 6) au av):∀n:Nat,eE P w K mg base eI (4 * n+3) ag ah iZ (mr n)/\eE P w K mg base eI (4 * n+2) ac ae ko (oU n)
 |0=>⟨G_ T L,G6 T I⟩
 |n+1=>by
  obtain⟨M,Tr⟩:=Bo T L z aa U af I Y J ab n;have Ip:=GJ (P:=P) (w:=w) (base:=base) T Y;have R:=GU n T z aa (GL T aa) L M;have Ro:=GX n T U z R af (Ay T af);have aw:=G7 n T I Tr Y Ip L M;have Ei:=G9 n T J Y Ip ab (A_ T ab) L M;exact⟨Ha n T L z R U Ro I aw J Ei,aw⟩
end Pb
namespace L2
open Spec PyProof.Rows
def k9 (h:Heap) (C fI:Addr) (iN:List Value) (nid:String):Prop:=
 ∃tl N nm q bs z U sub Y I dd k0 k1 k2 k3 k5 J L,h.get? C=some (excClassObj nm q C N bs tl z U sub Y I dd k0 k1 k2 k3 k5 nid)/\h.Ns N J/\J "__init__"=some (.ref fI)/\OwnTail h iN tl/\h.get? fI=some L/\L.cls=.type "function"
theorem k9.keeps {h h':Heap}{C fI:Addr}{iN:List Value}{nid:String}(x:k9 h C fI iN nid)(k:∀b o,h.get? b=some o->h'.get? b=some o):k9 h' C fI iN nid:=by
 obtain⟨tl,N,nm,q,bs,z,J,sub,L,I,U,Y,k1,k2,k3,k5,mN,oI,h1,h2,h3,h4,h5,h6⟩:=x;exact⟨tl,N,nm,q,bs,z,J,sub,L,I,U,Y,k1,k2,k3,k5,mN,oI,k _ _ h1,h2.keeps k,h3,h4.keeps k,k _ _ h5,h6⟩
section
variable {prog:Program}{w:World}{A:Around}{E:Value->Shared->Prop}{hp:Heap}{g:Array GenState}{dr:Drawn}{tk:Nat}{os:OsState}{C fI:Addr}{iN:List Value}{B nid qP:String}
theorem Hk (FB:ExcBaseFacts B nid qP iN){us:List Value}{Q:Fin->Shared->Prop}(x:k9 hp C fI iN nid)
 (q1:∀h' e,Heap.MadeExcOf hp h' e (.ref C) us->wpAny (model prog w) A (call (.ref fI) (.ref e::us)) (λr s'=>r=.none/\Q (.done (.ret (.ref e))) s') E ⟨h',g,dr,tk,os⟩) (hl:us.length<=sizeLine):
 wpAny (model prog w) A (Builtin.«type.__call__» ⟨.ref C::us,[]⟩) Q E ⟨hp,g,dr,tk,os⟩:=by
 obtain⟨tl,N,nm,q,bs,ak,sn,sub,ab,al,dd,k0,k1,k2,k3,k5,mN,oI,cl,ns,ac,I,ae,af⟩:=x
 repeat (first|with_reducible refine wpAny_loadPart_at cl ?_|with_reducible refine wpAny_madeBy_exc cl ?_|wp_step)
 refine codeAny_call_builtin_code (Code.quiet_builtin _ FB.quiet) (wpAny_check_new_subT FB I cl (codeAny_exc_new_subT FB I cl ?_ hl));show wpAny _ _ _ _ _ _;generalize ag:({ cls:=.type "tuple",data:=.seq us.toArray }:Obj)=o1;generalize J:({ cls:=.ref C,data:=.fields #[.ref hp.objs.size,.none,.none,.none,.bool false,.none] }:Obj)=U;have up:∀b o,hp.get? b=some o->((hp.push o1).push U).get? b=some o:=λb o e=>Q08 _ (Q08 _ e);have Y:=up _ _ cl;have ah:((hp.push o1).push U).Ns N mN:=ns.keeps up;have aa:=up _ _ ae;have L:=I.keeps up
 have ex:((hp.push o1).push U).get? (hp.objs.size+1)=some U:=by
  subst J;exact Q2j (by rw[Q1m]) rfl
 have ai:U.cls=.ref C:=by rw[<-J]
 have aj:(Value.ref C::tl).contains (.ref C)=true:=by simp
 unfold isInstance
 repeat (first|(with_reducible refine wpAny_loadPart_at ex ?_;rw[ai])|(with_reducible refine wpAny_isSubtype_exc Y ?_;rw[aj])|wp_step)
 show wpAny _ _ (typeLookup (.ref C) _) _ _ _;refine wpAny_typeLookup_tail Y ah L FB.mroIs FB.init.lookup ?_;rw[ac];refine wpAny_holding (Q0 ?_);unfold bindSpecial;refine Q0 (wpAny_typeOf (T:="function") ⟨_,aa,af⟩ ?_);rw[if_pos (by decide)];refine Q09 (Q0 (Q0m (q1 _ (hp.objs.size+1) ⟨up,Q20 (Q17 _),hp.objs.size,?_,Q20 (Q00 _),?_⟩) (λr s' hr=>?_) λ_ _ z=>z))
 . rw[ex,<-J]
 . rw[<-ag];exact Q08 _ (Q2j rfl rfl)
 . obtain⟨rfl,hQ⟩:=hr
   wp_walk
   exact hQ
theorem Hl (FB:ExcBaseFacts B nid qP iN){us:List Value}{Q:Value->Shared->Prop}(x:k9 hp C fI iN nid)
 (J:∀h' e,Heap.MadeExcOf hp h' e (.ref C) us->wpAny (model prog w) (A.under (.builtin "type.__call__" ⟨.ref C::us,[]⟩)) (call (.ref fI) (.ref e::us)) (λr s'=>r=.none/\Q (.ref e) s') E ⟨h',g,dr,tk,os⟩) (hl:us.length<=sizeLine):
 wpAny (model prog w) A (call (.ref C) us) Q E ⟨hp,g,dr,tk,os⟩:=by
 have Y:=tc_lookup;have aa:=tc_bind (.ref C);have L:=x;obtain⟨tl,N,nm,q,bs,z,sn,sub,ab,ac,dd,k0,k1,k2,k3,k5,mN,oI,cl,ns,ae,I,af,ag⟩:=L;have ty:(⟨hp,g,dr,tk,os⟩:Shared).TypeIs (.ref C) "type":=⟨_,cl,rfl⟩;refine wpAny_call (codeAny_of_tree ?_);show wpAny _ _ (callAny (.ref C) _) _ _ _
 repeat (any_goals (first|assumption|with_reducible refine wpAny_loadPart_at cl ?_|wp_step))
 exact⟨rfl,codeAny_call_builtin_at (Code.quiet_builtin _ (by decide +kernel)) entry_typeCall (wpAny_check_type_call_sub cl (Hk FB x (λh' e U=>J h' e U) hl))⟩
end
theorem Hm {M:Model}{A:Around}{E:Value->Shared->Prop}{env:Env}{s:Shared}{x:Sem Value}{Q:Flow->Shared->Prop}(hh:A.handled=none)
 (h:wpAny M A x (λv J=>∃(e C:Addr) (L:Obj) (t:Value) (r:Array Value),v=.ref e/\J.heap.get? e=some L/\L.cls=.ref C/\L.data=.fields #[t,.none,.none,.none,.bool false,.none]/\
   (∃tl N nm q bs I sn sub ab U dd k0 k1 k2 k3 k5 nid,J.heap.get? C=some (excClassObj nm q C N bs tl I sn sub ab U dd k0 k1 k2 k3 k5 nid)/\tl.contains (.type "BaseException")=true)/\E (.ref e) J) E s):
 wpAny M A (raiseStmt env (some x) none) Q E s:=by
 unfold raiseStmt;refine Q0 (Q0m h (λv J h1=>?_) λ_ _ z=>z);obtain⟨e,C,L,t,r,rfl,he,hc,Y,⟨tl,N,nm,q,bs,I,sn,sub,ab,U,dd,k0,k1,k2,k3,k5,nid,cl,hb⟩,hE⟩:=h1;have aa:(Value.ref C::tl).contains (.type "BaseException")=true:=by rw[List.contains_cons,hb,Bool.or_true]
 obtain⟨hp,g,dr,tk,os⟩:=J;obtain⟨oc,od,ac,ae⟩:=L;have hc:oc=.ref C:=hc;have Y:ac=.fields #[t,.none,.none,.none,.bool false,.none]:=Y;subst hc;subst Y
 repeat (first|with_reducible refine wpAny_loadPart_at he ?_|with_reducible refine wpAny_loadPart_at cl ?_|(with_reducible refine wpAny_isSubtype_exc cl ?_;rw[aa])|wp_step)
 exact wpAny_raiseNew_none hh hE
end L2
namespace L2
open Spec Calls PyProof.Rows W Builtin Builtin.ObjectAttr
noncomputable def qQ:List Value->Bool
 | .ref _::r=>qQ r
 |l=>l == [.type "ValueError",.type "Exception",.type "BaseException",.type "object"]
theorem Bp {self:Value}:∀{l:List Value},qQ l=true->refuseLoop self "__setattr__" l=pure ()
 |[],h=>by cases h
 | .ref C::r,h=>by
   rw[refuseLoop_ref];exact Bp (l:=r) h
 | .type n::r,h=>by
   have e:Value.type n::r=[.type "ValueError",.type "Exception",.type "BaseException",.type "object"]:=beq_iff_eq.mp h;rw[e];exact F.store_ValueError.passes self
 | .none::r,h=>by cases beq_iff_eq.mp (show(Value.none::r == _)=true from h)
 | .bool b::r,h=>by cases beq_iff_eq.mp (show(Value.bool b::r == _)=true from h)
 | .int i t::r,h=>by cases beq_iff_eq.mp (show(Value.int i t::r == _)=true from h)
 | .str x t::r,h=>by cases beq_iff_eq.mp (show(Value.str x t::r == _)=true from h)
 | .bytes x t::r,h=>by cases beq_iff_eq.mp (show(Value.bytes x t::r == _)=true from h)
 | .float x t::r,h=>by cases beq_iff_eq.mp (show(Value.float x t::r == _)=true from h)
 | .builtin x::r,h=>by cases beq_iff_eq.mp (show(Value.builtin x::r == _)=true from h)
 | .ellipsis::r,h=>by cases beq_iff_eq.mp (show(Value.ellipsis::r == _)=true from h)
 | .notImplemented::r,h=>by cases beq_iff_eq.mp (show(Value.notImplemented::r == _)=true from h)
structure k_ (K:Frag) (C:Addr) (name:Str):Prop where
 sa:findIn K (.ref C) "__setattr__"=some (some (.builtin "object.__setattr__"))
 na:findIn K (.ref C) name=some none
 ob:mroIn K C (.type "object")=some true
 row:((clsIn K C).any λcd=>qQ cd.mro && cd.hasDict)=true
section
variable {prog:Program}{w:World}{A:Around}{E:Value->Shared->Prop}{s:Shared}{K:Frag}{x C:Addr}{ox:Obj}{name:Str}{v:Value}
theorem Hn {R:Result->Shared->Prop}{tk:Tok}(X:K.In s.heap)(Z:k_ K C name)(Y:s.heap.get? x=some ox)(hc:ox.cls=.ref C)
 (h:wpAny (model prog w) A.in1 (storeInOwnDict (.ref x) (.ref C) (.str name tk) name v false) (λfin s'=>match fin with| .done f=>R (.ok f) s'| .again c'=>c'.quiet=true/\codeAny (model prog w) A c' R s') (λe s'=>R (.error e) s') s):
 codeAny (model prog w) A (.call (.builtin "object.__setattr__") ⟨[.ref x,.str name tk,v],[]⟩) R s:=by
 have I:=PySem.F.store_object
 have L:Looks (model prog w) s.heap (typeOf (.ref x)) (.ref C):=by
  have z:Looks (model prog w) s.heap (typeOf (.ref x)) ox.cls:=(Looks.ld Y).andThen .now;rw[hc] at z;exact z
 have Lo:Looks (model prog w) s.heap (isInstance (.ref x) (.type "object")) true:=L.andThen (looks_mroIn X Z.ob);obtain⟨cd,U,J⟩:=any_some Z.row;have hr:=(Bool.and_eq_true_iff.mp J).1;have Lm:Looks (model prog w) s.heap (mroOf (.ref C)) cd.mro:=(looks_clsIn X U).andThen .now;refine codeAny_call_builtin I.slot.plain I.entry (@check_slot (model prog w) _ _ s "object.__setattr__" "object" "__setattr__" (.ref x) [.str name tk,v] [] _ I.kind I.split Lo (I.args (.ref x) (.str name tk) v) ?_);rw[osa_eq,refuse_eq];refine Q0 (Q0 (L.here (Q0 (Lm.here ?_))));rw[Bp hr];refine Q09 (Q0 (L.here (Q0 ((looks_findIn X Z.na).here (Q0 ?_)))));exact(show Looks (model prog w) s.heap (storeTaker? none) none from .now).here h
theorem Ho {Q:Unit->Shared->Prop}{vs:Array Value}(X:K.In s.heap)(Z:k_ K C name)(J:s.heap.get? x=some ox)(hc:ox.cls=.ref C)(z:ox.dict=none)(hd:ox.data=.fields vs)
 (h:∀h' af,h'.Ns1 s.heap.objs.size (λy=>if y=name then some v else none)->h'.get? x=some { ox with dict:=some s.heap.objs.size }->(∀b o,b≠x->s.heap.get? b=some o->h'.get? b=some o)->Q () { s with heap:=h',toks:=af }):
 wpAny (model prog w) A (setAttr (.ref x) name v) Q E s:=by
 have I:InstAt s.heap x ox C none:=⟨J,hc,by unfold notCls;rw[hd],by rw[z];trivial⟩;refine set_plain X I Z.sa (Hn (s:={ s with toks:=s.toks+1 }) X Z J hc ?_);obtain⟨cd,ag,ac⟩:=any_some Z.row;have ae:=(Bool.and_eq_true_iff.mp ac).2;obtain⟨oc,od,ah,L⟩:=ox;have hc:oc=.ref C:=hc;have z:od=none:=z;have hd:ah=.fields vs:=hd;subst hc;subst z;subst hd;have Lc:=looks_clsIn (M:=model prog w) X ag;obtain⟨hp,g,dr,tk,os⟩:=s;have J:hp.get? x=some ⟨.ref C,none,.fields vs,L⟩:=J;have U:x≠hp.objs.size:=Q07 (Q01 J);unfold storeInOwnDict;refine Q0 (Q09 ?_);refine Q0 ?_;show wpAny _ _ (instanceDict x true) _ _ _;unfold instanceDict;refine Q0 (wpAny_loadPart J (Q0 (Lc.at ?_)));rw[ae];rw[if_neg (by decide)];show wpAny _ _ (if(!true || !typeHasDict (.ref C))=true then _ else _) _ _ _;rw[if_neg (by simp[typeHasDict])];show wpAny _ _ (alloc _ >>= _) _ _ _;have Y:(hp.push { cls:=.type "dict",data:=.dict #[] }).get? x=some ⟨.ref C,none,.fields vs,L⟩:=Q08 _ J;refine Q0 (wpAny_alloc' (Q0 (wpAny_update' Y (Q09 ?_))));generalize hH:(hp.push { cls:=.type "dict",data:=.dict #[] }).update x (λo=>{ cls:=o.cls,dict:=some hp.objs.size,data:=o.data,slots:=o.slots })=h1
 have gd:h1.get? hp.objs.size=some { cls:=.type "dict",data:=.dict #[] }:=by
  rw[<-hH];exact(Q2c _ _ _ _ U.symm).trans (Q2j rfl rfl)
 have gx:h1.get? x=some ⟨.ref C,some hp.objs.size,.fields vs,L⟩:=by
  rw[<-hH];exact Q1d _ Y rfl
 have go:∀b o,b≠x->hp.get? b=some o->h1.get? b=some o:=λb o hb e=>by
  rw[<-hH];exact(Q2c _ _ _ _ hb).trans (Q08 _ e)
 have ai:h1.Ns hp.objs.size (λ_=>none):=⟨_,#[],_,gd,rfl,(λe he=>absurd he (by simp)),λ_=>rfl⟩;show wpAny _ _ (storeInDict hp.objs.size (.str name tk) name v) _ _ _;unfold storeInDict newKeyGuard;refine Q0 (Q09 (Q0 (wpAny_nsSet1 (Heap.Ns1.of_empty ai) λh2 aa ab=>?_)));obtain⟨oD,am,an,aj,ak,al⟩:=aa.count (PySem.Within.cons name v PySem.Within.nil);refine Q0 (wpAny_lookBehind aj (by rw[ak];exact pastItsLine_dict (Q0f al (by rw[Q0g,Q25,sizeLine_eq];omega))) ?_);exact Q09 (h h2 _ aa ((ab.2 x U).trans gx) λb o hb e=>(ab.2 b (Q07 (Q01 e))).trans (go b o hb e))
end
end L2
namespace L2
open Spec Calls PyProof.Rows W Builtin Builtin.ObjectAttr Builtin.Getset_descriptor
section
variable {prog:Program}{w:World}{A:Around}{E:Value->Shared->Prop}{K:Frag}{h:Heap}{g:Array GenState}{d:Drawn}{t:Nat}{os:OsState}{a C dx:Addr}{o:Obj}{vs:Array Value}{mA:Str->Option Value}{name:Str}{v:Value}
theorem Hq {tk:Tok}{Q:Fin->Shared->Prop}(X:K.In h)(Z:mV K C)(Y:k_ K C name)(hx:h.get? a=some o)(hc:o.cls=.ref C)(hd:o.data=.fields vs)(L:o.dict=some dx)(hn:h.Ns dx mA)(hv:mA name=some v)(hq:Q (.done (.ret v)) ⟨h,g,d,t,os⟩):
 wpAny (model prog w) A (Builtin.«object.__getattribute__» ⟨[.ref a,.str name tk],[]⟩) Q E ⟨h,g,d,t,os⟩:=by
 obtain⟨cd,z,U⟩:=any_some Y.row;have I:=(Bool.and_eq_true_iff.mp U).2;have L1:=looks_findIn (M:=model prog w) X Y.na;have L2:=looks_clsIn (M:=model prog w) X z;obtain⟨oc,od,aa,ab⟩:=o;have hc:oc=.ref C:=hc;have hd:aa=.fields vs:=hd;have L:od=some dx:=L;subst hc;subst hd;subst L
 have hC:∃c' d' J,h.get? C=some ⟨c',d',.cls cd,J⟩:=by
  unfold clsIn at z;split at z
  . rename_i c' d' ac J ho
    cases z;exact⟨c',d',J,X _ _ ho⟩
  . cases z
 obtain⟨c',d',J,hC⟩:=hC;obtain⟨c1,c2,c3,c4,c5,c6,c7,c8,c9,ae,af⟩:=cd;have I:c6=true:=I;subst I
 repeat (any_goals (first|assumption|with_reducible refine wpAny_loadPart_at hx ?_|with_reducible refine wpAny_loadPart_at hC ?_|with_reducible refine L1.at ?_|(with_reducible refine wpAny_nsGet hn ?_;rw[hv])|wp_step))
theorem Hr {tk:Tok}{fill z:Bool}{Q:Value->Shared->Prop}(X:K.In h)(Z:mV K C)(Y:k_ K C name)(I:h.get? a=some o)(hc:o.cls=.ref C)(U:o.data=.fields vs)(J:o.dict=some dx)(hn:h.Ns dx mA)(hv:mA name=some v)(hh:handedOut v=pure v)(hq:Q v ⟨h,g,d,t,os⟩):
 wpAny (model prog w) A (getAttrBy (.ref a) (.str name tk) fill z) Q E ⟨h,g,d,t,os⟩:=by
 have f3:=F.attr_ValueError.ga.bind (.ref a);have aa:(z && onTheHeap (Value.builtin "BaseException.__getattribute__"))=false:=by cases z <;> rfl
 have L:(Value.builtin "BaseException.__getattribute__" == Value.builtin "object.__getattribute__")=false:=by decide +kernel
 have ab:(onTheHeap (Value.ref C) && Value.builtin "BaseException.__getattribute__" == Value.builtin "object.__getattribute__")=false:=by rw[L];rfl
 have L1:=looks_findIn (M:=model prog w) X Z.ga;have L2:=looks_findIn (M:=model prog w) X Z.gt
 repeat (any_goals (first|assumption|(with_reducible refine wpAny_loadPart_at I ?_;rw[hc])|with_reducible refine L1.at ?_|with_reducible refine L2.at ?_|wp_step))
 refine codeAny_call_builtin F.attr_ValueError.ga.plain F.entry_bexc_ga (Fv X Z I hc (Hq X Z Y I hc U J hn hv ?_))
 repeat (any_goals (first|assumption|wp_step))
theorem Hs {z:Bool}{Q:Value->Shared->Prop}(X:K.In h)(Z:mV K C)(Y:k_ K C name)(J:h.get? a=some o)(hc:o.cls=.ref C)(L:o.data=.fields vs)(I:o.dict=some dx)(U:h.Ns dx mA)(hv:mA name=some v)(hh:handedOut v=pure v)(hq:Q v ⟨h,g,d,t+1,os⟩):
 wpAny (model prog w) A (getAttr (.ref a) name z) Q E ⟨h,g,d,t,os⟩:=by
 unfold getAttr
 repeat (any_goals (first|assumption|with_reducible apply Hr X Z Y J hc L I U hv hh|wp_step))
end
end L2
namespace L2
open Spec PyProof.Rows
section
variable {M:Model}{A:Around}{E:Value->Shared->Prop}{s:Shared}
structure js (h:Heap) (e T:Addr) (cls:Value) (dd:Option Addr) (fl:Value):Prop where
 ex:∃oe vs,h.get? e=some oe/\oe.cls=cls/\oe.dict=dd/\oe.data=.fields vs/\vs[1]? =some (.ref T)
 tb:∃oT ts,h.get? T=some oT/\oT.data=.fields ts/\ts[3]? =some fl
 ne:T≠e
theorem qR {e T:Addr}{cls fl:Value}{J:Option Addr}{Q:Unit->Shared->Prop}(t:js s.heap e T cls J fl)(h:∀h',js h' e T cls J .none->(∀b o,b≠T->s.heap.get? b=some o->h'.get? b=some o)->(∃o',h'.get? T=some o')->Q () { s with heap:=h' }):wpAny M A (setFlight (.ref e) none) Q E s:=by
 obtain⟨⟨L,vs,U,hc,I,Y,h1⟩,⟨oT,ts,hT,z,h3⟩,ne⟩:=t;have em:Obj.mapFields (·.setIfInBounds 3 ((none:Option Addr).elim Value.none λf=>rawInt f)) oT={ oT with data:=.fields (ts.setIfInBounds 3 .none) }:=sH z;have hsz:=(Array.getElem?_eq_some_iff.mp h3).1;unfold setFlight;refine Q0 (wpAny_field U Y h1 ?_);rw[if_pos (show(Value.ref T != Value.none)=true by simp)];have self:=Q1d (Obj.mapFields (·.setIfInBounds 3 ((none:Option Addr).elim Value.none λf=>rawInt f))) hT (by rw[em];exact Obj.isFreed_of_fields rfl);rw[em] at self
 have oth:∀b o,b≠T->s.heap.get? b=some o->(s.heap.update T (Obj.mapFields (·.setIfInBounds 3 ((none:Option Addr).elim Value.none λf=>rawInt f)))).get? b=some o:=λb o hb ho=>by
  rw[Q15 _ _ (Ne.symm hb)];exact ho
 exact wpAny_setField hT z hsz (h _ ⟨⟨L,vs,oth e L (Ne.symm ne) U,hc,I,Y,h1⟩,⟨_,_,self,rfl,by simp[hsz]⟩,ne⟩ oth ⟨_,self⟩)
theorem Bq {base:Heap}{env:Env}{outer:List Env}{L e T:Addr}{cls:Value}{dd:Option Addr}{Q:Unit->Shared->Prop}(ac:A.frames=some (env::outer))(hl:s.heap.FunFrames base (env::outer))(hf:env.frame=some L)(t:js s.heap e T cls dd .none)
 (h:∀(h':Heap) (T':Addr),s.heap.objs.size<=T'->(∀b o,b ∉ frs (env::outer)->b≠e->b≠T->s.heap.get? b=some o->h'.get? b=some o)->(∀b o,b≠e->b≠T->s.heap.get? b=some o->∃sl,h'.get? b=some { o with slots:=sl })->(∃o,h'.get? T=some o)->js h' e T' cls dd (rawInt L)->Q () { s with heap:=h' }):
 wpAny M A (noteFrame (.ref e) env) Q E s:=by
 obtain⟨⟨oe,vs,he,hc,ae,hd,h1⟩,⟨oT,ts,hT,J,h3⟩,ne⟩:=t;have hsz:=(Array.getElem?_eq_some_iff.mp h3).1;have em:Obj.mapFields (·.setIfInBounds 3 Value.none) oT={ oT with data:=.fields (ts.setIfInBounds 3 .none) }:=sH J;unfold noteFrame;simp only[hf];refine Q0 (wpAny_field he hd h1 ?_);rw[if_pos (show(Value.ref T != Value.none)=true by simp)];refine Q0 (wpAny_field hT J h3 ?_);rw[if_neg (show ¬(Value.none == rawInt L)=true by simp[rawInt])];refine Q0 (wpAny_setField hT J hsz ?_);have self:=Q1d (Obj.mapFields (·.setIfInBounds 3 Value.none)) hT (by rw[em];exact Obj.isFreed_of_fields rfl);rw[em] at self
 have oth:∀b o,b≠T->s.heap.get? b=some o->(s.heap.update T (Obj.mapFields (·.setIfInBounds 3 Value.none))).get? b=some o:=λb o hb I=>by
  rw[Q15 _ _ (Ne.symm hb)];exact I
 have nT:∀b o,s.heap.get? b=some o->(∀vs,o.data≠ .fields vs)->b≠T:=λb o I hn z=>by
  rw[z,hT] at I
  cases I;exact hn ts J
 have aa:(s.heap.update T (Obj.mapFields (·.setIfInBounds 3 Value.none))).objs.size=s.heap.objs.size:=Q2b _ _ _;refine zP (s:={ s with heap:=s.heap.update T (Obj.mapFields (·.setIfInBounds 3 Value.none)) }) ac (hl.of_keeps λb o I hn=>⟨o,oth b o (nT b o I hn) I,rfl⟩) hf (oth e oe (Ne.symm ne) he) hd (Array.getElem?_eq_some_iff.mp h1).1 λh' T' af hP ag ah=>?_;have ab:s.heap.objs.size<=T':=by rw[<-aa];exact af
 refine h h' T' ab (λb o hb U Y I=>hP.1 b o hb U (oth b o Y I)) (λb o U Y I=>hP.2 b o U (oth b o Y I)) ?_ ⟨⟨_,_,ag,hc,ae,rfl,by simp[(Array.getElem?_eq_some_iff.mp h1).1]⟩,ah,?_⟩
 . obtain⟨sl,hs⟩:=hP.2 T _ ne self;exact⟨_,hs⟩
 . have h1:e<s.heap.objs.size:=Q01 he;exact λz=>Q0l e (Q06 h1 (by rw[<-z];exact ab))
end
section
variable {X:Cx}{pins:List (Addr × Obj)}{σ:St}{H:Hp}{s:Shared}
theorem Inv.Hu (I:Inv X pins σ H s)(hex:X.ex=[])(J:X.stack=X.env::X.outer)(ab:X.env.frame=some X.env.locals){a T:Addr}{cls:Value}{dd:Option Addr}{Q:Unit->Shared->Prop}{E:Value->Shared->Prop}{M:Model}(t:js s.heap a T cls dd .none)
 (ha:X.s₀.heap.get? a=none) (hT:X.s₀.heap.get? T=none) (na:H a=none) (nT:H T=none)
 (q:∀(h':Heap) (T':Addr),js h' a T' cls dd .none->X.s₀.heap.get? T'=none->H T'=none->Un (frs X.outer) [] X.H₀ H X.s₀.heap h'->f9 X.prog X.w H h'->Q () { s with heap:=h' }):
 wpAny M X.A (leaving X.env (.ref a)) Q E s:=by
 have ac:X.A.frames=some (X.env::X.outer):=by rw[<-J];exact I.ok.frames
 have hl:s.heap.FunFrames X.base (X.env::X.outer):=by rw[<-J];exact I.stack
 unfold leaving;refine Q0 (Bq ac hl ab t λh1 T1 L k1 k2 af t1=>?_);refine qR (s:={ s with heap:=h1 }) t1 λh2 t2 k3 ag=>?_;have ae:H T1=none:=I.hok.fresh L
 have aa:∀b o,s.heap.get? b=some o->b≠T1:=λb o e z=>by
  have h3:=Q01 e;rw[z] at h3;exact Q0l _ (Q06 h3 L)
 obtain⟨u,ok⟩:=I.zR hex (h':=h2) ha hT na nT (λb o hb U Y e=>k3 b o (aa b o e) (k1 b o (by rw[<-J];exact hb) U Y e)) (λb o U Y e=>by
  obtain⟨sl,e1⟩:=k2 b o U Y e;exact⟨sl,k3 b _ (aa b o e) e1⟩)
 exact q h2 T1 t2 (I.mU hex (Heap.zQ L)) ae u ok
end
def jt (P:Program) (w:World):iE:=λouter H s E e s'=>∃(a T C:Addr) (z:Option Addr) (H':Hp),e=.ref a/\js s'.heap a T (.ref C) z .none/\s.heap.get? a=none/\s.heap.get? T=none/\H' a=none/\H' T=none/\s'.os=s.os/\AllBare s'.gens/\Un (frs outer) [] H H' s.heap s'.heap/\f9 P w H' s'.heap/\E (.ref C) z H'
theorem Hv {P:Program}{w:World}{K:W.Frag}{mg:Str->Option Value}{base:Heap}{N:List Str}{qual:Str}{scope:Scope}{f:Addr}{cd:Value}{A:Around}{outer:List Env}{s₀:Shared}{H₀:Hp}{E E':XK}(hE:∀C d H,E' C d H->E C d H):
 Passes (jt P w) (fh (jt P w) P w K mg base N qual scope f cd A outer s₀ H₀ E) E':=λpins σ H s e s' I h=>by
 obtain⟨a,T,C,dd,H',rfl,t,la,lT,na,nT,os,J,un,U,Y⟩:=h;obtain⟨hh,g,d,tk,aa⟩:=s';obtain rfl:aa=s.os:=os;have I':=I.call (h':=hh) (g':=g) (d':=d) (t':=tk) (ch:=[]) un U J (λb z=>absurd z (by simp));show wpAny (model P w) _ (leaving _ _) _ _ _;refine I'.Hu rfl rfl rfl t (I.mU rfl la) (I.mU rfl lT) na nT λh' T' t' ab ac ae L=>?_;exact⟨a,T',C,dd,H',rfl,t',I.mU rfl la,ab,na,ac,I'.os,J,ae,L,hE _ _ _ Y⟩
section
variable {M:Model}{A:Around}{E:Value->Shared->Prop}{s:Shared}
theorem Hw {base:Heap}{env:Env}{outer:List Env}{L e:Addr}{cls:Value}{dd:Option Addr}{J:Obj}{vs:Array Value}{Q:Unit->Shared->Prop}(aa:A.frames=some (env::outer))(hl:s.heap.FunFrames base (env::outer))(hf:env.frame=some L)
 (Y:s.heap.get? e=some J) (hc:J.cls=cls) (ab:J.dict=dd) (hd:J.data=.fields vs) (h1:vs[1]? =some .none)
 (h:∀(h':Heap) (U:Addr),s.heap.objs.size<=U->(∀b o,b ∉ frs (env::outer)->b≠e->s.heap.get? b=some o->h'.get? b=some o)->(∀b o,b≠e->s.heap.get? b=some o->∃sl,h'.get? b=some { o with slots:=sl })->js h' e U cls dd (rawInt L)->Q () { s with heap:=h' }):
 wpAny M A (noteFrame (.ref e) env) Q E s:=by
 have hsz:=(Array.getElem?_eq_some_iff.mp h1).1;unfold noteFrame;simp only[hf];refine Q0 (wpAny_field Y hd h1 ?_);rw[if_neg (by decide)];refine zP aa hl hf Y hd hsz λh' U I hP ac ae=>?_;refine h h' U I hP.1 hP.2 ⟨⟨_,_,ac,hc,ab,rfl,by simp[hsz]⟩,ae,λz=>?_⟩;have h3:=Q01 Y;rw[<-z] at h3;exact Q0l _ (Q06 h3 I)
end
section
variable {X:Cx}{pins:List (Addr × Obj)}{σ:St}{H:Hp}{s:Shared}
theorem Inv.Hx (I:Inv X pins σ H s)(hex:X.ex=[])(J:X.stack=X.env::X.outer)(aa:X.env.frame=some X.env.locals){a:Addr}{oe:Obj}{vs:Array Value}{cls:Value}{dd:Option Addr}{Q:Unit->Shared->Prop}{E:Value->Shared->Prop}{M:Model}
 (he:s.heap.get? a=some oe) (hc:oe.cls=cls) (ab:oe.dict=dd) (hd:oe.data=.fields vs) (h1:vs[1]? =some .none) (ha:X.s₀.heap.get? a=none) (na:H a=none)
 (q:∀(h':Heap) (T':Addr),js h' a T' cls dd .none->X.s₀.heap.get? T'=none->H T'=none->Un (frs X.outer) [] X.H₀ H X.s₀.heap h'->f9 X.prog X.w H h'->Q () { s with heap:=h' }):
 wpAny M X.A (leaving X.env (.ref a)) Q E s:=by
 have ac:X.A.frames=some (X.env::X.outer):=by rw[<-J];exact I.ok.frames
 have hl:s.heap.FunFrames X.base (X.env::X.outer):=by rw[<-J];exact I.stack
 unfold leaving;refine Q0 (Hw ac hl aa he hc ab hd h1 λh1 T1 L k1 k2 t1=>?_);refine qR (s:={ s with heap:=h1 }) t1 λh2 t2 k3 af=>?_;have ae:H T1=none:=I.hok.fresh L
 have Y:∀b o,s.heap.get? b=some o->b≠T1:=λb o e z=>by
  have h3:=Q01 e;rw[z] at h3;exact Q0l _ (Q06 h3 L)
 obtain⟨u,ok⟩:=I.zR hex (h':=h2) ha ha na na (λb o hb U _ e=>k3 b o (Y b o e) (k1 b o (by rw[<-J];exact hb) U e)) (λb o U _ e=>by
  obtain⟨sl,e1⟩:=k2 b o U e;exact⟨sl,k3 b _ (Y b o e) e1⟩)
 exact q h2 T1 t2 (I.mU hex (Heap.zQ L)) ae u ok
end
noncomputable def ky (a C:Addr) (z:Option Addr):HO:=.ext λh=>∃o,h.get? a=some o/\o.cls=.ref C/\o.dict=z/\∃vs,o.data=.fields vs
theorem ky.ok {P:Program}{w:World}{H:Hp}{h:Heap}{a C:Addr}{z:Option Addr}(e:∃o,h.get? a=some o/\o.cls=.ref C/\o.dict=z/\∃vs,o.data=.fields vs):gh P w H h a (ky a C z):=
 ⟨e,let⟨o,h1,_⟩:=e;⟨o,h1⟩,λ_ _ ⟨o,h1,h2⟩ k=>⟨o,k o h1,h2⟩⟩
def qS (X:Cx) (pins:List (Addr × Obj)) (σ:St) (Ek:XK) (e:Value) (s':Shared):Prop:=∃H s,Inv X pins σ H s/\jt X.prog X.w X.stack H s Ek e s'
def Br (X:Cx) (Ek:XK) (e:Expr) (t:TE):Prop:=
 ∀(pins:List (Addr × Obj)) (s:Shared) (σ:St) (H:Hp) (Q:VK),Inv X pins σ H s->t σ H Q->wpAny (model X.prog X.w) X.A (eval e X.env) (EP X pins σ Q) (qS X pins σ Ek) s
def Bs (X:Cx) (Ek:XK) (st:List Stmt) (t:TS):Prop:=
 ∀(pins:List (Addr × Obj)) (s:Shared) (σ:St) (H:Hp) (D:Ends),Inv X pins σ H s->t D σ H->wpAny (model X.prog X.w) X.A (execs st X.env) (SP X pins D) (qS X pins σ Ek) s
section
variable {X:Cx}{k:Nat}{f:Addr}{fd:FuncData}{ps:List Str}{sp:Sp}{gM:List V}{ds:List Value}{Ek:XK}{x:Str}{p pos:Pos}{e:Expr}{es:List Expr}{t:TA}{te:TE}
theorem Hy {i:Nat}{y:Str}{pos':Pos}(J:X.N.Nodup)(hi:X.N[i]? =some y)(L:Loc X.env.scope y)(U:Br X Ek e te)(Y:swapsWith e (some (.Name y pos')) pos.line X.env=pure false:=by rfl)(hf:X.fn y=true\/X.env.scope.names.lookup y=some .local:=by first|exact .inl rfl|exact .inr rfl|assumption):
 Bs X Ek [.Assign [.Name y pos'] e pos] (lC te (gX i)):=by
 intro pins s σ H D I h;refine wpAny_execs_cons (wpAny_Assign_Name (Q0m (U pins s σ H _ I h) (λv s1 zq=>?_) λ_ _ z=>z) Y);obtain⟨z,H1,I1,r1,q1⟩:=zq;exact nN I1 J hi L r1 (λs2 I2=>wpAny_execs_nil ⟨_,H1,I2,q1⟩) hf
end
theorem Hz {X:Cx}{pins:List (Addr × Obj)}{σ:St}{Ek:XK}{e:Value}{s':Shared}{Q:Unit->Shared->Prop}{E:Value->Shared->Prop}(ac:X.stack=X.env::X.outer)(ah:X.env.frame=some X.env.locals)(h:qS X pins σ Ek e s')
 (q:∀(a C T:Addr) (U:Option Addr) (H':Hp) (h2:Heap),e=.ref a->H' a=none->Ek (.ref C) U H'->js h2 a T (.ref C) U .none->Inv X pins σ (upd H' a (ky a C U)) { s' with heap:=h2 }->
   (∀L:Heap,js L a T (.ref C) U .none->(∀b o,b≠T->h2.get? b=some o->L.get? b=some o)->Inv X pins σ (upd H' a (ky a C U)) { s' with heap:=L })->Q () { s' with heap:=h2 }):
 wpAny (model X.prog X.w) X.A (noteFrame e X.env) (λ_ s2=>wpAny (model X.prog X.w) X.A (setFlight e none) Q E s2) E s':=by
 obtain⟨H,s,I,a,T,C,U,H',rfl,t,la,lT,na,nT,os,ab,un,ae,hE⟩:=h;have I':=I.call' (s':=s') (ch:=[]) os un ae ab (λb z=>absurd z (by simp));have ai:X.A.frames=some (X.env::X.outer):=by rw[<-ac];exact I.ok.frames
 have hl:s'.heap.FunFrames X.base (X.env::X.outer):=by rw[<-ac];exact I'.stack
 refine Bq ai hl ah t λh1 T1 aj k1 k2 an t1=>?_;refine qR (s:={ s' with heap:=h1 }) t1 λh2 t2 k3 ao=>?_
 have aa:∀b o,s'.heap.get? b=some o->b≠T1:=λb o e z=>by
  have L:=Q01 e;rw[z] at L;exact Q0l _ (Q06 L aj)
 have key:∀L:Heap,js L a T1 (.ref C) U .none->(∀b o,b≠T1->h2.get? b=some o->L.get? b=some o)->Inv X pins σ (upd H' a (ky a C U)) { s' with heap:=L }:=λL t3 k4=>by
  have m1:∀b o,b ∉ frs X.stack->b≠a->b≠T->s'.heap.get? b=some o->L.get? b=some o:=λb o Y n1 n2 e=>
   k4 b o (aa b o e) (k3 b o (aa b o e) (k1 b o (by rw[<-ac];exact Y) n1 n2 e))
  have m2:∀b o,b≠a->b≠T->s'.heap.get? b=some o->∃sl,L.get? b=some { o with slots:=sl }:=λb o n1 n2 e=>by
   obtain⟨sl,e1⟩:=k2 b o n1 n2 e;exact⟨sl,k4 b _ (aa b o e) (k3 b _ (aa b o e) e1)⟩
  have J:∀b o,s.heap.get? b=some o->b≠a/\b≠T:=λb o e=>⟨(λz=>by rw[z,la] at e;cases e),λz=>by rw[z,lT] at e;cases e⟩;refine I.call' (s':={ s' with heap:=L }) (ch:=[]) os ⟨λb o e n Y _=>?_,λb o e n Y hx=>?_,λb o e n hx=>?_,λb o e hx=>?_,λb xs e=>?_,λb o u e=>?_,λb ps e=>?_⟩ (λb o e=>?_) ab (λb z=>absurd z (by simp))
  . exact m1 b o Y (J b o e).1 (J b o e).2 (un.keep b o e n Y (by simp))
  . obtain⟨sl,e1⟩:=un.slot b o e n Y hx;obtain⟨af,e2⟩:=m2 b _ (J b o e).1 (J b o e).2 e1;exact⟨af,e2⟩
  . rw[d_ (J b o e).1];exact un.free b o e n hx
  . obtain⟨o',e1⟩:=un.there b o e hx;obtain⟨af,e2⟩:=m2 b _ (J b o e).1 (J b o e).2 e1;exact⟨_,e2⟩
  . have:=un.tups b xs e;rw[d_ (eM this na)];exact this
  . have:=un.iQ b o u e;rw[d_ (eM this na)];exact this
  . obtain⟨ag,this⟩:=un.iR b ps e;exact⟨ag,by rw[d_ (eM this na)];exact this⟩
  . by_cases Y:b=a
    . subst Y;rw[eK] at e
      cases e;obtain⟨oe,vs,he,hc,ak,al,_⟩:=t3.ex;exact ky.ok ⟨oe,he,hc,ak,vs,al⟩
    . rw[d_ Y] at e;refine(ae b o e).stay (λc u hc r=>?_) (λc r=>by rw[d_ (eM r na)];exact r) λc xs r=>by rw[d_ (eM r na)];exact r
      have am:∃v,H' c=some v:=by
       rcases hc with z|z
       . exact⟨o,by rw[z];exact e⟩
       . exact⟨_,z⟩
      obtain⟨v,hv⟩:=am;refine m1 c u (λz=>?_) (eM hv na) (eM hv nT) r;rw[I'.nM c z] at hv;cases hv
 exact q a C T1 U H' h2 rfl na hE t2 (key h2 t2 λ_ _ _ e=>e) key
def HA (Ek:XK) (i:Nat) (tb ts:TS):TS:=λD σ H=>tb D σ H/\∀(a C:Addr) (z:Option Addr) (H':Hp),H' a=none->Ek (.ref C) z H'->ts (D.un i) (σ.set i (some (.ref a))) (upd H' a (ky a C z))
theorem HC {X:Cx}{body:List Stmt}{x n:Str}{Dc:Addr}{Ek:XK}{i:Nat}{U:Stmt}{L:List Stmt}{np ab pos:Pos}{tb ts:TS}(ac:X.stack=X.env::X.outer)(ae:X.env.frame=some X.env.locals)
 (hb:Bs X Ek body tb) (hg:Gl X x) (hm:X.mg x=some (.ref Dc)) (h1:W.typeIn X.K (.ref Dc)=some (.type "type")) (h2:(W.clsIn X.K Dc).isSome=true) (h3:W.subIn X.K (.ref Dc) (.type "BaseException")=some true)
 (h4:∀C dd H,Ek (.ref C) dd H->W.subIn X.K (.ref C) (.ref Dc)=some true) (hN:X.N.Nodup) (hi:X.N[i]? =some n) (J:X.env.kindOf n=some .local) (hs:∀a,h9 (X.marked a) (U::L) ts) (hd:(x == ("__debug__":Str))=false:=by decide):
 PS X (.Try body [.ExceptHandler (some (.Name x np)) (some n) (U::L) ab] [] [] pos) (HA Ek i tb ts):=by
 intro pins s σ H D I h;obtain⟨hq,hk⟩:=h;refine wpAny_Try_except (Q0m (hb pins s σ H D I hq) (λf s1 q=>?_) λe s1 z=>?_)
 . cases f with
   |next=>exact wpAny_execs_nil q
   |ret v=>exact q
   |brk=>exact q
   |cont=>exact q
 . refine Hz ac ae z λa C T dd H' ag e1 na hE t2 I2 key=>?_;subst e1;have ok:=I2.ok;refine wpAny_handleBy_cons (codeAny_handlers_test ?_) (by intro q;cases q);refine nO (X:=X.marked a) (I2.marked a) hg hm ?_ hd;obtain⟨oe,vs,he,hc,_⟩:=id t2.ex;refine Fu I2.gi h1 h2 h3 (h4 C dd H' hE) he hc ?_;simp only[if_true];refine codeAny_handlers_suite_as ?_;refine qR t2 λaf t3 k3 _=>?_;have I3:=key af t3 k3;refine nN I3 hN hi (.inl J) (show RelV (.ref a) (.ref a) from rfl) (λs4 I4=>?_) (.inr J);refine Q0m (hs a pins s4 _ _ (D.un i) (I4.marked a) (hk a C dd H' na hE)) (λf s5 q=>?_) λ_ _ z=>False.elim z;show wpAny _ _ _ _ _ _
   cases f with
   |next=>
    obtain⟨aa,H5,Y,q⟩:=q;exact(Y.unmarked ok).unbind hN hi J λs6 I6=>⟨_,_,I6,q⟩
   |ret v=>
    obtain⟨y,aa,H5,Y,r,q⟩:=q;exact(Y.unmarked ok).unbind hN hi J λs6 I6=>⟨y,_,_,I6,r,q⟩
   |brk=>
    obtain⟨aa,H5,Y,q⟩:=q;exact(Y.unmarked ok).unbind hN hi J λs6 I6=>⟨_,_,I6,q⟩
   |cont=>
    obtain⟨aa,H5,Y,q⟩:=q;exact(Y.unmarked ok).unbind hN hi J λs6 I6=>⟨_,_,I6,q⟩
noncomputable def lb (a C:Addr):HO:=.ext λh=>∃o t,h.get? a=some o/\o.cls=.ref C/\o.dict=none/\o.data=.fields #[t,.none,.none,.none,.bool false,.none]
noncomputable def MadeX (a C dx:Addr):HO:=.ext λh=>∃o t,h.get? a=some o/\o.cls=.ref C/\o.dict=some dx/\o.data=.fields #[t,.none,.none,.none,.bool false,.none]
theorem lb.ok {P:Program}{w:World}{H:Hp}{h:Heap}{a C:Addr}(e:∃o t,h.get? a=some o/\o.cls=.ref C/\o.dict=none/\o.data=.fields #[t,.none,.none,.none,.bool false,.none]):gh P w H h a (lb a C):=
 ⟨e,let⟨o,t,h1,_⟩:=e;⟨o,h1⟩,λ_ _ ⟨o,t,h1,h2⟩ k=>⟨o,t,k o h1,h2⟩⟩
theorem MadeX.ok {P:Program}{w:World}{H:Hp}{h:Heap}{a C dx:Addr}(e:∃o t,h.get? a=some o/\o.cls=.ref C/\o.dict=some dx/\o.data=.fields #[t,.none,.none,.none,.bool false,.none]):gh P w H h a (MadeX a C dx):=
 ⟨e,let⟨o,t,h1,_⟩:=e;⟨o,h1⟩,λ_ _ ⟨o,t,h1,h2⟩ k=>⟨o,t,k o h1,h2⟩⟩
noncomputable def rem (H:Hp) (a:Addr):Hp:=λb=>if b=a then none else H b
theorem ua {H:Hp}{a:Addr}:rem H a a=none:=if_pos rfl
theorem j0 {H:Hp}{a b:Addr}(h:b≠a):rem H a b=H b:=if_neg h
section
variable {X:Cx}{pins:List (Addr × Obj)}{σ:St}{H:Hp}{s:Shared}
def HD (K:W.Frag) (ta tv:TE) (f:Str):TS:=λD σ H=>tv σ H λy H1=>ta σ H1 λx H2=>∃a C,x=.ref a/\H2 a=some (lb a C)/\k_ K C f/\
 ∀dx,H2 dx=none->dx≠a->D.nx σ (upd (upd H2 dx (.xd [(f,y)])) a (MadeX a C dx))
theorem HE {o value:Expr}{ta tv:TE}{f:Str}{pos pos':Pos}(ha:PE X o ta)(hv:PE X value tv)(hs:swapsWith value (some (.Attribute o f pos')) pos.line X.env=pure false):PS X (.Assign [.Attribute o f pos'] value pos) (HD X.K ta tv f):=by
 intro pins s σ H D I h;refine plainObj_wpAny_Assign_Attribute (eU (hv pins s σ H _ I h) λu s1 ⟨y,H1,I1,ry,q⟩=>eU (ha pins s1 σ H1 _ I1 q) λov s2 zq=>?_) hs;obtain⟨x,H2,Y,rx,a,C,ex,L,Z,q2⟩:=zq;subst ex;obtain rfl:ov=Value.ref a:=rx;obtain⟨oe,t,he,hc,ab,aa⟩:=(Y.hok a _ L).1;refine Ho Y.gi Z he hc ab aa λh' ac hn hx hk=>?_;have J:H2 s2.heap.objs.size=none:=Y.hok.fresh (Q00 _);have ae:s2.heap.objs.size≠a:=(Q07 (Q01 he)).symm
 have ag:∀b u,H2 b=some u->(∀C',u≠lb a C')->b≠a:=λb u e hu z=>by
  subst z;rw[L] at e;exact hu C (Option.some.inj e).symm
 refine⟨σ,_,Y.call' (s':={ s2 with heap:=h',toks:=ac }) (ch:=[]) rfl ⟨λb U e n hb _=>?_,λb U e n hb _=>?_,λb U e n _=>?_,λb U e _=>?_,λb xs e=>?_,λb U u e=>?_,λb ps e=>?_⟩ (λb u e=>?_) Y.bare (λb z=>absurd z (by simp)),q2 s2.heap.objs.size J ae⟩
 . exact hk b U (eM L n).symm e
 . exact⟨U.slots,hk b U (eM L n).symm e⟩
 . rw[d_ (eM L n).symm,d_ (Q07 (Q01 e))];exact n
 . by_cases hb:b=a
   . subst hb;exact⟨_,hx⟩
   . exact⟨U,hk b U hb e⟩
 . have h1:b≠a:=λz=>by rw[z,L] at e;cases e
   rw[d_ h1,d_ (eM e J)];exact e
 . have h1:b≠a:=λz=>by rw[z,L] at e;cases e
   rw[d_ h1,d_ (eM e J)];exact e
 . have h1:b≠a:=λz=>by rw[z,L] at e;cases e
   exact⟨#[],by rw[d_ h1,d_ (eM e J),Q1z];exact e⟩
 . by_cases h1:b=a
   . subst h1;rw[eK] at e
     cases e;exact MadeX.ok ⟨_,t,hx,hc,rfl,aa⟩
   . rw[d_ h1] at e;by_cases h2:b=s2.heap.objs.size
     . subst h2;rw[eK] at e
       cases e;refine⟨_,hn,λg=>?_⟩;by_cases hg:g=f
       . subst hg;rw[if_pos rfl];rw[Q16,beq_self_eq_true];exact ry
       . rw[if_neg hg];rw[Q16,beq_false_of_ne hg];trivial
     . rw[d_ h2] at e;refine(Y.hok b u e).stay (λc v af r=>hk c v ?_ r) (λc r=>?_) λc xs r=>?_
       . rintro rfl;rcases af with z|z
         . exact h1 z.symm
         . rw[L] at z;cases z
       . have n1:c≠a:=λz=>by rw[z,L] at r;cases r
         rw[d_ n1,d_ (eM r J)];exact r
       . have n1:c≠a:=λz=>by rw[z,L] at r;cases r
         rw[d_ n1,d_ (eM r J)];exact r
theorem Inv.HF (I:Inv X pins σ H s){h':Heap}{e C:Addr}{us:List Value}(Y:Heap.MadeExcOf s.heap h' e (.ref C) us):H e=none/\Inv X pins σ (upd H e (lb e C)) { s with heap:=h' }:=by
 obtain⟨t,he,_,_⟩:=Y.there;have U:s.heap.get? e=none:=Y.new
 have na:H e=none:=by
  cases q:H e with
  |none=>rfl
  |some o=>
   obtain⟨o',e'⟩:=(I.hok e o q).ex;rw[U] at e';cases e'
 refine⟨na,I.call' (s':={ s with heap:=h' }) (ch:=[]) rfl ⟨λb L J n hb _=>Y.keeps b L J,λb L J n hb _=>⟨L.slots,Y.keeps b L J⟩,λb L J n _=>?_,λb L J _=>⟨L,Y.keeps b L J⟩,λb xs J=>?_,λb L u J=>?_,λb ps J=>?_⟩ (λb u J=>?_) I.bare (λb z=>absurd z (by simp))⟩
 . rw[d_ (λz=>by rw[z,U] at J;cases J)];exact n
 . rw[d_ (eM J na)];exact J
 . rw[d_ (eM J na)];exact J
 . exact⟨#[],by rw[d_ (eM J na),Q1z];exact J⟩
 . by_cases hb:b=e
   . subst hb;rw[eK] at J
     cases J;exact lb.ok ⟨_,_,he,rfl,rfl,rfl⟩
   . rw[d_ hb] at J;refine(I.hok b u J).stay (λc v _ r=>Y.keeps c v r) (λc r=>?_) λc xs r=>?_
     . rw[d_ (eM r na)];exact r
     . rw[d_ (eM r na)];exact r
def Bt (X:Cx) (R:Addr->Addr->Hp->Prop):Prop:=∀(pins:List (Addr × Obj)) (σ:St) (H:Hp) (s:Shared) (a C dx:Addr),Inv X pins σ H s->X.s₀.heap.get? a=none->H a=some (MadeX a C dx)->R C dx (rem H a)->X.xe (.ref a) s
def HG (C:Addr) (sp:Sp) (R:Addr->Addr->Hp->Prop) (t:TA):TS:=λ_ σ H=>t σ H λvs H1=>vs.length<=sizeLine/\∀a,H1 a=none->sp (.ref a::vs) (upd H1 a (lb a C)) (λv H2=>v=.non/\∃dx,H2 a=some (MadeX a C dx)/\R C dx (rem H2 a)) E0
theorem HH {x:Str}{C f:Addr}{fd:FuncData}{ps:List Str}{sp:Sp}{k:Nat}{B nid qP:String}{iN:List Value}{e:Expr}{es:List Expr}{p cpos pos:Pos}{t:TA}{R:Addr->Addr->Hp->Prop}(hex:X.ex=[])(Z:k9 X.base C f iN nid)(FB:ExcBaseFacts B nid qP iN)(ah:W.keepIn X.K (.ref C)=true)
 (F:eE X.prog X.w X.K X.mg X.base eI k f fd ps sp) (hr:fy (k+1) X.A) (ai:X.calm=true) (hg:Gl X x) (hm:X.mg x=some (.ref C)) (hb:Binds X.K fd ps []) (hx:Bt X R)
 (ha:PA X (e::es) t) (aj:(x == ("__debug__":Str))=false:=by decide) (he:starEach (e::es) X.env=(false,eval e X.env)::starEach es X.env:=by rfl) (ak:(backTo cpos (starEach es X.env)).any (·.1)=false:=by rfl):
 PS X (.Raise (some (.Call (.Name x p) (e::es) [] cpos)) none pos) (HG C sp R t):=by
 intro pins s σ H D I h;rw[arm_exec_Raise]
 have key:wpAny (model X.prog X.w) X.A (eval (.Call (.Name x p) (e::es) [] cpos) X.env) (λv s1=>∃(e C:Addr) (oe:Obj) (t:Value) (r:Array Value),v=.ref e/\s1.heap.get? e=some oe/\oe.cls=.ref C/\oe.data=.fields #[t,.none,.none,.none,.bool false,.none]/\
  (∃tl N nm q bs L sn sub ab Y dd k0 k1 k2 k3 k5 nid,s1.heap.get? C=some (excClassObj nm q C N bs tl L sn sub ab Y dd k0 k1 k2 k3 k5 nid)/\tl.contains (.type "BaseException")=true)/\X.xe (.ref e) s1) X.xe s:=by
  refine wpAny_Call_Name_kw (nO I hg hm ?_ aj);refine W.callWith_K (h₀:=X.base) I.ok.mod.lz ah (eU (ha cpos pins s σ H _ I h) λus s1 ⟨vs,H1,I1,r,hl,q⟩=>⟨I1.gi,?_⟩) he ak;obtain⟨hp,g,d,tk,os⟩:=s1;refine Hl FB (Z.keeps I1.bk) (λh' U aa=>?_) (by show us.length<=sizeLine;rw[<-r.length];exact hl);have l0:X.s₀.heap.get? U=none:=I1.mU hex aa.new;obtain⟨na,I2⟩:=I1.HF aa;have hq:=q U na;have r2:Vals (V.ref U::vs) (Value.ref U::us):=.cons rfl r
  have af:(Value.ref U::us++[]).length=ps.length:=by
   rw[Q0u,<-r2.length];exact F.len _ _ _ _ hq
  have ac:=hb _ (Value.ref U::us) I2.gi af;rw[Q0u] at ac;refine wpAny_call (codeAny_mono (F.run _ X.stack _ _ ⟨Value.ref U::us,[]⟩ (Value.ref U::us) _ _ E0 (hr.make C us []) (I2.env0.make C us []) ac r2 hq) λr' s' J=>?_)
  cases r' with
  |error e=>exact False.elim J
  |ok fl=>
   cases fl with
   |ret u=>
    obtain⟨v,H',I3,rv,ev,dx,ae,hR⟩:=I2.after J;subst ev;obtain⟨oe,t',al,am,an,ag⟩:=(I3.hok _ _ ae).1;obtain⟨tl,N,nm,q,bs,L,sn,sub,ab,Y,dd,k0,k1,k2,k3,k5,mN,oI,z1,z2,z3,z4,z5,z6⟩:=Z.keeps I3.bk;exact⟨rv,⟨U,C,oe,t',#[],rfl,al,am,ag,⟨tl,N,nm,q,bs,L,sn,sub,ab,Y,dd,k0,k1,k2,k3,k5,nid,z1,z4.hasType FB.hasBase⟩,hx pins σ H' s' U C dx I3 l0 ae hR⟩⟩
   |next=>exact False.elim J
   |brk=>exact False.elim J
   |cont=>exact False.elim J
 exact Q0 (wpAny_standAt (Hm (I.ok.hd ai) (Q0 (Q0m key (λv s1 q=>Q0 (wpAny_standAt (Q09 q))) λ_ _ z=>z))))
theorem Inv.HI (I:Inv X pins σ H s)(hex:X.ex=[]){a:Addr}{φ:Heap->Prop}(U:X.s₀.heap.get? a=none)(J:H a=some (.ext φ)):Un (frs X.outer) [] X.H₀ (rem H a) X.s₀.heap s.heap/\f9 X.prog X.w (rem H a) s.heap:=by
 have B:=I.base;rw[hex] at B;refine⟨⟨B.keep,B.slot,λb o e n Y=>?_,B.there,λb xs e=>?_,λb o u e=>?_,λb ps e=>?_⟩,λb u e=>?_⟩
 . rw[j0 (λz=>by rw[z,U] at e;cases e)];exact B.free b o e n Y
 . have:=B.tups b xs e;rw[j0 (λz=>by rw[z,J] at this;cases this)];exact this
 . have:=B.iQ b o u e;rw[j0 (λz=>by rw[z,J] at this;cases this)];exact this
 . obtain⟨L,this⟩:=B.iR b ps e;exact⟨L,by rw[j0 (λz=>by rw[z,J] at this;cases this)];exact this⟩
 . have nb:b≠a:=λz=>by rw[z,ua] at e;cases e
   rw[j0 nb] at e;refine(I.hok b u e).stay (λc v _ r=>r) (λc r=>?_) λc xs r=>?_
   . rw[j0 (λz=>by rw[z,J] at r;cases r)];exact r
   . rw[j0 (λz=>by rw[z,J] at r;cases r)];exact r
end
theorem ub {H:Hp}{a b:Addr}(h:H b=none):rem H a b=none:=by
 unfold rem;split
 . rfl
 . exact h
theorem Inv.rem {X:Cx}{pins:List (Addr × Obj)}{σ:St}{H:Hp}{s:Shared}(I:Inv X pins σ H s)(hex:X.ex=[]){a:Addr}{Y:Heap->Prop}(J:X.s₀.heap.get? a=none)(L:H a=some (.ext Y)):Inv X pins σ (L2.rem H a) s:=by
 obtain⟨un,z⟩:=I.HI hex J L;refine⟨I.ok,I.os,I.bare,by rw[hex];exact un,I.loc,I.cell,ub I.free,λx c e=>ub (I.iA x c e),λp hp=>?_,z,I.len⟩;obtain⟨h1,h2,U⟩:=I.pin p hp;exact⟨h1,ub h2,U⟩
theorem HJ {P:Program}{w:World}{K:W.Frag}{mg:Str->Option Value}{base:Heap}{N:List Str}{qual:Str}{scope:Scope}{f:Addr}{cd:Value}{A:Around}{outer:List Env}{s₀:Shared}{H₀:Hp}{E:XK}:
 Bt (fh (jt P w) P w K mg base N qual scope f cd A outer s₀ H₀ E) (λC dx H=>E (.ref C) (some dx) H):=λpins σ H s a C dx I L z hE=>by
 obtain⟨oe,t,he,hc,Y,aa⟩:=(I.hok a _ z).1;have U:=I.rem rfl L z;show wpAny (model P w) _ (leaving _ _) _ _ _;refine U.Hx rfl rfl rfl he hc Y aa rfl L ua λh2 T' t' ab ac ae J=>?_;exact⟨a,T',C,some dx,_,rfl,t',L,ab,ua,ac,U.os,U.bare,ae,J,hE⟩
section
variable {X:Cx}
def Bu (K:W.Frag) (ta:TE) (f:Str):TE:=λσ H Q=>ta σ H λx H1=>∃a C dx fs v,x=.ref a/\H1 a=some (ky a C (some dx))/\H1 dx=some (.xd fs)/\mV K C/\k_ K C f/\fs.lookup f=some v/\Q v H1
theorem HK {e:Expr}{ta:TE}{f:Str}{pos:Pos}(he:PE X e ta)(hb:attributeBase e f X.env (eval e X.env)=eval e X.env):PE X (.Attribute e f pos) (Bu X.K ta f):=by
 intro pins s σ H Q I h;refine yG hb (eU (he pins s σ H _ I h) λu s1 zq=>?_);obtain⟨x,H1,z,rx,a,C,dx,fs,v,ex,ea,ed,Z,Y,l,q⟩:=zq;subst ex;obtain rfl:u=Value.ref a:=rx;obtain⟨o,ho,hc,J,vs,L⟩:=(z.hok a _ ea).1;obtain⟨mA,hn,hr⟩:=z.hok dx _ ed;obtain⟨u',hu,U⟩:=ib.some_of (v:=v) (o:=mA f) (by rw[<-l];exact hr f);obtain⟨hp,g,d,tk,os⟩:=s1;exact Hs z.gi Z Y ho hc L J hn.ns hu (W.handedOut_of (yF U)) ⟨v,H1,z.tok _,U,q⟩
end
section
variable {X:Cx}{k:Nat}{f C:Addr}{fd:FuncData}{ps:List Str}{sp:Sp}{Ek:XK}{m:Str}{p pos apos:Pos}{e o:Expr}{es:List Expr}{t:TA}{te ta:TE}
theorem HL {pins:List (Addr × Obj)}{σ:St}{H:Hp}{s:Shared}{Q:VK}{us:List Value}{vs:List V}(F:eE X.prog X.w X.K X.mg X.base (jt X.prog X.w) k f fd ps sp)(L:fy k X.A)(U:Binds X.K fd ps [])
 (I:Inv X pins σ H s) (r:Vals vs us) (h:sp vs H Q Ek):wpAny (model X.prog X.w) X.A (call (.ref f) us) (EP X pins σ Q) (qS X pins σ Ek) s:=by
 have hl:(us++[]).length=ps.length:=by rw[Q0u,<-r.length];exact F.len _ _ _ _ h
 have J:=U s us I.gi hl;rw[Q0u] at J;refine wpAny_call (codeAny_mono (F.run X.A X.stack s H ⟨us,[]⟩ us vs Q Ek L I.env0 J r h) λY s' z=>?_)
 cases Y with
 |error e=>exact⟨H,s,I,z⟩
 |ok fl=>
  cases fl with
  |ret u=>exact I.after z
  |next=>exact False.elim z
  |brk=>exact False.elim z
  |cont=>exact False.elim z
theorem HM {pl:Sem Bool}(he:PE X.fj o ta)(c:Cls X.K C)(Y:Meth X.K C m f)(F:eE X.prog X.w X.K X.mg X.base (jt X.prog X.w) k f fd ps sp)(hr:fy k X.A)(hb:Binds X.K fd ps [])(ha:PA X.fj (e::es) t)
 (L:starEach (e::es) X.env=(false,eval e X.env)::starEach es X.env:=by rfl) (U:(backTo pos (starEach es X.env)).any (·.1)=false:=by rfl)
 (ht:eval (.Call (.Attribute o m apos) (e::es) [] pos) X.env=(do
   let ov <-eval o X.env
   standAt apos.atName
   let(f,first) <-holding [ov] (getMethod ov m pl)
   callWith pos f first (backTo pos (starEach (e::es) X.env)) (backToKw pos (keywordEach [] X.env))):=by rfl):
 Br X Ek (.Call (.Attribute o m apos) (e::es) [] pos) (rN C m sp [] Ek ta t):=by
 intro pins s σ H Q I h;refine W.methodCall_KW (pl:=pl) (Q0m (he pins s σ H _ (I.wish _) h) (λu s1 zq=>?_) λ_ _ z=>False.elim z) ht;obtain⟨x,H1,J,rx,a,dx,fs,ex,ea,l,q⟩:=zq;subst ex;obtain rfl:u=Value.ref a:=rx;have J:=J.jz;refine rL J ea c Y l ?_;refine W.callWith_K (first:=[.ref a]) (h₀:=X.base) I.ok.mod.lz Y.kp (Q0m (ha pos pins s1 σ H1 _ (J.wish _) q) (λus s2 ⟨vs,H2,I2,r,q2⟩=>⟨I2.jz.gi,?_⟩) λ_ _ z=>False.elim z) L U;exact HL (us:=.ref a::us) (vs:=.ref a::(vs++[])) F hr hb I2.jz (.cons rfl (by rw[Q0u];exact r)) q2
end
end L2
namespace Pb
open L2 PyProof.Rows
theorem str1 {f g:Str}{rest:List V}{K:W.Frag}{H:Hp}:pU K H 0 (.str f::rest) [.str g] (λ_=>decide (f=g)):=λj x y h1 h2=>by
 cases j with
 |zero=>
  cases h1
  cases h2;exact iJ.str f g
 |succ j=>cases h2
theorem HN (f g:Str)(rest:List V):((List.range (min (V.str f::rest).length [V.str g].length)).all (λ_=>decide (f=g)) && (V.str f::rest).length == [V.str g].length)=(decide (f=g) && decide (rest=[])):=by
 have z:min (V.str f::rest).length [V.str g].length=1:=by
  rw[Q0g];show min (rest.length+1) 1=1;omega
 rw[z];congr 1
 . show(decide (f=g) && true)=_;rw[Bool.and_true]
 . cases rest with
   |nil=>rfl
   |cons a r=>rfl
noncomputable def Kd.nm:Kd->Str
 | .num=>"number"
 | .fC=>"word"
 | .fL _=>"record"
 | .rows _ _ _=>"rows"
 | .tree _=>"tree"
 | .gy _=>"either"
noncomputable def iy:Kd->Bool
 | .num=>true
 | .fC=>true
 |_=>false
theorem KA.head {H:Hp}{u:V}{k:Kd}(h:KA H u k):∃a rest,u=.ref a/\H a=some (.tup (.str k.nm::rest))/\(rest=[]↔iy k=true):=by
 cases k <;> unfold KA at h
 . obtain⟨a,e,q⟩:=h;exact⟨a,_,e,q,by constructor <;> intro _ <;> rfl⟩
 . obtain⟨a,e,q⟩:=h;exact⟨a,_,e,q,by constructor <;> intro _ <;> rfl⟩
 . obtain⟨a,b,vs,e,q,_⟩:=h;exact⟨a,_,e,q,by constructor <;> intro z <;> cases z⟩
 . obtain⟨a,b,vs,e,q,_⟩:=h;exact⟨a,_,e,q,by constructor <;> intro z <;> cases z⟩
 . obtain⟨a,b,e,q,_⟩:=h;exact⟨a,_,e,q,by constructor <;> intro z <;> cases z⟩
 . obtain⟨a,b,vs,e,q,_⟩:=h;exact⟨a,_,e,q,by constructor <;> intro z <;> cases z⟩
theorem qT {K:W.Frag}{H:Hp}{u:V}{k:Kd}{t:Addr}{g:Str}{Q:VK}(J:KA H u k)(ht:H t=some (.tup [.str g]))(q:Q (.bl (decide (k.nm=g) && iy k)) H):pV K 0 u (.ref t) H Q:=by
 obtain⟨a,rest,rfl,L,I⟩:=J.head;refine .inr ⟨a,t,_,_,_,rfl,rfl,str1,.inr ⟨eB.of L,eB.of ht,?_⟩⟩;rw[HN]
 have:decide (rest=[])=iy k:=by
  cases e:iy k with
  |true=>exact decide_eq_true (I.mpr e)
  |false=>exact decide_eq_false (λz=>by rw[I.mp z] at e;cases e)
 rw[this];exact q
def Bv:Sp:=λvs H Q _=>∃u k,vs=[u]/\KA H u k/\∀H',Same H H'->Q (.bl (iy k)) H'
def Bw:Sp:=λvs H Q _=>vs=[.bl true]/\Q .non H
variable {P:Program}{w:World}{K:W.Frag}{mg:Str->Option Value}{base:Heap}
theorem HP:fo ["kind"] ["kind"] (eP (top 5)):=fM
theorem HQ (T:Tb mg)(z:Dn K mg "is_plain" ["kind"] (top 5) I J):eE P w K mg base eI (1) I J ["kind"] (Bv):=by
 refine z.F.ok HP λvs H Q E h=>?_;obtain⟨u,k,rfl,U,q⟩:=h;refine⟨rfl,λaa A outer s nd hr Y=>?_⟩;refine⟨_,(eL (eO (yl (jk (pW (n:=0) Y) (pv 0) (f7 (a_ fm c_)) (eT _)) (j5 (jk (pW (n:=0) Y) (pv 0) (f7 (a_ fm c_)) (eT _)))))),?_⟩
 ac_rfl
 refine⟨_,rfl,hZ,λt ht=>?_⟩;have L:Same H (upd H t (.tup [.str "number"])):=Same.new ht;refine qT (KA.mono (Tu.of L) k U) eK ⟨_,rfl,fJ (λc=>?_) (λc=>?_)⟩
 . have e:iy k=true:=by
    have c:(decide (k.nm="number") && iy k)=true:=c;rw[Bool.and_eq_true] at c;exact c.2
   rw[e] at q;have c:(decide (k.nm="number") && iy k)=true:=c
   first
    |exact q _ L
    |(rw[c];exact q _ L)
 . refine⟨_,rfl,hZ,λt2 jI=>?_⟩;have s2:=L.trans (Same.new (o:=.tup [.str "word"]) jI);refine qT (KA.mono (Tu.of s2) k U) eK ?_
   have e:(decide (k.nm="word") && iy k)=iy k:=by
    cases k
    case num=>exact absurd rfl c
    case fC=>rfl
    all_goals exact Bool.and_false _
   rw[e];exact q _ s2
theorem HS:fo ["stands"] ["stands"] (eP (top 19)):=fM
theorem HU (T:Tb mg)(z:Dn K mg "ask_stands" ["stands"] (top 19) I J):eE P w K mg base eI (1) I J ["stands"] (Bw):=by
 refine z.F.ok HS λvs H Q E h=>?_;obtain⟨rfl,q⟩:=h;refine⟨rfl,λL A outer s U Y hu=>?_⟩;refine⟨_,(eL (eY (gY (gS (pv 0))) (eL C6) eZ)),?_⟩
 ac_rfl
 exact⟨_,rfl,true,rfl,fe q⟩
structure Dm (K:W.Frag) (x qual:Str) (ps:List Str) (st:Stmt) (f:Addr) (fd:FuncData):Prop where
 F:jC K x qual st f fd
 b:Binds K fd ps []
structure qU (K:W.Frag) (x qual:Str) (st:Stmt) (f:Addr) (fd:FuncData):Prop where
 ex:∃(oc:Value) (od:Option Addr) (dV kV doc pm:Value) (an:Option Addr) (cdv ct:Value) (osl:Array (Option Value)),
  fd=W.fnOf x qual (gG st) (gj st) (eP st) dV kV doc pm an cdv ct/\K.lookup f=some ⟨oc,od,.func fd,osl⟩/\W.codeIn K cdv qual=true
 kp:W.keepIn K (.ref f)=true
theorem qU.ok {P:Program}{w:World}{K:W.Frag}{mg:Str->Option Value}{base:Heap}{x qual:Str}{st:Stmt}{f:Addr}{fd:FuncData}{N ps:List Str}{k:Nat}{sp:Sp}(F:qU K x qual st f fd)(S:fo N ps (eP st))(len:∀vs H Q E,sp vs H Q E->vs.length=ps.length)
 (I:∀(z:Value) (A:Around) (outer:List Env) (s:Shared) (H:Hp) (vs:List V) (Q:VK) (E:XK),fy k (A.deeper (envOfC qual (eP st) s.heap.objs.size f z))->sp vs H Q E->
   ∃t,h9 (fh eI P w K mg base N qual (eP st) f z A outer s H E).fj (gj st) t/\t { nx:=λ_ H'=>Q .non H',rt:=Q } (start N vs) H):eE P w K mg base eI (k+1) f fd ps sp:=by
 obtain⟨oc,od,dV,kV,aa,pm,an,z,ct,ab,rfl,U,J⟩:=F.ex;refine pF U J S len λA outer s H vs Q E Y L=>?_;obtain⟨t,h,q⟩:=I z A outer s H vs Q E Y L;exact⟨t,h.fj,q⟩
structure uc (K:W.Frag) (x qual:Str) (ps:List Str) (st:Stmt) (f:Addr) (fd:FuncData):Prop where
 F:qU K x qual st f fd
 b:Binds K fd ps []
noncomputable abbrev Bx:List Value:=[.type "ValueError",.type "Exception",.type "BaseException",.type "object"]
structure By (K:W.Frag) (mg:Str->Option Value) (base:Heap) (x:Str) (C fI:Addr):Prop where
 xi:k9 base C fI Bx "ValueError.__new__"
 kp:W.keepIn K (.ref C)=true
 m:mg x=some (.ref C)
 fld:k_ K C "way"
 cls:mV K C
 ty:W.typeIn K (.ref C)=some (.type "type")
 is:(W.clsIn K C).isSome=true
 bx:W.subIn K (.ref C) (.type "BaseException")=some true
 sub:W.subIn K (.ref C) (.ref C)=some true
abbrev ud (K:W.Frag) (mg:Str->Option Value) (base:Heap) (C fI:Addr):Prop:=By K mg base "CantPut" C fI
theorem Bz {P:Program}{w:World}{K:W.Frag}{mg:Str->Option Value}{base:Heap}{x qual:Str}{st:Stmt}{f:Addr}{fd:FuncData}{N ps:List Str}{k:Nat}{sp:Sp}(F:jC K x qual st f fd)(S:fo N ps (eP st))(len:∀vs H Q E,sp vs H Q E->vs.length=ps.length)
 (I:∀(z:Value) (A:Around) (outer:List Env) (s:Shared) (H:Hp) (vs:List V) (Q:VK) (E:XK),fy k (A.deeper (envOfC qual (eP st) s.heap.objs.size f z))->sp vs H Q E->
   ∃t,h9 (fh (jt P w) P w K mg base N qual (eP st) f z A outer s H E) (gj st) t/\t { nx:=λ_ H'=>Q .non H',rt:=Q } (start N vs) H):eE P w K mg base (jt P w) (k+1) f fd ps sp:=by
 obtain⟨oc,od,kV,aa,pm,an,z,ct,ab,rfl,U,J⟩:=F.ex;refine pF U J S len λA outer s H vs Q E Y L=>?_;exact I z A outer s H vs Q E Y L
theorem HV {X:Cx}{K:W.Frag}{e:Expr}{ta:TE}{f:Str}{pos:Pos}(hK:X.K=K)(z:PE X e ta)(I:attributeBase e f X.env (eval e X.env)=eval e X.env):PE X (.Attribute e f pos) (Bu K ta f):=by
 subst hK;exact HK z I
structure lg (K:W.Frag) (mg:Str->Option Value) (C fI fB fS fP fG fK:Addr):Prop where
 ct:Cls K C
 na:lJ K C "by"
 HW:Mk K C fI
 m:mg "Order"=some (.ref C)
 b:Meth K C "behind" fB
 s:Meth K C "see" fS
 p:Meth K C "put" fP
 g:Meth K C "grade" fG
 k:Meth K C "keeps" fK
abbrev jJ (H:Hp) (C v dx:Addr) (y:Str):Prop:=H v=some (.ins C dx [("by",.str y)])
abbrev j1 (H:Hp) (pk pb:Addr) (key by_:Str):Prop:=H pk=some (.tup [.str "rows",.str key,.str by_,.ref pb])
structure je (H:Hp) (pk pb:Addr) (key by_ y:Str) (xs:List V) (fs:Fs):Prop where
 at_:j1 H pk pb key by_
 tu:H pb=some (.tup xs)
 fa:FA H xs fs
 W:(Kd.rows key by_ fs).W
 ne:y≠key
 py:y=""\/fs.pl y
theorem je.mono {H H':Hp}{pk pb:Addr}{key by_ y:Str}{xs:List V}{fs:Fs}(h:je H pk pb key by_ y xs fs)(t:Tu H H'):je H' pk pb key by_ y xs fs:=⟨t _ _ h.at_,t _ _ h.tu,FA.mono t fs h.fa,h.W,h.ne,h.py⟩
theorem je.W' {H:Hp}{pk pb:Addr}{key by_ y:Str}{xs:List V}{fs:Fs}(h:je H pk pb key by_ y xs fs):(Kd.rows key y fs).W:=by
 have:=h.W;unfold Kd.W at this ⊢;exact⟨this.1,this.2.1,this.2.2.1,this.2.2.2.1,h.py⟩
def BA (C:Addr):Sp:=λvs H Q _=>∃v dx y,vs=[.ref v,.str y]/\H v=some (.ins C dx [])/\∀H',(∀c o,c≠v->H c=some o->H' c=some o)->jJ H' C v dx y->Q .non H'
def BB:Sp:=λvs H Q _=>∃v,vs=[v]/\Q (.str "full") H
def BC:Sp:=λvs H Q _=>∃v z,vs=[v,z]/\Q (.bl false) H
def qV (C:Addr):Sp:=λvs H Q _=>∃v dx pk pb key by_ y xs fs,vs=[.ref v,.ref pk]/\jJ H C v dx y/\je H pk pb key by_ y xs fs/\∀r H',Same H H'->H r=none->j1 H' r pb key y->Q (.ref r) H'
def BD (Pi C:Addr):Sp:=λvs H Q _=>∃v dx pk pb L key by_ y xs fs J ms U,vs=[.ref v,.ref pk,.ref L]/\jJ H C v dx y/\je H pk pb key by_ y xs fs/\H L=some (.lst J)/\fc H J ms U/\J.length<64/\eQ Pi ie ig H/\(∀m∈ms,fQ fs m)/\(ms.map λm=>keyOf m key).Nodup/\
 ∀D z I H',ku Pi H H'->eQ Pi ie ig H'->H D=none->H' D=some (.lst z)->fc H' z (fV key y ms) I->I.Perm U->Q (.ref D) H'
def BE (K:W.Frag) (C:Addr):Sp:=λvs H Q _=>∃a z I,vs=[.ref a,.ref z]/\H a=some (lb a C)/\eG K H z I/\∀p dx H',p≠a->dx≠a->(∀c o,c≠a->H c=some o->H' c=some o)->H' a=some (MadeX a C dx)->H' dx=some (.xd [("way",.ref p)])->H' p=some (.lst I)->Q .non H'
def BF (gU:Addr) (n:Nat):Sp:=λvs H Q E=>∃z v k d I r,vs=[z,v]/\KA H z k/\k.W/\Own H v d I/\Rs n k d r/\(r=none->∀H',Same H H'->Q .non H')/\
 ∀pl,r=some pl->∀dx p H',Same H H'->H' dx=some (.xd [("way",.ref p)])->H' p=some (.lst (pl.map kV))->E (.ref gU) (some dx) H'
def BG (gU:Addr) (n:Nat) (Pi C:Addr):Sp:=λvs H Q E=>∃v dx pk pb key by_ y xs fs src w d J r,vs=[.ref v,.ref pk,src,w]/\jJ H C v dx y/\je H pk pb key by_ y xs fs/\eQ Pi ie ig H/\Own H w d J/\Rs n (.rows key y fs) d r/\(∀ms,d=.lst (fi ms)->ms.length<64)/\
 (r=none->∀ms,d=.lst (fi ms)->∀D z I H',ku Pi H H'->eQ Pi ie ig H'->H D=none->H' D=some (.lst z)->fc H' z (fV key by_ ms) I->(∀c∈I.flatten,c∈J)->Q (.ref D) H')/\
 ∀pl,r=some pl->∀dx p H',Same H H'->H' dx=some (.xd [("way",.ref p)])->H' p=some (.lst (pl.map kV))->E (.ref gU) (some dx) H'
section
variable {P:Program}{w:World}{K:W.Frag}{mg:Str->Option Value}{base:Heap}
variable {C Pi gU:Addr}
theorem BH:fo ["self","by"] ["self","by"] (eP (ff 22 0)):=fM
theorem HX (T:Tb mg)(OF:lg K mg C z L aa ab Y U)(I:uc K "__init__" "Order.__init__" qi (ff 22 0) z J):eE P w K mg base eI (1) z J qi (BA C):=by
 refine qU.ok I.F BH (λvs H Q E h=>?_) (λac A outer s H vs Q E hr h=>?_)
 . obtain⟨v,dx,y,rfl,_⟩:=h;rfl
 obtain⟨v,dx,y,rfl,hv,q⟩:=h;have nd:=BH.nd;refine⟨_,(eL (DM (pv 0) (pv 1) rfl)),?_⟩
 ac_rfl
 refine⟨_,rfl,_,rfl,v,C,dx,[],rfl,hv,OF.ct,OF.na,by decide,?_⟩;exact q _ (λc o hc e=>by rw[d_ hc];exact e) eK
theorem HY:fo ["self"] ["self"] (eP (ff 20 3)):=fM
theorem HZ (T:Tb mg)(z:Dm K "grade" "View.grade" ["self"] (ff 20 3) I J):eE P w K mg base eI (1) I J ["self"] (BB):=by
 refine z.F.ok HY λvs H Q E h=>?_;obtain⟨v,rfl,q⟩:=h;refine⟨rfl,λL A outer s U Y hu=>?_⟩;refine⟨_,(eL (eO fm)),?_⟩
 ac_rfl
 exact q
theorem H0:fo Xh Xh (eP (ff 22 4)):=fM
theorem H_ (T:Tb mg)(I:Dm K "keeps" "Order.keeps" qj (ff 22 4) J L):eE P w K mg base eI (1) J L qj (BC):=by
 refine I.F.ok H0 λvs H Q E h=>?_;obtain⟨v,z,rfl,q⟩:=h;refine⟨rfl,λU A outer s Y hr hu=>?_⟩;refine⟨_,(eL (eO gR)),?_⟩
 ac_rfl
 exact q
theorem Ia:fo Xe Xe (eP (ff 22 1)):=fM
theorem Ib (T:Tb mg)(OF:lg K mg C al I ao ap an am)(U:Dm K "behind" "Order.behind" kZ (ff 22 1) I Y)(J:Dn K mg "ask_stands" ["stands"] (top 19) aa ab)(L:eE P w K mg base eI (1) aa ab ["stands"] (Bw))(ac:Dn K mg "is_plain" ["kind"] (top 5) ae af)(ag:eE P w K mg base eI (1) ae af ["kind"] (Bv))(ah:Dn K mg "kind_at" l7 (top 6) ai aj)(ak:eE P w K mg base eI (1) ai aj l7 (tW K)):eE P w K mg base eI (2) I Y kZ (qV C):=by
 refine U.F.ok Ia λvs H Q E h=>?_;obtain⟨v,dx,pk,pb,key,by_,y,xs,fs,rfl,hV,hK,q⟩:=h;refine⟨rfl,λaw A outer s nd hr hu=>?_⟩
 refine⟨_,(eF (jM (eV L hr J (a_ (kH (jk fE (eS (pv 1) b_) fm (eT _)) (j5 (jk jj (pE (pv 0) rfl) (eS (pv 1) b_) (eT _)))) c_)))
  (eF (jM (eV L hr J (a_ (yl (jk fE (pE (pv 0) rfl) fm (eT _)) (j5 (eV ag hr ac (a_ (eV ak hr ah (a_ (eS (pv 1) b_) (a_ (pE (pv 0) rfl) c_))) c_)))) c_)))
  (eL (eO (f7 (a_ fm (a_ (eS (pv 1) b_) (a_ (pE (pv 0) rfl) (a_ (eS (pv 1) b_) c_))))))))),?_⟩
 ac_rfl
 have aq:fs.names.Nodup:=by
  have:=hK.W;unfold Kd.W at this;exact this.1
 refine⟨_,rfl,pk,_,_,_,rfl,rfl,eB.of hK.at_,rfl,rfl,_,rfl,fF ?_⟩;refine⟨_,rfl,v,C,dx,_,_,rfl,hV,OF.ct,OF.na,rfl,_,rfl,pk,_,_,_,rfl,rfl,eB.of hK.at_,rfl,rfl,?_⟩;have e1:(!decide (V.str y=V.str key))=true:=by rw[decide_eq_false (λz=>hK.ne (V.str.inj z))];rfl
 rw[e1];refine⟨rfl,?_⟩
 have fin:∀H1,Same H H1->ph (kM (gp (tC (.str "rows")) (gp (f_ (ic K) (fT 1) (tC (.int 1))) (gp (yH K (fT 0) "by") (gp (f_ (ic K) (fT 1) (tC (.int 3))) g8))))) { nx:=λ_ H'=>Q .non H',rt:=Q } (start Xe [.ref v,.ref pk]) H1:=λH1 s1=>by
  refine⟨_,rfl,pk,_,_,_,rfl,rfl,eB.of (s1 _ _ hK.at_),rfl,_,rfl,v,C,dx,_,_,rfl,s1 _ _ hV,OF.ct,OF.na,rfl,_,rfl,pk,_,_,_,rfl,rfl,eB.of (s1 _ _ hK.at_),rfl,oF,λr hr=>?_⟩;exact q r _ (s1.trans (Same.new hr)) (s1.free hr) eK
 refine⟨_,rfl,v,C,dx,_,_,rfl,hV,OF.ct,OF.na,rfl,rfl,_,rfl,fJ (λc=>?_) (λc=>?_)⟩
 . exact⟨rfl,fin _ (Same.refl _)⟩
 . have ar:fs.pl y:=hK.py.resolve_left λz=>c (decide_eq_true (by rw[z]));obtain⟨k,au,av⟩:=ar;refine⟨_,rfl,pk,_,_,_,rfl,rfl,eB.of hK.at_,rfl,_,rfl,v,C,dx,_,_,rfl,hV,OF.ct,OF.na,rfl,pb,.str y,xs,fs,some y,rfl,hK.tu,hK.fa,aq,rfl,λu hu=>?_⟩
   have hu:KA H u k:=by
    have e:(some y).bind fs.get=some k:=au;rw[e] at hu;exact hu
   refine⟨u,k,rfl,hu,λH1 s1=>?_⟩;have e2:iy k=true:=by cases k with|num=>rfl|fC=>rfl|_=>exact av.elim
   rw[e2];exact⟨rfl,fin _ s1⟩
theorem Ic:fo Xb Xb (eP (ff 22 2)):=fM
theorem Ie (T:Tb mg)(OF:lg K mg C ah z I ak aj ai)(Y:Dm K "see" "Order.see" qm (ff 22 2) I aa)(J:Dm K "behind" "Order.behind" kZ (ff 22 1) z L)(U:eE P w K mg base eI (2) z L kZ (qV C))(ab:Dn K mg "in_order" jn (top 16) ac ae)(af:eE P w K mg base eI (8) ac ae jn (nu Pi ie ig)):eE P w K mg base eI (9) I aa qm (BD Pi C):=by
 have CT:=OF.ct;have ag:=OF.b;refine Y.F.ok Ic λvs H Q E h=>?_;obtain⟨v,dx,pk,pb,pr,key,by_,y,xs,fs,ws,ms,fl,rfl,hV,hK,an,al,hl,hT,hf,ao,q⟩:=h;refine⟨rfl,λax A outer s nd hr hu=>?_⟩;refine⟨_,(eL (eO (eV af hr ab (a_ (nW (pv 0) CT ag U (hr.mono (by decide)) J.b .nil iV (a_ (pv 1) c_)) (a_ (pv 2) c_))))),?_⟩
 ac_rfl
 have am:fs.pl key:=by
  have:=hK.W;unfold Kd.W at this;exact this.2.2.2.1
 refine⟨_,rfl,v,dx,_,rfl,hV,rfl,_,rfl,v,dx,pk,pb,key,by_,y,xs,fs,rfl,hV,hK,λr H1 s1 ay ap=>?_⟩;exact⟨_,rfl,r,pr,pb,key,y,fs,ws,ms,fl,rfl,ap,s1 _ _ an,fc.keep (Tu.of s1) al (λc _ o e=>s1 c o e),hl,hT.same s1,hf,am,hK.py,ao,λD aq ar H' kp au hD av aw hp=>q D aq ar H' (λc o hc e=>kp c o hc (s1 c o e)) au (s1.free hD) av aw hp⟩
theorem Ig:fo ["self","way"] ["self","way"] (eP (ff 3 0)):=fM
theorem Ih (T:Tb mg)(XC:ud K mg base gU z)(I:Dm K "__init__" "CantPut.__init__" qo (ff 3 0) z J):eE P w K mg base eI (1) z J qo (BE K gU):=by
 refine I.F.ok Ig λvs H Q E h=>?_;obtain⟨a,p0,ws,rfl,ha,hs,q⟩:=h;refine⟨rfl,λab A outer s nd hr hu=>?_⟩;refine⟨_,(eL (HE (pv 0) (nX D8 (by rfl) T.nh boot_list (a_ (pv 1) c_)) rfl)),?_⟩
 ac_rfl
 refine⟨_,rfl,p0,_,rfl,.inl hs,λp hp=>?_⟩;have L:a≠p:=eM ha hp;refine⟨_,rfl,a,gU,rfl,by rw[d_ L];exact ha,XC.fld,λdx U Y=>?_⟩;have aa:p≠dx:=eM (H:=upd H p (.lst ws)) eK U;refine q p dx _ (Ne.symm L) Y (λc o hc e=>?_) eK ?_ ?_
 . have e1:upd H p (.lst ws) c=some o:=by rw[d_ (eM e hp)];exact e
   rw[d_ hc,d_ (eM e1 U)];exact e1
 . rw[d_ Y,eK]
 . rw[d_ (Ne.symm L),d_ aa,eK]
theorem BI:fo ["kind","seen","place"] ["kind","seen"] (eP (top 18)):=fM
theorem Ii (n j:Nat)(T:Tb mg)(XC:ud K mg base gU z)(U:Dn K mg "ask_fit" qp (top 18) Y aa)(ab:Dn K mg "misfit" iZ (top 8) ac ae)(af:eE P w K mg base eI (j+3) ac ae iZ (mr n))(I:Dm K "__init__" "CantPut.__init__" qo (ff 3 0) z J)(L:eE P w K mg base eI (1) z J qo (BE K gU)):eE P w K mg base (jt P w) (j+4) Y aa qp (BF gU n):=by
 refine Bz U.F BI (λvs H Q E h=>?_) (λam A outer s H vs Q E hr h=>?_)
 . obtain⟨kv,v,k,d,fp,r,rfl,_⟩:=h;rfl
 obtain⟨kv,v,k,d,fp,r,rfl,hk,hW,hO,hR,q1,q2⟩:=h;have nd:=BI.nd
 refine⟨_,(eF (eX 2 nd (eV af hr ab (a_ (pv 0) (a_ (pv 1) c_))))
  (eL (eY (eW mI (pv 2) gW (eT _)) (eL (HH rfl XC.xi PySem.F.excBase_ValueError XC.kp L (hr.mono (by omega)) rfl rfl XC.m I.b HJ (a_ (pv 2) c_))) eZ))),?_⟩
 ac_rfl
 refine⟨_,rfl,_,rfl,kv,v,k,d,fp,r,rfl,hk,hW,hO,hR,λu H1 s1 hu=>?_⟩
 cases r with
 |none=>
  have hu:u=.non:=hu;subst hu;refine⟨_,rfl,rfl,_,rfl,?_⟩;rw[decide_eq_true rfl];exact fe (q1 rfl _ s1)
 |some pl=>
  obtain⟨p0,rfl,ah⟩:=hu;refine⟨_,rfl,rfl,_,rfl,fF ⟨_,rfl,hZ,λa ha=>?_⟩⟩;refine⟨a,p0,pl.map kV,rfl,eK,eG.of (by rw[d_ (eM ah ha)];exact ah),λp dx H' ai aj keep ak al hp=>⟨rfl,dx,ak,?_⟩⟩;refine q2 pl rfl dx p _ (λc o e=>?_) (by rw[j0 aj];exact al) (by rw[j0 ai];exact hp);have e1:=s1 c o e;have ag:=eM e1 ha;rw[j0 ag];exact keep c o ag (by rw[d_ ag];exact e1)
theorem BJ:fo XW XW (eP (ff 22 3)):=fM
theorem Ij (n j:Nat)(T:Tb mg)(OF:lg K mg C am I ar J aq an)(ab:Dm K "put" "Order.put" qq (ff 22 3) J ac)(L:Dn K mg "ask_fit" qp (top 18) aj ak)(ae:eE P w K mg base (jt P w) (j+4) aj ak qp (BF gU n))(U:Dm K "behind" "Order.behind" kZ (ff 22 1) I Y)(aa:eE P w K mg base eI (2) I Y kZ (qV C))(af:Dn K mg "in_order" jn (top 16) ag ah)(ai:eE P w K mg base eI (8) ag ah jn (nu Pi ie ig))(hj:10<=j):eE P w K mg base (jt P w) (j+5) J ac qq (BG gU n Pi C):=by
 have CT:=OF.ct;have al:=OF.b;refine Bz ab.F BJ (λvs H Q E h=>?_) (λaL A outer s H vs Q E hr h=>?_)
 . obtain⟨v,dx,pk,pb,key,by_,y,xs,fs,src,w,d,fp,r,rfl,_⟩:=h;rfl
 obtain⟨v,dx,pk,pb,key,by_,y,xs,fs,src,w,d,fp,r,rfl,hV,hK,hT,hO,hR,hl,q1,q2⟩:=h;have nd:=BJ.nd
 refine⟨_,(eF (jM (mK ae (hr.mono (by omega)) rfl L.m L.F.kp L.b .nil (Hv λ_ _ _ z=>z) (a_ (nW (pv 0) CT al aa (hr.mono (by omega)) U.b .nil iV (a_ (pv 1) c_)) (a_ (pv 3) c_))))
  (eL (eO (eV ai hr af (a_ (pv 1) (a_ (pv 3) c_)))))),?_⟩
 ac_rfl
 refine⟨_,rfl,v,dx,_,rfl,hV,rfl,_,rfl,v,dx,pk,pb,key,by_,y,xs,fs,rfl,hV,hK,λr1 H1 s1 aM ay=>?_⟩;have av:=hK.mono (Tu.of s1);refine⟨_,rfl,.ref r1,w,.rows key y fs,d,fp,r,rfl,by unfold KA;exact⟨r1,pb,xs,rfl,ay,av.tu,av.fa⟩,hK.W',hO.same s1,hR,λer H2 s2=>?_,λpl er dx p H' s' az hp=>q2 pl er dx p H' (s1.trans s') az hp⟩;subst er;obtain⟨hF,aK,aP⟩:=hR;unfold fg at hF;obtain⟨ms,rfl,ax,_,aA⟩:=hF;have ao:=s1.trans s2;have aw:=hO.same ao;unfold Own at aw;obtain⟨sn,ws,fq,rfl,aB,rfl,aC⟩:=aw;obtain⟨fl,ap,rfl⟩:=eR.rows aC
 have au:fs.pl key/\(by_=""\/fs.pl by_):=by
  have:=hK.W;unfold Kd.W at this;exact this.2.2.2
 have aD:ws.length<64:=by rw[(A3.len ap).1];exact hl ms rfl
 refine⟨_,rfl,_,rfl,pk,sn,pb,key,by_,fs,ws,ms,fl,rfl,ao _ _ hK.at_,aB,ap,aD,hT.same ao,ax,au.1,au.2,aA,λD aE aF H' kp aG hD aH aJ hp=>?_⟩;exact q1 rfl ms rfl D aE aF H' (λc o hc e=>kp c o hc (ao c o e)) aG (ao.free hD) aH aJ λc hc=>Q0e _ ((qc hp).mem_iff.mp hc)
def qW (gU:Addr) (n:Nat) (Pi C:Addr):Sp:=λvs H Q _=>∃v dx pk pb key by_ y xs fs src w d L r,vs=[.ref v,.ref pk,src,w]/\jJ H C v dx y/\je H pk pb key by_ y xs fs/\eQ Pi ie ig H/\Own H w d L/\Rs n (.rows key y fs) d r/\(∀ms,d=.lst (fi ms)->ms.length<64)/\
 (r=none->∀ms,d=.lst (fi ms)->∀D I J z H',ku Pi H H'->eQ Pi ie ig H'->H D=none->H' D=some (.lst I)->fc H' I (fV key by_ ms) J->(∀c∈J.flatten,c∈L)->H' z=some (.tup [.str "done",.ref D])->Q (.ref z) H')/\
 ∀pl,r=some pl->∀p z H',Same H H'->H' p=some (.lst (pl.map kV))->H' z=some (.tup [.str "refused",.ref p])->Q (.ref z) H'
theorem Ik:fo ["_law_view_here","_law_kind_here","_law_source","_law_seen","_law_way_here","_law_made","e"] XM (eP (top 40)):=fM
theorem Il (n j:Nat)(T:Tb mg)(OF:lg K mg C ae af ai I ah ag)(XC:ud K mg base gU ac)(Y:Dn K mg "_law_put" nj (top 40) aa ab)(L:Dm K "put" "Order.put" qq (ff 22 3) I U)(J:eE P w K mg base (jt P w) (j+5) I U qq (BG gU n Pi C)):eE P w K mg base eI (j+6) aa ab nj (qW gU n Pi C):=by
 have CT:=OF.ct;have ak:=OF.p;refine Y.F.ok Ik λvs H Q E h=>?_;obtain⟨v,dx,pk,pb,key,by_,y,xs,fs,src,w,d,fp,r,rfl,hV,hK,hT,hO,hR,hl,q1,q2⟩:=h;refine⟨rfl,λav A outer s nd hr hu=>?_⟩;let Ek:XK:=λCv dd H'=>Cv=.ref gU/\∃pl dx p,r=some pl/\dd=some dx/\H' dx=some (.xd [("way",.ref p)])/\H' p=some (.lst (pl.map kV))/\Same H H';have an:∀C' dd H',Ek (.ref C') dd H'->W.subIn K (.ref C') (.ref gU)=some true:=λC' dd H' z=>by rw[z.1];exact XC.sub
 refine⟨_,(eF (eX 4 nd gW)
  (eF (eX 5 nd gW)
  (eF (HC (Ek:=Ek) (i:=6) rfl rfl (Hy (i:=5) nd rfl (.inl rfl) (HM (pv 0) CT ak J (hr.mono (by omega)) L.b (a_ (pv 1) (a_ (pv 2) (a_ (pv 3) c_))))) rfl XC.m XC.ty XC.is XC.bx an nd rfl rfl (λa=>(eL (eX 4 nd (HV (K:=K) rfl (pv 6) rfl)))))
  (eF (eY (eW rJ (pv 4) gW (eT _)) (eL (eO (f7 (a_ fm (a_ (pv 5) c_))))) eZ)
  (eL (eO (f7 (a_ fm (a_ (pv 4) c_))))))))),?_⟩
 ac_rfl
 refine⟨?_,λa C' dd H' na hE=>?_⟩
 . refine⟨_,rfl,v,dx,_,rfl,hV,rfl,_,rfl,_,rfl,_,rfl,v,dx,pk,pb,key,by_,y,xs,fs,src,w,d,fp,r,rfl,hV,hK,hT,hO,hR,hl,λer ms ed D ao ap H' kp aq hD ar au hp=>?_,λpl er aj p H' s' al hp=>⟨rfl,pl,aj,p,er,rfl,al,hp,s'⟩⟩;refine⟨_,rfl,rfl,_,rfl,fF ⟨_,rfl,gF,λtq am=>?_⟩⟩;have s1:Same H' (upd H' tq (.tup [.str "done",.ref D])):=Same.new am;exact q1 er ms ed D ao ap tq _ (λc o hc e=>s1 _ _ (kp c o hc e)) (aq.same s1) hD (s1 _ _ ar) (fc.keep (Tu.of s1) au λc _ o e=>s1 c o e) hp eK
 . obtain⟨e,pl,aj,p,er,rfl,al,hp,s'⟩:=hE;injection e with e
   subst e;have s1:Same H' (upd H' a (ky a C' (some aj))):=Same.new na;refine⟨_,rfl,a,C',aj,_,.ref p,rfl,eK,s1 _ _ al,XC.cls,XC.fld,rfl,?_⟩;refine⟨_,rfl,rfl,_,rfl,fe ⟨_,rfl,gF,λtq am=>?_⟩⟩;have s2:=s1.trans (Same.new (o:=.tup [.str "refused",.ref p]) am);exact q2 pl er p tq _ (s'.trans s2) (s2 _ _ hp) eK
end
def CS (F:Nat->List V) (n:Nat) (H:Hp) (i m:Nat) (ys:List V) (H':Hp):Prop:=m=n - i/\i<=n/\ys=F i/\(F i).length<=i/\Same H H'
theorem CS.add {F:Nat->List V}{n i:Nat}{H H2:Hp}{y:V}(z:i<n)(hl:(F i).length<=i)(s:Same H H2)(e:F (i+1)=F i++[y]):∃I,I<n - i/\CS F n H (i+1) I (F i++[y]) H2:=
 ⟨_,Q1x _ _ z,rfl,z,e.symm,by rw[e,Q0c];exact Q3b hl,s⟩
theorem CS.skip {F:Nat->List V}{n i:Nat}{H H2:Hp}(z:i<n)(hl:(F i).length<=i)(s:Same H H2)(e:F (i+1)=F i):∃I,I<n - i/\CS F n H (i+1) I (F i) H2:=
 ⟨_,Q1x _ _ z,rfl,z,e.symm,by rw[e];omega,s⟩
theorem Im {J:It}{H:Hp}{xs:List V}{S:List V->Hp->Prop}{C:(Nat->Nat->List V->Hp->Prop)->Nat->Nat->List V->V->Hp->Prop}(Y:∀H',Same H H'->qO J H' xs)(F:Nat->List V)(aa:xs.length<=1000)
 (q:∀H',Same H H'->S (F xs.length) H') (step:∀i x H',Same H H'->xs[i]? =some x->i<xs.length->(F i).length<=i->C (CS F xs.length H) i (xs.length - i) (F i) x H') (U:F 0=[]:=by rfl):
 ∃W:Nat->Nat->List V->Hp->Prop,(∃m,W 0 m [] H)/\∀i m ys H',W i m ys H'->(J.stop i H'/\S ys H')\/(J.go i H'/\ys.length<sizeLine/\∀x z,J.ji i H' x z->C W i m ys x z):=by
 refine⟨CS F xs.length H,⟨_,rfl,Q0a _,U.symm,by rw[U];exact Q00 0,Same.refl _⟩,?_⟩;rintro i m ys H' ⟨rfl,hi,rfl,hl,s⟩;have L:=Y H' s;by_cases I:i<xs.length
 . refine .inr ⟨L.1 i _ (Q02 I),gN (by omega),λx z y=>?_⟩;obtain⟨rfl,hx⟩:=L.2.1 _ _ _ y;exact step i x _ s hx I hl
 . cases Q2i hi (Q1 I);exact .inl ⟨L.2.2,q _ s⟩
theorem Io {K:PySem.W.Frag}{a b:Addr}{xs ys:List V}{H:Hp}{S:List V->Hp->Prop}{C:(Nat->Nat->List V->Hp->Prop)->Nat->Nat->List V->V->Hp->Prop}(el:xs.length=ys.length)(Y:∀H',Same H H'->eG K H' a xs)(hb:∀H',Same H H'->eG K H' b ys)(F:Nat->List V)(aa:xs.length<=1000)
 (q:∀H',Same H H'->S (F xs.length) H') (step:∀i x y p H',Same H H'->H' p=some (.tup [x,y])->xs[i]? =some x->ys[i]? =some y->i<xs.length->(F i).length<=i->C (CS F xs.length H) i (xs.length - i) (F i) (.ref p) H') (U:F 0=[]:=by rfl):
 ∃W:Nat->Nat->List V->Hp->Prop,(∃m,W 0 m [] H)/\∀i m zs H',W i m zs H'->((ow K a b).stop i H'/\S zs H')\/((ow K a b).go i H'/\zs.length<sizeLine/\∀x z,(ow K a b).ji i H' x z->C W i m zs x z):=by
 refine⟨CS F xs.length H,⟨_,rfl,Q0a _,U.symm,by rw[U];exact Q00 0,Same.refl _⟩,?_⟩;rintro i m zs H' ⟨rfl,hi,rfl,hl,s⟩;have J:=Y H' s;have L:=hb H' s;by_cases I:i<xs.length
 . refine .inr ⟨⟨xs,ys,xs[i],ys[i],J,L,Q02 I,Q02 (by omega)⟩,gN (by omega),λx z y=>?_⟩;obtain⟨p,x1,x2,hp,rfl,e1,e2,rfl⟩:=y;exact step i x1 x2 p _ (s.trans (Same.new hp)) eK (e1 _ J) (e2 _ L) I hl
 . cases Q2i hi (Q1 I);exact .inl ⟨⟨xs,ys,J,L,.inl (Q00 _)⟩,q _ s⟩
theorem BK (i:Nat):(List.replicate (i+1) true).map V.bl=(List.replicate i true).map V.bl++[V.bl true]:=by
 rw[List.replicate_succ',Q0k];rfl
def ue (n:Nat) (H:Hp) (k:Kd) (v1 v2:V):Prop:=∃z I,v1=.ref z/\v2=.ref I/\
 ((∃p1 p2,∃pl:List Key,H z=some (.tup [.str "refused",.ref p1])/\H I=some (.tup [.str "refused",.ref p2])/\H p1=some (.lst (pl.map kV))/\H p2=some (.lst (pl.map kV))/\pl.length<=100)\/
  ∃J L d f1 f2,H z=some (.tup [.str "done",J])/\H I=some (.tup [.str "done",L])/\Own H J d f1/\Own H L d f2/\fg k d/\d.dep<=n/\d.Sm)
def BL:Sp:=λvs H Q _=>∃p1 p2,∃pl:List Key,vs=[.ref p1,.ref p2]/\H p1=some (.lst (pl.map kV))/\H p2=some (.lst (pl.map kV))/\pl.length<=100/\∀H',Same H H'->Q (.bl true) H'
def uf (n:Nat):Sp:=λvs H Q _=>∃z v1 v2 k,vs=[z,v1,v2]/\KA H z k/\k.W/\ue n H k v1 v2/\∀H',Same H H'->Q (.bl true) H'
section
variable {P:Program}{w:World}{K:W.Frag}{mg:Str->Option Value}{base:Heap}
variable {C:Addr}
theorem Iq:fo XV XV (eP (top 36)):=fM
theorem Ir (T:Tb mg)(I:Dn K mg "_law_way" qr (top 36) J L):eE P w K mg base eI (1) J L qr (BL):=by
 refine I.F.ok Iq λvs H Q E h=>?_;obtain⟨p1,p2,pl,rfl,h1,h2,aa,q⟩:=h;refine⟨rfl,λab A outer s nd hr hu=>?_⟩
 refine⟨_,(eF (eY (PW.pt (il (gY (gS (fA iq (by rfl) T.iw boot_isinstance (a_ (pv 0) (a_ (ik (v:=.ty "list") rfl T.nh boot_list rfl) c_))))) (iB (eW jj (fA gZ (by rfl) T.gK PySem.boot_len (a_ (pv 0) c_)) (fA gZ (by rfl) T.gK PySem.boot_len (a_ (pv 1) c_)) (eT _))))) (eL (eO gR)) eZ)
  (eL (eO (fA (pJ rfl) (by rfl) T.qf boot_all (a_ (kT (g:=(nS K 2 (j7 (gX 0) (j7 (gX 1) nR)))) (tt:=kQ) (te:=(yj (f_ j9 (fT 0) (fT 1)) (yk (rP (λxs H Q=>∃x T t b,xs=[x,.ty T]/\iD K H x t/\W.kitOne K t (.type T)=some b/\Q (.bl b) H) (gp (fT 0) (gp (tC (.ty "bool")) g8)))))) (own:=["_law_a","_law_b"]) rfl (jY (N:=XV) (sc:=eP (top 36))) (sG rfl T.sT (a_ (pv 0) (a_ (pv 1) c_))) (λ_ _ _ _ _=>(jh rfl (gT (fX (i:=0) (show(Xi:List Str).Nodup by decide +kernel) rfl (Or.inl rfl) (.inr rfl)) (gT (fX (i:=1) (show(Xi:List Str).Nodup by decide +kernel) rfl (Or.inl rfl) (.inr rfl)) jg)))) (λ_ _ _ _ _=>mQ) (λ_ _ _ _ _=>(kH (jk fE (pv 0) (pv 1) (eT _)) (j5 (ym (fA iq (by rfl) T.iw boot_isinstance (a_ (pv 0) (a_ (ik (v:=.ty "bool") rfl T.sV boot_bool rfl) c_)))))))) c_))))),?_⟩
 ac_rfl
 refine⟨_,rfl,_,_,_,true,rfl,.lst h1,rfl,true,rfl,fe ?_⟩;refine⟨_,rfl,p1,_,rfl,.inl (eG.of h1),_,rfl,p2,_,rfl,.inl (eG.of h2),rfl,_,rfl,jS rfl ?_⟩;refine⟨_,rfl,_,rfl,p1,p2,rfl,⟨_,eG.of h1⟩,⟨_,eG.of h2⟩,Io rfl (λH' s=>eG.of (s _ _ h1)) (λH' s=>eG.of (s _ _ h2)) (λi=>(List.replicate i true).map V.bl) (by rw[Q03];omega) (λH' s p hp=>⟨p,_,rfl,eG.of eK,?_⟩) (λi x y p H' s hp Y hy U hl=>?_)⟩
 . rw[t_];exact q _ (s.trans (Same.new hp))
 . obtain⟨z,hz,rfl⟩:=Option.map_eq_some_iff.mp (List.getElem?_map.symm.trans Y);rw[Y] at hy
   cases hy;refine⟨p,_,rfl,eB.of hp,rfl,_,_,rfl,_,_,rfl,rfl,rfl,yes (fF ?_)⟩;refine⟨_,rfl,_,rfl,by cases z <;> rfl,_,rfl,?_⟩;rw[decide_eq_true rfl]
   cases z with
   |inl z=>exact fF ⟨_,rfl,_,_,_,false,rfl,.int z,rfl,false,rfl,CS.add U hl s (BK i)⟩
   |inr z=>exact fF ⟨_,rfl,_,_,_,false,rfl,.str z,rfl,false,rfl,CS.add U hl s (BK i)⟩
theorem Iu:fo XE XE (eP (top 41)):=fM
theorem Iv (n:Nat)(T:Tb mg)(z:Dn K mg "_law_same_end" iK (top 41) I J)(ab:Dn K mg "_law_way" qr (top 36) ac ae)(af:eE P w K mg base eI (1) ac ae qr (BL))(L:Dn K mg "_law_alike" iK (top 35) U Y)(aa:eE P w K mg base eI (n+1) U Y iK (ny n)):eE P w K mg base eI (n+2) I J iK (uf n):=by
 refine z.F.ok Iu λvs H Q E h=>?_;obtain⟨kv,v1,v2,k,rfl,hk,hW,⟨t1,t2,rfl,rfl,hE⟩,q⟩:=h;refine⟨rfl,λai A outer s nd hr hu=>?_⟩
 refine⟨_,(eF (eY (eW jj (eS (pv 1) b_) (eS (pv 2) b_) (eT _)) (eL (eO gR)) eZ)
  (eF (eY (eW fE (eS (pv 2) b_) fm (eT _)) (eL (eO (eV af hr ab (a_ (eS (pv 1) b_) (a_ (eS (pv 2) b_) c_))))) eZ)
  (eL (eO (eV aa hr L (a_ (pv 0) (a_ (eS (pv 1) b_) (a_ (eS (pv 2) b_) c_)))))))),?_⟩
 ac_rfl
 rcases hE with⟨p1,p2,pl,h1,h2,l1,l2,ag⟩|⟨u1,u2,d,f1,f2,h1,h2,o1,o2,hF,hd,ah⟩
 . refine⟨_,rfl,t1,_,_,_,rfl,rfl,eB.of h1,rfl,_,rfl,t2,_,_,_,rfl,rfl,eB.of h2,rfl,rfl,_,rfl,jS rfl ?_⟩;refine⟨_,rfl,t2,_,_,_,rfl,rfl,eB.of h2,rfl,rfl,_,rfl,?_⟩;rw[decide_eq_true rfl];refine fF ?_;exact⟨_,rfl,t1,_,_,_,rfl,rfl,eB.of h1,rfl,_,rfl,t2,_,_,_,rfl,rfl,eB.of h2,rfl,p1,p2,pl,rfl,l1,l2,ag,q⟩
 . refine⟨_,rfl,t1,_,_,_,rfl,rfl,eB.of h1,rfl,_,rfl,t2,_,_,_,rfl,rfl,eB.of h2,rfl,rfl,_,rfl,jS rfl ?_⟩;refine⟨_,rfl,t2,_,_,_,rfl,rfl,eB.of h2,rfl,rfl,_,rfl,?_⟩;rw[show decide (V.str "done"=V.str "refused")=false by decide +kernel];refine fe ?_;exact⟨_,rfl,_,rfl,t1,_,_,_,rfl,rfl,eB.of h1,rfl,_,rfl,t2,_,_,_,rfl,rfl,eB.of h2,rfl,kv,u1,u2,k,d,f1,f2,rfl,hk,hW,o1,o2,hF,hd,ah,q⟩
noncomputable def i4 (fs:Fs) (i:Nat):List Str:=((fs.toL.take i).filter λq=>iy q.2).map (·.1)
def BN:Sp:=λvs H Q _=>∃pk pb key by_ xs fs,vs=[.ref pk]/\j1 H pk pb key by_/\H pb=some (.tup xs)/\FA H xs fs/\fs.names.length<=12/\∀D H',Same H H'->H D=none->H' D=some (.lst ((i4 fs xs.length).map V.str))->Q (.ref D) H'
theorem Iw:fo ["_law_kind_here"] ["_law_kind_here"] (eP (top 43)):=fM
theorem Iy (T:Tb mg)(z:Dn K mg "_law_plains" qt (top 43) I J):eE P w K mg base eI (1) I J qt (BN):=by
 refine z.F.ok Iw λvs H Q E h=>?_;obtain⟨pk,pb,key,by_,xs,fs,rfl,ae,aa,ab,ah,q⟩:=h;refine⟨rfl,λai A outer s nd hr hu=>?_⟩;refine⟨_,(eL (eO (kT (g:=(gX 0)) (tt:=(yi (jO (f_ (pV K 0) (f_ (ic K) (fT 0) (tC (.int 1))) (kM (gp (tC (.str "number")) g8)))) (jO (f_ (pV K 0) (f_ (ic K) (fT 0) (tC (.int 1))) (kM (gp (tC (.str "word")) g8)))))) (te:=(f_ (ic K) (fT 0) (tC (.int 0)))) (own:=["_law_pair"]) rfl (jY (N:=["_law_kind_here"]) (sc:=eP (top 43))) (kJ (eS (pv 0) b_)) (λ_ _ _ _ _=>(fX (i:=0) (show(["_law_pair","_law_kind_here"]:List Str).Nodup by decide +kernel) rfl (Or.inl rfl) (.inr rfl))) (λ_ _ _ _ _=>(pI (PW.pt (il (eW (pW (n:=0) hu) (eS (pv 0) b_) (f7 (a_ fm c_)) (eT _)) (iB (eW (pW (n:=0) hu) (eS (pv 0) b_) (f7 (a_ fm c_)) (eT _))))))) (λ_ _ _ _ _=>(eS (pv 0) b_))))),?_⟩
 ac_rfl
 have aj:=FA.len fs ab;refine⟨_,rfl,pk,_,_,_,rfl,rfl,eB.of ae,rfl,pb,rfl,⟨_,eB.of aa⟩,Im (λH' s=>tZ (eB.of (s _ _ aa))) (λi=>(i4 fs i).map V.str) (by omega) (λH' s p hp=>?_) (λi x H' s hx ac hl=>?_)⟩
 . exact q p _ (s.trans (Same.new hp)) (s.free hp) eK
 . obtain⟨c,u,nm,k,rfl,af,hc,hk⟩:=FA.get fs ab hx;have hz:fs.toL[i]? =some (nm,k):=by rw[Fs.tN];exact af
   have fin:∀H2,Same H H2->∀b:Bool,iy k=b->(if b=true then f_ (ic K) (fT 0) (tC (.int 0)) [some (.ref c),some (.ref pk)] H2 λy H4=>∃Y,Y<xs.length - i/\CS (λi=>(i4 fs i).map V.str) xs.length H (i+1) Y ((i4 fs i).map V.str++[y]) H4 else ∃Y,Y<xs.length - i/\CS (λi=>(i4 fs i).map V.str) xs.length H (i+1) Y ((i4 fs i).map V.str) H2):=λH2 L b eb=>by
    cases b with
    |true=>
     refine fF ⟨_,rfl,c,_,_,_,rfl,rfl,eB.of (L _ _ hc),rfl,CS.add ac hl L ?_⟩;unfold i4;rw[Bh hz eb,Q0k];rfl
    |false=>
     refine fe (CS.skip ac hl L ?_);unfold i4;rw[Bi hz (by rw[eb];decide)]
   refine⟨rfl,_,rfl,c,_,_,_,rfl,rfl,eB.of (s _ _ hc),rfl,hZ,λt1 ag=>?_⟩;have s1:=s.trans (Same.new (o:=.tup [.str "number"]) ag);refine qT (KA.mono (Tu.of s1) k hk) eK ⟨_,rfl,fJ (λU=>?_) (λU=>?_)⟩
   . have e:iy k=true:=by
      have U:(decide (k.nm="number") && iy k)=true:=U;rw[Bool.and_eq_true] at U;exact U.2
     exact fin _ s1 true e
   . refine⟨_,rfl,c,_,_,_,rfl,rfl,eB.of (s1 _ _ hc),rfl,hZ,λt2 jI=>?_⟩;have L:=s1.trans (Same.new (o:=.tup [.str "word"]) jI);refine qT (KA.mono (Tu.of L) k hk) eK ⟨_,rfl,?_⟩
     have e:(decide (k.nm="word") && iy k)=iy k:=by
      cases k
      case num=>exact absurd rfl U
      case fC=>rfl
      all_goals exact Bool.and_false _
     rw[e];exact fin _ L _ rfl
def BO (C:Addr):Sp:=λvs H Q _=>∃l,∃m:Int,∃ps:List Str,vs=[.int m,.ref l]/\H l=some (.lst (ps.map V.str))/\0<=m/\∀t v dx y H',Same H H'->H' t=some (.tup [.ref v,.str y])->jJ H' C v dx y->(y=""\/y∈ps)->Q (.ref t) H'
theorem Iz:fo ["_law_m","_law_plains_here","_law_by"] Xf (eP (top 44)):=fM
theorem IA {u0:Value}(T:Tb mg)(OF:lg K mg C J ai al am ak aj)(ac:Dn K mg "_law_view" qu (top 44) ae af)(L:uc K "__init__" "Order.__init__" qi (ff 22 0) J U)(I:eE P w K mg base eI (1) J U qi (BA C))(ag:Binds K U ["self","by"] [u0])(ah:Vals [.str ""] [u0]):eE P w K mg base eI (3) ae af qu (BO C):=by
 have Y:=OF.HW;have aa:=OF.m;refine ac.F.ok Iz λvs H Q E h=>?_;obtain⟨l,m,ps,rfl,hl,m0,q⟩:=h;refine⟨rfl,λao A outer s nd hr hu=>?_⟩
 refine⟨_,(eF (eY (PW.pt (il (eW fE (eJ fv (pv 0) b_) b_ (eT _)) (iB (eW fE (fA gZ (by rfl) T.gK PySem.boot_len (a_ (pv 1) c_)) b_ (eT _))))) (eL (eO (f7 (a_ (DR Y I (hr.mono (by decide)) rfl aa ag ah iV) (a_ fm c_))))) eZ)
  (eF (eY (eW fE (eJ fv (pv 0) b_) b_ (eT _)) (eL (eO (f7 (a_ (yL Y I (hr.mono (by decide)) rfl aa L.b .nil iV (a_ fm c_)) (a_ fm c_))))) eZ)
  (eF (eX 2 nd (gO (pv 1) (eJ fv (eJ gm (pv 0) b_) (fA gZ (by rfl) T.gK PySem.boot_len (a_ (pv 1) c_)))))
  (eL (eO (f7 (a_ (yL Y I (hr.mono (by decide)) rfl aa L.b .nil iV (a_ (pv 2) c_)) (a_ (pv 2) c_)))))))),?_⟩
 ac_rfl
 have fin:∀(y:Str) (v dx:Addr) (H1:Hp),(y=""\/y∈ps)->Same H H1->jJ H1 C v dx y->∀t,H1 t=none->Q (.ref t) (upd H1 t (.tup [.ref v,.str y])):=λy v dx H1 hy s1 hV t ht=>
  q t v dx y _ (s1.trans (Same.new ht)) eK (Same.new ht _ _ hV) hy
 have sm:∀{v dx:Addr} {H1:Hp},H v=none->H dx=none->(∀c o,c≠v->upd (upd H dx (.own v)) v (.ins C dx []) c=some o->H1 c=some o)->Same H H1:=λhv ab keep c o e=>keep c o (eM e hv) (by rw[d_ (eM e hv),d_ (eM e ab)];exact e);refine⟨_,rfl,_,_,rfl,rfl,(by show(0:Int)<_;decide),rfl,_,rfl,fJ (λc1=>fF ?_) (λc1=>⟨_,rfl,l,_,rfl,.inl (eG.of hl),rfl,_,rfl,fJ (λc2=>?_) (λc2=>?_)⟩)⟩
 . intro v dx hv ab _;exact⟨v,dx,"",rfl,eK,λH1 keep hV=>⟨rfl,gF,λt ht=>fin "" v dx H1 (.inl rfl) (sm hv ab keep) hV t ht⟩⟩
 . intro v dx hv ab _;exact⟨v,dx,"",rfl,eK,λH1 keep hV=>⟨rfl,gF,λt ht=>fin "" v dx H1 (.inl rfl) (sm hv ab keep) hV t ht⟩⟩
 . refine⟨_,rfl,_,_,rfl,rfl,(by show(0:Int)<_;decide),rfl,_,rfl,fJ (λc3=>?_) (λc3=>?_)⟩
   . intro v dx hv ab _;exact⟨v,dx,"",rfl,eK,λH1 keep hV=>⟨rfl,gF,λt ht=>fin "" v dx H1 (.inl rfl) (sm hv ab keep) hV t ht⟩⟩
   . have ap:0<ps.length:=by
      rcases Q3e ps.length with z|z
      . exact absurd (decide_eq_true (show V.int ((ps.map V.str).length:Nat)=V.int 0 by rw[Q03,z];rfl)) c2
      . exact z
     have z0:0<=m / 4 % (((ps.map V.str).length:Nat):Int):=Q0h _ (by rw[Q03];omega)
     have z1:m / 4 % (((ps.map V.str).length:Nat):Int)<ps.length:=by
      have:=Q0j (m / 4) (show(0:Int)<(((ps.map V.str).length:Nat):Int) by rw[Q03];omega)
      rwa [Q03] at this ⊢
     obtain⟨x,hx,an⟩:=qB (ss:=ps) z0 z1;refine⟨_,rfl,_,rfl,_,_,rfl,rfl,⟨by decide,by decide⟩,_,rfl,l,_,rfl,.inl (eG.of hl),_,_,rfl,rfl,by rw[Q03];omega,l,_,_,_,rfl,rfl,eG.of hl,hx,?_⟩;have hm:x=""\/x∈ps:=.inr (Q19 an);refine⟨_,rfl,?_⟩;intro v dx hv ab _;exact⟨v,dx,x,rfl,eK,λH1 keep hV=>⟨rfl,_,rfl,gF,λt ht=>fin x v dx H1 hm (sm hv ab keep) hV t ht⟩⟩
def BP (key by_:Str) (ms:List Ds) (r:Option (List Key)):Prop:=(r=none/\∀j,0<j->j<ms.length->g5 key by_ (ms.getD (j - 1) .nil) (ms.getD j .nil))\/
 ∃i,0<i/\i<ms.length/\r=some [Sum.inl (i:Int)]/\(∀j,0<j->j<i->g5 key by_ (ms.getD (j - 1) .nil) (ms.getD j .nil))/\¬g5 key by_ (ms.getD (i - 1) .nil) (ms.getD i .nil)
def BQ:Sp:=λvs H Q _=>∃pk I pb key by_ fs z ms J,vs=[.ref pk,.ref I]/\j1 H pk pb key by_/\H I=some (.lst z)/\fc H z ms J/\z.length<64/\(∀m∈ms,fQ fs m)/\fs.pl key/\(by_=""\/fs.pl by_)/\∀r u H',Same H H'->kx H' u r->BP key by_ ms r->Q u H'
theorem IB:fo ["_law_kind_here","_law_rows_here","_law_n"] XH (eP (top 45)):=fM
theorem IC (T:Tb mg)(J:Dn K mg "_law_wrong" jG (top 45) L U)(z:Dn K mg "_law_rank" jF (top 32) Y aa)(I:eE P w K mg base eI (1) Y aa jF (kq)):eE P w K mg base eI (2) L U jG (BQ):=by
 refine J.F.ok IB λvs H Q E h=>?_;obtain⟨pk,pr,pb,key,by_,fs,ws,ms,fl,rfl,ai,ah,ae,hl,ab,ac,af,q⟩:=h;refine⟨rfl,λaH A outer s nd hr hu=>?_⟩;have an:=hr.rM
 refine⟨_,(eF (iS PassesOwn.never rfl (Dj rfl T.kY (a_ b_ (a_ (fA gZ (by rfl) T.gK PySem.boot_len (a_ (pv 1) c_)) c_))) (fX (i:=2) nd rfl gJ) (eL (eY (eW (zN an) (eV I hr z (a_ (pv 0) (a_ (gO (pv 1) (pv 2)) c_))) (eV I hr z (a_ (pv 0) (a_ (gO (pv 1) (eJ jN (pv 2) b_)) c_))) (eT _)) (eL (eO (fY (a_ (pv 2) c_)))) eZ)))
  (eL (eO gW))),?_⟩
 ac_rfl
 obtain⟨aF,aG⟩:=A3.len ae
 have aj:∀(H':Hp),Same H H'->∀j,j<ws.length->∃rr kvs fq,ws[j]? =some (.ref rr)/\H' rr=some (.dK kvs)/\eN H' kvs (ms.getD j .nil) fq/\ms.getD j .nil∈ms:=λH' s j hj=>by
  have h:=Own.same s (A3.at (a0:=V.non) (b0:=Ds.nil) (c0:=[]) ae j hj);unfold Own at h;obtain⟨rr,kvs,fq,e,ao,_,ap⟩:=h;refine⟨rr,kvs,fq,?_,ao,ap,?_⟩
  . rw[<-e,Q0d,Q02 hj];rfl
  . rw[Q0d,Q02 (by omega)];exact Q0v _
 refine⟨_,rfl,pr,_,rfl,.inl (eG.of ah),_,_,rfl,⟨by decide,by decide,by omega,by omega⟩,kL (lo:=1) (n:=((ws.length:Int) - 1).toNat) (λi σ H'=>Same H H'/\(∃x,σ=[some (.ref pk),some (.ref pr),x])/\∀j,0<j->j<i+1->g5 key by_ (ms.getD (j - 1) .nil) (ms.getD j .nil)) ⟨Same.refl _,⟨_,rfl⟩,λj h0 h1=>absurd h1 (by omega)⟩ ?_ ?_⟩
 . rintro i σ H' hi ⟨s1,⟨x,rfl⟩,ag⟩;have aq:i+1<ws.length:=by omega
   obtain⟨r1,ar,au,e1,av,aw,ak⟩:=aj H' s1 (i+1) aq
   have ax:gB ws ((1:Int)+(i:Int))=some (.ref r1):=by
    rw[show(1:Int)+(i:Int)=((i+1:Nat):Int) by omega];exact g9 e1
   refine⟨_,rfl,_,rfl,_,rfl,pr,_,_,_,rfl,rfl,eG.of (s1 _ _ ah),ax,pk,r1,pb,key,by_,fs,ar,_,au,rfl,s1 _ _ ai,av,aw,ab _ ak,ac,af,λt1 ay=>?_⟩;have az:Same H' (upd H' t1 (.tup ((rankOf key by_ (ms.getD (i+1) .nil)).map kV))):=Same.new ay;have s2:=s1.trans az;obtain⟨r0,aA,aB,e0,aC,aD,al⟩:=aj _ s2 i (by omega)
   have aE:gB ws ((1:Int)+(i:Int) - 1)=some (.ref r0):=by
    rw[show(1:Int)+(i:Int) - 1=(i:Int) by omega];exact g9 e0
   refine⟨_,rfl,_,rfl,_,rfl,_,_,rfl,rfl,pr,_,_,_,rfl,rfl,eG.of (s2 _ _ ah),aE,pk,r0,pb,key,by_,fs,aA,_,aB,rfl,s2 _ _ ai,aC,aD,ab _ al,ac,af,λt2 jI=>?_⟩;have am:Same (upd H' t1 (.tup ((rankOf key by_ (ms.getD (i+1) .nil)).map kV))) (upd (upd H' t1 (.tup ((rankOf key by_ (ms.getD (i+1) .nil)).map kV))) t2 (.tup ((rankOf key by_ (ms.getD i .nil)).map kV))):=Same.new jI;have s3:=s2.trans am;refine⟨t1,t2,_,_,rfl,rfl,eB.of (am _ _ eK),eB.of eK,(mZ (ab _ ak) ac af).trans (mZ (ab _ al) ac af).symm,_,rfl,?_⟩;by_cases hL:gC (rankOf key by_ (ms.getD i .nil)) (rankOf key by_ (ms.getD (i+1) .nil))=true
   . rw[hL];refine fe ⟨s3,⟨_,rfl⟩,λj h0 h1=>?_⟩;by_cases e:j=i+1
     . subst e;exact hL
     . exact ag j h0 (by omega)
   . rw[Bool.eq_false_iff.mpr hL];refine fF ⟨_,rfl,hZ,λp hp=>?_⟩;refine q (some [Sum.inl ((i+1:Nat):Int)]) (.ref p) _ (s3.trans (Same.new hp)) ⟨p,rfl,?_⟩ (.inr ⟨i+1,by omega,by omega,rfl,λj h0 h1=>ag j h0 h1,hL⟩);rw[eK];show some (HO.lst [V.int (1+(i:Int))])=some (HO.lst [V.int ((i+1:Nat):Int)]);rw[show(1:Int)+(i:Int)=((i+1:Nat):Int) by omega]
 . rintro σ H' ⟨s1,_,ag⟩;exact q none .non H' s1 rfl (.inl ⟨rfl,λj h0 h1=>ag j h0 (by omega)⟩)
end
def Kn (H H':Hp):Prop:=∀c o,(∀ps,o≠ .gq ps)->H c=some o->H' c=some o
theorem Kn.of {H H':Hp}(s:Same H H'):Kn H H':=λc o _ e=>s c o e
theorem Kn.trans {H H1 H2:Hp}(a:Kn H H1)(b:Kn H1 H2):Kn H H2:=λc o z e=>b c o z (a c o z e)
theorem Kn.nv {P:Addr}{z:Pos}{I:Str}{H H':Hp}(k:ku P H H')(hT:eQ P z I H):Kn H H':=λc o J e=>by
 obtain⟨ps,L⟩:=hT.tab;exact k c o (gz e L (J ps)) e
theorem Kn.tu {H H':Hp}(k:Kn H H'):Tu H H':=λc xs e=>k c _ (by intro ps z;cases z) e
theorem Kn.lst {H H':Hp}(k:Kn H H'){c:Addr}{xs:List V}(e:H c=some (.lst xs)):H' c=some (.lst xs):=k c _ (by intro ps z;cases z) e
theorem Own.kn {H H':Hp}{v:V}{d:D}{I:List Addr}(h:Own H v d I)(k:Kn H H'):Own H' v d I:=h.keep k.tu d λc hc o e=>k c o (by
 intro ps z;rcases Own.alive d h c hc with⟨_,q⟩|⟨_,q⟩ <;> rw[e] at q <;> rw[z] at q <;> cases q) e
theorem fc.kn {H H':Hp}{vs:List V}{rs:List Ds}{I:List (List Addr)}(h:fc H vs rs I)(k:Kn H H'):fc H' vs rs I:=fc.keep k.tu h λc hc o e=>k c o (by
 intro ps z;rcases fc.mu h c hc with⟨_,q⟩|⟨_,q⟩ <;> rw[e] at q <;> rw[z] at q <;> cases q) e
theorem jK {H:Hp}{D:Addr}{vs:List V}{ms:List Ds}{z:List (List Addr)}(I:H D=some (.lst vs))(h:fc H vs ms z):Own H (.ref D) (.lst (fi ms)) (D::z.flatten):=by
 unfold Own;exact⟨D,vs,_,rfl,I,rfl,fc.own h⟩
theorem mw:∀{a b:List Ds},fi a=fi b->a=b
 |[],[],_=>rfl
 |[],_::_,h=>by cases h
 |_::_,[],h=>by cases h
 |x::a,y::b,h=>by
  injection h with _ h1 h2
  injection h1 with h1
  rw[h1,mw h2]
abbrev ID (Pi Po:Addr):Hp->Hp->Prop:=Kp (λc=>c=Pi\/c=Po)
theorem IE {n:Nat}{key by_ y:Str}{fs:Fs}{ms:List Ds}(h:fg (.rows key y fs) (.lst (fi ms))/\(D.lst (fi ms)).dep<=n/\(D.lst (fi ms)).Sm):
 fg (.rows key by_ fs) (.lst (fi (fV key by_ ms)))/\(D.lst (fi (fV key by_ ms))).dep<=n/\(D.lst (fi (fV key by_ ms))).Sm:=by
 obtain⟨hF,U,I⟩:=h;unfold fg at hF;obtain⟨rs,e,hf,_,Y⟩:=hF;have z:=i_ key by_ ms;have e:fi ms=fi rs:=by injection e
 have L:ms=rs:=mw e;subst L;refine⟨?_,?_,?_⟩
 . unfold fg;refine⟨_,rfl,λm J=>hf m (z.mem_iff.mp J),mY (mW key by_ ms) ?_,?_⟩
   . exact(z.map _).nodup_iff.mpr Y
   . exact(z.map _).nodup_iff.mpr Y
 . simp only[D.dep] at U ⊢
   cases ms with
   |nil=>exact U
   |cons m r=>
    have h1:=oO (l:=m::r) m Q0b
    have h2:=oy (l:=fV key by_ (m::r)) (n:=(fi (m::r)).dep - 1) λx hx=>by
     have:=oO (l:=m::r) x (z.mem_iff.mp hx);omega
    omega
 . unfold D.Sm at I ⊢;refine⟨by rw[kr,z.length_eq,<-kr];exact I.1,oN λm J=>qF I.2 m (z.mem_iff.mp J)⟩
def Du (key by_:Str) (d:D) (r:Option (List Key)) (H:Hp) (t:Addr):Prop:=
 (r=none/\∃D vs z ms,d=.lst (fi ms)/\H D=some (.lst vs)/\fc H vs (fV key by_ ms) z/\H t=some (.tup [.str "done",.ref D]))\/
 ∃pl p,r=some pl/\H p=some (.lst (pl.map kV))/\H t=some (.tup [.str "refused",.ref p])
theorem Du.kn {key by_:Str}{d:D}{r:Option (List Key)}{H H':Hp}{t:Addr}(h:Du key by_ d r H t)(k:Kn H H'):Du key by_ d r H' t:=by
 rcases h with⟨e,D,vs,J,ms,z,I,L,U⟩|⟨pl,p,e,z,I⟩
 . exact .inl ⟨e,D,vs,J,ms,z,k.lst I,L.kn k,k.tu _ _ U⟩
 . exact .inr ⟨pl,p,e,k.lst z,k.tu _ _ I⟩
theorem Du.end_ {n:Nat}{key by_ y:Str}{fs:Fs}{d:D}{r:Option (List Key)}{H:Hp}{I J:Addr}(h1:Du key by_ d r H I)(h2:Du key by_ d r H J)(hR:Rs n (.rows key y fs) d r)(z:∀pl,r=some pl->pl.length<=100):ue n H (.rows key by_ fs) (.ref I) (.ref J):=by
 refine⟨I,J,rfl,rfl,?_⟩;rcases h1 with⟨rfl,D,vs,fl,ms,rfl,L,a3,a4⟩|⟨pl,p,rfl,a1,L⟩
 . rcases h2 with⟨_,D2,aa,ab,ac,e2,U,b3,b4⟩|⟨pl,p,e,_⟩
   . cases mw (Pb.D.lst.inj e2);have Y:=IE (by_:=by_) hR;exact .inr ⟨.ref D,.ref D2,_,_,_,a4,b4,jK L a3,jK U b3,Y.1,Y.2.1,Y.2.2⟩
   . cases e
 . rcases h2 with⟨e,_⟩|⟨ae,p2,e,b1,U⟩
   . cases e
   . cases e;exact .inl ⟨p,p2,pl,L,U,a1,b1,z pl rfl⟩
abbrev OI (Pi Po:Addr) (H H':Hp):Prop:=Kn H H'/\ID Pi Po H H'/\eQ Pi ie ig H'/\eQ Po jq jr H'
theorem OI.trans {Pi Po:Addr}{H H1 H2:Hp}(a:OI Pi Po H H1)(b:OI Pi Po H1 H2):OI Pi Po H H2:=⟨a.1.trans b.1,a.2.1.trans b.2.1,b.2.2⟩
theorem OI.same {Pi Po:Addr}{H H':Hp}(s:Same H H')(hi:eQ Pi ie ig H)(z:eQ Po jq jr H):OI Pi Po H H':=⟨Kn.of s,Kp.of s,hi.same s,z.same s⟩
theorem OI.i {Pi Po:Addr}{H H':Hp}(k:ku Pi H H')(hi:eQ Pi ie ig H)(I:eQ Pi ie ig H')(L:eQ Po jq jr H)(J:Pi≠Po):OI Pi Po H H':=by
 obtain⟨ps,U⟩:=hi.tab;exact⟨Kn.nv k hi,λc o hc e=>k c o (λz=>hc (.inl z)) e,I,L.nv k U J⟩
theorem OI.o {Pi Po:Addr}{H H':Hp}(k:ku Po H H')(L:eQ Po jq jr H)(I:eQ Po jq jr H')(hi:eQ Pi ie ig H)(J:Pi≠Po):OI Pi Po H H':=by
 obtain⟨ps,U⟩:=L.tab;exact⟨Kn.nv k L,λc o hc e=>k c o (λz=>hc (.inr z)) e,hi.nv k U (Ne.symm J),I⟩
theorem ug {gU:Addr}{n:Nat}{Pi Po C v dx pk pb:Addr}{key by_ y:Str}{xs:List V}{fs:Fs}{src w:V}{d:D}{fp:List Addr}{r:Option (List Key)}{H:Hp}{Q:VK}{E:XK}(hV:jJ H C v dx y)(hK:je H pk pb key by_ y xs fs)(hi:eQ Pi ie ig H)(ho:eQ Po jq jr H)(J:Pi≠Po)(hO:Own H w d fp)(hR:Rs n (.rows key y fs) d r)(hl:∀ms,d=.lst (fi ms)->ms.length<64)
 (q:∀z H',OI Pi Po H H'->Du key by_ d r H' z->Q (.ref z) H'):qW gU n Pi C [.ref v,.ref pk,src,w] H Q E:=
 ⟨v,dx,pk,pb,key,by_,y,xs,fs,src,w,d,fp,r,rfl,hV,hK,hi,hO,hR,hl,λI ms ed D L U z H' kp Y _ aa ab _ ht=>q z H' (OI.i kp hi Y ho J) (.inl ⟨I,D,L,U,ms,ed,aa,ab,ht⟩),λpl I p z H' s hp ht=>q z H' (OI.same s hi ho) (.inr ⟨pl,p,I,hp,ht⟩)⟩
def BR (n:Nat) (Pi Po C:Addr):Sp:=λvs H Q _=>∃v dx pk pb key by_ y xs fs src w u d z r,vs=[.ref v,.ref pk,src,w,u]/\jJ H C v dx y/\je H pk pb key by_ y xs fs/\eQ Pi ie ig H/\eQ Po jq jr H/\Pi≠Po/\Own H w d z/\Rs n (.rows key y fs) d r/\(∀ms,d=.lst (fi ms)->ms.length<64)/\kx H u r/\(∀pl,r=some pl->pl.length<=100)/\
 ∀H',OI Pi Po H H'->Q (.bl true) H'
section
variable {P:Program}{w:World}{K:W.Frag}{mg:Str->Option Value}{base:Heap}
variable {C Pi Po gU:Addr}
theorem IF:fo ["_law_view_here","_law_kind_here","_law_source","_law_seen","_law_wrong_here","_law_due"] XJ (eP (top 46)):=fM
theorem IG (n j:Nat)(T:Tb mg)(ag:Dn K mg "_law_puts" qw (top 46) ah ai)(Y:Dn K mg "_law_put" nj (top 40) aj ak)(aa:eE P w K mg base eI (j+6) aj ak nj (qW gU n Pi C))(I:Dn K mg "_law_same_end" iK (top 41) L U)(J:eE P w K mg base eI (n+2) L U iK (uf n))(ab:Dn K mg "_law_sorted" jG (top 42) ac ae)(af:eE P w K mg base eI (8) ac ae jG (nu Po jq jr))(hj:n<=j)(h8:8<=j):eE P w K mg base eI (j+7) ah ai qw (BR n Pi Po C):=by
 refine ag.F.ok IF λvs H Q E h=>?_;obtain⟨v,dx,pk,pb,key,by_,y,xs,fs,src,w,u,d,fp,r,rfl,hV,hK,ay,az,aq,hO,hR,hl,hu,ao,q⟩:=h;refine⟨rfl,λaT A outer s nd hr hu=>?_⟩
 refine⟨_,(eF (eX 5 nd (f7 (a_ fm (a_ (pv 4) c_))))
  (eF (eY (eW rJ (pv 4) gW (eT _)) (eL (eX 5 nd (f7 (a_ fm (a_ (eV af hr ab (a_ (pv 1) (a_ (pv 3) c_))) c_))))) eZ)
  (eF (eY (gY (gS (eV J hr I (a_ (pv 1) (a_ (eV aa hr Y (a_ (pv 0) (a_ (pv 1) (a_ (pv 2) (a_ (pv 3) c_))))) (a_ (pv 5) c_)))))) (eL (eO gR)) eZ)
  (eL (eO (eV J hr I (a_ (pv 1) (a_ (eV aa hr Y (a_ (pv 0) (a_ (pv 1) (a_ (fY c_) (a_ (pv 3) c_))))) (a_ (pv 5) c_))))))))),?_⟩
 ac_rfl
 have hW:=hK.W
 have ap:fs.pl key/\(by_=""\/fs.pl by_):=by
  unfold Kd.W at hW;exact hW.2.2.2
 have ka:∀H',Kn H H'->KA H' (.ref pk) (.rows key by_ fs):=λH' k=>by
  unfold KA;exact⟨pk,pb,xs,rfl,k.tu _ _ hK.at_,k.tu _ _ hK.tu,FA.mono k.tu fs hK.fa⟩
 have ar:∀H',Kn H H'->jJ H' C v dx y:=λH' k=>k _ _ (by intro ps z;cases z) hV;refine⟨_,rfl,gF,λt0 aA=>?_⟩;have s0:Same H (upd H t0 (.tup [.str "refused",u])):=Same.new aA;have o0:OI Pi Po H (upd H t0 (.tup [.str "refused",u])):=OI.same s0 ay az;dsimp only[gX];refine qL (A:=j6 _ _ _) (λau H1=>∃t1,au=[some (.ref v),some (.ref pk),some src,some w,some u,some (.ref t1)]/\OI Pi Po H H1/\Du key by_ d r H1 t1) ?_ (λhB=>?_)
 . rintro au H1 ⟨t1,rfl,o1,hD⟩;refine⟨_,rfl,_,rfl,_,rfl,_,rfl,_,rfl,?_⟩;dsimp only[g8];refine ug (ar _ o1.1) (hK.mono o1.1.tu) o1.2.2.1 o1.2.2.2 aq (hO.kn o1.1) hR hl λtq H2 o2 aB=>?_;have am:=o1.trans o2;refine⟨_,rfl,.ref pk,.ref tq,.ref t1,_,rfl,ka _ am.1,hW,aB.end_ (hD.kn o2.1) hR ao,λH3 s3=>⟨true,rfl,fe ?_⟩⟩;have o3:=am.trans (OI.same s3 am.2.2.1 am.2.2.2);refine⟨_,rfl,_,rfl,_,rfl,ni,λl0 av=>?_⟩;have o4:=o3.trans (OI.same (Same.new (o:=.lst []) av) o3.2.2.1 o3.2.2.2);refine⟨_,rfl,?_⟩;dsimp only[g8];refine ug (ar _ o4.1) (hK.mono o4.1.tu) o4.2.2.1 o4.2.2.2 aq (hO.kn o4.1) hR hl λaC H5 o5 aD=>?_;have an:=o4.trans o5;exact⟨_,rfl,.ref pk,.ref aC,.ref t1,_,rfl,ka _ an.1,hW,aD.end_ (hD.kn (((o2.1.trans (Kn.of s3)).trans (Kn.of (Same.new av))).trans o5.1)) hR ao,λH6 s6=>q H6 (an.trans (OI.same s6 an.2.2.1 an.2.2.2))⟩
 . cases r with
   |none=>
    have hu:u=.non:=hu;subst hu;refine⟨_,rfl,rfl,_,rfl,fF ?_⟩;have aE:=hR;obtain⟨hF,_⟩:=aE;unfold fg at hF;obtain⟨ms,rfl,ax,_,aF⟩:=hF;have aw:=hO.same s0;unfold Own at aw;obtain⟨sn,ws,fq,rfl,aG,rfl,aH⟩:=aw;obtain⟨fl,al,rfl⟩:=eR.rows aH;refine⟨_,rfl,_,rfl,pk,sn,pb,key,by_,fs,ws,ms,fl,rfl,s0 _ _ hK.at_,aG,al,by rw[(A3.len al).1];exact hl ms rfl,o0.2.2.2,ax,ap.1,ap.2,aF,λD aJ aK H' kp aL hD aM aP hp=>⟨gF,λt1 aQ=>?_⟩⟩;have o1:=o0.trans (OI.o kp o0.2.2.2 aL o0.2.2.1 aq);have st:=Same.new (o:=.tup [.str "done",.ref D]) aQ;exact hB _ _ ⟨t1,rfl,o1.trans (OI.same st o1.2.2.1 o1.2.2.2),.inl ⟨rfl,D,aJ,aK,ms,rfl,st _ _ aM,aP.kn (Kn.of st),eK⟩⟩
   |some pl=>
    obtain⟨p,rfl,hp⟩:=hu;refine⟨_,rfl,rfl,_,rfl,fe ?_⟩;exact hB _ _ ⟨t0,rfl,o0,.inr ⟨pl,p,rfl,s0 _ _ hp,eK⟩⟩
end
inductive OL (H:Hp):List V->List D->Prop
 |nil:OL H [] []
 |cons {v:V} {d:D} {f:List Addr} {vs:List V} {L:List D} (h:Own H v d f) (t:OL H vs L):OL H (v::vs) (d::L)
theorem OL.len {H:Hp}{vs:List V}{L:List D}(h:OL H vs L):vs.length=L.length:=by
 induction h with
 |nil=>rfl
 |cons _ _ z=>rw[Q0g,Q0g,z]
theorem OL.app {H:Hp}{a b:List V}{A B:List D}(h:OL H a A)(k:OL H b B):OL H (a++b) (A++B):=by
 induction h with
 |nil=>exact k
 |cons h _ z=>exact .cons h z
theorem OL.take {H:Hp}{a:List V}{A:List D}(h:OL H a A)(i:Nat):OL H (a.take i) (A.take i):=by
 induction h generalizing i with
 |nil=>rw[Q3f,Q3f];exact .nil
 |cons h _ z=>
  cases i with
  |zero=>exact .nil
  |succ i=>exact .cons h (z i)
theorem OL.drop {H:Hp}{a:List V}{A:List D}(h:OL H a A)(i:Nat):OL H (a.drop i) (A.drop i):=by
 induction h generalizing i with
 |nil=>rw[Q3g,Q3g];exact .nil
 |cons h t z=>
  cases i with
  |zero=>exact .cons h t
  |succ i=>exact z i
theorem OL.same {H H':Hp}{a:List V}{A:List D}(h:OL H a A)(s:Same H H'):OL H' a A:=by
 induction h with
 |nil=>exact .nil
 |cons h _ z=>exact .cons (h.same s) z
theorem OL.own {H:Hp}{a:List V}{A:List D}(h:OL H a A):∃z,eR H a (iL A) z:=by
 induction h with
 |nil=>exact⟨[],by unfold iL eR;exact⟨rfl,rfl⟩⟩
 |@cons v d f vs L h _ I=>
  obtain⟨z,h2⟩:=I;exact⟨f++z,by unfold iL eR;exact⟨v,vs,f,z,rfl,rfl,h,h2⟩⟩
theorem OL.rows {H:Hp}:∀{vs:List V}{ms:List Ds}{z:List (List Addr)},fc H vs ms z->OL H vs (ms.map D.dct)
 |_,_,_,.nil=>.nil
 |_,_,_,.cons h t=>.cons h (OL.rows t)
theorem OL.lst {H:Hp}{p:Addr}{vs:List V}{L:List D}(hp:H p=some (.lst vs))(h:OL H vs L):∃z,Own H (.ref p) (.lst (iL L)) z:=by
 obtain⟨z,h⟩:=h.own;exact⟨p::z,by unfold Own;exact⟨p,vs,z,rfl,hp,rfl,h⟩⟩
theorem oV:∀(l:List D) (i:Nat),(iL l).at i=l[i]?
 |[],i=>by cases i <;> rfl
 |d::r,0=>rfl
 |d::r,i+1=>oV r i
theorem oW:∀l:List D,(iL l).len=l.length
 |[]=>rfl
 |d::r=>by
  show(iL r).len+1=r.length+1;rw[oW r]
theorem BS {key by_:Str}{a b:Ds}(h:g5 key by_ a b):¬g5 key by_ b a:=λh2=>by
 have z:=mT _ _ _ h h2;rw[pO] at z
 cases z
theorem IH {key by_:Str}{a:Ds}:¬g5 key by_ a a:=λh=>BS h h
structure j2 (n:Nat) (key y:Str) (fs:Fs) (ms:List Ds):Prop where
 ok:∀m∈ms,fQ fs m/\m.dep<=n/\m.Sm
 kz:ms.Pairwise (g5 key y)
 kn:(ms.map λm=>keyOf m key).Nodup
 len:ms.length<=30
theorem II {A B:List D}{i:Nat}(h:i<A.length):(A++B)[i]? =A[i]? :=Q1o h
theorem uh {ms:List Ds}{i:Nat}(h:i<ms.length):(ms.map D.dct)[i]? =some (.dct (ms.getD i .nil)):=by
 rw[Q0s,Q0d,Q02 h];rfl
theorem ui {n i:Nat}{key y:Str}{fs:Fs}{ms:List Ds}{e:D}{B:List D}{p:List Key}(h:j2 n key y fs ms)(hi:i<ms.length)(L:B.length<=60)(I:gu (n+1) (.fL fs) e p):gu (n+1) (.rows key y fs) (.lst (iL ((ms.map D.dct).take i++[e]++B))) (Sum.inl (i:Int)::p):=by
 have z:((ms.map D.dct).take i).length=i:=by rw[Q0i,Q03];omega
 refine .oQ (rs:=ms) ?_ (Q0o hi) (λj J=>?_) h.ok h.kz h.kn (e:=e) ?_ I
 . rw[oW,Q0c,Q0c,z];have:=h.len;show i+1+B.length<=100;omega
 . rw[oV,Q0p,II (by omega),Q3h,if_pos J,uh (by omega)]
 . rw[oV,Q0p,Q14 (by omega),z,Q2k];rfl
theorem getD_mem {ms:List Ds}{i:Nat}(h:i<ms.length):ms.getD i .nil∈ms:=by
 rw[Q0d,Q02 h];exact Q0v _
theorem IJ {n i:Nat}{key y:Str}{fs:Fs}{ms:List Ds}(h:j2 n key y fs ms)(hi:i<ms.length):gu (n+1) (.rows key y fs) (.lst (iL ((ms.map D.dct).take (i+1)++[.dct (ms.getD i .nil)]++(ms.map D.dct).drop (i+1)))) [Sum.inl ((i+1:Nat):Int)]:=by
 have U:(ms.map D.dct).take (i+1)++[.dct (ms.getD i .nil)]++(ms.map D.dct).drop (i+1)=(ms.take (i+1)++[ms.getD i .nil]++ms.drop (i+1)).map D.dct:=by
  rw[Q0k,Q0k,Q3i,Q3j];rfl
 rw[U];have J:(ms.take (i+1)).length=i+1:=by rw[Q0i];omega
 have I:(ms.take (i+1)++[ms.getD i .nil]++ms.drop (i+1)).length=ms.length+1:=by
  rw[Q0c,Q0c,J,Q0z];show i+1+1+(ms.length - (i+1))=_;omega
 have L:(ms.take (i+1)++[ms.getD i .nil]++ms.drop (i+1)).take (i+1)=ms.take (i+1):=by
  rw[Q0p,Q3k (by omega),Q1c (by omega)]
 have g:∀(l:List Ds) (k:Nat),l.getD k .nil=(l[k]?).getD .nil:=λl k=>Q0d ..;refine .me (rs:=ms.take (i+1)++[ms.getD i .nil]++ms.drop (i+1)) ?_ (Nat.succ_pos i) (by rw[I];omega) (λj hj=>?_) (λm Y=>?_) ?_ ?_ ?_
 . rw[oW,Q03,I];have:=h.len;omega
 . rw[oV,uh (by rw[I];omega)]
 . rcases List.mem_append.mp Y with z|z
   . rcases List.mem_append.mp z with z|z
     . exact h.ok m (Q1y z)
     . rw[List.mem_singleton.mp z];exact h.ok _ (getD_mem hi)
   . exact h.ok m (Q3l z)
 . rw[L];exact h.kz.sublist (Q18 _ _)
 . rw[L];exact h.kn.sublist ((Q18 _ _).map _)
 . have e1:(ms.take (i+1)++[ms.getD i .nil]++ms.drop (i+1)).getD (i+1 - 1) .nil=ms.getD i .nil:=by
    rw[g,g,Q0p,Q1o (by omega),Q3h,if_pos (by omega),Q2l]
   have e2:(ms.take (i+1)++[ms.getD i .nil]++ms.drop (i+1)).getD (i+1) .nil=ms.getD i .nil:=by
    rw[g,Q0p,Q14 (by omega),J,Q2k];rfl
   rw[e1,e2];exact IH
theorem IK {n i:Nat}{key y:Str}{fs:Fs}{ms:List Ds}(h:j2 n key y fs ms)(Y:0<i)(hi:i<ms.length):gu (n+1) (.rows key y fs) (.lst (iL ((ms.map D.dct).take (i - 1)++[.dct (ms.getD i .nil),.dct (ms.getD (i - 1) .nil)]++(ms.map D.dct).drop (i+1)))) [Sum.inl (i:Int)]:=by
 obtain⟨k,rfl⟩:∃k,i=k+1:=⟨i - 1,by omega⟩;rw[Q2l]
 have el:(ms.map D.dct).take k++[.dct (ms.getD (k+1) .nil),.dct (ms.getD k .nil)]++(ms.map D.dct).drop (k+1+1)=(ms.take k++[ms.getD (k+1) .nil,ms.getD k .nil]++ms.drop (k+1+1)).map D.dct:=by
  rw[Q0k,Q0k,Q3i,Q3j];rfl
 rw[el];have I:(ms.take k).length=k:=by rw[Q0i];omega
 have L:(ms.take k++[ms.getD (k+1) .nil,ms.getD k .nil]++ms.drop (k+1+1)).length=ms.length:=by
  rw[Q0c,Q0c,I,Q0z];show k+2+(ms.length - (k+2))=_;omega
 have U:(ms.take k++[ms.getD (k+1) .nil,ms.getD k .nil]++ms.drop (k+1+1)).take (k+1)=ms.take k++[ms.getD (k+1) .nil]:=by
  rw[Q0p,List.take_append,Q1c (by omega),I,Q3m];rfl
 have J:(ms.take k++[ms.getD (k+1) .nil]).Sublist ms:=by
  have e:ms=ms.take k++ms.drop k:=(Q3n k ms).symm;rw[e,Q3k (by omega),Q1c (by omega)];refine List.Sublist.append (List.Sublist.refl _) (List.singleton_sublist.mpr ?_);rw[<-e,Q0d,Q02 hi];exact List.mem_iff_getElem.mpr ⟨1,by rw[Q0z];omega,by rw[List.getElem_drop];rfl⟩
 have g:∀(l:List Ds) (k:Nat),l.getD k .nil=(l[k]?).getD .nil:=λl k=>Q0d ..;refine .me (rs:=ms.take k++[ms.getD (k+1) .nil,ms.getD k .nil]++ms.drop (k+1+1)) ?_ Y (by rw[L];omega) (λj hj=>?_) (λm hm=>?_) ?_ ?_ ?_
 . rw[oW,Q03,L];have:=h.len;omega
 . rw[oV,uh (by rw[L];omega)]
 . rcases List.mem_append.mp hm with z|z
   . rcases List.mem_append.mp z with z|z
     . exact h.ok m (Q1y z)
     . rcases List.mem_cons.mp z with z|z
       . rw[z];exact h.ok _ (getD_mem hi)
       . rw[List.mem_singleton.mp z];exact h.ok _ (getD_mem (by omega))
   . exact h.ok m (Q3l z)
 . rw[U];exact h.kz.sublist J
 . rw[U];exact h.kn.sublist (J.map _)
 . have e1:(ms.take k++[ms.getD (k+1) .nil,ms.getD k .nil]++ms.drop (k+1+1)).getD (k+1 - 1) .nil=ms.getD (k+1) .nil:=by
    rw[g,Q0p,Q14 (by omega),I,Q2l,Q2k];rfl
   have e2:(ms.take k++[ms.getD (k+1) .nil,ms.getD k .nil]++ms.drop (k+1+1)).getD (k+1) .nil=ms.getD k .nil:=by
    rw[g,Q0p,Q14 (by omega),I,Q3m];rfl
   rw[e1,e2];refine BS ?_;have:=List.pairwise_iff_getElem.mp h.kz k (k+1) (by omega) hi (by omega);rw[g,g,Q02 hi,Q02 (show k<ms.length by omega)];exact this
theorem IL {n:Nat}{e:D}(I:e=.non\/e=.boo true):∀k:Kd,gu (n+1) k e []:=by
 have h1:∀z,e≠ .int z:=λz=>by rcases I with rfl|rfl <;> (intro h;cases h)
 have h2:∀z,e≠ .str z:=λz=>by rcases I with rfl|rfl <;> (intro h;cases h)
 have L:∀z,e≠ .dct z:=λz=>by rcases I with rfl|rfl <;> (intro h;cases h)
 have U:∀z,e≠ .lst z:=λz=>by rcases I with rfl|rfl <;> (intro h;cases h)
 have J:∀z,e≠ .tup z:=λz=>by rcases I with rfl|rfl <;> (intro h;cases h)
 intro k
 cases k with
 |num=>exact .num h1
 |fC=>exact .fC h2
 |fL fs=>exact .md λm z=>absurd z (L m)
 |rows key by_ fs=>exact .rows0 U
 |tree k=>exact .oR λxs as z=>absurd z (J xs)
 |gy fs=>exact .oS λxs z=>absurd z (J xs)
theorem IM {n:Nat}{fs:Fs}{m:Ds}{x:Str}(z:x∈fs.names):gu (n+1) (.fL fs) (.dct (m.del x)) []:=
 .md λI e=>.inr ⟨x,z,by cases e;exact Ds.tM _ _⟩
theorem IQ {n i:Nat}{fs:Fs}{m:Ds}{x:Str}{k:Kd}{e:D}(he:e=.non\/e=.boo true)(I:fs.names.Nodup)(L:fs.at i=some (x,k))(U:fQ fs m)(hd:m.dep<=n+1)(hs:m.Sm):gu (n+1+1) (.fL fs) (.dct (m.upd x e)) [Sum.inr x]:=by
 have aa:x∈m.names:=by rw[U.names];exact Fs.mh (Fs.jV I L)
 refine .oP (by rw[Ds.qK];exact U.names) L (λj z q hj hz=>?_) (Ds.tO e aa) (IL he k);obtain⟨d,Y,J⟩:=U.get (Fs.jV I hz)
 have ab:z≠x:=λw=>by
  subst w;have:=Fs.t9 I hz L;omega
 exact⟨d,by rw[Ds.AN ab];exact Y,J,Q0f (Ds.p_ Y) hd,Ds.qE hs Y⟩
end Pb
namespace L2
structure iO (X:Cx) (e:Expr) (t:TE):Prop where
 w:PE X e t
def qX:List TE->TA
 |[]=>g8
 |t::r=>gp t (qX r)
inductive gQ (X:Cx):List Expr->List TE->Prop
 |nil:gQ X [] []
 |cons {e:Expr} {es:List Expr} {t:TE} {ts:List TE} (h:iO X e t) (hs:∀es,starEach (e::es) X.env=(false,eval e X.env)::starEach es X.env) (r:gQ X es ts):gQ X (e::es) (t::ts)
section
variable {X:Cx}{e:Expr}{es:List Expr}{te:TE}{ts:List TE}{pos:Pos}
theorem gQ.pa (h:gQ X es ts):PA X es (qX ts):=by
 induction h with
 |nil=>exact c_
 |cons h z _ I=>exact a_ h.w I (z _)
theorem gQ.lst (h:gQ X es ts):iO X (.List es pos) (yI (qX ts)):=⟨fY h.pa⟩
theorem gQ.tup {z}(h:gQ X es ts):iO X (.Tuple es z pos) (kM (qX ts)):=⟨f7 h.pa⟩
theorem iO.ix {r:R2}{a b:Expr}{ta tb:TE}(z:nY X r)(I:iO X a ta)(J:PE X b tb)(L:pG b):iO X (.Subscript a b pos) (f_ r ta tb):=⟨kP z I.w J L⟩
structure BU (X:Cx) (ss:List Stmt) (t:TS):Prop where
 w:h9 X ss t
theorem iO.ret (h:iO X e te):BU X [.Return (some e) pos] (ph te):=⟨eL (eO h.w)⟩
theorem IS {c:Expr}{a b:List Stmt}{tc:TT}{t u:TS}(hc:PT X c tc)(z:BU X a t)(I:h9 X b u):PS X (.If c a b pos) (j6 tc t u):=eY hc z.w I
end
end L2
namespace Pb
open L2 PyProof.Rows
theorem nz {tA tB:TE}{D:Ends}{σ:L2.St}{H:Hp}(h:tA σ H λx H1=>tB σ H1 λy H2=>2<=sizeLine/\∀p,H2 p=none->D.rt (.ref p) (upd H2 p (.tup [x,y]))):ph (kM (gp tA (gp tB g8))) D σ H:=h
theorem oX {K:W.Frag}{σ:L2.St}{H:Hp}{Q:VK}{tB:TE}{q3:Nat}{tI tJ:TE}{pr:Addr}{z:List V}{L L2:List D}{i j:Nat}(h3:σ[q3]? =some (some (.ref pr)))(Y:H pr=some (.lst z))(hL:OL H z L)(hl:L.length<=60)
 (hI:∀(H1:Hp) (J:VK),J (.int (i:Int)) H1->tI σ H1 J) (hJ:∀(H1:Hp) (J:VK),J (.int (j:Int)) H1->tJ σ H1 J)
 (hB:∀(H1:Hp) (J:VK),Same H H1->(∀p I H',Same H1 H'->H' p=some (.lst I)->OL H' I L2->J (.ref p) H')->tB σ H1 J) (h2:L2.length<=2)
 (q:∀p fp H',Same H H'->Own H' (.ref p) (.lst (iL (L.take i++L2++L.drop j))) fp->Q (.ref p) H'):
 f_ r_ (f_ r_ (rT (rX K) (fT q3) rQ (rR tI)) tB) (rT (rX K) (fT q3) (rR tJ) rQ) σ H Q:=by
 have ah:=hL.len;refine⟨_,h3,hI _ _ ⟨_,rfl,pr,z,rfl,eG.of Y,λp1 ac=>?_⟩⟩;rw[Hi];have s1:Same H (upd H p1 (.lst (z.take i))):=Same.new ac;have g1:=eK (H:=H) (a:=p1) (o:=.lst (z.take i));generalize upd H p1 (.lst (z.take i))=H1 at s1 g1;refine hB H1 _ s1 λp2 I H2 s2 g2 o2=>?_;have l2:=o2.len;refine⟨p1,p2,_,_,rfl,rfl,s2 _ _ g1,g2,Q0o (gN (by rw[Q0i];omega)),λp3 ae=>?_⟩;have s3:Same H2 (upd H2 p3 (.lst (z.take i++I))):=Same.new ae;have g3:=eK (H:=H2) (a:=p3) (o:=.lst (z.take i++I));generalize upd H2 p3 (.lst (z.take i++I))=H3 at s3 g3;have aa:=(s1.trans s2).trans s3;refine⟨_,h3,hJ _ _ ⟨_,rfl,pr,z,rfl,eG.of (aa _ _ Y),λp4 af=>?_⟩⟩;rw[Hj];have s4:Same H3 (upd H3 p4 (.lst (z.drop j))):=Same.new af;have g4:=eK (H:=H3) (a:=p4) (o:=.lst (z.drop j));generalize upd H3 p4 (.lst (z.drop j))=H4 at s4 g4;refine⟨p3,p4,_,_,rfl,rfl,s4 _ _ g3,g4,Q0o (gN (by rw[Q0c,Q0i,Q0z];omega)),λp5 ag=>?_⟩;have s5:Same H4 (upd H4 p5 (.lst (z.take i++I++z.drop j))):=Same.new ag;have U:=(aa.trans s4).trans s5;have ho:=((hL.same U).take i).app ((o2.same ((s3.trans s4).trans s5))) |>.app ((hL.same U).drop j);obtain⟨fp,ab⟩:=ho.lst eK;exact q p5 fp _ U ab
theorem OL.pick {H:Hp}{vs:List V}{L:List D}{z:Int}(h:OL H vs L)(h0:0<=z)(h1:z<L.length):∃v d f,gB vs z=some v/\d∈L/\Own H v d f/\d=L.getD z.toNat .non:=by
 obtain⟨j,rfl⟩:∃j:Nat,z=(j:Int):=⟨z.toNat,by omega⟩
 have:∀{vs:List V} {L:List D},OL H vs L->∀j:Nat,j<L.length->∃v d f,vs[j]? =some v/\d∈L/\Own H v d f/\d=L.getD j .non:=by
  intro vs L h
  induction h with
  |nil=>intro j I;exact absurd I (by simp)
  |@cons v d f vs L h _ J=>
   intro j I
   cases j with
   |zero=>exact⟨v,d,f,rfl,Q0b,h,rfl⟩
   |succ j=>
    obtain⟨U,d',Y,a,b,c,e⟩:=J j (by simpa using I);exact⟨U,d',Y,a,Q0e _ b,c,e⟩
 obtain⟨v,d,f,a,b,c,e⟩:=this h j (by omega);exact⟨v,d,f,g9 a,b,c,by rw[Q1q];exact e⟩
theorem BV:∀l:List Addr,∃b:Addr,∀c∈l,c<b
 |[]=>⟨0,λc h=>by cases h⟩
 |a::r=>by
  obtain⟨b,h⟩:=BV r;refine⟨max (a+1) b,λc hc=>?_⟩;rcases List.mem_cons.mp hc with e|e
  . rw[e];exact Q06 (Q0y _) (Q1t _ _)
  . exact Q06 (h c e) (Q1u _ _)
theorem eN.IT {H:Hp}{kvs:List (Key × V)}{m:Ds}{J:List Addr}{x:Str}(h:eN H kvs m J):∃I,eN H (ke kvs (Sum.inr x)) (m.del x) I:=by
 obtain⟨b,L⟩:=BV J;obtain⟨I,h',_⟩:=iM.del (b:=b) (x:=x) ⟨J,h,λz=>Q0l _ (L b z)⟩;exact⟨I,h'⟩
def BW (K:W.Frag) (N:Nat):Sp:=λvs H Q _=>∃a b ns n pk pb key y xs fs I J ms L,vs=[.ref a,.ref b,.ref pk,.ref I]/\G0 K H a b ns n/\n<=1000000000000/\j1 H pk pb key y/\H pb=some (.tup xs)/\FA H xs fs/\(Kd.rows key y fs).W/\H I=some (.lst J)/\fc H J ms L/\j2 (N+1) key y fs ms/\b ∉ L.flatten/\I≠b/\
 ∀t w u d U r H',SB b H H'->H' b=some (.lst [.int (n+1)])->H' t=some (.tup [w,u])->Own H' w d U->Rs (N+3) (.rows key y fs) d r->(∀z,d=.lst (fi z)->z.length<64)->kx H' u r->(∀pl,r=some pl->pl.length<=100)->Q (.ref t) H'
variable {P:Program}{w:World}{K:W.Frag}{mg:Str->Option Value}{base:Heap}
theorem IU:fo ["_law_script","_law_at","_law_kind_here","_law_rows_here","_law_m","_law_n","_law_row","_law_name"] XO (eP (top 39)):=fM
theorem IV (N:Nat)(T:Tb mg)(ab:Dn K mg "_law_spoilt" qx (top 39) ac ae)(af:Dn K mg "_law_next" fk (top 24) ag ah)(ai:eE P w K mg base eI (1) ag ah fk (k6 K)):eE P w K mg base eI (2) ac ae qx (BW K N):=by
 refine ab.F.ok IU λvs H Q E h=>?_;obtain⟨a,b,ns,n,pk,pb,key,y,xs,fs,pr,ws,ms,fl,rfl,g,hn,a6,a7,a8,hW,a9,aM,hM,ba,aY,q⟩:=h;refine⟨rfl,λbA A outer s nd hr hu=>?_⟩
 refine⟨_,(eF (eX 4 nd (eV ai hr af (a_ (pv 0) (a_ (pv 1) c_))))
  (eF (eY (eW fE (eJ fv (pv 4) b_) b_ (eT _)) (eL (eO (f7 (a_ (pv 3) (a_ gW c_))))) eZ)
  (eF (IS (PW.pt (il (eW fE (eJ fv (eJ gm (pv 4) b_) b_) b_ (eT _)) (iB (eW fE (fA gZ (by rfl) T.gK PySem.boot_len (a_ (pv 3) c_)) b_ (eT _))))) (iO.ret (gQ.tup (gQ.cons (iO.ix yW (gQ.lst (gQ.cons (iO.mk gW) (λ_=>rfl) (gQ.cons (iO.mk pH) (λ_=>rfl) (gQ.cons (iO.mk fm) (λ_=>rfl) (gQ.cons (gQ.tup gQ.nil) (λ_=>rfl) (gQ.cons (iO.mk b_) (λ_=>rfl) (gQ.cons (iO.mk gR) (λ_=>rfl) gQ.nil))))))) (eJ fv (eJ gm (pv 4) b_) b_) (λ_ _=>rfl)) (λ_=>rfl) (gQ.cons (gQ.lst gQ.nil) (λ_=>rfl) gQ.nil)))) eZ)
  (eF (eX 5 nd (eJ fv (eJ gm (pv 4) b_) (fA gZ (by rfl) T.gK PySem.boot_len (a_ (pv 3) c_))))
  (eF (eX 6 nd (nX Gx (by rfl) T.sX boot_dict (a_ (gO (pv 3) (pv 5)) c_)))
  (eF (eY (eW fE (eJ fv (eJ gm (pv 4) b_) b_) b_ (eT _)) (eL (eO (f7 (a_ (eJ iF (eJ iF (i9 jA (pv 3) i7 (i8 (pv 5))) (fY (a_ (gO (fY (a_ gW (a_ (fY c_) (a_ fm (a_ b_ c_))))) (eJ fv (eJ gm (pv 4) b_) b_)) c_))) (i9 jA (pv 3) (i8 (eJ g7 (pv 5) b_)) i7)) (a_ (fY (a_ (pv 5) c_)) c_))))) eZ)
  (eF (eY (eW fE (eJ fv (eJ gm (pv 4) b_) b_) b_ (eT _)) (eL (eO (f7 (a_ (eJ iF (eJ iF (i9 jA (pv 3) i7 (i8 (eJ g7 (pv 5) b_))) (fY (a_ (pv 6) c_))) (i9 jA (pv 3) (i8 (eJ g7 (pv 5) b_)) i7)) (a_ (fY (a_ (eJ g7 (pv 5) b_) c_)) c_))))) eZ)
  (eF (eY (PW.pt (mD (eW fE (eJ fv (eJ gm (pv 4) b_) b_) b_ (eT _)) (nQ (eW mH (pv 5) b_ (eT _))))) (eL (eO (f7 (a_ (eJ iF (eJ iF (i9 jA (pv 3) i7 (i8 (eJ jN (pv 5) b_))) (fY (a_ (gO (pv 3) (pv 5)) (a_ (gO (pv 3) (eJ jN (pv 5) b_)) c_)))) (i9 jA (pv 3) (i8 (eJ g7 (pv 5) b_)) i7)) (a_ (fY (a_ (pv 5) c_)) c_))))) eZ)
  (eF (eX 7 nd (eS (eS (eS (pv 2) b_) (eJ fv (eJ gm (pv 4) b_) (fA gZ (by rfl) T.gK PySem.boot_len (a_ (eS (pv 2) b_) c_)))) b_))
  (eF (eY (eW fE (eJ fv (eJ gm (pv 4) b_) b_) b_ (eT _)) (eF (jM (lM PySem.F.plainAttrs_dict PySem.F.slot_dict_pop PySem.F.type_dict_pop Gz (pv 6) (a_ (pv 7) c_)))
  (eL (eO (f7 (a_ (eJ iF (eJ iF (i9 jA (pv 3) i7 (i8 (pv 5))) (fY (a_ (pv 6) c_))) (i9 jA (pv 3) (i8 (eJ g7 (pv 5) b_)) i7)) (a_ (fY (a_ (pv 5) c_)) c_)))))) eZ)
  (eF (mP hu (pv 6) (pv 7) (gO (fY (a_ gW (a_ gR c_))) (eJ fv (eJ gm (pv 4) b_) b_)) rfl)
  (eL (eO (f7 (a_ (eJ iF (eJ iF (i9 jA (pv 3) i7 (i8 (pv 5))) (fY (a_ (pv 6) c_))) (i9 jA (pv 3) (i8 (eJ g7 (pv 5) b_)) i7)) (a_ (fY (a_ (pv 5) (a_ (pv 7) c_))) c_)))))))))))))))),?_⟩
 ac_rfl
 refine⟨_,rfl,_,rfl,a,b,ns,n,rfl,g,hn,λH1 av bb=>?_⟩;have bc:=pZ ns (n+1);generalize nx ns (n+1)=m at bc;have aA:=av.tu g.at_;have aa:fc H1 ws ms fl:=fc.keep aA aM λc hc o e=>av c o (λz=>ba (by rw[<-z];exact hc)) e;have hL:=OL.rows aa;have Y:H1 pr=some (.lst ws):=av _ _ aY a9;have aE:=aA _ _ a6;have aF:=aA _ _ a7;have aG:=FA.mono aA fs a8;have bB:ws.length=ms.length:=(A3.len aa).1;have aw:(ms.map D.dct).length<=60:=by rw[Q03];have:=hM.len;omega
 have bC:=hM.len;unfold Kd.W at hW;obtain⟨aH,bD,bE,aZ,bF⟩:=hW
 have ret:∀(w u:V) (U:Hp) (d:D) (fp:List Addr) (r:Option (List Key)),Same H1 U->Own U w d fp->Rs (N+3) (.rows key y fs) d r->(∀aj,d=.lst (fi aj)->aj.length<64)->kx U u r->(∀pl,r=some pl->pl.length<=100)->2<=sizeLine/\∀p,U p=none->Q (.ref p) (upd U p (.tup [w,u])):=λw u U d fp r s5 hO hR hl hP a1=>
  ⟨by decide,λp hp=>by
    have sp:Same U (upd U p (.tup [w,u])):=Same.new hp;refine q p w u d fp r _ (λc o hc e=>sp _ _ (s5 _ _ (av c o hc e))) (sp _ _ (s5 _ _ bb)) eK (hO.same sp) hR hl ?_ a1
    cases r with
    |none=>exact hP
    |some pl=>
     obtain⟨l,e,hl⟩:=hP;exact⟨l,e,sp _ _ hl⟩⟩
 clear q g av hn;refine⟨_,rfl,_,_,rfl,rfl,(by show(0:Int)<_;decide),rfl,_,rfl,fJ (λc=>?_) (λc=>?_)⟩
 . refine nz ⟨_,rfl,?_⟩;refine ret (.ref pr) .non H1 (.lst (fi ms)) _ none (Same.refl _) (jK Y aa) ⟨?_,?_,?_⟩ (λaj e=>?_) rfl (λpl e=>by cases e)
   . unfold fg;exact⟨ms,rfl,λm hm=>(hM.ok m hm).1,hM.kz,hM.kn⟩
   . have:=oy (l:=ms) (n:=N+1) λm hm=>(hM.ok m hm).2.1;simp only[D.dep];omega
   . unfold D.Sm;refine⟨by rw[kr];omega,oN λm hm=>?_⟩;unfold D.Sm;exact⟨by rw[<-ma,(hM.ok m hm).1.names];omega,(hM.ok m hm).2.2⟩
   . cases mw (Pb.D.lst.inj e);omega
 have Ri:∀{d:D} {pl:List Key},gu (N+2) (.rows key y fs) d pl->pl.length<=100->Rs (N+3) (.rows key y fs) d (some pl):=λh hl=>⟨h.up,by omega⟩
 have sz:∀{L:List D},L.length<64->∀aj,D.lst (iL L)=.lst (fi aj)->aj.length<64:=λhl aj e=>by
  have:=congrArg Ds.len (Pb.D.lst.inj e);rw[oW,kr] at this;omega
 refine⟨_,rfl,_,_,rfl,rfl,⟨by decide,by decide⟩,_,_,rfl,rfl,(by show(0:Int)<6;decide),rfl,_,rfl,fJ (λc1=>fF ?IW) (λc1=>⟨_,rfl,pr,_,rfl,.inl (eG.of Y),rfl,_,rfl,fJ (λc2=>?bad2) (λc2=>?go)⟩)⟩
 case IW|bad2=>
  refine λp1 h1=>⟨Q0a _,λp2 h2=>⟨jd (show 6<=2000 by decide),λp3 h3=>?_⟩⟩;have s1:=Same.new (o:=.dK []) h1;have s2:=Same.new (o:=.tup []) h2;have s3:=Same.new (o:=.lst [.non,.ref p1,.str "",.ref p2,.int 0,.bl true]) h3;have g1:=s3 _ _ (s2 _ _ (eK (H:=H1) (a:=p1) (o:=.dK [])));have g2:=s3 _ _ (eK (H:=upd H1 p1 (.dK [])) (a:=p2) (o:=.tup []));have g3:=eK (H:=upd (upd H1 p1 (.dK [])) p2 (.tup [])) (a:=p3) (o:=.lst [.non,.ref p1,.str "",.ref p2,.int 0,.bl true]);have ap:=(s1.trans s2).trans s3;generalize upd (upd (upd H1 p1 (.dK [])) p2 (.tup [])) p3 (.lst [.non,.ref p1,.str "",.ref p2,.int 0,.bl true])=G at g1 g2 g3 ap
  have hO:OL G [.non,.ref p1,.str "",.ref p2,.int 0,.bl true] [.non,.dct .nil,.str "",.tup .nil,.int 0,.boo true]:=by
   refine .cons (f:=[]) ?_ (.cons (f:=[p1]) ?_ (.cons (f:=[]) ?_ (.cons (f:=[]) ?_ (.cons (f:=[]) ?_ (.cons (f:=[]) ?_ .nil)))))
   . unfold Own;exact⟨rfl,rfl⟩
   . unfold Own;exact⟨p1,[],[],rfl,g1,rfl,by unfold eN;exact⟨rfl,rfl⟩⟩
   . unfold Own;exact⟨rfl,rfl⟩
   . unfold Own;exact⟨p2,[],rfl,g2,by unfold eR;exact⟨rfl,rfl⟩⟩
   . unfold Own;exact⟨rfl,rfl⟩
   . unfold Own;exact⟨rfl,rfl⟩
  have z0:0<=m / 12 % 6/\m / 12 % 6<6:=⟨Q0h _ (by decide),Q0j _ (by decide)⟩;obtain⟨u,d,f,ax,aB,ay,_⟩:=hO.pick z0.1 z0.2;refine⟨_,rfl,_,_,rfl,rfl,⟨by decide,by decide⟩,_,_,rfl,rfl,(by show(0:Int)<6;decide),p3,_,_,u,rfl,rfl,eG.of g3,ax,?_⟩;refine⟨Q0a _,λp4 h4=>?_⟩;have s4:=Same.new (o:=.lst []) h4
  have aP:∀xs,d≠ .lst xs:=by
   intro xs z;subst z;simp at aB
  exact ret u (.ref p4) _ d f (some []) (ap.trans s4) (ay.same s4) (Ri (.rows0 aP) (by decide)) (λaj e=>absurd e (aP _)) ⟨p4,rfl,eK⟩ (λpl e=>by cases e;decide)
 have bG:0<ws.length:=by
  rcases Q3e ws.length with z|z
  . exact absurd (decide_eq_true (show V.int (ws.length:Nat)=V.int 0 by rw[z];rfl)) c2
  . exact z
 obtain⟨i,ei⟩:∃i:Nat,m / 12 % (ws.length:Int)=(i:Int):=⟨(m / 12 % (ws.length:Int)).toNat,by have:=Q0h (m / 12) (show(ws.length:Int)≠0 by omega);omega⟩;have hi:i<ws.length:=by have:=Q0j (m / 12) (show(0:Int)<ws.length by omega);omega
 have aq:i<ms.length:=by omega
 have aC:∀j,j<ws.length->∃rr kvs fq,ws[j]? =some (.ref rr)/\H1 rr=some (.dK kvs)/\eN H1 kvs (ms.getD j .nil) fq:=λj hj=>by
  have h:=A3.at (a0:=V.non) (b0:=Ds.nil) (c0:=[]) aa j hj;unfold Own at h;obtain⟨rr,kvs,fq,e,aD,_,ak⟩:=h;exact⟨rr,kvs,fq,by rw[<-e,Q0d,Q02 hj];rfl,aD,ak⟩
 obtain⟨rr,kvs,fq,bd,aD,ak⟩:=aC i hi;have aQ:gB ws (m / 12 % (ws.length:Int))=some (.ref rr):=by rw[ei];exact g9 bd
 have ar:=hM.ok _ (getD_mem aq);refine⟨_,rfl,_,_,rfl,rfl,⟨by decide,by decide⟩,_,rfl,pr,_,rfl,.inl (eG.of Y),_,_,rfl,rfl,by omega,?_⟩;refine⟨_,rfl,_,rfl,pr,_,_,_,rfl,rfl,eG.of Y,aQ,rr,kvs,rfl,aD,λl hl=>?_⟩;have s2:Same H1 (upd H1 l (.dK kvs)):=Same.new hl;have au:=eK (H:=H1) (a:=l) (o:=.dK kvs);generalize upd H1 l (.dK kvs)=H2 at s2 au;have an:=s2 _ _ Y;have aJ:=hL.same s2
 have be:∀I,Same H2 I->Own I (.ref l) (.dct (ms.getD i .nil)) (l::fq):=λI s3=>by
  unfold Own;exact⟨l,kvs,fq,rfl,s3 _ _ au,rfl,eN.same (s2.trans s3) ak⟩
 have vI:∀(I:Hp) (J:VK),J (.int (i:Int)) I->J (.int (m / 12 % (ws.length:Int))) I:=λI J h=>by rw[ei];exact h
 have vJ:∀(I:Hp) (J:VK),J (.int ((i+1:Nat):Int)) I->J (.int (m / 12 % (ws.length:Int)+1)) I:=λI J h=>by rw[ei];exact h
 have bl:∀k,((ms.map D.dct).drop k).length<=60:=λk=>by rw[Q0z,Q03];omega
 have ll:∀(j k:Nat) (L2:List D),L2.length<=2->((ms.map D.dct).take j++L2++(ms.map D.dct).drop k).length<64:=λj k L2 h2=>by
  rw[Q0c,Q0c,Q0i,Q0z,Q03];have:=Nat.min_le_right j ms.length;have:=Nat.min_le_left j ms.length;omega
 have ao:∀(w:V) (fp:List Addr) (U:Hp) (L2:List D) (j k:Nat) (pl:List Key),Same H1 U->Own U w (.lst (iL ((ms.map D.dct).take j++L2++(ms.map D.dct).drop k))) fp->L2.length<=2->gu (N+2) (.rows key y fs) (.lst (iL ((ms.map D.dct).take j++L2++(ms.map D.dct).drop k))) pl->pl.length<=100->∀az:List V,az=pl.map kV->∀p4,U p4=none->2<=sizeLine/\∀p,upd U p4 (.lst az) p=none->Q (.ref p) (upd (upd U p4 (.lst az)) p (.tup [w,.ref p4])):=λw fp U L2 j k pl s5 hO h2 bf aT az e4 p4 h4=>by
  have s6:=Same.new (o:=.lst az) h4;exact ret w (.ref p4) _ _ fp (some pl) (s5.trans s6) (hO.same s6) (Ri bf aT) (sz (ll j k L2 h2)) ⟨p4,rfl,by rw[eK,e4]⟩ (λbH e=>by cases e;exact aT)
 refine⟨_,rfl,_,_,rfl,rfl,⟨by decide,by decide⟩,_,_,rfl,rfl,(by show(0:Int)<6;decide),rfl,_,rfl,fJ (λc3=>?_) (λc3=>?_)⟩
 . -- a bv bx is no aC
   have z0:0<=m / 420 % 4/\m / 420 % 4<4:=⟨Q0h _ (by decide),Q0j _ (by decide)⟩
   have aU:([D.non,.lst .nil,.str "row",.int 7].getD (m / 420 % 4).toNat .non)∈[D.non,.lst .nil,.str "row",.int 7]:=by
    rw[Q0d,Q02 (by show(m / 420 % 4).toNat<4;omega)];exact Q0v _
   have a2:∀m',([D.non,.lst .nil,.str "row",.int 7].getD (m / 420 % 4).toNat .non)≠ .dct m':=λm' z=>by
    rw[z] at aU;simp at aU
   refine nz (oX (q3:=3) (i:=i) (j:=i+1) (L2:=[[D.non,.lst .nil,.str "row",.int 7].getD (m / 420 % 4).toNat .non]) rfl an aJ aw (λI J h=>⟨_,rfl,vI I J h⟩) (λI J h=>⟨_,rfl,_,_,rfl,rfl,vJ I J h⟩) (λI J s3 k=>?_) (show 1<=2 by decide) λp fp U s5 hO=>?_)
   . refine⟨Q0a _,λq1 h1=>⟨jd (show 4<=2000 by decide),λq2 h2=>?_⟩⟩;have t1:=Same.new (o:=.lst []) h1;have t2:=Same.new (o:=.lst [.non,.ref q1,.str "row",.int 7]) h2;have g1:=t2 _ _ (eK (H:=I) (a:=q1) (o:=.lst []));have g2:=eK (H:=upd I q1 (.lst [])) (a:=q2) (o:=.lst [.non,.ref q1,.str "row",.int 7]);have aV:=t1.trans t2;generalize upd (upd I q1 (.lst [])) q2 (.lst [.non,.ref q1,.str "row",.int 7])=G at g1 g2 aV
     have hO:OL G [.non,.ref q1,.str "row",.int 7] [.non,.lst .nil,.str "row",.int 7]:=by
      refine .cons (f:=[]) ?_ (.cons (f:=[q1]) ?_ (.cons (f:=[]) ?_ (.cons (f:=[]) ?_ .nil)))
      . unfold Own;exact⟨rfl,rfl⟩
      . unfold Own;exact⟨q1,[],[],rfl,g1,rfl,by unfold eR;exact⟨rfl,rfl⟩⟩
      . unfold Own;exact⟨rfl,rfl⟩
      . unfold Own;exact⟨rfl,rfl⟩
     obtain⟨u,d,f,ax,aB,ay,bg⟩:=hO.pick z0.1 z0.2;refine⟨_,rfl,_,_,rfl,rfl,⟨by decide,by decide⟩,_,_,rfl,rfl,(by show(0:Int)<4;decide),q2,_,_,u,rfl,rfl,eG.of g2,ax,hZ,λq3 h3=>?_⟩;have t3:=Same.new (o:=.lst [u]) h3;exact k q3 [u] _ (aV.trans t3) eK (.cons (by rw[<-bg];exact ay.same t3) .nil)
   . exact⟨_,rfl,hZ,λp4 h4=>ao (.ref p) fp U _ i (i+1) [Sum.inl (i:Int)] (s2.trans s5) hO (show 1<=2 by decide) (ui hM aq (bl _) (.md λm' e=>absurd e (a2 m'))) (show 1<=100 by decide) _ (by rw[<-ei];rfl) p4 h4⟩
 refine⟨_,rfl,_,_,rfl,rfl,⟨by decide,by decide⟩,_,_,rfl,rfl,(by show(0:Int)<6;decide),rfl,_,rfl,fJ (λc4=>?_) (λc4=>?_)⟩
 . -- a aC twice
   refine nz (oX (q3:=3) (i:=i+1) (j:=i+1) (L2:=[.dct (ms.getD i .nil)]) rfl an aJ aw (λI J h=>⟨_,rfl,_,_,rfl,rfl,vJ I J h⟩) (λI J h=>⟨_,rfl,_,_,rfl,rfl,vJ I J h⟩) (λI J s3 k=>⟨_,rfl,hZ,λq3 h3=>?_⟩) (show 1<=2 by decide) λp fp U s5 hO=>?_)
   . have t3:=Same.new (o:=.lst [.ref l]) h3;exact k q3 [.ref l] _ t3 eK (.cons (be _ (s3.trans t3)) .nil)
   . exact⟨_,rfl,_,_,rfl,rfl,hZ,λp4 h4=>ao (.ref p) fp U _ (i+1) (i+1) [Sum.inl ((i+1:Nat):Int)] (s2.trans s5) hO (show 1<=2 by decide) (IJ hM aq) (show 1<=100 by decide) _ (by show [V.int (m / 12 % (ws.length:Int)+1)]=[V.int ((i+1:Nat):Int)];rw[ei];rfl) p4 h4⟩
 refine⟨_,rfl,_,_,rfl,rfl,⟨by decide,by decide⟩,_,_,rfl,rfl,(by show(0:Int)<6;decide),rfl,_,rfl,fJ (λc5=>⟨_,rfl,_,_,rfl,rfl,_,rfl,fJ (λc6=>?turn) (λc6=>?name1)⟩) (λc5=>fe ?name2)⟩
 case turn=>
  have h0:0<i:=by
   have:=of_decide_eq_true c6;rw[ei] at this;omega
  have vK:∀(I:Hp) (J:VK),J (.int ((i - 1:Nat):Int)) I->J (.int (m / 12 % (ws.length:Int) - 1)) I:=λI J h=>by
   rw[ei,show(i:Int) - 1=((i - 1:Nat):Int) by omega];exact h
  obtain⟨r0,bh,aW,e0,bi,bj⟩:=aC (i - 1) (by omega);have a3:gB ws (m / 12 % (ws.length:Int) - 1)=some (.ref r0):=by rw[ei,show(i:Int) - 1=((i - 1:Nat):Int) by omega];exact g9 e0
  refine nz (oX (q3:=3) (i:=i - 1) (j:=i+1) (L2:=[.dct (ms.getD i .nil),.dct (ms.getD (i - 1) .nil)]) rfl an aJ aw (λI J h=>⟨_,rfl,_,_,rfl,rfl,vK I J h⟩) (λI J h=>⟨_,rfl,_,_,rfl,rfl,vJ I J h⟩) (λI J s3 k=>⟨_,rfl,_,rfl,pr,_,_,_,rfl,rfl,eG.of (s3 _ _ an),aQ,_,rfl,_,rfl,_,_,rfl,rfl,pr,_,_,_,rfl,rfl,eG.of (s3 _ _ an),a3,gF,λq3 h3=>?_⟩) (show 2<=2 by decide) λp fp U s5 hO=>?_)
  . have t3:=Same.new (o:=.lst [.ref rr,.ref r0]) h3;have ap:=(s2.trans s3).trans t3;refine k q3 [.ref rr,.ref r0] _ t3 eK (.cons (f:=rr::fq) ?_ (.cons (f:=r0::aW) ?_ .nil))
    . unfold Own;exact⟨rr,kvs,fq,rfl,ap _ _ aD,rfl,eN.same ap ak⟩
    . unfold Own;exact⟨r0,bh,aW,rfl,ap _ _ bi,rfl,eN.same ap bj⟩
  . exact⟨_,rfl,hZ,λp4 h4=>ao (.ref p) fp U _ (i - 1) (i+1) [Sum.inl (i:Int)] (s2.trans s5) hO (show 2<=2 by decide) (IK hM h0 aq) (show 1<=100 by decide) _ (by rw[<-ei];rfl) p4 h4⟩
 case name1|name2=>
  have bm:=FA.len fs aG
  have bI:0<xs.length:=by
   obtain⟨k,e,_⟩:=aZ;rw[bm];exact List.length_pos_of_mem (Fs.mh e)
  obtain⟨j,ej⟩:∃j:Nat,m / 420 % (xs.length:Int)=(j:Int):=⟨(m / 420 % (xs.length:Int)).toNat,by have:=Q0h (m / 420) (show(xs.length:Int)≠0 by omega);omega⟩;have hj:j<xs.length:=by have:=Q0j (m / 420) (show(0:Int)<xs.length by omega);omega
  obtain⟨cj,uj,x,k,bn,aK,bo,bJ⟩:=FA.get fs aG (Q02 hj);have a4:gB xs (m / 420 % (xs.length:Int))=some (.ref cj):=by rw[ej];exact g9 (by rw[Q02 hj,bn])
  have aX:x∈fs.names:=Fs.mh (Fs.jV aH aK);have bp:x∈(ms.getD i .nil).names:=by rw[ar.1.names];exact aX
  refine⟨_,rfl,pk,_,_,_,rfl,rfl,eB.of (s2 _ _ aE),rfl,_,rfl,_,_,rfl,rfl,⟨by decide,by decide⟩,_,rfl,pk,_,_,_,rfl,rfl,eB.of (s2 _ _ aE),rfl,pb,_,rfl,.inr (eB.of (s2 _ _ aF)),_,_,rfl,rfl,by omega,pb,_,_,_,rfl,rfl,eB.of (s2 _ _ aF),a4,cj,_,_,_,rfl,rfl,eB.of (s2 _ _ bo),rfl,?_⟩;obtain⟨dv,bq,_⟩:=ar.1.get (Fs.jV aH aK);obtain⟨v0,f0,br,_⟩:=eN.val _ ak bq;have bz:pr≠l:=eM Y hl;have S4:∀al,Same H1 (upd H2 l (.dK al)):=λal c o e=>by rw[d_ (eM e hl)];exact s2 c o e
  have bt:∀(al:List (Key × V)) (m2:Ds) (am:List Addr) (U:Hp),eN H1 al m2 am->Same (upd H2 l (.dK al)) U->Own U (.ref l) (.dct m2) (l::am):=λal m2 am U hO s5=>by
   unfold Own;exact⟨l,al,am,rfl,s5 _ _ eK,rfl,eN.same ((S4 al).trans s5) hO⟩
  refine⟨_,rfl,_,_,rfl,rfl,⟨by decide,by decide⟩,_,_,rfl,rfl,(by show(0:Int)<6;decide),rfl,_,rfl,fJ (λc7=>?_) (λc7=>?_)⟩
  . -- a field a5
    refine⟨_,rfl,.inr (.inr (.inl ⟨rfl,.inl ⟨_,au⟩⟩)),_,rfl,l,_,Sum.inr x,v0,rfl,rfl,au,br,?_⟩;obtain⟨am,aL⟩:=ak.IT (x:=x);have s4:=S4 (ke kvs (Sum.inr x));refine nz (oX (q3:=3) (i:=i) (j:=i+1) (L2:=[.dct ((ms.getD i .nil).del x)]) rfl (s4 _ _ Y) (hL.same s4) aw (λI J h=>⟨_,rfl,vI I J h⟩) (λI J h=>⟨_,rfl,_,_,rfl,rfl,vJ I J h⟩) (λI J s3 k=>⟨_,rfl,hZ,λq3 h3=>?uk⟩) (show 1<=2 by decide) λp fp U s5 hO=>?fin2)
    case uk=>
     have t3:=Same.new (o:=.lst [.ref l]) h3;exact k q3 [.ref l] _ t3 eK (.cons (bt _ _ _ _ aL (s3.trans t3)) .nil)
    case fin2=>
     exact⟨_,rfl,hZ,λp4 h4=>ao (.ref p) fp U _ i (i+1) [Sum.inl (i:Int)] (s4.trans s5) hO (show 1<=2 by decide) (ui hM aq (bl _) (IM aX)) (show 1<=100 by decide) _ (by rw[<-ei];rfl) p4 h4⟩
  . -- a field a5 bw
    have z0:0<=m / 5040 % 2/\m / 5040 % 2<2:=⟨Q0h _ (by decide),Q0j _ (by decide)⟩
    obtain⟨u,e,ax,aB,ay⟩:∃u e,gB [V.non,.bl true] (m / 5040 % 2)=some u/\(e=D.non\/e=.boo true)/\∀H,Own H u e []:=by
     rcases(by omega:m / 5040 % 2=0\/m / 5040 % 2=1) with z|z
     . exact⟨.non,.non,by rw[z];exact g9 (j:=0) rfl,.inl rfl,λH=>by unfold Own;exact⟨rfl,rfl⟩⟩
     . exact⟨.bl true,.boo true,by rw[z];exact g9 (j:=1) rfl,.inr rfl,λH=>by unfold Own;exact⟨rfl,rfl⟩⟩
    refine⟨gF,λq0 h0=>⟨_,rfl,_,_,rfl,rfl,⟨by decide,by decide⟩,_,_,rfl,rfl,(by show(0:Int)<2;decide),q0,_,_,u,rfl,rfl,eG.of eK,ax,?_⟩⟩;have bK:l≠q0:=eM au h0;have sq:Same H2 (upd H2 q0 (.lst [.non,.bl true])):=Same.new h0;have bu:kvs.length<sizeLine:=by rw[eN.len ak,ar.1.names];exact gN (by omega)
    refine⟨_,rfl,_,rfl,l,_,rfl,jB.k (k:=Sum.inr x) (sq _ _ au) bu,?_⟩;obtain⟨am,aL,_⟩:=ak.qM (ay H1) bp;have s4:Same H1 (upd (upd H2 q0 (.lst [.non,.bl true])) l (.dK (putK kvs (Sum.inr x) u))):=λc o e=>by rw[d_ (eM e hl)];exact sq _ _ (s2 c o e)
    refine nz (oX (q3:=3) (i:=i) (j:=i+1) (L2:=[.dct ((ms.getD i .nil).upd x e)]) rfl (s4 _ _ Y) (hL.same s4) aw (λI J h=>⟨_,rfl,vI I J h⟩) (λI J h=>⟨_,rfl,_,_,rfl,rfl,vJ I J h⟩) (λI J s3 k=>⟨_,rfl,hZ,λq3 h3=>?uk⟩) (show 1<=2 by decide) λp fp U s5 hO=>?fin2)
    case uk=>
     have t3:=Same.new (o:=.lst [.ref l]) h3;refine k q3 [.ref l] _ t3 eK (.cons (f:=l::am) ?_ .nil);unfold Own;exact⟨l,_,am,rfl,t3 _ _ (s3 _ _ eK),rfl,eN.same ((s4.trans s3).trans t3) aL⟩
    case fin2=>
     exact⟨_,rfl,_,rfl,gF,λp4 h4=>ao (.ref p) fp U _ i (i+1) [Sum.inl (i:Int),Sum.inr x] (s4.trans s5) hO (show 1<=2 by decide) (ui hM aq (bl _) (IQ aB aH aK ar.1 ar.2.1 ar.2.2)) (show 2<=100 by decide) _ (by rw[<-ei];rfl) p4 h4⟩
end Pb
namespace L2
open Spec PyProof.Rows
theorem IX {X:Cx}:gA X (compareOp .IsNot) (λx y H Q=>x=.bl false/\y=.bl false/\Q (.bl false) H):=by
 intro pins s σ H x y v u Q I z J h;obtain⟨rfl,rfl,q⟩:=h
 cases z
 cases J
 have e:compareOp .IsNot (.bool false) (.bool false)=(pure (.bool false):Sem Value):=by
  unfold compareOp isSame;rfl
 show wpAny _ _ (compareOp .IsNot (Value.bool false) (Value.bool false)) _ _ _;rw[e];exact Q09 ⟨.bl false,H,I,rfl,q⟩
end L2
namespace Pb
open L2 PyProof.Rows
def Kt (b:Addr) (H H':Hp):Prop:=∀c o,c≠b->(∀ps,o≠ .gq ps)->H c=some o->H' c=some o
theorem Kn.kt {b:Addr}{H H':Hp}(k:Kn H H'):Kt b H H':=λc o _ z e=>k c o z e
theorem Kt.of {b:Addr}{H H':Hp}(s:Same H H'):Kt b H H':=λc o _ _ e=>s c o e
theorem Kt.sb {b:Addr}{H H':Hp}(s:SB b H H'):Kt b H H':=λc o hc _ e=>s c o hc e
theorem Kt.trans {b:Addr}{H H1 H2:Hp}(x:Kt b H H1)(y:Kt b H1 H2):Kt b H H2:=λc o hc z e=>y c o hc z (x c o hc z e)
theorem Kt.tu {b:Addr}{H H':Hp}{l:List V}(k:Kt b H H')(I:H b=some (.lst l)):Tu H H':=λc xs e=>k c _ (gz e I (by intro z;cases z)) (by intro ps z;cases z) e
theorem Kt.lst {b c:Addr}{H H':Hp}{xs:List V}(k:Kt b H H')(hc:c≠b)(e:H c=some (.lst xs)):H' c=some (.lst xs):=k c _ hc (by intro ps z;cases z) e
theorem fc.kt {b:Addr}{H H':Hp}{l vs:List V}{rs:List Ds}{I:List (List Addr)}(h:fc H vs rs I)(k:Kt b H H')(J:H b=some (.lst l))(L:b ∉ I.flatten):fc H' vs rs I:=fc.keep (k.tu J) h λc hc o e=>k c o (λz=>L (by rw[<-z];exact hc)) (by
 intro ps z;rcases fc.mu h c hc with⟨_,q⟩|⟨_,q⟩ <;> rw[e] at q <;> rw[z] at q <;> cases q) e
structure Fr (Pt Ps Pi Po:Addr):Prop where
 ts:Pt≠Ps
 ti:Pt≠Pi
 to:Pt≠Po
 si:Ps≠Pi
 so:Ps≠Po
 io:Pi≠Po
structure RW (K:W.Frag) (Pt Ps Pi Po a b:Addr) (ns:List Int) (n:Int) (H:Hp):Prop where
 g:G0 K H a b ns n
 v:eQ Pt g_ hU H
 s:eQ Ps mj ml H
 i:eQ Pi ie ig H
 o:eQ Po jq jr H
section
variable {K:W.Frag}{Pt Ps Pi Po a b:Addr}{ns:List Int}{n n':Int}{H H':Hp}
theorem RW.same (h:RW K Pt Ps Pi Po a b ns n H)(s:Same H H'):RW K Pt Ps Pi Po a b ns n H':=⟨h.g.go (SB.of s) (s _ _ h.g.at_) (Q2g _),h.v.same s,h.s.same s,h.i.same s,h.o.same s⟩
theorem RW.sb (h:RW K Pt Ps Pi Po a b ns n H)(s:SB b H H')(z:H' b=some (.lst [.int n']))(I:n<=n'):RW K Pt Ps Pi Po a b ns n' H':=⟨h.g.go s z I,h.v.sb h.g.at_ s,h.s.sb h.g.at_ s,h.i.sb h.g.at_ s,h.o.sb h.g.at_ s⟩
theorem RW.fU (F:Fr Pt Ps Pi Po)(h:RW K Pt Ps Pi Po a b ns n H)(x:ft b Pt H H')(z:H' b=some (.lst [.int n']))(I:n<=n')(hT:eQ Pt g_ hU H'):RW K Pt Ps Pi Po a b ns n' H':=
 ⟨ft.g0 x h.g h.v z I,hT,h.s.kp x h.g.at_ h.v F.ts,h.i.kp x h.g.at_ h.v F.ti,h.o.kp x h.g.at_ h.v F.to⟩
theorem _root_.L2.eQ.jZ {P I J c:Addr}{lp L U:Pos}{ql Y aa:Str}{l:List V}(h:eQ P lp ql H)(x:jH c I J H H')(hc:H c=some (.lst l))(h1:eQ I L Y H)(h2:eQ J U aa H)(n1:I≠P)(n2:J≠P):eQ P lp ql H':=by
 obtain⟨p1,e1⟩:=h1.tab;obtain⟨p2,e2⟩:=h2.tab;have k:∀d o,d≠I->d≠J->(∀xs,o≠ .lst xs)->H d=some o->H' d=some o:=λd o a b ho e=>x d o (λz=>z.elim (λz=>by rw[z,hc] at e;cases e;exact ho _ rfl) λz=>z.elim a b) e;rcases h with e|⟨d,e,f⟩
 . exact .inl (k _ _ (Ne.symm n1) (Ne.symm n2) (by intro xs z;cases z) e)
 . exact .inr ⟨d,k _ _ (Ne.symm n1) (Ne.symm n2) (by intro xs z;cases z) e,k _ _ (gz f e1 (by intro z;cases z)) (gz f e2 (by intro z;cases z)) (by intro xs z;cases z) f⟩
theorem jH.kt {c:Addr}(x:jH c Pt Ps H H')(h1:eQ Pt g_ hU H)(h2:eQ Ps mj ml H):Kt c H H':=λd o hc I e=>by
 obtain⟨p1,J⟩:=h1.tab;obtain⟨p2,L⟩:=h2.tab;exact x d o (λz=>z.elim hc λz=>z.elim (gz e J (I p1)) (gz e L (I p2))) e
theorem RW.jZ (F:Fr Pt Ps Pi Po)(h:RW K Pt Ps Pi Po a b ns n H)(x:jH b Pt Ps H H')(I:H' b=some (.lst [.int n']))(L:n<=n')(hT:eQ Pt g_ hU H')(J:eQ Ps mj ml H'):RW K Pt Ps Pi Po a b ns n' H':=by
 have k:=jH.kt x h.v h.s;refine⟨⟨?_,h.g.len,I,by have:=h.g.pos;omega⟩,hT,J,h.i.jZ x h.g.at_ h.v h.s F.ti F.si,h.o.jZ x h.g.at_ h.v h.s F.to F.so⟩;rcases h.g.i3 with⟨o,e⟩|e
 . exact .inl ⟨o,k a _ (gz e h.g.at_ (by intro z;cases z)) (by intro ps z;cases z) e⟩
 . exact .inr e
theorem RW.oth (F:Fr Pt Ps Pi Po){J:Addr}{l:List V}(h:RW K Pt Ps Pi Po a b ns n H)(x:jH J Pt Ps H H')(I:H J=some (.lst l))(L:b≠J)(hT:eQ Pt g_ hU H')(U:eQ Ps mj ml H'):RW K Pt Ps Pi Po a b ns n H':=by
 have k:=jH.kt x h.v h.s;refine⟨⟨?_,h.g.len,k.lst L h.g.at_,h.g.pos⟩,hT,U,h.i.jZ x I h.v h.s F.ti F.si,h.o.jZ x I h.v h.s F.to F.so⟩;rcases h.g.i3 with⟨o,e⟩|e
 . exact .inl ⟨o,k a _ (gz e I (by intro z;cases z)) (by intro ps z;cases z) e⟩
 . exact .inr e
theorem RW.oi (F:Fr Pt Ps Pi Po)(h:RW K Pt Ps Pi Po a b ns n H)(x:OI Pi Po H H'):RW K Pt Ps Pi Po a b ns n H':=by
 obtain⟨pi,Y⟩:=h.i.tab;obtain⟨po,eo⟩:=h.o.tab
 have tab:∀{P:Addr} {I:Pos} {J:Str},eQ P I J H->P≠Pi->P≠Po->eQ P I J H':=λhh L U=>by
  rcases hh with e|⟨d,e,f⟩
  . exact .inl (x.2.1 _ _ (λz=>z.elim L U) e)
  . exact .inr ⟨d,x.2.1 _ _ (λz=>z.elim L U) e,x.2.1 _ _ (λz=>z.elim (gz f Y (by intro z;cases z)) (gz f eo (by intro z;cases z))) f⟩
 refine⟨⟨?_,h.g.len,x.1.lst h.g.at_,h.g.pos⟩,tab h.v F.ti F.to,tab h.s F.si F.so,x.2.2.1,x.2.2.2⟩;rcases h.g.i3 with⟨o,e⟩|e
 . exact .inl ⟨o,x.1 a _ (by intro ps z;cases z) e⟩
 . exact .inr e
end
structure Rr (key by_:Str) (fs:Fs) (ms:List Ds):Prop where
 ok:∀m∈ms,mi fs m
 kn:(ms.map λm=>keyOf m key).Nodup
 len:ms.length<=30
 kz:ms.Pairwise (g5 key by_)
theorem Rr.of {key by_:Str}{fs:Fs}{room:Nat}{ps:List Key}{n:Int}{q:List Ds × Int}(h:nt fs key room ps n q)(J:ps.Nodup)(U:ps.length<=30):Rr key by_ fs (fV key by_ q.1):=by
 have I:=i_ key by_ q.1;have kn:=h.keys.nodup J;have z:((fV key by_ q.1).map λm=>keyOf m key).Nodup:=(I.map _).nodup_iff.mpr kn;refine⟨λm L=>h.ok m (I.mem_iff.mp L),z,?_,mY (mW key by_ q.1) z⟩;have:=h.keys.length_le;rw[Q03] at this;rw[I.length_eq];omega
theorem Rr.fV {key by_ y:Str}{fs:Fs}{ms:List Ds}(h:Rr key by_ fs ms):Rr key y fs (Pb.fV key y ms):=by
 have I:=i_ key y ms;have z:((Pb.fV key y ms).map λm=>keyOf m key).Nodup:=(I.map _).nodup_iff.mpr h.kn;exact⟨λm J=>h.ok m (I.mem_iff.mp J),z,by rw[I.length_eq];exact h.len,mY (mW key y ms) z⟩
theorem Rr.back {key by_ y:Str}{fs:Fs}{ms:List Ds}(h:Rr key by_ fs ms):Pb.fV key by_ (Pb.fV key y ms)=ms:=
 (sN (i_ key y ms).symm (h.kz.imp λh=>zT h) h.fV.kn).symm
theorem Rr.ms {key by_:Str}{fs:Fs}{ms:List Ds}(h:Rr key by_ fs ms)(I:fs.dB<=12):j2 (12+1) key by_ fs ms:=
 ⟨λm z=>by
   have:=h.ok m z;have s:=this.2.2;unfold D.Sm at s;exact⟨this.1,by have:=this.2.1;omega,s.2⟩,h.kz,h.kn,h.len⟩
theorem j2.rs {N:Nat}{key y:Str}{fs:Fs}{ms:List Ds}(z:j2 (N+1) key y fs ms)(J:fs.names.length<=12):Rs (N+3) (.rows key y fs) (.lst (fi ms)) none:=by
 have L:=z.len;refine⟨?_,?_,?_⟩
 . unfold fg;exact⟨ms,rfl,λm I=>(z.ok m I).1,z.kz,z.kn⟩
 . have:=oy (l:=ms) (n:=N+1) λm I=>(z.ok m I).2.1;simp only[D.dep];omega
 . unfold D.Sm;refine⟨by rw[kr];omega,oN λm I=>?_⟩;unfold D.Sm;exact⟨by rw[<-ma,(z.ok m I).1.names];omega,(z.ok m I).2.2⟩
theorem IY {key by_ y:Str}{fs:Fs}{ms:List Ds}{r:Option (List Key)}(h:Rr key by_ fs ms)(I:fs.dB<=12)(Y:fs.names.length<=12)(hw:BP key y ms r):Rs 15 (.rows key y fs) (.lst (fi ms)) r:=by
 have J:=(h.ms I).ok
 have step:∀z,z<=ms.length->(∀j,0<j->j<z->g5 key y (ms.getD (j - 1) .nil) (ms.getD j .nil))->(ms.take z).Pairwise (g5 key y):=λz hl U=>by
  rw[Q2w];intro i j hi aa ae;rw[Q0i] at hi aa;rw[Q13,Q13];have g:∀k (hk:k<ms.length),ms.getD k .nil=ms[k]:=λk hk=>by rw[Q0d,Q02 hk];rfl
  have up:∀d,i+d+1<z->g5 key y (ms.getD i .nil) (ms.getD (i+d+1) .nil):=by
   intro d
   induction d with
   |zero=>intro I;exact U (i+1) (by omega) I
   |succ d ih=>
    intro I;exact mT _ _ _ (ih (by omega)) (U (i+(d+1)+1) (by omega) I)
  have:=up (j - i - 1) (by omega);rw[show i+(j - i - 1)+1=j by omega] at this;rw[<-g i (by omega),<-g j (by omega)];exact this
 rcases hw with⟨rfl,L⟩|⟨i,h0,hi,rfl,ab,ac⟩
 . have:=step ms.length (Q00 _) L;rw[Q12] at this;exact j2.rs (N:=12) ⟨J,this,h.kn,h.len⟩ Y
 . have af:=h.len;refine⟨(gu.me (rs:=ms) (by rw[kr];omega) h0 hi (λj U=>tT (by omega)) J (step i (by omega) ab) (h.kn.sublist ((Q18 _ _).map _)) ac).up,show 1<=1000 by decide⟩
theorem Fs.BX:∀{fs:Fs},fs.W->("":Str) ∉ fs.names
 | .nil,_=>by simp[Fs.names]
 | .cons x k r,w=>by
   unfold Fs.W at w;intro h;rcases List.mem_cons.mp (show("":Str)∈x::r.names from h) with e|e
   . exact w.2.1 e.symm
   . exact Fs.BX w.2.2 e
theorem IZ {K:W.Frag}{H:Hp}{n:Nat}{x key y:Str}{pb:Addr}:pU K H n [.str x,.str key,.str y,.ref pb] [.str x,.str key,.str y,.ref pb] (λ_=>true):=λj a b h1 h2=>by
 rw[h1] at h2
 cases h2;have st:∀z:Str,iJ K H n (.str z) (.str z) true:=λz=>by have:=iJ.str (K:=K) (H:=H) (n:=n) z z;rwa [decide_eq_true rfl] at this
 match j,h1 with
 |0,h=>cases h;exact st _
 |1,h=>cases h;exact st _
 |2,h=>cases h;exact st _
 |3,h=>cases h;exact .ref _
structure RV (b:Addr) (H:Hp) (D:Addr) (vs:List V) (ms:List Ds) (fl:List (List Addr)):Prop where
 at_:H D=some (.lst vs)
 r:fc H vs ms fl
 nb:∀c∈D::fl.flatten,c≠b
theorem RV.kt {b D:Addr}{H H':Hp}{l vs:List V}{ms:List Ds}{I:List (List Addr)}(h:RV b H D vs ms I)(k:Kt b H H')(J:H b=some (.lst l)):RV b H' D vs ms I:=
 ⟨k.lst (h.nb D Q0b) h.at_,h.r.kt k J λz=>h.nb b (Q0e _ z) rfl,h.nb⟩
structure RS (K:W.Frag) (Pt Ps Pi Po a b:Addr) (ns:List Int) (n:Int) (C v dx pk pb sh:Addr) (key by_ y:Str) (xs:List V) (fs:Fs) (D1:Addr) (v1:List V) (ms1:List Ds) (f1:List (List Addr)) (D2:Addr) (v2:List V) (f2:List (List Addr)) (D3:Addr) (v3:List V) (ij:List Ds) (f3:List (List Addr)) (H:Hp):Prop where
 w:RW K Pt Ps Pi Po a b ns n H
 v1:RV b H D1 v1 ms1 f1
 v2:RV b H D2 v2 ms1 f2
 v3:RV b H D3 v3 ij f3
 v:jJ H C v dx y
 k:je H pk pb key by_ y xs fs
 sh:j1 H sh pb key y
section
variable {K:W.Frag}{Pt Ps Pi Po a b:Addr}{ns:List Int}{n n':Int}{C v dx pk pb sh:Addr}{key by_ y:Str}{xs:List V}{fs:Fs}{D1:Addr}{v1:List V}{ms1:List Ds}{f1:List (List Addr)}{D2:Addr}{v2:List V}{f2:List (List Addr)}{D3:Addr}{v3:List V}{ij:List Ds}{f3:List (List Addr)}{H H':Hp}
theorem RS.mv (h:RS K Pt Ps Pi Po a b ns n C v dx pk pb sh key by_ y xs fs D1 v1 ms1 f1 D2 v2 f2 D3 v3 ij f3 H)(x:Kt b H H')(w:RW K Pt Ps Pi Po a b ns n' H'):RS K Pt Ps Pi Po a b ns n' C v dx pk pb sh key by_ y xs fs D1 v1 ms1 f1 D2 v2 f2 D3 v3 ij f3 H':=
 have I:=h.w.g.at_;have tu:=x.tu I
 ⟨w,h.v1.kt x I,h.v2.kt x I,h.v3.kt x I,x _ _ (gz h.v I (by intro z;cases z)) (by intro ps z;cases z) h.v,h.k.mono tu,tu _ _ h.sh⟩
theorem RS.same (h:RS K Pt Ps Pi Po a b ns n C v dx pk pb sh key by_ y xs fs D1 v1 ms1 f1 D2 v2 f2 D3 v3 ij f3 H)(s:Same H H'):RS K Pt Ps Pi Po a b ns n C v dx pk pb sh key by_ y xs fs D1 v1 ms1 f1 D2 v2 f2 D3 v3 ij f3 H':=h.mv (Kt.of s) (h.w.same s)
theorem RS.oi (h:RS K Pt Ps Pi Po a b ns n C v dx pk pb sh key by_ y xs fs D1 v1 ms1 f1 D2 v2 f2 D3 v3 ij f3 H)(F:Fr Pt Ps Pi Po)(o:OI Pi Po H H'):RS K Pt Ps Pi Po a b ns n C v dx pk pb sh key by_ y xs fs D1 v1 ms1 f1 D2 v2 f2 D3 v3 ij f3 H':=h.mv o.1.kt (h.w.oi F o)
theorem RS.sb (h:RS K Pt Ps Pi Po a b ns n C v dx pk pb sh key by_ y xs fs D1 v1 ms1 f1 D2 v2 f2 D3 v3 ij f3 H)(s:SB b H H')(z:H' b=some (.lst [.int n']))(I:n<=n'):RS K Pt Ps Pi Po a b ns n' C v dx pk pb sh key by_ y xs fs D1 v1 ms1 f1 D2 v2 f2 D3 v3 ij f3 H':=h.mv (Kt.sb s) (h.w.sb s z I)
theorem RS.ka (h:RS K Pt Ps Pi Po a b ns n C v dx pk pb sh key by_ y xs fs D1 v1 ms1 f1 D2 v2 f2 D3 v3 ij f3 H):KA H (.ref pk) (.rows key by_ fs):=by
 unfold KA;exact⟨pk,pb,xs,rfl,h.k.at_,h.k.tu,h.k.fa⟩
theorem RS.I0 (h:RS K Pt Ps Pi Po a b ns n C v dx pk pb sh key by_ y xs fs D1 v1 ms1 f1 D2 v2 f2 D3 v3 ij f3 H):KA H (.ref sh) (.rows key y fs):=by
 unfold KA;exact⟨sh,pb,xs,rfl,h.sh,h.k.tu,h.k.fa⟩
end
def um (K:W.Frag):Sp:=λvs H Q E=>qA K 0 vs H Q E\/qA K 1 vs H Q E
def BY (K:W.Frag) (Pt Ps Pi Po:Addr):Sp:=λvs H Q _=>∃a b ns n,vs=[.ref a,.ref b]/\RW K Pt Ps Pi Po a b ns n H/\n<=100000000000/\∀n' H',RW K Pt Ps Pi Po a b ns n' H'->n'<=n+10000000->Q (.bl true) H'
section
variable {P:Program}{w:World}{K:W.Frag}{mg:Str->Option Value}{base:Heap}
variable {C Pt Ps Pi Po gU:Addr}
theorem I_:fo XD XA (eP (top 47)):=fM
theorem Ja (F:Fr Pt Ps Pi Po)(T:Tb mg)(OF:lg K mg C bD U ag bZ ac ab)(aW:Dn K mg "_law_round" fk (top 47) aX aY)(aj:Dn K mg "_law_next" fk (top 24) ba bb)(ak:eE P w K mg base eI (1) ba bb fk (k7 K))(an:Dn K mg "_law_rows_kind" iY (top 30) ao ap)(aq:eE P w K mg base eI (7) ao ap iY (um K))(bc:Dn K mg "_law_pool" qh (top 37) bd be)(bf:eE P w K mg base eI (130) bd be qh (Bm K Pt 60))(Y:Dn K mg "_law_some" oG (top 38) bg bh)(aa:eE P w K mg base eI (130) bg bh oG (AW K Pt Ps 60))(aE:Dn K mg "_law_plains" qt (top 43) aF aG)(aH:eE P w K mg base eI (1) aF aG qt (BN))(bi:Dn K mg "_law_view" qu (top 44) bj bm)(bn:eE P w K mg base eI (3) bj bm qu (BO C))
 (ar:Dm K "behind" "Order.behind" kZ (ff 22 1) U au) (av:eE P w K mg base eI (2) U au kZ (qV C)) (aJ:Dm K "grade" "View.grade" ["self"] (ff 20 3) ac aK) (aL:eE P w K mg base eI (1) ac aK ["self"] (BB)) (aA:Dm K "keeps" "Order.keeps" qj (ff 22 4) ab aB) (aC:eE P w K mg base eI (1) ab aB qj (BC)) (aZ:Dm K "see" "Order.see" qm (ff 22 2) ag a1) (a2:eE P w K mg base eI (9) ag a1 qm (BD Pi C)) (ah:Dn K mg "_law_alike" iK (top 35) a3 a4) (ai:eE P w K mg base eI (16) a3 a4 iK (ny 15)) (ae:Dn K mg "_law_sorted" jG (top 42) aM aP) (af:eE P w K mg base eI (8) aM aP jG (nu Po jq jr)) (aw:Dn K mg "_law_same_end" iK (top 41) ax ay) (az:eE P w K mg base eI (17) ax ay iK (uf 15)) (bu:Dn K mg "_law_put" nj (top 40) bv bw) (bx:eE P w K mg base eI (130) bv bw nj (qW gU 15 Pi C)) (aQ:Dn K mg "_law_spoilt" qx (top 39) aT aU) (aV:eE P w K mg base eI (2) aT aU qx (BW K 12)) (al:Dn K mg "_law_puts" qw (top 46) bo bp) (am:eE P w K mg base eI (131) bo bp qw (BR 15 Pi Po C)) (a5:Dn K mg "_law_wrong" jG (top 45) a6 a7) (a8:eE P w K mg base eI (2) a6 a7 jG (BQ)):eE P w K mg base eI (132) aX aY fk (BY K Pt Ps Pi Po):=by
 have CT:=OF.ct;have bC:=OF.b;have co:=OF.s;have bN:=OF.g;have bO:=OF.k;refine aW.F.ok I_ λvs H Q E h=>?_;obtain⟨a,b,ns,n,rfl,W,hn,q⟩:=h;refine⟨rfl,λek A outer s nd hr hu=>?_⟩;have dU:=Q1f (Q27 (by decide:3<=64) _) hr.units
 refine⟨_,(eF (eX 2 nd (eV ak hr aj (a_ (pv 0) (a_ (pv 1) c_))))
  (eF (eX 3 nd (eJ g7 b_ (eJ fv (pv 2) b_)))
  (eF (eX 4 nd (gO (fY (a_ b_ (a_ b_ (a_ b_ (a_ b_ (a_ b_ c_)))))) (eJ fv (eJ gm (pv 2) b_) b_)))
  (eF (eY (eW fE (eJ fv (eJ gm (pv 2) b_) b_) b_ (eT _)) (eF (eX 3 nd b_)
  (eL (eX 4 nd (fA (DB rfl) (by rfl) T.FQ boot_min (a_ b_ (a_ (pv 4) c_)))))) eZ)
  (eF (FR 5 nd (eV aq hr an (a_ (pv 0) (a_ (pv 1) (a_ (pv 4) (a_ (nX DC (by rfl) T.sU boot_int (a_ (kH (jk mG (pv 3) b_ (eT _)) (j5 (jk mG (pv 4) b_ (eT _)))) c_)) c_))))))
  (eF (eX 6 nd (eV bf hr bc (a_ (pv 0) (a_ (pv 1) (a_ (pv 5) (a_ (pv 3) c_))))))
  (eF (eX 7 nd (fY (a_ (gO (pv 1) b_) c_)))
  (eF (eX 8 nd (eV aa hr Y (a_ (pv 0) (a_ (pv 1) (a_ (pv 5) (a_ (pv 6) (a_ b_ c_)))))))
  (eF (eX 9 nd (eV aa hr Y (a_ (pv 0) (a_ (pv 7) (a_ (pv 5) (a_ (pv 6) (a_ b_ c_)))))))
  (eF (eX 10 nd (eV aa hr Y (a_ (pv 0) (a_ (pv 1) (a_ (pv 5) (a_ (pv 6) (a_ b_ c_)))))))
  (eF (zm (i:=11) nd rfl gJ (g:=(gX 0)) (tt:=(jO (f_ yx (fT 0) (f_ (ic K) (fT 6) (tC (.int 1)))))) (te:=(fT 0)) (own:=["_law_name"]) rfl (jY (N:=XD) (sc:=eP (top 47))) (rB (eV aH hr aE (a_ (pv 5) c_))) (λ_ _ _ _ _=>(fX (i:=0) (show(["_law_name","_law_script","_law_at","_law_m","_law_many","_law_wide","_law_kind_here","_law_pool_here","_law_begin","_law_source","_law_twin","_law_other","_law_plains_here","_law_view_here","_law_by","_law_shown","_law_told","_law_seen","_law_wrong_here"]:List Str).Nodup by decide +kernel) rfl (Or.inl rfl) (.inr rfl))) (λ_ _ _ _ _=>(pI (eW jj (pv 0) (eS (pv 6) b_) (eT _)))) (λ_ _ _ _ _=>(pv 0)))
  (eF (pq (eV bn hr bi (a_ (eV ak hr aj (a_ (pv 0) (a_ (pv 1) c_))) (a_ (pv 11) c_))) (jh rfl (gT (fX (i:=12) nd rfl gJ) (gT (fX (i:=13) nd rfl gJ) jg))))
  (eF (eX 14 nd (f7 (a_ fm (a_ (eS (pv 5) b_) (a_ (pv 13) (a_ (eS (pv 5) b_) c_))))))
  (eF (eY (PW.pt (il (eW (Fq (n:=2) dU) (nW (pv 12) CT bC av (hr.mono (by decide)) ar.b .nil iV (a_ (pv 5) c_)) (pv 14) (eT _)) (il (eW jj (DQ (pv 12) CT bN aL (hr.mono (by decide)) aJ.b .nil iV) fm (eT _)) (iB (eW IX (nW (pv 12) CT bO aC (hr.mono (by decide)) aA.b .nil iV (a_ (eS (pv 5) b_) c_)) gR (eT _)))))) (eL (eO gR)) eZ)
  (eF (eX 15 nd (nW (pv 12) CT co a2 (hr.mono (by decide)) aZ.b .nil iV (a_ (pv 5) (a_ (pv 8) c_))))
  (eF (eY (gY (gS (eV ai hr ah (a_ (pv 14) (a_ (pv 15) (a_ (eV af hr ae (a_ (pv 14) (a_ (pv 9) c_))) c_)))))) (eL (eO gR)) eZ)
  (eF (eY (gY (gS (eV az hr aw (a_ (pv 5) (a_ (eV bx hr bu (a_ (pv 12) (a_ (pv 5) (a_ (pv 8) (a_ (pv 15) c_))))) (a_ (f7 (a_ fm (a_ (pv 9) c_))) c_)))))) (eL (eO gR)) eZ)
  (eF (pq (eV aV hr aQ (a_ (pv 0) (a_ (pv 1) (a_ (pv 14) (a_ (eV af hr ae (a_ (pv 14) (a_ (pv 10) c_))) c_))))) (jh rfl (gT (fX (i:=16) nd rfl gJ) (gT (fX (i:=17) nd rfl gJ) jg))))
  (eF (eY (gY (gS (eV am hr al (a_ (pv 12) (a_ (pv 5) (a_ (pv 8) (a_ (pv 16) (a_ (pv 17) c_)))))))) (eL (eO gR)) eZ)
  (eF (eY (gY (gS (eV am hr al (a_ (pv 12) (a_ (pv 5) (a_ (pv 8) (a_ (pv 10) (a_ (eV a8 hr a5 (a_ (pv 14) (a_ (pv 10) c_))) c_)))))))) (eL (eO gR)) eZ)
  (eL (eO (eV ai hr ah (a_ (pv 5) (a_ (pv 8) (a_ (pv 9) c_)))))))))))))))))))))))))),?_⟩
 ac_rfl
 refine⟨_,rfl,_,rfl,a,b,ns,n,rfl,W.g,by omega,λm H1 m0 m1 cZ c1=>?_⟩;have W1:=W.sb cZ c1 (by omega);have ei:=W.g.pos;clear cZ c1 W;refine⟨_,rfl,_,_,rfl,rfl,(by show(0:Int)<_;decide),_,_,rfl,rfl,?_⟩;refine⟨FT,λp0 c2=>?_⟩;have s0:Same H1 (upd H1 p0 (.lst [.int 1,.int 2,.int 3,.int 4,.int 12])):=Same.new c2
 obtain⟨wd,c3,bH,bI⟩:∃wd:Nat,gB [V.int 1,.int 2,.int 3,.int 4,.int 12] (m / 55 % 5)=some (.int wd)/\1<=wd/\wd<=12:=by
  rcases(by omega:m / 55 % 5=0\/m / 55 % 5=1\/m / 55 % 5=2\/m / 55 % 5=3\/m / 55 % 5=4) with z|z|z|z|z <;> rw[z]
  . exact⟨1,g9 (j:=0) rfl,by decide,by decide⟩
  . exact⟨2,g9 (j:=1) rfl,by decide,by decide⟩
  . exact⟨3,g9 (j:=2) rfl,by decide,by decide⟩
  . exact⟨4,g9 (j:=3) rfl,by decide,by decide⟩
  . exact⟨12,g9 (j:=4) rfl,by decide,by decide⟩
 refine⟨_,rfl,_,_,rfl,rfl,⟨by decide,by decide⟩,_,_,rfl,rfl,(by show(0:Int)<5;decide),p0,_,_,_,rfl,rfl,eG.of eK,c3,?_⟩;have W2:=W1.same s0;generalize upd H1 p0 (.lst [.int 1,.int 2,.int 3,.int 4,.int 12])=H2 at W2;clear W1 s0 c2;obtain⟨cM,c4⟩:∃cM:Nat,1+m % 4=(cM:Int):=⟨(1+m % 4).toNat,by omega⟩;dsimp only[gX];refine qL (A:=j6 _ _ _) (λbP H'=>∃mn wd:Nat,bP=[some (.ref a),some (.ref b),some (.int m),some (.int mn),some (.int wd),none,none,none,none,none,none,none,none,none,none,none,none,none]/\H'=H2/\mn<=30/\1<=wd/\wd<=12) ?_ (λhB=>?_);rotate_left
 . refine⟨_,rfl,_,_,rfl,rfl,⟨by decide,by decide⟩,_,_,rfl,rfl,(by show(0:Int)<11;decide),rfl,_,rfl,fJ (λc=>?_) (λc=>?_)⟩
   . refine⟨_,rfl,_,_,rfl,?_⟩;by_cases hc:(wd:Int)<2
     . rw[if_pos hc];exact hB _ _ ⟨30,wd,rfl,rfl,by decide,bH,bI⟩
     . rw[if_neg hc];exact hB _ _ ⟨30,2,rfl,rfl,by decide,by decide,by decide⟩
   . refine hB _ _ ⟨cM,wd,?_,rfl,by omega,bH,bI⟩;rw[<-c4];rfl
 clear c3 bH bI c4;intro bP H' zq;obtain⟨mn,wd,rfl,rfl,dV,bH,bI⟩:=zq
 have rk:∀d:Nat,d=0\/d=1->∀{Q':VK},(∀(pk pb:Addr) (xs:List V) (key by_:Str) (fs:Fs) (n2:Int) (H3:Hp),RW K Pt Ps Pi Po a b ns n2 H3->n2<=n+200->j1 H3 pk pb key by_->H3 pb=some (.tup xs)->FA H3 xs fs->fs.dep<=2->(Kd.rows key by_ fs).W->Q' (.ref pk) H3)->um K [.ref a,.ref b,.int wd,.int d] H' Q' E0:=λd hd Q' q'=>by
  have el:(ck d:Int)<=12:=by rcases hd with rfl|rfl <;> decide
  have cp:(wd:Int) * ((ck d:Int)+1)<=12 * 13:=Q3o (by omega) (by omega) (by omega) (by omega)
  have go:qA K d [.ref a,.ref b,.int wd,.int d] H' Q' E0:=by
   refine⟨a,b,ns,n+1,wd,rfl,bH,bI,W2.g,by omega,λv key by_ fs n2 H3 sb dW l1 l2 hk dX dY _=>?_⟩;unfold KA at hk;obtain⟨pk,pb,xs,rfl,I,L,J⟩:=hk;simp only[Kd.dep] at dX;exact q' pk pb xs key by_ fs n2 H3 (W2.sb sb dW l1) (by omega) I L J (by omega) dY
  rcases hd with rfl|rfl
  . exact .inl go
  . exact .inr go
 refine qL (A:=lC _ _) (λbP H3=>∃(pk pb:Addr) (xs:List V) (key by_:Str) (fs:Fs) (n2:Int),bP=[some (.ref a),some (.ref b),some (.int m),some (.int mn),some (.int wd),some (.ref pk),none,none,none,none,none,none,none,none,none,none,none,none]/\RW K Pt Ps Pi Po a b ns n2 H3/\n2<=n+200/\j1 H3 pk pb key by_/\H3 pb=some (.tup xs)/\FA H3 xs fs/\fs.dep<=2/\(Kd.rows key by_ fs).W) ?_ (λhB=>?_);rotate_left
 . have fin:∀(pk pb:Addr) (xs:List V) (key by_:Str) (fs:Fs) (n2:Int) (H3:Hp),RW K Pt Ps Pi Po a b ns n2 H3->n2<=n+200->j1 H3 pk pb key by_->H3 pb=some (.tup xs)->FA H3 xs fs->fs.dep<=2->(Kd.rows key by_ fs).W->_:=λpk pb xs key by_ fs n2 H3 h1 h2 h3 h4 h5 h6 h7=>hB _ _ ⟨pk,pb,xs,key,by_,fs,n2,rfl,h1,h2,h3,h4,h5,h6,h7⟩;refine⟨_,rfl,_,rfl,_,rfl,_,rfl,_,_,rfl,rfl,_,rfl,fJ (λc=>⟨_,rfl,_,_,rfl,rfl,.inr ⟨_,rfl,?_⟩⟩) (λc=>.inr ⟨_,rfl,?_⟩)⟩
   . dsimp only[g8];by_cases bq:(wd:Int)<12
     . rw[if_pos (decide_eq_true bq)];exact rk 1 (.inr rfl) fin
     . rw[if_neg (by rw[decide_eq_false bq];decide)];exact rk 0 (.inl rfl) fin
   . exact rk 0 (.inl rfl) fin
 intro bP H3 zq;obtain⟨pk,pb,xs,key,by_,fs,n2,rfl,W3,dZ,I,L,J,dO,hW⟩:=zq;clear rk W2 bH bI;have c5:=hW;unfold Kd.W at c5;obtain⟨d0,bq,c6,bE,em⟩:=c5;have b1:fs.dB<=12:=by have:=oA fs;omega
 have d1:(fs.cB:Int)<=14400:=by
  have h1:=oz fs 1 c6 dO;have h2:CB 1=1200:=rfl;have h3:fs.names.length * CB 1<=12 * CB 1:=Q11 _ bq;omega
 have b3:mu (.fL fs) 2<=60:=by have:=tw (.fL fs) 2;simp only[Kd.dep] at this;omega
 refine⟨_,rfl,_,rfl,_,rfl,_,rfl,a,b,ns,n2,pk,pb,xs,key,by_,fs,mn,rfl,W3.g,W3.v,I,L,J,hW,dV,by omega,by decide,λDp ps n3 H4 cN c7 w1 w2 c8 d2 cO aD bJ dP bQ=>?_⟩;have W4:=W3.fU F cN c7 w1 c8;have b4:Tu H3 H4:=cN.tu W3.g.at_ W3.v;replace I:=b4 _ _ I;replace L:=b4 _ _ L;replace J:=FA.mono b4 fs J;clear cN c7 c8 d2 W3 b4;have bR:ps.length<=30:=by omega
 have cp:(ps.length:Int) * ((fs.cB:Int)+1)<=30 * 14401:=Q3o (by omega) (by omega) (by omega) (by omega)
 have so:∀n,nt fs key 2 ps n (gP ns key by_ fs 2 ps n):=λn=>by
  have:=tU (ns:=ns) (n:=n) (room:=2) (by_:=by_) hW (by decide) bQ ps.length
  rwa [Q12] at this
 refine⟨_,rfl,b,_,_,_,rfl,rfl,eG.of W4.g.at_,rfl,hZ,λb2 b5=>?_⟩;have s5:Same H4 (upd H4 b2 (.lst [.int n3])):=Same.new b5;have bW:=eK (H:=H4) (a:=b2) (o:=.lst [.int n3]);have c9:b≠b2:=eM W4.g.at_ b5;have cq:Dp≠b2:=eM aD b5;have W5:=W4.same s5;replace I:=s5 _ _ I;replace L:=s5 _ _ L;replace J:=FA.mono (Tu.of s5) fs J;replace aD:=s5 _ _ aD;generalize upd H4 b2 (.lst [.int n3])=H5 at *;clear W4 s5 b5;refine⟨_,rfl,_,rfl,_,rfl,_,rfl,a,b,ns,n3,pk,pb,xs,key,by_,fs,Dp,ps,2,rfl,W5.g,W5.v,W5.s,F.ts,I,L,J,hW,aD,cO,bR,bQ,bJ,by decide,b3,by omega,λD1 v1 f1 H6 cP da db dc dd de cQ=>?_⟩;have p3:=W5.g.pos;have b6:=so n3;have R1:Rr key by_ fs (fV key by_ (gP ns key by_ fs 2 ps n3).1):=Rr.of b6 bJ bR;have lo1:=b6.lo;have d3:=b6.hi;have b7:=jH.kt cP W5.v W5.s;have W6:=W5.jZ F cP da lo1 db dc;have b8:=b7.tu W5.g.at_;have V1:RV b2 H6 D1 v1 (fV key by_ (gP ns key by_ fs 2 ps n3).1) f1:=⟨dd,de,λc hc z=>by have:=cQ c hc;rw[z,bW] at this;cases this⟩;have N1:∀c∈D1::f1.flatten,c≠b:=λc hc z=>by have:=cQ c hc;rw[z,W5.g.at_] at this;cases this
 replace I:=b8 _ _ I;replace L:=b8 _ _ L;replace J:=FA.mono b8 fs J;replace aD:=b7.lst cO aD;have br:=b7.lst (Ne.symm c9) bW;clear cP da db dc dd de cQ W5 b7 b8 bW;refine⟨_,rfl,_,rfl,_,rfl,_,rfl,a,b2,ns,n3,pk,pb,xs,key,by_,fs,Dp,ps,2,rfl,⟨W6.g.i3,W6.g.len,br,by omega⟩,W6.v,W6.s,F.ts,I,L,J,hW,aD,cq,bR,bQ,bJ,by decide,b3,by omega,λD2 v2 f2 H7 cR d4 df dg dh di dj=>?_⟩;have b9:=jH.kt cR W6.v W6.s;have W7:=W6.oth F cR br c9 df dg;have ca:=b9.tu br
 replace V1:RV b H7 D1 v1 (fV key by_ (gP ns key by_ fs 2 ps n3).1) f1:=by
  have:=V1.kt b9 br;exact⟨this.at_,this.r,N1⟩
 have V2:RV b H7 D2 v2 (fV key by_ (gP ns key by_ fs 2 ps n3).1) f2:=⟨dh,di,λc hc z=>by have:=dj c hc;rw[z,W6.g.at_] at this;cases this⟩;replace I:=ca _ _ I;replace L:=ca _ _ L;replace J:=FA.mono ca fs J;replace aD:=b9.lst cq aD;clear cR d4 df dg dh di dj W6 b9 ca br N1;refine⟨_,rfl,_,rfl,_,rfl,_,rfl,a,b,ns,_,pk,pb,xs,key,by_,fs,Dp,ps,2,rfl,W7.g,W7.v,W7.s,F.ts,I,L,J,hW,aD,cO,bR,bQ,bJ,by decide,b3,by omega,λD3 v3 f3 H8 cS dk dm dn dp dq dt=>?_⟩;have cb:=so (gP ns key by_ fs 2 ps n3).2;have R3:Rr key by_ fs (fV key by_ (gP ns key by_ fs 2 ps (gP ns key by_ fs 2 ps n3).2).1):=Rr.of cb bJ bR;have du:=cb.lo;have d5:=cb.hi;have cd:=jH.kt cS W7.v W7.s;have W8:=W7.jZ F cS dk du dm dn;have ce:=cd.tu W7.g.at_;replace V1:=V1.kt cd W7.g.at_;replace V2:=V2.kt cd W7.g.at_;have V3:RV b H8 D3 v3 (fV key by_ (gP ns key by_ fs 2 ps (gP ns key by_ fs 2 ps n3).2).1) f3:=⟨dp,dq,λc hc z=>by have:=dt c hc;rw[z,W7.g.at_] at this;cases this⟩;replace I:=ce _ _ I;replace L:=ce _ _ L;replace J:=FA.mono ce fs J;clear cS dk dm dn dp dq dt W7 cd ce aD so b6 cb bQ bJ dP b3;generalize gP ns key by_ fs 2 ps (gP ns key by_ fs 2 ps n3).2=q3 at *;generalize gP ns key by_ fs 2 ps n3=q1 at *;generalize fV key by_ q3.1=ij at *;generalize fV key by_ q1.1=ms1 at *;have en:q3.2<=n+900000:=by omega
 generalize q3.2=n8 at *;clear lo1 d3 du d5 w1 w2 dZ cp d1;have d6:=FA.len fs J
 have d7:(i4 fs xs.length).length<=12:=by
  unfold i4;rw[Q03];refine Q0f (Q2t _ _) ?_;rw[Q0i,Fs.AM];omega
 refine⟨_,rfl,pk,pb,key,by_,xs,fs,rfl,I,L,J,bq,λDq H9 s9 dQ cT=>⟨Dq,rfl,⟨_,eG.of cT⟩,t7 (Hb (eG.of cT)) (λi=>(((i4 fs xs.length).take i).filter λx=> !decide (V.str x=V.str key)).map V.str) (by rw[Q03];omega) (λDr cU=>?_) (λi x hx add skip=>?_)⟩⟩
 case refine_2=>
  obtain⟨z,hz,rfl⟩:=Option.map_eq_some_iff.mp (List.getElem?_map.symm.trans hx);exact⟨rfl,_,rfl,_,rfl,pk,_,_,_,rfl,rfl,eB.of (s9 _ _ I),rfl,rfl,_,rfl,fJ (λcc=>⟨_,rfl,add _ (Bh hz cc)⟩) (λcc=>skip (Bi hz cc))⟩
 obtain⟨qn,dv,cV⟩:∃qn:List Str,((((i4 fs xs.length).take ((i4 fs xs.length).map V.str).length).filter λx=> !decide (V.str x=V.str key)).map V.str)=qn.map V.str/\∀y∈qn,y≠key/\fs.pl y:=by
  refine⟨_,rfl,λy hy=>?_⟩;obtain⟨h1,h2⟩:=List.mem_filter.mp hy;refine⟨λz=>by rw[z] at h2;simp at h2,?_⟩;have h3:=Q1y h1;unfold i4 at h3;obtain⟨⟨x,k⟩,h4,rfl⟩:=List.mem_map.mp h3;obtain⟨h5,h6⟩:=List.mem_filter.mp h4;obtain⟨j,hj,ej⟩:=Q1b (Q1y h5);have d8:fs.at j=some (x,k):=by rw[<-Fs.tN,Q02 hj,ej]
  exact⟨k,Fs.jV d0 d8,by cases k with|num=>trivial|fC=>trivial|_=>cases h6⟩
 rw[dv];clear dv d7;have bz:=s9.trans (Same.new (o:=.lst (qn.map V.str)) cU);have bB:=eK (H:=H9) (a:=Dr) (o:=.lst (qn.map V.str));generalize upd H9 Dr (.lst (qn.map V.str))=dw at bz bB;have cr:Dr≠b:=λz=>by have:=s9 _ _ W8.g.at_;rw[<-z,cU] at this;cases this
 have cf:Kt b H8 dw:=Kt.of bz;have bA:=W8.same bz;replace V1:=V1.kt cf W8.g.at_;replace V2:=V2.kt cf W8.g.at_;replace V3:=V3.kt cf W8.g.at_;replace I:=bz _ _ I;replace L:=bz _ _ L;replace J:=FA.mono (Tu.of bz) fs J;clear s9 dQ cT bz cU cf W8;refine⟨_,rfl,_,rfl,a,b,ns,n8,rfl,bA.g,by omega,λm2 eo z0 _ sb cs=>⟨_,rfl,Dr,m2,qn,rfl,sb _ _ cr bB,z0,λtv v dx y bK cW dy hV hy=>?_⟩⟩;have bS:Kt b dw bK:=(Kt.sb sb).trans (Kt.of cW);have bT:=(bA.sb sb cs (by omega)).same cW;replace V1:=V1.kt bS bA.g.at_;replace V2:=V2.kt bS bA.g.at_;replace V3:=V3.kt bS bA.g.at_;have bF:=bS.tu bA.g.at_;replace I:=bF _ _ I;replace L:=bF _ _ L;replace J:=FA.mono bF fs J
 have bU:y≠key/\(y=""\/fs.pl y):=by
  rcases hy with rfl|h
  . refine⟨λz=>?_,.inl rfl⟩;obtain⟨k,e,_⟩:=bE;exact Fs.BX c6 (by rw[z];exact Fs.mh e)
  . exact⟨(cV y h).1,.inr (cV y h).2⟩
 clear sb cW bS bF bA bB cr hy cV cs;refine⟨tv,_,rfl,eB.of dy,rfl,_,_,rfl,_,_,rfl,rfl,?_⟩;refine⟨_,rfl,pk,_,_,_,rfl,rfl,eB.of I,rfl,_,rfl,_,rfl,pk,_,_,_,rfl,rfl,eB.of I,rfl,oF,λsh dz=>?_⟩;have a9:Same bK (upd bK sh (.tup [.str "rows",.str key,.str y,.ref pb])):=Same.new dz;have cX:j1 (upd bK sh (.tup [.str "rows",.str key,.str y,.ref pb])) sh pb key y:=eK;have cg:je (upd bK sh (.tup [.str "rows",.str key,.str y,.ref pb])) pk pb key by_ y xs fs:=⟨a9 _ _ I,a9 _ _ L,FA.mono (Tu.of a9) fs J,hW,bU.1,bU.2⟩;replace hV:=a9 _ _ hV;have dA:=bT.same a9;replace V1:=V1.kt (Kt.of a9) bT.g.at_;replace V2:=V2.kt (Kt.of a9) bT.g.at_;replace V3:=V3.kt (Kt.of a9) bT.g.at_;generalize upd bK sh (.tup [.str "rows",.str key,.str y,.ref pb])=d9 at *;clear a9 dz I L J bT dy d6;refine⟨_,rfl,v,dx,_,rfl,hV,rfl,_,rfl,v,dx,pk,pb,key,by_,y,xs,fs,rfl,hV,cg,λea ep bL _ cu=>?_⟩;refine⟨_,rfl,ea,sh,_,_,λ_=>true,rfl,rfl,IZ,.inr ⟨eB.of cu,eB.of (bL _ _ cX),_,rfl,fe ?_⟩⟩;refine⟨_,rfl,v,dx,_,rfl,bL _ _ hV,rfl,.ref v,rfl,rfl,_,rfl,jS rfl ?_⟩;refine⟨_,rfl,v,dx,_,rfl,bL _ _ hV,rfl,_,rfl,pk,_,_,_,rfl,rfl,eB.of (bL _ _ cg.at_),rfl,.ref v,.str key,rfl,rfl,rfl,_,rfl,fe ?_⟩;have X:RS K Pt Ps Pi Po a b ns (n8+1) C v dx pk pb sh key by_ y xs fs D1 v1 ms1 f1 D2 v2 f2 D3 v3 ij f3 d9:=⟨dA,V1,V2,V3,hV,cg,cX⟩;replace X:=X.same bL;clear bL cu dA V1 V2 V3 hV cg cX;have dC:(Kd.rows key y fs).W:=X.k.W';have cw:=λm hm=>(R1.ok m hm).1;have cx:=λm hm=>(R3.ok m hm).1;have l1:v1.length<64:=by rw[(A3.len X.v1.r).1];have:=R1.len;omega
 have l2:v2.length<64:=by rw[(A3.len X.v2.r).1];have:=R1.len;omega
 have l3:v3.length<64:=by rw[(A3.len X.v3.r).1];have:=R3.len;omega
 have bG:Rs 15 (.rows key y fs) (.lst (fi (fV key y ms1))) none:=j2.rs (N:=12) (R1.fV.ms b1) bq;have bM:Rs 15 (.rows key by_ fs) (.lst (fi ms1)) none:=j2.rs (N:=12) (R1.ms b1) bq;refine⟨_,rfl,v,dx,_,rfl,X.v,rfl,_,rfl,_,rfl,v,dx,pk,pb,D1,key,by_,y,xs,fs,v1,ms1,f1,rfl,X.v,X.k,X.v1.at_,X.v1.r,l1,X.w.i,cw,R1.kn,λT1 w1 g1 eq cy cz dR bV bt _=>?_⟩;replace X:=X.oi F (OI.i cy X.w.i cz X.w.o F.io);clear cy cz dR;refine⟨_,rfl,_,rfl,_,rfl,_,rfl,sh,D2,pb,key,y,fs,v2,ms1,f2,rfl,X.sh,X.v2.at_,X.v2.r,l2,X.w.o,cw,bE,bU.2,R1.kn,λT2 w2 g2 er cA cC dS dD cD _=>?_⟩;have ci:=OI.o cA X.w.o cC X.w.i F.io;replace X:=X.oi F ci;replace bV:=ci.1.lst bV;replace bt:=bt.kn ci.1;clear cA cC dS ci;refine⟨.ref sh,.ref T1,.ref T2,.rows key y fs,.lst (fi (fV key y ms1)),_,_,rfl,X.I0,dC,jK bV bt,jK dD cD,bG.1,bG.2.1,bG.2.2,λet cY=>⟨true,rfl,fe ?_⟩⟩;replace X:=X.same cY;have dE:=(jK bV bt).same cY;clear bV bt dD cD cY;refine⟨_,rfl,_,rfl,_,rfl,_,rfl,_,rfl,?_⟩;dsimp only[g8];refine ug X.v X.k X.w.i X.w.o F.io dE bG (λeb e=>by cases mw (Pb.D.lst.inj e);have:=R1.fV (y:=y) |>.len;omega) λtq cj dF cm=>?_;replace X:=X.oi F dF;clear dF dE;refine⟨_,rfl,gF,λtd dG=>?_⟩;have cn:Same cj (upd cj td (.tup [.str "done",.ref D2])):=Same.new dG;have bX:=eK (H:=cj) (a:=td) (o:=.tup [.str "done",.ref D2]);generalize upd cj td (.tup [.str "done",.ref D2])=ec at cn bX;replace X:=X.same cn;replace cm:=cm.kn (Kn.of cn);clear cn dG
 have cE:ue 15 ec (.rows key by_ fs) (.ref tq) (.ref td):=by
  rcases cm with⟨_,D,vs,fl,ms,e,hD,hr,ht⟩|⟨pl,p,e,_⟩
  . cases mw (Pb.D.lst.inj e);rw[R1.back] at hr;exact⟨tq,td,rfl,rfl,.inr ⟨.ref D,.ref D2,_,_,_,ht,bX,jK hD hr,jK X.v2.at_ X.v2.r,bM.1,bM.2.1,bM.2.2⟩⟩
  . cases e
 refine⟨.ref pk,.ref tq,.ref td,_,rfl,X.ka,hW,cE,λeu dH=>⟨true,rfl,fe ?_⟩⟩;replace X:=X.same dH;clear cE cm bX dH;refine⟨_,rfl,_,rfl,_,rfl,_,rfl,_,rfl,sh,D3,pb,key,y,fs,v3,ij,f3,rfl,X.sh,X.v3.at_,X.v3.r,l3,X.w.o,cx,bE,bU.2,R3.kn,λT3 w3 g3 ev cF cG bY dI cH dJ=>?_⟩;have cJ:=X.w.g.at_;have dL:b ∉ g3.flatten:=λz=>X.v3.nb b (Q0e _ ((qc dJ).mem_iff.mp z)) rfl;replace X:=X.oi F (OI.o cF X.w.o cG X.w.i F.io);refine⟨a,b,ns,n8+1,sh,pb,key,y,xs,fs,T3,w3,fV key y ij,g3,rfl,X.w.g,by omega,X.sh,X.k.tu,X.k.fa,dC,dI,cH,R3.fV.ms b1,dL,(λz=>by rw[z,cJ] at bY;cases bY),λt w u d fp r ew sb cK ht hO hR hl hP cL=>?_⟩;replace X:=X.sb sb cK (by omega);clear cF cG bY dI cH dJ dL sb cJ cK;refine⟨t,_,rfl,eB.of ht,rfl,_,_,rfl,_,_,rfl,rfl,?_⟩;refine⟨_,rfl,_,rfl,_,rfl,_,rfl,_,rfl,v,dx,pk,pb,key,by_,y,xs,fs,.ref D1,w,u,d,fp,r,rfl,X.v,X.k,X.w.i,X.w.o,F.io,hO,hR,hl,hP,cL,λey dM=>⟨true,rfl,fe ?_⟩⟩;replace X:=X.oi F dM;clear hO hR hl hP cL ht dM;refine⟨_,rfl,_,rfl,_,rfl,_,rfl,_,rfl,_,rfl,sh,D3,pb,key,y,fs,v3,ij,f3,rfl,X.sh,X.v3.at_,X.v3.r,l3,cx,bE,bU.2,λr2 u2 ez ed ee dN=>?_⟩;replace X:=X.same ed;refine⟨v,dx,pk,pb,key,by_,y,xs,fs,.ref D1,.ref D3,u2,.lst (fi ij),_,r2,rfl,X.v,X.k,X.w.i,X.w.o,F.io,jK X.v3.at_ X.v3.r,IY R3 b1 bq dN,(λeb e=>by cases mw (Pb.D.lst.inj e);have:=R3.len;omega),ee,(λpl e=>?_),λeA ef=>⟨true,rfl,fe ?_⟩⟩
 . rcases dN with⟨e',_⟩|⟨i,_,_,e',_⟩
   . rw[e'] at e;cases e
   . rw[e'] at e;cases e;exact(show 1<=100 by decide)
 replace X:=X.oi F ef;exact⟨_,rfl,_,rfl,_,rfl,.ref pk,.ref D1,.ref D2,.rows key by_ fs,.lst (fi ms1),_,_,rfl,X.ka,hW,jK X.v1.at_ X.v1.r,jK X.v2.at_ X.v2.r,bM.1,bM.2.1,bM.2.2,λeg eh=>q _ eg (X.same eh).w (by omega)⟩
end
theorem i2.Jb {K:W.Frag}{H H':Hp}{a:Addr}{ns:List Int}(h:i2 K H a ns)(s:Same H H'):i2 K H' a ns:=by
 rcases h with⟨o,h⟩|h
 . exact .inl ⟨o,s _ _ h⟩
 . exact .inr h
def uo (K:W.Frag) (Pt Ps Pi Po:Addr):Sp:=λvs H Q _=>∃(a:Addr) (ns:List Int),vs=[.ref a]/\i2 K H a ns/\ns.length<=63/\eQ Pt g_ hU H/\eQ Ps mj ml H/\eQ Pi ie ig H/\eQ Po jq jr H/\∀H',Q (.bl true) H'
section
variable {P:Program}{w:World}{K:W.Frag}{mg:Str->Option Value}{base:Heap}
variable {Pt Ps Pi Po:Addr}
theorem Jc:fo ["_law_script","_law_at","_law_k"] ["_law_script"] (eP (top 48)):=fM
theorem Jd (T:Tb mg)(U:Dn K mg "law" ["_law_script"] (top 48) Y aa)(z:Dn K mg "_law_round" fk (top 47) I J)(L:eE P w K mg base eI (132) I J fk (BY K Pt Ps Pi Po)):eE P w K mg base eI (133) Y aa ["_law_script"] (uo K Pt Ps Pi Po):=by
 refine U.F.ok Jc λvs H Q E h=>?_;obtain⟨a,ns,rfl,hS,ac,h1,h2,h3,h4,q⟩:=h;refine⟨rfl,λaf A outer s nd hr hu=>?_⟩
 refine⟨_,(eF (eX 1 nd (fY (a_ b_ c_)))
  (eF (iS PassesOwn.never rfl (lF rfl T.kY (a_ (eJ g7 b_ (eJ gm (fA gZ (by rfl) T.gK PySem.boot_len (a_ (i9 jA (pv 0) i7 (i8 b_)) c_)) b_)) c_)) (fX (i:=2) nd rfl gJ) (eL (eY (gY (gS (eV L hr z (a_ (pv 0) (a_ (pv 1) c_))))) (eL (eO gR)) eZ)))
  (eL (eO gR)))),?_⟩
 ac_rfl
 refine⟨hZ,λb hb=>?_⟩;have s0:Same H (upd H b (.lst [.int 0])):=Same.new hb;have W0:RW K Pt Ps Pi Po a b ns 0 (upd H b (.lst [.int 0])):=⟨⟨i2.Jb hS s0,ac,eK,by decide⟩,h1.same s0,h2.same s0,h3.same s0,h4.same s0⟩;refine⟨_,rfl,_,rfl,a,_,rfl,W0.g.i3.sq,λp hp=>?_⟩;have ab:=yT (ns.map V.int) none (some 60);rw[Q03] at ab;refine⟨p,_,rfl,.inl (eG.of eK),_,_,rfl,rfl,⟨by decide,by decide⟩,_,_,rfl,rfl,_,rfl,?_,?_,?_⟩
 . omega
 . omega
 have W1:=W0.same (Same.new hp (o:=.lst (jP (ns.map V.int) none (some 60))));generalize hc:(1+((jP (ns.map V.int) none (some 60)).length:Int) / 40).toNat=cnt;have ae:cnt<=3:=by omega
 refine kL (n:=cnt) (λi σ H'=>∃(x:Option V) (n:Int),σ=[some (.ref a),some (.ref b),x]/\RW K Pt Ps Pi Po a b ns n H'/\n<=10000000 * i) ?_ ?_ ?_
 . exact⟨_,0,rfl,W1,by omega⟩
 . rintro i σ H' hi ⟨x,n,rfl,W,hn⟩;exact⟨_,rfl,_,rfl,a,b,ns,n,rfl,W,by omega,λn' H2 W2 ag=>⟨true,rfl,fe ⟨_,n',rfl,W2,by omega⟩⟩⟩
 . rintro σ H' ⟨x,n,rfl,_⟩;exact q _
end
end Pb
namespace Pb
open L2
abbrev BZ (K:W.Frag) (x L:Str) (st:Stmt) (f:Addr):Prop:=∃(U:Value) (Y:Option Addr) (kV I pm:Value) (an:Option Addr) (z ct:Value) (J:Array (Option Value)),K.lookup f=some ⟨U,Y,.func (W.fnOf x L (gG st) (gj st) (eP st) .none kV I pm an z ct),J⟩/\W.codeIn K z L=true/\W.keepIn K (.ref f)=true
abbrev gc (K:W.Frag) (x:Str) (st:Stmt):Prop:=∃f,W.nsIn K mainGlobals x=some (some (.ref f))/\BZ K x x st f
abbrev HB (x J:Str) (ps:List Str) (st:Stmt):Prop:=∀(kV z L:Value) (U:Option Addr) (I ct:Value) (us:List Value),us.length=ps.length->bindArgs (W.fnOf x J (gG st) (gj st) (eP st) .none kV z L U I ct) ⟨us,[]⟩=pure (ps.zip us)
theorem gg {K:W.Frag}{mg:Str->Option Value}{h:Heap}{x:Str}{ps:List Str}{st:Stmt}(X:K.In h)(G:h.Ns mainGlobals mg)(a:gc K x st)(J:HB x x ps st):∃f d,Dn K mg x ps st f d/\∀us:List Value,us.length=ps.length->bindArgs d ⟨us,[]⟩=pure (ps.zip us):=by
 obtain⟨f,a,oc,od,kV,z,L,U,I,ct,Y,l,c,k⟩:=a;have F:=oj (st:=st) l c k;exact⟨f,_,⟨F,F.binds J,W.mg_of X G a⟩,J kV z L U I ct⟩
abbrev i5 (K:W.Frag) (C ns:Addr) (x z:Str) (st:Stmt) (f:Addr):Prop:=W.nsIn K ns x=some (some (.ref f))/\BZ K x z st f/\W.isFn K (.ref f)=true/\W.findIn K (.ref C) x=some (some (.ref f))
theorem nA {K:W.Frag}{C ns:Addr}{x z:Str}{ps:List Str}{st:Stmt}{f:Addr}(a:i5 K C ns x z st f)(U:HB x z ps st):∃d,Dm K x z ps st f d:=by
 obtain⟨_,⟨Y,od,kV,I,pm,an,J,ct,L,l,c,k⟩,_,_⟩:=a;have F:jC K x z st f _:=⟨⟨Y,od,kV,I,pm,an,J,ct,L,rfl,l,c⟩,k⟩;exact⟨_,F,F.binds U⟩
theorem Je {K:W.Frag}{x:Str}{st:Stmt}{f:Addr}{L:Value}{U Y:Option Addr}{kV I pm z ct:Value}{J:Array (Option Value)}(a:W.nsIn K mainGlobals x=some (some (.ref f)))(l:K.lookup f=some ⟨L,U,.func (W.fnOf x x (gG st) (gj st) (eP st) .none kV I pm Y z ct),J⟩)(c:W.codeIn K z x=true)(k:W.keepIn K (.ref f)=true):gc K x st:=⟨f,a,L,U,kV,I,pm,Y,z,ct,J,l,c,k⟩
theorem Jf {K:W.Frag}{C ns:Addr}{x L:Str}{st:Stmt}{f:Addr}{U:Value}{Y an:Option Addr}{kV I pm z ct:Value}{J:Array (Option Value)}(a:W.nsIn K ns x=some (some (.ref f)))(l:K.lookup f=some ⟨U,Y,.func (W.fnOf x L (gG st) (gj st) (eP st) .none kV I pm an z ct),J⟩)(c:W.codeIn K z L=true)(k:W.keepIn K (.ref f)=true)(h:W.isFn K (.ref f)=true)(g:W.findIn K (.ref C) x=some (some (.ref f))):i5 K C ns x L st f:=⟨a,⟨U,Y,kV,I,pm,an,z,ct,J,l,c,k⟩,h,g⟩
theorem i5.meth {K:W.Frag}{C ns:Addr}{x z:Str}{st:Stmt}{f:Addr}(a:i5 K C ns x z st f):Meth K C x f:=by
 obtain⟨_,⟨_,_,_,_,_,_,_,_,_,_,_,k⟩,h1,h2⟩:=a;exact⟨h2,h1,k⟩
abbrev Jg (K:W.Frag) (C:Addr):Prop:=W.plainGet K C Str.empty=true/\W.hasDictIn K C=true/\W.plainOver K C=true/\W.findIn K (.ref C) "__setattr__"=some (some (.builtin "object.__setattr__"))/\W.makesIn K C=true/\W.keepIn K (.ref C)=true
theorem len1 {α:Type}{l:List α}(h:l.length=1):∃a,l=[a]:=match l,h with|[a],_=>⟨a,rfl⟩
theorem len2 {α:Type}{l:List α}(h:l.length=2):∃a b,l=[a,b]:=match l,h with|[a,b],_=>⟨a,b,rfl⟩
theorem oY {α:Type}{l:List α}(h:l.length=3):∃a b c,l=[a,b,c]:=match l,h with|[a,b,c],_=>⟨a,b,c,rfl⟩
theorem lh {α:Type}{l:List α}(h:l.length=4):∃a b c d,l=[a,b,c,d]:=match l,h with|[a,b,c,d],_=>⟨a,b,c,d,rfl⟩
theorem B1 {α:Type}{l:List α}(h:l.length=5):∃a b c d e,l=[a,b,c,d,e]:=match l,h with|[a,b,c,d,e],_=>⟨a,b,c,d,e,rfl⟩
theorem Jh {K:W.Frag}{h:Heap}{f:Addr}(X:K.In h)(e:W.isFn K (.ref f)=true):∃o,h.get? f=some o/\o.cls=.type "function":=by
 have e:W.typeIn K (.ref f)=some (.type "function"):=beq_iff_eq.mp e;obtain⟨o,z,hc⟩:=Option.map_eq_some_iff.mp (show(K.lookup f).map (·.cls)=_ from e);exact⟨o,X _ _ z,hc⟩
open W in
theorem Ji {K:Frag}{h:Heap}{N:Addr}{n:Str}{v:Value}(X:K.In h)(ok:nsOkIn K N=true)(e:nsIn K N n=some (some v)):h.nsMap N n=some v:=by
 obtain⟨o,es,Y,z,I,_,J⟩:h.Ns N (h.nsMap N):=.of_isNs (isNs_of_in X ok);unfold nsIn at e;split at e
 . rename_i c d U n' sl q;have:=X _ _ q;rw[z] at this
   cases this
   cases I;split at e
   . rename_i e' L
     cases e;rw[<-J];unfold nsFind findBy;rw[<-Q2p,L];rfl
   . split at e <;> cases e
 . cases e
open W in
noncomputable def uq (K:Frag) (C fI:Addr) (J:List Value) (z:String):Bool:=match K.lookup C with
 |some ⟨.type "type",_,.cls I,L⟩=>(match I.mro,L.toList with
  | .ref U::Y,[_,_,_,_,some (.builtin n),_]=>U == C && n == z && !I.hasDel && tailIn K J Y && nsOkIn K I.ns && nsIn K I.ns "__init__" == some (some (.ref fI))
  |_,_=>false)
 |_=>false
theorem Jj {K:W.Frag}{h:Heap}{C fI:Addr}{iN:List Value}{nid:String}(X:K.In h)(q:uq K C fI iN nid=true)(hf:W.isFn K (.ref fI)=true):k9 h C fI iN nid:=by
 unfold uq at q;split at q
 next dct L ac look=>
  split at q
  next D tl s0 s1 s2 s3 nm s5 J U=>
   obtain⟨q,I⟩:=Bool.and_eq_true_iff.mp q;obtain⟨q,ab⟩:=Bool.and_eq_true_iff.mp q;obtain⟨q,aa⟩:=Bool.and_eq_true_iff.mp q;obtain⟨q,z⟩:=Bool.and_eq_true_iff.mp q;obtain⟨hC,Y⟩:=Bool.and_eq_true_iff.mp q;have hC:=beq_iff_eq.mp hC;have Y:=beq_iff_eq.mp Y;have I:=beq_iff_eq.mp I
   have z:L.hasDel=false:=by
    cases e:L.hasDel with
    |false=>rfl
    |true=>rw[e] at z;cases z
   subst hC;subst Y;obtain⟨c1,c2,c3,c4,c5,c6,c7,c8,c9,ae,af⟩:=L;have J:c3=_:=J;have z:af=false:=z;subst J;subst z;obtain⟨sl⟩:=ac;have U:sl=_:=U;subst U;obtain⟨oI,hI,ag⟩:=Jh X hf;exact⟨tl,c4,c1,c5,c2,c6,c7,c8,c9,ae,dct,s0,s1,s2,s3,s5,_,oI,X _ _ look,.of_isNs (W.isNs_of_in X ab),Ji X ab I,W.tail_of_in X aa,hI,ag⟩
  next=>cases q
 next=>cases q
abbrev B2 (K:W.Frag) (C f:Addr) (I:Str):Prop:=uq K C f Bx "ValueError.__new__"=true/\W.keepIn K (.ref C)=true/\W.findIn K (.ref C) "__setattr__"=some (some (.builtin "object.__setattr__"))/\W.findIn K (.ref C) I=some none/\W.mroIn K C (.type "object")=some true/\((W.clsIn K C).any λz=>qQ z.mro && z.hasDict)=true/\W.findIn K (.ref C) "__getattribute__"=some (some (.builtin "BaseException.__getattribute__"))/\W.findIn K (.ref C) "__getattr__"=some none/\W.findIn K (.ref C) "__class__"=some (some (.builtin "object.__class__"))/\W.mroIn K C (.type "BaseException")=some true/\(W.clsIn K C).isSome=true/\W.typeIn K (.ref C)=some (.type "type")/\W.subIn K (.ref C) (.type "BaseException")=some true/\W.subIn K (.ref C) (.ref C)=some true
theorem Jk {K:W.Frag}{mg:Str->Option Value}{h base:Heap}{x:Str}{C f:Addr}(X:K.In h)(G:h.Ns mainGlobals mg)(X1:K.In base)(a:W.nsIn K mainGlobals x=some (some (.ref C)))(hf:W.isFn K (.ref f)=true)(e:B2 K C f "way"):By K mg base x C f:=by
 obtain⟨e1,e2,e3,e4,Y,e6,e7,e8,e9,I,z,J,L,U⟩:=e;exact⟨Jj X1 e1 hf,e2,W.mg_of X G a,⟨e3,e4,Y,e6⟩,⟨e7,e8,e9,Y,I,z⟩,J,z,L,U⟩
theorem Jl {K:W.Frag}{x Y:Str}{st:Stmt}{p1 p2:Str}{f T:Addr}{oc ab:Value}{od L ac:Option Addr}{aa ae:Array (Option Value)}{nT:Nat}{kV I U z ct u0:Value}
 (l:K.lookup f=some ⟨oc,od,.func (W.fnOf x Y (gG st) (gj st) (eP st) (.ref T) kV I U L z ct),aa⟩) (c:W.codeIn K z Y=true) (k:W.keepIn K (.ref f)=true) (lT:K.lookup T=some ⟨ab,ac,.seq #[u0] nT,ae⟩)
 (hb:∀(kV I U:Value) (L:Option Addr) (z ct J u2:Value),∃kk:Option (Array Value)->Sem (List (Str × Value)),bindArgs (W.fnOf x Y (gG st) (gj st) (eP st) (.ref T) kV I U L z ct) ⟨[J,u2],[]⟩=seqItems? (.ref T) >>= kk/\kk (some #[u0])=pure ([p1,p2].zip [J,u2]))
 (af:∀(kV I U:Value) (L:Option Addr) (z ct J:Value),∃kk:Option (Array Value)->Sem (List (Str × Value)),bindArgs (W.fnOf x Y (gG st) (gj st) (eP st) (.ref T) kV I U L z ct) ⟨[J],[]⟩=seqItems? (.ref T) >>= kk/\kk (some #[u0])=pure ([p1,p2].zip [J,u0])):
 uc K x Y [p1,p2] st f (W.fnOf x Y (gG st) (gj st) (eP st) (.ref T) kV I U L z ct)/\Binds K (W.fnOf x Y (gG st) (gj st) (eP st) (.ref T) kV I U L z ct) [p1,p2] [u0]:=by
 refine⟨⟨⟨⟨oc,od,.ref T,kV,I,U,L,z,ct,aa,rfl,l,c⟩,k⟩,λs us X hl=>?_⟩,λs us X hl=>?_⟩
 . obtain⟨J,u2,rfl⟩:∃J u2,us=[J,u2]:=by
    rw[Q0u] at hl;exact len2 hl
   obtain⟨kk,h1,h2⟩:=hb kV I U L z ct J u2;exact BindsTo.of_defaults rfl (X T _ lT) rfl h1 h2
 . obtain⟨J,rfl⟩:∃J,us=[J]:=by
    rw[Q0c] at hl;exact len1 (Nat.succ.inj hl)
   obtain⟨kk,h1,h2⟩:=af kV I U L z ct J;exact BindsTo.of_defaults rfl (X T _ lT) rfl h1 h2
theorem all_mk {l:W.OpenLaw}{w:World}{K:W.Frag}{h:Heap}{mg:Str->Option Value}{fa:Addr}(X:K.In h)(G:h.Ns mainGlobals mg)(cc:mg "law"=some (.ref fa))
 (ur:gc K "is_plain" (top 5))
 (uu:gc K "kind_at" (top 6))
 (uv:gc K "misfit" (top 8))
 (uw:gc K "record_misfit" (top 9))
 (ux:gc K "has_just" (top 10))
 (uy:gc K "rows_misfit" (top 11))
 (uz:gc K "is_pair" (top 12))
 (uA:gc K "tree_misfit" (top 13))
 (uB:gc K "either_misfit" (top 14))
 (uC:gc K "rank" (top 15))
 (uD:gc K "ask_fit" (top 18))
 (uE:gc K "ask_stands" (top 19))
 (uF:gc K "_law_next" (top 24))
 (uG:gc K "_law_number" (top 25))
 (uH:gc K "_law_word" (top 26))
 (uI:gc K "_law_names" (top 27))
 (uJ:gc K "_law_plain" (top 28))
 (uK:gc K "_law_fields" (top 29))
 (uL:gc K "_law_rows_kind" (top 30))
 (uM:gc K "_law_kind" (top 31))
 (uN:gc K "_law_rank" (top 32))
 (uO:gc K "_law_value" (top 34))
 (uP:gc K "_law_alike" (top 35))
 (uQ:gc K "_law_way" (top 36))
 (uR:gc K "_law_pool" (top 37))
 (uS:gc K "_law_spoilt" (top 39))
 (uT:gc K "_law_put" (top 40))
 (uU:gc K "_law_same_end" (top 41))
 (uV:gc K "_law_plains" (top 43))
 (uW:gc K "_law_view" (top 44))
 (uX:gc K "_law_wrong" (top 45))
 (uY:gc K "_law_puts" (top 46))
 (uZ:gc K "_law_round" (top 47))
 (u3:gc K "law" (top 48))
 {fR:Addr} {cd:Value} {ce bx:Option Addr} {bz bA bB br bC:Value} {cf:Array (Option Value)} (aR:W.nsIn K mainGlobals "_law_rows"=some (some (.ref fR))) (lR:K.lookup fR=some ⟨cd,ce,.func (W.fnOf "_law_rows" "_law_rows" (gG (top 33)) (gj (top 33)) (eP (top 33)) .none bz bA bB bx br bC),cf⟩) (u4:W.codeIn K br "_law_rows"=true) (kR:W.keepIn K (.ref fR)=true)
 {fS:Addr} {cg:Value} {ci bD:Option Addr} {bE bF bG bt bH:Value} {cj:Array (Option Value)} (aS:W.nsIn K mainGlobals "_law_some"=some (some (.ref fS))) (lS:K.lookup fS=some ⟨cg,ci,.func (W.fnOf "_law_some" "_law_some" (gG (top 38)) (gj (top 38)) (eP (top 38)) .none bE bF bG bD bt bH),cj⟩) (u5:W.codeIn K bt "_law_some"=true) (kS:W.keepIn K (.ref fS)=true)
 {fN:Addr} {cm:Value} {cn bI:Option Addr} {bJ bK bL bu bM:Value} {co:Array (Option Value)} (aN:W.nsIn K mainGlobals "in_order"=some (some (.ref fN))) (lN:K.lookup fN=some ⟨cm,cn,.func (W.fnOf "in_order" "in_order" (gG (top 16)) (gj (top 16)) (eP (top 16)) .none bJ bK bL bI bu bM),co⟩) (u6:W.codeIn K bu "in_order"=true) (kN:W.keepIn K (.ref fN)=true)
 {fO:Addr} {cp:Value} {cq bN:Option Addr} {bO bP bQ bv bR:Value} {cr:Array (Option Value)} (aO:W.nsIn K mainGlobals "_law_sorted"=some (some (.ref fO))) (lO:K.lookup fO=some ⟨cp,cq,.func (W.fnOf "_law_sorted" "_law_sorted" (gG (top 42)) (gj (top 42)) (eP (top 42)) .none bO bP bQ bN bv bR),cr⟩) (u7:W.codeIn K bv "_law_sorted"=true) (kO:W.keepIn K (.ref fO)=true)
 (zz:∀x∈(["len","isinstance","sorted","all","range","enumerate","zip","int","bool","str","list","tuple","dict","min"]:List Str),W.nsIn K mainGlobals x=some none)
 {I ag:Addr} {bd:Value} {be:Option Addr} {bf:Array (Option Value)} {aZ:ClassData}
 (u9:W.nsIn K mainGlobals "Order"=some (some (.ref I))) (B3:K.lookup I=some ⟨bd,be,.cls aZ,bf⟩) (B4:aZ.ns=ag)
 {a2 a6:Addr} {bh:Value} {bi:Option Addr} {bj:Array (Option Value)} {a7:ClassData}
 (B5:W.nsIn K mainGlobals "View"=some (some (.ref a2))) (B6:K.lookup a2=some ⟨bh,bi,.cls a7,bj⟩) (B7:a7.ns=a6)
 {al aM:Addr} {a8:Value} {a9:Option Addr} {ba:Array (Option Value)} {aP:ClassData}
 (u_:W.nsIn K mainGlobals "CantPut"=some (some (.ref al))) (B8:K.lookup al=some ⟨a8,a9,.cls aP,ba⟩) (B9:aP.ns=aM)
 {an:Addr} (qY:i5 K I ag "behind" "Order.behind" (ff 22 1) an)
 {aD:Addr} (qZ:i5 K I ag "see" "Order.see" (ff 22 2) aD)
 {aE:Addr} (q9:i5 K I ag "put" "Order.put" (ff 22 3) aE)
 {ar:Addr} (q_:i5 K I ag "keeps" "Order.keeps" (ff 22 4) ar)
 {aa:Addr} (ra:i5 K a2 a6 "grade" "View.grade" (ff 20 3) aa)
 {af:Addr} (rb:i5 K al aM "__init__" "CantPut.__init__" (ff 3 0) af)
 {fI bS:Addr} {nT:Nat} {cs:Tok} {cu cw cx cy cz bT cA:Value} {cC cD cE:Option Addr} {cF cG:Array (Option Value)} (aI:W.nsIn K ag "__init__"=some (some (.ref fI))) (lI:K.lookup fI=some ⟨cw,cD,.func (W.fnOf "__init__" "Order.__init__" (gG (ff 22 0)) (gj (ff 22 0)) (eP (ff 22 0)) (.ref bS) cx cy cz cE bT cA),cG⟩) (cI:W.codeIn K bT "Order.__init__"=true) (kI:W.keepIn K (.ref fI)=true) (lT:K.lookup bS=some ⟨cu,cC,.seq #[.str "" cs] nT,cF⟩) (iI:W.isFn K (.ref fI)=true) (gI:W.findIn K (.ref I) "__init__"=some (some (.ref fI)))
 (va:W.findIn K (.ref I) "by"=some none)
 (vb:W.findIn K (.ref I) "grade"=some (some (.ref aa)))
 (vc:Jg K I) (vd:B2 K al af "way")
 {cR PR:Addr} {bV:Value} {bW:Option Addr} {bn:Array Value} {bX:Array (Option Value)} (ve:br=.ref cR) (B_:K.lookup cR=some ⟨bV,bW,.fields bn,bX⟩) (Ca:bn[11]? =some (.ref PR)) (vf:W.codeHdIn K cR PR=true)
 {cS PS:Addr} {bY:Value} {bZ:Option Addr} {bo:Array Value} {b1:Array (Option Value)} (vg:bt=.ref cS) (Cb:K.lookup cS=some ⟨bY,bZ,.fields bo,b1⟩) (Cc:bo[11]? =some (.ref PS)) (vh:W.codeHdIn K cS PS=true)
 {cN PN:Addr} {b2:Value} {b3:Option Addr} {bp:Array Value} {b4:Array (Option Value)} (vi:bu=.ref cN) (Cd:K.lookup cN=some ⟨b2,b3,.fields bp,b4⟩) (Ce:bp[11]? =some (.ref PN)) (vj:W.codeHdIn K cN PN=true)
 {cO PO:Addr} {b5:Value} {b6:Option Addr} {bq:Array Value} {b7:Array (Option Value)} (vk:bv=.ref cO) (Cf:K.lookup cO=some ⟨b5,b6,.fields bq,b7⟩) (Cg:bq[11]? =some (.ref PO)) (vm:W.codeHdIn K cO PO=true)
 (vn:Fr PR PS PN PO)
 :∃fd:FuncData,(∀(s:Shared) (v:Value),BindsTo s fd ⟨[v],[]⟩ [("_law_script",v)])/\∀base:Heap,K.In base->base.Ns mainGlobals mg->BM mg base->eE l.prog w K mg base eI 133 fa fd ["_law_script"] (uo K PR PS PN PO):=by
 have zz:=λx hx=>W.mg_none_of X G (zz x hx);have T:Tb mg:=⟨zz _ (by simp),zz _ (by simp),zz _ (by simp),zz _ (by simp),zz _ (by simp),zz _ (by simp),zz _ (by simp),zz _ (by simp),zz _ (by simp),zz _ (by simp),zz _ (by simp),zz _ (by simp),zz _ (by simp),zz _ (by simp)⟩;obtain⟨_,_,aQ,_⟩:=gg (ps:=["kind"]) X G ur (λ_ _ _ _ _ _ _ h=>by obtain⟨_,rfl⟩:=len1 h;rfl);obtain⟨_,_,aC,_⟩:=gg (ps:=["fields","name"]) X G uu (λ_ _ _ _ _ _ _ h=>by obtain⟨_,_,rfl⟩:=len2 h;rfl);obtain⟨_,_,a1,_⟩:=gg (ps:=["kind","value"]) X G uv (λ_ _ _ _ _ _ _ h=>by obtain⟨_,_,rfl⟩:=len2 h;rfl);obtain⟨_,_,aK,_⟩:=gg (ps:=XQ) X G uw (λ_ _ _ _ _ _ _ h=>by obtain⟨_,_,rfl⟩:=len2 h;rfl);obtain⟨_,_,bb,_⟩:=gg (ps:=XQ) X G ux (λ_ _ _ _ _ _ _ h=>by obtain⟨_,_,rfl⟩:=len2 h;rfl);obtain⟨_,_,aV,_⟩:=gg (ps:=XY) X G uy (λ_ _ _ _ _ _ _ h=>by obtain⟨_,_,rfl⟩:=len2 h;rfl);obtain⟨_,_,bc,_⟩:=gg (ps:=["value"]) X G uz (λ_ _ _ _ _ _ _ h=>by obtain⟨_,rfl⟩:=len1 h;rfl);obtain⟨_,_,aW,_⟩:=gg (ps:=["kind","tree"]) X G uA (λ_ _ _ _ _ _ _ h=>by obtain⟨_,_,rfl⟩:=len2 h;rfl);obtain⟨_,_,aL,_⟩:=gg (ps:=["fields","value"]) X G uB (λ_ _ _ _ _ _ _ h=>by obtain⟨_,_,rfl⟩:=len2 h;rfl);obtain⟨_,_,a3,_⟩:=gg (ps:=["kind","row"]) X G uC (λ_ _ _ _ _ _ _ h=>by obtain⟨_,_,rfl⟩:=len2 h;rfl);obtain⟨_,_,aU,_⟩:=gg (ps:=["kind","seen"]) X G uD (λ_ _ _ _ _ _ _ h=>by obtain⟨_,_,rfl⟩:=len2 h;rfl);obtain⟨_,_,ax,_⟩:=gg (ps:=["stands"]) X G uE (λ_ _ _ _ _ _ _ h=>by obtain⟨_,rfl⟩:=len1 h;rfl);obtain⟨_,_,z,_⟩:=gg (ps:=XA) X G uF (λ_ _ _ _ _ _ _ h=>by obtain⟨_,_,rfl⟩:=len2 h;rfl);obtain⟨_,_,aX,_⟩:=gg (ps:=XA) X G uG (λ_ _ _ _ _ _ _ h=>by obtain⟨_,_,rfl⟩:=len2 h;rfl);obtain⟨_,_,a4,_⟩:=gg (ps:=XA) X G uH (λ_ _ _ _ _ _ _ h=>by obtain⟨_,_,rfl⟩:=len2 h;rfl);obtain⟨_,_,ab,_⟩:=gg (ps:=Xa) X G uI (λ_ _ _ _ _ _ _ h=>by obtain⟨_,_,_,rfl⟩:=oY h;rfl);obtain⟨_,_,ac,_⟩:=gg (ps:=XA) X G uJ (λ_ _ _ _ _ _ _ h=>by obtain⟨_,_,rfl⟩:=len2 h;rfl);obtain⟨_,_,aY,_⟩:=gg (ps:=XG) X G uK (λ_ _ _ _ _ _ _ h=>by obtain⟨_,_,_,_,rfl⟩:=lh h;rfl);obtain⟨_,_,J,_⟩:=gg (ps:=XG) X G uL (λ_ _ _ _ _ _ _ h=>by obtain⟨_,_,_,_,rfl⟩:=lh h;rfl);obtain⟨_,_,am,_⟩:=gg (ps:=XZ) X G uM (λ_ _ _ _ _ _ _ h=>by obtain⟨_,_,_,rfl⟩:=oY h;rfl);obtain⟨_,_,U,_⟩:=gg (ps:=XX) X G uN (λ_ _ _ _ _ _ _ h=>by obtain⟨_,_,rfl⟩:=len2 h;rfl);obtain⟨_,_,aj,_⟩:=gg (ps:=XI) X G uO (λ_ _ _ _ _ _ _ h=>by obtain⟨_,_,_,_,rfl⟩:=lh h;rfl);obtain⟨_,_,ak,_⟩:=gg (ps:=XE) X G uP (λ_ _ _ _ _ _ _ h=>by obtain⟨_,_,_,rfl⟩:=oY h;rfl);obtain⟨_,_,aT,_⟩:=gg (ps:=XV) X G uQ (λ_ _ _ _ _ _ _ h=>by obtain⟨_,_,rfl⟩:=len2 h;rfl);obtain⟨_,_,aF,_⟩:=gg (ps:=XS) X G uR (λ_ _ _ _ _ _ _ h=>by obtain⟨_,_,_,_,rfl⟩:=lh h;rfl);obtain⟨_,_,au,_⟩:=gg (ps:=XO) X G uS (λ_ _ _ _ _ _ _ h=>by obtain⟨_,_,_,_,rfl⟩:=lh h;rfl);obtain⟨_,_,ap,_⟩:=gg (ps:=XM) X G uT (λ_ _ _ _ _ _ _ h=>by obtain⟨_,_,_,_,rfl⟩:=lh h;rfl);obtain⟨_,_,Y,_⟩:=gg (ps:=XE) X G uU (λ_ _ _ _ _ _ _ h=>by obtain⟨_,_,_,rfl⟩:=oY h;rfl);obtain⟨_,_,av,_⟩:=gg (ps:=["_law_kind_here"]) X G uV (λ_ _ _ _ _ _ _ h=>by obtain⟨_,rfl⟩:=len1 h;rfl);obtain⟨_,_,aG,_⟩:=gg (ps:=Xf) X G uW (λ_ _ _ _ _ _ _ h=>by obtain⟨_,_,rfl⟩:=len2 h;rfl);obtain⟨_,_,ay,_⟩:=gg (ps:=XH) X G uX (λ_ _ _ _ _ _ _ h=>by obtain⟨_,_,rfl⟩:=len2 h;rfl);obtain⟨_,_,aH,_⟩:=gg (ps:=XJ) X G uY (λ_ _ _ _ _ _ _ h=>by obtain⟨_,_,_,_,_,rfl⟩:=B1 h;rfl);obtain⟨_,_,az,_⟩:=gg (ps:=XA) X G uZ (λ_ _ _ _ _ _ _ h=>by obtain⟨_,_,rfl⟩:=len2 h;rfl);obtain⟨_,_,bg,hB⟩:=gg (ps:=["_law_script"]) X G u3 (λ_ _ _ _ _ _ _ h=>by obtain⟨_,rfl⟩:=len1 h;rfl);subst ve
 have a5:Dn K mg "_law_rows" ia (top 33) fR (W.fnOf "_law_rows" "_law_rows" (gG (top 33)) (gj (top 33)) (eP (top 33)) .none bz bA bB bx (.ref cR) bC):=by
  have F:=oj (st:=(top 33)) lR u4 kR;exact⟨F,F.binds (λ_ _ _ _ _ _ _ h=>by obtain⟨_,_,_,_,rfl⟩:=lh h;rfl),W.mg_of X G aR⟩
 subst vg
 have aJ:Dn K mg "_law_some" oG (top 38) fS (W.fnOf "_law_some" "_law_some" (gG (top 38)) (gj (top 38)) (eP (top 38)) .none bE bF bG bD (.ref cS) bH):=by
  have F:=oj (st:=(top 38)) lS u5 kS;exact⟨F,F.binds (λ_ _ _ _ _ _ _ h=>by obtain⟨_,_,_,_,_,rfl⟩:=B1 h;rfl),W.mg_of X G aS⟩
 subst vi
 have aq:Dn K mg "in_order" jn (top 16) fN (W.fnOf "in_order" "in_order" (gG (top 16)) (gj (top 16)) (eP (top 16)) .none bJ bK bL bI (.ref cN) bM):=by
  have F:=oj (st:=(top 16)) lN u6 kN;exact⟨F,F.binds (λ_ _ _ _ _ _ _ h=>by obtain⟨_,_,rfl⟩:=len2 h;rfl),W.mg_of X G aN⟩
 subst vk
 have ah:Dn K mg "_law_sorted" jG (top 42) fO (W.fnOf "_law_sorted" "_law_sorted" (gG (top 42)) (gj (top 42)) (eP (top 42)) .none bO bP bQ bN (.ref cO) bR):=by
  have F:=oj (st:=(top 42)) lO u7 kO;exact⟨F,F.binds (λ_ _ _ _ _ _ _ h=>by obtain⟨_,_,rfl⟩:=len2 h;rfl),W.mg_of X G aO⟩
 obtain⟨_,L⟩:=nA (ps:=Xe) qY (λ_ _ _ _ _ _ _ h=>by obtain⟨_,_,rfl⟩:=len2 h;rfl);obtain⟨_,aA⟩:=nA (ps:=Xb) qZ (λ_ _ _ _ _ _ _ h=>by obtain⟨_,_,_,rfl⟩:=oY h;rfl);obtain⟨_,aB⟩:=nA (ps:=XW) q9 (λ_ _ _ _ _ _ _ h=>by obtain⟨_,_,_,_,rfl⟩:=lh h;rfl);obtain⟨_,ao⟩:=nA (ps:=Xh) q_ (λ_ _ _ _ _ _ _ h=>by obtain⟨_,_,rfl⟩:=len2 h;rfl);obtain⟨_,aw⟩:=nA (ps:=["self"]) ra (λ_ _ _ _ _ _ _ h=>by obtain⟨_,rfl⟩:=len1 h;rfl);obtain⟨_,ae⟩:=nA (ps:=["self","way"]) rb (λ_ _ _ _ _ _ _ h=>by obtain⟨_,_,rfl⟩:=len2 h;rfl);have e:=cc.symm.trans bg.m
 cases e;refine⟨_,λs v=>.of_eq (hB [v] rfl),λbase X1 _ bm=>?_⟩;have b8:=W.codeHd_of_K X1 vf;have b9:=W.codeHd_of_K X1 vh;have ca:=W.codeHd_of_K X1 vj;have cb:=W.codeHd_of_K X1 vm;obtain⟨t1,t2,t3,t4,t5,t6⟩:=vc;obtain⟨ai,B0⟩:=Jl (st:=(ff 22 0)) (p1:="self") (p2:="by") lI cI kI lT (λ_ _ _ _ _ _ _ _=>⟨_,rfl,rfl⟩) (λ_ _ _ _ _ _ _=>⟨_,rfl,rfl⟩)
 have MG:Meth K I "grade" aa:=by
  obtain⟨_,⟨_,_,_,_,_,_,_,_,_,_,_,k⟩,h1,_⟩:=ra;exact⟨vb,h1,k⟩
 have OF:lg K mg I fI an aD aE aa ar:=⟨⟨t1,t2,t3,t4⟩,va,⟨t5,gI,iI,t6⟩,W.mg_of X G u9,i5.meth qY,i5.meth qZ,i5.meth q9,MG,i5.meth q_⟩;have XC:=Jk X G X1 u_ rb.2.2.1 vd;have N0:=oK (P:=l.prog) (w:=w) (base:=base) T z;have N:=qy N0;have Nm:=Am T ab z N;have Pl:=sY T ac z N;have bU:=λd=>kind_all (P:=l.prog) (w:=w) (base:=base) T am z ac ab aY J d;have cH:=s_ 0 T J ab Nm z N ac Pl am (bU 0);have cJ:=s_ 1 T J ab Nm z N ac Pl am (bU 1);have cK:eE l.prog w K mg base eI 7 _ _ _ (um K):=(cH.mono (by decide)).or cJ;have V_:=AE (P:=l.prog) (w:=w) T aj a5 rfl b8 bm z aX a4 U 60;have M:=Bo (P:=l.prog) (w:=w) (base:=base) T a1 aK bb aV a3 aW bc aL aC;have AA:=Bj (P:=l.prog) (w:=w) (base:=base) T ak 15;have Ka:=A_ (P:=l.prog) (w:=w) (base:=base) T aC;have Rk:=Ay (P:=l.prog) (w:=w) (base:=base) T a3;have bw:=Ax (P:=l.prog) (w:=w) (base:=base) T U;have IO:=Gr T aq rfl ca bm a3 Rk;have LS:=Gs T ah rfl cb bm U bw;have SO:=Gw 60 T aJ rfl b9 bm z N0 U bw aj V_;have PO:=Hh 60 T aF aj V_;have IP:=HQ (P:=l.prog) (w:=w) (base:=base) T aQ;have AS:=HU (P:=l.prog) (w:=w) (base:=base) T ax;have cL:=HX (P:=l.prog) (w:=w) (base:=base) T OF ai;have GR:=HZ (P:=l.prog) (w:=w) (base:=base) T aw;have cM:=H_ (P:=l.prog) (w:=w) (base:=base) T ao;have OB:=Ib T OF L ax AS aQ IP aC Ka;have OS:=Ie T OF aA L OB aq IO;have cP:=Ih (P:=l.prog) (w:=w) T XC ae;have AF:=Ii 15 60 T XC aU a1 (M 15).1 ae cP;have OP:=Ij 15 60 T OF aB aU AF L OB aq IO (by decide);have LP:=Il 15 60 T OF XC ap aB OP;have WY:=Ir (P:=l.prog) (w:=w) (base:=base) T aT;have SE:=Iv 15 T Y aT WY ak AA;have cQ:=Iy (P:=l.prog) (w:=w) (base:=base) T av;have VW:=IA T OF aG ai cL B0 (.cons ⟨_,rfl⟩ .nil);have WR:=IC T ay U bw;have PU:=IG 15 60 T aH ap LP Y SE ah LS (by decide) (by decide);have SP:=IV 12 T au z N0;have RO:=Ja vn T OF az z N J cK aF (PO.mono (by decide)) aJ (SO.mono (by decide)) av cQ aG VW L OB aw GR ao cM aA OS ak AA ah LS Y SE ap (LP.mono (by decide)) au SP aH (PU.mono (by decide)) ay WR;exact Jd T bg az RO
theorem Jm {K:W.Frag}{x:Str}{f c P:Addr}{U I:Value}{Y J:Option Addr}{fd:FuncData}{sl L:Array (Option Value)}{z:Array Value}(a:W.nsIn K mainGlobals x=some (some (.ref f)))(l:K.lookup f=some ⟨U,Y,.func fd,sl⟩)(hc:fd.code=.ref c)
 (lc:K.lookup c=some ⟨I,J,.fields z,L⟩) (hP:z[11]? =some (.ref P)):W.tabIn K x=some (c,P):=by
 unfold W.tabIn;rw[a];dsimp only;rw[l];dsimp only;rw[hc];dsimp only;rw[lc];dsimp only;rw[hP]
def Jn (K:W.Frag) (z:List (Addr × Addr)):Sp:=λvs H Q _=>∃(a:Addr) (ns:List Int),vs=[.ref a]/\i2 K H a ns/\ns.length<=63/\(∀q∈z,H q.2=some (.gq #[]))/\∀H',Q (.bl true) H'
theorem i2.ofT {K:W.Frag}{H:Hp}{a:Addr}{ns:List Int}{I:List Addr}(o:pY I H)(h:eG K H a (ns.map V.int)):i2 K H a ns:=by
 rcases h with(h|h)|h
 . rcases o a with z|⟨J,xs,z⟩|⟨_,z⟩ <;> rw[h] at z <;> cases z
 . exact .inl h
 . exact .inr h
theorem walk {l:W.OpenLaw}{q:Program}{loose:List Str}{XP:(Str->Option Value)->Heap->Prop}{YP:World->Heap->Prop}{d:DefRec}{K:Params->W.Frag}(hn:l.most=some 63)(aa:d.params.defaults=[])
 (hY:∀(w:World) (h:Heap),YP w h->(K w.params).In h) (ab:∀w:World,W.noTabs (K w.params)=true) (L:∀y∈(Xg:List Str),∃d',(PyProof.Rows.recsOf q).find? (λe=>e.name == y)=some d')
 (F:∀w:World,∃c Pt U I Y P3 c4 J:Addr,W.tabIn (K w.params) "_law_rows"=some (c,Pt)/\W.tabIn (K w.params) "_law_some"=some (U,I)/\W.tabIn (K w.params) "in_order"=some (Y,P3)/\W.tabIn (K w.params) "_law_sorted"=some (c4,J)/\∀(mg:Str->Option Value) (fa:Addr) (h:Heap),(K w.params).In h->h.Ns mainGlobals mg->mg d.name=some (.ref fa)->
   ∃fd:FuncData,(∀(s:Shared) (u:Value),BindsTo s fd ⟨[u],[]⟩ [("_law_script",u)])/\∀base:Heap,(K w.params).In base->base.Ns mainGlobals mg->BM mg base->eE l.prog w (K w.params) mg base eI 133 fa fd ["_law_script"] (uo (K w.params) Pt I P3 J)):
 W.WalkO q loose XP YP l.row.toRowW d [] (λf vs=>PySem.call f vs):=
 L2.Fx (n:=63) (k:=133) (x:="_law_script") (names:=Xg) (sp:=λw z=>Jn (K w.params) z) hn (by decide) aa ⟨rfl,by decide,by decide⟩ hY ab (λw=>by
   obtain⟨c,Pt,U,I,Y,P3,c4,J,ht,jI,oM,vo,F⟩:=F w;refine⟨[(c,Pt),(U,I),(Y,P3),(c4,J)],λq' hq=>?_,λmg fa h X G hm=>?_⟩
   . simp only[Q2m,Q2n,or_false] at hq;rcases hq with e|e|e|e
     . exact⟨"_law_rows",by simp,by rw[e];exact ht⟩
     . exact⟨"_law_some",by simp,by rw[e];exact jI⟩
     . exact⟨"in_order",by simp,by rw[e];exact oM⟩
     . exact⟨"_law_sorted",by simp,by rw[e];exact vo⟩
   obtain⟨fd,hb,hF⟩:=F mg fa h X G hm;exact⟨fd,hb,λbase X1 G1 B=>(hF base X1 G1 B).imp λvs H Q E ⟨a,ns,e,hS,hl,hT,q⟩=>⟨a,ns,e,hS,hl,.inl (hT (c,Pt) (by simp)),.inl (hT (U,I) (by simp)),.inl (hT (Y,P3) (by simp)),.inl (hT (c4,J) (by simp)),q⟩⟩)
   L λw z H a ns hl hO ac ae=>⟨a,ns,rfl,i2.ofT hO ae,hl,ac,λ_=>rfl⟩
end Pb
open W PyProof.Rows
set_option maxRecDepth 100000 in
set_option maxHeartbeats 0 in
theorem PySem.Challenge.cw_putback_k42_order_holds : PySem.Challenge.rw_putback_k42_order.Holds := by
 w_on
 refine holds_law Pb.said λsaid=>?_;refine holds_open (q:=Pb.qv) (loose:=["Order"]) (Xt:=λs=>xlAt Pb.qv [] s && recOk (RowW.records (PySem.W.OpenRow.toRowW (PySem.W.OpenLaw.row PySem.Challenge.rw_putback_k42_order))) s) (XP:=XL Pb.qv []) (Yf:=Hook.obs (PySem.W.kmHook Pb.KK Pb.kE Pb.lx [135,314,369,407])) (Ya:=Hook.val (PySem.W.kmHook Pb.KK Pb.kE Pb.lx [135,314,369,407])) (YP:=Hook.says (PySem.W.kmHook Pb.KK Pb.kE Pb.lx [135,314,369,407])) (N:=11013) ?hl (Hook.of (PySem.W.kmHook Pb.KK Pb.kE Pb.lx [135,314,369,407])) (Hook.keeps (PySem.W.kmHook Pb.KK Pb.kE Pb.lx [135,314,369,407])) (λs e=>xl_of s (Bool.and_eq_true_iff.mp e).1) XL.keeps (by rfl) (by rfl) (by rfl) (λs e=>recFacts_of (Bool.and_eq_true_iff.mp e).2) (by rfl) (by first|assumption|decide +kernel) (by decide +kernel) ⟨rfl,rfl,rfl,rfl,rfl,by decide +kernel⟩ ?hw ?hc
 case hl=>exact Pb.Cj (by rfl) (by rfl) (λs=>rfl) (by rfl) (Q3n 22 Pb.rh).symm (λP=>by kernel_rfl) Pb.Ct (Pb.Ck Pb.Cu (Pb.Cm Pb.Cw Pb.Cy Pb.Cz))
 (case hw=>w_witness2)
 k_fill
 refine Pb.walk (l:=PySem.Challenge.rw_putback_k42_order) rfl rfl (λw h Y=>PySem.W.km_in_of Y) (λw=>by kernel_rfl) ?HR ?F
 case HR=>intro y hy;simp only[Q2m,Q2n,or_false] at hy;rcases hy with rfl|rfl|rfl|rfl <;> exact⟨_,rfl⟩
 case F=>
  intro w
  refine' ⟨_,_,_,_,_,_,_,_,?ht,?jI,?oM,?vo,?GG⟩
  case ht|jI|oM|vo=>
   refine' Pb.Jm ?ta ?tl ?tc ?Jo ?tP
   (case ta=>k_is);(case tl=>k_is);(case tc=>rfl);(case Jo=>k_is);(case tP=>rfl)
  case GG=>
   intro mg fa h KX G hmg
   refine' Pb.all_mk KX G hmg ?ur ?uu ?uv ?uw ?ux ?uy ?uz ?uA ?uB ?uC ?uD ?uE ?uF ?uG ?uH ?uI ?uJ ?uK ?uL ?uM ?uN ?uO ?uP ?uQ ?uR ?uS ?uT ?uU ?uV ?uW ?uX ?uY ?uZ ?u3 ?aR ?lR ?u4 ?kR ?aS ?lS ?u5 ?kS ?aN ?lN ?u6 ?kN ?aO ?lO ?u7 ?kO ?zz ?u9 ?B3 ?B4 ?B5 ?B6 ?B7 ?u_ ?B8 ?B9 ?qY ?qZ ?q9 ?q_ ?ra ?rb ?aI ?lI ?cI ?kI ?lT ?iI ?gI ?va ?vb ?vc ?vd ?ve ?B_ ?Ca ?vf ?vg ?Cb ?Cc ?vh ?vi ?Cd ?Ce ?vj ?vk ?Cf ?Cg ?vm ?vn
   case ur|uu|uv|uw|ux|uy|uz|uA|uB|uC|uD|uE|uF|uG|uH|uI|uJ|uK|uL|uM|uN|uO|uP|uQ|uR|uS|uT|uU|uV|uW|uX|uY|uZ|u3=>
    refine' Pb.Je ?a ?l ?c ?k
    (case a=>k_is);(case l=>k_is);(case c=>k_is);(case k=>k_is)
   (case aR=>k_is);(case lR=>k_is);(case u4=>k_is);(case kR=>k_is)
   (case aS=>k_is);(case lS=>k_is);(case u5=>k_is);(case kS=>k_is)
   (case aN=>k_is);(case lN=>k_is);(case u6=>k_is);(case kN=>k_is)
   (case aO=>k_is);(case lO=>k_is);(case u7=>k_is);(case kO=>k_is)
   case zz=>intro x hx;simp only[Q2m,Q2n,or_false] at hx;rcases hx with rfl|rfl|rfl|rfl|rfl|rfl|rfl|rfl|rfl|rfl|rfl|rfl|rfl|rfl <;> k_is
   (case u9=>k_is);(case B3=>k_is);(case B4=>rfl)
   (case B5=>k_is);(case B6=>k_is);(case B7=>rfl)
   (case u_=>k_is);(case B8=>k_is);(case B9=>rfl)
   case qY|qZ|q9|q_|ra|rb=>
    refine' Pb.Jf ?a ?l ?c ?k ?f ?g
    (case a=>k_is);(case l=>k_is);(case c=>k_is);(case k=>k_is);(case f=>kernel_rfl);(case g=>kernel_rfl)
   case va|vb=>kernel_rfl
   (case aI=>k_is);(case lI=>k_is);(case cI=>k_is);(case kI=>k_is);(case lT=>k_is);(case iI=>kernel_rfl);(case gI=>kernel_rfl)
   case vc=>refine⟨?_,?_,?_,?_,?_,?_⟩ <;> kernel_rfl
   case vd=>refine⟨?_,?_,?_,?_,?_,?_,?_,?_,?_,?_,?_,?_,?_,?_⟩ <;> kernel_rfl
   (case ve=>rfl);(case B_=>k_is);(case Ca=>rfl);(case vf=>kernel_rfl)
   (case vg=>rfl);(case Cb=>k_is);(case Cc=>rfl);(case vh=>kernel_rfl)
   (case vi=>rfl);(case Cd=>k_is);(case Ce=>rfl);(case vj=>kernel_rfl)
   (case vk=>rfl);(case Cf=>k_is);(case Cg=>rfl);(case vm=>kernel_rfl)
   (case vn=>exact⟨by decide,by decide,by decide,by decide,by decide,by decide⟩)
