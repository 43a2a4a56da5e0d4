import PyProof.Rows.All
import Wide.All
import OpenK.AllK
import Wide.FinOn
import Lean
import PyProof.EqAt
import PyProof.EqKinds
import PyProof.TupleCall
import KE.KSortAsk
import PyProof.NeKinds
import PyProof.StationsW
import PyProof.ExcClass3
import PyProof.Rows.Own
import PyProof.NsDelKeeps
import KE.KIsAll
import PyProof.ExcAttrAll.ValueError
import PyProof.IsiH_list
import PyProof.Rows.FStr
import PyProof.FString4
import PyProof.StrLawsRepr
import PyProof.Rows.StrMeet
import PyProof.ExcInit
import PyProof.InstStoreFacts
import PyProof.Rows.SetFrom
import PyProof.Draws
import KE.KDictOf
import PyProof.DictUpdate
import KE.KRevIter
import PySem.Challenge.RW_putback_k56_top_and_boughs
abbrev XA:List PySem.Str:=["_law_script","_law_at","_law_m","_law_fields_here","_law_kind_here","_law_names_here","_law_part","_law_begun","_law_grown_here","_law_sources","_law_seen_here","_law_again","_law_twins","_law_twin","_law_view","_law_k","_law_due","_law_shown_here"]
abbrev XB:List PySem.Str:=["_law_pair","_law_script","_law_at","_law_m","_law_fields_here","_law_kind_here","_law_names_here","_law_part","_law_begun","_law_grown_here","_law_sources","_law_seen_here","_law_again","_law_twins","_law_twin","_law_view","_law_k","_law_due","_law_shown_here"]
abbrev XD:List PySem.Str:=["_law_a","_law_b","_law_kind_here","_law_found","_law_due","_law_name","_law_inner"]
abbrev XE:List PySem.Str:=["self","kind","source","seen"]
abbrev XF:List PySem.Str:=["self","kind","source"]
abbrev XG:List PySem.Str:=["_law_script","_law_at"]
abbrev XH:List PySem.Str:=["_law_kind_here","_law_found","_law_due","_law_name","_law_inner"]
abbrev XI:List PySem.Str:=["_law_script","_law_at","_law_many","_law_deep"]
abbrev XJ:List PySem.Str:=["_law_script","_law_at","_law_kind_here","_law_grown_here"]
abbrev XM:List PySem.Str:=["_law_script","_law_at","_law_kind_here","_law_room"]
abbrev XO:List PySem.Str:=["self","kind"]
abbrev XQ:List PySem.Str:=["_law_fields_here","_law_names_here","_law_tree","_law_seen_here"]
abbrev XR:List PySem.Str:=["_law_script","_law_at","_law_kind_here","_law_room","_law_made","_law_name","_law_inner","_law_top_here","_law_many"]
abbrev XS:List PySem.Str:=["fields","record"]
abbrev XT:List PySem.Str:=["_law_script","_law_at","_law_kind_here","_law_most"]
abbrev XU:List PySem.Str:=["_law_script","_law_at","_law_kind_here","_law_room","_law_rows_here","_law_seen_here","_law_k","_law_row"]
abbrev XV:List PySem.Str:=["self","name"]
abbrev XW:List PySem.Str:=["_law_kind_here","_law_tree","_law_value_here"]
abbrev XX:List PySem.Str:=["_law_kind_here","_law_row"]
abbrev XY:List PySem.Str:=["_law_script","_law_at","_law_names_here"]
abbrev XZ:List PySem.Str:=["_law_kind_here","_law_found","_law_due"]
abbrev Xa:List PySem.Str:=["ahead","inner","kind","source","seen"]
abbrev Xb:List PySem.Str:=["self","ahead","kind","source","seen"]
abbrev Xc:List PySem.Str:=["_law_script","_law_at","_law_deep"]
abbrev Xd:List PySem.Str:=["_law_script","_law_at","_law_many"]
abbrev Xe:List PySem.Str:=["_law_k","_law_name","_law_script","_law_at","_law_names_here","_law_m"]
abbrev Xf:List PySem.Str:=["fields","names"]
abbrev Xg:List PySem.Str:=["_law_script","_law_at","_law_many","_law_deep","_law_names_here"]
abbrev Xh:List PySem.Str:=["kind","names"]
abbrev Xi:List PySem.Str:=["_law_names_here","_law_tree"]
abbrev Xj:List PySem.Str:=["_law_names_here","_law_tree","_law_row","_law_name"]
abbrev Xk:List PySem.Str:=["_law_script","_law_at","_law_names_here","_law_m"]
abbrev Xl:List PySem.Str:=["self","names"]
abbrev Xm:List PySem.Str:=["ahead","inner","kind"]
abbrev Xn:List PySem.Str:=["self","inner"]
theorem zzx {α:Sort _}{β:α->Sort _}{γ:∀a,β a->Sort _}{δ:∀a b,γ a b->Sort _}{p:∀a b c,δ a b c->Prop}{G:Prop}(h:∃a b c d,p a b c d)(k:∀a b c d,p a b c d->G):G:=let⟨a,b,c,d,e⟩:=h;k a b c d e
theorem zza {A B C D E G:Prop}(h:A/\B/\C/\D/\E)(k:A->B->C->D->E->G):G:=k h.1 h.2.1 h.2.2.1 h.2.2.2.1 h.2.2.2.2
local macro_rules|`(tactic|obtain⟨$s,*⟩:=$t)=>do
 let a:=s.getElems;if a.size<6 then Lean.Macro.throwUnsupported
 let b:=a.extract 4 a.size;let q←(a.extract 0 4).mapM λp=>`(rintroPat|($p:rcasesPatLo));let c←match t with|`($x:ident)=>`(tactic|try clear $x)|_=>`(tactic|skip)
 `(tactic|((first|refine zzx $t ?_|refine zza $t ?_);$c;rintro $q* e;obtain⟨$b,*⟩:=e))
open Nat renaming le_refl→Q00,ne_of_lt→Q0a,zero_le→Q0d,lt_of_lt_of_le→Q0e,le_trans→Q0g,lt_irrefl→Q0o,le_of_lt→Q0q,ne_of_gt→Q0r,le_of_eq→Q10,le_succ→Q11,mul_le_mul_right→Q12,lt_succ_self→Q13,le_of_not_lt→Q19,lt_of_le_of_lt→Q1d,le_add_right→Q1o,succ_mul→Q1p,add_le_add_left→Q1y,lt_succ_of_lt→Q2h,le_max_left→Q2j,le_max_right→Q2k,succ_le_succ→Q2o,not_lt_zero→Q2y,mul_left_comm→Q34,add_le_add_right→Q39,mul_le_mul_left→Q3c,le_mul_of_pos_right→Q3e,sub_succ_lt_self→Q3g
open PySem renaming wpAny_bind→Q01,wpAny_pure→Q0c,wpAny_mono→Q0n
open List renaming mem_cons_self→Q02,length_map→Q04,getElem?_eq_getElem→Q05,mem_cons_of_mem→Q06,size_toArray→Q08,length_append→Q09,mem_append_right→Q0b,getD_eq_getElem?_getD→Q0f,length_cons→Q0h,getElem?_map→Q0j,map_append→Q0m,length_take→Q0p,append_nil→Q0s,take_succ→Q0t,mem_append_left→Q0u,mem_cons→Q0v,map_cons→Q0w,mem_of_getElem?→Q0x,getElem_of_mem→Q0y,take_of_length_le→Q0z,nodup_nil→Q15,length_replicate→Q17,length_singleton→Q18,all_eq_true→Q1a,any_cons→Q1b,find?_cons→Q1c,map_congr_left→Q1e,append_assoc→Q1f,filter_cons→Q1g,length_reverse→Q1h,length_drop→Q1j,lookup_cons→Q1l,getElem_mem→Q1m,mem_append→Q1q,mem_singleton→Q1r,not_mem_nil→Q1s,map_map→Q1t,length_mapIdx→Q1u,getElem_inj→Q1v,of_mem_zip→Q1w,pairwise_map→Q1z,length_range→Q2,mem_map_of_mem→Q20,foldl_cons→Q21,getElem_take→Q23,cons_append→Q24,filterMap_cons→Q26,getElem?_set_self→Q27,getElem?_set_ne→Q28,getElem?_append_right→Q29,all_cons→Q2a,length_nil→Q2b,getElem_map→Q2d,ext_getElem→Q2e,pairwise_singleton→Q2f,zip_cons_cons→Q2i,take_length→Q2m,any_map→Q2n,getElem?_mapIdx→Q2p,map_reverse→Q2q,getElem?_replicate→Q2s,getElem?_append_left→Q2t,take_sublist→Q2u,forIn_cons→Q2w,lt_irrefl→Q32,perm_cons→Q33,replicate_succ→Q35,mem_nil_iff→Q36,range_succ→Q38,flatten_append→Q3d,eq_of_mem_replicate→Q3f,filter_append→Q3h,length_zip→Q3i,length_filter_le→Q3j,getElem?_eq_none→Q3k,reverse_cons→Q3l,reverse_perm→Q3m
open PySem.Heap renaming lt_size→Q03,get?_push_of_some→Q07,get?_push_size→Q0i,get?_update_other→Q14,size_push→Q16,get?_update_self→Q1k,size_update→Q2g,get?_push_ne→Q30
open Int renaming emod_nonneg→Q0k,emod_lt_of_pos→Q0l,toNat_natCast→Q1x,mul_le_mul_of_nonneg_right→Q22,mul_le_mul→Q25,add_mul→Q2l,lt_of_lt_of_le→Q37,mul_nonneg→Q3a,natCast_add→Q3b
open Array renaming length_toList→Q1i,getD_eq_getD_getElem?→Q1n,empty_append→Q2r,getElem?_eq_getElem→Q2z,size_append→Q3,forIn_toList→Q31
open Option renaming isSome_map→Q2c,getD_none→Q2v,getD_some→Q2x
set_option genSizeOf false
set_option Elab.async false
set_option linter.all false
set_option maxRecDepth 100000
set_option maxHeartbeats 4000000
open PySem
theorem yh:2<=PySem.sizeLine:=by decide
namespace L2
open Spec PyProof.Rows
noncomputable def j1 (s:Stmt):Arguments:=match s with
 | .FunctionDef _ a _ _ _ _ _ _ _ _=>a
 |_=>{ posonlyargs:=[],args:=[],vararg:=none,kwonlyargs:=[],kw_defaults:=[],kwarg:=none,defaults:=[] }
noncomputable def jz (s:Stmt):List Stmt:=match s with
 | .FunctionDef _ _ b _ _ _ _ _ _ _=>b
 |_=>[]
noncomputable def gC (s:Stmt):Scope:=match s with
 | .FunctionDef _ _ _ _ _ _ sc _ _ _=>sc
 |_=>{ kind:=.function,names:=[],isGenerator:=false,isCoroutine:=false }
end L2
namespace Pb
open L2
noncomputable def top (i:Nat):Stmt:=PySem.Challenge.pw_putback_k56_top_and_boughs.main.body.getD i (.Pass ⟨0,0,0,0⟩)
noncomputable def gw (i j:Nat):Stmt:=match top i with
 | .ClassDef _ _ _ body _ _ _ _ _ _ _=>body.getD j (.Pass ⟨0,0,0,0⟩)
 |_=>.Pass ⟨0,0,0,0⟩
end Pb
namespace Pb
open W
noncomputable def treeOf:List Obj->Nat->BT->Option BT
 |[],_,t=>some t
 |o::l,n,t=>match((t.ins n o).get n).isSome with
  |true=>treeOf l (n+1) (t.ins n o)
  |false=>none
theorem yi {life:Life}:∀(l:List Obj) (n:Nat) (t t':BT),treeOf l n t=some t'->absHeap t' (n+l.length) life=⟨(absHeap t n life).objs++l.toArray,life⟩
 |[],n,t,t',h=>by
  cases h;show absHeap t n life=_;have:(absHeap t n life).objs++#[]=(absHeap t n life).objs:=Array.append_empty;rw[this];rfl
 |o::l,n,t,t',h=>by
  unfold treeOf at h
  cases e:((t.ins n o).get n).isSome with
  |false=>rw[e] at h;cases h
  |true=>
   rw[e] at h;have:=yi (life:=life) l (n+1) _ t' h;rw[absHeap_ins e] at this;have J:n+(o::l).length=n+1+l.length:=by rw[Q0h];omega
   rw[J,this];show Heap.mk ((absHeap t n life).objs.push o++l.toArray) life=_;congr 1;apply Array.ext';simp
noncomputable def p0 (tb:String->Option Builtin) (p:Program) (w:World) (J:Nat) (L:Option Value):Nat->SharedT->Thread->Option SharedT
 |0,_,_=>none
 |n+1,s,t=>match through t with
  |true=>some s
  |false=>match stepOk J L t with
   |false=>none
   |true=>match stepT (denote tb) p w s t with
    |some (s',t')=>p0 tb p w J L n s' t'
    |none=>none
theorem yj {tb:String->Option Builtin}{p:Program}{w:World}{J:Nat}{L:Option Value}:∀{n:Nat}{s s':SharedT}{t:Thread},p0 tb p w J L n s t=some s'->topRun tb p w J L n s.abs t=some s'.abs
 |0,_,_,_,h=>by cases h
 |n+1,s,s',t,h=>by
  unfold p0 at h;unfold topRun
  cases Y:through t with
  |true=>rw[Y] at h;cases h;rfl
  |false=>
   rw[Y] at h
   cases hk:stepOk J L t with
   |false=>rw[hk] at h;cases h
   |true=>
    rw[hk] at h
    cases U:stepT (denote tb) p w s t with
    |none=>rw[U] at h;cases h
    |some r=>obtain⟨aa,ab⟩:=r;rw[U] at h;rw[stepT_spec U];exact yj h
noncomputable abbrev nS:=@W.Fast.tw10156331382660048174
noncomputable abbrev ll:=@W.Fast.tw11892475500146522536
noncomputable abbrev lu:=@W.Fast.tw14364793385576792824
noncomputable abbrev p6:=@W.Fast.tw6613529449190102663
noncomputable abbrev seenQ:=@W.Fast.tw4187177175401517315
noncomputable def nU (p:Program) (w:World) (J:Nat) (L:Option Value):Nat->SharedT->Thread->Option SharedT
 |0,_,_=>none
 |n+1,s,t=>match through t with
  |true=>some s
  |false=>match p6 J L t with
   |false=>none
   |true=>match nS (ll lu) p w s t with
    |some (s',t')=>nU p w J L n s' t'
    |none=>none
theorem yk {p:Program}{w:World}{J:Nat}{L:Option Value}:∀(n:Nat) (s:SharedT) (t:Thread),nU p w J L n s t=p0 treeTable p w J L n s t
 |0,_,_=>rfl
 |n+1,s,t=>by
  unfold nU p0;have U:p6 J L t=stepOk J L t:=congrFun (congrFun (congrFun W.Fast.te6613529449190102663.symm _) _) _;have Y:nS (ll lu) p w s t=stepT (denote treeTable) p w s t:=by rw[show @nS=@stepT from W.Fast.te10156331382660048174.symm,show @ll=@denote from W.Fast.te11892475500146522536.symm,show @lu=@treeTable from W.Fast.te14364793385576792824.symm]
  rw[U,Y];simp only[yk n]
noncomputable def looksAt (p q:Program) (loose:List Str) (Xt:Shared->Bool) {α:Type}(Yf:Shared->α) (g0:Bool) (h₀:Heap) (s:Shared):=
 ((staticsOk (importedModules p.main.body) h₀ s.heap && namesBound p s.heap && gensDone s && laidKept h₀ s.heap),seenQ q loose (importedModules p.main.body) Xt g0 s,Yf s)
noncomputable def yl:List (Nat × Obj)->BT->BT
 |[],t=>t
 |(a,o)::l,t=>yl l (t.ins a o)
noncomputable def uw:Nat->List Obj->BT->BT
 |_,[],t=>t
 |n,o::l,t=>uw (n+1) l (t.ins n o)
noncomputable def p7 (p:Program) (w:World) (J:Nat) (L:Option Value):Nat->SharedT->Thread->Option (Flow × SharedT × Code × Pos)
 |0,_,_=>none
 |n+1,s,t=>match endAt 1 t with
  |some f=>some (f,s,t.code,t.pos)
  |none=>match p6 J L t with
   |false=>none
   |true=>match nS (ll lu) p w s t with
    |some (s',t')=>p7 p w J L n s' t'
    |none=>none
theorem ym (J:Nat)(L:Option Value)(t:Thread):p6 J L t=stepOk J L t:=congrFun (congrFun (congrFun W.Fast.te6613529449190102663.symm _) _) _
theorem yn:@ll lu=denote treeTable:=by rw[show @ll=@denote from W.Fast.te11892475500146522536.symm,show @lu=@treeTable from W.Fast.te14364793385576792824.symm]
theorem yo (p:Program)(w:World)(s:SharedT)(t:Thread):nS (ll lu) p w s t=stepT (denote treeTable) p w s t:=by rw[show @nS=@stepT from W.Fast.te10156331382660048174.symm,yn]
theorem yp {p:Program}{w:World}{J:Nat}{L:Option Value}:∀(n:Nat) (s:SharedT) (t:Thread),p7 p w J L n s t=segRunT treeTable p w J L 1 n s t
 |0,_,_=>rfl
 |n+1,s,t=>by
  unfold p7 segRunT;rw[ym,yo]
  cases endAt 1 t with
  |some f=>rfl
  |none=>
   cases stepOk J L t with
   |false=>rfl
   |true=>
    cases stepT (denote treeTable) p w s t with
    |none=>rfl
    |some r=>obtain⟨s',t'⟩:=r;exact yp n s' t'
noncomputable def p8 (tb:String->Option Builtin) (p:Program) (w:World) (J:Nat) (L:Option Value):Nat->SharedT->Thread->Option (SharedT × Thread)
 |0,s,t=>some (s,t)
 |n+1,s,t=>match through t with
  |true=>none
  |false=>match stepOk J L t with
   |false=>none
   |true=>match stepT (denote tb) p w s t with
    |some (s',t')=>p8 tb p w J L n s' t'
    |none=>none
theorem yq {tb:String->Option Builtin}{p:Program}{w:World}{J:Nat}{L:Option Value}:∀{n:Nat}{s s':SharedT}{t t':Thread},p8 tb p w J L n s t=some (s',t')->topGo tb p w J L n s.abs t=some (s'.abs,t')
 |0,s,s',t,t',h=>by
  have h:some (s,t)=some (s',t'):=h
  cases h;rfl
 |n+1,s,s',t,t',h=>by
  unfold p8 at h;unfold topGo
  cases Y:through t with
  |true=>rw[Y] at h;cases h
  |false=>
   rw[Y] at h
   cases hk:stepOk J L t with
   |false=>rw[hk] at h;cases h
   |true=>
    rw[hk] at h
    cases U:stepT (denote tb) p w s t with
    |none=>rw[U] at h;cases h
    |some r=>obtain⟨aa,ab⟩:=r;rw[U] at h;rw[stepT_spec U];exact yq h
noncomputable def rb (p:Program) (w:World) (J:Nat) (L:Option Value):Nat->SharedT->Thread->Option (SharedT × Thread)
 |0,s,t=>some (s,t)
 |n+1,s,t=>match through t with
  |true=>none
  |false=>match p6 J L t with
   |false=>none
   |true=>match nS (ll lu) p w s t with
    |some (s',t')=>rb p w J L n s' t'
    |none=>none
theorem yr {p:Program}{w:World}{J:Nat}{L:Option Value}:∀(n:Nat) (s:SharedT) (t:Thread),rb p w J L n s t=p8 treeTable p w J L n s t
 |0,_,_=>rfl
 |n+1,s,t=>by
  unfold rb p8;rw[ym,yo];simp only[yr n]
noncomputable def rf (p:Program) (w:World) (J:Nat) (L:Option Value) (env:Env) (c:Code) (q0:Pos) (l:List Stmt) (Y k2 k3:Nat) (s:SharedT):Option (Thread × Code × Code × SharedT × Pos):=
 match rb p w J L Y s (topStub p) with
 |none=>none
 |some (s1,U)=>match p7 p w J L k2 s1 (blockOf (behindTheImports p) env c U.pos [topFrame q0]) with
  |some (.next,s2,c2,p2)=>(match p7 p w J L k3 s2 (piecesOf l env c p2 [topFrame q0]) with
   |some (.next,s3,c3,p3)=>some (U,c2,c3,s3,p3)
   |_=>none)
  |_=>none
theorem Gh {p:Program}{w:World}{J:Nat}{L:Option Value}{env:Env}{c:Code}{q0 U Y:Pos}{l rest:List Stmt}{k1 k2 k3 N:Nat}{s s3:SharedT}{r:Shared}(hb:behindTheImports p=l++rest)
 (h:rf p w J L env c q0 l k1 k2 k3 s=some (⟨ll lu (.body (behindTheImports p) env),c,U,[topFrame q0]⟩,c,c,s3,Y))
 (k:topRun treeTable p w J L N s3.abs (restOf rest env c Y [topFrame q0])=some r):topRun treeTable p w J L (k1+(k2+(k3+N))) s.abs (topStub p)=some r:=by
 unfold rf at h;split at h
 . cases h
 next s1 t1 e1=>
  split at h
  next s2 c2 p2 e2=>
   split at h
   next aa c3 ab e3=>
    cases h;rw[yr] at e1;rw[yp] at e2 e3;have g1:=yq e1;rw[yn] at g1;have g3:=piece_app (rest:=rest) (segRun_of e3) k;rw[<-hb] at g3;exact go_top g1 (piece_block (segRun_of e2) g3)
   . cases h
  . cases h
noncomputable def ux (P:Params):BT:=(treeOf (boot_heap P).objs.toList 0 .nil).getD .nil
noncomputable def rg (w:World) (os:OsState):SharedT:=⟨ux w.params,(boot_heap w.params).objs.size,(boot_heap w.params).life,#[],boot_drawn,boot_toks,os⟩
theorem Gi {p q:Program}{loose:List Str}{Xt:Shared->Bool}{α:Type}{Yf:Shared->α}{Ya:World->α}{N:Nat}{g0:Bool}{env:Env}{c:Code}{q0 U p3:Pos}{l rest:List Stmt}{k1 k2 k3 N4 J:Nat}{L:Option Value}{S3:World->OsState->SharedT}
 (e:opening p=plainProg p.main.scope.names) (hN:Nat.ble 600 N=true) (f:∀s,fenceModules? p s=some s) (ab:N=k1+(k2+(k3+N4))) (hb:behindTheImports p=l++rest)
 (b0:∀P:Params,((boot_heap P).isNs mainGlobals,(treeOf (boot_heap P).objs.toList 0 .nil).isSome,(boot_heap P).objs.size,(boot_heap P).nsMap mainGlobals "__annotations__")=(true,true,J,L))
 (Y:∀w os,rf p w J L env c q0 l k1 k2 k3 (rg w os)=some (⟨ll lu (.body (behindTheImports p) env),c,U,[topFrame q0]⟩,c,c,S3 w os,p3))
 (aa:∀w os,((nU p w J L N4 (S3 w os) (restOf rest env c p3 [topFrame q0])).map λ(s:SharedT)=>looksAt p q loose Xt Yf g0 (boot_heap w.params) s.abs)=some (true,openGood q loose,Ya w)):LeftO p q loose Xt Yf Ya N g0:=λw=>by
 obtain⟨⟨h,gs,d,k,os⟩,e1,e'⟩:=Option.map_eq_some_iff.mp (boot_open e hN f w);obtain⟨rfl,rfl,rfl,rfl⟩:h=boot_heap w.params/\gs=Array.mk []/\d=boot_drawn/\k=boot_toks:=by simpa using e'
 have ac:=b0 w.params;obtain⟨z,y0,hsz,ae⟩:_/\_/\_/\_:=by simpa only[Prod.mk.injEq] using ac
 obtain⟨T,y⟩:=Option.isSome_iff_exists.mp y0;obtain⟨s,r1,r2⟩:=Option.map_eq_some_iff.mp (aa w os);rw[yk] at r1;have r3:=Gh hb (Y w os) (yj r1);rw[<-ab] at r3;have hT:=yi (life:=(boot_heap w.params).life) _ _ _ _ y
 have hS:SharedT.abs (rg w os)=⟨boot_heap w.params,#[],boot_drawn,boot_toks,os⟩:=by
  unfold SharedT.abs rg ux;dsimp only;rw[y];dsimp only[Option.getD];rw[Nat.zero_add,Q1i] at hT;rw[hT];have e0:(absHeap BT.nil 0 (boot_heap w.params).life).objs=#[]:=rfl;rw[e0,Q2r,Array.toArray_toList]
 rw[hS] at r3
 have t:topFrom treeTable p w N ⟨boot_heap w.params,#[],boot_drawn,boot_toks,os⟩=some s.abs:=by
  unfold topFrom;dsimp only;rw[z,hsz,ae,r3];have l1:=congrArg (λz=>z.1) r2;dsimp only[looksAt] at l1;show(match staticsOk (importedModules p.main.body) (boot_heap w.params) s.abs.heap && namesBound p s.abs.heap && gensDone s.abs && laidKept (boot_heap w.params) s.abs.heap with|true=>_|false=>_)=_;rw[l1]
 unfold openEnds;rw[e1];show(topFrom treeTable p w N _).map _=_;rw[t];have l2:=congrArg (λz=>z.2) r2;dsimp only[looksAt] at l2;rw[show @seenQ=@openSeen from W.Fast.te4187177175401517315.symm] at l2;exact congrArg some l2
theorem Gj {p q:Program}{loose:List Str}{Xt:Shared->Bool}{α:Type}{Yf:Shared->α}{Ya:World->α}{g0:Bool}{U J:Nat}{L:Option Value}{Y S5:World->OsState->SharedT}{t:Thread}
 (b:∀w os,nU p w J L U (Y w os) t=some (S5 w os)) (l:∀w os,looksAt p q loose Xt Yf g0 (boot_heap w.params) (S5 w os).abs=(true,openGood q loose,Ya w)):
 ∀w os,((nU p w J L U (Y w os) t).map λ(s:SharedT)=>looksAt p q loose Xt Yf g0 (boot_heap w.params) s.abs)=some (true,openGood q loose,Ya w):=λw os=>by
 rw[b];exact congrArg some (l w os)
theorem Gk {p q:Program}{loose:List Str}{Xt:Shared->Bool}{α:Type}{Yf:Shared->α}{Ya:World->α}{g0:Bool}{J:World->OsState->SharedT}
 (L:∀w os,(staticsOk (importedModules p.main.body) (boot_heap w.params) (J w os).abs.heap && namesBound p (J w os).abs.heap && gensDone (J w os).abs && laidKept (boot_heap w.params) (J w os).abs.heap)=true)
 (U:∀w os,seenQ q loose (importedModules p.main.body) Xt g0 (J w os).abs=openGood q loose) (Y:∀w os,Yf (J w os).abs=Ya w):
 ∀w os,looksAt p q loose Xt Yf g0 (boot_heap w.params) (J w os).abs=(true,openGood q loose,Ya w):=λw os=>Prod.ext (L w os) (Prod.ext (U w os) (Y w os))
end Pb
namespace Pb
open L2
noncomputable section
noncomputable def hF (x q:Str) (s:Stmt) (m:Str) (n c:Nat):Obj:=.mk (.type "function") none (.func (.mk x q (j1 s) (.stmts (jz s)) (gC s) 3 [] .none .none .none (.str m n) none (.ref c) .none 0)) #[]
noncomputable def hR (x q:Str) (s:Stmt):Obj:=.mk .none none (.func (.mk x q (j1 s) (.stmts (jz s)) (gC s) 0 [] .none .none .none .none none .none .none 0)) #[]
noncomputable def hC (x q:Str) (a l n k r e:Nat):Obj:=.mk (.type "code") none (.fields #[.str x a,.str q (a+1),.str (.ofString "/claim/cut.py") (a+2),.int l 0,.int n 0,.int 0 0,.int 0 0,.int k 0,.ref r,.bool true,.int 181 0,.ref (r+1),.none,.ref (r+2),.ref (r+3),.ref (r+4),.int e 0,.int l 0,.str (.ofString "/claim/cut.py") (e+1)]) #[]
noncomputable def yt (x q:Str) (a l n k r e:Nat):Obj:=.mk (.type "code") none (.fields #[.str x a,.str q (a+1),.str (.ofString "/claim/cut.py") (a+2),.int l 0,.int n 0,.int 0 0,.int 0 0,.int k 0,.ref r,.bool true,.int 181 0,.ref (r+1),.none,.none,.none,.ref (r+2),.int e 0,.int l 0,.str (.ofString "/claim/cut.py") (e+1)]) #[]
noncomputable def hK (x:Str) (a l r e:Nat):Obj:=.mk (.type "code") none (.fields #[.str x a,.str x (a+1),.str (.ofString "/claim/cut.py") (a+2),.int l 0,.int 0 0,.int 0 0,.int 0 0,.int 0 0,.ref r,.bool false,.int 181 0,.ref (r+1),.none,.none,.none,.none,.int e 0,.int l 0,.str (.ofString "/claim/cut.py") (e+1)]) #[]
noncomputable def ib (x:Str) (s:Stmt) (m:Str) (n c:Nat):Obj:=hF x x s m n c
noncomputable def ic (x:Str) (s:Stmt):Obj:=hR x x s
noncomputable def iK (x:Str) (a l n k r e:Nat):Obj:=hC x x a l n k r e
noncomputable def mx (x:Str) (a l n k r e:Nat):Obj:=yt x x a l n k r e
noncomputable def tS:Nat->List Str->List Value
 |_,[]=>[]
 |n,x::r=>.str x n::tS (n+1) r
noncomputable def hT (n:Nat) (l:List Str):Obj:=.mk (.type "tuple") none (.seq (tS n l).toArray) #[]
noncomputable def tI:List (Nat × Nat × Nat)->List Value
 |[]=>[]
 |(a,b,c)::r=>.int a 0:: .int b 0:: .ref c::tI r
noncomputable def hI (l:List (Nat × Nat × Nat)):Obj:=.mk .none none (.fields (tI l).toArray) #[]
noncomputable def hE (P:Params) (x:Str) (a:Nat) (v:Value):DictEntry:=.mk (PyData.keyHash P x) (.str x a) v
def hT0:Obj:=hT 0 []
noncomputable def gL:Obj:=.mk .none none (.fields #[]) #[]
noncomputable def my (a b:Nat) (m:String) (n:Nat):Obj:=.mk (.type "frame") none .plain #[some (.ref a),some (.ref 3),some (.ref b),none,some (.str (.ofString m) n),none,some (.ref 0)]
noncomputable def nh (r:Nat):Obj:=.mk (.type "super") none (.fields #[.ref r,.ref r,.ref r]) #[]
noncomputable def hIs (r:Nat):Obj:=.mk (.type "builtin_function_or_method") none (.fields #[.builtin "object.__init_subclass__",.ref r]) #[]
noncomputable def lW:Obj:=.mk (.type "builtin_function_or_method") none (.fields #[.builtin "type.__prepare__",.type "type"]) #[]
noncomputable def lX (r:Nat):Obj:=.mk (.type "tuple") none (.seq #[.ref r]) #[]
noncomputable def yu:Str:="putback.errors"
noncomputable def uy:Str:="putback.kinds"
noncomputable def lY:Str:="putback.values"
noncomputable def mz:Str:="putback.views"
noncomputable def kJ:Str:="putback.trees"
noncomputable def mB:Str:="putback.fields"
noncomputable def jt:Str:="law_putback_k56_top_and_boughs"
noncomputable def NF (x q:Str) (s:Stmt) (m:Value) (c:Nat):Obj:=.mk (.type "function") none (.func (.mk x q (j1 s) (.stmts (jz s)) (gC s) 3 [] .none .none .none m none (.ref c) .none 0)) #[]
noncomputable def NG (x q:Str) (a l n k r f b e:Nat):Obj:=.mk (.type "code") none (.fields #[.str x a,.str q (a+1),.str (.ofString "/claim/cut.py") (a+2),.int l 0,.int n 0,.int 0 0,.int 0 0,.int k 0,.ref r,.bool true,.int f 0,.ref (r+1),.none,.ref (r+2),.ref (r+3),.ref (r+4),.int b 0,.int l 0,.str (.ofString "/claim/cut.py") e]) #[]
noncomputable def NH (P:Params) (x:Str) (a:Nat) (v:Value):DictEntry:=.mk (PyData.keyHash P x) (.str x a) v
noncomputable def Gm:Obj:=.mk .none none (.dict #[]) #[]
noncomputable def yw (P:Params):Obj:=.mk (.type "dict") none (.dict #[hE P "__name__" 165 (.str (.ofString "law_putback_k56_top_and_boughs") 732),hE P "__doc__" 166 .none,hE P "__package__" 167 .none,hE P "__loader__" 168 (.builtin "__main__.__loader__#opaque"),hE P "__spec__" 169 .none,hE P "__annotations__" 170 (.ref 6),hE P "__builtins__" 171 (.ref 4),hE P "__file__" 173 (.str (.ofString "/claim/cut.py") 172),hE P "__cached__" 174 .none,hE P "ViewError" 206 (.ref 24),hE P "NoKind" 222 (.ref 37),hE P "NoView" 247 (.ref 56),hE P "CantPut" 272 (.ref 75),hE P "kind_at" 283 (.ref 84),hE P "sorted_fields" 293 (.ref 91),hE P "record_of" 300 (.ref 98),hE P "misfit" 311 (.ref 105),hE P "record_misfit" 322 (.ref 112),hE P "has_just" 328 (.ref 117),hE P "rows_misfit" 340 (.ref 124),hE P "is_pair" 347 (.ref 131),hE P "tree_misfit" 358 (.ref 138),hE P "either_misfit" 368 (.ref 145),hE P "empty" 377 (.ref 152),hE P "empty_record" 387 (.ref 159),hE P "rank" 397 (.ref 166),hE P "ask_fit" 408 (.ref 173),hE P "ask_stands" 415 (.ref 180),hE P "behind_inner" 425 (.ref 187),hE P "put_inner" 437 (.ref 194),hE P "View" 499 (.ref 239),hE P "Top" 559 (.ref 288),hE P "Boughs" 639 (.ref 347),hE P "has_each_once" 647 (.ref 354),hE P "fields_among" 653 (.ref 359),hE P "part_of" 663 (.ref 366),hE P "Take" 731 (.ref 418),hE P "_law_next" 743 (.ref 427),hE P "_law_number" 753 (.ref 434),hE P "_law_word" 767 (.ref 441),hE P "_law_names" 784 (.ref 448),hE P "_law_plain" 792 (.ref 455),hE P "_law_fields" 798 (.ref 460),hE P "_law_rows_kind" 816 (.ref 467),hE P "_law_kind" 826 (.ref 474),hE P "_law_rank" 834 (.ref 481),hE P "_law_rows" 849 (.ref 488),hE P "_law_value" 855 (.ref 493),hE P "_law_alike" 861 (.ref 498),hE P "_law_some" 867 (.ref 503),hE P "_law_blank" 877 (.ref 510),hE P "_law_grown" 893 (.ref 517),hE P "_law_shown" 899 (.ref 522),hE P "_law_back" 916 (.ref 529),hE P "_law_seen" 926 (.ref 536),hE P "_law_top" 936 (.ref 543),hE P "law" 942 (.ref 548)] 57) #[]
noncomputable def yx (P:Params):Obj:=.mk (.type "dict") none (.dict #[hE P "__module__" 196 (.str (.ofString "putback.errors") 187),hE P "__firstlineno__" 200 (.int 2 199),hE P "__static_attributes__" 201 (.ref 22),hE P "__weakref__" 203 (.ref 25),hE P "__doc__" 204 .none] 3) #[]
noncomputable def yy:Obj:=.mk (.type "type") none (.cls (.mk (.ofString "ViewError") [.type "ValueError"] [.ref 24,.type "ValueError",.type "Exception",.type "BaseException",.type "object"] 23 (.ofString "ViewError") true [] [.ref 37,.ref 56,.ref 75] false none false)) #[some (.ref 15),none,some (.str (.ofString "ViewError") 189),some (.str (.ofString "ViewError") 197),some (.builtin "ValueError.__new__"),some (.bool true)]
noncomputable def yz:Obj:=.mk (.type "getset_descriptor") none (.fields #[.str (.ofString "__weakref__") 202,.ref 24,.builtin "ExceptionGroup.__weakref__",.none]) #[]
noncomputable def yA (P:Params):Obj:=.mk (.type "dict") none (.dict #[hE P "__module__" 214 (.str (.ofString "putback.errors") 187),hE P "__firstlineno__" 218 (.int 4 217),hE P "__static_attributes__" 219 (.ref 35),hE P "__doc__" 220 .none] 2) #[]
noncomputable def yB:Obj:=.mk (.type "type") none (.cls (.mk (.ofString "NoKind") [.ref 24] [.ref 37,.ref 24,.type "ValueError",.type "Exception",.type "BaseException",.type "object"] 36 (.ofString "NoKind") true [] [] false none false)) #[some (.ref 28),none,some (.str (.ofString "NoKind") 207),some (.str (.ofString "NoKind") 215),some (.builtin "ValueError.__new__"),some (.bool true)]
def yC:Obj:=hC "__init__" "NoView.__init__" 235 8 2 3 47 240
def yD:Obj:=hF "__init__" "NoView.__init__" (gw 3 0) yu 187 52
noncomputable def yE (P:Params):Obj:=.mk (.type "dict") none (.dict #[hE P "__module__" 230 (.str (.ofString "putback.errors") 187),hE P "__firstlineno__" 234 (.int 6 233),hE P "__init__" 242 (.ref 53),hE P "__static_attributes__" 244 (.ref 54),hE P "__doc__" 245 .none] 2) #[]
noncomputable def yF:Obj:=.mk (.type "type") none (.cls (.mk (.ofString "NoView") [.ref 24] [.ref 56,.ref 24,.type "ValueError",.type "Exception",.type "BaseException",.type "object"] 55 (.ofString "NoView") true [] [] false none false)) #[some (.ref 40),none,some (.str (.ofString "NoView") 223),some (.str (.ofString "NoView") 231),some (.builtin "ValueError.__new__"),some (.bool true)]
def yG:Obj:=hC "__init__" "CantPut.__init__" 260 12 2 3 66 265
def yH:Obj:=hF "__init__" "CantPut.__init__" (gw 4 0) yu 187 71
noncomputable def yI (P:Params):Obj:=.mk (.type "dict") none (.dict #[hE P "__module__" 255 (.str (.ofString "putback.errors") 187),hE P "__firstlineno__" 259 (.int 10 258),hE P "__init__" 267 (.ref 72),hE P "__static_attributes__" 269 (.ref 73),hE P "__doc__" 270 .none] 2) #[]
noncomputable def yJ:Obj:=.mk (.type "type") none (.cls (.mk (.ofString "CantPut") [.ref 24] [.ref 75,.ref 24,.type "ValueError",.type "Exception",.type "BaseException",.type "object"] 74 (.ofString "CantPut") true [] [] false none false)) #[some (.ref 59),none,some (.str (.ofString "CantPut") 248),some (.str (.ofString "CantPut") 256),some (.builtin "ValueError.__new__"),some (.bool true)]
def yK:Obj:=iK "kind_at" 275 15 2 3 78 281
def yL:Obj:=ib "kind_at" (top 6) uy 273 83
def yM:Obj:=iK "sorted_fields" 284 20 1 3 85 291
def yN:Obj:=ib "sorted_fields" (top 7) uy 273 90
def yO:Obj:=iK "record_of" 294 27 1 3 92 298
def yP:Obj:=ib "record_of" (top 8) uy 273 97
def yQ:Obj:=iK "misfit" 303 30 2 3 99 309
def yR:Obj:=ib "misfit" (top 10) lY 301 104
def yS:Obj:=iK "record_misfit" 312 43 2 3 106 320
def yT:Obj:=ib "record_misfit" (top 11) lY 301 111
def yU:Obj:=mx "has_just" 323 51 2 3 113 326
def yV:Obj:=ib "has_just" (top 12) lY 301 116
def yW:Obj:=iK "rows_misfit" 329 53 2 3 118 338
def yX:Obj:=ib "rows_misfit" (top 13) lY 301 123
def yY:Obj:=iK "is_pair" 341 67 1 3 125 345
def yZ:Obj:=ib "is_pair" (top 14) lY 301 130
def y7:Obj:=iK "tree_misfit" 348 69 2 3 132 356
def y8:Obj:=ib "tree_misfit" (top 15) lY 301 137
def y9:Obj:=iK "either_misfit" 359 80 2 3 139 366
def y_:Obj:=ib "either_misfit" (top 16) lY 301 144
def za:Obj:=iK "empty" 369 90 1 3 146 375
def zb:Obj:=ib "empty" (top 17) lY 301 151
def zd:Obj:=iK "empty_record" 378 104 1 3 153 385
def ze:Obj:=ib "empty_record" (top 18) lY 301 158
def zf:Obj:=iK "rank" 388 109 2 3 160 395
def zg:Obj:=ib "rank" (top 19) lY 301 165
def zh:Obj:=iK "ask_fit" 400 116 2 3 167 406
def zj:Obj:=ib "ask_fit" (top 21) mz 398 172
def zk:Obj:=iK "ask_stands" 409 120 1 3 174 413
def zl:Obj:=ib "ask_stands" (top 22) mz 398 179
def zm:Obj:=iK "behind_inner" 416 123 3 3 181 423
def zo:Obj:=ib "behind_inner" (top 23) mz 398 186
def zp:Obj:=iK "put_inner" 426 128 5 3 188 435
def zq:Obj:=ib "put_inner" (top 24) mz 398 193
def zr:Obj:=hC "behind" "View.behind" 450 135 2 3 202 455
def zt:Obj:=hF "behind" "View.behind" (gw 25 0) mz 398 207
def zu:Obj:=hC "see" "View.see" 458 138 3 3 209 464
def zv:Obj:=hF "see" "View.see" (gw 25 1) mz 398 214
def zw:Obj:=hC "put" "View.put" 467 141 4 3 216 474
def zx:Obj:=hF "put" "View.put" (gw 25 2) mz 398 221
def zy:Obj:=hC "grade" "View.grade" 477 145 1 3 223 481
def zA:Obj:=hF "grade" "View.grade" (gw 25 3) mz 398 228
def zB:Obj:=hC "keeps" "View.keeps" 484 148 2 3 230 489
def zC:Obj:=hF "keeps" "View.keeps" (gw 25 4) mz 398 235
noncomputable def zD (P:Params):Obj:=.mk (.type "dict") none (.dict #[hE P "__module__" 445 (.str (.ofString "putback.views") 398),hE P "__firstlineno__" 449 (.int 133 448),hE P "behind" 457 (.ref 208),hE P "see" 466 (.ref 215),hE P "put" 476 (.ref 222),hE P "grade" 483 (.ref 229),hE P "keeps" 491 (.ref 236),hE P "__static_attributes__" 492 (.ref 237),hE P "__dict__" 494 (.ref 240),hE P "__weakref__" 496 (.ref 241),hE P "__doc__" 497 .none] 4) #[]
noncomputable def zE:Obj:=.mk (.type "type") none (.cls (.mk (.ofString "View") [.type "object"] [.ref 239,.type "object"] 238 (.ofString "View") true [] [.ref 288,.ref 347,.ref 418] false none false)) #[none,none,some (.str (.ofString "View") 438),some (.str (.ofString "View") 446),some (.builtin "object.__new__"),some (.bool true)]
noncomputable def zF:Obj:=.mk (.type "getset_descriptor") none (.fields #[.str (.ofString "__dict__") 493,.ref 239,.builtin "function.__dict__",.builtin "function.__dict__#set"]) #[]
noncomputable def zG:Obj:=.mk (.type "getset_descriptor") none (.fields #[.str (.ofString "__weakref__") 495,.ref 239,.builtin "ExceptionGroup.__weakref__",.none]) #[]
def zH:Obj:=hC "behind" "Top.behind" 514 153 2 3 251 519
def zI:Obj:=hF "behind" "Top.behind" (gw 27 0) kJ 500 256
def zJ:Obj:=hC "see" "Top.see" 522 157 3 3 258 528
def zK:Obj:=hF "see" "Top.see" (gw 27 1) kJ 500 263
def zL:Obj:=hC "put" "Top.put" 531 160 4 3 265 538
def zM:Obj:=hF "put" "Top.put" (gw 27 2) kJ 500 270
def zN:Obj:=hC "grade" "Top.grade" 541 164 1 3 272 545
def zO:Obj:=hF "grade" "Top.grade" (gw 27 3) kJ 500 277
def zP:Obj:=hC "keeps" "Top.keeps" 548 167 2 3 279 553
def zQ:Obj:=hF "keeps" "Top.keeps" (gw 27 4) kJ 500 284
noncomputable def zR (P:Params):Obj:=.mk (.type "dict") none (.dict #[hE P "__module__" 509 (.str (.ofString "putback.trees") 500),hE P "__firstlineno__" 513 (.int 151 512),hE P "behind" 521 (.ref 257),hE P "see" 530 (.ref 264),hE P "put" 540 (.ref 271),hE P "grade" 547 (.ref 278),hE P "keeps" 555 (.ref 285),hE P "__static_attributes__" 556 (.ref 286),hE P "__doc__" 557 .none] 2) #[]
noncomputable def zS:Obj:=.mk (.type "type") none (.cls (.mk (.ofString "Top") [.ref 239] [.ref 288,.ref 239,.type "object"] 287 (.ofString "Top") true [] [] false none false)) #[some (.ref 244),none,some (.str (.ofString "Top") 502),some (.str (.ofString "Top") 510),some (.builtin "object.__new__"),some (.bool true)]
def zT:Obj:=hC "__init__" "Boughs.__init__" 572 171 2 3 298 577
def zU:Obj:=hF "__init__" "Boughs.__init__" (gw 28 0) kJ 500 303
def zV:Obj:=hC "behind" "Boughs.behind" 580 174 2 3 305 585
def zW:Obj:=hF "behind" "Boughs.behind" (gw 28 1) kJ 500 310
def zX:Obj:=yt "see" "Boughs.see" 588 178 3 3 312 591
def zY:Obj:=hF "see" "Boughs.see" (gw 28 2) kJ 500 315
def zZ:Obj:=hC "put" "Boughs.put" 594 181 4 3 317 601
def z6:Obj:=hF "put" "Boughs.put" (gw 28 3) kJ 500 322
def z7:Obj:=hC "put_knots" "Boughs.put_knots" 604 185 5 3 324 617
def z8:Obj:=hF "put_knots" "Boughs.put_knots" (gw 28 4) kJ 500 329
def z9:Obj:=hC "grade" "Boughs.grade" 620 193 1 3 331 624
def z_:Obj:=hF "grade" "Boughs.grade" (gw 28 5) kJ 500 336
def Aa:Obj:=hC "keeps" "Boughs.keeps" 627 196 2 3 338 632
def Ab:Obj:=hF "keeps" "Boughs.keeps" (gw 28 6) kJ 500 343
noncomputable def Ac (P:Params):Obj:=.mk (.type "dict") none (.dict #[hE P "__module__" 567 (.str (.ofString "putback.trees") 500),hE P "__firstlineno__" 571 (.int 169 570),hE P "__init__" 579 (.ref 304),hE P "behind" 587 (.ref 311),hE P "see" 593 (.ref 316),hE P "put" 603 (.ref 323),hE P "put_knots" 619 (.ref 330),hE P "grade" 626 (.ref 337),hE P "keeps" 634 (.ref 344),hE P "__static_attributes__" 636 (.ref 345),hE P "__doc__" 637 .none] 2) #[]
noncomputable def Ae:Obj:=.mk (.type "type") none (.cls (.mk (.ofString "Boughs") [.ref 239] [.ref 347,.ref 239,.type "object"] 346 (.ofString "Boughs") true [] [] false none false)) #[some (.ref 291),none,some (.str (.ofString "Boughs") 560),some (.str (.ofString "Boughs") 568),some (.builtin "object.__new__"),some (.bool true)]
def Af:Obj:=mx "has_each_once" 642 199 2 3 350 645
def Ag:Obj:=ib "has_each_once" (top 30) mB 640 353
def Ah:Obj:=mx "fields_among" 648 203 2 3 355 651
def Ai:Obj:=ib "fields_among" (top 31) mB 640 358
def Aj:Obj:=iK "part_of" 654 205 2 3 360 661
def Ak:Obj:=ib "part_of" (top 32) mB 640 365
def Al:Obj:=hC "__init__" "Take.__init__" 676 212 2 3 374 681
def Am:Obj:=hF "__init__" "Take.__init__" (gw 33 0) mB 640 379
def An:Obj:=hC "behind" "Take.behind" 684 215 2 3 381 689
def Ao:Obj:=hF "behind" "Take.behind" (gw 33 1) mB 640 386
def Ap:Obj:=hC "see" "Take.see" 692 219 3 3 388 698
def Aq:Obj:=hF "see" "Take.see" (gw 33 2) mB 640 393
def Ar:Obj:=hC "put" "Take.put" 701 222 4 3 395 709
def As:Obj:=hF "put" "Take.put" (gw 33 3) mB 640 400
def Au:Obj:=hC "grade" "Take.grade" 712 228 1 3 402 716
def Av:Obj:=hF "grade" "Take.grade" (gw 33 4) mB 640 407
def Aw:Obj:=hC "keeps" "Take.keeps" 719 231 2 3 409 724
def Ax:Obj:=hF "keeps" "Take.keeps" (gw 33 5) mB 640 414
noncomputable def Ay (P:Params):Obj:=.mk (.type "dict") none (.dict #[hE P "__module__" 671 (.str (.ofString "putback.fields") 640),hE P "__firstlineno__" 675 (.int 210 674),hE P "__init__" 683 (.ref 380),hE P "behind" 691 (.ref 387),hE P "see" 700 (.ref 394),hE P "put" 711 (.ref 401),hE P "grade" 718 (.ref 408),hE P "keeps" 726 (.ref 415),hE P "__static_attributes__" 728 (.ref 416),hE P "__doc__" 729 .none] 2) #[]
noncomputable def Az:Obj:=.mk (.type "type") none (.cls (.mk (.ofString "Take") [.ref 239] [.ref 418,.ref 239,.type "object"] 417 (.ofString "Take") true [] [] false none false)) #[some (.ref 367),none,some (.str (.ofString "Take") 664),some (.str (.ofString "Take") 672),some (.builtin "object.__new__"),some (.bool true)]
def AB:Obj:=iK "_law_next" 734 234 2 3 421 741
def AD:Obj:=ib "_law_next" (top 35) jt 732 426
def AE:Obj:=iK "_law_number" 744 241 2 3 428 751
def AG:Obj:=ib "_law_number" (top 36) jt 732 433
def AH:Obj:=iK "_law_word" 754 249 2 3 435 765
def AI:Obj:=ib "_law_word" (top 37) jt 732 440
def AJ:Obj:=iK "_law_names" 768 261 3 3 442 782
def AK:Obj:=ib "_law_names" (top 38) jt 732 447
def AM:Obj:=iK "_law_plain" 785 275 2 3 449 790
def AN:Obj:=ib "_law_plain" (top 39) jt 732 454
def AO:Obj:=mx "_law_fields" 793 279 4 3 456 796
def AQ:Obj:=ib "_law_fields" (top 40) jt 732 459
def AR:Obj:=iK "_law_rows_kind" 799 282 4 3 461 814
def AU:Obj:=ib "_law_rows_kind" (top 41) jt 732 466
def AV:Obj:=iK "_law_kind" 817 297 3 3 468 824
def AW:Obj:=ib "_law_kind" (top 42) jt 732 473
def AX:Obj:=iK "_law_rank" 827 308 2 3 475 832
def AY:Obj:=ib "_law_rank" (top 43) jt 732 480
def AZ:Obj:=iK "_law_rows" 835 312 4 3 482 847
def A0:Obj:=ib "_law_rows" (top 44) jt 732 487
def A1:Obj:=mx "_law_value" 850 321 4 3 489 853
def A2:Obj:=ib "_law_value" (top 45) jt 732 492
def A4:Obj:=mx "_law_alike" 856 339 3 3 494 859
def A5:Obj:=ib "_law_alike" (top 46) jt 732 497
def A6:Obj:=mx "_law_some" 862 367 3 3 499 865
def A7:Obj:=ib "_law_some" (top 47) jt 732 502
def A8:Obj:=iK "_law_blank" 868 372 1 3 504 875
def A9:Obj:=ib "_law_blank" (top 48) jt 732 509
def A_:Obj:=iK "_law_grown" 878 387 4 3 511 891
def Ba:Obj:=ib "_law_grown" (top 49) jt 732 516
def Bb:Obj:=mx "_law_shown" 894 400 2 3 518 897
def Bc:Obj:=ib "_law_shown" (top 50) jt 732 521
def Bd:Obj:=iK "_law_back" 900 405 4 3 523 914
def Be:Obj:=ib "_law_back" (top 51) jt 732 528
def Bf:Obj:=iK "_law_seen" 917 421 4 3 530 924
def Bg:Obj:=ib "_law_seen" (top 52) jt 732 535
def Bh:Obj:=iK "_law_top" 927 425 3 3 537 934
def Bi:Obj:=ib "_law_top" (top 53) jt 732 542
def Bj:Obj:=mx "law" 937 432 1 3 544 940
def Bk:Obj:=ib "law" (top 54) jt 732 547
noncomputable def Gn (P:Params):Obj:=.mk (.type "dict") none (.dict #[hE P "__name__" 165 (.str (.ofString "putback.trees") 500),hE P "__doc__" 166 .none,hE P "__package__" 167 .none,hE P "__loader__" 168 (.builtin "__main__.__loader__#opaque"),hE P "__spec__" 169 .none,hE P "__annotations__" 170 (.ref 6),hE P "__builtins__" 171 (.ref 4),hE P "__file__" 173 (.str (.ofString "/claim/cut.py") 172),hE P "__cached__" 174 .none,hE P "ViewError" 206 (.ref 24),hE P "NoKind" 222 (.ref 37),hE P "NoView" 247 (.ref 56),hE P "CantPut" 272 (.ref 75),hE P "kind_at" 283 (.ref 84),hE P "sorted_fields" 293 (.ref 91),hE P "record_of" 300 (.ref 98),hE P "misfit" 311 (.ref 105),hE P "record_misfit" 322 (.ref 112),hE P "has_just" 328 (.ref 117),hE P "rows_misfit" 340 (.ref 124),hE P "is_pair" 347 (.ref 131),hE P "tree_misfit" 358 (.ref 138),hE P "either_misfit" 368 (.ref 145),hE P "empty" 377 (.ref 152),hE P "empty_record" 387 (.ref 159),hE P "rank" 397 (.ref 166),hE P "ask_fit" 408 (.ref 173),hE P "ask_stands" 415 (.ref 180),hE P "behind_inner" 425 (.ref 187),hE P "put_inner" 437 (.ref 194),hE P "View" 499 (.ref 239)] 31) #[]
noncomputable def Gp (P:Params):List Obj:=hT0::hI [(2,0,20),(4,0,33),(6,0,45),(10,0,64),(15,0,83),(20,0,90),(27,0,97),(30,0,104),(43,0,111),(51,0,116),(53,0,123),(67,0,130),(69,0,137),(80,0,144),(90,0,151),(104,0,158),(109,0,165),(116,0,172),(120,0,179),(123,0,186),(128,0,193),(133,0,200)]::hK "<module>" 182 1 11 185::my 13 3 "__main__" 164:: .mk (.type "tuple") none (.seq #[.type "ValueError"]) #[]::lW:: .mk (.type "dict") none (.dict #[hE P "__module__" 196 (.str (.ofString "putback.errors") 187),hE P "__qualname__" 198 (.str (.ofString "ViewError") 197),hE P "__firstlineno__" 200 (.int 2 199),hE P "__static_attributes__" 201 (.ref 22)] 4) #[]::hT0::gL::hK "ViewError" 191 2 18 194::my 20 17 "putback.errors" 187::hT0::yx P::yy::yz::nh 24::hIs 24::lX 24::lW:: .mk (.type "dict") none (.dict #[hE P "__module__" 214 (.str (.ofString "putback.errors") 187),hE P "__qualname__" 216 (.str (.ofString "NoKind") 215),hE P "__firstlineno__" 218 (.int 4 217),hE P "__static_attributes__" 219 (.ref 35)] 4) #[]::hT0::gL::hK "NoKind" 209 4 31 212::my 33 30 "putback.errors" 187::hT0::yA P::yB::nh 37::hIs 37::lX 24::lW:: .mk (.type "dict") none (.dict #[hE P "__module__" 230 (.str (.ofString "putback.errors") 187),hE P "__qualname__" 232 (.str (.ofString "NoView") 231),hE P "__firstlineno__" 234 (.int 6 233),hE P "__init__" 242 (.ref 53),hE P "__static_attributes__" 244 (.ref 54)] 5) #[]::hT0::hI [(8,4,52)]::hK "NoView" 225 6 43 228::my 45 42 "putback.errors" 187::hT0::gL::hT 238 ["self","way"]::hT0::hR "__init__" "NoView.__init__" (gw 3 0)::yC::yD::hT 243 ["way"]::yE P::yF::nh 56::hIs 56::lX 24::lW:: .mk (.type "dict") none (.dict #[hE P "__module__" 255 (.str (.ofString "putback.errors") 187),hE P "__qualname__" 257 (.str (.ofString "CantPut") 256),hE P "__firstlineno__" 259 (.int 10 258),hE P "__init__" 267 (.ref 72),hE P "__static_attributes__" 269 (.ref 73)] 5) #[]::hT0::hI [(12,4,71)]::hK "CantPut" 250 10 62 253::my 64 61 "putback.errors" 187::hT0::gL::hT 263 ["self","way"]::hT0::hR "__init__" "CantPut.__init__" (gw 4 0)::yG::yH::hT 268 ["way"]::yI P::yJ::nh 75::hIs 75::hT0::gL::hT 278 ["fields","name","pair"]::hT0::ic "kind_at" (top 6)::yK::yL::hT0::gL::hT 287 ["pairs","fields","number","name"]::hT0::ic "sorted_fields" (top 7)::yM::yN::hT0::gL::hT 297 ["pairs"]::hT0::ic "record_of" (top 8)::yO::yP::hT0::gL::hT 306 ["kind","value","form"]::hT0::ic "misfit" (top 10)::yQ::yR::hT0::gL::hT 315 ["fields","record","name","inner","place"]::hT0::ic "record_misfit" (top 11)::yS::yT::hT0::gL::ic "has_just" (top 12)::yU::yV::hT0::gL::hT 332 ["kind","rows","earlier","number","row","place"]::hT0::ic "rows_misfit" (top 13)::yW::yX::hT0::gL::hT 344 ["value"]::hT0::ic "is_pair" (top 14)::yY::yZ::hT0::gL::hT 351 ["kind","tree","place","number","arm"]::hT0::ic "tree_misfit" (top 15)::y7::y8::hT0::gL::hT 362 ["fields","value","inner","place"]::hT0::ic "either_misfit" (top 16)::y9::y_::hT0::gL::hT 372 ["kind","form","first"]::hT0::ic "empty" (top 17)::za::zb::hT0::gL::hT 381 ["fields","record","name","inner"]::hT0::ic "empty_record" (top 18)::zd::ze::hT0::gL::hT 391 ["kind","row","key","by"]::hT0::ic "rank" (top 19)::zf::zg::hT0::gL::hT 403 ["kind","seen","place"]::hT0::ic "ask_fit" (top 21)::zh::zj::hT0::gL::hT 412 ["stands"]::hT0::ic "ask_stands" (top 22)::zk::zl::hT0::gL::hT 419 ["ahead","inner","kind","e"]::hT0::ic "behind_inner" (top 23)::zm::zo::hT0::gL::hT 429 ["ahead","inner","kind","source","seen","e"]::hT0::ic "put_inner" (top 24)::zp::zq::hT0::lW:: .mk (.type "dict") none (.dict #[hE P "__module__" 445 (.str (.ofString "putback.views") 398),hE P "__qualname__" 447 (.str (.ofString "View") 446),hE P "__firstlineno__" 449 (.int 133 448),hE P "behind" 457 (.ref 208),hE P "see" 466 (.ref 215),hE P "put" 476 (.ref 222),hE P "grade" 483 (.ref 229),hE P "keeps" 491 (.ref 236),hE P "__static_attributes__" 492 (.ref 237)] 9) #[]::hT0::hI [(135,4,207),(138,4,214),(141,4,221),(145,4,228),(148,4,235)]::hK "View" 440 133 198 443::my 200 197 "putback.views" 398::hT0::gL::hT 453 ["self","kind"]::hT0::hR "behind" "View.behind" (gw 25 0)::zr::zt::hT0::gL::hT 461 ["self","kind","source"]::hT0::hR "see" "View.see" (gw 25 1)::zu::zv::hT0::gL::hT 470 ["self","kind","source","seen"]::hT0::hR "put" "View.put" (gw 25 2)::zw::zx::hT0::gL::hT 480 ["self"]::hT0::hR "grade" "View.grade" (gw 25 3)::zy::zA::hT0::gL::hT 487 ["self","name"]::hT0::hR "keeps" "View.keeps" (gw 25 4)::zB::zC::hT0::zD P:: .mk (.type "type") none (.cls (.mk (.ofString "View") [.type "object"] [.ref 239,.type "object"] 238 (.ofString "View") true [] [] false none false)) #[none,none,some (.str (.ofString "View") 438),some (.str (.ofString "View") 446),some (.builtin "object.__new__"),some (.bool true)]::zF::zG::nh 239::hIs 239::[]
noncomputable def endL (P:Params):List Obj:=lX 239::lW:: .mk (.type "dict") none (.dict #[hE P "__module__" 509 (.str (.ofString "putback.trees") 500),hE P "__qualname__" 511 (.str (.ofString "Top") 510),hE P "__firstlineno__" 513 (.int 151 512),hE P "behind" 521 (.ref 257),hE P "see" 530 (.ref 264),hE P "put" 540 (.ref 271),hE P "grade" 547 (.ref 278),hE P "keeps" 555 (.ref 285),hE P "__static_attributes__" 556 (.ref 286)] 9) #[]::hT0::hI [(153,4,256),(157,4,263),(160,4,270),(164,4,277),(167,4,284)]::hK "Top" 504 151 247 507::my 249 246 "putback.trees" 500::hT0::gL::hT 517 ["self","kind"]::hT0::hR "behind" "Top.behind" (gw 27 0)::zH::zI::hT0::gL::hT 525 ["self","kind","source"]::hT0::hR "see" "Top.see" (gw 27 1)::zJ::zK::hT0::gL::hT 534 ["self","kind","source","seen"]::hT0::hR "put" "Top.put" (gw 27 2)::zL::zM::hT0::gL::hT 544 ["self"]::hT0::hR "grade" "Top.grade" (gw 27 3)::zN::zO::hT0::gL::hT 551 ["self","name"]::hT0::hR "keeps" "Top.keeps" (gw 27 4)::zP::zQ::hT0::zR P::zS::nh 288::hIs 288::lX 239::lW:: .mk (.type "dict") none (.dict #[hE P "__module__" 567 (.str (.ofString "putback.trees") 500),hE P "__qualname__" 569 (.str (.ofString "Boughs") 568),hE P "__firstlineno__" 571 (.int 169 570),hE P "__init__" 579 (.ref 304),hE P "behind" 587 (.ref 311),hE P "see" 593 (.ref 316),hE P "put" 603 (.ref 323),hE P "put_knots" 619 (.ref 330),hE P "grade" 626 (.ref 337),hE P "keeps" 634 (.ref 344),hE P "__static_attributes__" 636 (.ref 345)] 11) #[]::hT0::hI [(171,4,303),(174,4,310),(178,4,315),(181,4,322),(185,4,329),(193,4,336),(196,4,343)]::hK "Boughs" 562 169 294 565::my 296 293 "putback.trees" 500::hT0::gL::hT 575 ["self","inner"]::hT0::hR "__init__" "Boughs.__init__" (gw 28 0)::zT::zU::hT0::gL::hT 583 ["self","kind"]::hT0::hR "behind" "Boughs.behind" (gw 28 1)::zV::zW::hT0::gL::hR "see" "Boughs.see" (gw 28 2)::zX::zY::hT0::gL::hT 597 ["self","kind","source","seen"]::hT0::hR "put" "Boughs.put" (gw 28 3)::zZ::z6::hT0::gL::hT 607 ["self","ahead","kind","source","seen","knot","arms","number","arm","old"]::hT0::hR "put_knots" "Boughs.put_knots" (gw 28 4)::z7::z8::hT0::gL::hT 623 ["self"]::hT0::hR "grade" "Boughs.grade" (gw 28 5)::z9::z_::hT0::gL::hT 630 ["self","name"]::hT0::hR "keeps" "Boughs.keeps" (gw 28 6)::Aa::Ab::hT 635 ["inner"]::Ac P::Ae::nh 347::hIs 347::hT0::gL::ic "has_each_once" (top 30)::Af::Ag::hT0::gL::ic "fields_among" (top 31)::Ah::Ai::hT0::gL::hT 657 ["record","names","part","name"]::hT0::ic "part_of" (top 32)::Aj::Ak::lX 239::lW:: .mk (.type "dict") none (.dict #[hE P "__module__" 671 (.str (.ofString "putback.fields") 640),hE P "__qualname__" 673 (.str (.ofString "Take") 672),hE P "__firstlineno__" 675 (.int 210 674),hE P "__init__" 683 (.ref 380),hE P "behind" 691 (.ref 387),hE P "see" 700 (.ref 394),hE P "put" 711 (.ref 401),hE P "grade" 718 (.ref 408),hE P "keeps" 726 (.ref 415),hE P "__static_attributes__" 728 (.ref 416)] 10) #[]::hT0::hI [(212,4,379),(215,4,386),(219,4,393),(222,4,400),(228,4,407),(231,4,414)]::hK "Take" 666 210 370 669::my 372 369 "putback.fields" 640::hT0::gL::hT 679 ["self","names"]::hT0::hR "__init__" "Take.__init__" (gw 33 0)::Al::Am::hT0::gL::hT 687 ["self","kind"]::hT0::hR "behind" "Take.behind" (gw 33 1)::An::Ao::hT0::gL::hT 695 ["self","kind","source"]::hT0::hR "see" "Take.see" (gw 33 2)::Ap::Aq::hT0::gL::hT 704 ["self","kind","source","seen","fresh"]::hT0::hR "put" "Take.put" (gw 33 3)::Ar::As::hT0::gL::hT 715 ["self"]::hT0::hR "grade" "Take.grade" (gw 33 4)::Au::Av::hT0::gL::hT 722 ["self","name"]::hT0::hR "keeps" "Take.keeps" (gw 33 5)::Aw::Ax::hT 727 ["names"]::Ay P::Az::nh 418::hIs 418::hT0::gL::hT 737 ["_law_script","_law_at","_law_cell","_law_m"]::hT0::ic "_law_next" (top 35)::AB::AD::hT0::gL::hT 747 ["_law_script","_law_at","_law_m","_law_cell"]::hT0::ic "_law_number" (top 36)::AE::AG::hT0::gL::hT 757 ["_law_script","_law_at","_law_signs","_law_m","_law_many","_law_word_here","_law_k","_law_place"]::hT0::ic "_law_word" (top 37)::AH::AI::hT0::gL::hT 771 ["_law_script","_law_at","_law_many","_law_letters","_law_m","_law_step","_law_stem","_law_cut","_law_names_here","_law_k","_law_sign"]::hT0::ic "_law_names" (top 38)::AJ::AK::hT0::gL::hT 788 ["_law_script","_law_at"]::hT0::ic "_law_plain" (top 39)::AM::AN::hT0::gL::ic "_law_fields" (top 40)::AO::AQ::hT0::gL::hT 802 ["_law_script","_law_at","_law_many","_law_deep","_law_names_here","_law_m","_law_lead","_law_by","_law_fields_here","_law_k","_law_kind_here","_law_name"]::hT0::ic "_law_rows_kind" (top 41)::AR::AU::hT0::gL::hT 820 ["_law_script","_law_at","_law_deep","_law_m"]::hT0::ic "_law_kind" (top 42)::AV::AW::hT0::gL::hT 830 ["_law_kind_here","_law_row"]::hT0::ic "_law_rank" (top 43)::AX::AY::hT0::gL::hT 838 ["_law_script","_law_at","_law_kind_here","_law_room","_law_rows_here","_law_seen_here","_law_k","_law_row"]::hT 846 ["_law_kind_here"]::ic "_law_rows" (top 44)::AZ::A0::hT0::gL::ic "_law_value" (top 45)::A1::A2::hT0::gL::ic "_law_alike" (top 46)::A4::A5::hT0::gL::ic "_law_some" (top 47)::A6::A7::hT0::gL::hT 871 ["_law_kind_here","_law_made","_law_name","_law_inner"]::hT0::ic "_law_blank" (top 48)::A8::A9::hT0::gL::hT 881 ["_law_script","_law_at","_law_kind_here","_law_most","_law_top_here","_law_road","_law_steep","_law_cell","_law_deep","_law_tree"]::hT0::ic "_law_grown" (top 49)::A_::Ba::hT0::gL::ic "_law_shown" (top 50)::Bb::Bc::hT0::gL::hT 903 ["_law_fields_here","_law_names_here","_law_tree","_law_seen_here","_law_row","_law_name","_law_inner","_law_arms","_law_k","_law_arm","_law_under"]::hT0::ic "_law_back" (top 51)::Bd::Be::hT0::gL::hT 920 ["_law_script","_law_at","_law_kind_here","_law_grown_here"]::hT0::ic "_law_seen" (top 52)::Bf::Bg::hT0::gL::hT 930 ["_law_kind_here","_law_tree","_law_value_here","_law_view"]::hT0::ic "_law_top" (top 53)::Bh::Bi::hT0::gL::ic "law" (top 54)::Bj::Bk::[]
noncomputable def Gq (P:Params):List (Nat × Obj):=(nat_lit 3,yw P)::(nat_lit 12,hI [(2,0,20),(4,0,33),(6,0,45),(10,0,64),(15,0,83),(20,0,90),(27,0,97),(30,0,104),(43,0,111),(51,0,116),(53,0,123),(67,0,130),(69,0,137),(80,0,144),(90,0,151),(104,0,158),(109,0,165),(116,0,172),(120,0,179),(123,0,186),(128,0,193),(133,0,200),(151,0,249),(169,0,296),(199,0,353),(203,0,358),(205,0,365),(210,0,372),(234,0,426),(241,0,433),(249,0,440),(261,0,447),(275,0,454),(279,0,459),(282,0,466),(297,0,473),(308,0,480),(312,0,487),(321,0,492),(339,0,497),(367,0,502),(372,0,509),(387,0,516),(400,0,521),(405,0,528),(421,0,535),(425,0,542),(432,0,547)])::(nat_lit 239,zE)::[]
end
noncomputable def KK:PySem.Params->W.Frag:=λP=>(nat_lit 2,Gm)::(nat_lit 3,yw P)::(nat_lit 23,yx P)::(nat_lit 24,yy)::(nat_lit 25,yz)::(nat_lit 36,yA P)::(nat_lit 37,yB)::(nat_lit 52,yC)::(nat_lit 53,yD)::(nat_lit 55,yE P)::(nat_lit 56,yF)::(nat_lit 71,yG)::(nat_lit 72,yH)::(nat_lit 74,yI P)::(nat_lit 75,yJ)::(nat_lit 83,yK)::(nat_lit 84,yL)::(nat_lit 90,yM)::(nat_lit 91,yN)::(nat_lit 97,yO)::(nat_lit 98,yP)::(nat_lit 104,yQ)::(nat_lit 105,yR)::(nat_lit 111,yS)::(nat_lit 112,yT)::(nat_lit 116,yU)::(nat_lit 117,yV)::(nat_lit 123,yW)::(nat_lit 124,yX)::(nat_lit 130,yY)::(nat_lit 131,yZ)::(nat_lit 137,y7)::(nat_lit 138,y8)::(nat_lit 144,y9)::(nat_lit 145,y_)::(nat_lit 151,za)::(nat_lit 152,zb)::(nat_lit 158,zd)::(nat_lit 159,ze)::(nat_lit 165,zf)::(nat_lit 166,zg)::(nat_lit 172,zh)::(nat_lit 173,zj)::(nat_lit 179,zk)::(nat_lit 180,zl)::(nat_lit 186,zm)::(nat_lit 187,zo)::(nat_lit 193,zp)::(nat_lit 194,zq)::(nat_lit 207,zr)::(nat_lit 208,zt)::(nat_lit 214,zu)::(nat_lit 215,zv)::(nat_lit 221,zw)::(nat_lit 222,zx)::(nat_lit 228,zy)::(nat_lit 229,zA)::(nat_lit 235,zB)::(nat_lit 236,zC)::(nat_lit 238,zD P)::(nat_lit 239,zE)::(nat_lit 240,zF)::(nat_lit 241,zG)::(nat_lit 256,zH)::(nat_lit 257,zI)::(nat_lit 263,zJ)::(nat_lit 264,zK)::(nat_lit 270,zL)::(nat_lit 271,zM)::(nat_lit 277,zN)::(nat_lit 278,zO)::(nat_lit 284,zP)::(nat_lit 285,zQ)::(nat_lit 287,zR P)::(nat_lit 288,zS)::(nat_lit 303,zT)::(nat_lit 304,zU)::(nat_lit 310,zV)::(nat_lit 311,zW)::(nat_lit 315,zX)::(nat_lit 316,zY)::(nat_lit 322,zZ)::(nat_lit 323,z6)::(nat_lit 329,z7)::(nat_lit 330,z8)::(nat_lit 336,z9)::(nat_lit 337,z_)::(nat_lit 343,Aa)::(nat_lit 344,Ab)::(nat_lit 346,Ac P)::(nat_lit 347,Ae)::(nat_lit 353,Af)::(nat_lit 354,Ag)::(nat_lit 358,Ah)::(nat_lit 359,Ai)::(nat_lit 365,Aj)::(nat_lit 366,Ak)::(nat_lit 379,Al)::(nat_lit 380,Am)::(nat_lit 386,An)::(nat_lit 387,Ao)::(nat_lit 393,Ap)::(nat_lit 394,Aq)::(nat_lit 400,Ar)::(nat_lit 401,As)::(nat_lit 407,Au)::(nat_lit 408,Av)::(nat_lit 414,Aw)::(nat_lit 415,Ax)::(nat_lit 417,Ay P)::(nat_lit 418,Az)::(nat_lit 426,AB)::(nat_lit 427,AD)::(nat_lit 433,AE)::(nat_lit 434,AG)::(nat_lit 440,AH)::(nat_lit 441,AI)::(nat_lit 447,AJ)::(nat_lit 448,AK)::(nat_lit 454,AM)::(nat_lit 455,AN)::(nat_lit 459,AO)::(nat_lit 460,AQ)::(nat_lit 466,AR)::(nat_lit 467,AU)::(nat_lit 473,AV)::(nat_lit 474,AW)::(nat_lit 480,AX)::(nat_lit 481,AY)::(nat_lit 487,AZ)::(nat_lit 488,A0)::(nat_lit 492,A1)::(nat_lit 493,A2)::(nat_lit 497,A4)::(nat_lit 498,A5)::(nat_lit 502,A6)::(nat_lit 503,A7)::(nat_lit 509,A8)::(nat_lit 510,A9)::(nat_lit 516,A_)::(nat_lit 517,Ba)::(nat_lit 521,Bb)::(nat_lit 522,Bc)::(nat_lit 528,Bd)::(nat_lit 529,Be)::(nat_lit 535,Bf)::(nat_lit 536,Bg)::(nat_lit 542,Bh)::(nat_lit 543,Bi)::(nat_lit 547,Bj)::(nat_lit 548,Bk)::[]
noncomputable def ni:List Nat:=nat_lit 2::nat_lit 3::nat_lit 23::nat_lit 24::nat_lit 25::nat_lit 36::nat_lit 37::nat_lit 52::nat_lit 53::nat_lit 55::nat_lit 56::nat_lit 71::nat_lit 72::nat_lit 74::nat_lit 75::nat_lit 83::nat_lit 84::nat_lit 90::nat_lit 91::nat_lit 97::nat_lit 98::nat_lit 104::nat_lit 105::nat_lit 111::nat_lit 112::nat_lit 116::nat_lit 117::nat_lit 123::nat_lit 124::nat_lit 130::nat_lit 131::nat_lit 137::nat_lit 138::nat_lit 144::nat_lit 145::nat_lit 151::nat_lit 152::nat_lit 158::nat_lit 159::nat_lit 165::nat_lit 166::nat_lit 172::nat_lit 173::nat_lit 179::nat_lit 180::nat_lit 186::nat_lit 187::nat_lit 193::nat_lit 194::nat_lit 207::nat_lit 208::nat_lit 214::nat_lit 215::nat_lit 221::nat_lit 222::nat_lit 228::nat_lit 229::nat_lit 235::nat_lit 236::nat_lit 238::nat_lit 239::nat_lit 240::nat_lit 241::nat_lit 256::nat_lit 257::nat_lit 263::nat_lit 264::nat_lit 270::nat_lit 271::nat_lit 277::nat_lit 278::nat_lit 284::nat_lit 285::nat_lit 287::nat_lit 288::nat_lit 303::nat_lit 304::nat_lit 310::nat_lit 311::nat_lit 315::nat_lit 316::nat_lit 322::nat_lit 323::nat_lit 329::nat_lit 330::nat_lit 336::nat_lit 337::nat_lit 343::nat_lit 344::nat_lit 346::nat_lit 347::nat_lit 353::nat_lit 354::nat_lit 358::nat_lit 359::nat_lit 365::nat_lit 366::nat_lit 379::nat_lit 380::nat_lit 386::nat_lit 387::nat_lit 393::nat_lit 394::nat_lit 400::nat_lit 401::nat_lit 407::nat_lit 408::nat_lit 414::nat_lit 415::nat_lit 417::nat_lit 418::nat_lit 426::nat_lit 427::nat_lit 433::nat_lit 434::nat_lit 440::nat_lit 441::nat_lit 447::nat_lit 448::nat_lit 454::nat_lit 455::nat_lit 459::nat_lit 460::nat_lit 466::nat_lit 467::nat_lit 473::nat_lit 474::nat_lit 480::nat_lit 481::nat_lit 487::nat_lit 488::nat_lit 492::nat_lit 493::nat_lit 497::nat_lit 498::nat_lit 502::nat_lit 503::nat_lit 509::nat_lit 510::nat_lit 516::nat_lit 517::nat_lit 521::nat_lit 522::nat_lit 528::nat_lit 529::nat_lit 535::nat_lit 536::nat_lit 542::nat_lit 543::nat_lit 547::nat_lit 548::[]
noncomputable def Bl (P:PySem.Params):W.BT:=uw 11 (Gp P) ((ux P).ins 3 (Gn P))
noncomputable def Gr (P:PySem.Params):W.BT:=yl (Gq P) (uw 244 (endL P) (Bl P))
noncomputable def qv:PySem.Program:={ PySem.Challenge.pw_putback_k56_top_and_boughs with main:={ (PySem.Challenge.pw_putback_k56_top_and_boughs).main with body:=top 1::top 2::top 3::top 4::top 6::top 7::top 8::top 10::top 11::top 12::top 13::top 14::top 15::top 16::top 17::top 18::top 19::top 21::top 22::top 23::top 24::top 25::top 27::top 28::top 30::top 31::top 32::top 33::top 35::top 36::top 37::top 38::top 39::top 40::top 41::top 42::top 43::top 44::top 45::top 46::top 47::top 48::top 49::top 50::top 51::top 52::top 53::top 54::[] } }
theorem nV (P:PySem.Params):ni=(KK P).map (·.1):=by kernel_rfl
noncomputable def Bm (w:PySem.World) (os:PySem.OsState):W.SharedT:=⟨Bl w.params,244,(W.boot_heap w.params).life,#[],W.boot_drawn,502,os⟩
noncomputable def nW (w:PySem.World) (os:PySem.OsState):W.SharedT:=⟨Gr w.params,549,(W.boot_heap w.params).life,#[],W.boot_drawn,943,os⟩
noncomputable def uz:List PySem.Stmt:=W.behindTheImports (W.OpenLaw.row PySem.Challenge.rw_putback_k56_top_and_boughs).prog
noncomputable def rh:PySem.Env:={ scope:=((W.OpenLaw.row PySem.Challenge.rw_putback_k56_top_and_boughs).prog).main.scope,locals:=PySem.mainNs,globals:=PySem.mainNs,cells:=[],code:=.ref 13,frame:=some 14 }
noncomputable def p9:PySem.Code:=.body (W.behindTheImports (W.OpenLaw.row PySem.Challenge.rw_putback_k56_top_and_boughs).prog) rh
open W PyProof.Rows in
theorem Gs:∀w os,rf (W.OpenLaw.row PySem.Challenge.rw_putback_k56_top_and_boughs).prog w 11 (some (.ref 6)) rh p9 ⟨0,0,0,0⟩ (uz.take 27) 12 1 5000 (rg w os)=some (⟨ll lu (.body (behindTheImports (W.OpenLaw.row PySem.Challenge.rw_putback_k56_top_and_boughs).prog) rh),p9,⟨0,0,0,0⟩,[topFrame ⟨0,0,0,0⟩]⟩,p9,p9,Bm w os,⟨150,0,150,8⟩):=by
 intro w os
 kernel_rfl
open W PyProof.Rows in
theorem Gu:∀w os,nU (W.OpenLaw.row PySem.Challenge.rw_putback_k56_top_and_boughs).prog w 11 (some (.ref 6)) 6000 (Bm w os) (restOf (uz.drop 27) rh p9 ⟨150,0,150,8⟩ [topFrame ⟨0,0,0,0⟩])=some (nW w os):=by
 intro w os
 kernel_rfl
open W PyProof.Rows in
theorem Gv:∀w os,(staticsOk (importedModules ((W.OpenLaw.row PySem.Challenge.rw_putback_k56_top_and_boughs).prog).main.body) (boot_heap w.params) (nW w os).abs.heap && namesBound (W.OpenLaw.row PySem.Challenge.rw_putback_k56_top_and_boughs).prog (nW w os).abs.heap && gensDone (nW w os).abs && laidKept (boot_heap w.params) (nW w os).abs.heap)=true:=by
 intro w os
 kernel_rfl
open W PyProof.Rows in
theorem Gw:∀w os,seenQ qv [] (importedModules ((W.OpenLaw.row PySem.Challenge.rw_putback_k56_top_and_boughs).prog).main.body) (λs=>xlAt qv [] s && recOk (RowW.records (W.OpenRow.toRowW (W.OpenLaw.row PySem.Challenge.rw_putback_k56_top_and_boughs))) s) true (nW w os).abs=openGood qv []:=by
 intro w os
 kernel_rfl
open W PyProof.Rows in
theorem Gx:∀w os,Hook.obs (W.kmHook Pb.KK Pb.ni Pb.nV [86,483,545]) (nW w os).abs=Hook.val (W.kmHook Pb.KK Pb.ni Pb.nV [86,483,545]) w:=by
 intro w os
 kernel_rfl
open W PyProof.Rows in
theorem said:PySem.Challenge.rw_putback_k56_top_and_boughs.wellSaid=true:=by
 delta OpenLaw.wellSaid OpenRow.wellSaid OpenRow.partSaid looksOpen
 repeat' (with_reducible refine look_both ?_ ?_)
 all_goals kernel_rfl
end Pb
namespace L2
open Spec PyProof.Rows
noncomputable abbrev Key:=Sum Int Str
noncomputable def oN:Key->Value->Bool
 | .inl k,v=>Value.isInt k v
 | .inr x,v=>Value.isStrOf x v
noncomputable def Gy (w:World):Key->Int
 | .inl k=>hashInt k
 | .inr x=>hashStr w x
theorem mC:∀{k:Key}{v:Value},oN k v=true->(∃i t,k=Sum.inl i/\v=Value.int i t)\/(∃x t,k=Sum.inr x/\v=Value.str x t)
 | .inl i,v,h=>by
   obtain⟨t,e⟩:=Value.isInt_shape (k:=i) (v:=v) h;exact .inl ⟨i,t,rfl,e⟩
 | .inr x,v,h=>by
   obtain⟨t,e⟩:=Value.isStrOf_shape (x:=x) (v:=v) h;exact .inr ⟨x,t,rfl,e⟩
theorem Gz (i:Int)(t:Tok):oN (.inl i) (.int i t)=true:=by simp[oN,Value.isInt]
theorem Bp (x:Str)(t:Tok):oN (.inr x) (.str x t)=true:=by simp[oN,Value.isStrOf]
theorem GA (a b:Int):decide ((Sum.inl a:Key)=Sum.inl b)=(a == b):=by
 by_cases e:a=b
 . subst e;simp
 . have h:¬(Sum.inl a:Key)=Sum.inl b:=λq=>e (Sum.inl.inj q);rw[decide_eq_false h];exact(beq_eq_false_iff_ne.mpr e).symm
theorem GB (a b:Str):decide ((Sum.inr a:Key)=Sum.inr b)=decide (a=b):=by
 by_cases e:a=b
 . subst e;simp
 . have h:¬(Sum.inr a:Key)=Sum.inr b:=λq=>e (Sum.inr.inj q);rw[decide_eq_false h,decide_eq_false e]
theorem GC (a:Int)(b:Str):decide ((Sum.inl a:Key)=Sum.inr b)=false:=decide_eq_false (λq=>nomatch q)
theorem GD (a:Str)(b:Int):decide ((Sum.inr a:Key)=Sum.inl b)=false:=decide_eq_false (λq=>nomatch q)
noncomputable def iV (prog:Program) (w:World):PySem.KeyKind prog w Key where
 is:=oN
 hash:=Gy w
 inj:=λv a b Y U=>by
  rcases mC Y with⟨i,t,rfl,rfl⟩|⟨x,t,rfl,rfl⟩
  . rcases mC U with⟨j,u,rfl,e⟩|⟨y,u,rfl,e⟩
    . injection e with J _;rw[J]
    . exact nomatch e
  . rcases mC U with⟨j,u,rfl,e⟩|⟨y,u,rfl,e⟩
    . exact nomatch e
    . injection e with J _;rw[J]
 byValue:=λk v h=>by
  rcases mC h with⟨i,t,rfl,rfl⟩|⟨x,t,rfl,rfl⟩ <;> rfl
 pyHash:=λL h=>by
  rcases mC L with⟨i,t,rfl,rfl⟩|⟨x,t,rfl,rfl⟩
  . exact wpAny_pyHash_int h
  . exact wpAny_pyHash_str h
 eqBool:=λhu L h=>by
  rcases mC hu with⟨i,t,rfl,rfl⟩|⟨x,t,rfl,rfl⟩
  . rcases mC L with⟨j,u,rfl,rfl⟩|⟨y,u,rfl,rfl⟩
    . rw[GA] at h;exact wpAny_eqBool_int h
    . rw[GC] at h;exact SeqAt.EqAt.int_str i t y u _ _ _ _ h
  . rcases mC L with⟨j,u,rfl,rfl⟩|⟨y,u,rfl,rfl⟩
    . rw[GD] at h;exact SeqAt.EqAt.str_int x t j u _ _ _ _ h
    . rw[GB] at h;exact wpAny_eqBool_str h
 «strs»:=λk x t v h=>by
  rcases mC h with⟨i,u,rfl,e⟩|⟨y,u,rfl,e⟩
  . exact nomatch e
  . injection e with J _
    subst J
    cases v <;> rfl
theorem GF (prog:Program)(w:World)(i:Int)(t:Tok):(iV prog w).is (.inl i) (.int i t)=true:=Gz i t
theorem GH (prog:Program)(w:World)(x:Str)(t:Tok):(iV prog w).is (.inr x) (.str x t)=true:=Bp x t
inductive V where
 |non|bl (b:Bool)|int (i:Int)|str (x:Str)|kK (b:Array UInt8)|flt (b:UInt64)|ref (a:Addr)|ty (n:String)
 deriving DecidableEq
def RelV:V->Value->Prop
 | .non,u=>u=Value.none
 | .bl b,u=>u=Value.bool b
 | .int i,u=>∃t,u=Value.int i t
 | .str x,u=>∃t,u=Value.str x t
 | .kK b,u=>∃t,u=Value.bytes b t
 | .flt b,u=>∃t,u=Value.float b t
 | .ref a,u=>u=Value.ref a
 | .ty n,u=>u=Value.type n
abbrev Vals:List V->List Value->Prop:=Paired RelV
theorem Vals.length {xs:List V}{us:List Value}(r:Vals xs us):xs.length=us.length:=Paired.length r
theorem Vals.get:∀{xs:List V}{us:List Value}{i:Nat}{x:V},Vals xs us->xs[i]? =some x->∃u,us[i]? =some u/\RelV x u
 |_,_,_,_,.nil,e=>by simp at e
 |_,_,0,_,.cons r _,e=>by simp at e;subst e;exact⟨_,rfl,r⟩
 |_,_,i+1,x,.cons _ t,e=>by
  obtain⟨u,h1,h2⟩:=Vals.get (i:=i) (x:=x) t (by simpa using e);exact⟨u,by simpa using h1,h2⟩
theorem Vals.set {x:V}{u:Value}(r:RelV x u):∀{xs:List V}{us:List Value}(i:Nat),Vals xs us->Vals (xs.set i x) (us.set i u)
 |_,_,_,.nil=>.nil
 |_,_,0,.cons _ t=>.cons r t
 |_,_,i+1,.cons q t=>.cons q (Vals.set r i t)
theorem Vals.append:∀{xs ys:List V}{us J:List Value},Vals xs us->Vals ys J->Vals (xs++ys) (us++J)
 |_,_,_,_,.nil,s=>s
 |_,_,_,_,.cons r t,s=>.cons r (Vals.append t s)
theorem Vals.take:∀{xs:List V}{us:List Value}(n:Nat),Vals xs us->Vals (xs.take n) (us.take n)
 |_,_,0,_=>.nil
 |_,_,_+1,.nil=>.nil
 |_,_,n+1,.cons r t=>.cons r (Vals.take n t)
theorem Vals.drop:∀{xs:List V}{us:List Value}(n:Nat),Vals xs us->Vals (xs.drop n) (us.drop n)
 |_,_,0,r=>r
 |_,_,_+1,.nil=>.nil
 |_,_,n+1,.cons _ t=>Vals.drop n t
theorem Vals.none_of:∀{xs:List V}{us:List Value}{i:Nat},Vals xs us->xs[i]? =none->us[i]? =none:=λ{xs us i} r e=>by
 have h1:=r.length;have h2:xs.length<=i:=List.getElem?_eq_none_iff.mp e;exact List.getElem?_eq_none_iff.mpr (by omega)
def jQ:Option V->Option Value->Prop
 |some v,some u=>RelV v u
 |none,none=>True
 |_,_=>False
def KV {κ:Type}:List (κ × V)->List (κ × Value)->Prop:=Paired λ(p:κ × V) (q:κ × Value)=>p.1=q.1/\RelV p.2 q.2
noncomputable def kV:Key->V
 | .inl i=>.int i
 | .inr x=>.str x
inductive HO where
 |lst (xs:List V)
 |tup (xs:List V)
 |dK (kvs:List (Key × V))|dT (kvs:List (List Key × V))
 |set (S:Int->Bool) (n:Nat)
 |ins (C dx:Addr) (fs:List (Str × V))
 |own (x:Addr)
 |xd (fs:List (Str × V))
 |met (f x:Addr)
 |rng (lo hi:Int)
 |j2 (o:Obj) (u:HO)
 |iQ (ps:Array Value)
 |ext (φ:Heap->Prop)
noncomputable abbrev Hp:=Addr->Option HO
noncomputable def upd (H:Hp) (a:Addr) (o:HO):Hp:=λb=>if b=a then some o else H b
theorem gu {H:Hp}{a:Addr}{o:HO}:upd H a o a=some o:=by unfold upd;rw[if_pos rfl]
theorem gj {H:Hp}{a b:Addr}{o:HO}(h:b≠a):upd H a o b=H b:=by unfold upd;rw[if_neg h]
theorem jK {H:Hp}{a b:Addr}{o u:HO}(h:H a=some o)(h':H b=some u)(d:o≠u):a≠b:=by
 intro e;subst e;rw[h] at h';exact d (Option.some.inj h')
theorem gB {H:Hp}{a b:Addr}{o:HO}(h:H a=some o)(h':H b=none):a≠b:=by
 intro e;subst e;rw[h] at h';cases h'
section
variable (P:Program)(w:World)
def iO (H:Hp) (h:Heap) (a:Addr):HO->Prop
 | .lst xs=>xs.length<=sizeLine/\∃(J:List Value) (n:Nat),Vals xs J/\h.get? a=some { cls:=.type "list",data:=.seq J.toArray n }
 | .tup xs=>xs.length<=sizeLine/\∃J:List Value,Vals xs J/\IsTup h a J.toArray
 | .dK kvs=>kvs.length<=sizeLine/\(a == sysModules)=false/\∃vs,KV kvs vs/\h.DictOf (iV P w) a vs
 | .dT kvs=>kvs.length<=sizeLine/\(a == sysModules)=false/\∃xs:List (List Key × Addr × Value),
    Paired (λ(p:List Key × V) (q:List Key × Addr × Value)=>p.1=q.1/\H q.2.1=some (.tup (p.1.map kV))/\RelV p.2 q.2.2) kvs xs/\
    ∃o es U,h.get? a=some o/\o.ExactDict/\o.data=.dict es U/\es.toList=xs.map (entryOfKey (tupleKind (iV P w)))/\(xs.map (·.1)).Nodup
 | .set S n=>h.SetOf (intKind P w) a S n
 | .ins C dx fs=>H dx=some (.own a)/\fs.length<=1000/\dx≠a/\h.get? a=some (W.instObj C dx)/\
    ∃mA,h.Ns1 dx mA/\(∀f,jQ (fs.lookup f) (mA f))/\PySem.Within mA (fs.map (·.1))
 | .own _=>∃o,h.get? a=some o
 | .xd fs=>∃mA,h.Ns1 a mA/\∀f,jQ (fs.lookup f) (mA f)
 | .rng lo hi=>∃t u v,h.get? a=some { cls:=.type "range",data:=.fields #[.int lo t,.int hi u,.int 1 v] }
 | .j2 o u=>h.get? a=some o/\iO H h a u
 | .iQ ps=>h.get? a=some { cls:=.none,data:=.fields ps }
 | .met f x=>h.get? a=some (W.methodObj (.ref f) (.ref x))
 | .ext L=>L h/\(∃o,h.get? a=some o)/\∀h1 h2:Heap,L h1->(∀o,h1.get? a=some o->h2.get? a=some o)->L h2
def iF (H:Hp) (h:Heap):Prop:=∀a o,H a=some o->iO P w H h a o
end
section
variable {P:Program}{w:World}{H H':Hp}{h h':Heap}{a:Addr}{o:HO}
theorem iO.lt (x:iO P w H h a o):a<h.objs.size:=by
 cases o with
 |lst xs=>obtain⟨_,_,_,_,e⟩:=x;exact Q03 e
 |tup xs=>obtain⟨_,_,_,p⟩:=x;exact p.lt
 |dK kvs=>obtain⟨_,_,_,_,o,_,_,e,_⟩:=x;exact Q03 e
 |dT kvs=>obtain⟨_,_,_,_,o,_,_,e,_⟩:=x;exact Q03 e
 |set S n=>obtain⟨o,_,_,_,e,_⟩:=x;exact Q03 e
 |ins C dx fs=>obtain⟨_,_,_,e,_⟩:=x;exact Q03 e
 |own y=>obtain⟨_,e⟩:=x;exact Q03 e
 |xd fs=>obtain⟨_,⟨_,_,_,e,_⟩,_⟩:=x;exact Q03 e
 |rng lo hi=>obtain⟨_,_,_,e⟩:=x;exact Q03 e
 |j2 J u=>obtain⟨e,_⟩:=x;exact Q03 e
 |iQ ps=>exact Q03 (show h.get? a=some _ from x)
 |met f y=>exact Q03 (show h.get? a=some _ from x)
 |ext L=>obtain⟨_,⟨_,e⟩,_⟩:=x;exact Q03 e
theorem Paired.rj {α J:Type}{F G:α->J->Prop}:∀{l₁:List α}{l₂:List J},Paired F l₁ l₂->(∀a b,F a b->G a b)->Paired G l₁ l₂
 |_,_,.nil,_=>.nil
 |_,_,.cons r t,f=>.cons (f _ _ r) (Paired.rj t f)
theorem iO.stay (x:iO P w H h a o)(k:∀b u,(b=a\/H b=some (.own a))->h.get? b=some u->h'.get? b=some u)
 (ho:∀b,H b=some (.own a)->H' b=some (.own a)) (ht:∀b xs,H b=some (.tup xs)->H' b=some (.tup xs)):iO P w H' h' a o:=by
 induction o with
 |lst xs=>obtain⟨z,U,n,r,e⟩:=x;exact⟨z,U,n,r,k _ _ (.inl rfl) e⟩
 |tup xs=>obtain⟨z,U,r,J,e,c⟩:=x;exact⟨z,U,r,J,k _ _ (.inl rfl) e,c⟩
 |dK kvs=>obtain⟨z,y,vs,r,J,es,L,e,c⟩:=x;exact⟨z,y,vs,r,J,es,L,k _ _ (.inl rfl) e,c⟩
 |dT kvs=>
  obtain⟨z,y,xs,r,J,es,L,e,c⟩:=x;exact⟨z,y,xs,Paired.rj r λp q z=>⟨z.1,ht _ _ z.2.1,z.2.2⟩,J,es,L,k _ _ (.inl rfl) e,c⟩
 |set S n=>obtain⟨J,es,L,t,e,c⟩:=x;exact⟨J,es,L,t,k _ _ (.inl rfl) e,c⟩
 |ins C dx fs=>
  obtain⟨d,z,ne,e,mA,⟨Y,es,L,e2,c⟩,r⟩:=x;exact⟨ho _ d,z,ne,k _ _ (.inl rfl) e,mA,⟨Y,es,L,k _ _ (.inr d) e2,c⟩,r⟩
 |own y=>obtain⟨J,e⟩:=x;exact⟨J,k _ _ (.inl rfl) e⟩
 |xd fs=>obtain⟨mA,⟨Y,es,L,e,c⟩,r⟩:=x;exact⟨mA,⟨Y,es,L,k _ _ (.inl rfl) e,c⟩,r⟩
 |rng lo hi=>obtain⟨t,u,v,e⟩:=x;exact⟨t,u,v,k _ _ (.inl rfl) e⟩
 |j2 J u ih=>obtain⟨e,q⟩:=x;exact⟨k _ _ (.inl rfl) e,ih q⟩
 |iQ ps=>
  have e:h.get? a=some { cls:=.none,data:=.fields ps }:=x;show h'.get? a=some { cls:=.none,data:=.fields ps };exact k a _ (.inl rfl) e
 |met f y=>
  have e:h.get? a=some (W.methodObj (.ref f) (.ref y)):=x;show h'.get? a=some (W.methodObj (.ref f) (.ref y));exact k a _ (.inl rfl) e
 |ext φ=>obtain⟨p,⟨o,e⟩,st⟩:=x;exact⟨st _ _ p λo q=>k _ _ (.inl rfl) q,⟨o,k _ _ (.inl rfl) e⟩,st⟩
theorem iF.lt (x:iF P w H h)(e:H a=some o):a<h.objs.size:=(x a o e).lt
theorem iF.fresh (x:iF P w H h)(e:h.objs.size<=a):H a=none:=by
 cases q:H a with
 |none=>rfl
 |some u=>exact absurd (Q0e (x.lt q) e) (Q0o _)
theorem iF.kept (x:iF P w H h)(k:∀b u,h.get? b=some u->h'.get? b=some u):iF P w H h':=λa o e=>
 (x a o e).stay (λb u _ q=>k b u q) (λ_ q=>q) λ_ _ q=>q
theorem iF.laid (x:iF P w H h)(k:∀b u,h.get? b=some u->h'.get? b=some u)(hp:h.objs.size<=a)(new:iO P w (upd H a o) h' a o):iF P w (upd H a o) h':=λb u e=>by
 have J:=x.fresh hp;by_cases L:b=a
 . subst L;rw[gu] at e;cases e;exact new
 . rw[gj L] at e;exact(x b u e).stay (λc v _ q=>k c v q) (λc q=>by rw[gj (gB q J)];exact q) λc xs q=>by rw[gj (gB q J)];exact q
end
def Rd (H:Hp) (a:Addr) (u:HO):Prop:=H a=some u\/∃o,H a=some (.j2 o u)
theorem Rd.ok {P:Program}{w:World}{H:Hp}{h:Heap}{a:Addr}{u:HO}(r:Rd H a u)(x:iF P w H h):iO P w H h a u:=by
 rcases r with r|⟨o,r⟩
 . exact x a u r
 . obtain⟨_,q⟩:=x a _ r;exact q
def p_:Option HO->Prop
 |some (.lst _)=>True
 |some (.dK _)=>True
 |some (.dT _)=>True
 |some (.set _ _)=>True
 |some (.ins _ _ _)=>True
 |some (.ext _)=>True
 |_=>False
section
variable {P:Program}{w:World}{H:Hp}{h h':Heap}{x e:Addr}{o':HO}
theorem iF.write (ok:iF P w H h)(mu:p_ (H x))(he:e=x\/H e=some (.own x))(k:∀b u,b≠e->h.get? b=some u->h'.get? b=some u)(aa:∃u,h'.get? e=some u)
 (new:iO P w (upd H x o') h' x o'):iF P w (upd H x o') h':=λb u q=>by
 have L:∀c y,H c=some (.own y)->c≠x:=λc y r z=>by subst z;rw[r] at mu;exact mu
 have U:∀c xs,H c=some (.tup xs)->c≠x:=λc xs r z=>by subst z;rw[r] at mu;exact mu
 by_cases Y:b=x
 . subst Y;rw[gu] at q;cases q;exact new
 . rw[gj Y] at q;by_cases J:b=e
   . have q':H b=some (.own x):=by
      rcases he with z|z
      . exact absurd (J.trans z) Y
      . rw[J];exact z
     rw[q] at q';cases q';obtain⟨v,hv⟩:=aa;exact⟨v,by rw[J];exact hv⟩
   . refine(ok b u q).stay (λc v hc r=>k c v ?_ r) (λc r=>by rw[gj (L c b r)];exact r) λc xs r=>by rw[gj (U c xs r)];exact r
     rcases hc with rfl|hc
     . exact J
     . rintro rfl;rcases he with z|z
       . exact L c b hc z
       . rw[hc] at z;cases z;exact Y rfl
end
structure Un (fs ex:List Addr) (H H':Hp) (h h':Heap):Prop where
 keep:∀b o,h.get? b=some o->H b=none->b ∉ fs->b ∉ ex->h'.get? b=some o
 slot:∀b o,h.get? b=some o->H b=none->b∈fs->b ∉ ex->∃sl,h'.get? b=some { o with slots:=sl }
 free:∀b o,h.get? b=some o->H b=none->b ∉ ex->H' b=none
 there:∀b o,h.get? b=some o->b ∉ ex->∃o',h'.get? b=some o'
 tups:∀b xs,H b=some (.tup xs)->H' b=some (.tup xs)
 kL:∀b o u,H b=some (.j2 o u)->H' b=some (.j2 o u)
 kM:∀b ps,H b=some (.iQ ps)->∃more,H' b=some (.iQ (ps++more))
section
variable {fs fs' ex ex':List Addr}{H H1 H2:Hp}{h h1 h2 h':Heap}{a x e:Addr}{o:HO}
theorem Un.any (u:Un fs ex H H1 h h1){b:Addr}{J:Obj}(q:h.get? b=some J)(n:H b=none)(L:b ∉ ex):∃Y,h1.get? b=some { J with slots:=Y }:=by
 by_cases U:b∈fs
 . exact u.slot b J q n U L
 . exact⟨J.slots,u.keep b J q n U L⟩
theorem Un.kept (k:∀b u,h.get? b=some u->h'.get? b=some u):Un fs ex H H h h':=
 ⟨λb J q _ _ _=>k b J q,λb J q _ _ _=>⟨J.slots,k b J q⟩,λ_ _ _ n _=>n,λb J q _=>⟨J,k b J q⟩,λ_ _ q=>q,λ_ _ _ q=>q,λ_ ps q=>⟨#[],by rw[q];simp⟩⟩
theorem Un.refl:Un fs ex H H h h:=Un.kept λ_ _ q=>q
theorem Un.laid (k:∀b u,h.get? b=some u->h'.get? b=some u)(hp:h.objs.size<=a)(J:H a=none):Un fs ex H (upd H a o) h h' where
 keep:=λb u q _ _ _=>k b u q
 slot:=λb u q _ _ _=>⟨u.slots,k b u q⟩
 free:=λb u q n _=>by rw[gj (Q0a (Q0e (Q03 q) hp))];exact n
 there:=λb u q _=>⟨u,k b u q⟩
 tups:=λb xs q=>by rw[gj (gB q J)];exact q
 kL:=λb u xs q=>by rw[gj (gB q J)];exact q
 kM:=λb ps q=>⟨#[],by rw[gj (gB q J),q];simp⟩
theorem Un.write (mu:p_ (H x))(he:e=x\/H e=some (.own x))(k:∀b u,b≠e->h.get? b=some u->h'.get? b=some u)(U:∃u,h'.get? e=some u):Un fs ex H (upd H x o) h h':=by
 have Y:∀b,H b=none->b≠x:=λb n z=>by subst z;rw[n] at mu;exact mu
 have hb:∀b,H b=none->b≠e:=λb n z=>by
  subst z;rcases he with r|r
  . exact Y b n r
  . rw[n] at r;cases r
 have L:∀b u,H b=some u->¬p_ (some u)->b≠x:=λb u q nm z=>by subst z;rw[q] at mu;exact nm mu
 refine⟨λb u q n _ _=>k b u (hb b n) q,λb u q n _ _=>⟨u.slots,k b u (hb b n) q⟩,λb u q n _=>by rw[gj (Y b n)];exact n,λb u q _=>?_,
  λb xs q=>by rw[gj (L b _ q λz=>z)];exact q,λb u xs q=>by rw[gj (L b _ q λz=>z)];exact q,λb ps q=>⟨#[],by rw[gj (L b _ q λz=>z),q];simp⟩⟩
 by_cases J:b=e
 . subst J;exact U
 . exact⟨u,k b u J q⟩
end
noncomputable def rl (h:Heap) (H:Hp):List Addr:=(List.range h.objs.size).filter λa=>(H a).isSome
noncomputable def lZ (h:Heap) (H:Hp):Heap:=W.hideAll h (rl h H)
theorem GI (h:Heap)(H:Hp):(lZ h H).objs.size=h.objs.size:=W.hideAll_size _ _
theorem GJ {h:Heap}{H:Hp}{b:Addr}{o:Obj}(e:h.get? b=some o)(n:H b=none):(lZ h H).get? b=some o:=
 W.hideAll_get _ e λJ=>by
   have q:(H b).isSome=true:=(List.mem_filter.mp J).2;rw[n] at q;simp at q
theorem GK {h:Heap}{H:Hp}{b:Addr}{o:Obj}(e:(lZ h H).get? b=some o):h.get? b=some o/\H b=none:=by
 have J:h.get? b=some o:=W.of_hideAll (rl h H) e;refine⟨J,?_⟩
 cases q:H b with
 |none=>rfl
 |some x=>
  have L:b∈rl h H:=List.mem_filter.mpr ⟨List.mem_range.mpr (Q03 J),by simp[q]⟩;have z:(lZ h H).get? b=none:=W.hideAll_none (rl h H) L;rw[z] at e;cases e
noncomputable def GL (g h:Heap) (L:Addr):List (Addr × Obj):=(List.range h.objs.size).filterMap λa=>if a=L\/(g.get? a).isSome=true then none else(h.get? a).map λo=>(a,o)
noncomputable def rest (g h:Heap) (L d:Addr):List (Addr × Obj):=(GL g h L).filter λp=>decide (p.1≠d)
structure Mod (K:W.Frag) (mg:Str->Option Value) (base:Heap):Prop where
 qa:K.In base
 glob:base.Ns mainGlobals mg
 blt:∃mb,base.Ns builtinsNs mb/\∀x:Str,x≠"__name__"->mb x=bootBuiltins x
 nolimit:base.NoLimit
structure Cx where
 prog:Program
 w:World
 K:W.Frag
 mg:Str->Option Value
 base:Heap
 A:Around
 N:List Str
 s₀:Shared
 H₀:Hp
 env:Env
 outer:List Env
 stack:List Env
 ex:List Addr
 fn:Str->Bool
 calm:Bool
 pn:List (Addr × Obj)
 xe:Value->Shared->Prop
noncomputable def frs (l:List Env):List Addr:=l.filterMap (·.frame)
noncomputable abbrev Cx.fs (X:Cx):List Addr:=frs X.outer
def uA (sc:Scope) (x:Str):Prop:=sc.names.lookup x=some .local\/sc.names.lookup x=some .cell\/sc.names.lookup x=some .free
def Loc (sc:Scope) (x:Str):Prop:=sc.names.lookup x=some .local\/sc.names.lookup x=some .cell
def Look (env:Env) (h:Heap) (m:Str->Option Value) (x:Str) (u:Value):Prop:=
 (env.kindOf x=some .local/\m x=some u)\/((env.kindOf x=some .cell\/env.kindOf x=some .free)/\∃c,env.cells.lookup x=some c/\h.IsCell c (some u))
structure Cx.Ok (X:Cx):Prop where
 mod:Mod X.K X.mg X.base
 kind:X.env.scope.kind=.function
 glob:X.env.globals=mainGlobals
 blt:X.env.builtins=builtinsNs
 above:X.s₀.heap.objs.size<=X.env.locals
 inj:∀x y c,X.env.cells.lookup x=some c->X.env.cells.lookup y=some c->x=y
 has:∀x,(X.env.kindOf x=some .cell\/X.env.kindOf x=some .free)->∃c,X.env.cells.lookup x=some c
 cab:∀x c,X.fn x=true->X.env.cells.lookup x=some c->X.s₀.heap.objs.size<=c
 hd:X.calm=true->X.A.handled=none
 frames:X.A.frames=some X.stack
 stk:X.stack=X.outer\/(X.stack=X.env::X.outer/\X.env.frame=some X.env.locals)
 uB:∀b∈X.ex,b≠X.env.locals/\∀x c,X.env.cells.lookup x=some c->c≠b
 bs:∀b o,X.base.get? b=some o->X.s₀.heap.get? b=some o/\X.H₀ b=none
 lx:X.base.objs.size<=X.s₀.heap.objs.size
 oO:∀b o,X.base.get? b=some o->b ∉ X.ex
 qc:∀b∈X.ex,b ∉ X.fs
 kq:X.s₀.heap.FunFrames X.base X.outer
 nj:∀b∈X.fs,X.H₀ b=none
structure Inv (X:Cx) (pins:List (Addr × Obj)) (σ:List (Option V)) (H:Hp) (s:Shared):Prop where
 ok:X.Ok
 os:s.os=X.s₀.os
 bare:AllBare s.gens
 base:Un X.fs X.ex X.H₀ H X.s₀.heap s.heap
 loc:∃m,s.heap.Ns X.env.locals m/\∀(i:Nat) (x:Str) (v:V),X.N[i]? =some x->σ[i]? =some (some v)->uA X.env.scope x->∃u,RelV v u/\Look X.env s.heap m x u
 cell:∀x c,X.env.cells.lookup x=some c->∃v,s.heap.IsCell c v
 free:H X.env.locals=none
 j3:∀x c,X.env.cells.lookup x=some c->H c=none
 pin:∀p∈X.pn++pins,s.heap.get? p.1=some p.2/\H p.1=none/\p.1≠X.env.locals/\p.1 ∉ X.fs/\∀v,p.2.data≠ .cell v
 hok:iF X.prog X.w H s.heap
 len:σ.length=X.N.length
section
variable {X:Cx}{pins:List (Addr × Obj)}{σ:List (Option V)}{H H':Hp}{s:Shared}{h':Heap}
theorem Cx.Ok.GN (ok:X.Ok){b:Addr}{o:Obj}(e:X.base.get? b=some o):b ∉ X.fs:=λJ=>by
 have:=(ok.kq.mem J).1;rw[e] at this;cases this
theorem Inv.bs (I:Inv X pins σ H s):∀b o,X.base.get? b=some o->s.heap.get? b=some o/\H b=none:=λb o e=>
 ⟨I.base.keep b o (I.ok.bs b o e).1 (I.ok.bs b o e).2 (I.ok.GN e) (I.ok.oO b o e),I.base.free b o (I.ok.bs b o e).1 (I.ok.bs b o e).2 (I.ok.oO b o e)⟩
theorem Inv.bk (I:Inv X pins σ H s):∀b o,X.base.get? b=some o->s.heap.get? b=some o:=λb o e=>(I.bs b o e).1
theorem Inv.mod (I:Inv X pins σ H s):Mod X.K X.mg X.base:=I.ok.mod
theorem Inv.iW (I:Inv X pins σ H s):X.K.In s.heap:=I.ok.mod.qa.keeps I.bk
theorem Inv.nolimit (I:Inv X pins σ H s):s.heap.NoLimit:=I.ok.mod.nolimit.keeps I.bk
theorem Inv.lt (I:Inv X pins σ H s):X.env.locals<s.heap.objs.size:=let⟨_,J,_⟩:=I.loc;J.lt
theorem Inv.sz (I:Inv X pins σ H s):X.s₀.heap.objs.size<=s.heap.objs.size:=Q0g I.ok.above (Q0q I.lt)
theorem Inv.oP (I:Inv X pins σ H s){a:Addr}(h:s.heap.objs.size<=a):a ∉ X.fs:=λJ=>by
 obtain⟨_,o,L,_⟩:=I.ok.kq.mem J;exact absurd (Q0e (Q03 L) (Q0g I.sz h)) (Q0o _)
theorem Inv.ly (I:Inv X pins σ H s):∀x c,X.env.cells.lookup x=some c->c≠X.env.locals:=λx c e z=>by
 obtain⟨v,o,U,Y⟩:=I.cell x c e;obtain⟨m,⟨o',es,ep,J,L,_⟩,_⟩:=I.loc;rw[z,J] at U;cases U;rw[L] at Y;cases Y
theorem Inv.kq (I:Inv X pins σ H s):s.heap.FunFrames X.base X.outer:=by
 have all:∀(l:List Env),(∀b∈frs l,b∈X.fs)->X.s₀.heap.FunFrames X.base l->s.heap.FunFrames X.base l:=by
  intro l
  induction l with
  |nil=>intro _ _;trivial
  |cons env r ih=>
   intro hs hl;obtain⟨hk,⟨L,o,J,hn,ho,hd⟩,hr⟩:=hl;have U:L∈X.fs:=hs L (by unfold frs;rw[Q26,J];exact Q02);obtain⟨sl,e⟩:=I.base.slot L o ho (I.ok.nj L U) U λz=>I.ok.qc L z U;exact⟨hk,⟨L,_,J,hn,e,hd⟩,ih (λb Y=>hs b (by unfold frs;rw[Q26,J];exact Q06 _ Y)) hr⟩
 exact all X.outer (λ_ Y=>Y) I.ok.kq
theorem Inv.stack (I:Inv X pins σ H s):s.heap.FunFrames X.base X.stack:=by
 rcases I.ok.stk with e|⟨e,J⟩
 . rw[e];exact I.kq
 . rw[e];obtain⟨m,L,_⟩:=I.loc;refine .cons (by rw[I.ok.kind];decide) J L ?_ I.kq;exact Heap.get?_none_of_le (Q0g I.ok.lx I.ok.above)
theorem Inv.qd (I:Inv X pins σ H s):∀b∈frs X.stack,b∈X.env.locals::X.fs:=λb J=>by
 rcases I.ok.stk with e|⟨e,L⟩
 . rw[e] at J;exact Q06 _ J
 . rw[e] at J;unfold frs at J;rw[Q26,L] at J;exact J
theorem Inv.rm (I:Inv X pins σ H s):∀b∈frs X.stack,H b=none:=λb J=>by
 rcases List.mem_cons.mp (I.qd b J) with e|J
 . rw[e];exact I.free
 . obtain⟨_,o,L,_⟩:=I.ok.kq.mem J;exact I.base.free b o L (I.ok.nj b J) λz=>I.ok.qc b z J
theorem Inv.step {g':Array GenState}{t':Nat}{d':Drawn}{ch:List Addr}(I:Inv X pins σ H s)
 (L:∀b∈ch,(b∈X.ex\/X.s₀.heap.objs.size<=b)/\b≠X.env.locals/\(∀x c,X.env.cells.lookup x=some c->c≠b)/\∀p∈X.pn++pins,p.1≠b)
 (keep:∀b o,b≠X.env.locals->b ∉ X.fs->b ∉ ch->s.heap.get? b=some o->H b=none->h'.get? b=some o)
 (slot:∀b o,b≠X.env.locals->b∈X.fs->b ∉ ch->s.heap.get? b=some o->H b=none->∃sl,h'.get? b=some { o with slots:=sl }) (free:∀b o,b ∉ ch->s.heap.get? b=some o->H b=none->H' b=none)
 (there:∀b o,b ∉ ch->s.heap.get? b=some o->∃o',h'.get? b=some o')
 (tups:∀b xs,H b=some (.tup xs)->H' b=some (.tup xs)) (kL:∀b o u,H b=some (.j2 o u)->H' b=some (.j2 o u)) (kM:∀b ps,H b=some (.iQ ps)->∃ac,H' b=some (.iQ (ps++ac)))
 (ns:∀m,s.heap.Ns X.env.locals m->h'.Ns X.env.locals m) (ae:iF X.prog X.w H' h') (hg:AllBare g'):
 Inv X pins σ H' { s with heap:=h',gens:=g',drawn:=d',toks:=t' }:=by
 have ab:∀b o,X.s₀.heap.get? b=some o->b≠X.env.locals:=λb o e=>Q0a (Q0e (Q03 e) I.ok.above)
 have aa:∀b o,X.s₀.heap.get? b=some o->b ∉ X.ex->b ∉ ch:=λb o e J hb=>by
  rcases(L b hb).1 with z|z
  . exact J z
  . exact absurd (Q0e (Q03 e) z) (Q0o _)
 have Y:∀x c,X.env.cells.lookup x=some c->∀v,s.heap.IsCell c v->h'.IsCell c v:=λx c e v ⟨o,ho,hd⟩=>by
  have U:c ∉ ch:=λz=>(L c z).2.2.1 x c e rfl;by_cases hc:c∈X.fs
  . obtain⟨sl,q⟩:=slot c o (I.ly x c e) hc U ho (I.j3 x c e);exact⟨_,q,hd⟩
  . exact⟨o,keep c o (I.ly x c e) hc U ho (I.j3 x c e),hd⟩
 refine⟨I.ok,I.os,hg,⟨λb o e n hb J=>?_,λb o e n hb J=>?_,λb o e n J=>?_,λb o e J=>?_,λb xs e=>tups b xs (I.base.tups b xs e),λb o xs e=>kL b o xs (I.base.kL b o xs e),λb ps e=>?_⟩,?_,λx c e=>?_,?_,λx c e=>?_,λp hp=>?_,ae,I.len⟩
 . exact keep b o (ab b o e) hb (aa b o e J) (I.base.keep b o e n hb J) (I.base.free b o e n J)
 . obtain⟨sl,e1⟩:=I.base.slot b o e n hb J;obtain⟨af,e2⟩:=slot b _ (ab b o e) hb (aa b o e J) e1 (I.base.free b o e n J);exact⟨af,e2⟩
 . obtain⟨o',e1⟩:=I.base.there b o e J;exact free b o' (aa b o e J) e1 (I.base.free b o e n J)
 . obtain⟨o',e1⟩:=I.base.there b o e J;exact there b o' (aa b o e J) e1
 . obtain⟨m1,e1⟩:=I.base.kM b ps e;obtain⟨m2,e2⟩:=kM b _ e1;exact⟨m1++m2,by rw[e2,Array.append_assoc]⟩
 . obtain⟨m,hn,hl⟩:=I.loc;refine⟨m,ns m hn,λi x v e1 e2 e3=>?_⟩;obtain⟨u,r,l⟩:=hl i x v e1 e2 e3;refine⟨u,r,?_⟩;rcases l with l|⟨k,c,e,z⟩
   . exact .inl l
   . exact .inr ⟨k,c,e,Y x c e _ z⟩
 . obtain⟨v,z⟩:=I.cell x c e;exact⟨v,Y x c e v z⟩
 . obtain⟨m,⟨o,_,_,ho,_⟩,_⟩:=I.loc;exact free _ o (λz=>(L _ z).2.1 rfl) ho I.free
 . obtain⟨v,o,ho,hd⟩:=I.cell x c e;exact free c o (λz=>(L c z).2.2.1 x c e rfl) ho (I.j3 x c e)
 . obtain⟨e,n,ne,nf,d⟩:=I.pin p hp;have U:p.1 ∉ ch:=λz=>(L p.1 z).2.2.2 p hp rfl;exact⟨keep p.1 p.2 ne nf U e n,free p.1 p.2 U e n,ne,nf,d⟩
theorem Inv.un {t':Nat}(I:Inv X pins σ H s)(u:Un X.fs [] H H' s.heap h')(U:iF X.prog X.w H' h'):Inv X pins σ H' { s with heap:=h',toks:=t' }:=by
 obtain⟨m,⟨o,es,ep,ho,r⟩,_⟩:=id I.loc;obtain⟨sl,hL⟩:=u.any ho I.free (by simp)
 exact I.step (g':=s.gens) (d':=s.drawn) (ch:=[]) (λ_ z=>nomatch z) (λb o _ L _ e n=>u.keep b o e n L (by simp)) (λb o _ L _ e n=>u.slot b o e n L (by simp)) (λb o _ e n=>u.free b o e n (by simp)) (λb o _ e=>u.there b o e (by simp)) u.tups u.kL u.kM (λm' hm=>by
  obtain⟨o',Y,aa,J,r'⟩:=hm;rw[ho] at J;cases J;exact⟨_,Y,aa,hL,r'⟩) U I.bare
theorem Inv.call {g':Array GenState}{t':Nat}{d':Drawn}{ch:List Addr}(I:Inv X pins σ H s)(u:Un (frs X.stack) ch H H' s.heap h')(Y:iF X.prog X.w H' h')(hg:AllBare g')
 (J:∀b∈ch,(b∈X.ex\/X.s₀.heap.objs.size<=b)/\b≠X.env.locals/\(∀x c,X.env.cells.lookup x=some c->c≠b)/\∀p∈X.pn++pins,p.1≠b):
 Inv X pins σ H' { s with heap:=h',gens:=g',drawn:=d',toks:=t' }:=by
 obtain⟨m,⟨o,es,ep,ho,r⟩,_⟩:=id I.loc;obtain⟨sl,U⟩:=u.any ho I.free λz=>(J _ z).2.1 rfl
 exact I.step (ch:=ch) J (λb o U hb hc e n=>u.keep b o e n (λz=>(List.mem_cons.mp (I.qd b z)).elim U hb) hc) (λb o _ _ hc e n=>u.any e n hc) (λb o hc e n=>u.free b o e n hc) (λb o hc e=>u.there b o e hc) u.tups u.kL u.kM (λm' hm=>by
  obtain⟨o',aa,ab,L,r'⟩:=hm;rw[ho] at L;cases L;exact⟨_,aa,ab,U,r'⟩) Y hg
theorem Inv.turned {t':Nat}{it:Addr}(I:Inv X pins σ H s)(k:∀b o,b≠it->s.heap.get? b=some o->h'.get? b=some o)(U:H it=none)(L:it≠X.env.locals)
 (h1:it∈X.ex\/X.s₀.heap.objs.size<=it) (h2:∀x c,X.env.cells.lookup x=some c->c≠it) (Y:∀p∈X.pn++pins,p.1≠it):Inv X pins σ H { s with heap:=h',toks:=t' }:=by
 have J:∀b u,H b=some u->b≠it:=λb u e z=>by rw[z,U] at e;cases e
 refine I.step (g':=s.gens) (d':=s.drawn) (ch:=[it]) (λb hb=>?_) (λb o _ _ hc e _=>k b o (λz=>hc (by simp[z])) e) (λb o _ _ hc e _=>⟨o.slots,k b o (λz=>hc (by simp[z])) e⟩) (λ_ _ _ _ n=>n)
  (λb o hc e=>⟨o,k b o (λz=>hc (by simp[z])) e⟩) (λ_ _ e=>e) (λ_ _ _ e=>e) (λb ps e=>⟨#[],by rw[e];simp⟩) (λm hm=>?_) (λb u e=>?_) I.bare
 . have e:b=it:=by simpa using hb
   subst e;exact⟨h1,L,h2,Y⟩
 . obtain⟨o,es,ep,ho,r⟩:=hm;exact⟨o,es,ep,k _ o (Ne.symm L) ho,r⟩
 . refine(I.hok b u e).stay (λc v hc q=>k c v ?_ q) (λ_ q=>q) λ_ _ q=>q;rcases hc with z|z
   . rw[z];exact J b u e
   . exact J c _ z
theorem Inv.tok (I:Inv X pins σ H s)(t:Nat):Inv X pins σ H { s with toks:=t }:=I.un (h':=s.heap) (t':=t) Un.refl I.hok
theorem Inv.kept {t':Nat}(I:Inv X pins σ H s)(k:∀b u,s.heap.get? b=some u->h'.get? b=some u):Inv X pins σ H { s with heap:=h',toks:=t' }:=I.un (Un.kept k) (I.hok.kept k)
theorem Inv.laid {a:Addr}{o:HO}{t':Nat}(I:Inv X pins σ H s)(k:∀b u,s.heap.get? b=some u->h'.get? b=some u)(hp:s.heap.objs.size<=a)(new:iO X.prog X.w (upd H a o) h' a o):
 Inv X pins σ (upd H a o) { s with heap:=h',toks:=t' }:=I.un (Un.laid k hp (I.hok.fresh hp)) (I.hok.laid k hp new)
theorem Inv.write {x e:Addr}{o:HO}{t':Nat}(I:Inv X pins σ H s)(mu:p_ (H x))(L:e=x\/H e=some (.own x))(k:∀b u,b≠e->s.heap.get? b=some u->h'.get? b=some u)(J:∃u,h'.get? e=some u)
 (new:iO X.prog X.w (upd H x o) h' x o):Inv X pins σ (upd H x o) { s with heap:=h',toks:=t' }:=I.un (Un.write mu L k J) (I.hok.write mu L k J new)
theorem Inv.weak {J:List (Option V)}(I:Inv X pins σ H s)(hl:J.length=σ.length)(w:∀(i:Nat) v,J[i]? =some (some v)->σ[i]? =some (some v)):Inv X pins J H s:=
 ⟨I.ok,I.os,I.bare,I.base,let⟨m,U,L⟩:=I.loc;⟨m,U,λi x v Y e2 e3=>L i x v Y (w i v e2) e3⟩,I.cell,I.free,I.j3,I.pin,I.hok,hl.trans I.len⟩
theorem Inv.nX {J:List (Addr × Obj)}(I:Inv X pins σ H s)(h:∀p∈J,s.heap.get? p.1=some p.2/\H p.1=none/\p.1≠X.env.locals/\p.1 ∉ X.fs/\∀v,p.2.data≠ .cell v):Inv X J σ H s:=
 ⟨I.ok,I.os,I.bare,I.base,I.loc,I.cell,I.free,I.j3,λp hp=>(List.mem_append.mp hp).elim (λz=>I.pin p (Q0u _ z)) (h p),I.hok,I.len⟩
theorem uC {N:List Str}(J:N.Nodup){i j:Nat}{x:Str}(a:N[i]? =some x)(b:N[j]? =some x):i=j:=by
 obtain⟨h1,L⟩:=List.getElem?_eq_some_iff.mp a;obtain⟨h2,U⟩:=List.getElem?_eq_some_iff.mp b;exact(Q1v J).mp (L.trans U.symm)
theorem GO {M:Model}{A:Around}{E:Value->Shared->Prop}{i:Nat}{x:Str}{v:V}{u:Value}{Q:Unit->Shared->Prop}(I:Inv X pins σ H s)(hN:X.N.Nodup)(hi:X.N[i]? =some x)(Y:Loc X.env.scope x)(r:RelV v u)
 (h:∀s',Inv X pins (σ.set i (some v)) H s'->(∃a,Heap.SameBut a s.heap s'.heap/\(a=X.env.locals\/X.env.cells.lookup x=some a))->Q () s') (hf:X.fn x=true\/X.env.scope.names.lookup x=some .local:=by first|exact .inl rfl|exact .inr rfl|assumption):wpAny M A (storeName X.env x u) Q E s:=by
 obtain⟨m,hn,hl⟩:=id I.loc;have ah:(X.env.scope.kind == .class || (X.env.scope.kind == .module && X.env.locals != X.env.globals))=false:=by rw[I.ok.kind];rfl
 have ab:i<σ.length:=by rw[I.len];exact(List.getElem?_eq_some_iff.mp hi).1
 have ly:=I.ly
 have U:∀{a:Addr} {h':Heap},(∃o,s.heap.get? a=some o/\H a=none)->Heap.SameBut a s.heap h'->iF X.prog X.w H h':=λ{a h'} ha J b ob e=>by
  obtain⟨_,_,aa⟩:=ha;refine(I.hok b ob e).stay (λc w' hc q=>(J.2 c ?_).trans q) (λ_ q=>q) λ_ _ q=>q;rintro rfl;rcases hc with rfl|hc
  . rw[aa] at e;cases e
  . rw[aa] at hc;cases hc
 rcases Y with hk|hk
 . refine wpAny_storeName_local hk hn (λh' aj J=>?_) ah;obtain⟨oL,_,_,ak,_⟩:=id hn;refine h _ ⟨I.ok,I.os,I.bare,⟨λb o e n hb Y=>?_,λb o e n hb Y=>?_,I.base.free,λb o e Y=>?_,I.base.tups,I.base.kL,I.base.kM⟩,⟨_,aj,λj y v' L e2 e3=>?_⟩,λy c e=>?_,I.free,I.j3,λp hp=>?_,U ⟨oL,ak,I.free⟩ J,by simpa using I.len⟩ ⟨_,J,.inl rfl⟩
   . exact(J.2 b (Q0a (Q0e (Q03 e) I.ok.above))).trans (I.base.keep b o e n hb Y)
   . obtain⟨sl,L⟩:=I.base.slot b o e n hb Y;exact⟨sl,(J.2 b (Q0a (Q0e (Q03 e) I.ok.above))).trans L⟩
   . obtain⟨o',L⟩:=I.base.there b o e Y;exact⟨o',(J.2 b (Q0a (Q0e (Q03 e) I.ok.above))).trans L⟩
   . by_cases hj:j=i
     . subst hj;rw[hi] at L;cases L;rw[Q27 ab] at e2
       cases e2;exact⟨u,r,.inl ⟨hk,by simp⟩⟩
     . rw[Q28 (Ne.symm hj)] at e2;obtain⟨u',r',q⟩:=hl j y v' L e2 e3;refine⟨u',r',?_⟩;rcases q with⟨k,e⟩|⟨k,c,e,z⟩
       . refine .inl ⟨k,?_⟩;have:y≠x:=λe=>hj (uC hN L (e ▸ hi));simp[this,e]
       . exact .inr ⟨k,c,e,z.sameBut J (ly y c e)⟩
   . obtain⟨w',z⟩:=I.cell y c e;exact⟨w',z.sameBut J (ly y c e)⟩
   . obtain⟨e,n,ne,nf,d⟩:=I.pin p hp;exact⟨(J.2 p.1 ne).trans e,n,ne,nf,d⟩
 . have ac:X.fn x=true:=by
    rcases hf with z|z
    . exact z
    . rw[z] at hk;cases hk
   obtain⟨c,hc⟩:=I.ok.has x (.inl hk);obtain⟨w',z⟩:=I.cell x c hc;refine wpAny_storeName_cell I.ok.kind hk hc z (λh' ae J=>?_);obtain⟨oc,af,ai⟩:=id z;refine h { s with heap:=h' } ⟨I.ok,I.os,I.bare,⟨λb o e n hb Y=>?_,λb o e n hb Y=>?_,I.base.free,λb o e Y=>?_,I.base.tups,I.base.kL,I.base.kM⟩,⟨m,hn.sameBut J (Ne.symm (ly x c hc)),λj y v' L e2 e3=>?_⟩,λy c' e=>?_,I.free,I.j3,λp hp=>?_,U ⟨oc,af,I.j3 x c hc⟩ J,by simpa using I.len⟩ ⟨c,J,.inr hc⟩
   . exact(J.2 b (Q0a (Q0e (Q03 e) (I.ok.cab x c ac hc)))).trans (I.base.keep b o e n hb Y)
   . obtain⟨sl,L⟩:=I.base.slot b o e n hb Y;exact⟨sl,(J.2 b (Q0a (Q0e (Q03 e) (I.ok.cab x c ac hc)))).trans L⟩
   . obtain⟨o',L⟩:=I.base.there b o e Y;exact⟨o',(J.2 b (Q0a (Q0e (Q03 e) (I.ok.cab x c ac hc)))).trans L⟩
   . by_cases hj:j=i
     . subst hj;rw[hi] at L;cases L;rw[Q27 ab] at e2
       cases e2;exact⟨u,r,.inr ⟨.inl hk,c,hc,ae⟩⟩
     . rw[Q28 (Ne.symm hj)] at e2;obtain⟨u',r',q⟩:=hl j y v' L e2 e3;refine⟨u',r',?_⟩;rcases q with q|⟨k,c',e,z'⟩
       . exact .inl q
       . refine .inr ⟨k,c',e,z'.sameBut J ?_⟩;rintro rfl;exact hj (uC hN L (I.ok.inj _ _ _ e hc ▸ hi))
   . by_cases ag:c'=c
     . subst ag;exact⟨_,ae⟩
     . obtain⟨w2,z2⟩:=I.cell y c' e;exact⟨w2,z2.sameBut J ag⟩
   . obtain⟨e,n,ne,nf,d⟩:=I.pin p hp;refine⟨(J.2 p.1 ?_).trans e,n,ne,nf,d⟩;intro q;rw[q,af] at e;have q':oc=p.2:=Option.some.inj e;exact d w' (by rw[<-q'];exact ai)
theorem rn {M:Model}{A:Around}{E:Value->Shared->Prop}{i:Nat}{x:Str}{v:V}{u:Value}{Q:Unit->Shared->Prop}(I:Inv X pins σ H s)(J:X.N.Nodup)(hi:X.N[i]? =some x)(L:Loc X.env.scope x)(r:RelV v u)
 (h:∀s',Inv X pins (σ.set i (some v)) H s'->Q () s') (U:X.fn x=true\/X.env.scope.names.lookup x=some .local:=by first|exact .inl rfl|exact .inr rfl|assumption):wpAny M A (storeName X.env x u) Q E s:=
 GO I J hi L r (λs' Y _=>h s' Y) U
theorem Inv.call' {s':Shared}{ch:List Addr}(I:Inv X pins σ H s)(U:s'.os=s.os)(u:Un (frs X.stack) ch H H' s.heap s'.heap)(J:iF X.prog X.w H' s'.heap)(Y:AllBare s'.gens)
 (L:∀b∈ch,(b∈X.ex\/X.s₀.heap.objs.size<=b)/\b≠X.env.locals/\(∀x c,X.env.cells.lookup x=some c->c≠b)/\∀p∈X.pn++pins,p.1≠b):Inv X pins σ H' s':=by
 obtain⟨h',g',d',t',o'⟩:=s';have e:o'=s.os:=U;subst e;exact I.call (g':=g') (t':=t') (d':=d') u J Y L
end
noncomputable abbrev XK:=Value->Option Addr->Hp->Prop
noncomputable abbrev St:=List (Option V)
noncomputable abbrev VK:=V->Hp->Prop
noncomputable abbrev TE:=St->Hp->VK->Prop
noncomputable abbrev TT:=St->Hp->(Bool->Hp->Prop)->Prop
noncomputable abbrev TA:=St->Hp->(List V->Hp->Prop)->Prop
structure Ends where
 nx:St->Hp->Prop
 rt:VK
 bk:St->Hp->Prop:=λ_ _=>False
 ct:St->Hp->Prop:=λ_ _=>False
noncomputable abbrev TS:=Ends->St->Hp->Prop
def EP (X:Cx) (pins:List (Addr × Obj)) (σ:St) (Q:VK) (u:Value) (s':Shared):Prop:=∃v H',Inv X pins σ H' s'/\RelV v u/\Q v H'
def TP (X:Cx) (pins:List (Addr × Obj)) (σ:St) (Q:Bool->Hp->Prop) (b:Bool) (s':Shared):Prop:=∃H',Inv X pins σ H' s'/\Q b H'
def AP (X:Cx) (pins:List (Addr × Obj)) (σ:St) (Q:List V->Hp->Prop) (us:List Value) (s':Shared):Prop:=∃vs H',Inv X pins σ H' s'/\Vals vs us/\Q vs H'
def SP (X:Cx) (pins:List (Addr × Obj)) (D:Ends) (f:Flow) (s':Shared):Prop:=
 match f with
 | .next=>∃J H',Inv X pins J H' s'/\D.nx J H'
 | .brk=>∃J H',Inv X pins J H' s'/\D.bk J H'
 | .cont=>∃J H',Inv X pins J H' s'/\D.ct J H'
 | .ret u=>∃v J H',Inv X pins J H' s'/\RelV v u/\D.rt v H'
def PE (X:Cx) (e:Expr) (t:TE):Prop:=
 ∀(pins:List (Addr × Obj)) (s:Shared) (σ:St) (H:Hp) (Q:VK),Inv X pins σ H s->t σ H Q->wpAny (model X.prog X.w) X.A (eval e X.env) (EP X pins σ Q) X.xe s
def PT (X:Cx) (e:Expr) (t:TT):Prop:=
 ∀(pins:List (Addr × Obj)) (s:Shared) (σ:St) (H:Hp) (Q:Bool->Hp->Prop),Inv X pins σ H s->t σ H Q->wpAny (model X.prog X.w) X.A (isTrue e X.env (eval e X.env)) (TP X pins σ Q) X.xe s
def PW (X:Cx) (e:Expr) (t:TT):Prop:=
 ∀(J:Sem Value) (pins:List (Addr × Obj)) (s:Shared) (σ:St) (H:Hp) (Q:Bool->Hp->Prop),Inv X pins σ H s->t σ H Q->wpAny (model X.prog X.w) X.A (isTrue e X.env J) (TP X pins σ Q) X.xe s
theorem PW.pt {X:Cx}{e:Expr}{t:TT}(h:PW X e t):PT X e t:=h _
def PA (X:Cx) (es:List Expr) (t:TA):Prop:=
 ∀(pos:Pos) (pins:List (Addr × Obj)) (s:Shared) (σ:St) (H:Hp) (Q:List V->Hp->Prop),Inv X pins σ H s->t σ H Q->wpAny (model X.prog X.w) X.A (spliced (backTo pos (starEach es X.env))) (AP X pins σ Q) X.xe s
def PS (X:Cx) (st:Stmt) (t:TS):Prop:=
 ∀(pins:List (Addr × Obj)) (s:Shared) (σ:St) (H:Hp) (D:Ends),Inv X pins σ H s->t D σ H->wpAny (model X.prog X.w) X.A (exec st X.env) (SP X pins D) X.xe s
def j4 (X:Cx) (st:List Stmt) (t:TS):Prop:=
 ∀(pins:List (Addr × Obj)) (s:Shared) (σ:St) (H:Hp) (D:Ends),Inv X pins σ H s->t D σ H->wpAny (model X.prog X.w) X.A (execs st X.env) (SP X pins D) X.xe s
theorem gG {α:Type}{t:Sem α}{Q J:α->Shared->Prop}{M:Model}{A:Around}{E:Value->Shared->Prop}{s:Shared}(h:wpAny M A t Q E s)(L:∀a s,Q a s->J a s):wpAny M A t J E s:=Q0n h L λ_ _ x=>x
section
variable {X:Cx}
def ik (i:Nat):TE:=λσ H Q=>∃v,σ[i]? =some (some v)/\Q v H
def tC (v:V):TE:=λ_ H Q=>Q v H
theorem GP {i:Nat}{x:Str}{pos:Pos}(Y:X.N[i]? =some x)(hv:uA X.env.scope x)(L:(x == ("__debug__":Str))=false:=by decide)(U:(x == ("__classdict__":Str))=false:=by decide):PE X (.Name x pos) (ik i):=by
 intro pins s σ H Q I h;obtain⟨v,e,h⟩:=h;obtain⟨m,hn,hl⟩:=I.loc;obtain⟨u,r,l⟩:=hl i x v Y e hv;have fin:EP X pins σ Q u s:=⟨v,H,I,r,h⟩;rcases l with⟨hk,hm⟩|⟨hk,c,hc,J⟩
 . exact wpAny_Name (wpAny_loadName_local I.ok.kind hk hn hm fin) L
 . rcases hk with hk|hk
   . exact wpAny_Name (wpAny_loadName_cell I.ok.kind hk hc J fin) L
   . exact wpAny_Name (wpAny_loadName_free I.ok.kind hk hc J fin U) L
theorem c_ {i j pos}:PE X (.Constant (.int i) j pos) (tC (.int i)):=λ_ _ _ H _ I h=>wpAny_Constant_int ⟨.int i,H,I.tok _,⟨_,rfl⟩,h⟩
theorem jk {b j pos}:PE X (.Constant (.bool b) j pos) (tC (.bl b)):=λ_ _ _ H _ I h=>Constant_bool ⟨.bl b,H,I,rfl,h⟩
theorem i_ {j pos}:PE X (.Constant .none j pos) (tC .non):=λ_ _ _ H _ I h=>Constant_none ⟨.non,H,I,rfl,h⟩
theorem gK {x j pos}:PE X (.Constant (.str x) j pos) (tC (.str x)):=λ_ _ _ H _ I h=>Calls.Constant_str ⟨.str x,H,I.tok _,⟨_,rfl⟩,h⟩
def Gl (X:Cx) (x:Str):Prop:=X.env.kindOf x=some .globalImplicit
theorem rq {E:Value->Shared->Prop}{pins:List (Addr × Obj)}{s:Shared}{σ:St}{H:Hp}{x:Str}{u:Value}{pos:Pos}{Q:Value->Shared->Prop}(I:Inv X pins σ H s)(J:Gl X x)(L:X.mg x=some u)(h:Q u s)
 (U:(x == ("__debug__":Str))=false:=by decide):wpAny (model X.prog X.w) X.A (eval (.Name x pos) X.env) Q E s:=
 Calls.Name_function_global I.ok.kind J (Calls.loadGlobal_global (by rw[I.ok.glob];exact I.mod.glob.keeps I.bk) L h) U
theorem lz {E:Value->Shared->Prop}{pins:List (Addr × Obj)}{s:Shared}{σ:St}{H:Hp}{x:Str}{u:Value}{pos:Pos}{Q:Value->Shared->Prop}(I:Inv X pins σ H s)(J:Gl X x)(L:X.mg x=none)(U:bootBuiltins x=some u)(h:Q u s)
 (Y:x≠"__name__":=by decide) (hd:(x == ("__debug__":Str))=false:=by decide):wpAny (model X.prog X.w) X.A (eval (.Name x pos) X.env) Q E s:=by
 obtain⟨mb,h1,h2⟩:=I.mod.blt;exact Calls.Name_function_global I.ok.kind J (Calls.loadGlobal_builtin (by rw[I.ok.glob];exact I.mod.glob.keeps I.bk) L (by rw[I.ok.blt];exact h1.keeps I.bk) ((h2 x Y).trans U) h) hd
theorem jA {x:Str}{v:V}{u:Value}{pos:Pos}(J:Gl X x)(L:X.mg x=none)(U:bootBuiltins x=some u)(r:RelV v u)(Y:x≠"__name__":=by decide)(hd:(x == ("__debug__":Str))=false:=by decide):PE X (.Name x pos) (tC v):=
 λ_ _ _ H _ I h=>lz I J L U ⟨v,H,I,r,h⟩ Y hd
variable {a b:Expr}{ta tb:TE}{pos:Pos}
def PC (X:Cx) (op:CmpOp) (a b:Expr) (t:TE):Prop:=
 ∀(pins:List (Addr × Obj)) (s:Shared) (σ:St) (H:Hp) (Q:VK),Inv X pins σ H s->t σ H Q->
  wpAny (model X.prog X.w) X.A (eval a X.env) (λv J=>wpAny (model X.prog X.w) X.A (eval b X.env) (λu L=>wpAny (model X.prog X.w) X.A (compareOp op v u) (EP X pins σ Q) X.xe L) X.xe J) X.xe s
def tB (t:TE):TT:=λσ H Q=>t σ H λx H1=>∃c,x=.bl c/\Q c H1
theorem GQ {op:CmpOp}{t:TE}(h:PC X op a b t)(h1:behindInMarks op b=false:=by first|exact J _ (by decide) (by decide)|rfl):PE X (.Compare a [op] [b] pos) t:=λpins s σ H Q I hw=>wpAny_Compare1 (h pins s σ H Q I hw) h1
theorem uD {op:CmpOp}{t:TE}(h:PC X op a b t)(h1:behindInMarks op b=false:=by first|exact J _ (by decide) (by decide)|rfl):PT X (.Compare a [op] [b] pos) (tB t):=by
 intro pins s σ H Q I hw;refine wpAny_isTrue_Compare1 (gG (h pins s σ H _ I hw) λv s1 h1=>gG h1 λu s2 h2=>gG h2 λc s3 zq=>?_) h1;obtain⟨x,H1,L,U,Y⟩:=zq;obtain⟨d,rfl,q⟩:=Y
 cases U;exact wpAny_truthy_bool ⟨H1,L,q⟩
theorem iG {e:Expr}{t:TE}(h:PE X e t)(L:∀J,isTrue e X.env J=(do let v <-J;standAt e.pos;holding [v] (truthy v)):=by intro _;rfl):PT X e (tB t):=by
 intro pins s σ H Q I hw;refine isTrue_plain (gG (h pins s σ H _ I hw) λv s1 zq=>?_) (L _);obtain⟨x,H1,U,Y,q1⟩:=zq;obtain⟨d,rfl,q⟩:=q1
 cases Y;exact wpAny_truthy_bool ⟨H1,U,q⟩
variable {tA rz:TT}{rest:List Expr}
def GS (t u:TT):TT:=λσ H Q=>t σ H λc H1=>if c=true then u σ H1 Q else Q false H1
def GU (t u:TT):TT:=λσ H Q=>t σ H λc H1=>if c=true then Q true H1 else u σ H1 Q
def GV (t:TT):TT:=λσ H Q=>t σ H λc H1=>Q (!c) H1
theorem qe (J:PT X a tA):PW X (.BoolOp .And [a] pos) tA:=by
 intro L pins s σ H Q I h;refine isTrue_and (gG (J pins s σ H Q I h) λc s1 e=>?_)
 cases c with
 |true=>exact isTrue_and_nil e
 |false=>exact e
theorem jR (J:PT X a tA):PW X (.BoolOp .Or [a] pos) tA:=by
 intro L pins s σ H Q I h;refine isTrue_or (gG (J pins s σ H Q I h) λc s1 e=>?_)
 cases c with
 |false=>exact isTrue_or_nil e
 |true=>exact e
theorem qf (U:PT X a tA)(Y:PW X (.BoolOp .And (b::rest) pos) rz):PW X (.BoolOp .And (a::b::rest) pos) (GS tA rz):=by
 intro wh pins s σ H Q I h;refine isTrue_and (gG (U pins s σ H _ I h) λc s1 ⟨H1,J,L⟩=>?_)
 cases c with
 |true=>exact Y wh pins s1 σ H1 Q J L
 |false=>exact⟨H1,J,L⟩
theorem jS (U:PT X a tA)(Y:PW X (.BoolOp .Or (b::rest) pos) rz):PW X (.BoolOp .Or (a::b::rest) pos) (GU tA rz):=by
 intro wh pins s σ H Q I h;refine isTrue_or (gG (U pins s σ H _ I h) λc s1 ⟨H1,J,L⟩=>?_)
 cases c with
 |true=>exact⟨H1,J,L⟩
 |false=>exact Y wh pins s1 σ H1 Q J L
theorem i7 (J:PT X a tA):PT X (.UnaryOp .Not a pos) (GV tA):=by
 intro pins s σ H Q I h;exact isTrue_not (J pins s σ H (λc H1=>Q (!c) H1) I h)
def GW (ta tb:TE):TE:=λσ H Q=>ta σ H λx H1=>∃c,x=.bl c/\if c=true then tb σ H1 Q else Q (.bl false) H1
def GX (ta:TE):TE:=λσ H Q=>ta σ H λx H1=>∃c,x=.bl c/\Q (.bl (!c)) H1
theorem qg {op}{t:TE}(h:PE X a t):PE X (.BoolOp op [a] pos) t:=λpins s σ H Q I hw=>BoolOp_one (h pins s σ H Q I hw)
theorem oQ (U:PE X a ta)(Y:PE X (.BoolOp .And (b::rest) pos) tb):PE X (.BoolOp .And (a::b::rest) pos) (GW ta tb):=by
 intro pins s σ H Q I h;refine BoolOp_and (gG (U pins s σ H _ I h) λv s1 zq=>?_);obtain⟨x,H1,L,r1,J⟩:=zq;obtain⟨c,rfl,J⟩:=J
 cases r1;refine wpAny_truthy_bool ?_
 cases c with
 |true=>exact Y pins s1 σ H1 Q L J
 |false=>exact⟨.bl false,H1,L,rfl,J⟩
theorem GY (L:PE X a ta):PE X (.UnaryOp .Not a pos) (GX ta):=by
 intro pins s σ H Q I h;refine UnaryOp_ (gG (L pins s σ H _ I h) λv s1 zq=>?_);obtain⟨x,H1,U,Y,J⟩:=zq;obtain⟨c,rfl,J⟩:=J
 cases Y;exact not_of (wpAny_truthy_bool ⟨.bl (!c),H1,U,rfl,J⟩)
def GZ (t:TT) (ta tb:TE):TE:=λσ H Q=>t σ H λc H1=>if c=true then ta σ H1 Q else tb σ H1 Q
theorem oR {c:Expr}(hc:PT X c tA)(U:PE X a ta)(Y:PE X b tb):PE X (.IfExp c a b pos) (GZ tA ta tb):=by
 intro pins s σ H Q I h;refine wpAny_IfExp (gG (hc pins s σ H _ I h) λd s1 ⟨H1,J,L⟩=>?_)
 cases d with
 |true=>exact U pins s1 σ H1 Q J L
 |false=>exact Y pins s1 σ H1 Q J L
end
def gi (K:W.Frag) (H:Hp) (a:Addr) (xs:List V):Prop:=
 Rd H a (.lst xs)\/
  ∃(o:Obj) (J:Array Value) (n:Nat),K.lookup a=some o/\o.cls=.type "list"/\o.dict=none/\o.data=.seq J n/\J.size<=sizeLine/\Vals xs J.toList
def e_ (K:W.Frag) (H:Hp) (a:Addr) (xs:List V):Prop:=
 Rd H a (.tup xs)\/
  ∃(o:Obj) (J:Array Value) (n:Nat),K.lookup a=some o/\o.cls=.type "tuple"/\o.data=.seq J n/\J.size<=sizeLine/\Vals xs J.toList
noncomputable def G3:Value->Option V
 | .none=>some .non
 | .bool b=>some (.bl b)
 | .int i _=>some (.int i)
 | .str x _=>some (.str x)
 | .bytes b _=>some (.kK b)
 | .float b _=>some (.flt b)
 | .ref a=>some (.ref a)
 | .type n=>some (.ty n)
 |_=>none
theorem RelV.abs {x:V}{u:Value}(r:RelV x u):G3 u=some x:=by
 cases x with
 |non=>cases r;rfl
 |bl _=>cases r;rfl
 |int _=>obtain⟨t,rfl⟩:=r;rfl
 |str _=>obtain⟨t,rfl⟩:=r;rfl
 |kK _=>obtain⟨t,rfl⟩:=r;rfl
 |flt _=>obtain⟨t,rfl⟩:=r;rfl
 |ref _=>cases r;rfl
 |ty _=>cases r;rfl
theorem RelV.inj {x y:V}{u:Value}(r:RelV x u)(q:RelV y u):x=y:=Option.some.inj (r.abs.symm.trans q.abs)
theorem Vals.inj:∀{xs ys:List V}{us:List Value},Vals xs us->Vals ys us->xs=ys
 |_,_,_,.nil,.nil=>rfl
 |_,_,_,.cons r t,.cons J t'=>by rw[r.inj J,Vals.inj t t']
section
variable {X:Cx}{pins:List (Addr × Obj)}{σ:St}{H:Hp}{s:Shared}{a:Addr}{xs ys:List V}
theorem gi.of {K:W.Frag}(h:H a=some (.lst xs)):gi K H a xs:=.inl (.inl h)
theorem e_.of {K:W.Frag}(h:H a=some (.tup xs)):e_ K H a xs:=.inl (.inl h)
theorem Inv.list (I:Inv X pins σ H s)(h:gi X.K H a xs):∃J:List Value,Vals xs J/\PlainL s.heap a J.toArray/\xs.length<=sizeLine:=by
 rcases h with h|⟨o,J,n,hk,hc,L,U,Y,r⟩
 . obtain⟨z,J,n,r,e⟩:=h.ok I.hok;exact⟨J,r,⟨_,n,e,rfl,rfl,rfl⟩,z⟩
 . refine⟨J.toList,r,⟨o,n,I.iW a o hk,hc,L,by simpa using U⟩,?_⟩;have e:=r.length;simp only[Q1i] at e;omega
theorem Inv.tuple (I:Inv X pins σ H s)(h:e_ X.K H a xs):∃J:List Value,Vals xs J/\IsTup s.heap a J.toArray/\xs.length<=sizeLine:=by
 rcases h with h|⟨o,J,n,hk,hc,L,U,r⟩
 . obtain⟨z,J,r,p⟩:=h.ok I.hok;exact⟨J,r,p,z⟩
 . refine⟨J.toList,r,⟨o,I.iW a o hk,hc,n,by simpa using L⟩,?_⟩;have e:=r.length;simp only[Q1i] at e;omega
theorem Inv.rA (I:Inv X pins σ H s)(h:gi X.K H a xs)(h':gi X.K H a ys):xs=ys:=by
 obtain⟨J,r,⟨o,n,e,_,_,d⟩,_⟩:=I.list h;obtain⟨its',U,⟨o',n',L,_,_,d'⟩,_⟩:=I.list h';rw[e] at L;cases L;rw[d] at d';injection d' with Y _
 have:J=its':=by simpa using congrArg Array.toList Y
 subst this;exact r.inj U
theorem Inv.G4 (I:Inv X pins σ H s)(h:e_ X.K H a xs)(h':e_ X.K H a ys):xs=ys:=by
 obtain⟨J,r,⟨o,e,_,n,d⟩,_⟩:=I.tuple h;obtain⟨its',U,⟨o',L,_,n',d'⟩,_⟩:=I.tuple h';rw[e] at L;cases L;rw[d] at d';injection d' with Y _
 have:J=its':=by simpa using congrArg Array.toList Y
 subst this;exact r.inj U
end
noncomputable abbrev Cx.wish (X:Cx) (E:Value->Shared->Prop):Cx:={ X with xe:=E }
noncomputable abbrev Cx.gN (X:Cx):Cx:=X.wish λ_ _=>False
theorem Cx.Ok.wish {X:Cx}(ok:X.Ok)(E:Value->Shared->Prop):(X.wish E).Ok:=
 ⟨ok.mod,ok.kind,ok.glob,ok.blt,ok.above,ok.inj,ok.has,ok.cab,ok.hd,ok.frames,ok.stk,ok.uB,ok.bs,ok.lx,ok.oO,ok.qc,ok.kq,ok.nj⟩
theorem Cx.Ok.mD {X:Cx}{E:Value->Shared->Prop}(ok:(X.wish E).Ok):X.Ok:=
 ⟨ok.mod,ok.kind,ok.glob,ok.blt,ok.above,ok.inj,ok.has,ok.cab,ok.hd,ok.frames,ok.stk,ok.uB,ok.bs,ok.lx,ok.oO,ok.qc,ok.kq,ok.nj⟩
section
variable {X:Cx}{pins:List (Addr × Obj)}{σ:St}{H:Hp}{s:Shared}{E:Value->Shared->Prop}
theorem Inv.wish (I:Inv X pins σ H s)(E:Value->Shared->Prop):Inv (X.wish E) pins σ H s:=⟨I.ok.wish E,I.os,I.bare,I.base,I.loc,I.cell,I.free,I.j3,I.pin,I.hok,I.len⟩
theorem Inv.mD (I:Inv (X.wish E) pins σ H s):Inv X pins σ H s:=⟨I.ok.mD,I.os,I.bare,I.base,I.loc,I.cell,I.free,I.j3,I.pin,I.hok,I.len⟩
theorem SP.mD {D:Ends}{f:Flow}{s':Shared}(h:SP (X.wish E) pins D f s'):SP X pins D f s':=by
 cases f with
 |next=>obtain⟨J,H',I,q⟩:=h;exact⟨J,H',I.mD,q⟩
 |brk=>obtain⟨J,H',I,q⟩:=h;exact⟨J,H',I.mD,q⟩
 |cont=>obtain⟨J,H',I,q⟩:=h;exact⟨J,H',I.mD,q⟩
 |ret u=>obtain⟨v,J,H',I,r,q⟩:=h;exact⟨v,J,H',I.mD,r,q⟩
theorem j4.gN {st:List Stmt}{t:TS}(h:j4 X.gN st t):j4 X st t:=λpins s σ H D I hw=>
 Q0n (h pins s σ H D (I.wish _) hw) (λ_ _ q=>q.mD) λ_ _ z=>False.elim z
end
section
variable {X:Cx}{st:Stmt}{rest:List Stmt}{t u:TS}{e:Expr}{te:TE}{pos:Pos}
def G5:TS:=λD σ H=>D.nx σ H
def uE (t u:TS):TS:=λD σ H=>t { D with nx:=u D } σ H
theorem gH:j4 X [] G5:=λ_ _ σ H _ I h=>wpAny_execs_nil ⟨σ,H,I,h⟩
theorem gh (h1:PS X st t)(h2:j4 X rest u):j4 X (st::rest) (uE t u):=by
 intro pins s σ H D I h;refine wpAny_execs_cons (gG (h1 pins s σ H { D with nx:=u D } I h) λf s1 q=>?_)
 cases f with
 |next=>
  obtain⟨J,H',L,q⟩:=q;exact h2 pins s1 J H' D L q
 |ret v=>exact q
 |brk=>exact q
 |cont=>exact q
theorem gm (h1:PS X st t):j4 X [st] t:=by
 intro pins s σ H D I h;refine wpAny_execs_cons (gG (h1 pins s σ H D I h) λf s1 q=>?_)
 cases f with
 |next=>exact wpAny_execs_nil q
 |ret v=>exact q
 |brk=>exact q
 |cont=>exact q
theorem Inv.quiet {pins:List (Addr × Obj)}{σ:St}{H:Hp}{s:Shared}(I:Inv X pins σ H s):interactive X.env=false:=by simp[interactive,I.ok.kind]
def G6 (te:TE):TS:=λD σ H=>te σ H λ_ H1=>D.nx σ H1
theorem j5 (J:PE X e te)(L:swapsWith e none pos.line X.env=pure false:=by rfl):PS X (.Expr e pos) (G6 te):=by
 intro pins s σ H D I h;exact wpAny_Expr_any (gG (J pins s σ H _ I h) λv s1 ⟨x,H1,U,r1,Y⟩=>⟨σ,H1,U,Y⟩) I.quiet L
def Bq (te:TE):TS:=λD σ H=>te σ H D.rt
theorem gv (J:PE X e te):PS X (.Return (some e) pos) (Bq te):=by
 intro pins s σ H D I h;exact wpAny_Return_some (gG (J pins s σ H _ I h) λv s1 ⟨x,H1,L,U,Y⟩=>⟨x,σ,H1,L,U,Y⟩)
def nY (c:TT) (t u:TS):TS:=λD σ H=>c σ H λb H1=>if b=true then t D σ H1 else u D σ H1
theorem gF {c:Expr}{a b:List Stmt}{tc:TT}(hc:PT X c tc)(U:j4 X a t)(Y:j4 X b u):PS X (.If c a b pos) (nY tc t u):=by
 intro pins s σ H D I h;refine wpAny_If (gG (hc pins s σ H _ I h) λd s1 ⟨H1,J,L⟩=>?_)
 cases d with
 |true=>exact U pins s1 σ H1 D J L
 |false=>exact Y pins s1 σ H1 D J L
def Br:TS:=λ_ _ _=>False
theorem rB:PS X st Br:=λ_ _ _ _ _ _ h=>h.elim
theorem uF {J:List Stmt}:j4 X J Br:=λ_ _ _ _ _ _ h=>h.elim
end
noncomputable abbrev TG:=V->St->Hp->(St->Hp->Prop)->Prop
noncomputable abbrev nZ:=List V->St->Hp->(St->Hp->Prop)->Prop
def PG (X:Cx) (J:Expr) (t:TG):Prop:=
 ∀(pins:List (Addr × Obj)) (s:Shared) (σ:St) (H:Hp) (v:V) (u:Value) (Q:St->Hp->Prop),Inv X pins σ H s->RelV v u->t v σ H Q->
  wpAny (model X.prog X.w) X.A (assign J X.env u) (λ_ s'=>∃L H',Inv X pins L H' s'/\Q L H') X.xe s
def rD (X:Cx) (L:List Expr) (t:nZ):Prop:=
 ∀(pins:List (Addr × Obj)) (s:Shared) (σ:St) (H:Hp) (vs:List V) (us:List Value) (Q:St->Hp->Prop),Inv X pins σ H s->Vals vs us->t vs σ H Q->
  wpAny (model X.prog X.w) X.A (assignInOrder ((assignEach L X.env).map (·.2)) us) (λ_ s'=>∃J H',Inv X pins J H' s'/\Q J H') X.xe s
noncomputable abbrev uG:=V->V->V->Hp->(Hp->Prop)->Prop
def Bs (X:Cx) (t:uG):Prop:=
 ∀(pins:List (Addr × Obj)) (s:Shared) (σ:St) (H:Hp) (o i v:V) (J L u:Value) (Q:Hp->Prop),Inv X pins σ H s->RelV o J->RelV i L->RelV v u->t o i v H Q->
  wpAny (model X.prog X.w) X.A (setItem J L u) (λ_ s'=>∃H',Inv X pins σ H' s'/\Q H') X.xe s
section
variable {X:Cx}{pos:Pos}
def je (i:Nat):TG:=λv σ H Q=>Q (σ.set i (some v)) H
theorem g5 {i:Nat}{x:Str}(J:X.N.Nodup)(hi:X.N[i]? =some x)(L:Loc X.env.scope x)(U:X.fn x=true\/X.env.scope.names.lookup x=some .local:=by first|exact .inl rfl|exact .inr rfl|assumption):PG X (.Name x pos) (je i):=by
 intro pins s σ H v u Q I r h;exact wpAny_assign_Name (rn I J hi L r (λs' Y=>⟨_,H,Y,h⟩) U)
def qh:nZ:=λvs σ H Q=>vs=[]/\Q σ H
def mE (t:TG) (u:nZ):nZ:=λvs σ H Q=>∃v r,vs=v::r/\t v σ H λJ H'=>u r J H' Q
theorem jT:rD X [] qh:=by
 intro pins s σ H vs us Q I r h;obtain⟨e,h⟩:=h;subst e
 cases r;exact assignInOrder_nil ⟨σ,H,I,h⟩
theorem iH {e:Expr}{es:List Expr}{t:TG}{u:nZ}(h1:PG X e t)(h2:rD X es u)
 (L:(assignEach (e::es) X.env).map (·.2)=assign e X.env::(assignEach es X.env).map (·.2):=by rfl):rD X (e::es) (mE t u):=by
 intro pins s σ H vs us Q I r h;obtain⟨v,vr,U,h⟩:=h;subst U
 cases r with
 |cons r Y=>
  rw[L];refine assignInOrder_cons (gG (h1 pins s σ H _ _ _ I r h) λ_ s1 zq=>?_);obtain⟨J,H1,I1,q1⟩:=zq;exact h2 pins s1 J H1 _ _ Q I1 Y q1
def qi (K:W.Frag) (n:Nat) (t:nZ):TG:=λv σ H Q=>∃a xs,v=.ref a/\e_ K H a xs/\xs.length=n/\t xs σ H Q
theorem jU {es:List Expr}{k:Nat}{t:nZ}{n:Nat}(hc:X.calm=true)(h:rD X es t)
 (U:(assignEach es X.env).length=n:=by rfl) (J:(assignEach es X.env).findIdx? (·.1)=none:=by rfl):PG X (.Tuple es k pos) (qi X.K n t):=by
 intro pins s σ H v u Q I r hw;obtain⟨a,xs,Y,hq,hl,hw⟩:=hw;subst Y
 cases r;obtain⟨aa,L,ht,hz⟩:=I.tuple hq;refine assign_Tuple_tuple (I.ok.hd hc) ht (by simp[U,<-hl,L.length]) J λh' hx=>?_;have I1:Inv X pins σ H { s with heap:=h' }:=I.kept (t':=s.toks) λb o e=>hx b o (Q0a (Q03 e)) e;exact h pins _ σ H xs _ Q I1 (by simpa using L) hw
def G7 (to J:TE) (t:uG):TG:=λv σ H Q=>to σ H λo H1=>J σ H1 λi H2=>t o i v H2 λL=>Q σ L
theorem G8 {o i:Expr}{to U:TE}{t:uG}(Y:PE X o to)(hi:PE X i U)(hs:Bs X t)
 (ha:∀v,assign (.Subscript o i pos) X.env v=(do
   let J <-holding [v] (eval o X.env);let L <-holding [v,J] (eval i X.env)
   standAt pos
   holding [v,J,L] (setItem J L v)
   release [v,J,L] []):=by intro _;rfl):PG X (.Subscript o i pos) (G7 to U t):=by
 intro pins s σ H v u Q I r h;rw[ha];refine Q01 (wpAny_holding (gG (Y pins s σ H _ I h) λJ s1 zq=>?_));obtain⟨x,H1,I1,r1,q1⟩:=zq;refine Q01 (wpAny_holding (gG (hi pins s1 σ H1 _ I1 q1) λL s2 zq=>?_));obtain⟨y,H2,I2,r2,q2⟩:=zq;refine Q01 (wpAny_standAt (Q01 (wpAny_holding (gG (hs pins s2 σ H2 x y v J L u _ I2 r1 r2 r q2) λ_ s3 ⟨H3,I3,q3⟩=>?_))));exact wpAny_release ⟨σ,H3,I3,q3⟩
def n0 (te:TE) (g:TG):TS:=λD σ H=>te σ H λx H1=>g x σ H1 D.nx
theorem Bt {tg e:Expr}{te:TE}{g:TG}(J:PE X e te)(L:PG X tg g)(U:swapsWithSole [tg] e pos.line X.env=pure false:=by rfl)(hw:swappedStores [tg] e X.env=pure none:=by rfl)
 (h1:(assignEach [tg] X.env).map (·.2)=[assign tg X.env]:=by rfl):PS X (.Assign [tg] e pos) (n0 te g):=by
 intro pins s σ H D I h;refine wpAny_Assign_stores (gG (J pins s σ H _ I h) λv s1 zq=>?_) U hw;obtain⟨x,H1,Y,r1,q1⟩:=zq;rw[h1];exact gG (L pins s1 σ H1 x v _ Y r1 q1) λ_ s2 q=>q
theorem Bu {i:Nat}{x:Str}{e:Expr}{te:TE}{pos':Pos}(J:X.N.Nodup)(hi:X.N[i]? =some x)(L:Loc X.env.scope x)(U:PE X e te)(Y:swapsWith e (some (.Name x pos')) pos.line X.env=pure false:=by rfl)(hf:X.fn x=true\/X.env.scope.names.lookup x=some .local:=by first|exact .inl rfl|exact .inr rfl|assumption):
 PS X (.Assign [.Name x pos'] e pos) (n0 te (je i)):=by
 intro pins s σ H D I h;refine wpAny_Assign_Name (gG (U pins s σ H _ I h) λv s1 zq=>?_) Y;obtain⟨y,H1,I1,r1,q1⟩:=zq;exact rn I1 J hi L r1 (λs2 I2=>⟨_,H1,I2,q1⟩) hf
end
section
variable {X:Cx}{pos:Pos}
end
structure It where
 go:Nat->Hp->Prop
 l4:Nat->Hp->V->Hp->Prop
 stop:Nat->Hp->Prop
def jB (X:Cx) (pins:List (Addr × Obj)) (H:Hp) (b:Addr):Prop:=
 H b=none/\b≠X.env.locals/\b ∉ X.fs/\(b∈X.ex\/X.s₀.heap.objs.size<=b)/\(∀x c,X.env.cells.lookup x=some c->c≠b)/\∀p∈X.pn++pins,p.1≠b
theorem Inv.n6 {X:Cx}{pins:List (Addr × Obj)}{σ:St}{H H':Hp}{s:Shared}{b:Addr}(I:Inv X pins σ H s)(J:s.heap.objs.size<=b)(L:H' b=none):jB X pins H' b:=by
 refine⟨L,Q0r (Q0e I.lt J),I.oP J,.inr (Q0g I.sz J),λx c e z=>?_,λp hp z=>?_⟩
 . obtain⟨v,q⟩:=I.cell x c e;exact absurd (Q0e q.lt (by rw[z];exact J)) (Q0o _)
 . exact absurd (Q0e (Q03 (I.pin p hp).1) (by rw[z];exact J)) (Q0o _)
structure Turn (P:Program) (w:World) (K:W.Frag) (tg:Expr) (J:It) (fp:List Addr) (it:Addr) (tn:Nat->Heap->Prop):Prop where
 mem:it∈fp
 obj:∀i h,tn i h->∀b∈fp,∃o,h.get? b=some o/\∀v,o.data≠ .cell v
 keep:∀i h h',tn i h->(∀b∈fp,∀o,h.get? b=some o->h'.get? b=some o)->tn i h'
 item:∀(X:Cx),X.prog=P->X.w=w->X.K=K->X.calm=true->∀(i:Nat) (pins:List (Addr × Obj)) (s:Shared) (σ:St) (H:Hp) (E:Value->Shared->Prop),Inv X pins σ H s->(∀b∈fp,jB X pins H b)->tn i s.heap->J.go i H->
  wpAny (model P w) X.A (pyNext (.ref it)) (λr s1=>∃u,r=some u/\
   wpAny (model P w) X.A (letOwnedTupleGo tg (.ref it) u) (λ_ s2=>∃x H',Inv X pins σ H' s2/\RelV x u/\J.l4 i H x H'/\tn (i+1) s2.heap/\∀b∈fp,H' b=none) E s1) E s
 done:∀(X:Cx),X.prog=P->X.w=w->X.K=K->X.calm=true->∀(i:Nat) (pins:List (Addr × Obj)) (s:Shared) (σ:St) (H:Hp) (E:Value->Shared->Prop),Inv X pins σ H s->(∀b∈fp,jB X pins H b)->tn i s.heap->J.stop i H->
  wpAny (model P w) X.A (pyNext (.ref it)) (λr s1=>r=none/\Inv X pins σ H s1) E s
 self:∀(A:Around) (i:Nat) (s:Shared) (Q:Value->Shared->Prop) (E:Value->Shared->Prop),tn i s.heap->Q (.ref it) s->wpAny (model P w) A (pyIter (.ref it)) Q E s
noncomputable abbrev TI:=St->Hp->(It->Hp->Prop)->Prop
def PIE (X:Cx) (pins:List (Addr × Obj)) (σ:St) (tg:Expr) (R:It->Hp->Prop) (L:Value) (U:Shared):Prop:=
 ∃(it:Addr) (fp:List Addr) (Y:Nat->Heap->Prop) (J:It) (H':Hp),L=.ref it/\Inv X pins σ H' U/\Turn X.prog X.w X.K tg J fp it Y/\Y 0 U.heap/\(∀b∈fp,jB X pins H' b)/\R J H'
def PI (X:Cx) (tg iter:Expr) (J:TI):Prop:=
 ∀(pins:List (Addr × Obj)) (s:Shared) (σ:St) (H:Hp) (R:It->Hp->Prop),Inv X pins σ H s->J σ H R->
  wpAny (model X.prog X.w) X.A (eval iter X.env) (λv s1=>wpAny (model X.prog X.w) X.A (pyIter v) (PIE X pins σ tg R) X.xe s1) X.xe s
theorem uH {M:Model}{A:Around}{E:Value->Shared->Prop}{s:Shared}{tg:Expr}{it:Addr}{u:Value}{o:Obj}{n:String}{vs:Array Value}{Q:Unit->Shared->Prop}(L:s.heap.get? it=some o)(hc:o.cls=.type n)(U:o.data=.fields vs)
 (Y:["enumerate","zip","dict_itemiterator","dict_reverseitemiterator","odict_iterator","itertools.zip_longest","itertools.pairwise"].contains n=false) (J:Q () s):wpAny M A (letOwnedTupleGo tg (.ref it) u) Q E s:=by
 unfold letOwnedTupleGo
 cases tg <;> first
  |exact Q0c J
  |(cases u <;> first
     |exact Q0c J
     |(refine Q01 (wpAny_load L ?_)
       rw[hc,U];show wpAny M A (if(["enumerate","zip","dict_itemiterator","dict_reverseitemiterator","odict_iterator","itertools.zip_longest","itertools.pairwise"].contains n && vs[0]? == some (rawInt _))=true then _ else _) Q E s;rw[if_neg (by intro h;rw[Y,Bool.false_and] at h;cases h)];exact Q0c J))
noncomputable def oS (K:W.Frag) (a:Addr):It:=
 ⟨λi H=>∃xs x,gi K H a xs/\xs[i]? =some x,λi H x H'=>H'=H/\∀xs,gi K H a xs->xs[i]? =some x,λi H=>∃xs,gi K H a xs/\xs.length<=i⟩
noncomputable def oU (K:W.Frag) (a:Addr):It:=
 ⟨λi H=>∃xs x,e_ K H a xs/\xs[i]? =some x,λi H x H'=>H'=H/\∀xs,e_ K H a xs->xs[i]? =some x,λi H=>∃xs,e_ K H a xs/\xs.length<=i⟩
noncomputable def n8 (lo:Int) (n:Nat):It:=⟨λi _=>i<n,λi H x H'=>H'=H/\x=.int (lo+i),λi _=>n<=i⟩
theorem G9 {P:Program}{w:World}{K:W.Frag}{tg:Expr}(a it:Addr):Turn P w K tg (oS K a) [it] it (λi h=>h.IsListIter it a i) where
 mem:=by simp
 obj:=λi h st b J=>by
  have e:b=it:=by simpa using J
  subst e;obtain⟨o,e,c,d⟩:=st;exact⟨o,e,λv z=>by rw[d] at z;cases z⟩
 keep:=λi h h' st k=>st.at λo e=>k it (by simp) o e
 item:=by
  intro X hP hw hK hc i pins s σ H E I U st hg;subst hP hw hK;obtain⟨xs,x,Y,hx⟩:=hg;obtain⟨aa,rv,p,hz⟩:=I.list Y;obtain⟨u,hu,ru⟩:=rv.get hx;obtain⟨f0,f1,f2,f3,f4,f5⟩:=U it (by simp);refine wpAny_pyNext_list_item st p.isList (x:=u) (by simpa using hu) λh' L sb=>?_;have I1:Inv X pins σ H { s with heap:=h' }:=I.turned (t':=s.toks) (λb o J e=>(sb.2 b J).trans e) f0 f1 f3 f4 f5;obtain⟨o,e,c,d⟩:=id L;exact⟨u,rfl,uH (s:={ s with heap:=h' }) e c d (by decide) ⟨x,H,I1,ru,⟨rfl,λys hy=>by rw[I.rA hy Y];exact hx⟩,L,λb J=>(U b J).1⟩⟩
 done:=by
  intro X hP hw hK hc i pins s σ H E I U st hg;subst hP hw hK;obtain⟨xs,Y,hx⟩:=hg;obtain⟨aa,rv,p,hz⟩:=I.list Y;obtain⟨f0,f1,f2,f3,f4,f5⟩:=U it (by simp);have hl:=rv.length;exact wpAny_pyNext_list_end (I.ok.hd hc) st p.isList (by simp;omega) λh' eb=>⟨rfl,I.turned (t':=s.toks) (λb o J e=>eb b o J e) f0 f1 f3 f4 f5⟩
 self:=λ_ _ _ _ _ st h=>wpAny_pyIter_listiter st h
theorem G_ {P:Program}{w:World}{K:W.Frag}{tg:Expr}(a it:Addr):Turn P w K tg (oU K a) [it] it (λi h=>h.IsTupleIter it a i) where
 mem:=by simp
 obj:=λi h st b J=>by
  have e:b=it:=by simpa using J
  subst e;obtain⟨o,e,c,d⟩:=st;exact⟨o,e,λv z=>by rw[d] at z;cases z⟩
 keep:=λi h h' st k=>st.at λo e=>k it (by simp) o e
 item:=by
  intro X hP hw hK hc i pins s σ H E I Y st hg;subst hP hw hK;obtain⟨xs,x,hq,hx⟩:=hg;obtain⟨L,rv,p,hz⟩:=I.tuple hq;obtain⟨u,hu,ru⟩:=rv.get hx;obtain⟨f0,f1,f2,f3,f4,f5⟩:=Y it (by simp);refine wpAny_pyNext_tuple_item st (show s.heap.IsTuple a L.toArray from p) (x:=u) (by simpa using hu) λh' U sb=>?_;have I1:Inv X pins σ H { s with heap:=h' }:=I.turned (t':=s.toks) (λb o J e=>(sb.2 b J).trans e) f0 f1 f3 f4 f5;obtain⟨o,e,c,d⟩:=id U;exact⟨u,rfl,uH (s:={ s with heap:=h' }) e c d (by decide) ⟨x,H,I1,ru,⟨rfl,λys hy=>by rw[I.G4 hy hq];exact hx⟩,U,λb J=>(Y b J).1⟩⟩
 done:=by
  intro X hP hw hK hc i pins s σ H E I Y st hg;subst hP hw hK;obtain⟨xs,hq,hx⟩:=hg;obtain⟨L,rv,p,hz⟩:=I.tuple hq;obtain⟨f0,f1,f2,f3,f4,f5⟩:=Y it (by simp);have hl:=rv.length;exact wpAny_pyNext_tuple_end (I.ok.hd hc) st (show s.heap.IsTuple a L.toArray from p) (by simp;omega) λh' eb=>⟨rfl,I.turned (t':=s.toks) (λb o J e=>eb b o J e) f0 f1 f3 f4 f5⟩
 self:=λ_ _ _ _ _ st h=>wpAny_pyIter_tupleiter st h
theorem Hd {P:Program}{w:World}{K:PySem.W.Frag}{tg:Expr}(it:Addr)(lo:Int)(n:Nat):Turn P w K tg (n8 lo n) [it] it (λi h=>IsRangeIter h it (lo+(i:Nat) * 1) ((n:Int) - (i:Nat)) 1) where
 mem:=by simp
 obj:=λi h st b J=>by
  have e:b=it:=by simpa using J
  subst e
  exact⟨_,st,λv z=>by
   have z':Data.fields _=Data.cell v:=z
   cases z'⟩
 keep:=λi h h' st k=>k it (by simp) _ st
 item:=by
  intro X Y hw hK hc i pins s σ H E I U st hg;subst Y hw hK;obtain⟨f0,f1,f2,f3,f4,f5⟩:=U it (by simp);have W:=Walks.range (prog:=X.prog) (w:=X.w) (I.ok.hd hc) it lo 1 n;refine W.item i s _ _ hg st λv h' tk hv L kk=>?_;obtain⟨t,rfl⟩:=hv;have I1:Inv X pins σ H { s with heap:=h',toks:=tk }:=I.turned (λb o J e=>kk b o (by simpa using J) e) f0 f1 f3 f4 f5;refine⟨_,rfl,uH (s:={ s with heap:=h',toks:=tk }) (n:="range_iterator") L rfl rfl (by decide) ⟨.int (lo+i),H,I1,⟨t,?_⟩,⟨rfl,rfl⟩,L,λb J=>(U b J).1⟩⟩;rw[Int.mul_one]
 done:=by
  intro X Y hw hK hc i pins s σ H E I U st hg;subst Y hw hK;obtain⟨f0,f1,f2,f3,f4,f5⟩:=U it (by simp);exact wpAny_pyNext_range_end (I.ok.hd hc) st (by have:n<=i:=hg;omega) λh' eb=>⟨rfl,I.turned (t':=s.toks) (λb o J e=>eb b o J e) f0 f1 f3 f4 f5⟩
 self:=λ_ _ _ _ _ st h=>wpAny_pyIter_rangeiter st h
section
variable {X:Cx}{tg:Expr}
def Bv (K:W.Frag) (tl:TE):TI:=λσ H R=>tl σ H λx H1=>∃a,x=.ref a/\(∃xs,gi K H1 a xs)/\R (oS K a) H1
def Bw (K:W.Frag) (tl:TE):TI:=λσ H R=>tl σ H λx H1=>∃a,x=.ref a/\(∃xs,e_ K H1 a xs)/\R (oU K a) H1
theorem mF {l:Expr}{tl:TE}(hl:PE X l tl):PI X tg l (Bv X.K tl):=by
 intro pins s σ H R I h;refine gG (hl pins s σ H _ I h) λv s1 zq=>?_;obtain⟨x,H1,J,L,U⟩:=zq;obtain⟨a,e,⟨xs,Y⟩,q⟩:=U;subst e
 cases L;obtain⟨aa,rv,p,hz⟩:=J.list Y;refine wpAny_pyIter_list p.isList ?_;refine⟨s1.heap.objs.size,[s1.heap.objs.size],_,_,H1,rfl,J.kept (t':=s1.toks) λb o e=>Q07 _ e,G9 a _,⟨_,Q0i _ rfl,rfl,rfl⟩,λb hb=>?_,q⟩;have e:b=s1.heap.objs.size:=by simpa using hb
 subst e;exact J.n6 (Q00 _) (J.hok.fresh (Q00 _))
theorem kN {l:Expr}{tl:TE}(hl:PE X l tl):PI X tg l (Bw X.K tl):=by
 intro pins s σ H R I h;refine gG (hl pins s σ H _ I h) λv s1 zq=>?_;obtain⟨x,H1,J,U,Y⟩:=zq;obtain⟨a,e,⟨xs,hq⟩,q⟩:=Y;subst e
 cases U;obtain⟨L,rv,p,hz⟩:=J.tuple hq;refine wpAny_pyIter_tuple (show s1.heap.IsTuple a L.toArray from p) ?_;refine⟨s1.heap.objs.size,[s1.heap.objs.size],_,_,H1,rfl,J.kept (t':=s1.toks) λb o e=>Q07 _ e,G_ a _,⟨_,Q0i _ rfl,rfl,rfl⟩,λb hb=>?_,q⟩;have e:b=s1.heap.objs.size:=by simpa using hb
 subst e;exact J.n6 (Q00 _) (J.hok.fresh (Q00 _))
theorem Bx {pins:List (Addr × Obj)}{σ:St}{H:Hp}{s:Shared}{R:It->Hp->Prop}{E:Value->Shared->Prop}{lo hi:Int}{t u v:Tok}{tk:Nat}(I:Inv X pins σ H s)(h1: -(2 ^ 62)<=lo)(h2:lo<2 ^ 62)(L: -(2 ^ 62)<=hi)(U:hi<2 ^ 62)
 (q:R (n8 lo (hi - lo).toNat) H):wpAny (model X.prog X.w) X.A (pyIter (.ref s.heap.objs.size)) (PIE X pins σ tg R) E { s with heap:=s.heap.push { cls:=.type "range",data:=.fields #[.int lo t,.int hi u,.int 1 v] },toks:=tk }:=by
 refine wpAny_pyIter_range (IsRange.new ..) (small_one h1 h2 L U) ?_;have J:Inv X pins σ H { s with heap:=s.heap.push { cls:=.type "range",data:=.fields #[.int lo t,.int hi u,.int 1 v] },toks:=tk }:=I.kept λb o e=>Q07 _ e
 refine⟨(s.heap.push { cls:=.type "range",data:=.fields #[.int lo t,.int hi u,.int 1 v] }).objs.size,[(s.heap.push { cls:=.type "range",data:=.fields #[.int lo t,.int hi u,.int 1 v] }).objs.size],_,_,H,rfl,
  J.kept (t':=tk) λb o e=>Q07 _ e,Hd _ lo (hi - lo).toNat,?_,λb Y=>?_,q⟩
 . have e1:lo+((0:Nat):Int) * 1=lo:=by simp
   have e2:(((hi - lo).toNat:Nat):Int) - ((0:Nat):Int)=Builtin.Range.rangeSize lo hi 1:=by rw[rangeSize_one];split <;> omega
   show IsRangeIter _ _ (lo+((0:Nat):Int) * 1) ((((hi - lo).toNat:Nat):Int) - ((0:Nat):Int)) 1;rw[e1,e2];exact Q0i _ rfl
 . have e:b=(s.heap.push { cls:=.type "range",data:=.fields #[.int lo t,.int hi u,.int 1 v] }).objs.size:=by simpa using Y
   subst e;exact J.n6 (Q00 _) (J.hok.fresh (Q00 _))
def He (ta:TA):TI:=λσ H R=>ta σ H λvs H1=>∃j:Int,vs=[.int j]/\ -(2 ^ 62)<=j/\j<2 ^ 62/\R (n8 0 j.toNat) H1
def Hf (ta:TA):TI:=λσ H R=>ta σ H λvs H1=>∃i j:Int,vs=[.int i,.int j]/\(-(2 ^ 62)<=i/\i<2 ^ 62/\ -(2 ^ 62)<=j/\j<2 ^ 62)/\R (n8 i (j - i).toNat) H1
theorem qj {a:Expr}{ta:TA}{p pos:Pos}(L:Gl X "range")(U:X.mg "range"=none)(Y:PA X [a] ta)(hs:starEach [a] X.env=[(false,eval a X.env)]:=by rfl):PI X tg (.Call (.Name "range" p) [a] [] pos) (He ta):=by
 intro pins s σ H R I h;refine Call_ (lz I L U boot_range (PyProof.Rows.callWith_type1 (gG (Y pos pins s σ H _ I h) λus s1 zq=>?_) hs rfl));obtain⟨vs,H1,I1,r1,J⟩:=zq;obtain⟨j,e,J,q2,q⟩:=J;subst e
 cases r1 with
 |cons r rr=>
  cases rr;obtain⟨t,rfl⟩:=r;exact call_range_1 (Bx I1 (by omega) (by omega) J q2 (by simpa using q))
theorem Hg {a b:Expr}{ta:TA}{p pos:Pos}(Y:Gl X "range")(hm:X.mg "range"=none)(ha:PA X [a,b] ta)(hs:starEach [a,b] X.env=[(false,eval a X.env),(false,eval b X.env)]:=by rfl)(J:starEach [b] X.env=[(false,eval b X.env)]:=by rfl):
 PI X tg (.Call (.Name "range" p) [a,b] [] pos) (Hf ta):=by
 intro pins s σ H R I h;refine Call_ (lz I Y hm boot_range (PyProof.Rows.callWith_type1 (gG (ha pos pins s σ H _ I h) λus s1 zq=>?_) (by rw[hs,J]) (by rw[J];rfl)));obtain⟨vs,H1,I1,r1,L⟩:=zq;obtain⟨i,j,e,⟨L,q2,q3,q4⟩,q⟩:=L;subst e
 cases r1 with
 |cons r U=>
  cases U with
  |cons r' U=>
   cases U;obtain⟨t,rfl⟩:=r;obtain⟨t',rfl⟩:=r';exact call_range_2 (Bx I1 L q2 q3 q4 q)
def Hh (wi:TI) (g:TG) (tb:TS):TS:=λD σ H=>wi σ H λJ H1=>∃W:Nat->Nat->St->Hp->Prop,(∃m,W 0 m σ H1)/\∀i m σ H,W i m σ H->
 (J.stop i H/\D.nx σ H)\/(J.go i H/\∃N:St->Hp->Prop,(∀L H',N L H'->∃Y,Y<m/\W (i+1) Y L H')/\∀x H',J.l4 i H x H'->g x σ H' λU H2=>tb { D with nx:=N,ct:=N,bk:=D.nx } U H2)
noncomputable def rE (fp:List Addr) (h:Heap):List (Addr × Obj):=fp.filterMap λb=>(h.get? b).map λo=>(b,o)
theorem qm {fp:List Addr}{h:Heap}{b:Addr}{o:Obj}(J:b∈fp)(e:h.get? b=some o):(b,o)∈rE fp h:=List.mem_filterMap.mpr ⟨b,J,by rw[e];rfl⟩
theorem Hi {fp:List Addr}{h:Heap}{p:Addr × Obj}(hp:p∈rE fp h):p.1∈fp/\h.get? p.1=some p.2:=by
 obtain⟨b,J,e⟩:=List.mem_filterMap.mp hp
 cases q:h.get? b with
 |none=>rw[q] at e;cases e
 |some o=>
  rw[q] at e;have L:(b,o)=p:=Option.some.inj e;subst L;exact⟨J,q⟩
theorem Inv.pinned {pins:List (Addr × Obj)}{σ:St}{H:Hp}{s:Shared}{fp:List Addr}(I:Inv X pins σ H s)(U:∀b∈fp,jB X pins H b)(Y:∀b∈fp,∃o,s.heap.get? b=some o/\∀v,o.data≠ .cell v):Inv X (pins++rE fp s.heap) σ H s:=
 I.nX λp hp=>(List.mem_append.mp hp).elim (λz=>I.pin p (Q0b _ z)) λz=>by
   obtain⟨J,e⟩:=Hi z;obtain⟨f0,f1,f2,_⟩:=U p.1 J;obtain⟨o,L,d⟩:=Y p.1 J;rw[e] at L;cases L;exact⟨e,f0,f1,f2,d⟩
theorem Inv.mG {pins pl:List (Addr × Obj)}{σ:St}{H:Hp}{s:Shared}(I:Inv X (pins++pl) σ H s):Inv X pins σ H s:=I.nX λp hp=>I.pin p (Q0b _ (Q0u _ hp))
theorem jo {iter:Expr}{body:List Stmt}{wi:TI}{g:TG}{tb:TS}{pos:Pos}(hp:PassesOwn (model X.prog X.w) X.A X.env X.xe)(hc:X.calm=true)(hi:PI X tg iter wi)(hg:PG X tg g)(U:j4 X body tb)
 (hs:∀x,foldedSetIterable iter X.env x=pure x:=by intro _;rfl):PS X (.For tg iter body [] pos) (Hh wi g tb):=by
 intro pins s σ H D I h;refine wpAny_For (gG (hi pins s σ H _ I h) λv s1 h1=>gG h1 λal s2 h2=>?_) hs;obtain⟨it,fp,tn,J,H2,e,I2,T,ah,f2,W,⟨m0,w0⟩,turn⟩:=h2;subst e;have ac:∀{H':Hp},(∀b∈fp,H' b=none)->∀b∈fp,jB X pins H' b:=λhn b U=>⟨hn b U,(f2 b U).2⟩;refine codeAny_forLoop_any (λn s'=>∃i aa H',Inv X pins aa H' s'/\tn i s'.heap/\(∀b∈fp,H' b=none)/\W i n aa H') ?_ m0 ⟨0,σ,H2,I2,ah,λb U=>(f2 b U).1,w0⟩;intro n s3 zq;obtain⟨i,ab,H3,I3,af,ag,w3⟩:=zq;rcases turn i n ab H3 w3 with⟨stop,qn⟩|⟨go,N,hN,step⟩
 . refine wpAny_passesOwn hp (gG (T.done X rfl rfl rfl hc i pins s3 ab H3 X.xe I3 (ac ag) af stop) λr s4 ⟨hr,I4⟩=>?_);subst hr;exact wpAny_execs_nil ⟨ab,H3,I4,qn⟩
 . refine wpAny_passesOwn hp (gG (T.item X rfl rfl rfl hc i pins s3 ab H3 X.xe I3 (ac ag) af go) λr s4 ⟨u,hr,h4⟩=>?_);subst hr;refine wpAny_passesOwn hp (gG h4 λ_ s5 zq=>?_);obtain⟨x,H5,I5,r5,y5,ae,ai⟩:=zq;have aj:=I5.pinned (ac ai) (T.obj _ _ ae);refine wpAny_passesOwn hp (gG (hg _ s5 ab H5 x u _ aj r5 (step x H5 y5)) λ_ s6 zq=>?_);obtain⟨ak,H6,I6,q6⟩:=zq;refine wpAny_passesOwn hp (gG (U _ s6 ak H6 _ I6 q6) λf s7 q7=>?_)
   have again:∀{L:St} {Y:Hp},Inv X (pins++rE fp s5.heap) L Y s7->N L Y->∃m,m<n/\∃i aa H',Inv X pins aa H' s7/\tn i s7.heap/\(∀b∈fp,H' b=none)/\W i m aa H':=λ{L Y} I7 n7=>by
    obtain⟨m',hm,w7⟩:=hN L Y n7;refine⟨m',hm,i+1,L,Y,I7.mG,T.keep _ _ _ ae λb U o e=>(I7.pin (b,o) (Q0b _ (Q0b _ (qm U e)))).1,λb U=>?_,w7⟩;obtain⟨o,e,d⟩:=T.obj _ _ ae b U;exact(I7.pin (b,o) (Q0b _ (Q0b _ (qm U e)))).2.1
   cases f with
   |next=>obtain⟨L,Y,I7,n7⟩:=q7;exact again I7 n7
   |cont=>obtain⟨L,Y,I7,n7⟩:=q7;exact again I7 n7
   |brk=>obtain⟨L,Y,I7,q7⟩:=q7;exact⟨L,Y,I7.mG,q7⟩
   |ret v=>obtain⟨x7,L,Y,I7,r7,q7⟩:=q7;exact⟨x7,L,Y,I7.mG,r7,q7⟩
end
theorem rF {K:PySem.W.Frag}{a:Addr}{xs:List V}{g:TG}{tb:TS}{D:Ends}{σ:St}{H:Hp}(Pv:Nat->St->Hp->Prop)(h0:Pv 0 σ H)(hl:∀i σ H,i<=xs.length->Pv i σ H->gi K H a xs)
 (hs:∀i x σ H,xs[i]? =some x->Pv i σ H->g x σ H λJ H2=>tb { D with nx:=Pv (i+1),ct:=Pv (i+1),bk:=D.nx } J H2) (hd:∀σ H,Pv xs.length σ H->D.nx σ H):
 ∃W:Nat->Nat->St->Hp->Prop,(∃m,W 0 m σ H)/\∀i m σ H,W i m σ H->
  ((oS K a).stop i H/\D.nx σ H)\/((oS K a).go i H/\∃N:St->Hp->Prop,(∀L H',N L H'->∃Y,Y<m/\W (i+1) Y L H')/\∀x H',(oS K a).l4 i H x H'->g x σ H' λJ H2=>tb { D with nx:=N,ct:=N,bk:=D.nx } J H2):=by
 refine⟨λi m σ H=>m=xs.length - i/\i<=xs.length/\Pv i σ H,⟨xs.length,by simp,Q0d _,h0⟩,?_⟩;rintro i m σ H ⟨rfl,hi,p⟩;have q:=hl i σ H hi p;by_cases U:i<xs.length
 . refine .inr ⟨⟨xs,xs[i],q,by simp[U]⟩,Pv (i+1),λL H' p'=>⟨xs.length - (i+1),by omega,rfl,U,p'⟩,λx H' y=>?_⟩;obtain⟨e,y⟩:=y;subst e;exact hs i x σ _ (y xs q) p
 . have e:i=xs.length:=by omega
   subst e;exact .inl ⟨⟨xs,q,Q00 _⟩,hd σ H p⟩
theorem n9 {K:PySem.W.Frag}{a:Addr}{xs:List V}{g:TG}{tb:TS}{D:Ends}{σ:St}{H:Hp}(Pv:Nat->St->Hp->Prop)(h0:Pv 0 σ H)(hl:∀i σ H,i<=xs.length->Pv i σ H->e_ K H a xs)
 (hs:∀i x σ H,xs[i]? =some x->Pv i σ H->g x σ H λJ H2=>tb { D with nx:=Pv (i+1),ct:=Pv (i+1),bk:=D.nx } J H2) (hd:∀σ H,Pv xs.length σ H->D.nx σ H):
 ∃W:Nat->Nat->St->Hp->Prop,(∃m,W 0 m σ H)/\∀i m σ H,W i m σ H->
  ((oU K a).stop i H/\D.nx σ H)\/((oU K a).go i H/\∃N:St->Hp->Prop,(∀L H',N L H'->∃Y,Y<m/\W (i+1) Y L H')/\∀x H',(oU K a).l4 i H x H'->g x σ H' λJ H2=>tb { D with nx:=N,ct:=N,bk:=D.nx } J H2):=by
 refine⟨λi m σ H=>m=xs.length - i/\i<=xs.length/\Pv i σ H,⟨xs.length,by simp,Q0d _,h0⟩,?_⟩;rintro i m σ H ⟨rfl,hi,p⟩;have q:=hl i σ H hi p;by_cases U:i<xs.length
 . refine .inr ⟨⟨xs,xs[i],q,by simp[U]⟩,Pv (i+1),λL H' p'=>⟨xs.length - (i+1),by omega,rfl,U,p'⟩,λx H' y=>?_⟩;obtain⟨e,y⟩:=y;subst e;exact hs i x σ _ (y xs q) p
 . have e:i=xs.length:=by omega
   subst e;exact .inl ⟨⟨xs,q,Q00 _⟩,hd σ H p⟩
theorem oV {lo:Int}{n:Nat}{g:TG}{tb:TS}{D:Ends}{σ:St}{H:Hp}(Pv:Nat->St->Hp->Prop)(h0:Pv 0 σ H)
 (hs:∀i σ H,i<n->Pv i σ H->g (.int (lo+i)) σ H λJ H2=>tb { D with nx:=Pv (i+1),ct:=Pv (i+1),bk:=D.nx } J H2) (hd:∀σ H,Pv n σ H->D.nx σ H):
 ∃W:Nat->Nat->St->Hp->Prop,(∃m,W 0 m σ H)/\∀i m σ H,W i m σ H->
  ((n8 lo n).stop i H/\D.nx σ H)\/((n8 lo n).go i H/\∃N:St->Hp->Prop,(∀L H',N L H'->∃Y,Y<m/\W (i+1) Y L H')/\∀x H',(n8 lo n).l4 i H x H'->g x σ H' λJ H2=>tb { D with nx:=N,ct:=N,bk:=D.nx } J H2):=by
 refine⟨λi m σ H=>m=n - i/\i<=n/\Pv i σ H,⟨n,by simp,Q0d _,h0⟩,?_⟩;rintro i m σ H ⟨rfl,hi,p⟩;by_cases U:i<n
 . refine .inr ⟨U,Pv (i+1),λL H' p'=>⟨n - (i+1),by omega,rfl,U,p'⟩,λx H' y=>?_⟩;obtain⟨e,y⟩:=y;subst e y;exact hs i σ _ U p
 . have e:i=n:=by omega
   subst e;exact .inl ⟨Q00 _,hd σ H p⟩
noncomputable abbrev R2:=V->V->Hp->VK->Prop
def i8 (X:Cx) (f:Value->Value->Sem Value) (r:R2):Prop:=
 ∀(pins:List (Addr × Obj)) (s:Shared) (σ:St) (H:Hp) (x y:V) (v u:Value) (Q:VK),Inv X pins σ H s->RelV x v->RelV y u->r x y H Q->
  wpAny (model X.prog X.w) X.A (f v u) (EP X pins σ Q) X.xe s
def uI (X:Cx) (f:Value->Sem Value) (r:V->Hp->VK->Prop):Prop:=
 ∀(pins:List (Addr × Obj)) (s:Shared) (σ:St) (H:Hp) (x:V) (v:Value) (Q:VK),Inv X pins σ H s->RelV x v->r x H Q->
  wpAny (model X.prog X.w) X.A (f v) (EP X pins σ Q) X.xe s
def j6 (X:Cx) (f:Value) (r:List V->Hp->VK->Prop):Prop:=
 ∀(pins:List (Addr × Obj)) (s:Shared) (σ:St) (H:Hp) (xs:List V) (us:List Value) (Q:VK),Inv X pins σ H s->Vals xs us->r xs H Q->
  wpAny (model X.prog X.w) X.A (call f us) (EP X pins σ Q) X.xe s
def iD (r:R2) (ta tb:TE):TE:=λσ H Q=>ta σ H λx H1=>tb σ H1 λy H2=>r x y H2 Q
def Hj (r:V->Hp->VK->Prop) (ta:TE):TE:=λσ H Q=>ta σ H λx H1=>r x H1 Q
def rI (C:Int->Int->Prop) (g:Int->Int->V):R2:=λx y H Q=>∃i j,x=.int i/\y=.int j/\C i j/\Q (g i j) H
def n_ (g:Int->Int->V):R2:=λx y H Q=>∃i j,x=.int i/\y=.int j/\Q (g i j) H
def rU (g:Int->V):V->Hp->VK->Prop:=λx H Q=>∃i,x=.int i/\Q (g i) H
section
variable {X:Cx}{a b c:Expr}{ta tb tc:TE}{pos:Pos}
theorem uJ (Y:PE X a ta)(hb:PE X b tb){pins:List (Addr × Obj)}{s:Shared}{σ:St}{H:Hp}{R:V->V->Hp->Prop}(I:Inv X pins σ H s)
 (h:ta σ H λx H1=>tb σ H1 λy H2=>R x y H2) {Q:Value->Shared->Prop} {f:Value->Value->Sem Value}
 (hf:∀v u U x y H2,Inv X pins σ H2 U->RelV x v->RelV y u->R x y H2->wpAny (model X.prog X.w) X.A (f v u) Q X.xe U):
 wpAny (model X.prog X.w) X.A (eval a X.env) (λv J=>wpAny (model X.prog X.w) X.A (eval b X.env) (λu L=>wpAny (model X.prog X.w) X.A (f v u) Q X.xe L) X.xe J) X.xe s:=by
 refine gG (Y pins s σ H _ I h) λv s1 zq=>?_;obtain⟨x,H1,I1,r1,q1⟩:=zq;refine gG (hb pins s1 σ H1 _ I1 q1) λu U zq=>?_;obtain⟨y,H2,I2,r2,q2⟩:=zq;exact hf v u U x y H2 I2 r1 r2 q2
theorem gy {op:Operator}{r:R2}(J:i8 X (binaryOp op) r)(L:PE X a ta)(U:PE X b tb):PE X (.BinOp a op b pos) (iD r ta tb):=by
 intro pins s σ H Q I h;exact wpAny_BinOp (uJ L U I h λv u Y x y H2 I2 rx ry q=>J pins Y σ H2 x y v u Q I2 rx ry q)
theorem Hk {op:UnaryOp}{r:V->Hp->VK->Prop}(J:uI X (unaryOp op) r)(L:PE X a ta):PE X (.UnaryOp op a pos) (Hj r ta):=by
 intro pins s σ H Q I h;exact UnaryOp_ (gG (L pins s σ H _ I h) λv s1 ⟨x,H1,U,Y,q1⟩=>J pins s1 σ H1 x v Q U Y q1)
theorem rG {f:Value->Value->Sem Value}{C:Int->Int->Prop}{g:Int->Int->Int}
 (rule:∀(i j:Int) (t u:Tok) (s:Shared) (Q:Value->Shared->Prop) (E:Value->Shared->Prop),C i j->Q (.int (g i j) s.toks) { s with toks:=s.toks+1 }->wpAny (model X.prog X.w) X.A (f (.int i t) (.int j u)) Q E s):
 i8 X f (rI C λi j=>.int (g i j)):=by
 intro pins s σ H x y v u Q I J L h;obtain⟨i,j,rfl,rfl,hc,q⟩:=h;obtain⟨t,rfl⟩:=J;obtain⟨t',rfl⟩:=L;exact rule i j t t' s _ _ hc ⟨.int (g i j),H,I.tok _,⟨_,rfl⟩,q⟩
theorem By {f:Value->Value->Sem Value}{g:Int->Int->Int}
 (rule:∀(i j:Int) (t u:Tok) (s:Shared) (Q:Value->Shared->Prop) (E:Value->Shared->Prop),Q (.int (g i j) s.toks) { s with toks:=s.toks+1 }->wpAny (model X.prog X.w) X.A (f (.int i t) (.int j u)) Q E s):
 i8 X f (n_ λi j=>.int (g i j)):=by
 intro pins s σ H x y v u Q I J L h;obtain⟨i,j,rfl,rfl,q⟩:=h;obtain⟨t,rfl⟩:=J;obtain⟨t',rfl⟩:=L;exact rule i j t t' s _ _ ⟨.int (g i j),H,I.tok _,⟨_,rfl⟩,q⟩
theorem uK {f:Value->Value->Sem Value}{g:Int->Int->Bool}
 (rule:∀(i j:Int) (t u:Tok) (s:Shared) (Q:Value->Shared->Prop) (E:Value->Shared->Prop),Q (.bool (g i j)) s->wpAny (model X.prog X.w) X.A (f (.int i t) (.int j u)) Q E s):
 i8 X f (n_ λi j=>.bl (g i j)):=by
 intro pins s σ H x y v u Q I J L h;obtain⟨i,j,rfl,rfl,q⟩:=h;obtain⟨t,rfl⟩:=J;obtain⟨t',rfl⟩:=L;exact rule i j t t' s _ _ ⟨.bl (g i j),H,I,rfl,q⟩
def Hl (i j:Int):Prop:=0<j/\j<1073741824
def uL (i j:Int):Prop:=0<=j/\j<=1000000/\i.natAbs<2 ^ 64
def uM (i j:Int):Prop:=(-(2 ^ 64)<i/\i<2 ^ 64)\/(-(2 ^ 64)<j/\j<2 ^ 64)
theorem uM.ok {i j:Int}(h:uM i j):IntMulOk i j:=by
 rcases h with⟨h1,h2⟩|⟨h1,h2⟩
 . exact .of_left (intBits_le_64 h1 h2)
 . exact .of_right (intBits_le_64 h1 h2)
theorem j7:i8 X (binaryOp .Add) (n_ λi j=>.int (i+j)):=By λ_ _ _ _ _ _ _ q=>add_int q
theorem l5:i8 X (binaryOp .Sub) (n_ λi j=>.int (i - j)):=By λ_ _ _ _ _ _ _ q=>sub_int q
theorem lA:i8 X (binaryOp .Mult) (rI uM λi j=>.int (i * j)):=rG λ_ _ _ _ _ _ _ hc q=>mul_int q hc.ok
theorem ju:i8 X (binaryOp .FloorDiv) (rI Hl λi j=>.int (i / j)):=rG λi j _ _ _ _ _ hc q=>by
 have h1:(0:Int)<j:=hc.1;have h2:j<1073741824:=hc.2;exact floordiv_int (by omega) (by rw[Int.fdiv_eq_ediv_of_nonneg i (by omega)];exact q) (.inl (PyProof.noPylong_small (by omega)))
theorem ia:i8 X (binaryOp .Mod) (rI (λ_ j=>0<j) λi j=>.int (i % j)):=rG λi j _ _ _ _ _ hc q=>by
 have h1:(0:Int)<j:=hc;exact mod_int' (by omega) (by rw[Int.fmod_eq_emod_of_nonneg i (by omega)];exact q)
theorem rH:i8 X (binaryOp .Pow) (rI uL λi j=>.int (i ^ j.toNat)):=rG λ_ _ _ _ _ _ _ hc q=>pow_int_small hc.1 hc.2.1 hc.2.2 q
theorem Hm {f:Value->Sem Value}{g:Int->Int}
 (rule:∀(i:Int) (t:Tok) (s:Shared) (Q:Value->Shared->Prop) (E:Value->Shared->Prop),Q (.int (g i) s.toks) { s with toks:=s.toks+1 }->wpAny (model X.prog X.w) X.A (f (.int i t)) Q E s):
 uI X f (rU λi=>.int (g i)):=by
 intro pins s σ H x v Q I J h;obtain⟨i,rfl,q⟩:=h;obtain⟨t,rfl⟩:=J;exact rule i t s _ _ ⟨.int (g i),H,I.tok _,⟨_,rfl⟩,q⟩
theorem Hn:uI X (unaryOp .USub) (rU λi=>.int (-i)):=Hm λ_ _ _ _ _ q=>neg_int q
end
noncomputable def Bz:V->V->Bool
 | .non,.non=>true| .non,.int _=>true| .int _,.non=>true| .non,.bl _=>true| .bl _,.non=>true| .non,.str _=>true| .str _,.non=>true
 | .int _,.int _=>true| .bl _,.bl _=>true| .str _,.str _=>true| .kK _,.kK _=>true
 | .int _,.str _=>true| .str _,.int _=>true| .bl _,.str _=>true| .str _,.bl _=>true
 |_,_=>false
def og:R2:=λx y H Q=>Bz x y=true/\Q (.bl (decide (x=y))) H
def Ho:R2:=λx y H Q=>Bz x y=true/\Q (.bl (!decide (x=y))) H
theorem BB {i j:Int}:decide (V.int i=V.int j)=(i == j):=by
 rw[Bool.eq_iff_iff];simp
theorem BC {i j:Bool}:decide (V.bl i=V.bl j)=(i == j):=by
 rw[Bool.eq_iff_iff];simp
theorem BD {i j:Str}:decide (V.str i=V.str j)=(i == j):=by
 rw[Bool.eq_iff_iff];simp
theorem BE {i j:Array UInt8}:decide (V.kK i=V.kK j)=(i.toList == j.toList):=by
 rw[Bool.eq_iff_iff]
 cases i
 cases j;simp
section
variable {X:Cx}{a b c:Expr}{ta tb tc:TE}{pos:Pos}
theorem iI {pins:List (Addr × Obj)}{σ:St}{H:Hp}{s:Shared}{Q:VK}{k J:Bool}(I:Inv X pins σ H s)(q:Q (.bl k) H)(e:k=J):EP X pins σ Q (.bool J) s:=by
 subst e;exact⟨.bl k,H,I,rfl,q⟩
theorem gX:i8 X (compareOp .Eq) og:=by
 intro pins s σ H x y v u Q I U J h;obtain⟨L,q⟩:=h
 cases x with
 |non=>
  cases U
  cases y with
  |non=>cases J;exact PySem.EqNone.eq_none_none (iI I q (by simp))
  |bl j=>cases J;exact PySem.EqNone.eq_none_bool (iI I q (by simp))
  |int j=>obtain⟨t',rfl⟩:=J;exact PySem.EqNone.eq_none_int (iI I q (by simp))
  |str j=>obtain⟨t',rfl⟩:=J;exact PySem.EqNone.eq_none_str (iI I q (by simp))
  |_=>exact absurd (show false=true from L) Bool.false_ne_true
 |bl i=>
  cases U
  cases y with
  |non=>cases J;exact PySem.EqNone.eq_bool_none (iI I q (by simp))
  |bl j=>cases J;exact eq_bool (iI I q BC)
  |str j=>obtain⟨t',rfl⟩:=J;exact PySem.EqMixed.eq_bool_str (iI I q (by simp))
  |_=>exact absurd (show false=true from L) Bool.false_ne_true
 |int i=>
  obtain⟨t,rfl⟩:=U
  cases y with
  |non=>cases J;exact PySem.EqNone.eq_int_none (iI I q (by simp))
  |int j=>obtain⟨t',rfl⟩:=J;exact eq_int (iI I q BB)
  |str j=>obtain⟨t',rfl⟩:=J;exact PySem.EqMixed.eq_int_str (iI I q (by simp))
  |_=>exact absurd (show false=true from L) Bool.false_ne_true
 |str i=>
  obtain⟨t,rfl⟩:=U
  cases y with
  |non=>cases J;exact PySem.EqNone.eq_str_none (iI I q (by simp))
  |bl j=>cases J;exact PySem.EqMixed.eq_str_bool (iI I q (by simp))
  |int j=>obtain⟨t',rfl⟩:=J;exact PySem.EqMixed.eq_str_int (iI I q (by simp))
  |str j=>obtain⟨t',rfl⟩:=J;exact eq_str (iI I q BD)
  |_=>exact absurd (show false=true from L) Bool.false_ne_true
 |kK i=>
  obtain⟨t,rfl⟩:=U
  cases y with
  |kK j=>obtain⟨t',rfl⟩:=J;exact W.eq_bytes (iI I q BE)
  |_=>exact absurd (show false=true from L) Bool.false_ne_true
 |_=>cases y <;> exact absurd (show false=true from L) Bool.false_ne_true
theorem mH:i8 X (compareOp .NotEq) Ho:=by
 intro pins s σ H x y v u Q I U J h;obtain⟨L,q⟩:=h
 cases x with
 |non=>
  cases U
  cases y with
  |non=>cases J;exact PySem.EqNone.ne_none_none (iI I q (by simp))
  |bl j=>cases J;exact PySem.EqNone.ne_none_bool (iI I q (by simp))
  |int j=>obtain⟨t',rfl⟩:=J;exact PySem.EqNone.ne_none_int (iI I q (by simp))
  |str j=>obtain⟨t',rfl⟩:=J;exact PySem.EqNone.ne_none_str (iI I q (by simp))
  |_=>exact absurd (show false=true from L) Bool.false_ne_true
 |bl i=>
  cases U
  cases y with
  |non=>cases J;exact PySem.EqNone.ne_bool_none (iI I q (by simp))
  |bl j=>cases J;exact ne_bool (iI I q (congrArg not BC))
  |str j=>obtain⟨t',rfl⟩:=J;exact PySem.EqMixed.ne_bool_str (iI I q (by simp))
  |_=>exact absurd (show false=true from L) Bool.false_ne_true
 |int i=>
  obtain⟨t,rfl⟩:=U
  cases y with
  |non=>cases J;exact PySem.EqNone.ne_int_none (iI I q (by simp))
  |int j=>obtain⟨t',rfl⟩:=J;exact ne_int (iI I q (congrArg not BB))
  |str j=>obtain⟨t',rfl⟩:=J;exact PySem.EqMixed.ne_int_str (iI I q (by simp))
  |_=>exact absurd (show false=true from L) Bool.false_ne_true
 |str i=>
  obtain⟨t,rfl⟩:=U
  cases y with
  |non=>cases J;exact PySem.EqNone.ne_str_none (iI I q (by simp))
  |bl j=>cases J;exact PySem.EqMixed.ne_str_bool (iI I q (by simp))
  |int j=>obtain⟨t',rfl⟩:=J;exact PySem.EqMixed.ne_str_int (iI I q (by simp))
  |str j=>obtain⟨t',rfl⟩:=J;exact ne_str (iI I q (congrArg not BD))
  |_=>exact absurd (show false=true from L) Bool.false_ne_true
 |kK i=>
  obtain⟨t,rfl⟩:=U
  cases y with
  |kK j=>obtain⟨t',rfl⟩:=J;exact W.ne_bytes (iI I q (congrArg not BE))
  |_=>exact absurd (show false=true from L) Bool.false_ne_true
 |_=>cases y <;> exact absurd (show false=true from L) Bool.false_ne_true
theorem oW:i8 X (compareOp .Lt) (n_ λi j=>.bl (decide (i<j))):=uK λ_ _ _ _ _ _ _ q=>lt_int q
theorem BF:i8 X (compareOp .LtE) (n_ λi j=>.bl (decide (i<=j))):=uK λ_ _ _ _ _ _ _ q=>le_int q
theorem rJ:i8 X (compareOp .Gt) (n_ λi j=>.bl (decide (j<i))):=uK λ_ _ _ _ _ _ _ q=>gt_int q
theorem BG:i8 X (compareOp .Is) (λx y H Q=>y=.non/\Q (.bl (decide (x=.non))) H):=by
 intro pins s σ H x y v u Q I J L h;obtain⟨rfl,q⟩:=h
 cases L;refine is_none_gen (iI I q ?_)
 cases x <;> first
  |(cases J;rfl)
  |(obtain⟨t,rfl⟩:=J;rfl)
theorem lB:i8 X (compareOp .IsNot) (λx y H Q=>y=.non/\Q (.bl (!decide (x=.non))) H):=by
 intro pins s σ H x y v u Q I J L h;obtain⟨rfl,q⟩:=h
 cases L;refine isnot_none_gen (iI I q ?_)
 cases x <;> first
  |(cases J;rfl)
  |(obtain⟨t,rfl⟩:=J;rfl)
theorem gE (b:Expr){op:CmpOp}(h:op≠ .In:=by decide)(h2:op≠ .NotIn:=by decide):behindInMarks op b=false:=by
 have J:(op == CmpOp.In)=false:=by cases op <;> first|rfl|exact absurd rfl h
 have L:(op == CmpOp.NotIn)=false:=by cases op <;> first|rfl|exact absurd rfl h2
 cases b <;> simp[behindInMarks,J,L]
theorem mI {op:CmpOp}{r:R2}(J:i8 X (compareOp op) r)(L:PE X a ta)(U:PE X b tb)(Y:behindInMarks op b=false):PE X (.Compare a [op] [b] pos) (iD r ta tb):=by
 intro pins s σ H Q I h;exact wpAny_Compare1 (uJ L U I h λv u s2 x y H2 I2 rx ry q=>J pins s2 σ H2 x y v u Q I2 rx ry q) Y
def mJ (t:TE):TT:=λσ H Q=>t σ H λx H'=>∃k,x=.bl k/\Q k H'
theorem gI {op:CmpOp}{r:R2}(J:i8 X (compareOp op) r)(L:PE X a ta)(U:PE X b tb)(Y:behindInMarks op b=false):PT X (.Compare a [op] [b] pos) (mJ (iD r ta tb)):=by
 intro pins s σ H Q I h
 refine wpAny_isTrue_Compare1 (gG (L pins s σ H _ I h) λv s1 ⟨x,H1,I1,r1,q1⟩=>gG (U pins s1 σ H1 _ I1 q1) λu s2 ⟨y,H2,I2,r2,q2⟩=>
  gG (J pins s2 σ H2 x y v u _ I2 r1 r2 q2) λc s3 ⟨z,H3,I3,r3,k,e,q3⟩=>?_) Y
 subst e
 cases r3;exact wpAny_truthy_bool ⟨H3,I3,q3⟩
theorem oX:(sizeLine:Nat)<2 ^ 63:=by rw[sizeLine_eq];decide
theorem qo:i8 X (binaryOp .Add) (λx y H Q=>∃i j,x=.str i/\y=.str j/\i.length+j.length<=sizeLine/\Q (.str (i++j)) H):=by
 intro pins s σ H x y v u Q I J L h;obtain⟨i,j,rfl,rfl,U,q⟩:=h;obtain⟨t,rfl⟩:=J;obtain⟨t',rfl⟩:=L;exact add_str (λt' tk=>⟨.str (i++j),H,I.tok _,⟨_,rfl⟩,q⟩) U
theorem vals1 {x:V}{us:List Value}(r:Vals [x] us):∃u,us=[u]/\RelV x u:=by
 cases r with
 |cons J L=>cases L;exact⟨_,rfl,J⟩
theorem vals2 {x y:V}{us:List Value}(r:Vals [x,y] us):∃u J,us=[u,J]/\RelV x u/\RelV y J:=by
 cases r with
 |cons L U=>
  cases U with
  |cons Y r4=>cases r4;exact⟨_,_,rfl,L,Y⟩
theorem Hq (hc:X.calm=true):j6 X (.builtin "min") (λxs H Q=>∃i j,xs=[.int i,.int j]/\Q (.int (if j<i then j else i)) H):=by
 intro pins s σ H xs us Q I r h;obtain⟨i,j,rfl,q⟩:=h;obtain⟨u,L,rfl,⟨t,rfl⟩,⟨t',rfl⟩⟩:=vals2 r;refine min_two_ints (I.ok.hd hc) λh' tk k=>⟨_,H,I.kept k,?_,q⟩;by_cases J:j<i
 . rw[if_pos J,if_pos J];exact⟨_,rfl⟩
 . rw[if_neg J,if_neg J];exact⟨_,rfl⟩
end
structure oh (h:Heap) (x dx C:Addr) (mA:Str->Option Value):Prop where
 obj:h.get? x=some (W.instObj C dx)
 ns:h.Ns1 dx mA
 ne:dx≠x
theorem Hr {h:Heap}{dx:Addr}{mA:Str->Option Value}(n:h.Ns1 dx mA):∃L,h.get? dx=some L/\∀name,W.lookIn name L=some (mA name):=by
 obtain⟨o,es,ep,U,Y,hk,_,hm⟩:=n;refine⟨o,U,λname=>?_⟩;have e:=hm name;unfold nsFind findBy at e;rw[<-Array.find?_toList] at e;unfold W.lookIn;rw[Y];dsimp only;split
 . rename_i y q;rw[q] at e;exact congrArg some e
 . rename_i q;rw[q] at e
   have a:es.toList.any (·.refKey)=false:=by
    rw[List.any_eq_false];intro y hy;obtain⟨z,t,J⟩:=hk y (Array.mem_toList_iff.mp hy);simp[DictEntry.refKey,J]
   have a':¬es.toList.any (·.refKey)=true:=by rw[a];exact Bool.false_ne_true
   rw[if_neg a'];exact congrArg some e
theorem oh.look {h:Heap}{x dx C:Addr}{mA:Str->Option Value}(I:oh h x dx C mA):∃J,W.InstAt h x (W.instObj C dx) C (some J)/\∀name,W.lookIn name J=some (mA name):=
 let⟨J,L,hl⟩:=Hr I.ns
 ⟨J,⟨I.obj,rfl,rfl,L⟩,hl⟩
section
variable {prog:Program}{w:World}{A:Around}{E:Value->Shared->Prop}{s:Shared}{K:W.Frag}{x dx C f:Addr}{mA:Str->Option Value}{name:Str}{v:Value}
theorem get_map {L:Bool}{Q:Value->Shared->Prop}(X:K.In s.heap)(I:oh s.heap x dx C mA)(Y:W.plainGet K C name=true)(hh:W.hasDictIn K C=true)
 (ha:W.findIn K (.ref C) name=some none) (hv:mA name=some v) (U:W.handedIn v=true) (h:Q v { s with toks:=s.toks+1 }):
 wpAny (model prog w) A (getAttr (.ref x) name L) Q E s:=by
 obtain⟨od,J,hl⟩:=I.look;exact W.get_value X J (W.plainGet_of Y).1 (W.findObj_own hh ha rfl (by rw[hl,hv])) U h
theorem Hs {pl:Sem Bool}{Q:Value × List Value->Shared->Prop}(X:K.In s.heap)(I:oh s.heap x dx C mA)(L:W.plainGet K C name=true)
 (U:W.findIn K (.ref C) name=some (some (.ref f))) (ht:W.isFn K (.ref f)=true) (Y:mA name=none) (h:Q (.ref f,[.ref x]) s):
 wpAny (model prog w) A (getMethod (.ref x) name pl) Q E s:=by
 obtain⟨od,J,hl⟩:=I.look;exact W.method_fn X J (W.plainGet_of L).1 (W.plainGet_of L).2 U (beq_iff_eq.mp ht) (by show(W.lookIn name od).map (·.isSome)=some false;rw[hl,Y];rfl) h
theorem Hu {ns:List Str}{Q:Unit->Shared->Prop}(X:K.In s.heap)(I:oh s.heap x dx C mA)
 (hs:W.findIn K (.ref C) "__setattr__"=some (some (.builtin "object.__setattr__"))) (hp:W.plainOver K C=true) (ht:W.takerIn K C name=some none) (hh:W.hasDictIn K C=true)
 (hw:PySem.Within mA ns) (hsz:ns.length<=sizeLine)
 (h:∀h',oh h' x dx C (λy=>if y=name then some v else mA y)->Heap.SameBut dx s.heap h'->Q () { s with heap:=h',toks:=s.toks+2 }):
 wpAny (model prog w) A (setAttr (.ref x) name v) Q E s:=by
 obtain⟨od,J,hl⟩:=I.look;refine W.set_plain X J hs (W.osa_open (s:={ s with toks:=s.toks+1 }) (r:=none) X J hp ht λb=>?_);obtain⟨cd,hc,Y⟩:=W.any_some hh;have hx:s.heap.get? x=some ⟨.ref C,some dx,.plain,#[]⟩:=I.obj;refine Q01 (Q0c (Q01 (Q01 (wpAny_loadPart hx (Q01 (W.Looks.here (s:={ s with toks:=s.toks+1 }) (W.looks_clsIn X hc) ?_))))));rw[Y];refine Q0c (a:=some dx) (Q01 (Q0c (Q01 ?_)));refine wpAny_nsSet1 (s:={ s with toks:=s.toks+1 }) I.ns λh' L U=>?_;obtain⟨oD,ae,af,aa,ab,ac⟩:=L.count (PySem.Within.cons name v hw);refine Q01 (wpAny_lookBehind aa (by rw[ab];exact pastItsLine_dict (Q0g ac (by rw[Q0h];omega))) ?_);exact Q0c (h _ ⟨(U.2 _ (Ne.symm I.ne)).trans I.obj,L,I.ne⟩ U)
theorem Hv {R:Result->Shared->Prop}{vs:List Value}{J:List (Str × Value)}(X:K.In s.heap)(L:W.makesIn K C=true)
 (hi:W.findIn K (.ref C) "__init__"=some (some (.ref f))) (U:W.typeIn K (.ref f)=some (.type "function"))
 (h:codeAny (model prog w) (A.under (.builtin "type.__call__" ⟨.ref C::vs,J⟩)) (.call (.ref f) ⟨.ref (s.heap.objs.size+1)::vs,J⟩) (W.InitBack (s.heap.objs.size+1) R)
   { s with heap:=(s.heap.push W.emptyDict).push (W.instObj C s.heap.objs.size) }):
 codeAny (model prog w) A (.call (.ref C) ⟨vs,J⟩) R s:=by
 obtain⟨Y,g,d,t,os⟩:=s;exact W.make_core (W.makes_of X L) (W.looks_findIn X hi) (λself=>W.bind_fn X self U) (.inl rfl) h
theorem Hw {R:Result->Shared->Prop}(X:K.In s.heap)(J:W.makesIn K C=true)
 (hi:W.findIn K (.ref C) "__init__"=some (some (.builtin "object.__init__")))
 (L:∀self,W.Looks (model prog w) s.heap (bindSpecial (.builtin "object.__init__") self) (.builtin "object.__init__",[self]))
 (h:codeAny (model prog w) (A.under (.builtin "type.__call__" ⟨[.ref C],[]⟩)) (.call (.builtin "object.__init__") ⟨[.ref (s.heap.objs.size+1)],[]⟩) (W.InitBack (s.heap.objs.size+1) R)
   { s with heap:=(s.heap.push W.emptyDict).push (W.instObj C s.heap.objs.size) }):
 codeAny (model prog w) A (.call (.ref C) ⟨[],[]⟩) R s:=by
 obtain⟨U,g,d,t,os⟩:=s;exact W.make_core (W.makes_of X J) (W.looks_findIn X hi) L (.inr ⟨rfl,rfl⟩) h
end
noncomputable def jV (f:Str) (v:V):List (Str × V)->List (Str × V)
 |[]=>[(f,v)]
 |(g,x)::r=>if g=f then(g,v)::r else(g,x)::jV f v r
theorem BH (f g:Str)(v:V):∀fs:List (Str × V),(jV f v fs).lookup g=if g=f then some v else fs.lookup g
 |[]=>by
  show List.lookup g [(f,v)]=_;by_cases h:g=f
  . have J:(g == f)=true:=beq_iff_eq.mpr h;simp only[List.lookup,J,if_pos h]
  . have J:(g == f)=false:=beq_eq_false_iff_ne.mpr h;simp only[List.lookup,J,if_neg h]
 |(k,x)::r=>by
  have L:=BH f g v r;rw[show jV f v ((k,x)::r)=(if k=f then(k,v)::r else(k,x)::jV f v r) from rfl];by_cases hk:k=f
  . rw[if_pos hk];by_cases h:g=k
    . have J:(g == k)=true:=beq_iff_eq.mpr h;simp only[List.lookup,J,if_pos (h.trans hk)]
    . have J:(g == k)=false:=beq_eq_false_iff_ne.mpr h;simp only[List.lookup,J,if_neg (λe:g=f=>h (e.trans hk.symm))]
  . rw[if_neg hk];by_cases h:g=k
    . have J:(g == k)=true:=beq_iff_eq.mpr h;simp only[List.lookup,J,if_neg (λe:g=f=>hk (h.symm.trans e))]
    . have J:(g == k)=false:=beq_eq_false_iff_ne.mpr h;simp only[List.lookup,J];exact L
theorem uN (f:Str)(v:V):∀fs:List (Str × V),f∈(jV f v fs).map (·.1)/\∀g,g∈fs.map (·.1)->g∈(jV f v fs).map (·.1)
 |[]=>⟨by simp[jV],λg h=>by simp at h⟩
 |(k,x)::r=>by
  obtain⟨J,L⟩:=uN f v r;rw[show jV f v ((k,x)::r)=(if k=f then(k,v)::r else(k,x)::jV f v r) from rfl];by_cases hk:k=f
  . rw[if_pos hk];subst hk;exact⟨by simp,λg h=>by simpa using h⟩
  . rw[if_neg hk];refine⟨?_,λg h=>?_⟩
    . rw[Q0w];exact Q06 _ J
    . rw[Q0w] at h ⊢;rcases List.mem_cons.mp h with e|e
      . exact List.mem_cons.mpr (.inl e)
      . exact Q06 _ (L g e)
theorem BJ (f:Str)(v:V):∀fs:List (Str × V),(jV f v fs).length<=fs.length+1
 |[]=>by simp[jV]
 |(k,x)::r=>by
  have J:=BJ f v r;rw[show jV f v ((k,x)::r)=(if k=f then(k,v)::r else(k,x)::jV f v r) from rfl];by_cases hk:k=f
  . rw[if_pos hk,Q0h,Q0h];omega
  . rw[if_neg hk,Q0h,Q0h];omega
theorem jQ.some_of {v:V}{o:Option Value}(r:jQ (some v) o):∃u,o=some u/\RelV v u:=by
 cases o with
 |none=>exact(show False from r).elim
 |some u=>exact⟨u,rfl,r⟩
theorem jQ.none_of {o:Option Value}(r:jQ none o):o=none:=by
 cases o with
 |none=>rfl
 |some u=>exact(show False from r).elim
theorem Hx {v:V}{u:Value}(r:RelV v u):W.handedIn u=true:=by
 cases v with
 |non=>cases(show u=Value.none from r);rfl
 |bl b=>cases(show u=Value.bool b from r);rfl
 |int i=>obtain⟨t,e⟩:=(show ∃t,u=Value.int i t from r);cases e;rfl
 |str x=>obtain⟨t,e⟩:=(show ∃t,u=Value.str x t from r);cases e;rfl
 |kK b=>obtain⟨t,e⟩:=(show ∃t,u=Value.bytes b t from r);cases e;rfl
 |flt b=>obtain⟨t,e⟩:=(show ∃t,u=Value.float b t from r);cases e;rfl
 |ref a=>cases(show u=Value.ref a from r);rfl
 |ty n=>cases(show u=Value.type n from r);rfl
section
variable {P:Program}{w:World}{H H':Hp}{h h':Heap}{a C dx:Addr}{fs fs':List (Str × V)}
theorem rK (J:iF P w H h)(e:H a=some (.ins C dx fs)):∃mA,oh h a dx C mA/\(∀f,jQ (fs.lookup f) (mA f))/\PySem.Within mA (fs.map (·.1))/\fs.length<=1000/\H dx=some (.own a):=by
 obtain⟨d,z,ne,L,mA,n,r,q⟩:=(show iO P w H h a (.ins C dx fs) from J a _ e);exact⟨mA,⟨L,n,ne⟩,r,q,z,d⟩
end
structure Cls (K:W.Frag) (C:Addr):Prop where
 pg:W.plainGet K C Str.empty=true
 hd:W.hasDictIn K C=true
 po:W.plainOver K C=true
 sa:W.findIn K (.ref C) "__setattr__"=some (some (.builtin "object.__setattr__"))
theorem Cls.get {K:W.Frag}{C:Addr}(c:Cls K C)(f:Str):W.plainGet K C f=true:=c.pg
def nq (K:W.Frag) (C:Addr) (f:Str):Prop:=W.findIn K (.ref C) f=some none
theorem nq.taker {K:W.Frag}{C:Addr}{f:Str}(n:nq K C f):W.takerIn K C f=some none:=by
 unfold W.takerIn;rw[show W.findIn K (.ref C) f=some none from n];rfl
structure Meth (K:W.Frag) (C:Addr) (m:Str) (f:Addr):Prop where
 at_:W.findIn K (.ref C) m=some (some (.ref f))
 fn:W.isFn K (.ref f)=true
 kp:W.keepIn K (.ref f)=true
section
variable {X:Cx}{pins:List (Addr × Obj)}{σ:St}{H:Hp}{s:Shared}{a C dx:Addr}{fs:List (Str × V)}{f:Str}{v:V}{A:Around}{E:Value->Shared->Prop}
theorem Hy {b:Bool}{Q:Value->Shared->Prop}(I:Inv X pins σ H s)(e:H a=some (.ins C dx fs))(c:Cls X.K C)(n:nq X.K C f)(l:fs.lookup f=some v)
 (h:∀u s',Inv X pins σ H s'->RelV v u->Q u s'):wpAny (model X.prog X.w) A (getAttr (.ref a) f b) Q E s:=by
 obtain⟨mA,O,r,_,_,_⟩:=rK I.hok e;obtain⟨u,L,J⟩:=jQ.some_of (v:=v) (o:=mA f) (by rw[<-l];exact r f);exact get_map I.iW O (c.get f) c.hd n L (Hx J) (h u _ (I.tok _) J)
theorem BK {m:Str}{g:Addr}{pl:Sem Bool}{Q:Value × List Value->Shared->Prop}(I:Inv X pins σ H s)(e:H a=some (.ins C dx fs))(c:Cls X.K C)(k:Meth X.K C m g)(l:fs.lookup m=none)
 (h:Q (.ref g,[.ref a]) s):wpAny (model X.prog X.w) A (getMethod (.ref a) m pl) Q E s:=by
 obtain⟨mA,O,r,_,_,_⟩:=rK I.hok e;have J:mA m=none:=jQ.none_of (by rw[<-l];exact r m);exact Hs I.iW O (c.get m) k.at_ k.fn J h
theorem Hz {y:V}{u:Value}{Q:Unit->Shared->Prop}(I:Inv X pins σ H s)(e:H a=some (.ins C dx fs))(c:Cls X.K C)(n:nq X.K C f)(hl:fs.length<1000)(Y:RelV y u)
 (h:∀s',Inv X pins σ (upd H a (.ins C dx (jV f y fs))) s'->Q () s'):wpAny (model X.prog X.w) A (setAttr (.ref a) f u) Q E s:=by
 obtain⟨mA,O,r,L,_,U⟩:=rK I.hok e;have hz:(fs.map (·.1)).length<=sizeLine:=by rw[Q04,sizeLine_eq];omega
 refine Hu I.iW O c.sa c.po n.taker c.hd L hz λh' J sb=>h _ ?_;have hd:∃o,h'.get? dx=some o:=let⟨o,_,_,e',_⟩:=J.ns;⟨o,e'⟩
 refine I.write (x:=a) (e:=dx) (by rw[e];exact True.intro) (.inr U) (λb q hb z=>(sb.2 b hb).trans z) hd ?_;refine⟨by rw[gj O.ne];exact U,?_,O.ne,J.obj,_,J.ns,λg=>?_,λg hg=>?_⟩
 . have:=BJ f y fs;omega
 . show jQ ((jV f y fs).lookup g) (if g=f then some u else mA g);rw[BH];by_cases q:g=f
   . rw[if_pos q,if_pos q];exact Y
   . rw[if_neg q,if_neg q];exact r g
 . by_cases q:g=f
   . rw[q];exact(uN f y fs).1
   . refine(uN f y fs).2 g (L g λz=>hg ?_);show(if g=f then some u else mA g)=none;rw[if_neg q];exact z
theorem Inv.made (I:Inv X pins σ H s):Inv X pins σ (upd (upd H s.heap.objs.size (.own (s.heap.objs.size+1))) (s.heap.objs.size+1) (.ins C s.heap.objs.size []))
 { s with heap:=(s.heap.push W.emptyDict).push (W.instObj C s.heap.objs.size) }:=by
 have J:(s.heap.push W.emptyDict).get? s.heap.objs.size=some W.emptyDict:=Q0i s.heap rfl
 have L:((s.heap.push W.emptyDict).push (W.instObj C s.heap.objs.size)).get? (s.heap.objs.size+1)=some (W.instObj C s.heap.objs.size):=by
  have:=Q0i (s.heap.push W.emptyDict) (o:=W.instObj C s.heap.objs.size) rfl
  rwa [Q16] at this
 have U:(s.heap.push W.emptyDict).Ns s.heap.objs.size (λ_=>none):=⟨W.emptyDict,#[],_,J,rfl,(λe Y=>absurd Y (by simp)),λ_=>rfl⟩;have I1:=I.laid (a:=s.heap.objs.size) (o:=.own (s.heap.objs.size+1)) (h':=s.heap.push W.emptyDict) (t':=s.toks) (λb u q=>Q07 _ q) (Q00 _) ⟨_,J⟩;refine I1.laid (a:=s.heap.objs.size+1) (o:=.ins C s.heap.objs.size []) (t':=s.toks) (λb u q=>Q07 _ q) (Q10 (Q16 _ _)) ?_;have ne:s.heap.objs.size≠s.heap.objs.size+1:=Q0a (Q13 _);refine⟨by rw[gj ne,gu],Q0d _,ne,L,λ_=>none,(Heap.Ns1.of_empty U).at λo q=>Q07 _ q,λ_=>True.intro,λy hy=>absurd rfl hy⟩
theorem HA {prog:Program}{w:World}{env:Env}{e:Expr}{f:Str}{pos:Pos}{s:Shared}{Q:Value->Shared->Prop}(L:attributeBase e f env (eval e env)=eval e env)
 (h:wpAny (model prog w) A (eval e env) (λo J=>wpAny (model prog w) A (getAttr o f true) Q E J) E s):wpAny (model prog w) A (eval (.Attribute e f pos) env) Q E s:=
 Attribute_any_ h (by rw[arm_eval_Attribute,L])
end
def HC (K:W.Frag) (ta:TE) (f:Str):TE:=λσ H Q=>ta σ H λx H1=>∃a C dx fs v,x=.ref a/\H1 a=some (.ins C dx fs)/\Cls K C/\nq K C f/\fs.lookup f=some v/\Q v H1
def HD (K:W.Frag) (ta tv:TE) (f:Str):TS:=λD σ H=>tv σ H λy H1=>ta σ H1 λx H2=>∃a C dx fs,x=.ref a/\H2 a=some (.ins C dx fs)/\Cls K C/\nq K C f/\fs.length<1000/\
 D.nx σ (upd H2 a (.ins C dx (jV f y fs)))
section
variable {X:Cx}{o e value:Expr}{f:Str}{pos pos' tpos:Pos}{ta tv:TE}
theorem oi (J:PE X e ta)(L:attributeBase e f X.env (eval e X.env)=eval e X.env):PE X (.Attribute e f pos) (HC X.K ta f):=by
 intro pins s σ H Q I h;refine HA L (gG (J pins s σ H _ I h) λu s1 zq=>?_);obtain⟨x,H1,U,Y,a,C,dx,fs,v,ex,ea,c,n,l,q⟩:=zq;subst ex;obtain rfl:u=Value.ref a:=Y;exact Hy U ea c n l λu' s2 I2 ru=>⟨v,H1,I2,ru,q⟩
theorem BN (J:PE X o ta)(L:PE X value tv)(U:swapsWith value (some (.Attribute o f pos')) pos.line X.env=pure false):PS X (.Assign [.Attribute o f pos'] value pos) (HD X.K ta tv f):=by
 intro pins s σ H D I h;refine plainObj_wpAny_Assign_Attribute (gG (L pins s σ H _ I h) λu s1 ⟨y,H1,Y,ry,q⟩=>gG (J pins s1 σ H1 _ Y q) λov s2 zq=>?_) U;obtain⟨x,H2,I2,rx,a,C,dx,fs,ex,ea,c,n,l,q2⟩:=zq;subst ex;obtain rfl:ov=Value.ref a:=rx;exact Hz I2 ea c n l ry λs3 I3=>⟨σ,_,I3,q2⟩
end
section
variable {X:Cx}{pins:List (Addr × Obj)}{σ:St}{H:Hp}{s:Shared}{A:Around}{E:Value->Shared->Prop}{Q:Value->Shared->Prop}{c:Value}{b:Bool}
inductive ku (K:W.Frag) (H:Hp):V->Value->Prop where
 |non:ku K H .non (.type "NoneType")
 |bl (x:Bool):ku K H (.bl x) (.type "bool")
 |int (i:Int):ku K H (.int i) (.type "int")
 |str (x:Str):ku K H (.str x) (.type "str")
 |flt (x:UInt64):ku K H (.flt x) (.type "float")
 |lst {a:Addr} {xs:List V} (e:H a=some (.lst xs)):ku K H (.ref a) (.type "list")
 |j2 {a:Addr} {o:Obj} {xs:List V} (e:H a=some (.j2 o (.lst xs))):ku K H (.ref a) (.type "list")
 |tup {a:Addr} {xs:List V} (e:H a=some (.tup xs)):ku K H (.ref a) (.type "tuple")
 |dK {a:Addr} {kvs:List (Key × V)} (e:H a=some (.dK kvs)):ku K H (.ref a) (.type "dict")
 |dT {a:Addr} {kvs:List (List Key × V)} (e:H a=some (.dT kvs)):ku K H (.ref a) (.type "dict")
 |ins {a C dx:Addr} {fs:List (Str × V)} (e:H a=some (.ins C dx fs)) (cl:Cls K C) (ha:W.findIn K (.ref C) "__class__"=some (some (.builtin "object.__class__")))
   (hn:W.specialIn K (.builtin "object.__class__") "__get__"=some (some (.builtin "getset_descriptor.__get__"))) (htk:W.takesIn K (.builtin "object.__class__")=some true)
   (hm:W.mroIn K C (.type "object")=some true):ku K H (.ref a) (.ref C)
theorem HE {x:V}{u t:Value}(I:Inv X pins σ H s)(L:RelV x u)(ty:ku X.K H x t)(e:W.kitOne X.K t c=some b)(h:∀tk,Q (.bool b) { s with toks:=tk }):
 wpAny (model X.prog X.w) A (call (.builtin "isinstance") [u,c]) Q E s:=by
 cases ty with
 |non=>cases(show u=Value.none from L);exact W.kia_one W.kitx_none I.iW True.intro e (λz=>nomatch z) h
 |bl y=>cases(show u=Value.bool y from L);exact W.kia_one W.kitx_bool I.iW True.intro e (λz=>nomatch z) h
 |int i=>obtain⟨t,q⟩:=(show ∃t,u=Value.int i t from L);cases q;exact W.kia_one W.kitx_int I.iW True.intro e (λz=>nomatch z) h
 |str y=>obtain⟨t,q⟩:=(show ∃t,u=Value.str y t from L);cases q;exact W.kia_one W.kitx_str I.iW True.intro e (λz=>nomatch z) h
 |flt y=>obtain⟨t,q⟩:=(show ∃t,u=Value.float y t from L);cases q;exact W.kia_one W.kitx_float I.iW True.intro e (λz=>nomatch z) h
 |@lst a xs U=>
  cases(show u=Value.ref a from L);obtain⟨_,_,n,_,h1⟩:=(show iO X.prog X.w H s.heap a (.lst xs) from I.hok a _ U);exact W.kia_one W.kitx_list I.iW ⟨_,h1,rfl⟩ e (λz=>nomatch z) h
 |@j2 a ob xs U=>
  cases(show u=Value.ref a from L);obtain⟨_,_,_,n,_,h1⟩:=(show iO X.prog X.w H s.heap a (.j2 ob (.lst xs)) from I.hok a _ U);exact W.kia_one W.kitx_list I.iW ⟨_,h1,rfl⟩ e (λz=>nomatch z) h
 |@tup a xs U=>
  cases(show u=Value.ref a from L);obtain⟨_,_,_,p⟩:=(show iO X.prog X.w H s.heap a (.tup xs) from I.hok a _ U);obtain⟨o,h1,h2,_⟩:=p;exact W.kia_one W.kitx_tuple I.iW ⟨o,h1,h2⟩ e (λz=>nomatch z) h
 |@dK a kvs U=>
  cases(show u=Value.ref a from L);obtain⟨_,_,vs,_,p⟩:=(show iO X.prog X.w H s.heap a (.dK kvs) from I.hok a _ U);obtain⟨o,es,ep,h1,h2,_⟩:=p;exact W.kia_one W.kitx_dict I.iW ⟨o,h1,h2.1⟩ e (λz=>nomatch z) h
 |@dT a kvs U=>
  cases(show u=Value.ref a from L);obtain⟨_,_,xs,_,o,es,ep,h1,h2,_⟩:=(show iO X.prog X.w H s.heap a (.dT kvs) from I.hok a _ U);exact W.kia_one W.kitx_dict I.iW ⟨o,h1,h2.1⟩ e (λz=>nomatch z) h
 |@ins a C dx fs U cl ha hn Y hm=>
  cases(show u=Value.ref a from L);obtain⟨mA,O,_⟩:=rK I.hok U;obtain⟨od,J,_⟩:=O.look;exact W.kia_one (W.kitx_own (cl.get _) cl.hd ha hn Y hm) I.iW J e (λz=>nomatch z) h
end
structure iu (k:Nat) (A:Around):Prop where
 hd:A.handled=none
 dp:A.depth+3 * k+5<recursionLimit
 un:A.units+16 * k+200<cLine
theorem iu.mono {j k:Nat}{A:Around}(r:iu k A)(h:j<=k):iu j A:=⟨r.hd,by have:=r.dp;omega,by have:=r.un;omega⟩
theorem iu.deeper {k:Nat}{A:Around}(r:iu (k+1) A)(env:Env):iu k (A.deeper env):=
 ⟨r.hd,by have:=r.dp;show A.depth+1+3 * k+5<_;omega,by have:=r.un;show A.units+3+16 * k+200<_;omega⟩
theorem iu.in1 {k:Nat}{A:Around}(r:iu (k+1) A):iu k A.in1:=
 ⟨r.hd,by have:=r.dp;show A.depth+3 * k+5<_;omega,by have:=r.un;show A.units+1+16 * k+200<_;omega⟩
theorem HF {A:Around}{C:Addr}{us:List Value}{J:List (Str × Value)}:(A.under (.builtin "type.__call__" ⟨.ref C::us,J⟩)).depth=A.depth+1:=by
 first|rfl|simp[Around.under,Code.weight,Code.isCreation,Code.isGuard,Code.isCaller,Code.frames,Code.isFrame,guardIds]
theorem HG {A:Around}{C:Addr}{us:List Value}{J:List (Str × Value)}:(A.under (.builtin "type.__call__" ⟨.ref C::us,J⟩)).units=A.units+1:=by
 first|rfl|simp[Around.under,Code.cUnits,Code.frames,Code.isFrame]
theorem iu.make {k:Nat}{A:Around}(r:iu (k+1) A)(C:Addr)(us:List Value)(J:List (Str × Value)):iu k (A.under (.builtin "type.__call__" ⟨.ref C::us,J⟩)):=
 ⟨r.hd,by have:=r.dp;rw[HF];omega,by have:=r.un;rw[HG];omega⟩
theorem iu.depth {k:Nat}{A:Around}(r:iu k A):A.depth<recursionLimit:=by have:=r.dp;omega
theorem iu.units {k:Nat}{A:Around}(r:iu k A):A.units+64<cLine:=by have:=r.un;omega
theorem iu.BP {k:Nat}{A:Around}(r:iu k A):A.units<cLine:=by have:=r.un;omega
def kO:TA:=λ_ H Q=>Q [] H
def ja (ta:TE) (J:TA):TA:=λσ H Q=>ta σ H λx H1=>J σ H1 λxs H2=>Q (x::xs) H2
section
variable {X:Cx}{e:Expr}{es:List Expr}{te:TE}{t:TA}{pos:Pos}
theorem b_:PA X [] kO:=λ_ _ _ _ H Q I h=>Calls.spliced_nil ⟨[],H,I,.nil,h⟩
theorem a_ (J:PE X e te)(L:PA X es t)(U:starEach (e::es) X.env=(false,eval e X.env)::starEach es X.env:=by rfl):PA X (e::es) (ja te t):=by
 intro pos pins s σ H Q I h;rw[U];show wpAny _ _ (spliced ((false,eval e X.env)::backTo pos (starEach es X.env))) _ _ s;refine Calls.spliced_cons (gG (J pins s σ H _ I h) λu s1 zq=>?_);obtain⟨x,H1,Y,r1,q1⟩:=zq;exact gG (L pos pins s1 σ H1 _ Y q1) λus s2 ⟨xs,H2,I2,r2,q2⟩=>⟨x::xs,H2,I2,.cons r1 r2,q2⟩
def uO (t:TA):TE:=λσ H Q=>t σ H λxs H1=>xs.length<=sizeLine/\∀p,H1 p=none->Q (.ref p) (upd H1 p (.tup xs))
def HH (t:TA):TE:=λσ H Q=>t σ H λxs H1=>xs.length<=sizeLine/\∀p,H1 p=none->Q (.ref p) (upd H1 p (.lst xs))
theorem iw {L}(h:PA X es t):PE X (.Tuple es L pos) (uO t):=by
 intro pins s σ H Q I U;refine wpAny_Tuple_spliced (gG (h pos pins s σ H _ I U) λus s1 ⟨xs,H1,J,r,z,q⟩=>⟨by rw[<-r.length];exact z,?_⟩);have Y:H1 s1.heap.objs.size=none:=J.hok.fresh (Q00 _);refine⟨.ref s1.heap.objs.size,upd H1 s1.heap.objs.size (.tup xs),J.laid (t':=s1.toks) (λb u e=>Q07 _ e) (Q00 _) ?_,rfl,q _ Y⟩;exact⟨z,us,r,⟨_,Q0i _ rfl,rfl,_,rfl⟩⟩
theorem iJ (h:PA X es t):PE X (.List es pos) (HH t):=by
 intro pins s σ H Q I L;refine wpAny_List_spliced (gG (h pos pins s σ H _ I L) λus s1 ⟨xs,H1,J,r,z,q⟩=>⟨by rw[<-r.length];exact z,?_⟩);have U:H1 s1.heap.objs.size=none:=J.hok.fresh (Q00 _);refine⟨.ref s1.heap.objs.size,upd H1 s1.heap.objs.size (.lst xs),J.laid (t':=s1.toks) (λb u e=>Q07 _ e) (Q00 _) ?_,rfl,q _ U⟩;exact⟨z,us,0,r,Q0i _ rfl⟩
end
noncomputable abbrev Sp:=List V->Hp->VK->XK->Prop
noncomputable abbrev jL:=List Env->Hp->Shared->XK->Value->Shared->Prop
structure oj (P:Program) (w:World) (K:W.Frag) (mg:Str->Option Value) (base:Heap) (A:Around) (outer:List Env) (s:Shared) (H:Hp):Prop where
 frames:A.frames=some outer
 mod:Mod K mg base
 bs:∀b o,base.get? b=some o->s.heap.get? b=some o/\H b=none
 lx:base.objs.size<=s.heap.objs.size
 kq:s.heap.FunFrames base outer
 nj:∀b∈frs outer,H b=none
 hok:iF P w H s.heap
 bare:AllBare s.gens
def CE (outer:List Env) (P:Program) (w:World) (H:Hp) (s:Shared) (Q:VK) (u:Value) (s':Shared):Prop:=
 ∃v H',s'.os=s.os/\AllBare s'.gens/\Un (frs outer) [] H H' s.heap s'.heap/\iF P w H' s'.heap/\RelV v u/\Q v H'
def CR (CX:jL) (outer:List Env) (P:Program) (w:World) (H:Hp) (s:Shared) (Q:VK) (E:XK) (r:Result) (s':Shared):Prop:=
 match r with
 | .ok (.ret u)=>CE outer P w H s Q u s'
 | .ok _=>False
 | .error e=>CX outer H s E e s'
structure d_ (P:Program) (w:World) (K:W.Frag) (mg:Str->Option Value) (base:Heap) (CX:jL) (k:Nat) (f:Addr) (fd:FuncData) (ps:List Str) (sp:Sp):Prop where
 len:∀vs H Q E,sp vs H Q E->vs.length=ps.length
 run:∀(A:Around) (outer:List Env) (s:Shared) (H:Hp) (args:Args) (us:List Value) (vs:List V) (Q:VK) (E:XK),iu k A->oj P w K mg base A outer s H->BindsTo s fd args (ps.zip us)->Vals vs us->sp vs H Q E->
  codeAny (model P w) A (.call (.ref f) args) (CR CX outer P w H s Q E) s
theorem d_.mono {P:Program}{w:World}{K:W.Frag}{mg:Str->Option Value}{base:Heap}{CX:jL}{j k:Nat}{f:Addr}{fd:FuncData}{ps:List Str}{sp:Sp}(F:d_ P w K mg base CX j f fd ps sp)(h:j<=k):
 d_ P w K mg base CX k f fd ps sp:=⟨F.len,λA outer s H args us vs Q E J=>F.run A outer s H args us vs Q E (J.mono h)⟩
theorem d_.imp {P:Program}{w:World}{K:W.Frag}{mg:Str->Option Value}{base:Heap}{CX:jL}{k:Nat}{f:Addr}{fd:FuncData}{ps:List Str}{sp J:Sp}(F:d_ P w K mg base CX k f fd ps sp)
 (h:∀vs H Q E,J vs H Q E->sp vs H Q E):d_ P w K mg base CX k f fd ps J:=
 ⟨λvs H Q E q=>F.len vs H Q E (h _ _ _ _ q),λA outer s H args us vs Q E L U Y hv hs=>F.run A outer s H args us vs Q E L U Y hv (h _ _ _ _ hs)⟩
theorem oj.make {P:Program}{w:World}{K:W.Frag}{mg:Str->Option Value}{base:Heap}{A:Around}{outer:List Env}{s:Shared}{H:Hp}(e:oj P w K mg base A outer s H)(C:Addr)(us:List Value)(J:List (Str × Value)):
 oj P w K mg base (A.under (.builtin "type.__call__" ⟨.ref C::us,J⟩)) outer s H:=⟨by first|exact e.frames|(simpa[Around.under,Code.envs,Code.isFrame,pushEnvs] using e.frames),e.mod,e.bs,e.lx,e.kq,e.nj,e.hok,e.bare⟩
section
variable {X:Cx}{pins:List (Addr × Obj)}{σ:St}{H:Hp}{s s':Shared}
theorem Inv.env0 (I:Inv X pins σ H s):oj X.prog X.w X.K X.mg X.base X.A X.stack s H:=
 ⟨I.ok.frames,I.ok.mod,I.bs,Q0g I.ok.lx I.sz,I.stack,I.rm,I.hok,I.bare⟩
theorem Inv.after {Q:VK}{u:Value}(I:Inv X pins σ H s)(h:CE X.stack X.prog X.w H s Q u s'):EP X pins σ Q u s':=by
 obtain⟨v,H',os,J,un,L,r,q⟩:=h;obtain⟨Y,g,d,t,U⟩:=s';obtain rfl:U=s.os:=os;exact⟨v,H',I.call (h':=Y) (g':=g) (d':=d) (t':=t) (ch:=[]) un L J (λb z=>absurd z (by simp)),r,q⟩
end
def nr (sp:Sp) (jf:List V) (E:XK) (t:TA):TE:=λσ H Q=>t σ H λvs H1=>sp (vs++jf) H1 Q E
def BQ (C:Addr) (m:Str) (sp:Sp) (jf:List V) (E:XK) (ta:TE) (t:TA):TE:=λσ H Q=>ta σ H λx H1=>∃a dx fs,x=.ref a/\H1 a=some (.ins C dx fs)/\fs.lookup m=none/\
 t σ H1 λvs H2=>sp (x::(vs++jf)) H2 Q E
def HI (C:Addr) (sp:Sp) (jf:List V) (E:XK) (t:TA):TE:=λσ H Q=>t σ H λvs H1=>∀x dx,H1 x=none->H1 dx=none->dx≠x->
 sp (.ref x::(vs++jf)) (upd (upd H1 dx (.own x)) x (.ins C dx [])) (λv H2=>v=.non/\Q (.ref x) H2) E
def Binds (K:W.Frag) (fd:FuncData) (ps:List Str) (ds:List Value):Prop:=
 ∀(s:Shared) (us:List Value),K.In s.heap->(us++ds).length=ps.length->BindsTo s fd ⟨us,[]⟩ (ps.zip (us++ds))
theorem Binds.all {K:W.Frag}{fd:FuncData}{ps:List Str}(h:∀us:List Value,us.length=ps.length->bindArgs fd ⟨us,[]⟩=pure (ps.zip us)):Binds K fd ps []:=λs us _ hl=>by
 rw[Q0s] at hl ⊢;exact .of_eq (h us hl)
def Passes (CX:jL) (X:Cx) (E:XK):Prop:=∀(pins:List (Addr × Obj)) (σ:St) (H:Hp) (s:Shared) (e:Value) (s':Shared),Inv X pins σ H s->CX X.stack H s E e s'->X.xe e s'
section
variable {X:Cx}{CX:jL}{k:Nat}{f C:Addr}{fd:FuncData}{ps:List Str}{sp:Sp}{jf:List V}{ds:List Value}{E:XK}{x m:Str}{p pos apos:Pos}{e o:Expr}{es:List Expr}{ta:TE}{t:TA}
theorem uP {pins:List (Addr × Obj)}{σ:St}{H:Hp}{s:Shared}{Q:VK}{us:List Value}{vs:List V}(F:d_ X.prog X.w X.K X.mg X.base CX k f fd ps sp)(U:iu k X.A)(Y:Binds X.K fd ps ds)(hd:Vals jf ds)(hx:Passes CX X E)
 (I:Inv X pins σ H s) (r:Vals vs us) (h:sp (vs++jf) H Q E):wpAny (model X.prog X.w) X.A (call (.ref f) us) (EP X pins σ Q) X.xe s:=by
 have L:Vals (vs++jf) (us++ds):=r.append hd;have hl:(us++ds).length=ps.length:=by rw[<-L.length];exact F.len _ _ _ _ h
 refine wpAny_call (codeAny_mono (F.run X.A X.stack s H ⟨us,[]⟩ (us++ds) (vs++jf) Q E U I.env0 (Y s us I.iW hl) L h) λr s' J=>?_)
 cases r with
 |error e=>exact hx pins σ H s e s' I J
 |ok fl=>
  cases fl with
  |ret u=>exact I.after J
  |next=>exact False.elim J
  |brk=>exact False.elim J
  |cont=>exact False.elim J
theorem BR (F:d_ X.prog X.w X.K X.mg X.base CX k f fd ps sp)(Y:iu k X.A)(hg:Gl X x)(hm:X.mg x=some (.ref f))(hk:W.keepIn X.K (.ref f)=true)(hb:Binds X.K fd ps ds)(hd:Vals jf ds)(hx:Passes CX X E)
 (ha:PA X (e::es) t) (J:(x == ("__debug__":Str))=false:=by decide) (he:starEach (e::es) X.env=(false,eval e X.env)::starEach es X.env:=by rfl) (L:(backTo pos (starEach es X.env)).any (·.1)=false:=by rfl):
 PE X (.Call (.Name x p) (e::es) [] pos) (nr sp jf E t):=by
 intro pins s σ H Q I h;refine wpAny_Call_Name_kw (rq I hg hm ?_ J);refine W.callWith_K (h₀:=X.base) I.ok.mod.qa hk (gG (ha pos pins s σ H _ I h) λus s1 ⟨vs,H1,U,r,q⟩=>⟨U.iW,?_⟩) he L;exact uP F Y hb hd hx U r q
theorem jH {pl:Sem Bool}(he:PE X o ta)(c:Cls X.K C)(U:Meth X.K C m f)(F:d_ X.prog X.w X.K X.mg X.base CX k f fd ps sp)(hr:iu k X.A)(hb:Binds X.K fd ps ds)(hd:Vals jf ds)(hx:Passes CX X E)(ha:PA X (e::es) t)
 (J:starEach (e::es) X.env=(false,eval e X.env)::starEach es X.env:=by rfl) (L:(backTo pos (starEach es X.env)).any (·.1)=false:=by rfl)
 (ht:eval (.Call (.Attribute o m apos) (e::es) [] pos) X.env=(do
   let Y <-eval o X.env
   standAt apos.atName
   let(f,first) <-holding [Y] (getMethod Y m pl)
   callWith pos f first (backTo pos (starEach (e::es) X.env)) (backToKw pos (keywordEach [] X.env))):=by rfl):
 PE X (.Call (.Attribute o m apos) (e::es) [] pos) (BQ C m sp jf E ta t):=by
 intro pins s σ H Q I h;refine W.methodCall_KW (pl:=pl) (gG (he pins s σ H _ I h) λu s1 zq=>?_) ht;obtain⟨x,H1,I1,rx,a,dx,fs,ex,ea,l,q⟩:=zq;subst ex;obtain rfl:u=Value.ref a:=rx;refine BK I1 ea c U l ?_;refine W.callWith_K (first:=[.ref a]) (h₀:=X.base) I.ok.mod.qa U.kp (gG (ha pos pins s1 σ H1 _ I1 q) λus s2 ⟨vs,H2,I2,r,q2⟩=>⟨I2.iW,?_⟩) J L;exact uP (us:=.ref a::us) (vs:=.ref a::vs) F hr hb hd hx I2 (.cons rfl r) q2
theorem uQ {pl:Sem Bool}(Y:PE X o ta)(c:Cls X.K C)(L:Meth X.K C m f)(F:d_ X.prog X.w X.K X.mg X.base CX k f fd ps sp)(hr:iu k X.A)(hb:Binds X.K fd ps ds)(hd:Vals jf ds)(hx:Passes CX X E)
 (ht:eval (.Call (.Attribute o m apos) [] [] pos) X.env=(do
   let U <-eval o X.env
   standAt apos.atName
   let(f,first) <-holding [U] (getMethod U m pl)
   callWith pos f first (backTo pos (starEach [] X.env)) (backToKw pos (keywordEach [] X.env))):=by rfl):
 PE X (.Call (.Attribute o m apos) [] [] pos) (BQ C m sp jf E ta kO):=by
 intro pins s σ H Q I h;refine W.methodCall_KW (pl:=pl) (gG (Y pins s σ H _ I h) λu s1 zq=>?_) ht;obtain⟨x,H1,J,rx,a,dx,fs,ex,ea,l,q⟩:=zq;subst ex;obtain rfl:u=Value.ref a:=rx;refine BK J ea c L l ?_;exact W.callWith_K0 (first:=[.ref a]) J.iW L.kp (uP (us:=[.ref a]) (vs:=[.ref a]) F hr hb hd hx J (.cons rfl .nil) q)
structure Mk (K:W.Frag) (C f:Addr):Prop where
 makes:W.makesIn K C=true
 init:W.findIn K (.ref C) "__init__"=some (some (.ref f))
 fn:W.isFn K (.ref f)=true
 kp:W.keepIn K (.ref C)=true
theorem HK {pins:List (Addr × Obj)}{σ:St}{H:Hp}{s:Shared}{Q:VK}{us:List Value}{vs:List V}(M:Mk X.K C f)(F:d_ X.prog X.w X.K X.mg X.base CX k f fd ps sp)(hr:iu (k+1) X.A)(hb:Binds X.K fd ps ds)(hd:Vals jf ds)
 (hx:Passes CX X E) (I:Inv X pins σ H s) (r:Vals vs us)
 (h:∀x dx,H x=none->H dx=none->dx≠x->sp (.ref x::(vs++jf)) (upd (upd H dx (.own x)) x (.ins C dx [])) (λv H2=>v=.non/\Q (.ref x) H2) E):
 wpAny (model X.prog X.w) X.A (call (.ref C) us) (EP X pins σ Q) X.xe s:=by
 have U:=h (s.heap.objs.size+1) s.heap.objs.size (I.hok.fresh (Q11 _)) (I.hok.fresh (Q00 _)) (Q0a (Q13 _));have L:=Inv.made (C:=C) I;have Y:Vals (V.ref (s.heap.objs.size+1)::(vs++jf)) (Value.ref (s.heap.objs.size+1)::(us++ds)):=.cons rfl (r.append hd)
 have hl:(Value.ref (s.heap.objs.size+1)::us++ds).length=ps.length:=by
  have e:=Y.length;rw[F.len _ _ _ _ U] at e;exact e.symm
 refine wpAny_call (Hv (f:=f) I.iW M.makes M.init (beq_iff_eq.mp M.fn) (codeAny_mono (F.run _ X.stack _ _ ⟨Value.ref (s.heap.objs.size+1)::us,[]⟩ (Value.ref (s.heap.objs.size+1)::(us++ds)) _ _ E (hr.make C us [])
  (L.env0.make C us []) (hb _ (Value.ref (s.heap.objs.size+1)::us) L.iW hl) Y U) λr s' J=>?_))
 cases r with
 |error e=>exact hx pins σ _ _ e s' L J
 |ok fl=>
  cases fl with
  |ret u=>
   obtain⟨v,H',I3,rv,ev,q3⟩:=L.after J;subst ev;exact⟨rv,⟨V.ref (s.heap.objs.size+1),H',I3,rfl,q3⟩⟩
  |next=>exact False.elim J
  |brk=>exact False.elim J
  |cont=>exact False.elim J
theorem BS (M:Mk X.K C f)(F:d_ X.prog X.w X.K X.mg X.base CX k f fd ps sp)(Y:iu (k+1) X.A)(hg:Gl X x)(hm:X.mg x=some (.ref C))(hb:Binds X.K fd ps ds)(hd:Vals jf ds)(hx:Passes CX X E)
 (ha:PA X (e::es) t) (J:(x == ("__debug__":Str))=false:=by decide) (he:starEach (e::es) X.env=(false,eval e X.env)::starEach es X.env:=by rfl) (L:(backTo pos (starEach es X.env)).any (·.1)=false:=by rfl):
 PE X (.Call (.Name x p) (e::es) [] pos) (HI C sp jf E t):=by
 intro pins s σ H Q I h;refine wpAny_Call_Name_kw (rq I hg hm ?_ J);refine W.callWith_K (h₀:=X.base) I.ok.mod.qa M.kp (gG (ha pos pins s σ H _ I h) λus s1 ⟨vs,H1,U,r,q⟩=>⟨U.iW,?_⟩) he L;exact HK M F Y hb hd hx U r q
end
section
variable {X:Cx}{CX:jL}{k:Nat}{f C:Addr}{fd:FuncData}{ps ks:List Str}{sp:Sp}{E:XK}{x m:Str}{p pos apos kpos:Pos}{e o:Expr}{es:List Expr}{kws:List Keyword}{te ta:TE}{t tk:TA}{nm:Option Str}
variable {g:List Value->List Value->List Value}{gV:List V->List V->List V}
end
structure gP (N P:List Str) (sc:Scope):Prop where
 kind:sc.kind=.function
 co:sc.isCoroutine=false
 gen:sc.isGenerator=false
 nd:N.Nodup
 pre:N.take P.length=P
 par:∀x∈P,sc.names.lookup x=some .local\/sc.names.lookup x=some .cell
 HL:∀y∈sc.names,y.2≠ .free
theorem NI {N Q:List Str}{sc:Scope}(h1:sc.kind=.function:=by rfl)(h2:sc.isCoroutine=false:=by rfl)(J:sc.isGenerator=false:=by rfl)(L:N.Nodup:=by decide +kernel)(U:N.take Q.length=Q:=by rfl)(Y:∀x∈Q,sc.names.lookup x=some .local\/sc.names.lookup x=some .cell:=by decide +kernel)(h7:∀y∈sc.names,y.2≠ .free:=by decide +kernel):gP N Q sc:=⟨h1,h2,J,L,U,Y,h7⟩
theorem BU {kindOf:Str->Option NameKind}{x:Str}:∀{binds:List (Str × Value)}{m:Str->Option Value},(∀v,(x,v) ∉ binds)->bindL kindOf binds m x=m x
 |[],_,_=>rfl
 |(n,v)::r,m,h=>by
  unfold bindL;rw[BU λw hw=>h w (Q06 _ hw)];split
  . have:x≠n:=by rintro rfl;exact h v Q02
    simp[this]
  . rfl
theorem BV {kindOf:Str->Option NameKind}{x:Str}:∀{binds:List (Str × Value)}{m:Str->Option Value},(∀v,(x,v) ∉ binds)->bindC kindOf binds m x=m x
 |[],_,_=>rfl
 |(n,v)::r,m,h=>by
  unfold bindC;rw[BV λw hw=>h w (Q06 _ hw)];split
  . rfl
  . have:x≠n:=by rintro rfl;exact h v Q02
    simp[this]
theorem BW {kindOf:Str->Option NameKind}{x:Str}{v:Value}:∀{P:List Str}{vs:List Value}{i:Nat}{m:Str->Option Value},P.Nodup->P[i]? =some x->vs[i]? =some v->kindOf x=some .local->
 bindL kindOf (P.zip vs) m x=some v
 |[],_,_,_,_,h,_,_=>by simp at h
 |_::_,[],_,_,_,_,h,_=>by simp at h
 |p::P,w::vs,0,m,J,h1,h2,hk=>by
  simp at h1 h2;subst h1;subst h2;show bindL kindOf ((p,w)::P.zip vs) m p=_;unfold bindL;rw[BU λv L=>(List.nodup_cons.mp J).1 (Q1w L).1,if_pos hk];simp
 |p::P,w::vs,i+1,m,J,h1,h2,hk=>by
  show bindL kindOf ((p,w)::P.zip vs) m x=_;unfold bindL;exact BW (i:=i) (List.nodup_cons.mp J).2 (by simpa using h1) (by simpa using h2) hk
theorem BX {kindOf:Str->Option NameKind}{x:Str}{v:Value}:∀{P:List Str}{vs:List Value}{i:Nat}{m:Str->Option Value},P.Nodup->P[i]? =some x->vs[i]? =some v->kindOf x≠some .local->
 bindC kindOf (P.zip vs) m x=some v
 |[],_,_,_,_,h,_,_=>by simp at h
 |_::_,[],_,_,_,_,h,_=>by simp at h
 |p::P,w::vs,0,m,J,h1,h2,hk=>by
  simp at h1 h2;subst h1;subst h2;show bindC kindOf ((p,w)::P.zip vs) m p=_;unfold bindC;rw[BV λv L=>(List.nodup_cons.mp J).1 (Q1w L).1,if_neg hk];simp
 |p::P,w::vs,i+1,m,J,h1,h2,hk=>by
  show bindC kindOf ((p,w)::P.zip vs) m x=_;unfold bindC;exact BX (i:=i) (List.nodup_cons.mp J).2 (by simpa using h1) (by simpa using h2) hk
noncomputable def start (N:List Str) (vs:List V):St:=vs.map some++List.replicate (N.length - vs.length) none
noncomputable def gO (CX:jL) (P:Program) (w:World) (K:W.Frag) (mg:Str->Option Value) (base:Heap) (N:List Str) (qual:Str) (scope:Scope) (f:Addr) (L:Value) (A:Around) (outer:List Env) (s:Shared) (H:Hp) (E:XK):Cx where
 prog:=P
 w:=w
 K:=K
 mg:=mg
 base:=base
 A:=A.deeper (envOfC qual scope s.heap.objs.size f L)
 N:=N
 s₀:=s
 H₀:=H
 env:=envOfC qual scope s.heap.objs.size f L
 outer:=outer
 stack:=envOfC qual scope s.heap.objs.size f L::outer
 ex:=[]
 calm:=true
 fn:=λ_=>true
 pn:=[]
 xe:=λe s'=>wpAny (model P w) (A.deeper (envOfC qual scope s.heap.objs.size f L)) (leaving (envOfC qual scope s.heap.objs.size f L) e) (λ_ J=>CX outer H s E e J) (λU J=>CX outer H s E U J) s'
theorem BY {sc:Scope}{n:Nat}{x:Str}(h:sc.names.lookup x=some .cell):∃c,(cellsFrom n sc.names []).lookup x=some c:=by
 have q:=W.cellsFrom_some sc.names n [] (.inl h);exact Option.isSome_iff_exists.mp q
theorem HM {CX:jL}{P:Program}{w:World}{K:W.Frag}{mg:Str->Option Value}{base:Heap}{N ps:List Str}{qual:Str}{scope:Scope}{f:Addr}{cd:Value}{A:Around}{outer:List Env}{s s1:Shared}{H:Hp}{E:XK}{us:List Value}{vs:List V}
 (S:gP N ps scope) (hd:A.handled=none) (J:oj P w K mg base A outer s H) (hl:vs.length=ps.length) (r:Vals vs us)
 (x:InCallC s s.heap.objs.size (bindL (envOfC qual scope s.heap.objs.size f cd).kindOf (ps.zip us) λ_=>none) (cellsFrom (s.heap.objs.size+1) scope.names []) (bindC (envOfC qual scope s.heap.objs.size f cd).kindOf (ps.zip us) λ_=>none) s1):
 Inv (gO CX P w K mg base N qual scope f cd A outer s H E) [] (start N vs) H s1:=by
 have aa:ps.length<=N.length:=by have:=congrArg List.length S.pre;rw[Q0p] at this;omega
 obtain⟨h1,tk,rfl,hk⟩:=x.done;have U:∀b:Addr,b ∉ (gO CX P w K mg base N qual scope f cd A outer s H E).ex:=λb z=>absurd (show b∈([]:List Addr) from z) (by simp)
 refine⟨⟨J.mod,S.kind,rfl,rfl,Q00 _,λy z c h1 h2=>?_,λy L=>?_,λy c _ h=>?_,λ_=>hd,Around.frames_deeper J.frames,.inr ⟨rfl,rfl⟩,λb z=>absurd z (U b),J.bs,J.lx,λb _ _=>U b,λb z=>absurd z (U b),J.kq,J.nj⟩,
  rfl,J.bare,Un.kept hk,⟨_,x.toInCall.ns,λi y v h1 h2 h3=>?_⟩,λy c h=>⟨_,x.cell y c h⟩,J.hok.fresh (Q00 _),λy c h=>?_,λp hp=>absurd (show p∈([]:List (Addr × Obj)) from hp) (by simp),J.hok.kept hk,?_⟩
 . exact name_of_addr x.apart (PySem.mem_of_lookup h1) (PySem.mem_of_lookup h2)
 . have L:scope.names.lookup y=some .cell\/scope.names.lookup y=some .free:=L;rcases L with L|L
   . exact BY L
   . exact absurd rfl (S.HL _ (PySem.mem_of_lookup L))
 . exact Q0q (x.above y c (PySem.mem_of_lookup h))
 . have hi:i<vs.length:=by
    unfold start at h2;by_cases hi:i<vs.length
    . exact hi
    . rw[Q29 (by simpa using hi)] at h2;rw[Q2s] at h2;split at h2 <;> cases h2
   have ha:vs[i]? =some v:=by
    unfold start at h2;rw[Q2t (by simpa using hi),Q0j] at h2
    cases e:vs[i]? with
    |none=>rw[e] at h2;cases h2
    |some a=>rw[e] at h2;cases h2;rfl
   obtain⟨u,hu,rv⟩:=r.get ha
   have hp:ps[i]? =some y:=by
    rw[<-S.pre,List.getElem?_take_of_lt (by omega)];exact h1
   have Y:ps.Nodup:=by rw[<-S.pre];exact S.nd.sublist (Q2u _ _)
   refine⟨u,rv,?_⟩;rcases S.par y (Q0x hp) with k|k
   . exact .inl ⟨k,BW Y hp hu k⟩
   . obtain⟨c,e⟩:=BY (n:=s.heap.objs.size+1) k;refine .inr ⟨.inl k,c,e,?_⟩;have q:=x.cell y c e;rw[BX Y hp hu (by show scope.names.lookup y≠_;rw[k];decide)] at q;exact q
 . exact J.hok.fresh (Q0q (x.above y c (PySem.mem_of_lookup h)))
 . unfold start;show _=N.length;rw[Q09,Q04,Q17];omega
theorem BZ {CX:jL}{P:Program}{w:World}{K:W.Frag}{mg:Str->Option Value}{base:Heap}{k:Nat}{f:Addr}{name qual:Str}{U:Arguments}{body:List Stmt}{scope:Scope}{dV kV ac pm L ct oc:Value}{an od:Option Addr}
 {af:Array (Option Value)} {N ps:List Str} {sp:Sp} (lk:K.lookup f=some ⟨oc,od,.func (W.fnOf name qual U body scope dV kV ac pm an L ct),af⟩) (ag:W.codeIn K L qual=true) (S:gP N ps scope)
 (len:∀vs H Q E,sp vs H Q E->vs.length=ps.length)
 (aa:∀(A:Around) (outer:List Env) (s:Shared) (H:Hp) (vs:List V) (Q:VK) (E:XK),iu k (A.deeper (envOfC qual scope s.heap.objs.size f L))->sp vs H Q E->
   ∃t,j4 (gO CX P w K mg base N qual scope f L A outer s H E) body t/\t { nx:=λ_ H'=>Q .non H',rt:=Q } (start N vs) H):
 d_ P w K mg base CX (k+1) f (W.fnOf name qual U body scope dV kV ac pm an L ct) ps sp:=by
 refine⟨len,λA outer s H args us vs Q E hr e0 hb r ae=>?_⟩;have hl:=len _ _ _ _ ae;have KX:K.In s.heap:=e0.mod.qa.keeps λb o e=>(e0.bs b o e).1;have ah:s.heap.NoLimit:=e0.mod.nolimit.keeps λb o e=>(e0.bs b o e).1
 have ab:∀y∈ps.zip us,scope.names.lookup y.1=some .local\/(scope.names.lookup y.1=some .cell/\((cellsFrom (s.heap.objs.size+1) scope.names []).lookup y.1).isSome=true):=λ⟨n,v⟩ hy=>by
  rcases S.par n (Q1w hy).1 with q|q
  . exact .inl q
  . exact .inr ⟨q,W.cellsFrom_some _ _ _ (.inl q)⟩
 refine codeAny_call_function hr.depth (KX _ _ lk) rfl S.co S.gen rfl (W.codeRec_of KX ag) (hb _ _ _ _ ?_);refine wpAny_newFunctionEnv_cells S.kind ab λenv he s1 x=>?_;subst he;refine⟨ah.keeps x.toInCall.keep,codeAny_func ?_⟩;obtain⟨t,ht,hq⟩:=aa A outer s H vs Q E (hr.deeper _) ae;have I:Inv (gO CX P w K mg base N qual scope f L A outer s H E) [] (start N vs) H s1:=HM S hr.hd e0 hl r x;refine Q0n (ht [] s1 (start N vs) H _ I hq) (λfl s' hs=>?_) λe s' hs=>hs
 have fin:∀{Y:St} {H':Hp} {v:V} {u:Value},Inv (gO CX P w K mg base N qual scope f L A outer s H E) [] Y H' s'->RelV v u->Q v H'->CE outer P w H s Q u s':=
  λ{Y H' v u} J rv q=>⟨v,H',J.os,J.bare,J.base,J.hok,rv,q⟩
 cases fl with
 |ret u=>
  obtain⟨v,Y,H',J,rv,q⟩:=hs;exact fin J rv q
 |next=>
  obtain⟨Y,H',J,q⟩:=hs;exact fin (v:=V.non) (u:=Value.none) J rfl q
 |brk=>
  obtain⟨_,_,_,q⟩:=hs;exact False.elim q
 |cont=>
  obtain⟨_,_,_,q⟩:=hs;exact False.elim q
section
variable {X:Cx}{x:Str}{p pos:Pos}{e:Expr}{es:List Expr}{t:TA}{id T:String}{r:List V->Hp->VK->Prop}
def B0 (r:List V->Hp->VK->Prop) (t:TA):TE:=λσ H Q=>t σ H λvs H1=>r vs H1 Q
theorem g7 (hc:j6 X (.builtin id) r)(U:Gl X x)(Y:X.mg x=none)(hv:bootBuiltins x=some (.builtin id))(ha:PA X (e::es) t)(hn:x≠"__name__":=by decide)(J:(x == ("__debug__":Str))=false:=by decide)
 (he:starEach (e::es) X.env=(false,eval e X.env)::starEach es X.env:=by rfl) (L:(backTo pos (starEach es X.env)).any (·.1)=false:=by rfl):PE X (.Call (.Name x p) (e::es) [] pos) (B0 r t):=by
 intro pins s σ H Q I h;refine wpAny_Call_Name_kw (lz I U Y hv ?_ hn J);exact PyProof.Rows.callWith_builtin1 (gG (ha pos pins s σ H _ I h) λus s1 ⟨vs,H1,I1,r1,q1⟩=>hc pins s1 σ H1 vs us Q I1 r1 q1) he L
theorem nt (hc:j6 X (.type T) r)(U:Gl X x)(Y:X.mg x=none)(hv:bootBuiltins x=some (.type T))(ha:PA X (e::es) t)(hn:x≠"__name__":=by decide)(J:(x == ("__debug__":Str))=false:=by decide)
 (he:starEach (e::es) X.env=(false,eval e X.env)::starEach es X.env:=by rfl) (L:(backTo pos (starEach es X.env)).any (·.1)=false:=by rfl):PE X (.Call (.Name x p) (e::es) [] pos) (B0 r t):=by
 intro pins s σ H Q I h;refine wpAny_Call_Name_kw (lz I U Y hv ?_ hn J);exact PyProof.Rows.callWith_type1 (gG (ha pos pins s σ H _ I h) λus s1 ⟨vs,H1,I1,r1,q1⟩=>hc pins s1 σ H1 vs us Q I1 r1 q1) he L
end
end L2
local macro_rules|`(tactic|ac_rfl)=>`(tactic|try dsimp only[L2.gO,L2.Cx.gN])
namespace HT
open PyProof.Rows
section
open SeqAt
open PySem.AutoSeq1 (wpAny_loadPart')
open MeetsSeq MeetsSeq2 MeetsSeq3
end
section
variable {prog:Program}{w:World}{A:Around}{E:Value->Shared->Prop}{s:Shared}
noncomputable def jM (n d:Nat):Option Int->Nat
 |none=>d
 |some v=>if v<0 then(v+(n:Int)).toNat else min v.toNat n
theorem HN (n d:Nat):jM n d none=d:=rfl
theorem HP (n d k:Nat):jM n d (some (k:Int))=min k n:=by
 show(if(k:Int)<0 then((k:Int)+(n:Int)).toNat else min (k:Int).toNat n)=min k n;rw[if_neg (by omega),Q1x]
end
end HT
namespace L2
open Spec PyProof.Rows
noncomputable abbrev TO:=St->Hp->(Option Int->Hp->Prop)->Prop
def PO (X:Cx) (e:Option Expr) (t:TO):Prop:=
 ∀(pins:List (Addr × Obj)) (s:Shared) (σ:St) (H:Hp) (Q:Option Int->Hp->Prop),Inv X pins σ H s->t σ H Q->
  wpAny (model X.prog X.w) X.A (evalPart e X.env) (λu s'=>∃o H',Inv X pins σ H' s'/\IsPart u o/\Q o H') X.xe s
def HQ:TO:=λ_ H Q=>Q none H
def HS (t:TE):TO:=λσ H Q=>t σ H λx H1=>∃i,x=.int i/\Q (some i) H1
section
variable {X:Cx}{e:Expr}{te:TE}{lo hi:Option Expr}{tl th:TO}{pos p2:Pos}
theorem rL:PO X none HQ:=by
 intro pins s σ H Q I h;rw[evalPart_none];exact Q0c ⟨none,H,I,.none,h⟩
theorem rM (h:PE X e te):PO X (some e) (HS te):=by
 intro pins s σ H Q I hw;rw[evalPart_some];refine gG (h pins s σ H _ I hw) λu s1 zq=>?_;obtain⟨x,H1,J,L,U⟩:=zq;obtain⟨i,rfl,q⟩:=U;obtain⟨t,rfl⟩:=L;exact⟨some i,H1,J,.int i t,q⟩
def uR (X:Cx) (r:V->Option Int->Option Int->Hp->VK->Prop):Prop:=
 ∀(pins:List (Addr × Obj)) (s:Shared) (σ:St) (H:Hp) (x:V) (v J L:Value) (lo hi:Option Int) (U:Addr) (Q:VK),Inv X pins σ H s->RelV x v->s.heap.IsSliceOf U J L .none->IsPart J lo->IsPart L hi->r x lo hi H Q->
  ∃T id,typeLookup (.type T) "__getitem__"=pure (some (.builtin id))/\s.TypeIs v T/\wpAny (model X.prog X.w) X.A (getItem v (.ref U)) (EP X pins σ Q) X.xe s
def HU (r:V->Option Int->Option Int->Hp->VK->Prop) (te:TE) (tl th:TO):TE:=λσ H Q=>te σ H λx H1=>tl σ H1 λl H2=>th σ H2 λu J=>r x l u J Q
theorem rN {r:V->Option Int->Option Int->Hp->VK->Prop}(hr:uR X r)(he:PE X e te)(hl:PO X lo tl)(hu:PO X hi th):PE X (.Subscript e (.Slice lo hi none p2) pos) (HU r te tl th):=by
 intro pins s σ H Q I h;refine Subscript_ (gG (he pins s σ H _ I h) λv s1 zq=>?_);obtain⟨x,H1,I1,r1,q1⟩:=zq;refine wpAny_Slice (gG (hl pins s1 σ H1 _ I1 q1) λL s2 ⟨l,H2,I2,pl,q2⟩=>gG (hu pins s2 σ H2 _ I2 q2) λU J zq=>?_);obtain⟨u,Y,I3,pu,q3⟩:=zq;rw[evalPart_none];refine Q0c ?_;have I4:Inv X pins σ Y { J with heap:=J.heap.push { cls:=.type "slice",data:=.fields #[L,U,.none] } }:=I3.kept (t':=J.toks) λb ob q=>Q07 _ q;obtain⟨T,id,hT,ht,hg⟩:=hr pins { J with heap:=J.heap.push { cls:=.type "slice",data:=.fields #[L,U,.none] } } σ Y x v L U l u J.heap.objs.size Q I4 r1 (Heap.IsSliceOf.new ..) pl pu q3;show wpAny (model X.prog X.w) X.A (subscriptTail e (.Slice lo hi none p2) v (.ref J.heap.objs.size)) (EP X pins σ Q) X.xe { J with heap:=J.heap.push { cls:=.type "slice",data:=.fields #[L,U,.none] } };exact tail_any (ops:=[.ref J.heap.objs.size,v]) ht hT hg (by with_unfolding_all rfl)
noncomputable def om (xs:List V) (lo hi:Option Int):List V:=(xs.drop (HT.jM xs.length 0 lo)).take (HT.jM xs.length xs.length hi - HT.jM xs.length 0 lo)
theorem HV (xs:List V)(lo hi:Option Int):(om xs lo hi).length<=xs.length:=by
 unfold om;rw[Q0p,Q1j];omega
end
noncomputable def lC (n:Nat) (i:Int):Option Nat:=if 0<=i then(if i<n then some i.toNat else none) else if -(n:Int)<=i then some (i+n).toNat else none
noncomputable def iY {α:Type}(xs:List α) (i:Int):Option α:=(lC xs.length i).bind λj=>xs[j]?
theorem B3 {n:Nat}{i:Int}{j:Nat}(h:lC n i=some j):seqIndex? i n=some j/\j<n/\ -(n:Int)<=i/\i<n:=by
 unfold lC at h;by_cases J:0<=i
 . rw[if_pos J] at h;by_cases h1:i<n
   . rw[if_pos h1] at h;have e:i.toNat=j:=Option.some.inj h;exact⟨by rw[seqIndex_of J h1,e],by omega,by omega,h1⟩
   . rw[if_neg h1] at h;cases h
 . rw[if_neg J] at h;by_cases h1: -(n:Int)<=i
   . rw[if_pos h1] at h;have e:(i+n).toNat=j:=Option.some.inj h;exact⟨by rw[seqIndex_neg (by omega) h1,e],by omega,h1,by omega⟩
   . rw[if_neg h1] at h;cases h
theorem uS {α:Type}{xs:List α}{i:Int}{v:α}(h:iY xs i=some v):∃j,seqIndex? i xs.length=some j/\xs[j]? =some v/\j<xs.length/\ -(xs.length:Int)<=i/\i<xs.length:=by
 unfold iY at h
 cases e:lC xs.length i with
 |none=>rw[e] at h;cases h
 |some j=>
  rw[e] at h;obtain⟨h1,h2,J,L⟩:=B3 e;exact⟨j,h1,h,h2,J,L⟩
theorem iZ {α:Type}{xs:List α}{j:Nat}{v:α}(h:xs[j]? =some v):iY xs (j:Int)=some v:=by
 have J:j<xs.length:=(List.getElem?_eq_some_iff.mp h).1
 have e:lC xs.length (j:Int)=some j:=by
  unfold lC;rw[if_pos (by omega),if_pos (by omega)];simp
 unfold iY;rw[e];exact h
theorem HW {α:Type}(xs:List α)(v:α):iY (xs++[v]) (-1)=some v:=by
 have hl:(xs++[v]).length=xs.length+1:=by simp
 have e:lC (xs++[v]).length (-1)=some xs.length:=by
  unfold lC;rw[hl,if_neg (by decide),if_pos (by omega)];congr 1;omega
 unfold iY;rw[e];show(xs++[v])[xs.length]? =some v;simp
def uT (b:Expr):Prop:=∀o i,subscripted b false o i=operate [o,i] (getItem o i)
def rO (X:Cx) (r:R2):Prop:=
 ∀(value J:Expr) (pins:List (Addr × Obj)) (s:Shared) (σ:St) (H:Hp) (x y:V) (v u:Value) (Q:VK),Inv X pins σ H s->RelV x v->RelV y u->r x y H Q->
  subscripted J false v u=operate [v,u] (getItem v u)->wpAny (model X.prog X.w) X.A (subscriptTail value J v u) (EP X pins σ Q) X.xe s
def uU (X:Cx) (id:String) (r:V->List V->Hp->VK->Prop):Prop:=
 ∀(pins:List (Addr × Obj)) (s:Shared) (σ:St) (H:Hp) (x:V) (xs:List V) (v:Value) (us:List Value) (Q:VK),Inv X pins σ H s->RelV x v->Vals xs us->r x xs H Q->
  wpAny (model X.prog X.w) X.A (call (.builtin id) (v::us)) (EP X pins σ Q) X.xe s
section
variable {X:Cx}{a b:Expr}{ta tb:TE}{pos:Pos}
theorem oo {r:R2}(J:rO X r)(L:PE X a ta)(U:PE X b tb)(Y:uT b):PE X (.Subscript a b pos) (iD r ta tb):=by
 intro pins s σ H Q I h;exact Subscript_ (uJ L U I h λv u s2 x y H2 I2 rx ry q=>J a b pins s2 σ H2 x y v u Q I2 rx ry q (Y _ _))
def B4 (K:W.Frag):R2:=λx y H Q=>∃p xs i v,x=.ref p/\y=.int i/\gi K H p xs/\iY xs i=some v/\Q v H
def kx (K:W.Frag):R2:=λx y H Q=>∃p xs i v,x=.ref p/\y=.int i/\e_ K H p xs/\iY xs i=some v/\Q v H
def HX:R2:=λx y H Q=>∃z i c,x=.str z/\y=.int i/\z.length<=sizeLine/\iY z.cps.toList i=some c/\Q (.str ⟨#[c]⟩) H
theorem HY:rO X (B4 X.K):=by
 intro value Y pins s σ H x y v u Q I rx ry h hs;obtain⟨p,xs,i,z,rfl,rfl,hq,he,q⟩:=h
 cases rx;obtain⟨t,rfl⟩:=ry;obtain⟨L,r,pl,hz⟩:=I.list hq;obtain⟨j,h1,h2,h3,h4,h5⟩:=uS he;obtain⟨w,ew,U⟩:=r.get h2;have hl:=r.length;have hn:=oX;have fin:EP X pins σ Q w s:=⟨z,H,I,U,q⟩;by_cases h0:0<=i
 . have J:i.toNat=j:=by
    rw[seqIndex_of h0 h5] at h1;exact Option.some.inj h1
   exact item_listR pl.isList h0 (by omega) (by rw[J];simpa using ew) fin hs
 . have J:(i+(L.toArray.size:Int)).toNat=j:=by
    rw[seqIndex_neg (by omega) h4] at h1;rw[Q08,<-hl];exact Option.some.inj h1
   exact subscriptTail_builtinR (x:=w) pl.isList.typeIs slot_list_getitem.lookup
    (wpAny_getItem_list_neg (Q:=λr s'=>r=w/\EP X pins σ Q r s') pl.isList (by omega) (by rw[Q08] <;> omega) (by omega) (by rw[J];simpa using ew) ⟨rfl,fin⟩) hs
theorem HZ:rO X (kx X.K):=by
 intro value L pins s σ H x y v u Q I U Y h hs;obtain⟨p,xs,i,z,rfl,rfl,hq,he,q⟩:=h
 cases U;obtain⟨t,rfl⟩:=Y;obtain⟨aa,r,pl,hz⟩:=I.tuple hq;obtain⟨j,h1,h2,h3,h4,h5⟩:=uS he;obtain⟨w,ew,J⟩:=r.get h2;have hl:=r.length;have hn:=oX;have fin:EP X pins σ Q w s:=⟨z,H,I,J,q⟩
 exact subscriptTail_builtinR (x:=w) pl.typeIs slot_tuple_getitem.lookup
  (getItem_tuple (j:=j) (Q:=λr s'=>r=w/\EP X pins σ Q r s') pl (by omega) (by omega) (by rw[Q08,<-hl];exact h1) (by simpa using ew) ⟨rfl,fin⟩) hs
theorem qp:rO X HX:=by
 intro value J pins s σ H x y v u Q I L U h Y;obtain⟨z,i,c,rfl,rfl,hz,he,q⟩:=h;obtain⟨t,rfl⟩:=L;obtain⟨t',rfl⟩:=U;obtain⟨j,h1,h2,h3,h4,h5⟩:=uS he;have hl:z.cps.toList.length=z.length:=by simp[Str.length]
 rw[hl] at h1 h4 h5;have hn:=oX
 exact tail_any (typeIs_str s z t) slot_str_getitem.lookup (getItem_str (c:=c) (by
  have e1:decide (i< -(2 ^ 63:Int))=false:=decide_eq_false (by omega);have e2:decide (i ≥ 2 ^ 63)=false:=decide_eq_false (by omega);rw[e1,e2,Bool.or_false]) (by rw[h1];simpa using h2) ⟨.str ⟨#[c]⟩,H,I.tok _,⟨_,rfl⟩,q⟩) Y
theorem H_ (J:List Value)(n j:Nat)(u:Value):Obj.mapSeq (·.setIfInBounds j u) { cls:=.type "list",data:=.seq J.toArray n }={ cls:=.type "list",data:=.seq (J.set j u).toArray n }:=by
 simp[Obj.mapSeq]
theorem Inv.lst {pins:List (Addr × Obj)}{σ:St}{H:Hp}{s:Shared}{p:Addr}{xs:List V}(I:Inv X pins σ H s)(h:H p=some (.lst xs)):
 ∃(J:List Value) (n:Nat),Vals xs J/\s.heap.get? p=some { cls:=.type "list",data:=.seq J.toArray n }/\xs.length<=sizeLine:=by
 obtain⟨z,J,n,r,e⟩:=I.hok p _ h;exact⟨J,n,r,e,z⟩
theorem Inv.Ia {pins:List (Addr × Obj)}{σ:St}{H:Hp}{s:Shared}{p:Addr}{xs ys:List V}{J its':List Value}{n n':Nat}{f:Obj->Obj}(I:Inv X pins σ H s)(h:H p=some (.lst xs))
 (U:s.heap.get? p=some { cls:=.type "list",data:=.seq J.toArray n }) (L:f { cls:=.type "list",data:=.seq J.toArray n }={ cls:=.type "list",data:=.seq its'.toArray n' }) (r:Vals ys its') (Y:ys.length<=sizeLine) (t:Nat):
 Inv X pins σ (upd H p (.lst ys)) { s with heap:=s.heap.update p f,toks:=t }:=by
 have e:(s.heap.update p f).get? p=some { cls:=.type "list",data:=.seq its'.toArray n' }:=by
  rw[Q1k f U (by rw[L] <;> rfl),L]
 refine I.write (x:=p) (e:=p) (by rw[h];trivial) (.inl rfl) (λb u hb q=>(Q14 _ _ (Ne.symm hb)).trans q) ⟨_,e⟩ ?_;exact⟨Y,its',n',r,e⟩
def Ib:V->V->V->Hp->(Hp->Prop)->Prop:=λo i v H Q=>∃p xs k j,o=.ref p/\i=.int k/\H p=some (.lst xs)/\lC xs.length k=some j/\Q (upd H p (.lst (xs.set j v)))
theorem set_list:Bs X Ib:=by
 intro pins s σ H o i v ov iv u Q I ro ri rv h;obtain⟨p,xs,k,j,rfl,rfl,hp,hj,q⟩:=h
 cases ro;obtain⟨t,rfl⟩:=ri;obtain⟨J,n,r,L,hz⟩:=I.lst hp;obtain⟨h1,h2,U,Y⟩:=B3 hj;have hl:=r.length;have hn:=oX
 have I':Inv X pins σ (upd H p (.lst (xs.set j v))) { s with heap:=s.heap.update p (Obj.mapSeq (·.setIfInBounds j u)) }:=
  I.Ia hp L (H_ J n j u) (r.set rv j) (by rw[List.length_set];exact hz) s.toks
 by_cases h0:0<=k
 . have hk:k.toNat=j:=by
    rw[seqIndex_of h0 Y] at h1;exact Option.some.inj h1
   exact W.ki_setAt L h0 (by omega) (by rw[Q08,<-hl];exact Y) (by rw[hk];exact⟨_,I',q⟩)
 . have hk:(k+(J.toArray.size:Int)).toNat=j:=by
    rw[seqIndex_neg (by omega) U] at h1;rw[Q08,<-hl];exact Option.some.inj h1
   exact W.ki_setBack L (by omega) (by rw[Q08,<-hl];exact U) (by omega) (by rw[hk];exact⟨_,I',q⟩)
theorem Ic (lo hi:Option Int)(n:Nat):(sliceBounds lo hi none n).1=((HT.jM n 0 lo:Nat):Int)/\(sliceBounds lo hi none n).2.1=((HT.jM n n hi:Nat):Int)/\(sliceBounds lo hi none n).2.2=1:=by
 refine⟨?_,?_,rfl⟩
 . cases lo with
   |none=>simp[sliceBounds,HT.jM]
   |some i=>
    simp only[sliceBounds,HT.jM,Q2v,show(1:Int) > 0 by decide,if_true];by_cases h:i<0
    . simp only[h,if_true] <;> omega
    . simp only[h,if_false] <;> omega
 . cases hi with
   |none=>simp[sliceBounds,HT.jM]
   |some i=>
    simp only[sliceBounds,HT.jM,Q2v,show(1:Int) > 0 by decide,if_true];by_cases h:i<0
    . simp only[h,if_true] <;> omega
    . simp only[h,if_false] <;> omega
theorem Ie (J:List Value)(lo hi:Option Int):slicePick J.toArray lo hi none=((J.drop (HT.jM J.length 0 lo)).take (HT.jM J.length J.length hi - HT.jM J.length 0 lo)).toArray:=by
 obtain⟨h1,h2,L⟩:=Ic lo hi J.toArray.size;unfold slicePick;rw[h1,h2,L];simp only[sliceRange_one,pick_run,Q08] <;> rfl
def Ig (K:W.Frag):V->Option Int->Option Int->Hp->VK->Prop:=λx lo hi H Q=>∃a xs,x=.ref a/\gi K H a xs/\∀p,H p=none->Q (.ref p) (upd H p (.lst (om xs lo hi)))
theorem B7:uR X (Ig X.K):=by
 intro pins s σ H x v vl vu lo hi sl Q I L U pl Y h;obtain⟨a,xs,rfl,hx,q⟩:=h
 cases L;obtain⟨aa,r,ht,hz⟩:=I.list hx;have J:=r.length;refine⟨"list",_,slot_list_getitem.lookup,ht.isList.typeIs,?_⟩;refine wpAny_getItem_list_slice ht.isList U pl Y .none (by simp) ?_ (by rw[Q08] <;> omega);rw[Ie,<-J];refine⟨.ref s.heap.objs.size,_,I.laid (t':=s.toks) (o:=.lst (om xs lo hi)) (λb ob q=>Q07 _ q) (Q00 _) ?_,rfl,q _ (I.hok.fresh (Q00 _))⟩;exact⟨Q0g (HV xs lo hi) hz,_,0,(r.drop (HT.jM xs.length 0 lo)).take (HT.jM xs.length xs.length hi - HT.jM xs.length 0 lo),Q0i _ rfl⟩
noncomputable def mK:V->Bool
 | .non=>true
 | .bl _=>true
 | .int _=>true
 | .str _=>true
 |_=>false
noncomputable def mL:V->V->Bool
 | .non,.non=>true
 | .bl a,.bl b=>a == b
 | .bl a,.int b=>(if a then 1 else 0) == b
 | .int a,.bl b=>a == (if b then 1 else 0)
 | .int a,.int b=>a == b
 | .str a,.str b=>a == b
 |_,_=>false
theorem Ih {A:Around}{s:Shared}{y x:V}{u v:Value}(L:RelV y u)(J:RelV x v)(Y:mK y=true)(U:mK x=true):SeqAt.EqAt A s u v (mL y x):=by
 cases y with
 |non=>
  cases L
  cases x with
  |non=>cases J;exact SeqAt.EqAt.same _
  |bl b=>cases J;exact SeqAt.EqAt.none_bool b
  |int b=>obtain⟨t,rfl⟩:=J;exact SeqAt.EqAt.none_int b t
  |str b=>obtain⟨t,rfl⟩:=J;exact SeqAt.EqAt.none_str b t
  |_=>exact absurd (show false=true from U) Bool.false_ne_true
 |bl a=>
  cases L
  cases x with
  |non=>cases J;exact SeqAt.EqAt.bool_none a
  |bl b=>cases J;exact SeqAt.EqAt.bool_bool a b
  |int b=>obtain⟨t,rfl⟩:=J;exact SeqAt.EqAt.bool_int a b t
  |str b=>obtain⟨t,rfl⟩:=J;exact SeqAt.EqAt.bool_str a b t
  |_=>exact absurd (show false=true from U) Bool.false_ne_true
 |int a=>
  obtain⟨t',rfl⟩:=L
  cases x with
  |non=>cases J;exact SeqAt.EqAt.int_none a t'
  |bl b=>cases J;exact SeqAt.EqAt.int_bool a t' b
  |int b=>obtain⟨t,rfl⟩:=J;exact SeqAt.EqAt.int_int a t' b t
  |str b=>obtain⟨t,rfl⟩:=J;exact SeqAt.EqAt.int_str a t' b t
  |_=>exact absurd (show false=true from U) Bool.false_ne_true
 |str a=>
  obtain⟨t',rfl⟩:=L
  cases x with
  |non=>cases J;exact SeqAt.EqAt.str_none a t'
  |bl b=>cases J;exact SeqAt.EqAt.str_bool a t' b
  |int b=>obtain⟨t,rfl⟩:=J;exact SeqAt.EqAt.str_int a t' b t
  |str b=>obtain⟨t,rfl⟩:=J;exact SeqAt.EqAt.str_str a t' b t
  |_=>exact absurd (show false=true from U) Bool.false_ne_true
 |_=>exact absurd (show false=true from Y) Bool.false_ne_true
noncomputable def mM (x:V) (u:Value):Bool:=match u with
 | .none=>mL .non x
 | .bool b=>mL (.bl b) x
 | .int i _=>mL (.int i) x
 | .str z _=>mL (.str z) x
 |_=>false
theorem B8 {x y:V}{u:Value}(r:RelV y u)(f:mK y=true):mM x u=mL y x:=by
 cases y with
 |non=>cases r;rfl
 |bl b=>cases r;rfl
 |int i=>obtain⟨t,rfl⟩:=r;rfl
 |str z=>obtain⟨t,rfl⟩:=r;rfl
 |_=>exact absurd (show false=true from f) Bool.false_ne_true
theorem uV {x:V}:∀{xs:List V}{us:List Value},Vals xs us->xs.all mK=true->us.any (mM x)=xs.any λy=>mL y x
 |_,_,.nil,_=>rfl
 |y::xs,u::us,.cons r t,f=>by
  rw[Q2a,Bool.and_eq_true] at f;rw[Q1b,Q1b,B8 r f.1,uV t f.2]
theorem uW {A:Around}{s:Shared}{x:V}{v:Value}(L:RelV x v)(U:mK x=true):∀{xs:List V}{us:List Value},Vals xs us->xs.all mK=true->∀u∈us,SeqAt.EqAt A s u v (mM x u)
 |_,_,.nil,_=>λu J=>by cases J
 |y::xs,u::us,.cons r t,f=>λY J=>by
  rw[Q2a,Bool.and_eq_true] at f;rcases List.mem_cons.mp J with rfl|J
  . rw[B8 r f.1];exact Ih r L f.1 U
  . exact uW L U t f.2 Y J
noncomputable def inV (x:V) (xs:List V):Bool:=xs.any λy=>mL y x
def uX (K:W.Frag) (J:Bool):R2:=λx y H Q=>∃p xs,y=.ref p/\(gi K H p xs\/e_ K H p xs)/\mK x=true/\xs.all mK=true/\Q (.bl (if J then !inV x xs else inV x xs)) H
theorem uY:i8 X (compareOp .In) (uX X.K false):=by
 intro pins s σ H x y v u Q I U ry h;obtain⟨p,xs,rfl,L,Y,fs,q⟩:=h
 cases ry;rcases L with L|L
 . obtain⟨J,r,pl,hz⟩:=I.list L;refine SeqAt.in_listAt (mM x) pl.isList (λw hw=>uW U Y r fs w (by simpa using hw)) ⟨.bl _,H,I,rfl,?_⟩;rw[show J.toArray.any (mM x)=J.any (mM x) by simp,uV r fs];exact q
 . obtain⟨J,r,pl,hz⟩:=I.tuple L;refine SeqAt.in_tupleAt (mM x) pl (λw hw=>uW U Y r fs w (by simpa using hw)) ⟨.bl _,H,I,rfl,?_⟩;rw[show J.toArray.any (mM x)=J.any (mM x) by simp,uV r fs];exact q
theorem jC:j6 X (.builtin "len") (λxs H Q=>∃p ys,xs=[.ref p]/\(gi X.K H p ys\/e_ X.K H p ys)/\Q (.int ys.length) H):=by
 intro pins s σ H xs us Q I r h;obtain⟨p,ys,rfl,L,q⟩:=h;obtain⟨u,rfl,rx⟩:=vals1 r
 cases rx;have hn:=oX;rcases L with L|L
 . obtain⟨Y,U,pl,hz⟩:=I.list L;have J:=U.length;exact Calls.call_len_list pl.isList (by simp only[Q08] <;> omega) ⟨.int ys.length,H,I.tok _,⟨s.toks+1,by rw[Q08,J]⟩,q⟩
 . obtain⟨Y,U,pl,hz⟩:=I.tuple L;have J:=U.length;exact len_tuple pl (by simp only[Q08] <;> omega) ⟨.int ys.length,H,I.tok _,⟨s.toks+1,by rw[Q08,J]⟩,q⟩
theorem Ii:j6 X (.builtin "len") (λxs H Q=>∃z,xs=[.str z]/\z.length<=sizeLine/\Q (.int z.length) H):=by
 intro pins s σ H xs us Q I r h;obtain⟨z,rfl,J,q⟩:=h;obtain⟨u,rfl,t,rfl⟩:=vals1 r;have L:=oX;exact len_str (by omega) ⟨.int z.length,H,I.tok _,⟨_,rfl⟩,q⟩
theorem B9:j6 X (.type "list") (λxs H Q=>∃p ys,xs=[.ref p]/\(gi X.K H p ys\/e_ X.K H p ys)/\∀l,H l=none->Q (.ref l) (upd H l (.lst ys))):=by
 intro pins s σ H xs us Q I r h;obtain⟨p,ys,rfl,U,q⟩:=h;obtain⟨u,rfl,rx⟩:=vals1 r
 cases rx
 have fin:∀(J:List Value),Vals ys J->ys.length<=sizeLine->∀(h':Heap) (c':Nat),(∀b o',s.heap.get? b=some o'->h'.get? b=some o')->
  h'.get? s.heap.objs.size=some { cls:=.type "list",dict:=none,data:=.seq J.toArray c',slots:=#[] }->EP X pins σ Q (.ref s.heap.objs.size) { s with heap:=h' }:=λJ L Y h' c' kp e=>
  ⟨.ref s.heap.objs.size,_,I.laid (t':=s.toks) kp (Q00 _) (show iO X.prog X.w _ h' _ (.lst ys) from⟨Y,J,c',L,e⟩),rfl,q _ (I.hok.fresh (Q00 _))⟩
 rcases U with U|U
 . obtain⟨J,L,pl,Y⟩:=I.list U;have aa:=L.length;obtain⟨o,ho,hc,n,hd⟩:=pl.isList;exact call_list_seq p (.inl rfl) ho hc hd (λh' c' kp e=>fin J L Y h' c' kp e) (by simp only[Q08] <;> omega)
 . obtain⟨J,L,pl,Y⟩:=I.tuple U;have aa:=L.length;obtain⟨o,ho,hc,n,hd⟩:=pl;exact call_list_seq p (.inr rfl) ho hc hd (λh' c' kp e=>fin J L Y h' c' kp e) (by simp only[Q08] <;> omega)
theorem rP:j6 X (.type "tuple") (λxs H Q=>∃p ys,xs=[.ref p]/\((gi X.K H p ys/\∀l,H l=none->Q (.ref l) (upd H l (.tup ys)))\/(e_ X.K H p ys/\Q (.ref p) H))):=by
 intro pins s σ H xs us Q I r h;obtain⟨p,ys,rfl,h⟩:=h;obtain⟨u,rfl,rx⟩:=vals1 r
 cases rx;rcases h with⟨L,q⟩|⟨L,q⟩
 . obtain⟨J,U,pl,Y⟩:=I.list L;have aa:=U.length;refine call_tuple_list pl.isList (λh' kp=>?_) (by simp only[Q08] <;> omega);have I1:Inv X pins σ H { s with heap:=h' }:=I.kept (t':=s.toks) kp
   have I2:Inv X pins σ (upd H h'.objs.size (.tup ys)) { s with heap:=h'.push { cls:=.type "tuple",data:=.seq J.toArray } }:=
    I1.laid (t':=s.toks) (λb o e=>Q07 _ e) (Q00 _) (show iO X.prog X.w _ _ _ (.tup ys) from⟨Y,J,U,IsTup.new _ _⟩)
   exact⟨.ref h'.objs.size,_,I2,rfl,q _ (I1.hok.fresh (Q00 _))⟩
 . obtain⟨J,U,pl,Y⟩:=I.tuple L;exact call_tuple_same pl ⟨.ref p,H,I,rfl,q⟩
def B_ (K:W.Frag) (T:String) (x:V) (H:Hp):Prop:=match x with
 | .str _=>T="str"
 | .int _=>T="int"
 | .ref p=>(T="list"/\∃xs,gi K H p xs)\/(T="tuple"/\∃o,K.lookup p=some o/\o.cls=.type "tuple"/\o.dict=none)\/
    (T="dict"/\((∃kvs,H p=some (.dK kvs))\/∃kvs,H p=some (.dT kvs)))\/(T="set"/\∃S n,H p=some (.set S n))
 |_=>False
theorem Ij {pins:List (Addr × Obj)}{σ:St}{H:Hp}{s:Shared}{T:String}{x:V}{v:Value}(I:Inv X pins σ H s)(r:RelV x v)(ty:B_ X.K T x H):
 s.TypeIs v T/\∀a,v=.ref a->∃U,s.heap.get? a=some U/\U.dict=none:=by
 cases x with
 |str z=>
  obtain⟨t,rfl⟩:=r
  cases(show T="str" from ty);exact⟨typeIs_str s z t,λ_ e=>nomatch e⟩
 |int i=>
  obtain⟨t,rfl⟩:=r
  cases(show T="int" from ty);exact⟨typeIs_int s i t,λ_ e=>nomatch e⟩
 |ref p=>
  cases r;rcases ty with⟨rfl,xs,Y⟩|⟨rfl,o,hk,hc,J⟩|⟨rfl,hk⟩|⟨rfl,S,n,hk⟩
  . obtain⟨aa,_,pl,_⟩:=I.list Y;refine⟨pl.isList.typeIs,λa e=>?_⟩
    cases e;obtain⟨o,n,e,c,J,_⟩:=pl;exact⟨o,e,J⟩
  . refine⟨⟨o,I.iW p o hk,hc⟩,λa e=>?_⟩
    cases e;exact⟨o,I.iW _ o hk,J⟩
  . have z:∃o,s.heap.get? p=some o/\o.ExactDict:=by
     rcases hk with⟨kvs,hk⟩|⟨kvs,hk⟩
     . obtain⟨_,_,_,_,o,_,_,e,ex,_⟩:=I.hok p _ hk;exact⟨o,e,ex⟩
     . obtain⟨_,_,_,_,o,_,_,e,ex,_⟩:=I.hok p _ hk;exact⟨o,e,ex⟩
    obtain⟨o,e,ex⟩:=z;refine⟨⟨o,e,ex.1⟩,λa L=>?_⟩
    cases L;exact⟨o,e,ex.2.1⟩
  . obtain⟨o,_,_,_,e,ex,_⟩:=I.hok p _ hk;refine⟨⟨o,e,ex.1⟩,λa L=>?_⟩
    cases L;exact⟨o,e,ex.2.1⟩
 |_=>exact False.elim ty
def Ik (K:W.Frag) (T:String) (r:V->List V->Hp->VK->Prop) (to:TE) (t:TA):TE:=λσ H Q=>to σ H λx H1=>B_ K T x H1/\t σ H1 λxs H2=>r x xs H2 Q
variable {o e:Expr}{es:List Expr}{to:TE}{t:TA}{name:Str}{apos cpos:Pos}{T id:String}{r:V->List V->Hp->VK->Prop}
theorem mN (pa:PlainAttrs T)(slot:Slot T name id)(ab:typeOf (.builtin id)=pure (.type "method_descriptor"))(hm:uU X id r)(ho:PE X o to)(ha:PA X (e::es) t)
 (L:attributeBase o name X.env (eval o X.env)=eval o X.env:=by rfl)
 (aa:((backTo cpos (starEach (e::es) X.env)).all (λx=> !x.1) && (backToKw cpos (keywordEach [] X.env)).all (λx=>x.1.isSome)
   && decide ((e::es).length+([]:List Keyword).length+(if([]:List Keyword).isEmpty then 0 else 1)<30))=true:=by rfl)
 (U:(apos.endLine == cpos.line)=true:=by rfl) (hs:starEach (e::es) X.env=(false,eval e X.env)::starEach es X.env:=by rfl) (J:(backTo cpos (starEach es X.env)).any (·.1)=false:=by rfl):
 PE X (.Call (.Attribute o name apos) (e::es) [] cpos) (Ik X.K T r to t):=by
 intro pins s σ H Q I h;refine wpAny_Call_method_late L aa U rfl (gG (ho pins s σ H _ I h) λv s1 zq=>?_);obtain⟨x,H1,I1,r1,ty,q1⟩:=zq;obtain⟨h1,h2⟩:=Ij I1 r1 ty;refine⟨T,id,pa,slot,ab,h1,h2,?_⟩;have hA:=ha cpos pins s1 σ H1 _ I1 q1;rw[hs] at hA ⊢;refine Calls.callWith_builtin (by show(false || (backTo cpos (starEach es X.env)).any (·.1))=false;rw[J] <;> rfl) (Calls.evalArgs_plain ?_);exact gG hA λus s2 ⟨vs,H2,I2,r2,q2⟩=>hm pins s2 σ H2 x vs v us Q I2 r1 r2 q2
/- xs.append(e),list.index on a Y tuple .. ae uU ac of 06m -/
end
def Il (X:Cx) (id:String) (r:V->List V->Hp->VK->Prop):Prop:=
 ∀(pins:List (Addr × Obj)) (s:Shared) (σ:St) (H:Hp) (x:V) (xs:List V) (v:Value) (us:List Value) (Q:VK),Inv X pins σ H s->RelV x v->Vals xs us->r x xs H Q->
  wpAny (model X.prog X.w) X.A (call (.builtin id) (v::us)) (EP X pins σ Q) X.xe s
theorem Vals.one:∀{x:V}{us:List Value},Vals [x] us->∃u,us=[u]/\RelV x u
 |_,_,.cons r .nil=>⟨_,rfl,r⟩
section
variable {X:Cx}{pins:List (Addr × Obj)}{σ:St}{H:Hp}{s:Shared}{l b:Addr}{xs ys zs:List V}
theorem Inv.Im {J its':List Value}{n:Nat}{f:Array Value->Array Value}{t':Nat}(I:Inv X pins σ H s)(L:H l=some (.lst xs))
 (e:s.heap.get? l=some { cls:=.type "list",data:=.seq J.toArray n }) (U:f J.toArray=its'.toArray) (Y:Vals ys its') (hz:ys.length<=sizeLine):
 Inv X pins σ (upd H l (.lst ys)) { s with heap:=s.heap.update l (Obj.mapSeq f),toks:=t' }:=by
 have q:=PySem.IsL.update e f;rw[U] at q;refine I.write (x:=l) (e:=l) (by rw[L];exact trivial) (.inl rfl) (λb' u hb hu=>(Q14 s.heap (Obj.mapSeq f) (Ne.symm hb)).trans hu) ⟨_,q⟩ ?_;exact⟨hz,its',_,Y,q⟩
theorem Inv.Io {J:List Value}{t':Nat}(I:Inv X pins σ H s)(L:Vals ys J)(U:ys.length<=sizeLine):
 Inv X pins σ (upd H s.heap.objs.size (.lst ys)) { s with heap:=s.heap.push { cls:=.type "list",data:=.seq J.toArray },toks:=t' }:=
 I.laid (λ_ _ q=>Q07 _ q) (Q00 _) ⟨U,J,0,L,Q0i _ rfl⟩
theorem Inv.fresh (I:Inv X pins σ H s):H s.heap.objs.size=none:=I.hok.fresh (Q00 _)
theorem Inv.uZ (I:Inv X pins σ H s)(L:H l=some (.lst xs)):xs.length<=sizeLine/\∃(J:List Value) (n:Nat),Vals xs J/\xs.length=J.length/\s.heap.get? l=some { cls:=.type "list",data:=.seq J.toArray n }:=by
 obtain⟨z,J,n,r,e⟩:=I.hok l _ L;exact⟨z,J,n,r,r.length,e⟩
end
section
variable {X:Cx}
def Iq:V->List V->Hp->VK->Prop:=λx vs H Q=>∃l xs y,x=.ref l/\vs=[y]/\H l=some (.lst xs)/\xs.length<sizeLine/\Q .non (upd H l (.lst (xs++[y])))
theorem nu:Il X "list.append" Iq:=by
 intro pins s σ H x vs v us Q I U Y h;obtain⟨l,xs,y,rfl,rfl,L,hz,q⟩:=h
 cases U;obtain⟨u,rfl,ru⟩:=Y.one;obtain⟨z,J,n,r,hl,e⟩:=I.uZ L;refine call_meets F.slot_list_append ⟨_,e,rfl⟩ F.entry_list_append (F.args_list_append_2 _ _) (PySem.list_append l J.toArray n u (by rw[Q08];omega)) ⟨e,?_⟩;refine⟨.non,_,I.Im (its':=J++[u]) L e (by simp) (r.append (.cons ru .nil)) ?_,rfl,q⟩;rw[Q09,Q18];omega
def Ir:R2:=λx y H Q=>∃l b xs zs,x=.ref l/\y=.ref b/\H l=some (.lst xs)/\H b=some (.lst zs)/\xs.length+zs.length<=sizeLine/\∀p,H p=none->Q (.ref p) (upd H p (.lst (xs++zs)))
theorem Ca:i8 X (binaryOp .Add) Ir:=by
 intro pins s σ H x y v u Q I U Y h;obtain⟨l,b,xs,zs,rfl,rfl,hH,hB,hz,q⟩:=h
 cases U
 cases Y;obtain⟨z,L,n,r,hl,e⟩:=I.uZ hH;obtain⟨z2,J,n2,r2,aa,e2⟩:=I.uZ hB;refine PySem.P.add_list e e2 ?_ (by rw[Q08,Q08];omega);have ea:L.toArray++J.toArray=(L++J).toArray:=by simp
 rw[ea];exact⟨.ref _,_,I.Io (t':=s.toks) (r.append r2) (by rw[Q09];omega),rfl,q _ I.fresh⟩
end
section
variable {prog:Program}{w:World}{A:Around}{E:Value->Shared->Prop}{s:Shared}
end
section
variable {X:Cx}
end
section
variable {κ:Type} [DecidableEq κ]
noncomputable def h6 (kvs:List (κ × V)) (k:κ):Option V:=(kvs.find? λJ=>decide (J.1=k)).map (·.2)
noncomputable def putK (kvs:List (κ × V)) (k:κ) (v:V):List (κ × V):=
 if(kvs.any λJ=>decide (J.1=k))=true then kvs.map (λJ=>if J.1=k then(J.1,v) else J) else kvs++[(k,v)]
theorem oY {p:κ × V}{r:List (κ × V)}{k:κ}(e:p.1=k):h6 (p::r) k=some p.2:=by simp[h6,Q1c,e]
theorem oZ {p:κ × V}{r:List (κ × V)}{k:κ}(e:¬p.1=k):h6 (p::r) k=h6 r k:=by simp[h6,Q1c,e]
theorem oq (k:κ):∀kvs:List (κ × V),(kvs.any λJ=>decide (J.1=k))=(h6 kvs k).isSome
 |[]=>rfl
 |p::r=>by
  rw[Q1b];by_cases e:p.1=k
  . simp only[oY e,decide_eq_true e,Bool.true_or,Option.isSome_some]
  . rw[oZ e,decide_eq_false e,Bool.false_or];exact oq k r
theorem Cb (kvs:List (κ × V))(k:κ)(v:V):(putK kvs k v).length<=kvs.length+1:=by
 unfold putK;split
 . rw[Q04];omega
 . rw[Q09,Q0h,Q2b];omega
theorem jQ.qr {o:Option V}{u:Option Value}(r:jQ o u):o.isSome=u.isSome:=by
 cases o with
 |none=>cases u with
  |none=>rfl
  |some _=>exact(show False from r).elim
 |some _=>cases u with
  |none=>exact(show False from r).elim
  |some _=>rfl
theorem KV.val {kvs:List (κ × V)}{vs:List (κ × Value)}(r:KV kvs vs)(k:κ):jQ (h6 kvs k) (valueAt vs k):=by
 unfold KV at r
 induction r with
 |nil=>exact True.intro
 |@cons p q ps J h t U=>
  obtain⟨h1,h2⟩:=h;by_cases e:p.1=k
  . have L:q.1=k:=h1.symm.trans e;have b:valueAt (q::J) k=some q.2:=by simp[valueAt,Q1c,L]
    rw[oY e,b];exact h2
  . have L:¬q.1=k:=λz=>e (h1.trans z);have b:valueAt (q::J) k=valueAt J k:=by simp[valueAt,Q1c,L]
    rw[oZ e,b];exact U
theorem KV.any {kvs:List (κ × V)}{vs:List (κ × Value)}(r:KV kvs vs)(k:κ):(kvs.any λJ=>decide (J.1=k))=vs.any λJ=>decide (J.1=k):=by
 unfold KV at r
 induction r with
 |nil=>rfl
 |cons h t L=>rw[Q1b,Q1b,L,h.1]
theorem KV.repl {kvs:List (κ × V)}{vs:List (κ × Value)}(r:KV kvs vs)(k:κ){y:V}{u:Value}(L:RelV y u):
 KV (kvs.map λJ=>if J.1=k then(J.1,y) else J) (vs.map λJ=>if J.1=k then(J.1,u) else J):=by
 unfold KV at r ⊢
 induction r with
 |nil=>exact .nil
 |@cons p q ps Y h t U=>
  rw[Q0w,Q0w];refine .cons ?_ U;obtain⟨h1,h2⟩:=h;by_cases e:p.1=k
  . rw[if_pos e,if_pos (h1.symm.trans e)];exact⟨h1,L⟩
  . rw[if_neg e,if_neg (λz=>e (h1.trans z))];exact⟨h1,h2⟩
theorem KV.put {kvs:List (κ × V)}{vs:List (κ × Value)}(r:KV kvs vs)(k:κ){y:V}{u:Value}(J:RelV y u):KV (putK kvs k y) (stored vs k u):=by
 unfold putK stored;rw[r.any k];by_cases e:(vs.any λL=>decide (L.1=k))=true
 . rw[if_pos e,if_pos e];exact r.repl k J
 . rw[if_neg e,if_neg e];exact Paired.snoc r ⟨rfl,J⟩
theorem KV.length {kvs:List (κ × V)}{vs:List (κ × Value)}(r:KV kvs vs):kvs.length=vs.length:=Paired.length r
end
theorem qt {P:Program}{w:World}{k:Key}{u:Value}(r:RelV (kV k) u):(iV P w).is k u=true:=by
 cases k with
 |inl i=>obtain⟨t,e⟩:=(show ∃t,u=Value.int i t from r);subst e;exact GF P w i t
 |inr x=>obtain⟨t,e⟩:=(show ∃t,u=Value.str x t from r);subst e;exact GH P w x t
theorem Cc {P:Program}{w:World}:∀{ks:List Key}{us:List Value},Vals (ks.map kV) us->ItemsAre (iV P w) ks us
 |[],_,r=>by rw[List.map_nil] at r;cases r;exact .nil
 |k::ks,_,r=>by
  rw[Q0w] at r
  cases r with
  |cons h t=>exact .cons (qt h) (Cc t)
abbrev KT (H:Hp):List (List Key × V)->List (List Key × Addr × Value)->Prop:=Paired λp q=>p.1=q.1/\H q.2.1=some (.tup (p.1.map kV))/\RelV p.2 q.2.2
theorem KT.val {H:Hp}{kvs:List (List Key × V)}{xs:List (List Key × Addr × Value)}(r:KT H kvs xs)(k:List Key):jQ (h6 kvs k) ((atKey xs k).map (·.2)):=by
 induction r with
 |nil=>exact True.intro
 |@cons p q ps J h t U=>
  obtain⟨h1,_,h2⟩:=h;by_cases e:p.1=k
  . have L:q.1=k:=h1.symm.trans e;have b:atKey (q::J) k=some q.2:=by simp[atKey,Q1c,L]
    rw[oY e,b];exact h2
  . have L:¬q.1=k:=λz=>e (h1.trans z);have b:atKey (q::J) k=atKey J k:=by simp[atKey,Q1c,L]
    rw[oZ e,b];exact U
theorem KT.repl {H:Hp}{kvs:List (List Key × V)}{xs:List (List Key × Addr × Value)}(r:KT H kvs xs)(k:List Key){y:V}{u:Value}(L:RelV y u):
 KT H (kvs.map λJ=>if J.1=k then(J.1,y) else J) (xs.map (putAt k u)):=by
 induction r with
 |nil=>exact .nil
 |@cons p q ps qs h t U=>
  rw[Q0w,Q0w];refine .cons ?_ U;obtain⟨h1,h2,Y⟩:=h;unfold putAt;by_cases e:p.1=k
  . rw[if_pos e,if_pos (h1.symm.trans e)];exact⟨h1,h2,L⟩
  . rw[if_neg e,if_neg (λz=>e (h1.trans z))];exact⟨h1,h2,Y⟩
theorem KT.put {H:Hp}{kvs:List (List Key × V)}{xs:List (List Key × Addr × Value)}(r:KT H kvs xs)(k:List Key){b:Addr}{y:V}{u:Value}(L:H b=some (.tup (k.map kV)))(J:RelV y u):
 KT H (putK kvs k y) (storedH xs k b u):=by
 have e:(kvs.any λU=>decide (U.1=k))=(atKey xs k).isSome:=by
  rw[oq,(r.val k).qr,Q2c]
 unfold putK storedH;rw[e];by_cases q:(atKey xs k).isSome=true
 . rw[if_pos q,if_pos q];exact r.repl k J
 . rw[if_neg q,if_neg q];exact Paired.snoc r ⟨rfl,L,J⟩
theorem KT.keeps {H H':Hp}{kvs:List (List Key × V)}{xs:List (List Key × Addr × Value)}(r:KT H kvs xs)(ht:∀b ys,H b=some (.tup ys)->H' b=some (.tup ys)):KT H' kvs xs:=
 Paired.rj r λ_ _ z=>⟨z.1,ht _ _ z.2.1,z.2.2⟩
section
variable {P:Program}{w:World}{H:Hp}{h:Heap}{a:Addr}
theorem Cd {u:HO}(ok:iF P w H h)(e:Rd H a u):iO P w H h a u:=e.ok ok
theorem o7 {kvs:List (Key × V)}(ok:iF P w H h)(e:Rd H a (.dK kvs)):kvs.length<=sizeLine/\(a == sysModules)=false/\∃vs,KV kvs vs/\h.DictOf (iV P w) a vs:=
 show iO P w H h a (.dK kvs) from Cd ok e
theorem rQ {kvs:List (Key × V)}(ok:iF P w H h)(e:H a=some (.dK kvs)):kvs.length<=sizeLine/\(a == sysModules)=false/\∃vs,KV kvs vs/\h.DictOf (iV P w) a vs:=o7 ok (.inl e)
theorem qu {ks:List Key}(ok:iF P w H h)(e:H a=some (.tup (ks.map kV))):(tupleKind (iV P w)).is h ks a:=by
 obtain⟨_,J,r,o,h1,h2,n,L⟩:=(show iO P w H h a (.tup (ks.map kV)) from ok a _ e);exact⟨o,J.toArray,n,h1,h2,L,by simpa using Cc r⟩
theorem qw {kvs:List (List Key × V)}(ok:iF P w H h)(e:Rd H a (.dT kvs)):kvs.length<=sizeLine/\(a == sysModules)=false/\
 ∃xs,KT H kvs xs/\h.DictOfH (tupleKind (iV P w)) a xs:=by
 obtain⟨z,y,xs,r,o,es,U,h1,h2,Y,h4,h5⟩:=(show iO P w H h a (.dT kvs) from Cd ok e);refine⟨z,y,xs,r,o,es,U,h1,h2,Y,h4,λx J=>?_,h5⟩
 have all:∀{l:List (List Key × V)} {m:List (List Key × Addr × Value)},KT H l m->∀x∈m,(tupleKind (iV P w)).is h x.1 x.2.1:=by
  intro l m q
  induction q with
  |nil=>intro x J;exact nomatch J
  |@cons p q ps qs L t ih=>
   intro x J;rcases List.mem_cons.mp J with e|J
   . subst e;exact qu ok (by rw[<-L.1];exact L.2.1)
   . exact ih x J
 exact all r x J
theorem Iu {kvs:List (List Key × V)}(ok:iF P w H h)(e:H a=some (.dT kvs)):kvs.length<=sizeLine/\(a == sysModules)=false/\
 ∃xs,KT H kvs xs/\h.DictOfH (tupleKind (iV P w)) a xs:=qw ok (.inl e)
end
def ip (H:Hp) (a:Addr) (y:V) (r:Option V):Prop:=
 (∃kvs k,Rd H a (.dK kvs)/\y=kV k/\r=h6 kvs k)\/∃kvs k b,Rd H a (.dT kvs)/\y=.ref b/\H b=some (.tup (k.map kV))/\r=h6 kvs k
def j8 (H:Hp) (a:Addr) (y v:V) (H':Hp):Prop:=
 (∃kvs k,H a=some (.dK kvs)/\y=kV k/\kvs.length<sizeLine/\H'=upd H a (.dK (putK kvs k v)))\/
 ∃kvs k b,H a=some (.dT kvs)/\y=.ref b/\H b=some (.tup (k.map kV))/\kvs.length<sizeLine/\H'=upd H a (.dT (putK kvs k v))
theorem ip.k {H:Hp}{a:Addr}{kvs:List (Key × V)}{k:Key}(e:H a=some (.dK kvs)):ip H a (kV k) (h6 kvs k):=.inl ⟨kvs,k,.inl e,rfl,rfl⟩
theorem j8.k {H:Hp}{a:Addr}{kvs:List (Key × V)}{k:Key}{v:V}(e:H a=some (.dK kvs))(hl:kvs.length<sizeLine):j8 H a (kV k) v (upd H a (.dK (putK kvs k v))):=.inl ⟨kvs,k,e,rfl,hl,rfl⟩
section
variable {X:Cx}{pins:List (Addr × Obj)}{σ:St}{H:Hp}{s:Shared}{a:Addr}{y v:V}{u r:Value}{o:Option V}{A:Around}{E:Value->Shared->Prop}
theorem Inv.big (I:Inv X pins σ H s):sysModules<s.heap.objs.size:=by
 have h:mainGlobals<s.heap.objs.size:=(I.mod.glob.keeps I.bk).lt;exact Nat.lt_trans (by decide) h
theorem Iv {Q:Value->Shared->Prop}(hu:A.units+1<cLine)(I:Inv X pins σ H s)(g:ip H a y (some v))(ry:RelV y u)(h:∀U s',Inv X pins σ H s'->RelV v U->Q U s'):
 wpAny (model X.prog X.w) A (getItem (.ref a) u) Q E s:=by
 rcases g with⟨kvs,k,e,Y,l⟩|⟨kvs,k,b,e,Y,eb,l⟩
 . subst Y;obtain⟨z,hd,vs,J,dd⟩:=o7 I.hok e;obtain⟨U,hw,L⟩:=jQ.some_of (v:=v) (o:=valueAt vs k) (by rw[l];exact J.val k);exact wpAny_getItem_of (qt ry) dd.mapOf hw (h U _ (I.tok _) L)
 . subst Y
   cases(show u=Value.ref b from ry);obtain⟨z,hd,xs,J,dd⟩:=qw I.hok e;obtain⟨U,hw,L⟩:=jQ.some_of (v:=v) (o:=(atKey xs k).map (·.2)) (by rw[l];exact J.val k);obtain⟨p,hp,aa⟩:=Option.map_eq_some_iff.mp hw;refine wpAny_getItem_heap (tupleKind_room_in1 hu) (qu I.hok eb) dd hp ?_;rw[aa];exact h U _ (I.tok _) L
theorem Iw {Q:Value->Shared->Prop}(hu:A.units+1<cLine)(I:Inv X pins σ H s)(g:ip H a y o)(ry:RelV y u)(h:∀s',Inv X pins σ H s'->Q (.bool o.isSome) s'):
 wpAny (model X.prog X.w) A (compareOp .In u (.ref a)) Q E s:=by
 rcases g with⟨kvs,k,e,L,l⟩|⟨kvs,k,b,e,L,eb,l⟩
 . subst L;obtain⟨z,U,vs,J,Y⟩:=o7 I.hok e;refine wpAny_in_of (qt ry) U Y.mapOf ?_;rw[<-(J.val k).qr,<-l];exact h _ (I.tok _)
 . subst L
   cases(show u=Value.ref b from ry);obtain⟨z,U,xs,J,Y⟩:=qw I.hok e;refine wpAny_in_heap (tupleKind_room_in1 hu) (qu I.hok eb) U Y ?_;have q:=(J.val k).qr;rw[Q2c] at q;rw[<-q,<-l];exact h _ (I.tok _)
theorem Iy {Q:Value->Shared->Prop}(hu:A.units+1<cLine)(I:Inv X pins σ H s)(g:ip H a y o)(ry:RelV y u)(h:∀s',Inv X pins σ H s'->Q (.bool (!o.isSome)) s'):
 wpAny (model X.prog X.w) A (compareOp .NotIn u (.ref a)) Q E s:=by
 rcases g with⟨kvs,k,e,L,l⟩|⟨kvs,k,b,e,L,eb,l⟩
 . subst L;obtain⟨z,U,vs,J,Y⟩:=o7 I.hok e;refine wpAny_notIn_of (qt ry) U Y.mapOf ?_;rw[<-(J.val k).qr,<-l];exact h _ (I.tok _)
 . subst L
   cases(show u=Value.ref b from ry);obtain⟨z,U,xs,J,Y⟩:=qw I.hok e;refine wpAny_notIn_heap (tupleKind_room_in1 hu) (qu I.hok eb) U Y ?_;have q:=(J.val k).qr;rw[Q2c] at q;rw[<-q,<-l];exact h _ (I.tok _)
theorem u3 {h':Heap}{t':Nat}{J:HO}(I:Inv X pins σ H s)(mu:p_ (H a))(L:Heap.SameBut a s.heap h')(U:∃q,h'.get? a=some q)(new:iO X.prog X.w (upd H a J) h' a J):
 Inv X pins σ (upd H a J) { s with heap:=h',toks:=t' }:=
 I.write (x:=a) (e:=a) mu (.inl rfl) (λb q Y z=>(L.2 b Y).trans z) U new
theorem Ce {P:Program}{w:World}{H':Hp}{h':Heap}{kvs:List (Key × V)}{vs:List (Key × Value)}(z:kvs.length<=sizeLine)(L:(a == sysModules)=false)(J:KV kvs vs)(U:h'.DictOf (iV P w) a vs):
 iO P w H' h' a (.dK kvs):=⟨z,L,vs,J,U⟩
theorem Iz {H':Hp}{Q:Unit->Shared->Prop}(hu:A.units+1<cLine)(I:Inv X pins σ H s)(g:j8 H a y v H')(ry:RelV y u)(rv:RelV v r)(h:∀s',Inv X pins σ H' s'->Q () s'):
 wpAny (model X.prog X.w) A (setItem (.ref a) u r) Q E s:=by
 rcases g with⟨kvs,k,e,Y,l,eH⟩|⟨kvs,k,b,e,Y,eb,l,eH⟩
 . subst Y eH;obtain⟨z,hd,vs,J,dd⟩:=rQ I.hok e;have hz:vs.length<=sizeLine:=by rw[<-J.length];exact z
   have hl:(putK kvs k v).length<=sizeLine:=by have:=Cb kvs k v;omega
   refine wpAny_setItem_pairs (hsz:=hz) (qt ry) dd λh' L hs=>h _ ?_;have he:∃q,h'.get? a=some q:=let⟨q,_,_,U,_⟩:=L;⟨q,U⟩
   exact u3 I (by rw[e];exact True.intro) hs he (Ce hl hd (J.put k rv) L)
 . subst Y eH
   cases(show u=Value.ref b from ry);obtain⟨z,hd,xs,J,dd⟩:=Iu I.hok e;have hz:xs.length<=sizeLine:=by rw[<-Paired.length J];exact z
   have hl:(putK kvs k v).length<=sizeLine:=by have:=Cb kvs k v;omega
   refine wpAny_setItem_heap (hsz:=hz) (tupleKind_room_in1 hu) (qu I.hok eb) dd λh' L hs=>h _ ?_;obtain⟨q,es,ep,U,h2,h3,h4,_,h5⟩:=L;refine u3 I (by rw[e];exact True.intro) hs ⟨q,U⟩ ⟨hl,hd,_,(J.put k eb rv).keeps λc ys ec=>?_,q,es,ep,U,h2,h3,h4,h5⟩;rw[gj (jK ec e (λz=>nomatch z))];exact ec
end
section
variable {X:Cx}{pins:List (Addr × Obj)}{σ:St}{H:Hp}{s:Shared}{a:Addr}{kvs:List (Key × V)}{k:Key}{u:Value}{A:Around}{E:Value->Shared->Prop}
theorem IA {Q:Value->Shared->Prop}(I:Inv X pins σ H s)(e:Rd H a (.dK kvs))(h:∀t s',Inv X pins σ H s'->Q (.int kvs.length t) s'):wpAny (model X.prog X.w) A (call (.builtin "len") [.ref a]) Q E s:=by
 obtain⟨z,L,vs,J,U⟩:=o7 I.hok e;refine call_len_dict L U (by rw[<-J.length];rw[sizeLine_eq] at z;omega) ?_;rw[<-J.length];exact h _ _ (I.tok _)
end
def Cf (i:Expr):Prop:=∀J L,subscripted i false J L=operate [J,L] (getItem J L)
theorem IB {prog:Program}{w:World}{A:Around}{E:Value->Shared->Prop}{s:Shared}{env:Env}{value J:Expr}{pos:Pos}{T id:String}{Q:Value->Shared->Prop}
 (hl:typeLookup (.type T) "__getitem__"=pure (some (.builtin id))) (hs:Cf J)
 (h:wpAny (model prog w) A (eval value env) (λo Y=>wpAny (model prog w) A (eval J env) (λi L=>L.TypeIs o T/\wpAny (model prog w) A (getItem o i) Q E L) E Y) E s):
 wpAny (model prog w) A (eval (.Subscript value J pos) env) Q E s:=by
 refine Subscript_ (Q0n h (λo Y h₁=>Q0n h₁ (λi L U=>?_) λ_ _ x=>x) λ_ _ x=>x);obtain⟨hT,U⟩:=U;unfold subscriptTail;refine Q01 ?_;rw[getitemInPython_of_ne hT.not_modules];refine Q01 (wpAny_specialOf hT hl ?_)
 have fin:wpAny (model prog w) A (subscripted J false o i) (λr aa=>wpAny (model prog w) A (letTemporaryGo value o r >>= λ_=>pure r) Q E aa) E L:=by
  rw[hs o i];exact wpAny_operating (Q0n U (λr aa ab=>Q01 (wpAny_letTemporaryGo (Q0c ab))) λ_ _ x=>x)
 first
  |exact Q0c (Q01 fin)
  |exact Q01 (Q0c (Q01 fin))
  |exact Q01 fin
theorem IC {X:Cx}{pins:List (Addr × Obj)}{σ:St}{H:Hp}{s:Shared}{a:Addr}{y:V}{o:Option V}(I:Inv X pins σ H s)(g:ip H a y o):s.TypeIs (.ref a) "dict":=by
 rcases g with⟨kvs,k,e,_,_⟩|⟨kvs,k,b,e,_,_,_⟩
 . obtain⟨_,_,vs,_,J⟩:=o7 I.hok e;exact J.typeIs
 . obtain⟨_,_,xs,_,J⟩:=qw I.hok e;exact J.typeIs
def ID (td ty:TE):TE:=λσ H Q=>td σ H λx H1=>ty σ H1 λy H2=>∃a v,x=.ref a/\ip H2 a y (some v)/\Q v H2
def IE (ty td:TE):TE:=λσ H Q=>ty σ H λy H1=>td σ H1 λx H2=>∃a o,x=.ref a/\ip H2 a y o/\Q (.bl o.isSome) H2
def IF (ty td:TE):TE:=λσ H Q=>ty σ H λy H1=>td σ H1 λx H2=>∃a o,x=.ref a/\ip H2 a y o/\Q (.bl (!o.isSome)) H2
def IG (td ty tv:TE):TS:=λD σ H=>tv σ H λv H1=>td σ H1 λx H2=>ty σ H2 λy L=>∃a J,x=.ref a/\j8 L a y v J/\D.nx σ J
section
variable {X:Cx}{o i e value:Expr}{pos pos' tpos:Pos}{td ty tv:TE}
theorem jN (U:X.A.units+1<cLine)(Y:PE X o td)(hi:PE X i ty)(hs:Cf i):PE X (.Subscript o i pos) (ID td ty):=by
 intro pins s σ H Q I h;refine IB PySem.F.slot_dict_getitem.lookup hs (gG (Y pins s σ H _ I h) λu s1 ⟨x,H1,I1,rx,q1⟩=>gG (hi pins s1 σ H1 _ I1 q1) λiv s2 zq=>?_);obtain⟨y,H2,L,ry,a,v,ex,g,q2⟩:=zq;subst ex;obtain rfl:u=Value.ref a:=rx;exact⟨IC L g,Iv U L g ry λw' s3 I3 J=>⟨v,H2,I3,J,q2⟩⟩
theorem Cg (J:X.A.units+1<cLine)(hi:PE X i ty)(L:PE X o td):PC X .In i o (IE ty td):=by
 intro pins s σ H Q I h;refine gG (hi pins s σ H _ I h) λiv s1 ⟨y,H1,U,Y,q1⟩=>gG (L pins s1 σ H1 _ U q1) λu s2 zq=>?_;obtain⟨x,H2,I2,rx,a,ov,ex,g,q2⟩:=zq;subst ex;obtain rfl:u=Value.ref a:=rx;exact Iw J I2 g Y λs3 I3=>⟨.bl ov.isSome,H2,I3,rfl,q2⟩
theorem Ci (J:X.A.units+1<cLine)(hi:PE X i ty)(L:PE X o td):PC X .NotIn i o (IF ty td):=by
 intro pins s σ H Q I h;refine gG (hi pins s σ H _ I h) λiv s1 ⟨y,H1,U,Y,q1⟩=>gG (L pins s1 σ H1 _ U q1) λu s2 zq=>?_;obtain⟨x,H2,I2,rx,a,ov,ex,g,q2⟩:=zq;subst ex;obtain rfl:u=Value.ref a:=rx;exact Iy J I2 g Y λs3 I3=>⟨.bl (!ov.isSome),H2,I3,rfl,q2⟩
theorem l6 (J:X.A.units+1<cLine)(L:PE X o td)(hi:PE X i ty)(U:PE X value tv)(Y:swapsWith value (some (.Subscript o i pos')) pos.line X.env=pure false):
 PS X (.Assign [.Subscript o i pos'] value pos) (IG td ty tv):=by
 intro pins s σ H D I h;refine wpAny_Assign_Subscript (gG (U pins s σ H _ I h) λr s1 ⟨v,H1,I1,rv,q1⟩=>gG (L pins s1 σ H1 _ I1 q1) λu s2 ⟨x,H2,I2,rx,q2⟩=>gG (hi pins s2 σ H2 _ I2 q2) λiv s3 zq=>?_) Y;obtain⟨y,H3,I3,ry,a,H4,ex,g,q3⟩:=zq;subst ex;obtain rfl:u=Value.ref a:=rx;exact Iz J I3 g ry rv λs4 I4=>⟨σ,H4,I4,q3⟩
end
theorem IH {P:Program}{w:World}{H:Hp}(h:Heap)(J:sysModules<h.objs.size):iO P w H (h.push { cls:=.type "dict",data:=.dict #[] }) h.objs.size (.dK []):=
 ⟨Q0d _,beq_eq_false_iff_ne.mpr (Ne.symm (Q0a J)),[],.nil,Heap.DictOf.new h⟩
def II:TE:=λ_ H Q=>∀p,H p=none->Q (.ref p) (upd H p (.dK []))
section
variable {X:Cx}{pos:Pos}
theorem nv:PE X (.Dict [] [] pos) II:=λpins s σ H Q I h=>
 wpAny_Dict_empty ⟨.ref s.heap.objs.size,_,I.laid (a:=s.heap.objs.size) (o:=.dK []) (t':=s.toks) (λ_ _ q=>Q07 _ q) (Q00 _) (IH s.heap I.big),rfl,h _ (I.hok.fresh (Q00 _))⟩
end
section
variable {X:Cx}{pins:List (Addr × Obj)}{σ:St}{H:Hp}{s:Shared}{a:Addr}{y d:V}{u r:Value}{o:Option V}{A:Around}{E:Value->Shared->Prop}
end
section
variable {X:Cx}{o e f:Expr}{apos cpos:Pos}{td ty tx:TE}
end
section
variable {X:Cx}{pins:List (Addr × Obj)}{σ:St}{H:Hp}{s:Shared}{a:Addr}{kvs:List (Key × V)}{A:Around}{E:Value->Shared->Prop}
end
section
variable {X:Cx}{pins:List (Addr × Obj)}{σ:St}{H:Hp}{s:Shared}{a:Addr}{y:V}{u:Value}{A:Around}{E:Value->Shared->Prop}
end
end L2
namespace Cj
open W Calls PyProof.Rows
theorem IJ {P:Params}{h:Heap}:∀(ns:List Int) (vs:List Value),WellAll P h vs (ns.map WData.int)->IntsAre vs ns:=by
 intro ns
 induction ns with
 |nil=>
  intro vs w;rw[List.map_nil] at w
  cases w;exact .nil
 |cons n ns J=>
  intro vs w;rw[Q0w] at w
  cases w with
  |cons a b=>
   cases a;exact .cons _ _ (J _ b)
theorem IK {l:OpenLaw}{n:Nat}(hn:l.most=some n){P:Params}{h:Heap}{args:List WData}{J:List Value}
 (L:l.row.toRowW.claim.pre args=true) (aa:WellAll P h J args):
 ∃a vs ns,J=[Value.ref a]/\args=[WData.list (ns.map WData.int)]/\h.get? a=some { cls:=.type "list",data:=.seq vs.toArray }/\IntsAre vs ns/\ns.length<=n:=by
 have ab:WShape.hasAll [] args [.list .int]=true:=(pre_splitW L).1;have hc:l.pre.holds [] { args:=args }=true:=(pre_splitW L).2;obtain⟨d,r,rfl,h1,h2⟩:=hasAllW_cons ab;obtain rfl:=hasAllW_nil h2;obtain⟨xs,rfl,h3⟩:=hasW_list h1;obtain⟨ns,rfl⟩:=items_int h3
 have U:ns.length<=n:=by
  unfold OpenLaw.pre at hc
  have h4:(WTm.not (.lt (.lit (.int (n:Int))) (.len (.arg 0)))).holds [] { args:=[.list (ns.map .int)] }=true:=by
   have h4:=(holds_andW hc).1;rw[hn] at h4;exact h4
  have h5:=condW_of h4 (w_not (w_lt w_lit (w_len_list (w_arg rfl))));rw[Q04] at h5;refine Q19 λq=>?_;have q':(n:Int)<((ns.length:Nat):Int):=by omega
  first
   |(rw[decide_eq_true q'] at h5;exact absurd h5 (by decide))
   |(simp at h5;omega)
 cases aa with
 |cons w1 w2=>
  cases w2
  cases w1 with
  |list ho Y=>exact⟨_,_,ns,rfl,rfl,ho,IJ ns _ Y,U⟩
theorem IL (l:OpenLaw)(args:List WData):l.row.toRowW.claim.post args (.bool true) args=true:=
 postW_of (r:=l.row.toRowW) (X:=(true == true))
  (show WShape.has [] (.bool true) .bool=true by first|rfl|decide|simp[WShape.has,WShape.arms,WShape.armsAll])
  (show(WTm.eq .res (.lit (.bool true))).value [] { args:=args,res:=some (.bool true),after:=args }=some (.bool (true == true)) from w_eq_bool (w_res rfl) w_lit) rfl
theorem IM {l:OpenLaw}{n:Nat}{q:Program}{loose:List Str}{XP:(Str->Option Value)->Heap->Prop}{YP:World->Heap->Prop}{d:DefRec}
 (hn:l.most=some n) (ae:d.params.defaults=[])
 (call:∀(w:World) (s₀ J:Shared) (mg mb:Str->Option Value) (fa:Addr) (o:Obj) (pm cd L:Value) (a:Addr) (vs:List Value) (ns:List Int),
   Ground q loose [] XP w s₀ mg mb J.heap->YP w J.heap->
   J.heap.get? fa=some o->o.data=.func (docDef d.name d.params d.body d.scope pm cd L)->J.heap.CodeRec cd d.name->mg d.name=some (.ref fa)->
   J.heap.get? a=some { cls:=.type "list",data:=.seq vs.toArray }->IntsAre vs ns->ns.length<=n->J.gens=#[]->
   codeAny (model l.prog w) callerA (.call (.ref fa) ⟨[.ref a],[]⟩) (λr s'=>r=.ok (.ret (.bool true))/\OldK J.heap s'.heap/\s'.os=J.os/\AllBare s'.gens) J):
 WalkO q loose XP YP l.row.toRowW d [] (λf vs=>PySem.call f vs):=by
 intro w s₀ J mg mb G Y fa o pm cd L dV kV ho hd af hD ag hg args ai as aa aj ak ah al;obtain rfl:dV=.none:=Dflts.none hD ae;obtain rfl:kV=.none:=Dflts.noKw hD;obtain⟨a,vs,ns,rfl,rfl,ab,U,ac⟩:=IK hn aa ah;refine enter_call (codeAny_mono (call w s₀ J mg mb fa o pm cd L a vs ns G Y ho (fd_plain hd) af ag ab U ac hg) λr s' hq=>?_);obtain⟨rfl,h2,h3,h4⟩:=hq;exact⟨.inl ⟨.bool true,.bool true,[],rfl,λ_=>rfl,.bool true,IL l _,λ_=>⟨List.Pairwise.nil,λ_ hm=>(nomatch hm)⟩⟩,h2,h3,h4⟩
section
variable {prog:Program}{w:World}{A:Around}{E:Value->Shared->Prop}{s:Shared}{K:Frag}
end
end Cj
namespace L2
open Spec PyProof.Rows
theorem Ck:∀{vs:List Value}{ns:List Int},IntsAre vs ns->Vals (ns.map V.int) vs
 |_,_,.nil=>.nil
 |_,_,.cons n t h=>.cons ⟨t,rfl⟩ (Ck h)
abbrev f_:jL:=λ_ _ _ _ _ _=>False
abbrev E0:XK:=λ_ _ _=>False
theorem i9 {X:Cx}:Passes f_ X E0:=λ_ _ _ _ _ _ _ h=>h.elim
structure l7 (K:W.Frag) (x qual:Str) (st:Stmt) (f:Addr) (fd:FuncData):Prop where
 ex:∃(oc:Value) (od:Option Addr) (kV doc pm:Value) (an:Option Addr) (cdv ct:Value) (osl:Array (Option Value)),
  fd=W.fnOf x qual (j1 st) (jz st) (gC st) .none kV doc pm an cdv ct/\K.lookup f=some ⟨oc,od,.func fd,osl⟩/\W.codeIn K cdv qual=true
 kp:W.keepIn K (.ref f)=true
variable {P:Program}{w:World}{K:W.Frag}{mg:Str->Option Value}{base:Heap}
def FnBody (P:Program) (w:World) (K:W.Frag) (mg:Str->Option Value) (base:Heap) (N ps:List Str) (qual:Str) (st:Stmt) (f:Addr) (k:Nat) (vs:List V) (H:Hp) (Q:VK) (E:XK):Prop:=vs.length=ps.length/\∀(J:Value) (A:Around) (outer:List Env) (s:Shared),N.Nodup->iu k (A.deeper (envOfC qual (gC st) s.heap.objs.size f J))->(A.deeper (envOfC qual (gC st) s.heap.objs.size f J)).units+1<cLine->∃t,j4 (gO f_ P w K mg base N qual (gC st) f J A outer s H E).gN (jz st) t/\t { nx:=λ_ H'=>Q .non H',rt:=Q } (start N vs) H
theorem l7.ok {x qual:Str}{st:Stmt}{f:Addr}{fd:FuncData}{N ps:List Str}{k:Nat}{sp:Sp}(F:l7 K x qual st f fd)(S:gP N ps (gC st))
 (J:∀(vs:List V) (H:Hp) (Q:VK) (E:XK),sp vs H Q E->FnBody P w K mg base N ps qual st f k vs H Q E):d_ P w K mg base f_ (k+1) f fd ps sp:=by
 obtain⟨oc,od,kV,aa,pm,an,L,ct,ab,rfl,lk,U⟩:=F.ex;refine BZ lk U S (λvs H Q E h=>(J vs H Q E h).1) λA outer s H vs Q E hr Y=>?_;obtain⟨t,h,q⟩:=(J vs H Q E Y).2 L A outer s S.nd hr (Q1d (Q1y (by decide:1<=64) _) hr.units);exact⟨t,h.gN,q⟩
theorem l7.binds {x qual:Str}{st:Stmt}{f:Addr}{fd:FuncData}{ps:List Str}(F:l7 K x qual st f fd)
 (h:∀(kV J U:Value) (Y:Option Addr) (L ct:Value) (us:List Value),us.length=ps.length->bindArgs (W.fnOf x qual (j1 st) (jz st) (gC st) .none kV J U Y L ct) ⟨us,[]⟩=pure (ps.zip us)):Binds K fd ps []:=by
 obtain⟨oc,od,kV,J,U,Y,L,ct,aa,rfl,lk,ab⟩:=F.ex;exact .all (h kV J U Y L ct)
theorem u4 {x qual:Str}{st:Stmt}{f:Addr}{oc:Value}{od Y:Option Addr}{U:Array (Option Value)}{kV L pm J ct:Value}(l:K.lookup f=some ⟨oc,od,.func (W.fnOf x qual (j1 st) (jz st) (gC st) .none kV L pm Y J ct),U⟩)
 (c:W.codeIn K J qual=true) (k:W.keepIn K (.ref f)=true):l7 K x qual st f (W.fnOf x qual (j1 st) (jz st) (gC st) .none kV L pm Y J ct):=⟨⟨oc,od,kV,L,pm,Y,J,ct,U,rfl,l,c⟩,k⟩
theorem Cm {A:Around}{k:Nat}(J:iu k A):A.units+1<cLine:=Q1d (Q1y (by decide:1<=64) _) J.units
theorem iB {n:Nat}(h:n<=1000):n<sizeLine:=Q1d h (by decide)
section
variable {X:Cx}
theorem pv (i:Nat){x:Str}{pos:Pos}(L:X.N[i]? =some x:=by rfl)(U:uA X.env.scope x:=by first|exact Or.inl rfl|exact Or.inr (Or.inl rfl)|exact Or.inr (Or.inr rfl))(Y:(x == ("__debug__":Str))=false:=by decide)
 (J:(x == ("__classdict__":Str))=false:=by decide):PE X (.Name x pos) (ik i):=GP L U Y J
end
theorem gY {A B:Prop}(h:B):if false=true then A else B:=by
 rw[if_neg Bool.false_ne_true];exact h
theorem i5 {A B:Prop}(h:A):if true=true then A else B:=by
 rw[if_pos rfl];exact h
theorem iL {c A B:Prop} [Decidable c](h1:c->A)(h2:¬c->B):if c then A else B:=by
 by_cases h:c
 . rw[if_pos h];exact h1 h
 . rw[if_neg h];exact h2 h
theorem mO {c A B:Prop} [Decidable c](hc:c)(h:B):if(!decide c)=true then A else B:=by
 rw[decide_eq_true hc];exact gY h
def Same (H H':Hp):Prop:=∀b o,H b=some o->H' b=some o
theorem Same.refl (H:Hp):Same H H:=λ_ _ h=>h
theorem Same.trans {H H1 H2:Hp}(a:Same H H1)(b:Same H1 H2):Same H H2:=λc o h=>b c o (a c o h)
theorem Same.free {H H':Hp}(e:Same H H'){l:Addr}(h:H' l=Option.none):H l=Option.none:=by
 cases q:H l with
 |none=>rfl
 |some o=>
  rw[e l o q] at h
  cases h
section
variable {X:Cx}
theorem Cn:j6 X (.builtin "len") (λxs H Q=>∃a kvs,xs=[V.ref a]/\H a=some (.dK kvs)/\Q (.int kvs.length) H):=by
 intro pins s σ H xs us Q I r h;obtain⟨a,kvs,rfl,J,q⟩:=h;obtain⟨u,rfl,L⟩:=vals1 r
 cases L;exact IA I (.inl J) λt s' U=>⟨.int kvs.length,H,U,⟨t,rfl⟩,q⟩
end
section
variable {κ:Type} [DecidableEq κ]
theorem IQ {kvs:List (κ × V)}{k:κ}{v:V}(h:h6 kvs k=some v):k∈kvs.map (·.1):=by
 have q:(kvs.any λJ=>decide (J.1=k))=true:=by
  rw[oq,h]
  all_goals rfl
 obtain⟨p,hp,e⟩:=List.any_eq_true.mp q;exact List.mem_map.mpr ⟨p,hp,of_decide_eq_true e⟩
end
theorem Co {g:Str->NameKind->NameKind}{x:Str}:∀names:List (Str × NameKind),
 (names.map λy=>(y.1,g y.1 y.2)).lookup x=(names.lookup x).map (g x)
 |[]=>rfl
 |(n,k)::r=>by
  show List.lookup x ((n,g n k)::_)=_;rw[Q1l,Q1l,Co r]
  cases J:x == n with
  |true=>rw[eq_of_beq J];rfl
  |false=>rfl
noncomputable def l8 (env:Env) (n:Str) (k:NameKind):NameKind:=
 if(k == .free && env.scope.kind == .function && env.kindOf n == some .cell)=true then .cell else k
theorem Cp (scope:Scope)(env:Env)(x:Str):
 (relabel scope env).names.lookup x=(scope.names.lookup x).map (l8 env x):=by
 rw[<-Co (g:=l8 env) scope.names];show List.lookup x (scope.names.map _)=_;congr 1;apply Q1e;rintro⟨n,k⟩ _;show(if _ then _ else _)=(n,l8 env n k);unfold l8;split <;> rfl
theorem IS {env:Env}{x:Str}{k:NameKind}(h:l8 env x k=.local):k=.local:=by
 unfold l8 at h;split at h
 . cases h
 . exact h
theorem IT {env:Env}{x:Str}{k:NameKind}(h:l8 env x k=.cell):k=.free\/k=.cell:=by
 unfold l8 at h;split at h
 . rename_i c;left;simp only[Bool.and_eq_true] at c;exact eq_of_beq c.1.1
 . exact .inr h
theorem IU {env:Env}{x:Str}{k:NameKind}(h:l8 env x k=.free):k=.free:=by
 unfold l8 at h;split at h
 . cases h
 . exact h
theorem u5 {env:Env}:∀(names:List (Str × NameKind)) (L:List (Str × Addr)),(∀y∈names,y.2=.free->∃c,env.cells.lookup y.1=some c)->
 (∀x c,L.lookup x=some c->env.cells.lookup x=some c)->
 ∃cl:List (Str × Addr),(forIn names L λy cs=>if(y.2 == NameKind.free)=true then(do let a <-cellOf env y.1;pure (ForInStep.yield ((y.1,a)::cs))) else pure (ForInStep.yield cs))=(pure cl:Sem _)/\
  (∀x c,cl.lookup x=some c->env.cells.lookup x=some c)/\(∀x,((x,NameKind.free)∈names\/(L.lookup x).isSome=true)->cl.lookup x=env.cells.lookup x)
 |[],L,_,U=>⟨L,rfl,U,λx J=>by
    rcases J with J|J
    . cases J
    . obtain⟨c,e⟩:=Option.isSome_iff_exists.mp J;rw[e,U x c e]⟩
 |(n,k)::r,L,Y,U=>by
  by_cases hk:k=.free
  . subst hk;obtain⟨c,e⟩:=Y (n,.free) Q02 rfl;have e:env.cells.lookup n=some c:=e
    have aa:∀x d,((n,c)::L).lookup x=some d->env.cells.lookup x=some d:=λx d h=>by
     rw[Q1l] at h
     cases J:x == n with
     |true=>
      rw[J] at h
      cases h;rw[eq_of_beq J];exact e
     |false=>
      rw[J] at h;exact U x d h
    obtain⟨cl,h1,h2,h3⟩:=u5 r ((n,c)::L) (λy hy=>Y y (Q06 _ hy)) aa;refine⟨cl,?_,h2,λx J=>h3 x ?_⟩
    . rw[Q2w];have ec:cellOf env n=pure c:=by unfold cellOf;rw[e]
      simp only[beq_self_eq_true,if_true,ec,pure_bind];exact h1
    . rcases J with J|J
      . rcases List.mem_cons.mp J with q|q
        . right
          cases q;rw[Q1l,beq_self_eq_true];rfl
        . exact .inl q
      . right;rw[Q1l]
        cases x == n with
        |true=>rfl
        |false=>exact J
  . obtain⟨cl,h1,h2,h3⟩:=u5 r L (λy hy=>Y y (Q06 _ hy)) U;refine⟨cl,?_,h2,λx J=>h3 x ?_⟩
    . rw[Q2w];have eb:(k == NameKind.free)=false:=by simpa using hk
      simp only[eb,Bool.false_eq_true,if_false,pure_bind];exact h1
    . rcases J with J|J
      . rcases List.mem_cons.mp J with q|q
        . cases q;exact absurd rfl hk
        . exact .inl q
      . exact .inr J
theorem rR {scope:Scope}{env:Env}(L:∀y∈scope.names,y.2=.free->∃c,env.cells.lookup y.1=some c):
 ∃cl:List (Str × Addr),closureFor scope env=pure cl/\(∀x c,cl.lookup x=some c->env.cells.lookup x=some c)/\(∀x,(x,NameKind.free)∈scope.names->cl.lookup x=env.cells.lookup x):=by
 obtain⟨cl,h1,h2,U⟩:=u5 scope.names [] L (λx c h=>by cases h);refine⟨cl,?_,h2,λx Y=>U x (.inl Y)⟩;unfold closureFor
 have e:(forIn scope.names ([]:List (Str × Addr)) λy J=>do
  let mut J:=J
  match y with
  |(name,kind)=>if(kind == NameKind.free)=true then J:=(name,<-cellOf env name)::J
  pure (ForInStep.yield J))=(pure cl:Sem _):=by
  rw[<-h1]
 first
  |exact(by simpa using e)
  |(show(forIn scope.names ([]:List (Str × Addr)) _ >>= λJ=>pure J)=_;rw[bind_pure];exact e)
structure ke (X:Cx) (own:List Str) (scope:Scope):Prop where
 kind:scope.kind=.function
 cell:∀y∈scope.names,y.2≠ .cell
 names:∀y∈scope.names,y.2=.local->scope.names.lookup y.1=some .local
 free:∀y∈scope.names,y.2=.free->X.env.kindOf y.1=some .cell\/X.env.kindOf y.1=some .free
 nd:(own++X.N).Nodup
 outer:∀x∈X.N,scope.names.lookup x≠some .local
noncomputable def jv (X:Cx) (own:List Str) (scope:Scope) (cl:List (Str × Addr)) (C:Addr) (fp:List Addr) (J:Shared) (L:Hp):Cx:=
 { X with N:=own++X.N,s₀:=J,H₀:=L,env:=compEnvC scope cl C X.env,outer:=X.stack,ex:=fp,fn:=λ_=>false,pn:=[],xe:=λ_ _=>False }
def qx (X:Cx) (J:List Expr) (t:TT):Prop:=
 ∀(pins:List (Addr × Obj)) (s:Shared) (σ:St) (H:Hp) (Q:Bool->Hp->Prop),Inv X pins σ H s->t σ H Q->
  wpAny (model X.prog X.w) X.A (forIn J true λc r=>if r=true then do let ok <-isTrue c X.env (eval c X.env);pure (ForInStep.yield ok) else pure (ForInStep.yield r)) (TP X pins σ Q) X.xe s
def lD:TT:=λ_ H Q=>Q true H
theorem mP {X:Cx}:qx X [] lD:=λpins s σ H Q I h=>wpAny_tests_nil ⟨H,I,h⟩
theorem rS {X:Cx}{c:Expr}{t:TT}(h:PT X c t):qx X [c] t:=λpins s σ H Q I q=>wpAny_tests_one (h pins s σ H Q I q)
def Cq (k:Nat) (wi:TI) (g:TG) (tt:TT) (te:TE):TE:=λσ H Q=>wi σ H λJ H1=>
 ∃W:Nat->Nat->List V->Hp->Prop,(∃m,W 0 m [] H1)/\∀i m ys H,W i m ys H->
  (J.stop i H/\∀p,H p=none->Q (.ref p) (upd H p (.lst ys)))\/
  (J.go i H/\ys.length<sizeLine/\∀x H',J.l4 i H x H'->g x (List.replicate k none++σ) H' λL H2=>L.drop k=σ/\
    tt L H2 λb Y=>if b=true then te L Y λy H4=>∃U,U<m/\W (i+1) U (ys++[y]) H4 else ∃U,U<m/\W (i+1) U ys Y)
section
variable {prog:Program}{w:World}{A:Around}{R:Result->Shared->Prop}{s:Shared}
theorem IV {ag J iter:Expr}{ah:List Expr}{scope:Scope}{pos:Pos}{it af:Value}{env:Env}(I:Nat->Shared->Prop)
 (turn:∀n s,I n s->wpAny (model prog w) A (pyNext it) (λr L=>
   match r with
   |none=>R (.ok .next) L
   |some v=>wpAny (model prog w) A (letOwnedTupleGo J it v) (λ_ Y=>wpAny (model prog w) A (assign J env v) (λ_ aa=>
     wpAny (model prog w) A (forIn ah true λc r=>if r=true then do let ok <-isTrue c env (eval c env);pure (ForInStep.yield ok) else pure (ForInStep.yield r)) (λok U=>
      if ok=true then wpAny (model prog w) A (eval ag env) (λx ab=>
       wpAny (model prog w) A (call (.builtin "list.append") [af,x]) (λ_ ac=>∃m,m<n/\I m ac) (λ_ _=>False) ab) (λ_ _=>False) U
      else ∃m,m<n/\I m U) (λ_ _=>False) aa) (λ_ _=>False) Y) (λ_ _=>False) L) (λ_ _=>False) s)
 (n:Nat) (h:I n s):
 codeAny (model prog w) A (.compLoop (.ListComp ag [⟨J,iter,ah,0⟩] scope pos) 0 it af env) R s:=by
 refine codeAny_loop rfl I (λn s hI=>?_) n h;show wpAny _ A ((compTurn _ 0 it af env).onRaise _) _ _ s;refine wpAny_noted ?_;rw[compTurn_list]
 have no:∀{α:Type} {t:Sem α} {Q Q':α->Shared->Prop} {E:Value->Shared->Prop} {s:Shared},wpAny (model prog w) A t Q (λ_ _=>False) s->(∀a s,Q a s->Q' a s)->wpAny (model prog w) A t Q' E s:=
  λh k=>Q0n h k λ_ _ z=>z.elim
 refine Q01 (wpAny_standAt (Q01 (no (turn n s hI) λr L h₁=>?_)))
 cases r with
 |none=>exact Q0c h₁
 |some v=>
  refine Q01 (no h₁ λ_ Y ai=>?_);refine Q01 (no ai λ_ aa aj=>Q01 (no aj λok U ae=>?_))
  cases ok with
  |false=>exact Q0c ⟨rfl,ae⟩
  |true=>
   refine Q01 (Q01 (no ae λx ab ak=>?_));exact Q01 (no ak λ_ ac al=>Q0c (Q0c ⟨rfl,al⟩))
end
noncomputable abbrev j9 (us:List Value) (n:Nat):Obj:={ cls:=.type "list",data:=.seq us.toArray n }
section
variable {X:Cx}{own:List Str}{scope:Scope}
theorem ke.cells (S:ke X own scope){pins:List (Addr × Obj)}{σ:St}{H:Hp}{s:Shared}(I:Inv X pins σ H s):
 ∀y∈scope.names,y.2=.free->∃c,X.env.cells.lookup y.1=some c:=λy J L=>I.ok.has y.1 (S.free y J L)
theorem ke.freeOf (S:ke X own scope){x:Str}(h:(relabel scope X.env).names.lookup x=some .cell\/(relabel scope X.env).names.lookup x=some .free):(x,NameKind.free)∈scope.names:=by
 rw[Cp] at h
 cases e:scope.names.lookup x with
 |none=>rw[e] at h;rcases h with h|h <;> cases h
 |some k=>
  rw[e] at h;have J:(x,k)∈scope.names:=PySem.mem_of_lookup e
  have hk:k=.free:=by
   rcases h with h|h
   . rcases IT (Option.some.inj h) with q|q
     . exact q
     . exact absurd q (S.cell _ J)
   . exact IU (Option.some.inj h)
  rw[<-hk];exact J
theorem ke.IW (S:ke X own scope){x:Str}(J:x∈X.N):(relabel scope X.env).names.lookup x≠some .local:=λh=>by
 rw[Cp] at h
 cases e:scope.names.lookup x with
 |none=>rw[e] at h;cases h
 |some k=>
  rw[e] at h;have:=IS (Option.some.inj h);subst this;exact S.outer x J e
theorem Cr {k:Nat}{σ:St}{i:Nat}{v:V}(h:(List.replicate k none++σ)[i]? =some (some v)):k<=i/\σ[i - k]? =some (some v):=by
 by_cases hi:i<k
 . rw[Q2t (by simpa using hi),Q2s] at h;split at h <;> cases h
 . refine⟨Q19 hi,?_⟩;rw[Q29 (by simpa using hi)] at h;simpa using h
theorem Inv.block {pins:List (Addr × Obj)}{σ:St}{H:Hp}{s:Shared}{fp:List Addr}{cl:List (Str × Addr)}{C D:Addr}{h₁:Heap}{m:Str->Option Value}{t':Nat}{us:List Value}{n:Nat}(I:Inv X pins σ H s)(S:ke X own scope)
 (hf:∀b∈fp,jB X pins H b) (af:∀b∈fp,b<s.heap.objs.size)
 (J:∀x c,cl.lookup x=some c->X.env.cells.lookup x=some c) (Y:∀x,(x,NameKind.free)∈scope.names->cl.lookup x=X.env.cells.lookup x)
 (hC:s.heap.objs.size<=C) (hD:s.heap.objs.size<=D) (ag:D≠C) (hn:h₁.Ns C m) (U:∀b o,s.heap.get? b=some o->h₁.get? b=some o) (ae:h₁.get? D=some (j9 us n)):
 Inv (jv X own scope cl C fp s H) [(D,j9 us n)] (List.replicate own.length none++σ) H { s with heap:=h₁,toks:=t' }:=by
 have ok:=I.ok
 have oP:∀b:Addr,s.heap.objs.size<=b->b ∉ frs X.stack:=λb L z=>by
  rcases List.mem_cons.mp (I.qd b z) with e|e
  . exact absurd I.lt (by rw[<-e];exact Nat.not_lt.mpr L)
  . exact I.oP L e
 have fresh:∀b:Addr,s.heap.objs.size<=b->H b=none:=λb L=>I.hok.fresh L
 have ak:∀x c,cl.lookup x=some c->c<s.heap.objs.size:=λx c e=>by
  obtain⟨v,q⟩:=I.cell x c (J x c e);exact q.lt
 refine⟨⟨ok.mod,S.kind,ok.glob,ok.blt,hC,λx y c e1 e2=>ok.inj x y c (J x c e1) (J y c e2),λx hx=>?_,λx c hx _=>(nomatch hx),ok.hd,ok.frames,.inl rfl,λb L=>?_,I.bs,Q0g ok.lx I.sz,λb o e L=>?_,λb L z=>?_,I.stack,I.rm⟩,
  rfl,I.bare,Un.kept U,⟨m,hn,λi x v e1 e2 e3=>?_⟩,λx c e=>?_,fresh C hC,λx c e=>?_,λp hp=>?_,I.hok.kept U,?_⟩
 . have hm:=S.freeOf (x:=x) hx;obtain⟨c,e⟩:=ok.has x (S.free _ hm rfl);exact⟨c,by rw[show(jv X own scope cl C fp s H).env.cells=cl from rfl,Y x hm];exact e⟩
 . refine⟨Q0a (Q0e (af b L) hC),λx c e z=>?_⟩;exact(hf b L).2.2.2.2.1 x c (J x c e) z
 . rcases(hf b L).2.2.2.1 with z|z
   . exact ok.oO b o e z
   . exact absurd (Q0e (Q03 e) (Q0g ok.lx z)) (Q0o _)
 . rcases List.mem_cons.mp (I.qd b z) with q|q
   . exact(hf b L).2.1 q
   . exact(hf b L).2.2.1 q
 . obtain⟨hk,ah⟩:=Cr e2
   have aa:X.N[i - own.length]? =some x:=by
    have e1:(own++X.N)[i]? =some x:=e1;rw[Q29 hk] at e1;exact e1
   have ai:x∈X.N:=Q0x aa
   have ab:(relabel scope X.env).names.lookup x=some .cell\/(relabel scope X.env).names.lookup x=some .free:=by
    rcases e3 with q|q
    . exact absurd q (S.IW ai)
    . exact q
   have hm:=S.freeOf ab;have ac:=S.free _ hm rfl;obtain⟨mX,al,aj⟩:=I.loc;obtain⟨u,r,lk⟩:=aj _ x v aa ah (.inr ac);refine⟨u,r,.inr ⟨ab,?_⟩⟩;rcases lk with⟨q,_⟩|⟨_,c,ec,hc⟩
   . rcases ac with z|z
     . rw[z] at q;cases q
     . rw[z] at q;cases q
   . obtain⟨o,ho,hd⟩:=hc;exact⟨c,(Y x hm).trans ec,o,U _ _ ho,hd⟩
 . obtain⟨v,o,ho,hd⟩:=I.cell x c (J x c e);exact⟨v,o,U _ _ ho,hd⟩
 . exact I.j3 x c (J x c e)
 . have e:p=(D,j9 us n):=by
    have hp:p∈([]++[(D,j9 us n)]:List (Addr × Obj)):=hp;simpa using hp
   subst e
   exact⟨ae,fresh D hD,ag,oP D hD,λv z=>by
    have z:Data.seq us.toArray n=Data.cell v:=z
    cases z⟩
 . show _=(own++X.N).length;rw[Q09,Q09,Q17,I.len]
theorem Inv.unblock {pins:List (Addr × Obj)}{σ aa:St}{H H3:Hp}{s s3:Shared}{fp:List Addr}{cl:List (Str × Addr)}{C D:Addr}{h':Heap}{us:List Value}{n:Nat}{ys:List V}{pl:List (Addr × Obj)}(I:Inv X pins σ H s)
 (hf:∀b∈fp,jB X pins H b) (J:Inv (jv X own scope cl C fp s H) pl aa H3 s3) (ab:(D,j9 us n)∈pl) (hC:s.heap.objs.size<=C) (hD:s.heap.objs.size<=D) (ac:D≠C)
 (r:Vals ys us) (hz:ys.length<=sizeLine) (hs:Heap.SameBut C s3.heap h'):Inv X pins σ (upd H3 D (.lst ys)) { s3 with heap:=h' }/\H3 D=none:=by
 obtain⟨eD,Y,_,_,_⟩:=J.pin (D,j9 us n) (Q0b _ ab);have nC:H3 C=none:=J.free;have kC:∀b o,b≠C->s3.heap.get? b=some o->h'.get? b=some o:=λb o L e=>(hs.2 b L).trans e;refine⟨I.call' (ch:=fp) J.os ⟨λb o e nb L U=>?_,λb o e nb L U=>?_,λb o e nb U=>?_,λb o e U=>?_,λb xs e=>?_,λb o u e=>?_,λb ps e=>?_⟩ (λb o e=>?_) J.bare (λb L=>?_),Y⟩
 . exact kC b o (Q0a (Q0e (Q03 e) hC)) (J.base.keep b o e nb L U)
 . obtain⟨sl,e1⟩:=J.base.slot b o e nb L U;exact⟨sl,kC b _ (Q0a (Q0e (Q03 e) hC)) e1⟩
 . rw[gj (Q0a (Q0e (Q03 e) hD))];exact J.base.free b o e nb U
 . obtain⟨o',e1⟩:=J.base.there b o e U;exact⟨o',kC b _ (Q0a (Q0e (Q03 e) hC)) e1⟩
 . have q:=J.base.tups b xs e;rw[gj (gB q Y)];exact q
 . have q:=J.base.kL b o u e;rw[gj (gB q Y)];exact q
 . obtain⟨mo,q⟩:=J.base.kM b ps e;exact⟨mo,by rw[gj (gB q Y)];exact q⟩
 . by_cases L:b=D
   . subst L;rw[gu] at e;cases e;exact⟨hz,us,n,r,kC b _ ac eD⟩
   . rw[gj L] at e;refine(J.hok b o e).stay (λc v hc q=>kC c v ?_ q) (λc q=>by rw[gj (gB q Y)];exact q) λc xs q=>by rw[gj (gB q Y)];exact q
     rcases hc with z|z
     . rw[z];exact gB e nC
     . exact gB z nC
 . obtain⟨_,f1,_,f3,f4,f5⟩:=hf b L;exact⟨f3,f1,f4,f5⟩
theorem Cs {tg iter aq:Expr}{ar:List Expr}{pos:Pos}{g:TG}{tt:TT}{te:TE}{pins:List (Addr × Obj)}{σ:St}{H2:Hp}{L:Shared}{it:Addr}{fp:List Addr}{tn:Nat->Heap->Prop}{J:It}{cl:List (Str × Addr)}{Fin:List V->Hp->Prop}{W:Nat->Nat->List V->Hp->Prop}{m0:Nat}
 {RR:Value->Addr->Result->Shared->Prop} (hc:X.calm=true) (S:ke X own scope) (ah:∀x c,cl.lookup x=some c->X.env.cells.lookup x=some c) (aG:∀x,(x,NameKind.free)∈scope.names->cl.lookup x=X.env.cells.lookup x)
 (I2:Inv X pins σ H2 L) (T:Turn X.prog X.w X.K tg J fp it tn) (ax:tn 0 L.heap) (f2:∀b∈fp,jB X pins H2 b) (w0:W 0 m0 [] H2)
 (turn:∀i m ys H,W i m ys H->(J.stop i H/\Fin ys H)\/
   (J.go i H/\ys.length<sizeLine/\∀x H',J.l4 i H x H'->g x (List.replicate own.length none++σ) H' λau H2=>au.drop own.length=σ/\
     tt au H2 λb H3=>if b=true then te au H3 λy H4=>∃m',m'<m/\W (i+1) m' (ys++[y]) H4 else ∃m',m'<m/\W (i+1) m' ys H3))
 (hg:∀cl C fp ac ae,PG (jv X own scope cl C fp ac ae) tg g) (ht:∀cl C fp ac ae,qx (jv X own scope cl C fp ac ae) ar tt) (he:∀cl C fp ac ae,PE (jv X own scope cl C fp ac ae) aq te)
 (aK:∀(C D:Addr) (s5:Shared) (H5:Hp) (ys:List V) (us:List Value) (k:Nat),L.heap.objs.size<=C->L.heap.objs.size<=D->D≠C->Inv (jv X own scope cl C fp L H2) [(D,j9 us k)] (List.replicate own.length none++σ) H5 s5->Vals ys us->ys.length<=sizeLine->Fin ys H5->RR (.ref D) C (.ok .next) s5):
 wpAny (model X.prog X.w) X.A (newList []) (λay af=>wpAny (model X.prog X.w) X.A (newFunctionEnv scope X.env.globals cl [] X.env.qual none .none (some X.env)) (λak aH=>
  codeAny (model X.prog X.w) X.A (.compStart (.ListComp aq [⟨tg,iter,ar,0⟩] scope pos) 0 (.ref it) ay { ak with scope:=relabel scope X.env }) (RR ay ak.locals) aH) X.xe af) X.xe L:=by
 have aj:∀b∈fp,b<L.heap.objs.size:=λb U=>by
  obtain⟨o,e,_⟩:=T.obj _ _ ax b U;exact Q03 e
 refine wpAny_newObj_type (wpAny_newFunctionEnv S.cell (by intro y hy;simp at hy) (λh₁ aa Y=>?_) S.kind);dsimp only at aa Y ⊢;generalize hG:L.heap.push { cls:=.type "list",dict:=none,data:=.seq ([]:List Value).toArray }=G at aa Y ⊢;have az:G.objs.size=L.heap.objs.size+1:=by rw[<-hG,Q16]
 have hC:L.heap.objs.size<=G.objs.size:=by rw[az];exact Q11 _
 have av:L.heap.objs.size≠G.objs.size:=by rw[az];exact Q0a (Q13 _)
 have aA:∀b o,L.heap.get? b=some o->h₁.get? b=some o:=λb o e=>
  Y.extBut b o (Q0a (Q0e (Q03 e) hC)) (Q07 _ (hG ▸ Q07 _ e))
 have aI:h₁.get? L.heap.objs.size=some (j9 [] 0):=Y.extBut _ _ av (Q07 _ (hG ▸ Q0i _ rfl));have I3:=I2.block (cl:=cl) (t':=L.toks+([]:List (Str × Value)).length) S f2 aj ah aG hC (Q00 _) av aa aA aI;have aB:tn 0 h₁:=T.keep _ _ _ ax λb _ o e=>aA b o e;have aL:∀b∈fp,H2 b=none:=λb U=>(f2 b U).1
 have ai:∀{H':Hp} {us:List Value} {n:Nat},(∀b∈fp,H' b=none)->∀b∈fp,jB (jv X own scope cl G.objs.size fp L H2) [(L.heap.objs.size,j9 us n)] H' b:=λ{H' us n} hn b U=>by
  refine⟨hn b U,Q0a (Q0e (aj b U) hC),λz=>?_,.inl U,λx c e=>(f2 b U).2.2.2.2.1 x c (ah x c e),λp hp=>?_⟩
  . rcases List.mem_cons.mp (I2.qd b z) with q|q
    . exact(f2 b U).2.1 q
    . exact(f2 b U).2.2.1 q
  . have hp:p∈([]++[(L.heap.objs.size,j9 us n)]:List (Addr × Obj)):=hp;have e:p=(L.heap.objs.size,j9 us n):=by simpa using hp
    subst e;exact Q0r (aj b U)
 have al:∀af:Shared,af={ L with heap:=h₁,toks:=L.toks+([]:List (Str × Value)).length }->
  codeAny (model X.prog X.w) X.A (.compLoop (.ListComp aq [⟨tg,iter,ar,0⟩] scope pos) 0 (.ref it) (.ref L.heap.objs.size) (compEnvC scope cl G.objs.size X.env))
   (RR (.ref L.heap.objs.size) G.objs.size) af:=by
  rintro af rfl
  refine IV (λn s'=>∃i ys us k H',Inv (jv X own scope cl G.objs.size fp L H2) [(L.heap.objs.size,j9 us k)] (List.replicate own.length none++σ) H' s'/\Vals ys us/\ys.length<=sizeLine/\tn i s'.heap/\(∀b∈fp,H' b=none)/\W i n ys H')
   ?_ m0 ⟨0,[],[],0,H2,I3,.nil,Q0d _,aB,aL,w0⟩
  intro n s4 zq;obtain⟨i,ys,us,k,H4,I4,r4,z4,aC,aD,w4⟩:=zq;rcases turn i n ys H4 w4 with⟨stop,qn⟩|⟨go,aM,step⟩
  . refine gG (T.done (jv X own scope cl G.objs.size fp L H2) rfl rfl rfl hc i _ s4 _ H4 (λ_ _=>False) I4 (ai aD) aC stop) λr s5 ⟨hr,I5⟩=>?_;subst hr;exact aK G.objs.size L.heap.objs.size s5 H4 ys us k hC (Q00 _) av I5 r4 z4 qn
  . refine gG (T.item (jv X own scope cl G.objs.size fp L H2) rfl rfl rfl hc i _ s4 _ H4 (λ_ _=>False) I4 (ai aD) aC go) λr s5 ⟨u,hr,h5⟩=>?_;subst hr;refine gG h5 λ_ s6 zq=>?_;obtain⟨x,H6,I6,r6,y6,ag,aN⟩:=zq;have aO:=I6.pinned (ai aN) (T.obj _ _ ag);refine gG (hg cl G.objs.size fp L H2 _ s6 _ H6 x u _ aO r6 (step x H6 y6)) λ_ s7 zq=>?_;obtain⟨ab,H7,I7,d7,q7⟩:=zq;refine gG (ht cl G.objs.size fp L H2 _ s7 ab H7 _ I7 q7) λb s8 ⟨H8,I8,q8⟩=>?_;have am:(List.replicate own.length none++σ).length=ab.length:=by rw[I7.len,<-I6.len]
    have an:∀(j:Nat) v,(List.replicate own.length none++σ)[j]? =some (some v)->ab[j]? =some (some v):=λj v e=>by
     obtain⟨hk,e'⟩:=Cr e;rw[<-d7,List.getElem?_drop] at e';rw[<-e'];congr 1;omega
    cases b with
    |false=>
     have q8:∃m',m'<n/\W (i+1) m' ys H8:=q8;obtain⟨m',hm,w8⟩:=q8;refine⟨m',hm,i+1,ys,us,k,H8,I8.mG.weak am an,r4,z4,T.keep _ _ _ ag λb U o e=>?_,λb U=>?_,w8⟩
     . exact(I8.pin (b,o) (Q0b _ (Q0b _ (qm U e)))).1
     . obtain⟨o,e,d⟩:=T.obj _ _ ag b U;exact(I8.pin (b,o) (Q0b _ (Q0b _ (qm U e)))).2.1
    |true=>
     have q8:te ab H8 λy H9=>∃m',m'<n/\W (i+1) m' (ys++[y]) H9:=q8;show wpAny _ _ _ _ _ _;refine gG (he cl G.objs.size fp L H2 _ s8 ab H8 _ I8 q8) λyv s9 zq=>?_;obtain⟨y,H9,I9,r9,m',hm,w9⟩:=zq;obtain⟨eD,nD,aE,aP,_⟩:=I9.pin (L.heap.objs.size,j9 us k) (Q0b _ (Q0u _ Q02));have hl:=r4.length;refine append_at (hsz:=by rw[Q08,<-hl];exact z4) eD λaw ao aJ=>?_
     have ap:∀b∈fp,∀o,s6.heap.get? b=some o->s9.heap.get? b=some o/\H9 b=none:=λb U o e=>by
      have q:=I9.pin (b,o) (Q0b _ (Q0b _ (qm U e)));exact⟨q.1,q.2.1⟩
     have aQ:∀b∈fp,b≠L.heap.objs.size:=λb U=>Q0a (aj b U);have aS:Inv (jv X own scope cl G.objs.size fp L H2) [] ab H9 s9:=I9.nX λp hp=>(nomatch hp)
     have aT:Inv (jv X own scope cl G.objs.size fp L H2) [] ab H9 { s9 with heap:=aw }:=
      aS.turned (t':=s9.toks) (λb o U e=>ao.extBut b o U e) nD aE (.inr (Q00 _)) (λx c e z=>by
        obtain⟨v,q⟩:=I2.cell x c (ah x c e);exact absurd q.lt (by rw[z];exact Q0o _)) λp hp=>(nomatch hp)
     have aU:Inv (jv X own scope cl G.objs.size fp L H2) [(L.heap.objs.size,j9 (us++[yv]) (k+1))] ab H9 { s9 with heap:=aw }:=aT.nX λp hp=>by
      have e:p=(L.heap.objs.size,j9 (us++[yv]) (k+1)):=by simpa using hp
      subst e
      refine⟨?_,nD,aE,aP,λv z=>by
       have z:Data.seq (us++[yv]).toArray (k+1)=Data.cell v:=z
       cases z⟩
      show aw.get? _=some { cls:=.type "list",data:=.seq (us++[yv]).toArray (k+1) };rw[<-List.push_toArray];exact aJ
     refine⟨m',hm,i+1,ys++[y],us++[yv],k+1,H9,aU.weak am an,r4.append (.cons r9 .nil),by rw[Q09,Q18];exact aM,T.keep _ _ _ ag λb U o e=>ao.extBut b o (aQ b U) (ap b U o e).1,λb U=>?_,w9⟩;obtain⟨o,e,d⟩:=T.obj _ _ ag b U;exact(ap b U o e).2
 exact codeAny_compStart_list (al _ rfl) (T.self _ 0 _ _ _ aB (al _ rfl))
theorem kP {tg iter aa:Expr}{ab:List Expr}{pos:Pos}{wi:TI}{g:TG}{tt:TT}{te:TE}(hc:X.calm=true)(S:ke X own scope)(hi:PI X tg iter wi)
 (hg:∀cl C fp L U,PG (jv X own scope cl C fp L U) tg g) (ht:∀cl C fp L U,qx (jv X own scope cl C fp L U) ab tt)
 (he:∀cl C fp L U,PE (jv X own scope cl C fp L U) aa te) (hs:∀x,foldedSetIterable iter X.env x=pure x:=by intro _;rfl):
 PE X (.ListComp aa [⟨tg,iter,ab,0⟩] scope pos) (Cq own.length wi g tt te):=by
 intro pins s σ H Q I h;obtain⟨cl,Y,ac,ae⟩:=rR (S.cells I);rw[eval_ListComp];refine wpAny_comprehension_free (use:=none) rfl hs Y S.kind S.names ?_;refine gG (hi pins s σ H _ I h) λv s1 h1=>gG h1 λak s2 h2=>?_;obtain⟨it,fp,tn,J,H2,af,I2,T,ag,f2,W,⟨m0,w0⟩,turn⟩:=h2;subst af;refine Cs (RR:=λah C=>compPost (model X.prog X.w) X.A X.xe none (EP X pins σ Q) ah C) hc S ac ae I2 T ag f2 w0 turn hg ht he ?_;intro C D s5 H5 ys us k hC hD ai I5 r5 z5 fin;obtain⟨m5,n5,_⟩:=id I5.loc;refine⟨m5,n5,λh' aj=>?_⟩;obtain⟨I6,nD⟩:=I2.unblock f2 I5 Q02 hC hD ai r5 z5 aj;exact⟨.ref D,_,I6,rfl,fin _ nD⟩
theorem IX {i:Nat}{y:Str}{py Y:Pos}{tg iter aa:Expr}{ab:List Expr}{pos:Pos}{wi:TI}{g:TG}{tt:TT}{te:TE}(hN:X.N.Nodup)(hy:X.N[i]? =some y)(hL:Loc X.env.scope y)(hc:X.calm=true)(S:ke X own scope)(hi:PI X tg iter wi)
 (hg:∀cl C fp L U,PG (jv X own scope cl C fp L U) tg g) (ht:∀cl C fp L U,qx (jv X own scope cl C fp L U) ab tt)
 (he:∀cl C fp L U,PE (jv X own scope cl C fp L U) aa te) (hf:X.fn y=true\/X.env.scope.names.lookup y=some .local:=by first|exact .inl rfl|exact .inr rfl|assumption)
 (ak:swapsWith (.ListComp aa [⟨tg,iter,ab,0⟩] scope pos) (some (.Name y py)) Y.line X.env=pure true:=by rfl) (hs:∀x,foldedSetIterable iter X.env x=pure x:=by intro _;rfl):
 PS X (.Assign [.Name y py] (.ListComp aa [⟨tg,iter,ab,0⟩] scope pos) Y) (n0 (Cq own.length wi g tt te) (je i)):=by
 intro pins s σ H E I h;obtain⟨cl,ac,ah,ai⟩:=rR (S.cells I);rw[exec_Assign_Name_used _ _ _ _ ak];refine Q01 (wpAny_standAt (Q01 ?_));show wpAny _ _ (do let _ <-comprehension _ scope X.env _ (newList []) false (eval iter X.env) (some (assign (.Name y py) X.env))) _ _ s
 refine Q01 (gG (wpAny_comprehension_free (use:=some (assign (.Name y py) X.env)) (Q:=λ_ s'=>SP X pins E .next s') rfl hs ac S.kind S.names
  (gG (hi pins s σ H _ I h) λv s1 h1=>gG h1 λaq s2 h2=>?_)) λ_ s' hq=>Q0c (Q0c hq))
 obtain⟨it,fp,tn,J,H2,al,I2,T,am,f2,W,⟨m0,w0⟩,turn⟩:=h2;subst al;refine Cs (RR:=λan C=>compPost (model X.prog X.w) X.A X.xe (some (assign (.Name y py) X.env)) (λ_ s'=>SP X pins E .next s') an C) hc S ah ai I2 T am f2 w0 turn hg ht he ?_;intro C D s5 H5 ys us k hC hD af I5 r5 z5 fin;obtain⟨m5,n5,_⟩:=id I5.loc;obtain⟨I6,nD⟩:=I2.unblock f2 I5 Q02 hC hD af r5 z5 (Heap.SameBut.refl C s5.heap);obtain⟨oC,es,ep,eC,dC,rC⟩:=id n5;have nC:upd H5 D (.lst ys) C=none:=by rw[gj (Ne.symm af)];exact I5.free
 have ag:C≠X.env.locals:=Q0r (Q0e I2.lt hC)
 have ae:∀x c,X.env.cells.lookup x=some c->c≠C:=λx c e z=>by
  obtain⟨v,q⟩:=I2.cell x c e;exact absurd q.lt (by rw[z];exact Nat.not_lt.mpr hC)
 have aj:∀p∈X.pn++pins,p.1≠C:=λp hp z=>by
  have:=Q03 (I2.pin p hp).1;rw[z] at this;exact absurd this (Nat.not_lt.mpr hC)
 have I7:Inv X (pins++[(C,oC)]) σ (upd H5 D (.lst ys)) s5:=by
  refine I6.nX λp hp=>?_;rcases List.mem_append.mp hp with z|z
  . exact I6.pin p (Q0b _ z)
  . have e:p=(C,oC):=by simpa using z
    subst e
    exact⟨eC,nC,ag,I2.oP hC,λv z=>by
     have z:oC.data=Data.cell v:=z;rw[dC] at z;cases z⟩
 show wpAny _ _ (assign (.Name y py) X.env (.ref D)) _ _ s5;refine wpAny_assign_Name (rn (v:=.ref D) I7 hN hy hL rfl (λs8 I8=>?_) hf);obtain⟨ao,ar,_⟩:=I8.pin (C,oC) (Q0b _ (Q0b _ Q02));refine⟨_,⟨oC,es,ep,ao,dC,rC⟩,λh' ap=>?_⟩
 have I9:Inv X pins (σ.set i (some (.ref D))) (upd H5 D (.lst ys)) { s8 with heap:=h' }:=
  I8.mG.turned (t':=s8.toks) (λb o hb e=>(ap.2 b hb).trans e) nC ag (.inr (Q0g I2.sz hC)) ae aj
 exact⟨_,_,I9,fin _ nD⟩
end
section
variable {X:Cx}
theorem mQ {e:Expr}:PE X e (λ_ _ _=>False):=λ_ _ _ _ _ _ h=>h.elim
theorem IY {e:Expr}:PT X e (λ_ _ _=>False):=λ_ _ _ _ _ _ h=>h.elim
theorem jD:j6 X (.builtin "isinstance") (λxs H Q=>∃x T t b,xs=[x,.ty T]/\ku X.K H x t/\W.kitOne X.K t (.type T)=some b/\Q (.bl b) H):=by
 intro pins s σ H xs us Q I r h;obtain⟨x,T,t,b,rfl,ty,e,q⟩:=h;obtain⟨u,c,rfl,J,L⟩:=vals2 r
 cases L;exact HE I J ty e λtk=>⟨.bl b,H,I.tok tk,rfl,q⟩
theorem u6:j6 X (.builtin "len") (λxs H Q=>(∃a kvs,xs=[V.ref a]/\H a=some (.dK kvs)/\Q (.int kvs.length) H)\/∃p ys,xs=[.ref p]/\(gi X.K H p ys\/e_ X.K H p ys)/\Q (.int ys.length) H):=by
 intro pins s σ H xs us Q I r h;rcases h with h|h
 . exact Cn pins s σ H xs us Q I r h
 . exact jC pins s σ H xs us Q I r h
theorem Ct:∀{ss:List Str}{vs:List Value},Vals (ss.map V.str) vs->StrsAre vs ss
 |[],_,r=>by cases r;exact .nil
 |y::r,_,h=>by
  cases h with
  |cons a b=>
   obtain⟨t,e⟩:=a;subst e;exact .cons y t (Ct b)
theorem Cu:∀{vs:List Value}{ss:List Str},StrsAre vs ss->Vals (ss.map V.str) vs
 |_,_,.nil=>.nil
 |_,_,.cons y t h=>.cons ⟨t,rfl⟩ (Cu h)
theorem IZ:j6 X (.builtin "sorted") (λxs H Q=>∃a ss,xs=[.ref a]/\gi X.K H a (ss.map V.str)/\ss.length<64/\
 ∀p J,H p=none->J.Perm ss->sortedS J=true->Q (.ref p) (upd H p (.lst (J.map V.str)))):=by
 intro pins s σ H xs us Q I r h;obtain⟨a,ss,rfl,Y,aa,q⟩:=h;obtain⟨u,rfl,ru⟩:=vals1 r
 cases ru;obtain⟨L,U,pl,hz⟩:=I.list Y;have hl:L.length=ss.length:=by rw[<-U.length,Q04]
 refine sorted_strs pl.isList (Ct U) (by omega) λout J h1 h2 h3=>?_;obtain⟨e,he⟩:=sortedAll_at s.heap L out;refine⟨.ref (s.heap.objs.size+1),upd H (s.heap.objs.size+1) (.lst (J.map V.str)),I.laid (t':=s.toks) (λ_ _=>sortedAll_old) (Q11 _) ?_,rfl,q _ J (I.hok.fresh (Q11 _)) h2 h3⟩;refine⟨?_,out.toList,e,Cu h1,he⟩;rw[Q04,h2.length_eq];have:ss.length<=1000:=by omega
 exact Q0q (iB this)
noncomputable def ot (J:List Value) (i:Nat):Bool:=match J[i]? with
 |some (.bool b)=>b
 |_=>false
theorem I0:∀{bs:List Bool}{J:List Value},Vals (bs.map V.bl) J->(List.range J.length).all (ot J)=bs.all id:=by
 intro bs J r
 have key:∀i,i<bs.length->ot J i=bs.getD i false:=λi hi=>by
  have e:(bs.map V.bl)[i]? =some (.bl bs[i]):=by rw[Q0j,Q05 hi];rfl
  obtain⟨u,U,Y⟩:=r.get e
  cases Y;unfold ot;rw[U,Q0f,Q05 hi];rfl
 have hl:J.length=bs.length:=by rw[<-r.length,Q04]
 rw[hl,Bool.eq_iff_iff,Q1a,Q1a];constructor
 . intro h b hb;obtain⟨i,hi,e⟩:=Q0y hb;have q:=h i (List.mem_range.mpr hi);rw[key i hi,Q0f,Q05 hi,Q2x,e] at q;exact q
 . intro h i hi;have L:=List.mem_range.mp hi;rw[key i L,Q0f,Q05 L,Q2x];exact h _ (Q1m L)
theorem rT (hc:X.calm=true):j6 X (.builtin "all") (λxs H Q=>∃(a:Addr) (bs:List Bool),xs=[.ref a]/\gi X.K H a (bs.map V.bl)/\Q (.bl (bs.all id)) H):=by
 intro pins s σ H xs us Q I r h;obtain⟨a,bs,rfl,hq,q⟩:=h;obtain⟨u,rfl,ru⟩:=vals1 r
 cases ru;obtain⟨J,Y,pl,hz⟩:=I.list hq;have aa:a<s.heap.objs.size:=by obtain⟨_,e,_⟩:=pl.isList;exact Q03 e
 refine call_all_walk (wpAny_pyIter_list pl.isList ?_);refine⟨s.heap.objs.size,_,_,_,_,_,ot J,rfl,Walks.list (show X.A.in1.handled=none from I.ok.hd hc) s.heap.objs.size a (Q0a aa) J.toArray,⟨⟨_,Q0i _ rfl,rfl,rfl⟩,pl.isList.push _⟩,λi v s' Q' E' hP hQ=>?_,λh' tk hk=>?_⟩
 . have e:J[i]? =some v:=by simpa using hP
   have hi:i<J.length:=(List.getElem?_eq_some_iff.mp e).1;have hb:i<(bs.map V.bl).length:=by rw[Y.length];exact hi
   obtain⟨w',ew,L⟩:=Y.get (Q05 hb);rw[e] at ew;cases ew;rw[Q2d] at L
   cases L;refine wpAny_truthy_bool ?_;have U:ot J i=bs[i]'(by simpa using hb):=by unfold ot;rw[e]
   rw[U] at hQ;exact hQ
 . have e:(List.range J.toArray.size).all (ot J)=bs.all id:=by rw[Q08];exact I0 Y
   rw[e];have ns:H s.heap.objs.size=none:=I.hok.fresh (Q00 _);refine⟨.bl (bs.all id),H,I.kept (h':=h') (t':=tk) λb o U=>hk b o ?_ (Q07 _ U),rfl,q⟩;intro hm;have:b=s.heap.objs.size:=by simpa using hm
   exact absurd (Q03 U) (by rw[this];exact Q0o _)
noncomputable def Ite (K:W.Frag) (a:Addr):It:=
 ⟨λi H=>∃xs x,gi K H a xs/\xs[i]? =some x,
  λi H x H'=>∃p y,H p=none/\x=.ref p/\(∀xs,gi K H a xs->xs[i]? =some y)/\H'=upd H p (.tup [.int i,y]),
  λi H=>∃xs,gi K H a xs/\xs.length<=i⟩
theorem I_ {P:Program}{w:World}{K:W.Frag}{ac:List Expr}{k:Nat}{tpos:Pos}{a e it:Addr}(aa:e≠it):
 Turn P w K (.Tuple ac k tpos) (Ite K a) [e,it] e (λi h=>∃L,IsEnum h e it (i:Int) L/\h.IsListIter it a i) where
 mem:=by simp
 obj:=λi h st b J=>by
  obtain⟨L,h1,h2⟩:=st;have J:b=e\/b=it:=by simpa using J
  rcases J with rfl|rfl
  . exact⟨_,h1,λv z=>by
     have z:Data.fields _=Data.cell v:=z
     cases z⟩
  . obtain⟨o,q,c,d⟩:=h2;exact⟨o,q,λv z=>by rw[d] at z;cases z⟩
 keep:=λi h h' st k=>by
  obtain⟨L,h1,h2⟩:=st;exact⟨L,k e (by simp) _ h1,h2.at λo q=>k it (by simp) o q⟩
 item:=by
  intro X hP hw hK hc i pins s σ H E I hf st hg;subst hP hw hK;obtain⟨L,h1,h2⟩:=st;obtain⟨xs,x,hq,hx⟩:=hg;obtain⟨ae,rv,p,hz⟩:=I.list hq;obtain⟨u,hu,ru⟩:=rv.get hx;obtain⟨e0,e1,e2,e3,e4,e5⟩:=hf e (by simp);obtain⟨f0,f1,f2,f3,f4,f5⟩:=hf it (by simp);have Y:H s.heap.objs.size=none:=I.hok.fresh (Q00 _);refine wpAny_pyNext_enum_item h1 h2 p.isList (x:=u) (by simpa using hu) aa λh' q1 q2 q3 q4 q5=>?_;refine⟨_,rfl,wpAny_letOwnedTupleGo_enum (s:={ s with heap:=h',toks:=s.toks+1 }) q1 λU g1 g2=>?_⟩;have af:∀b o,s.heap.get? b=some o->b≠s.heap.objs.size:=λb o q=>Q0a (Q03 q);have kk:∀b o,b≠e->b≠it->s.heap.get? b=some o->U.get? b=some o:=λb o n1 n2 q=>g2.extBut b o n1 (q5 b o n1 n2 q);have pe:s.heap.objs.size≠e:=Q0r (Q03 h1);have tup:U.get? s.heap.objs.size=some { cls:=.type "tuple",data:=.seq #[.int i s.toks,u] }:=g2.extBut _ _ pe q3
  have I1:Inv X pins σ (upd H s.heap.objs.size (.tup [.int i,x])) { s with heap:=U,toks:=s.toks+1 }:=by
   refine I.step (g':=s.gens) (d':=s.drawn) (ch:=[e,it]) (λb J=>?_) (λb o _ _ hc q _=>?_) (λb o _ _ hc q _=>?_) (λb o _ q n=>?_) (λb o hc q=>?_) (λb ys q=>?_) (λb o v q=>?_) (λb ps q=>?_) (λm hm=>?_) (λb o q=>?_) I.bare
   . have J:b=e\/b=it:=by simpa using J
     rcases J with rfl|rfl
     . exact⟨e3,e1,e4,e5⟩
     . exact⟨f3,f1,f4,f5⟩
   . exact kk b o (λz=>hc (by simp[z])) (λz=>hc (by simp[z])) q
   . exact⟨o.slots,kk b o (λz=>hc (by simp[z])) (λz=>hc (by simp[z])) q⟩
   . rw[gj (af b o q)];exact n
   . exact⟨o,kk b o (λz=>hc (by simp[z])) (λz=>hc (by simp[z])) q⟩
   . rw[gj (gB q Y)];exact q
   . rw[gj (gB q Y)];exact q
   . exact⟨#[],by rw[gj (gB q Y),q];simp⟩
   . obtain⟨o,es,ep,ho,r⟩:=hm;exact⟨o,es,ep,kk _ o (Ne.symm e1) (Ne.symm f1) ho,r⟩
   . by_cases J:b=s.heap.objs.size
     . subst J;rw[gu] at q;cases q;refine⟨yh,[.int i s.toks,u],.cons ⟨_,rfl⟩ (.cons ru .nil),?_⟩;exact⟨_,tup,rfl,_,rfl⟩
     . rw[gj J] at q;refine(I.hok b o q).stay (λc v ab z=>kk c v ?_ ?_ z) (λc z=>by rw[gj (gB z Y)];exact z) λc ys z=>by rw[gj (gB z Y)];exact z
       . rcases ab with z|z
         . rw[z];exact gB q e0
         . exact gB z e0
       . rcases ab with z|z
         . rw[z];exact gB q f0
         . exact gB z f0
  refine⟨.ref s.heap.objs.size,_,I1,rfl,⟨s.heap.objs.size,x,Y,rfl,λys hy=>by rw[I.rA hy hq];exact hx,rfl⟩,⟨u,?_,q2.extBut g2.extBut (Ne.symm aa)⟩,λb J=>?_⟩
  . have ei:((i+1:Nat):Int)=(i:Int)+1:=by omega
    show IsEnum U e it ((i+1:Nat):Int) u;rw[ei];exact g1
  . have ag:b=e\/b=it:=by simpa using J
    have ah:b<s.heap.objs.size:=by
     rcases ag with rfl|rfl
     . exact Q03 h1
     . obtain⟨o,q,_⟩:=h2;exact Q03 q
    rw[gj (Q0a ah)];exact(hf b J).1
 done:=by
  intro X hP hw hK hc i pins s σ H E I hf st hg;subst hP hw hK;obtain⟨L,h1,h2⟩:=st;obtain⟨xs,hq,hx⟩:=hg;obtain⟨ae,rv,p,hz⟩:=I.list hq;obtain⟨f0,f1,f2,f3,f4,f5⟩:=hf it (by simp);have hl:=rv.length;exact wpAny_pyNext_enum_end (I.ok.hd hc) h1 h2 p.isList (by simp;omega) λh' eb=>⟨rfl,I.turned (t':=s.toks) (λb o J q=>eb b o J q) f0 f1 f3 f4 f5⟩
 self:=λA i s Q E st q=>by
  obtain⟨L,h1,_⟩:=st;exact wpAny_pyIter_enum h1 q
def Ja (K:W.Frag) (ta:TA):TI:=λσ H R=>ta σ H λvs H1=>∃a,vs=[.ref a]/\(∃xs,gi K H1 a xs)/\R (Ite K a) H1
theorem Jb:bootBuiltins "enumerate"=some (.type "enumerate"):=by decide +kernel
theorem o8 {a:Expr}{ta:TA}{p pos tpos:Pos}{L:List Expr}{k:Nat}(hg:Gl X "enumerate")(hm:X.mg "enumerate"=none)(ha:PA X [a] ta)(hs:starEach [a] X.env=[(false,eval a X.env)]:=by rfl):
 PI X (.Tuple L k tpos) (.Call (.Name "enumerate" p) [a] [] pos) (Ja X.K ta):=by
 intro pins s σ H R I h;refine Call_ (lz I hg hm Jb (PyProof.Rows.callWith_type1 (gG (ha pos pins s σ H _ I h) λus s1 zq=>?_) hs rfl));obtain⟨vs,H1,U,r1,Y⟩:=zq;obtain⟨l,e,⟨xs,hq⟩,q⟩:=Y;subst e;obtain⟨u,rfl,ru⟩:=vals1 r1
 cases ru;obtain⟨aa,rv,pl,hz⟩:=U.list hq;refine call_enumerate_list pl.isList λh' Y q2 q3 q4=>?_;refine wpAny_pyIter_enum Y ?_;have I2:Inv X pins σ H1 { s1 with heap:=h' }:=U.kept (t':=s1.toks) q4;refine⟨s1.heap.objs.size+1,[s1.heap.objs.size+1,s1.heap.objs.size],_,_,H1,rfl,I2,I_ (Q0r (Q13 _)),⟨.none,Y,q2⟩,λb J=>?_,q⟩
 have J:s1.heap.objs.size<=b:=by
  have J:b=s1.heap.objs.size+1\/b=s1.heap.objs.size:=by simpa using J
  rcases J with z|z
  . rw[z];exact Q11 _
  . rw[z];exact Q00 _
 exact U.n6 J (U.hok.fresh J)
theorem boot_zip:bootBuiltins "zip"=some (.type "zip"):=by decide +kernel
theorem Jc:i8 X (binaryOp .Mult) (λx y H Q=>∃z i,x=.str z/\y=.int i/\MulOk z i/\Q (.str (Txt.mul z i)) H):=by
 intro pins s σ H x y v u Q I J L h;obtain⟨z,i,rfl,rfl,ok,q⟩:=h;obtain⟨t,rfl⟩:=J;obtain⟨t',rfl⟩:=L;exact SB.mul ok λU k=>⟨.str (Txt.mul z i),H,I.tok k,⟨_,rfl⟩,q⟩
theorem Cv {v:Value}{o:Option Int}(h:IsPart v o):(v=.none/\o=none)\/∃i t,v=.int i t/\o=some i:=by
 cases h with
 |none=>exact .inl ⟨rfl,rfl⟩
 |int i t=>exact .inr ⟨i,t,rfl,rfl⟩
theorem Cw:uR X (λx lo hi H Q=>∃z,x=.str z/\z.length<=sizeLine/\Q (.str (Txt.slice z lo hi)) H):=by
 intro pins s σ H x v vl vu lo hi sl Q I rx hs pl pu h;obtain⟨z,rfl,hz,q⟩:=h;obtain⟨t,rfl⟩:=rx
 have fin:∀{lo hi:Option Int} (q:Q (.str (Txt.slice z lo hi)) H),(Txt.slice z lo hi).length<=sizeLine/\∀t' k,EP X pins σ Q (.str (Txt.slice z lo hi) t') { s with toks:=k }:=
  λq=>⟨Q0g (Txt.slice_le z _ _) hz,λt' k=>⟨.str _,H,I.tok k,⟨t',rfl⟩,q⟩⟩
 refine⟨"str",_,F.slot_str_getitem.lookup,typeIs_str _ _ _,?_⟩;obtain⟨o,J,hc,L⟩:=hs;rcases Cv pl with⟨U,rfl⟩|⟨i,Y,U,rfl⟩ <;> rcases Cv pu with⟨e2,rfl⟩|⟨j,tj,e2,rfl⟩ <;> subst U <;> subst e2
 . exact wpAny_getItem_str_slice (l:=none) (u:=none) (st:=none) ⟨o,J,hc,L⟩ rfl (post_val_or_str (fin q))
 . exact wpAny_getItem_str_slice (l:=none) (u:=some (j,tj)) (st:=none) ⟨o,J,hc,L⟩ rfl (post_val_or_str (fin q))
 . exact wpAny_getItem_str_slice (l:=some (i,Y)) (u:=none) (st:=none) ⟨o,J,hc,L⟩ rfl (post_val_or_str (fin q))
 . exact wpAny_getItem_str_slice (l:=some (i,Y)) (u:=some (j,tj)) (st:=none) ⟨o,J,hc,L⟩ rfl (post_val_or_str (fin q))
end
theorem yes {σ:St}{H:Hp}{Q:Bool->Hp->Prop}(h:Q true H):lD σ H Q:=h
section
variable {K:W.Frag}{σ:St}{H:Hp}{Q:VK}{D:Ends}
theorem lE {i:Nat}{a b:Str}{T U:TS}(h:σ[i]? =some (some (.str a)))(J:decide (V.str a=V.str b)=true)(q:T D σ H):nY (mJ (iD og (ik i) (tC (.str b)))) T U D σ H:=
 ⟨_,h,rfl,_,rfl,by rw[J];exact i5 q⟩
theorem iC {i:Nat}{a b:Str}{T U:TS}(h:σ[i]? =some (some (.str a)))(J:decide (V.str a=V.str b)=false)(q:U D σ H):nY (mJ (iD og (ik i) (tC (.str b)))) T U D σ H:=
 ⟨_,h,rfl,_,rfl,by rw[J];exact gY q⟩
theorem j_ {i:Nat}{p:Addr}{xs:List V}{a b:Str}{T U:TS}(h:σ[i]? =some (some (.ref p)))(h2:H p=some (.tup xs))(J:xs[0]? =some (.str a))(L:decide (V.str a=V.str b)=true)(q:T D σ H):
 nY (mJ (iD og (iD (kx K) (ik i) (tC (.int 0))) (tC (.str b)))) T U D σ H:=
 ⟨_,h,p,xs,0,.str a,rfl,rfl,e_.of h2,iZ (j:=0) J,rfl,_,rfl,by rw[L];exact i5 q⟩
theorem hX {i:Nat}{p:Addr}{xs:List V}{a b:Str}{T U:TS}(h:σ[i]? =some (some (.ref p)))(h2:H p=some (.tup xs))(J:xs[0]? =some (.str a))(L:decide (V.str a=V.str b)=false)(q:U D σ H):
 nY (mJ (iD og (iD (kx K) (ik i) (tC (.int 0))) (tC (.str b)))) T U D σ H:=
 ⟨_,h,p,xs,0,.str a,rfl,rfl,e_.of h2,iZ (j:=0) J,rfl,_,rfl,by rw[L];exact gY q⟩
end
end L2
namespace L2
noncomputable def u7 (own N:List Str) (scope sc:Scope):Bool:=
 scope.names.all (λy=>decide (y.2≠ .cell)) && scope.names.all (λy=>decide (y.2=.local->scope.names.lookup y.1=some .local)) &&
 scope.names.all (λy=>decide (y.2=.free->sc.names.lookup y.1=some .cell\/sc.names.lookup y.1=some .free)) && decide (own++N).Nodup && N.all λx=>decide (scope.names.lookup x≠some .local)
theorem ke.of {X:Cx}{own N:List Str}{scope sc:Scope}(J:X.env.scope=sc)(L:X.N=N)(k:scope.kind=.function)(c:u7 own N scope sc=true):ke X own scope:=by
 unfold u7 at c;simp only[Bool.and_eq_true,Q1a,decide_eq_true_eq] at c;obtain⟨⟨⟨⟨U,Y⟩,c3⟩,c4⟩,c5⟩:=c;exact⟨k,U,Y,λy hy hf=>by rw[show X.env.kindOf y.1=X.env.scope.names.lookup y.1 from rfl,J];exact c3 y hy hf,by rw[L];exact c4,by rw[L];exact c5⟩
end L2
namespace mR
open W PyProof.Rows
noncomputable def gZ {α:Type}(f:Nat->Nat->Bool):KasT α->α
 | .ret a=>a
 | .ask i j k=>gZ f (k (f i j))
theorem o9 {α J:Type}(f:Nat->Nat->Bool)(g:α->KasT J):∀t:KasT α,gZ f (t.bind g)=gZ f (g (gZ f t))
 | .ret _=>rfl
 | .ask i j k=>o9 f g (k (f i j))
def Bn {α:Type}(n:Nat) (R:α->Prop):KasT α->Prop
 | .ret a=>R a
 | .ask i j k=>i<n/\j<n/\∀b,Bn n R (k b)
theorem Bn.bind {α J:Type}{n:Nat}{R:α->Prop}{S:J->Prop}{g:α->KasT J}:∀{t:KasT α},Bn n R t->(∀a,R a->Bn n S (g a))->Bn n S (t.bind g)
 | .ret a,h,k=>k a h
 | .ask i j q,h,k=>⟨h.1,h.2.1,λb=>Bn.bind (h.2.2 b) k⟩
theorem Cy {α:Type}{n:Nat}{R:α->Prop}{f:Nat->Nat->Bool}{J:Nat->Nat->(Bool->Shared->Prop)->Shared->Prop}{Q:α->Shared->Prop}{s:Shared}
 (h:∀i j (C:Bool->Shared->Prop),i<n->j<n->C (f i j) s->J i j C s):∀{t:KasT α},Bn n R t->Q (gZ f t) s->t.kasWp J Q s
 | .ret a,_,q=>q
 | .ask i j k,b,q=>h i j _ b.1 b.2.1 (Cy h (b.2.2 (f i j)) q)
def Lt (n:Nat) (p:Array Nat):Prop:=0<n/\∀x∈p,x<n
theorem Lt.at {n:Nat}{p:Array Nat}(h:Lt n p)(i:Nat):p.getD i 0<n:=by
 rw[Q1n]
 cases e:p[i]? with
 |none=>exact h.1
 |some x=>exact h.2 x (Array.mem_of_getElem? e)
theorem Lt.perm {n:Nat}{p q:Array Nat}(h:Lt n p)(hp:q.Perm p):Lt n q:=⟨h.1,λx J=>h.2 x (hp.mem_iff.mp J)⟩
theorem mS (p:Array Nat)(i j:Nat):(kas_rev p i j).Perm p:=mirror_perm _ _ _ _
theorem Jd (p:Array Nat)(i j:Nat):(kas_rev p i j).size=p.size:=mirror_size _ _ _ _
theorem u9 {n:Nat}{p:Array Nat}(h:Lt n p):∀f m,Bn n (λ_=>True) (kas_asc p f m)
 |0,_=>trivial
 |f+1,m=>⟨h.at _,h.at _,λb=>by
   cases b with
   |true=>exact trivial
   |false=>exact u9 h f (m+1)⟩
theorem rV {n:Nat}:∀f (p:Array Nat) m q,Lt n p->Bn n (λr:Array Nat × Nat × Nat=>Lt n r.1) (kas_desc f p m q)
 |0,_,_,_,h=>h
 |f+1,p,m,q,h=>⟨h.at _,h.at _,λb=>by
   cases b with
   |true=>
    show Bn n _ (if q > 0 then kas_desc f (kas_rev p (m - (q+1)) m) (m+1) 0 else kas_desc f p (m+1) 0);split
    . exact rV f _ _ _ (h.perm (mS _ _ _))
    . exact rV f _ _ _ h
   |false=>
    refine⟨h.at _,h.at _,λd=>?_⟩
    cases d with
    |true=>exact h
    |false=>exact rV f _ _ _ h⟩
theorem Cz {n m r:Nat}{p:Array Nat}(h:Lt n p):Bn n (λq:Nat × Array Nat=>Lt n q.2) (kas_tail3 m r p):=
 (u9 (h.perm (mS _ _ _)) _ _).bind λ_ _=>h.perm (mS _ _ _)
theorem CA {n m r:Nat}{p:Array Nat}(h:Lt n p):Bn n (λq:Nat × Array Nat=>Lt n q.2) (kas_descPart m r p):=by
 refine(rV _ _ _ _ h).bind λa J=>?_;split
 . exact Cz (J.perm (mS _ _ _))
 . exact Cz J
theorem Je {n r:Nat}{p:Array Nat}(h:Lt n p):Bn n (λq:Nat × Array Nat=>Lt n q.2) (kas_count r p):=by
 refine(u9 h _ _).bind λa _=>?_;split
 . exact h
 split
 . refine⟨h.at _,h.at _,λb=>?_⟩
   cases b with
   |true=>exact h
   |false=>exact CA (h.perm (mS _ _ _))
 . exact CA h
theorem u_ {n k:Nat}{p:Array Nat}(h:Lt n p):∀f l r,Bn n (λ_=>True) (kas_place p k f l r)
 |0,_,_=>trivial
 |f+1,l,r=>by
  unfold kas_place;split
  . exact trivial
  . refine⟨h.at _,h.at _,λb=>?_⟩
    cases b with
    |true=>exact u_ h f _ _
    |false=>exact u_ h f _ _
theorem CC {n:Nat}:∀f (p:Array Nat) k,Lt n p->Bn n (λ_=>True) (kas_bin f p k)
 |0,_,_,_=>trivial
 |f+1,p,k,h=>(u_ h _ _ _).bind λl _=>CC f _ _ (h.perm (bubble_perm _ _ _))
theorem Jf {n:Nat}(J:0<n):Bn n (λ_=>True) (kas_sort n):=by
 have h:Lt n (List.toArray (List.range n)):=⟨J,λx L=>by simpa using L⟩;refine(Je h).bind λr U=>?_;split
 . exact CC _ _ _ U
 . exact trivial
section
variable {O:KeyOrd}(key:Nat->O.α)
noncomputable def g9:Nat->Nat->Bool:=λi j=>O.blt (key i) (key j)
noncomputable def Kp (p:Array Nat) (i:Nat):O.α:=key (p.getD i 0)
def kf (p:Array Nat) (k:Nat):Prop:=∀i j,i<=j->j<k->O.kle (Kp key p i) (Kp key p j)
def kQ (p:Array Nat) (k:Nat):Prop:=∀i j,i<=j->j<k->O.kle (Kp key p j) (Kp key p i)
variable {key}
theorem kf.succ {p:Array Nat}{n:Nat}(h:kf key p n)(h1:1<=n)(e:O.kle (Kp key p (n - 1)) (Kp key p n)):kf key p (n+1):=by
 intro i j J U;by_cases L:j<n
 . exact h i j J L
 . have:j=n:=by omega
   subst this;by_cases hi:i=j
   . subst hi;exact KeyOrd.kle_refl _
   . exact KeyOrd.kle_trans (h i (j - 1) (by omega) (by omega)) e
theorem kQ.succ {p:Array Nat}{n:Nat}(h:kQ key p n)(h1:1<=n)(e:O.kle (Kp key p n) (Kp key p (n - 1))):kQ key p (n+1):=by
 intro i j J U;by_cases L:j<n
 . exact h i j J L
 . have:j=n:=by omega
   subst this;by_cases hi:i=j
   . subst hi;exact KeyOrd.kle_refl _
   . exact KeyOrd.kle_trans e (h i (j - 1) (by omega) (by omega))
theorem qy {p q:Array Nat}{i j:Nat}(h:p[i]? =q[j]?):Kp key p i=Kp key q j:=by
 unfold Kp;rw[Q1n,Q1n,h]
theorem va {p:Array Nat}{i j:Nat}(J:j<=p.size)(k:Nat):Kp key (kas_rev p i j) k=if i<=k/\k<j then Kp key p (i+j - 1 - k) else Kp key p k:=by
 have e:=getElem?_mirror_all (i:=i) J k;by_cases h1:i<=k/\k<j
 . rw[if_pos h1] at e ⊢;exact qy e
 . rw[if_neg h1] at e ⊢;exact qy e
theorem vb {p:Array Nat}{i j:Nat}(L:j<=p.size)(J:∀k,i<=k->k<j->Kp key p k=Kp key p (j - 1))(k:Nat):Kp key (kas_rev p i j) k=Kp key p k:=by
 rw[va L];split
 . rw[J _ (by omega) (by omega),J k (by omega) (by omega)]
 . rfl
theorem Jg {p:Array Nat}{src d:Nat}(J:src<p.size)(L:d<=src)(k:Nat):
 Kp key (bubble p src d) k=if k=src - d then Kp key p src else if src - d<k/\k<=src then Kp key p (k - 1) else Kp key p k:=by
 have e:=getElem?_bubble J d L k;by_cases h1:k=src - d
 . rw[if_pos h1] at e ⊢;exact qy e
 . rw[if_neg h1] at e ⊢;by_cases h2:src - d<k/\k<=src
   . rw[if_pos h2] at e ⊢;exact qy e
   . rw[if_neg h2] at e ⊢;exact qy e
theorem kQ.congr {p q:Array Nat}{n:Nat}(h:kQ key p n)(e:∀k,Kp key q k=Kp key p k):kQ key q n:=λi j a b=>by
 rw[e,e];exact h i j a b
theorem vc {p:Array Nat}:∀f n,1<=n->kf key p n->n<=gZ (g9 key) (kas_asc p f n)/\gZ (g9 key) (kas_asc p f n)<=n+f/\kf key p (gZ (g9 key) (kas_asc p f n))/\
 (gZ (g9 key) (kas_asc p f n)<n+f->O.klt (Kp key p (gZ (g9 key) (kas_asc p f n))) (Kp key p (gZ (g9 key) (kas_asc p f n) - 1)))
 |0,n,_,h=>⟨Q00 _,Q00 _,h,λz=>absurd z (Q0o _)⟩
 |f+1,n,h1,h=>by
  have e:gZ (g9 key) (kas_asc p (f+1) n)=gZ (g9 key) (if O.blt (Kp key p n) (Kp key p (n - 1))=true then .ret n else kas_asc p f (n+1)):=rfl;rw[e]
  cases c:O.blt (Kp key p n) (Kp key p (n - 1)) with
  |true=>
   rw[if_pos rfl];exact⟨Q00 _,Q1o _ _,h,λ_=>c⟩
  |false=>
   rw[if_neg (by simp)];obtain⟨U,Y,J,L⟩:=vc f (n+1) (by omega) (h.succ h1 c);exact⟨by omega,by omega,J,λz=>L (by omega)⟩
structure DI (O:KeyOrd) (key:Nat->O.α) (p₀:Array Nat) (p:Array Nat) (n q:Nat):Prop where
 perm:p.Perm p₀
 non:kQ key p n
 one:q+1<=n
 size:n<=p.size
 eq:∀k,n - (q+1)<=k->k<n->Kp key p k=Kp key p (n - 1)
theorem rW {J:Array Nat}:∀f (p:Array Nat) n q,DI O key J p n q->n+f<=J.size->
 ∃L n' U,gZ (g9 key) (kas_desc f p n q)=(L,n',U)/\DI O key J L n' U/\n'<=n+f
 |0,p,n,q,d,_=>⟨p,n,q,rfl,d,Q00 _⟩
 |f+1,p,n,q,d,hs=>by
  have hsz:p.size=J.size:=d.perm.size_eq
  have e:gZ (g9 key) (kas_desc (f+1) p n q)=gZ (g9 key) (if O.blt (Kp key p n) (Kp key p (n - 1))=true then(if q > 0 then kas_desc f (kas_rev p (n - (q+1)) n) (n+1) 0 else kas_desc f p (n+1) 0)
   else .ask (p.getD (n - 1) 0) (p.getD n 0) λd=>if d=true then .ret (p,n,q) else kas_desc f p (n+1) (q+1)):=rfl
  rw[e];have one:=d.one
  cases c:O.blt (Kp key p n) (Kp key p (n - 1)) with
  |true=>
   rw[if_pos rfl];have cl:O.kle (Kp key p n) (Kp key p (n - 1)):=KeyOrd.kle_of_klt c;by_cases hq:q > 0
   . rw[if_pos hq];have ek:∀k,Kp key (kas_rev p (n - (q+1)) n) k=Kp key p k:=vb d.size d.eq
     have d':DI O key J (kas_rev p (n - (q+1)) n) (n+1) 0:=⟨(mS _ _ _).trans d.perm,(d.non.succ (by omega) cl).congr ek,by omega,by rw[Jd];omega,λk h1 h2=>by
      have:k=n:=by omega
      subst this;rfl⟩
     obtain⟨L,n',U,Y,r2,r3⟩:=rW f _ _ _ d' (by omega);exact⟨L,n',U,Y,r2,by omega⟩
   . rw[if_neg hq]
     have d':DI O key J p (n+1) 0:=⟨d.perm,d.non.succ (by omega) cl,by omega,by omega,λk h1 h2=>by
      have:k=n:=by omega
      subst this;rfl⟩
     obtain⟨L,n',U,Y,r2,r3⟩:=rW f _ _ _ d' (by omega);exact⟨L,n',U,Y,r2,by omega⟩
  |false=>
   rw[if_neg (by simp)];have e2:gZ (g9 key) (.ask (p.getD (n - 1) 0) (p.getD n 0) λd=>if d=true then .ret (p,n,q) else kas_desc f p (n+1) (q+1))=gZ (g9 key) (if O.blt (Kp key p (n - 1)) (Kp key p n)=true then .ret (p,n,q) else kas_desc f p (n+1) (q+1)):=rfl;rw[e2]
   cases c2:O.blt (Kp key p (n - 1)) (Kp key p n) with
   |true=>
    rw[if_pos rfl];exact⟨p,n,q,rfl,d,by omega⟩
   |false=>
    rw[if_neg (by simp)];have ee:Kp key p n=Kp key p (n - 1):=O.total _ _ c c2
    have d':DI O key J p (n+1) (q+1):=⟨d.perm,d.non.succ (by omega) (by rw[ee];exact KeyOrd.kle_refl _),by omega,by omega,λk h1 h2=>by
     show Kp key p k=Kp key p n;by_cases hk:k=n
     . rw[hk]
     . rw[ee];exact d.eq k (by omega) (by omega)⟩
    obtain⟨L,n',U,Y,r2,r3⟩:=rW f _ _ _ d' (by omega);exact⟨L,n',U,Y,r2,by omega⟩
def qz (O:KeyOrd) (key:Nat->O.α) (J:Array Nat) (nrem:Nat) (r:Nat × Array Nat):Prop:=r.2.Perm J/\1<=r.1/\r.1<=nrem/\kf key r.2 r.1
theorem CD {J p:Array Nat}{n nrem:Nat}(hp:p.Perm J)(h1:1<=n)(hn:n<=nrem)(hs:nrem<=J.size)(h:kQ key p n):qz O key J nrem (gZ (g9 key) (kas_tail3 n nrem p)):=by
 have hsz:p.size=J.size:=hp.size_eq;unfold kas_tail3;rw[o9]
 have L:kf key (kas_rev p 0 n) n:=λi j Y hj=>by
  rw[va (by omega),va (by omega),if_pos (by omega),if_pos (by omega)];exact h _ _ (by omega) (by omega)
 obtain⟨a1,a2,U,_⟩:=vc (key:=key) (p:=kas_rev p 0 n) (nrem - n) n h1 L;exact⟨(mS _ _ _).trans hp,by show 1<=gZ _ _;omega,by show gZ _ _<=nrem;omega,U⟩
theorem CF {J p:Array Nat}{n nrem:Nat}(hp:p.Perm J)(h1:1<=n)(hn:n+1<=nrem)(hs:nrem<=J.size)(h:kQ key p (n+1)):qz O key J nrem (gZ (g9 key) (kas_descPart n nrem p)):=by
 have hsz:p.size=J.size:=hp.size_eq;unfold kas_descPart;rw[o9]
 have d:DI O key J p (n+1) 0:=⟨hp,h,by omega,by omega,λk h1 h2=>by
  have:k=n:=by omega
  subst this;rfl⟩
 obtain⟨U,n',Y,r1,L,r3⟩:=rW (key:=key) (nrem - (n+1)) p (n+1) 0 d (by omega);rw[r1];have o:=L.one;have sz:=L.size;have aa:U.size=J.size:=L.perm.size_eq;by_cases hq:Y > 0
 . show qz O key J nrem (gZ (g9 key) (if Y > 0 then kas_tail3 n' nrem (kas_rev U (n' - (Y+1)) n') else kas_tail3 n' nrem U));rw[if_pos hq];exact CD ((mS _ _ _).trans L.perm) (by omega) (by omega) hs (L.non.congr (vb L.size L.eq))
 . show qz O key J nrem (gZ (g9 key) (if Y > 0 then kas_tail3 n' nrem (kas_rev U (n' - (Y+1)) n') else kas_tail3 n' nrem U));rw[if_neg hq];exact CD L.perm (by omega) (by omega) hs L.non
theorem Jh {p:Array Nat}{nrem:Nat}(h1:1<=nrem)(hs:nrem<=p.size):qz O key p nrem (gZ (g9 key) (kas_count nrem p)):=by
 unfold kas_count;rw[o9]
 obtain⟨J,a2,U,a4⟩:=vc (key:=key) (p:=p) (nrem - 1) 1 (Q00 _) (λi j L hj=>by
  have Y:i=0:=by omega
  have e2:j=0:=by omega
  subst Y;subst e2;exact KeyOrd.kle_refl _)
 generalize gZ (g9 key) (kas_asc p (nrem - 1) 1)=n at *;by_cases hn:n=nrem
 . rw[if_pos (by simpa using hn)];exact⟨Array.Perm.refl _,J,by show n<=nrem;omega,U⟩
 . rw[if_neg (by simpa using hn)];have cl:O.klt (Kp key p n) (Kp key p (n - 1)):=a4 (by omega);by_cases hg:n > 1
   . rw[if_pos hg]
     have e:gZ (g9 key) (.ask (p.getD 0 0) (p.getD (n - 1) 0) λc=>if c=true then .ret (n,p) else kas_descPart n nrem (kas_rev p 0 n))=
      gZ (g9 key) (if O.blt (Kp key p 0) (Kp key p (n - 1))=true then .ret (n,p) else kas_descPart n nrem (kas_rev p 0 n)):=rfl
     rw[e]
     cases c:O.blt (Kp key p 0) (Kp key p (n - 1)) with
     |true=>
      rw[if_pos rfl];exact⟨Array.Perm.refl _,J,by show n<=nrem;omega,U⟩
     |false=>
      rw[if_neg (by simp)]
      have all:∀k,0<=k->k<n->Kp key p k=Kp key p (n - 1):=λk _ hk=>by
       have c':O.kle (Kp key p (n - 1)) (Kp key p 0):=c;exact KeyOrd.kle_antisymm (U k (n - 1) (by omega) (by omega)) (KeyOrd.kle_trans c' (U 0 k (by omega) hk))
      have ek:∀k,Kp key (kas_rev p 0 n) k=Kp key p k:=vb (by omega) all;refine CF (mS _ _ _) J (by omega) hs (kQ.congr (kQ.succ (n:=n) (λi j L hj=>?_) J (KeyOrd.kle_of_klt cl)) ek);rw[all i (by omega) (by omega),all j (by omega) (by omega)];exact KeyOrd.kle_refl _
   . rw[if_neg hg];have:n=1:=by omega
     subst this;refine CF (Array.Perm.refl _) J (by omega) hs (kQ.succ (n:=1) (λi j L hj=>?_) J (KeyOrd.kle_of_klt cl));have Y:i=0:=by omega
     have e2:j=0:=by omega
     subst Y;subst e2;exact KeyOrd.kle_refl _
theorem vd {p:Array Nat}{k:Nat}(h:kf key p k):∀f l r,l<=r->r<=k->r - l<=f->(∀i,i<l->O.kle (Kp key p i) (Kp key p k))->(∀i,r<=i->i<k->O.klt (Kp key p k) (Kp key p i))->
 ∃m,gZ (g9 key) (kas_place p k f l r)=m/\m<=k/\(∀i,i<m->O.kle (Kp key p i) (Kp key p k))/\(∀i,m<=i->i<k->O.klt (Kp key p k) (Kp key p i))
 |0,l,r,h1,h2,Y,J,L=>⟨l,rfl,by omega,J,λi a b=>L i (by omega) b⟩
 |f+1,l,r,h1,h2,Y,J,L=>by
  by_cases U:l ≥ r
  . refine⟨l,?_,by omega,J,λi a b=>L i (by omega) b⟩;unfold kas_place;rw[if_pos U];rfl
  . have e:gZ (g9 key) (kas_place p k (f+1) l r)=gZ (g9 key) (if O.blt (Kp key p k) (Kp key p ((l+r) / 2))=true then kas_place p k f l ((l+r) / 2) else kas_place p k f ((l+r) / 2+1) r):=by
     show gZ (g9 key) (if l ≥ r then .ret l else _)=_;rw[if_neg U];rfl
    rw[e]
    cases c:O.blt (Kp key p k) (Kp key p ((l+r) / 2)) with
    |true=>
     rw[if_pos rfl];exact vd h f _ _ (by omega) (by omega) (by omega) J λi a b=>KeyOrd.klt_of_klt_of_kle (show O.klt _ _ from c) (h _ _ a b)
    |false=>
     rw[if_neg (by simp)];exact vd h f _ _ (by omega) h2 (by omega) (λi a=>KeyOrd.kle_trans (h i ((l+r) / 2) (by omega) (by omega)) (show O.kle _ _ from c)) L
theorem CG:∀f (p:Array Nat) k,kf key p k->k+f<=p.size->(gZ (g9 key) (kas_bin f p k)).Perm p/\kf key (gZ (g9 key) (kas_bin f p k)) (k+f)
 |0,p,k,h,_=>⟨Array.Perm.refl _,h⟩
 |f+1,p,k,h,hs=>by
  have e:gZ (g9 key) (kas_bin (f+1) p k)=gZ (g9 key) (kas_bin f (bubble p k (k - gZ (g9 key) (kas_place p k k 0 k))) (k+1)):=by
   show gZ (g9 key) ((kas_place p k k 0 k).bind λl=>kas_bin f (bubble p k (k - l)) (k+1))=_;rw[o9]
  rw[e];obtain⟨m,em,m1,m2,m3⟩:=vd h k 0 k (Q0d _) (Q00 _) (Q00 _) (λi z=>absurd z (Q2y _)) (λi a b=>absurd a (by omega));rw[em];have L:=λi=>Jg (key:=key) (p:=p) (src:=k) (d:=k - m) (by omega) (by omega) i;have hm:k - (k - m)=m:=by omega
  rw[hm] at L
  have hS:kf key (bubble p k (k - m)) (k+1):=by
   intro i j U hj;rw[L i,L j];by_cases Y:i=m
   . rw[if_pos Y];by_cases J:j=m
     . rw[if_pos J];exact KeyOrd.kle_refl _
     . rw[if_neg J,if_pos (by omega)];exact KeyOrd.kle_of_klt (m3 _ (by omega) (by omega))
   . rw[if_neg Y];by_cases li:m<i/\i<=k
     . rw[if_pos li,if_neg (by omega),if_pos (by omega)];exact h _ _ (by omega) (by omega)
     . rw[if_neg li];by_cases J:j=m
       . rw[if_pos J];exact m2 i (by omega)
       . rw[if_neg J];by_cases lj:m<j/\j<=k
         . rw[if_pos lj];exact h _ _ (by omega) (by omega)
         . rw[if_neg lj];exact h _ _ U (by omega)
  obtain⟨b1,b2⟩:=CG f (bubble p k (k - m)) (k+1) hS (by rw[bubble_size];omega);exact⟨b1.trans (bubble_perm _ _ _),by rw[show k+(f+1)=k+1+f by omega];exact b2⟩
theorem Ji {n:Nat}(hn:1<=n):(gZ (g9 key) (kas_sort n)).toList.Perm (List.range n)/\((gZ (g9 key) (kas_sort n)).toList.map key).Pairwise O.kle:=by
 have hz:(List.toArray (List.range n)).size=n:=by simp
 obtain⟨J,c2,c3,c4⟩:=Jh (key:=key) (p:=List.toArray (List.range n)) (nrem:=n) hn (by omega)
 have main:(gZ (g9 key) (kas_sort n)).Perm (List.toArray (List.range n))/\kf key (gZ (g9 key) (kas_sort n)) n:=by
  unfold kas_sort;rw[o9];generalize gZ (g9 key) (kas_count n (List.toArray (List.range n)))=r at *;obtain⟨m,p⟩:=r;have hsz:p.size=n:=by rw[J.size_eq,hz]
  by_cases hm:m<n
  . show(gZ (g9 key) (if m<n then kas_bin (n - max m 1) p (max m 1) else .ret p)).Perm _/\kf key (gZ (g9 key) (if m<n then kas_bin (n - max m 1) p (max m 1) else .ret p)) n;rw[if_pos hm];have c2:1<=m:=c2;have em:max m 1=m:=by omega
    rw[em];obtain⟨b1,b2⟩:=CG (key:=key) (n - m) p m c4 (by omega);exact⟨b1.trans J,by rw[show n=m+(n - m) by omega];rw[show m+(n - m) - m=n - m by omega];exact b2⟩
  . show(gZ (g9 key) (if m<n then kas_bin (n - max m 1) p (max m 1) else .ret p)).Perm _/\kf key (gZ (g9 key) (if m<n then kas_bin (n - max m 1) p (max m 1) else .ret p)) n;rw[if_neg hm];have c3:m<=n:=c3;have:m=n:=by omega
    subst this;exact⟨J,c4⟩
 refine⟨Array.perm_iff_toList_perm.mp main.1,?_⟩;have hsz:(gZ (g9 key) (kas_sort n)).size=n:=by rw[main.1.size_eq,hz]
 rw[Q1z,List.pairwise_iff_getElem];intro i j hi hj L;have U:i<(gZ (g9 key) (kas_sort n)).size:=by simpa using hi
 have Y:j<(gZ (g9 key) (kas_sort n)).size:=by simpa using hj
 have q:=main.2 i j (Q0q L) (by omega);unfold Kp at q;rw[Q1n,Q1n,Q2z U,Q2z Y] at q;simpa using q
end
end mR
namespace L2
open Spec PyProof.Rows
def o_ (c':Addr) (qual:Str):Heap->Prop:=λh=>h.CodeRec (.ref c') qual
def mT (P:Addr) (pos:Pos) (qual:Str) (c':Addr) (H:Hp):Prop:=H P=some (.iQ #[rawInt pos.line,rawInt pos.col,.ref c'])/\H c'=some (.ext (o_ c' qual))
def gJ (P:Addr) (pos:Pos) (qual:Str) (H:Hp):Prop:=H P=some (.iQ #[])\/∃c',mT P pos qual c' H
theorem mT.mono {P:Addr}{pos:Pos}{qual:Str}{c':Addr}{H H':Hp}(h:mT P pos qual c' H)(k:∀b o,(b=P\/b=c')->H b=some o->H' b=some o):mT P pos qual c' H':=⟨k _ _ (.inl rfl) h.1,k _ _ (.inr rfl) h.2⟩
def BM (mg:Str->Option Value) (base:Heap):Prop:=
 ∃J o,mg "__builtins__"=some (.ref J)/\J≠builtinsNs/\J≠mainGlobals/\base.get? J=some o/\o.cls=.type "module"/\o.dict=some builtinsNs/\o.data=.plain
def Jj (P:Addr) (pos:Pos) (qual:Str) (ps:Array Value) (H:Hp):Prop:=H P=some (.iQ ps)/\TriplesOk ps.toList/\(codeAmong pos ps.toList=none\/∃c',codeAmong pos ps.toList=some (.ref c')/\H c'=some (.ext (o_ c' qual)))
def Jk (P:Addr) (pos:Pos) (qual:Str) (ps:Array Value) (c':Addr) (H:Hp):Prop:=((codeAmong pos ps.toList=none/\H P=some (.iQ (ps++#[rawInt pos.line,rawInt pos.col,.ref c'])))\/(codeAmong pos ps.toList=some (.ref c')/\H P=some (.iQ ps)))/\H c'=some (.ext (o_ c' qual))
section
variable {X:Cx}{pins:List (Addr × Obj)}{σ:St}{H:Hp}{s:Shared}
theorem Inv.CH (I:Inv X pins σ H s){P b:Addr}{o:HO}{u:Obj}(e:H P=some o)(J:X.base.get? b=some u):b≠P:=λz=>by
 have:=(I.bs b u J).2;rw[z,e] at this;cases this
theorem Inv.CI (I:Inv X pins σ H s)(B:BM X.mg X.base){P:Addr}{o:HO}(e:H P=some o):s.heap.BuiltinsAt X.mg P:=by
 obtain⟨J,L,Y,b2,b3,U,b5⟩:=B;exact⟨J,L,Y,b2,b3,I.CH e U,(I.bs J L U).1,b5⟩
theorem Inv.adopt {b:Addr}{o:HO}{h':Heap}{t':Nat}(I:Inv X pins σ H s)(f:jB X pins H b)(k:∀c u,c≠b->s.heap.get? c=some u->h'.get? c=some u)(new:iO X.prog X.w (upd H b o) h' b o):
 Inv X pins σ (upd H b o) { s with heap:=h',toks:=t' }:=by
 obtain⟨Y,U,f2,f3,f4,f5⟩:=f;have J:∀c u,H c=some u->c≠b:=λc u e=>gB e Y
 refine I.step (g':=s.gens) (d':=s.drawn) (ch:=[b]) (λc hc=>?_) (λc u _ _ hc e _=>k c u (λz=>hc (by simp[z])) e) (λc u _ _ hc e _=>⟨u.slots,k c u (λz=>hc (by simp[z])) e⟩) (λc u hc e n=>?_)
  (λc u hc e=>⟨u,k c u (λz=>hc (by simp[z])) e⟩) (λc xs e=>?_) (λc L u e=>?_) (λc ps e=>⟨#[],?_⟩) (λm hm=>?_) (λc u e=>?_) I.bare
 . have e:c=b:=by simpa using hc
   subst e;exact⟨f3,U,f4,f5⟩
 . rw[gj (λz=>hc (by simp[z]))];exact n
 . rw[gj (J _ _ e)];exact e
 . rw[gj (J _ _ e)];exact e
 . rw[gj (J _ _ e),e];simp
 . obtain⟨L,es,ep,ho,r⟩:=hm;exact⟨L,es,ep,k _ L (Ne.symm U) ho,r⟩
 . by_cases hc:c=b
   . subst hc;rw[gu] at e;cases e;exact new
   . rw[gj hc] at e;refine(I.hok c u e).stay (λd v hd q=>k d v ?_ q) (λd q=>by rw[gj (J _ _ q)];exact q) λd xs q=>by rw[gj (J _ _ q)];exact q
     rcases hd with z|z
     . rw[z];exact hc
     . exact J _ _ z
theorem Inv.own {b:Addr}{h':Heap}{t':Nat}(I:Inv X pins σ H s)(f:jB X pins H b)(J:Heap.SameBut b s.heap h'):Inv X pins σ H { s with heap:=h',toks:=t' }:=
 I.turned (t':=t') (λc u hc e=>(J.2 c hc).trans e) f.1 f.2.1 f.2.2.2.1 f.2.2.2.2.1 f.2.2.2.2.2
theorem CJ {mU:Array Value}{name qual:Str}{L:Arguments}{body:Expr}{scope:Scope}{pos:Pos}{U:Nat}{cl:List (Str × Addr)}{c P:Addr}{Q:Value->Shared->Prop}{E:Value->Shared->Prop}(I:Inv X pins σ H s)(aa:X.env.code=.ref c)(C:W.CodeHd X.base c P)
 (B:BM X.mg X.base) (T:Jj P pos qual mU H) (ac:closureFor scope X.env=pure cl)
 (h:∀(f c':Addr) (pm Y:Value) (H':Hp) (s':Shared),Inv X (pins++[(f,W.kla_obj name qual L body scope cl pm c' Y)]) σ H' s'->Jk P pos qual mU c' H'->(∀b o,b≠P->H b=some o->H' b=some o)->Q (.ref f) s'):
 wpAny (model X.prog X.w) X.A (makeFunction name qual L (.expr body) scope X.env [] [] [] pos U) Q E s:=by
 have hg:s.heap.Ns mainGlobals X.mg:=I.mod.glob.keeps I.bk;have C':=C.keeps I.bk
 have ae:∀{H':Hp} {s':Shared} {f:Addr} {o:Obj},Inv X pins σ H' s'->s'.heap.get? f=some o->H' f=none->s.heap.objs.size<=f->(∀v,o.data≠ .cell v)->Inv X (pins++[(f,o)]) σ H' s':=λ{H' s' f o} J e n hz d=>
  J.nX λp hp=>(List.mem_append.mp hp).elim (λz=>J.pin p (Q0b _ z)) λz=>by
    have:p=(f,o):=by simpa using z
    subst this;exact⟨e,n,Q0r (Q0e I.lt hz),I.oP hz,d⟩
 obtain⟨e,af,ag|⟨c',e1,e2⟩⟩:=T
 . have hP:s.heap.get? P=some (W.tabObj mU):=I.hok P _ e;have ah:P<s.heap.objs.size:=Q03 hP
   have am:mainGlobals≠P:=by
    obtain⟨o,es,ep,eo,_⟩:=I.mod.glob;exact I.CH e eo
   refine W.kla_makeFunction (mg:=X.mg) ac I.ok.glob hg aa C' hP af ag am (I.CI B e) λc' Y h' tk hx ab ai al aj=>?_;have ak:c'≠P:=Q0r (Q0e ah ab);have an:H c'=none:=I.hok.fresh ab
   have nP:∀b u,H b=some u->u≠ .iQ mU->b≠P:=λb u q d z=>by
    rw[z,e] at q;exact d (Option.some.inj q).symm
   have nC:∀b u,H b=some u->b≠c':=λb u q=>gB q an;have kk:∀(ob:Obj) b u,b≠P->s.heap.get? b=some u->(h'.push ob).get? b=some u:=λob b u hb q=>Q07 _ (hx b u hb q)
   have I1:Inv X pins σ (upd (upd H P (.iQ (mU++#[rawInt pos.line,rawInt pos.col,.ref c']))) c' (.ext (o_ c' qual))) { s with heap:=h'.push (W.kla_obj name qual L body scope cl ((X.mg "__name__").getD .none) c' Y),toks:=tk }:=by
    refine I.step (g':=s.gens) (d':=s.drawn) (ch:=[]) (λ_ z=>nomatch z) (λb o _ _ _ q n=>kk _ b o (λz=>by rw[z,e] at n;cases n) q) (λb o _ _ _ q n=>⟨o.slots,kk _ b o (λz=>by rw[z,e] at n;cases n) q⟩)
     (λb o _ q n=>?_) (λb o _ q=>?_) (λb xs q=>?_) (λb o u q=>?_) (λb ps q=>?_) (λm hm=>?_) (λb o q=>?_) I.bare
    . have b1:b≠P:=λz=>by rw[z,e] at n;cases n
      have b2:b≠c':=Q0a (Q0e (Q03 q) ab);rw[gj b2,gj b1];exact n
    . by_cases hb:b=P
      . subst hb;exact⟨_,Q07 _ aj⟩
      . exact⟨o,kk _ b o hb q⟩
    . rw[gj (nC _ _ q),gj (nP _ _ q (by intro z;cases z))];exact q
    . rw[gj (nC _ _ q),gj (nP _ _ q (by intro z;cases z))];exact q
    . by_cases hb:b=P
      . subst hb;rw[e] at q;cases q;exact⟨_,by rw[gj (Ne.symm ak),gu]⟩
      . exact⟨#[],by rw[gj (nC _ _ q),gj hb,q];simp⟩
    . obtain⟨o,es,ep,ho,r⟩:=hm;exact⟨o,es,ep,kk _ _ o (λz=>by have:=I.free;rw[z,e] at this;cases this) ho,r⟩
    . by_cases hb:b=c'
      . subst hb;rw[gu] at q;cases q;obtain⟨aq,oc,vs,t,z1,z2,z3,z4⟩:=al
        cases z1;refine⟨⟨_,oc,vs,t,rfl,Q07 _ z2,z3,z4⟩,⟨oc,Q07 _ z2⟩,λh1 h2 y hy=>?_⟩;obtain⟨ar,ao,ap,t',y1,y2,y3,y4⟩:=y
        cases y1;exact⟨_,ao,ap,t',rfl,hy _ y2,y3,y4⟩
      . rw[gj hb] at q;by_cases hp:b=P
        . subst hp;rw[gu] at q;cases q;show(h'.push _).get? b=some { cls:=.none,data:=.fields _ };exact Q07 _ aj
        . rw[gj hp] at q;refine(I.hok b o q).stay (λd v hd y=>kk _ d v ?_ y) (λd y=>by rw[gj (nC _ _ y),gj (nP _ _ y (by intro z;cases z))];exact y) λd xs y=>by rw[gj (nC _ _ y),gj (nP _ _ y (by intro z;cases z))];exact y
          rcases hd with z|z
          . rw[z];exact hp
          . exact nP _ _ z (by intro z;cases z)
   have fz:s.heap.objs.size<=h'.objs.size:=Q0q (Q1d ab ai)
   have fn:upd (upd H P (.iQ (mU++#[rawInt pos.line,rawInt pos.col,.ref c']))) c' (.ext (o_ c' qual)) h'.objs.size=none:=by
    rw[gj (Q0r ai),gj (Q0r (Q0e ah fz))];exact I.hok.fresh fz
   refine h h'.objs.size c' ((X.mg "__name__").getD .none) Y _ _ (ae I1 (Q0i _ rfl) fn fz (by intro v z;cases z)) ⟨.inl ⟨ag,by rw[gj (Ne.symm ak),gu]⟩,gu⟩ λb o hb q=>?_;rw[gj (nC _ _ q),gj hb];exact q
 . have hP:s.heap.get? P=some (W.tabObj mU):=I.hok P _ e;refine W.kla_makeFunctionHit (mg:=X.mg) (cv:=.ref c') ac I.ok.glob hg aa C' hP af e1 (I.CI B e) λY h' tk hk hsz=>?_;exact h h'.objs.size c' ((X.mg "__name__").getD .none) Y H _ (ae (I.kept λb u q=>Q07 _ (hk b u q)) (Q0i _ rfl) (I.hok.fresh hsz) hsz (by intro v z;cases z)) ⟨.inr ⟨e1,e⟩,e2⟩ λb o _ q=>q
theorem CK {name qual:Str}{aa:Arguments}{body:Expr}{scope:Scope}{pos:Pos}{Y:Nat}{cl:List (Str × Addr)}{c P:Addr}{Q:Value->Shared->Prop}{E:Value->Shared->Prop}(I:Inv X pins σ H s)(ac:X.env.code=.ref c)(C:W.CodeHd X.base c P)
 (B:BM X.mg X.base) (T:gJ P pos qual H) (ae:closureFor scope X.env=pure cl)
 (h:∀(f c':Addr) (pm ab:Value) (H':Hp) (s':Shared),Inv X (pins++[(f,W.kla_obj name qual aa body scope cl pm c' ab)]) σ H' s'->mT P pos qual c' H'->(∀b o,b≠P->H b=some o->H' b=some o)->Q (.ref f) s'):
 wpAny (model X.prog X.w) X.A (makeFunction name qual aa (.expr body) scope X.env [] [] [] pos Y) Q E s:=by
 rcases T with e|⟨U,e,ec⟩
 . refine CJ (mU:=#[]) I ac C B ⟨e,by simp[TriplesOk],.inl rfl⟩ ae λf c' pm ab H' s' J L m=>h f c' pm ab H' s' J ?_ m;obtain⟨z|z,y⟩:=L
   . exact⟨z.2,y⟩
   . cases z.1
 . refine CJ (mU:=#[rawInt pos.line,rawInt pos.col,.ref U]) I ac C B ⟨e,by simp[TriplesOk,rawInt],.inr ⟨U,by simp[codeAmong,rawInt],ec⟩⟩ ae λf c' pm ab H' s' J L m=>h f c' pm ab H' s' J ?_ m;have hc:codeAmong pos [rawInt pos.line,rawInt pos.col,.ref U]=some (.ref U):=by simp[codeAmong,rawInt]
   obtain⟨z|z,y⟩:=L
   . exact absurd (hc.symm.trans z.1) (by intro z;cases z)
   . have:U=c':=by
      have:=hc.symm.trans z.1
      cases this;rfl
     subst this;exact⟨z.2,y⟩
structure ny (X:Cx) (x:Str) (N':List Str) (scope:Scope):Prop where
 kind:scope.kind=.function
 co:scope.isCoroutine=false
 gen:scope.isGenerator=false
 cell:∀y∈scope.names,y.2≠ .cell
 loc:scope.names.lookup x=some .local
 free:∀y∈scope.names,y.2=.free->X.env.kindOf y.1=some .cell\/X.env.kindOf y.1=some .free
 len:N'.length=X.N.length
 outer:∀(i:Nat) (y:Str),N'[i]? =some y->scope.names.lookup y=none\/(X.N[i]? =some y/\scope.names.lookup y≠some .local)
noncomputable def ou (scope:Scope):List Str->List Str->Bool
 |[],[]=>true
 |y::r,z::q=>(decide (scope.names.lookup y=none) || (decide (z=y) && decide (scope.names.lookup y≠some .local))) && ou scope r q
 |_,_=>false
theorem CL {scope:Scope}:∀{N' N:List Str},ou scope N' N=true->N'.length=N.length
 |[],[],_=>rfl
 |y::r,z::q,h=>by
  simp only[ou,Bool.and_eq_true] at h;rw[Q0h,Q0h,CL h.2]
theorem CM {scope:Scope}:∀{N' N:List Str},ou scope N' N=true->∀(i:Nat) (y:Str),N'[i]? =some y->scope.names.lookup y=none\/(N[i]? =some y/\scope.names.lookup y≠some .local)
 |[],[],_,i,y,e=>by simp at e
 |w::r,z::q,h,0,y,e=>by
  simp only[ou,Bool.and_eq_true,Bool.or_eq_true,decide_eq_true_eq] at h;have e:some w=some y:=e
  cases e;rcases h.1 with h1|⟨h1,h2⟩
  . exact .inl h1
  . subst h1;exact .inr ⟨rfl,h2⟩
 |w::r,z::q,h,i+1,y,e=>by
  simp only[ou,Bool.and_eq_true] at h;have:=CM h.2 i y (by simpa using e);simpa using this
noncomputable def CN (x:Str) (N' N:List Str) (scope sc:Scope):Bool:=
 scope.names.all (λy=>decide (y.2≠ .cell)) && decide (scope.names.lookup x=some .local) && scope.names.all (λy=>decide (y.2=.free->sc.names.lookup y.1=some .cell\/sc.names.lookup y.1=some .free)) && ou scope N' N
theorem ny.of {x:Str}{N' N:List Str}{scope sc:Scope}(J:X.env.scope=sc)(L:X.N=N)(k:scope.kind=.function)(Y:scope.isCoroutine=false)(c2:scope.isGenerator=false)(c:CN x N' N scope sc=true):ny X x N' scope:=by
 unfold CN at c;simp only[Bool.and_eq_true,Q1a,decide_eq_true_eq] at c;obtain⟨⟨⟨a1,a2⟩,a3⟩,U⟩:=c;exact⟨k,Y,c2,a1,a2,λy hy hf=>by rw[show X.env.kindOf y.1=X.env.scope.names.lookup y.1 from rfl,J];exact a3 y hy hf,by rw[L];exact CL U,by rw[L];exact CM U⟩
noncomputable abbrev rX (qual:Str) (scope:Scope) (cl:List (Str × Addr)) (f c':Addr) (s:Shared):Env:=W.envX qual scope s.heap.objs.size f (.ref c') cl
noncomputable def qA (X:Cx) (x:Str) (N':List Str) (scope:Scope) (cl:List (Str × Addr)) (qual:Str) (f c':Addr) (s:Shared) (H:Hp):Cx:=
 { X with A:=X.A.in1.in1.deeper (rX qual scope cl f c' s),N:=x::N',s₀:=s,H₀:=H,env:=rX qual scope cl f c' s,outer:=X.stack,stack:=rX qual scope cl f c' s::X.stack,ex:=[],fn:=λ_=>false,pn:=[],calm:=true,xe:=λ_ _=>False }
theorem Inv.lam {x:Str}{N':List Str}{scope:Scope}{cl:List (Str × Addr)}{qual:Str}{f c':Addr}{v:V}{u:Value}{h₁:Heap}{t':Nat}(I:Inv X pins σ H s)(S:ny X x N' scope)(hd:X.A.handled=none)
 (J:∀y c,cl.lookup y=some c->X.env.cells.lookup y=some c) (ab:∀y,(y,NameKind.free)∈scope.names->cl.lookup y=X.env.cells.lookup y) (r:RelV v u)
 (hn:h₁.Ns s.heap.objs.size (λy=>([(x,u)]:List (Str × Value)).reverse.lookup y)) (aa:∀b o,s.heap.get? b=some o->h₁.get? b=some o):
 Inv (qA X x N' scope cl qual f c' s H) [] (some v::σ) H { s with heap:=h₁,toks:=t' }:=by
 have ok:=I.ok
 have L:∀y,(scope.names.lookup y=some .cell\/scope.names.lookup y=some .free)->(y,NameKind.free)∈scope.names:=λy Y=>by
  rcases Y with Y|Y
  . exact absurd rfl (S.cell _ (PySem.mem_of_lookup Y))
  . exact PySem.mem_of_lookup Y
 refine⟨⟨ok.mod,S.kind,rfl,rfl,Q00 _,λy z c U e2=>ok.inj y z c (J y c U) (J z c e2),λy Y=>?_,λy c Y _=>(nomatch Y),λ_=>hd,Around.frames_deeper (show X.A.in1.in1.frames=some X.stack from ok.frames),.inr ⟨rfl,rfl⟩,λb hb=>absurd (show b∈([]:List Addr) from hb) (by simp),I.bs,Q0g ok.lx I.sz,
  λb o _ hb=>absurd (show b∈([]:List Addr) from hb) (by simp),λb hb=>absurd (show b∈([]:List Addr) from hb) (by simp),I.stack,I.rm⟩,
  rfl,I.bare,Un.kept aa,⟨_,hn,λi y v' U e2 e3=>?_⟩,λy c e=>?_,I.hok.fresh (Q00 _),λy c e=>I.j3 y c (J y c e),λp hp=>absurd (show p∈([]:List (Addr × Obj)) from hp) (by simp),I.hok.kept aa,?_⟩
 . have hm:=L y Y;obtain⟨c,e⟩:=ok.has y (S.free _ hm rfl);exact⟨c,by rw[show(qA X x N' scope cl qual f c' s H).env.cells=cl from rfl,ab y hm];exact e⟩
 . cases i with
   |zero=>
    have U:some x=some y:=U
    cases U;have e2:some (some v)=some (some v'):=e2
    cases e2;exact⟨u,r,.inl ⟨S.loc,by simp⟩⟩
   |succ i=>
    have U:N'[i]? =some y:=by
     have U:(x::N')[i+1]? =some y:=U;simpa using U
    have e2:σ[i]? =some (some v'):=by simpa using e2
    have ho:X.N[i]? =some y/\scope.names.lookup y≠some .local:=by
     have e3:scope.names.lookup y=some .local\/scope.names.lookup y=some .cell\/scope.names.lookup y=some .free:=e3;rcases S.outer i y U with q|q
     . rw[q] at e3;rcases e3 with z|z|z <;> cases z
     . exact q
    have ae:scope.names.lookup y=some .cell\/scope.names.lookup y=some .free:=by
     rcases e3 with q|q
     . exact absurd q ho.2
     . exact q
    have hm:=L y ae;have af:=S.free _ hm rfl;obtain⟨mX,ah,ag⟩:=I.loc;obtain⟨u',r',lk⟩:=ag i y v' ho.1 e2 (.inr af);refine⟨u',r',.inr ⟨ae,?_⟩⟩;rcases lk with⟨q,_⟩|⟨_,c,ec,hc⟩
    . rcases af with z|z
      . rw[z] at q;cases q
      . rw[z] at q;cases q
    . obtain⟨o,ho,ac⟩:=hc;exact⟨c,(ab y hm).trans ec,o,aa _ _ ho,ac⟩
 . obtain⟨w',o,ho,ac⟩:=I.cell y c (J y c e);exact⟨w',o,aa _ _ ho,ac⟩
 . show _=(x::N').length;rw[Q0h,Q0h,I.len,S.len]
theorem CO {x:Str}{N':List Str}{name qual:Str}{L:Arguments}{body:Expr}{scope:Scope}{cl:List (Str × Addr)}{f c':Addr}{pm U:Value}{v:V}{u:Value}{te:TE}{Q:VK}{E:Value->Shared->Prop}(I:Inv X pins σ H s)(S:ny X x N' scope)(hd:X.A.handled=none)(aa:X.A.depth<recursionLimit)
 (ab:∀y c,cl.lookup y=some c->X.env.cells.lookup y=some c) (ac:∀y,(y,NameKind.free)∈scope.names->cl.lookup y=X.env.cells.lookup y) (hf:(f,W.kla_obj name qual L body scope cl pm c' U)∈pins) (hc:H c'=some (.ext (o_ c' qual)))
 (hb:∀u:Value,bindArgs (W.kla_fn name qual L body scope cl pm (.ref c') U) ⟨[u],[]⟩=pure [(x,u)]) (r:RelV v u) (he:∀(s:Shared) (H:Hp),PE (qA X x N' scope cl qual f c' s H) body te) (h:te (some v::σ) H Q):
 wpAny (model X.prog X.w) X.A.in1.in1 (call (.ref f) [u]) (EP X pins σ Q) E s:=by
 obtain⟨p1,p2,p3,p4,p5⟩:=I.pin _ (Q0b _ hf);refine wpAny_call (W.kla_callFunE aa p1 rfl S.co S.gen rfl (I.hok c' _ hc).1 ?_);rw[hb];refine Q0c (wpAny_newFunctionEnv S.cell (λy hy=>?_) (λh₁ ae af=>?_) S.kind)
 . have e:y=(x,u):=by simpa using hy
   subst e;exact S.loc
 have Y:∀b o,s.heap.get? b=some o->h₁.get? b=some o:=λb o e=>af.extBut b o (Q0a (Q03 e)) (Q07 _ e);refine⟨I.nolimit.keeps Y,?_⟩;show codeAny _ _ (.expr body (rX qual scope cl f c' s)) _ _;have J:=I.lam (t':=s.toks+([(x,u)]:List (Str × Value)).length) (qual:=qual) (f:=f) (c':=c') S hd ab ac r ae Y;refine W.kla_codeExpr (Q0n (he s H [] _ _ H Q J h) (λu' s' hq=>?_) λe s' hF=>hF.elim);obtain⟨v',H',J',rv,q⟩:=hq;exact I.after ⟨v',H',J'.os,J'.bare,J'.base,J'.hok,rv,q⟩
end
section
variable {X:Cx}{pins:List (Addr × Obj)}{σ:St}{H:Hp}{s:Shared}
def Asks (prog:Program) (w:World) (A:Around) (s:Shared) (us:List Value) {O:KeyOrd}(key:Nat->O.α):Prop:=
 2<=us.length->wpAny (model prog w) A (keyKind' us.toArray) (λκ s'=>s'=s/\∀(i j:Nat) (C:Bool->Shared->Prop),i<us.length->j<us.length->C (O.blt (key i) (key j)) s->W.kas_ask prog w A κ us i j C s) (λ_ _=>False) s
theorem CP {xs:List V}{vs:List Value}(r:Vals xs vs):∀p:List Nat,Vals (p.map λi=>xs.getD i .non) (p.map λi=>vs.getD i Value.none)
 |[]=>.nil
 |i::p=>by
  refine .cons ?_ (CP r p);show RelV (xs.getD i .non) (vs.getD i Value.none);rw[Q0f,Q0f]
  cases e:xs[i]? with
  |none=>
   rw[r.none_of e];exact rfl
  |some x=>
   obtain⟨u,J,L⟩:=r.get e;rw[J];exact L
theorem CQ {α:Type}(a0:α)(l:List α):((List.range l.length).map λi=>l.getD i a0)=l:=by
 apply Q2e
 . simp
 . intro i h1 h2;simp[h2]
theorem Jl {us vs:List Value}(hl:us.length=vs.length):((List.toArray us).zip (List.toArray vs)).map (·.2)=List.toArray vs:=by
 apply Array.toList_inj.mp;rw[Array.toList_map,ksk_zip];show List.map Prod.snd (us.zip vs)=vs;exact List.map_snd_zip (by omega)
theorem Jm {α:Type}{R:α->α->Prop}(key:Nat->α){n:Nat}(h:n<2):((List.range n).map key).Pairwise R:=by
 have:n=0\/n=1:=by omega
 rcases this with rfl|rfl
 . exact List.Pairwise.nil
 . exact Q2f _ _
noncomputable abbrev lo (xs:List Value) (n:Nat):Obj:=seqObj "list" (List.toArray xs) n
theorem CS {E:Value->Shared->Prop}{J D:Addr}{us:List Value}{e Y:Nat}{st:SortSt}{out:List Value}{outV:List V}{P:PySem.Fin->Shared->Prop}{A:Around}(I:Inv X (pins++[(J,lo us e),(D,lo [] Y)]) σ H s)(fK:jB X pins H J)(fD:jB X pins H D)(aa:J≠D)(ac:us.length<64)(ho:out.length<64)
 (U:(arrOf st).map (·.2)=List.toArray out) (hf:failedOf st=none) (rv:Vals outV out)
 (h:∀s',Inv X pins σ (upd H D (.lst outV)) s'->P (.done (.ret .none)) s'):wpAny (model X.prog X.w) A (ksk_tail D false Y (.ref J) st) P E s:=by
 have nk:=(I.pin (J,lo us e) (Q0b _ (Q0b _ (Q02)))).1;have nD:=(I.pin (D,lo [] Y) (Q0b _ (Q0b _ (Q06 _ Q02)))).1;have s1:=Heap.SameBut.update s.heap J (Obj.mapSeq λ_=>(#[]:Array Value));have L:(s.heap.update J (Obj.mapSeq λ_=>(#[]:Array Value))).get? D=some (lo [] Y):=(s1.2 D aa.symm).trans nD;have s2:=Heap.SameBut.update (s.heap.update J (Obj.mapSeq λ_=>(#[]:Array Value))) D (Obj.mapSeq λ_=>List.toArray out);obtain⟨c2,ab⟩:∃c2,((s.heap.update J (Obj.mapSeq λ_=>(#[]:Array Value))).update D (Obj.mapSeq λ_=>List.toArray out)).get? D=some (lo out c2):=⟨_,get?_update_seq L λ_=>List.toArray out⟩;have I1:Inv X pins σ H { s with heap:=s.heap.update J (Obj.mapSeq λ_=>(#[]:Array Value)) }:=I.mG.own (t':=s.toks) fK s1
 have I2:Inv X pins σ (upd H D (.lst outV)) { s with heap:=(s.heap.update J (Obj.mapSeq λ_=>(#[]:Array Value))).update D (Obj.mapSeq λ_=>List.toArray out) }:=
  I1.adopt (t':=s.toks) fD (λc u hc q=>(s2.2 c hc).trans q) ⟨by rw[rv.length];exact Q0q (iB (by omega)),out,c2,rv,ab⟩
 unfold ksk_tail
 try dsimp only
 rw[U];refine Q01 (listUpdate_at nk rfl ?_ (by rw[Q08,sizeLine_eq];omega) (Q0d _));refine Q01 (wpAny_letGo ?_);refine Q01 (seqEpoch_at L rfl ?_);refine Q01 (listUpdate_at L rfl ?_ (Q0d _) (by show(List.toArray out).size<=_;rw[Q08,sizeLine_eq];omega));rw[hf];simp only[bne_self_eq_false,Bool.false_eq_true,if_false];exact Q0c (h _ I2)
theorem Jn {E:Value->Shared->Prop}{kS D:Addr}{us vs:List Value}{xs:List V}{e e1:Nat}{P:PySem.Fin->Shared->Prop}{A:Around}{O:KeyOrd}{key:Nat->O.α}(I:Inv X (pins++[(kS,lo us e),(D,lo [] e1)]) σ H s)(fK:jB X pins H kS)(fD:jB X pins H D)(ab:kS≠D)
 (hl:us.length=vs.length) (Y:vs.length<64) (rv:Vals xs vs) (ask:Asks X.prog X.w A s us key)
 (h:∀(p:List Nat),p.Perm (List.range vs.length)->(p.map key).Pairwise O.kle->∀s',Inv X pins σ (upd H D (.lst (p.map λi=>xs.getD i .non))) s'->P (.done (.ret .none)) s'):
 wpAny (model X.prog X.w) A (ksk_end D false (List.toArray vs) e1 (.ref kS) (List.toArray us)) P E s:=by
 unfold ksk_end
 try dsimp only
 simp only[Bool.false_eq_true,if_false];by_cases h2:vs.toArray.size<2
 . rw[if_pos h2,if_pos h2];have aa:vs.length<2:=by simpa using h2
   refine Q01 (Q0c ?_);rw[StateT.run_pure];refine Q01 (Q0c ?_)
   try dsimp only
   have ac:xs.length=vs.length:=rv.length
   have ez:((List.range vs.length).map λi=>xs.getD i .non)=xs:=by
    rw[<-ac];exact CQ _ xs
   refine CS (out:=vs) (outV:=xs) (st:=SortSt.mk' general' ((List.toArray us).zip (List.toArray vs)) #[] 7 none) I fK fD ab (by omega) Y (Jl hl) rfl rv λs' J=>?_;have q:=h (List.range vs.length) (List.Perm.refl _) (Jm key aa) s';rw[ez] at q;exact q J
 . rw[if_neg h2,if_neg h2];have aa:2<=vs.length:=by simpa using h2
   refine Q01 (Q0n (ask (by omega)) (λκ s' hk=>?_) λ_ _ hF=>hF.elim);obtain⟨rfl,hk⟩:=hk;obtain⟨k1,k2⟩:=mR.Ji (key:=key) (n:=vs.length) (by omega)
   refine Q01 (Q0n (W.kat_run (κ:=κ) (ks:=us) (vs:=vs) (Q:=λU L=>L=s'/\arrOf U=(mR.gZ (mR.g9 key) (W.kas_sort vs.length)).map (W.kas_item ((List.toArray us).zip vs.toArray))/\failedOf U=none)
    (G:=λp L=>L=s'/\p=mR.gZ (mR.g9 key) (W.kas_sort vs.length)) hl aa Y (λp U L _ a2 a3 a4=>⟨a4.1,by rw[a2,a4.2],a3⟩)
    (mR.Cy (f:=mR.g9 key) (λi j C hi hj q=>hk i j C (by omega) (by omega) q) (mR.Jf (by omega)) ⟨rfl,rfl⟩)) ?_ λ_ _ x=>x)
   rintro⟨⟨⟩,U⟩ L ⟨rfl,ae,af⟩
   try dsimp only
   refine CS I fK fD ab (by omega) (by rw[Q04,k1.length_eq,Q2];exact Y) (W.kat_snds hl ae) af (CP rv _) λs' J=>h _ k1 k2 s' J
theorem Jo {prog:Program}{w:World}{A:Around}{E:Value->Shared->Prop}{s:Shared}{l:Addr}{vs:List Value}{Q:List Value->Shared->Prop}(hl:IsTup s.heap l vs.toArray)
 (h:Q vs { s with heap:=(s.heap.push (seqObj "list" #[] 0)).update s.heap.objs.size (Obj.mapSeq (· ++vs.toArray)) }) (hsz:vs.length<=sizeLine):
 wpAny (model prog w) A (collect (.ref l)) Q E s:=by
 obtain⟨o,L,hc,n,U⟩:=id hl;unfold collect;refine Q01 (wpAny_runValue (codeAny_builtin entry_proto_collect' ?_));refine Q01 (wpAny_newList (Q0c ⟨Code.quiet_builtin _ (by decide +kernel),codeAny_builtin entry_list_iadd' ?_⟩));change wpAny _ _ (Builtin.List.listExtendWith (.ref s.heap.objs.size) (.ref l) (.ref s.heap.objs.size)) _ _ { s with heap:=s.heap.push (seqObj "list" #[] 0) };unfold Builtin.List.listExtendWith;have J:(s.heap.push (seqObj "list" #[] 0)).get? l=some o:=Q07 _ L;refine Q01 (wpAny_typeOf (T:="tuple") ⟨o,J,hc⟩ ?_);have ht:(Value.type "tuple" == Value.type "tuple")=true:=by rfl
 rw[if_pos (by rw[ht];simp)];refine Q01 (listItems_at J U ?_);refine Q01 (listItems_at (xs:=#[]) (n:=0) (Q0i _ rfl) rfl ?_);rw[if_neg (by simp)];refine Q01 (listUpdate_at (xs:=#[]) (n:=0) (Q0i _ rfl) rfl ?_ (Q0d _) (by show(#[]++vs.toArray).size<=sizeLine+1;simp only[Q3,Q08,Q2b];omega));refine Q0c ?_;refine Q01 (wpAny_load (get?_update_seq (Q0i _ rfl) _) ?_);change wpAny _ _ (pure ((#[]:Array Value)++vs.toArray).toList) Q E _;rw[show((#[]:Array Value)++vs.toArray).toList=vs by simp];exact Q0c h
theorem Jp {E:Value->Shared->Prop}{f a:Addr}{xs:List V}{Q:VK}{W:List V->Hp->Prop}(I:Inv X pins σ H s)(hq:gi X.K H a xs\/e_ X.K H a xs)(au:xs.length<64)(w0:W [] H)
 (turn:∀(pl:List (Addr × Obj)) (s':Shared) (H':Hp) (ks:List V) (y:V) (u:Value),Inv X (pins++pl) σ H' s'->W ks H'->xs[ks.length]? =some y->RelV y u->
   wpAny (model X.prog X.w) X.A.in1.in1 (call (.ref f) [u]) (EP X (pins++pl) σ λk ab=>W (ks++[k]) ab) (λ_ _=>False) s')
 (fin:∀(pl:List (Addr × Obj)) (s':Shared) (H':Hp) (ks:List V) (us:List Value),Inv X (pins++pl) σ H' s'->W ks H'->ks.length=xs.length->Vals ks us->∃(O:KeyOrd) (key:Nat->O.α),Asks X.prog X.w X.A.in1.in1 s' us key/\
   ∀p:List Nat,p.Perm (List.range xs.length)->(p.map key).Pairwise O.kle->∀D,H' D=none->Q (.ref D) (upd H' D (.lst (p.map λi=>xs.getD i .non)))):
 wpAny (model X.prog X.w) X.A (call (.builtin "sorted") [.ref a] [(Str.ofString "key",.ref f)]) (EP X pins σ Q) E s:=by
 obtain⟨vs,rv,am⟩:∃vs,Vals xs vs/\∀{A:Around} {E:Value->Shared->Prop} {Q:List Value->Shared->Prop},Q vs { s with heap:=(s.heap.push (seqObj "list" #[] 0)).update s.heap.objs.size (Obj.mapSeq (· ++vs.toArray)) }->vs.length<=sizeLine->wpAny (model X.prog X.w) A (collect (.ref a)) Q E s:=by
  rcases hq with hq|hq
  . obtain⟨vs,rv,pl,hz⟩:=I.list hq;exact⟨vs,rv,λh1 h2=>collect_list pl.isList h1 h2⟩
  . obtain⟨vs,rv,pl,hz⟩:=I.tuple hq;exact⟨vs,rv,λh1 h2=>Jo pl h1 h2⟩
 have hl:xs.length=vs.length:=rv.length;refine call_function_entry_kw kind_sorted plain_sorted entry_sorted (ksk_s1 _ _) ?_;unfold Builtin.«sorted»;refine Q01 (m:=checkCount "sorted" 1 1 _) (Q0c ?_);refine Q01 (am ?_ (by rw[sizeLine_eq];omega));refine Q01 (wpAny_newList ?_ (by rw[sizeLine_eq];omega))
 have hsz:((s.heap.push (seqObj "list" #[] 0)).update s.heap.objs.size (Obj.mapSeq (· ++vs.toArray))).objs.size=s.heap.objs.size+1:=by
  rw[Q2g,size_push']
 have Y:(((s.heap.push (seqObj "list" #[] 0)).update s.heap.objs.size (Obj.mapSeq (· ++vs.toArray))).push (seqObj "list" vs.toArray 0)).get? (s.heap.objs.size+1)=some (seqObj "list" vs.toArray 0):=by
  rw[<-hsz];exact Q0i _ rfl
 have keep:∀b o,s.heap.get? b=some o->(((s.heap.push (seqObj "list" #[] 0)).update s.heap.objs.size (Obj.mapSeq (· ++vs.toArray))).push (seqObj "list" vs.toArray 0)).get? b=some o:=λb o q=>by
  have ae:b<s.heap.objs.size:=Q03 q;rw[Q30 _ _ _ (by rw[hsz];exact Q0a (Q2h ae)),Heap.get?_update_ne _ _ _ _ (Q0a ae),Q30 _ _ _ (Q0a ae)];exact q
 show wpAny _ _ _ _ _ { s with heap:=((s.heap.push (seqObj "list" #[] 0)).update s.heap.objs.size (Obj.mapSeq (· ++vs.toArray))).push (seqObj "list" vs.toArray 0) };rw[hsz];generalize hG:((s.heap.push (seqObj "list" #[] 0)).update s.heap.objs.size (Obj.mapSeq (· ++vs.toArray))).push (seqObj "list" vs.toArray 0)=G at Y keep ⊢;have an:G.objs.size=s.heap.objs.size+2:=by rw[<-hG,size_push',hsz]
 have I1:Inv X pins σ H { s with heap:=G }:=I.kept (t':=s.toks) keep;refine Q01 (wpAny_holding (wpAny_call_entry_kw slot_list_sort ⟨_,Y,rfl⟩ entry_list_sort ?body (ksk_l1 _ _)))
 case body=>
  show wpAny (model X.prog X.w) X.A.in1.in1 (Builtin.«list.sort» ⟨[.ref (s.heap.objs.size+1)],[(Str.ofString "key",.ref f)]⟩) _ _ _;rw[ksk_t1];unfold ksk_tree;generalize hD:s.heap.objs.size+1=D at Y ⊢;have ag:s.heap.objs.size<=D:=by omega
  have s1:=Heap.SameBut.update G D (Obj.mapSeq λ_=>(#[]:Array Value));obtain⟨e1,ah⟩:∃e1,(G.update D (Obj.mapSeq λ_=>(#[]:Array Value))).get? D=some (lo [] e1):=⟨_,get?_update_seq Y λ_=>#[]⟩;refine Q01 (listItems_at Y rfl ?_);refine Q01 (listUpdate_at Y rfl ?_ (by rw[Q08,sizeLine_eq];omega) (Q0d _));refine Q01 (seqEpoch_at ah rfl ?_);refine Q01 (wpAny_newTuple ?_ (by show vs.length<=_;rw[sizeLine_eq];omega));refine Q01 (wpAny_newList ?_ (Q0d _));refine wpAny_holding ?_;show wpAny (model X.prog X.w) X.A.in1.in1 _ _ _ { s with heap:=((G.update D (Obj.mapSeq λ_=>(#[]:Array Value))).push (seqObj "tuple" vs.toArray 0)).push (seqObj "list" #[] 0) };generalize ai:((G.update D (Obj.mapSeq λ_=>(#[]:Array Value))).push (seqObj "tuple" vs.toArray 0)).objs.size=U;have ar:U=s.heap.objs.size+3:=by rw[<-ai,size_push',Q2g,an]
  have aj:U≠D:=by omega
  have L:jB X pins H D:=I.n6 ag (I.hok.fresh ag);have ac:jB X pins H U:=I.n6 (by omega) (I.hok.fresh (by omega))
  have af:∀b o,b≠D->G.get? b=some o->(((G.update D (Obj.mapSeq λ_=>(#[]:Array Value))).push (seqObj "tuple" vs.toArray 0)).push (seqObj "list" #[] 0)).get? b=some o:=λb o hb q=>
   Q07 _ (Q07 _ ((s1.2 b hb).trans q))
  have I2:Inv X pins σ H { s with heap:=((G.update D (Obj.mapSeq λ_=>(#[]:Array Value))).push (seqObj "tuple" vs.toArray 0)).push (seqObj "list" #[] 0) }:=
   Inv.turned (s:={ s with heap:=G }) (t':=s.toks) (it:=D) I1 af L.1 L.2.1 L.2.2.2.1 L.2.2.2.2.1 L.2.2.2.2.2
  have hK:(((G.update D (Obj.mapSeq λ_=>(#[]:Array Value))).push (seqObj "tuple" vs.toArray 0)).push (seqObj "list" #[] 0)).get? U=some (lo [] 0):=by rw[<-ai];exact Q0i _ rfl
  have ak:(((G.update D (Obj.mapSeq λ_=>(#[]:Array Value))).push (seqObj "tuple" vs.toArray 0)).push (seqObj "list" #[] 0)).get? D=some (lo [] e1):=Q07 _ (Q07 _ ah);generalize ((G.update D (Obj.mapSeq λ_=>(#[]:Array Value))).push (seqObj "tuple" vs.toArray 0)).push (seqObj "list" #[] 0)=G2 at I2 hK ak ⊢
  have pinned:∀{H':Hp} {s':Shared} {us:List Value} {e:Nat},Inv X pins σ H' s'->s'.heap.get? U=some (lo us e)->s'.heap.get? D=some (lo [] e1)->H' U=none->H' D=none->Inv X (pins++[(U,lo us e),(D,lo [] e1)]) σ H' s':=λ{H' s' us e} J k1 k2 n1 n2=>
   J.nX λp hp=>(List.mem_append.mp hp).elim (λz=>J.pin p (Q0b _ z)) λz=>by
     have z:p=(U,lo us e)\/p=(D,lo [] e1):=by simpa using z
     rcases z with rfl|rfl
     . exact⟨k1,n1,ac.2.1,ac.2.2.1,by intro v z;cases z⟩
     . exact⟨k2,n2,L.2.1,L.2.2.1,by intro v z;cases z⟩
  have own:∀{H':Hp} {b:Addr},(b=U\/b=D)->H' b=none->jB X pins H' b:=λ{H' b} hb n=>by
   rcases hb with rfl|rfl
   . exact⟨n,ac.2⟩
   . exact⟨n,L.2⟩
  unfold ksk_rest;refine Q01 (wpAny_rule ?_)
  first
   |rw[List.forIn_toArray]
   |(rw[<-Q31];simp only[List.toList_toArray])
   |rw[<-Q31]
  refine Q01 (ksk_fold (λi s'=>∃ks us e H',Inv X (pins++[(U,lo us e),(D,lo [] e1)]) σ H' s'/\Vals ks us/\ks.length=i/\i<=vs.length/\W ks H') vs 0 _
   ⟨[],[],0,H,pinned I2 hK ak ac.1 L.1,.nil,rfl,Q0d _,w0⟩ (λj x s' hx hJ=>?_) λs' hJ=>?_)
  . obtain⟨ks,us,e,H',J,rk,hi,ao,wk⟩:=hJ;have hi:ks.length=j:=by omega
    have hj:j<vs.length:=(List.getElem?_eq_some_iff.mp hx).1;have al:j<xs.length:=by omega
    obtain⟨u,hu,ru⟩:=rv.get (Q05 al);rw[hx] at hu;cases hu;refine Q01 (wpAny_attempt (Q0n (turn _ s' H' ks (xs[j]) x J wk (by rw[hi];exact Q05 al) ru) (λk aa hk=>?_) λ_ _ hF=>hF.elim));obtain⟨kv,ab,J',ap,w'⟩:=hk;have pk:=J'.pin (U,lo us e) (Q0b _ (Q0b _ (Q02)));have pD:=J'.pin (D,lo [] e1) (Q0b _ (Q0b _ (Q06 _ Q02)));have av:us.length=ks.length:=rk.length.symm;have s2:=Heap.SameBut.update aa.heap U (Obj.mapSeq (·.push k));have ea:(List.toArray us).push k=List.toArray (us++[k]):=by simp
    obtain⟨c2,aq⟩:∃c2,(aa.heap.update U (Obj.mapSeq (·.push k))).get? U=some (lo (us++[k]) c2):=⟨_,by show _=some (seqObj "list" (List.toArray (us++[k])) _);rw[<-ea];exact get?_update_seq pk.1 (·.push k)⟩
    try dsimp only
    refine Q01 (listUpdate_at pk.1 rfl ?_ (by rw[Q08,sizeLine_eq];omega) (Q0g (Q10 (Array.size_push ..)) (by rw[Q08,sizeLine_eq];omega)));have J2:Inv X pins σ ab { aa with heap:=aa.heap.update U (Obj.mapSeq (·.push k)) }:=J'.mG.own (t':=aa.toks) (own (.inl rfl) pk.2.1) s2;refine Q0c ⟨rfl,ks++[kv],us++[k],c2,ab,pinned J2 aq ((s2.2 D aj.symm).trans pD.1) pk.2.1 pD.2.1,rk.append (.cons ap .nil),by rw[Q09,Q18];omega,by omega,w'⟩
  . obtain⟨ks,us,e,H',J,rk,hi,ao,wk⟩:=hJ;have hi:ks.length=vs.length:=by omega
    have pk:=J.pin (U,lo us e) (Q0b _ (Q0b _ (Q02)));have pD:=J.pin (D,lo [] e1) (Q0b _ (Q0b _ (Q06 _ Q02)))
    try dsimp only
    refine Q01 (listItems_at pk.1 rfl ?_);obtain⟨O,key,ask,q⟩:=fin _ s' H' ks us J wk (by omega) rk;refine Jn J (own (.inl rfl) pk.2.1) (own (.inr rfl) pD.2.1) aj (by rw[<-rk.length];exact hi) (by omega) rv ask λp p1 p2 aa J'=>?_;exact⟨_,rfl,Q0c ⟨_,rfl,.ref D,_,J',rfl,q p (by rw[hl];exact p1) p2 D pD.2.1⟩⟩
theorem CU {E:Value->Shared->Prop}{f a:Addr}{xs:List V}{Q:VK}{W:List V->Hp->Prop}(I:Inv X pins σ H s)(U:gi X.K H a xs)(J:xs.length<64)(w0:W [] H)
 (turn:∀(pl:List (Addr × Obj)) (s':Shared) (H':Hp) (ks:List V) (y:V) (u:Value),Inv X (pins++pl) σ H' s'->W ks H'->xs[ks.length]? =some y->RelV y u->
   wpAny (model X.prog X.w) X.A.in1.in1 (call (.ref f) [u]) (EP X (pins++pl) σ λk L=>W (ks++[k]) L) (λ_ _=>False) s')
 (fin:∀(pl:List (Addr × Obj)) (s':Shared) (H':Hp) (ks:List V) (us:List Value),Inv X (pins++pl) σ H' s'->W ks H'->ks.length=xs.length->Vals ks us->∃(O:KeyOrd) (key:Nat->O.α),Asks X.prog X.w X.A.in1.in1 s' us key/\
   ∀p:List Nat,p.Perm (List.range xs.length)->(p.map key).Pairwise O.kle->∀D,H' D=none->Q (.ref D) (upd H' D (.lst (p.map λi=>xs.getD i .non)))):
 wpAny (model X.prog X.w) X.A (call (.builtin "sorted") [.ref a] [(Str.ofString "key",.ref f)]) (EP X pins σ Q) E s:=Jp I (.inl U) J w0 turn fin
end
noncomputable def jO:Key->Key->Bool
 | .inl i,.inl j=>decide (i<j)
 | .inl _,.inr _=>true
 | .inr _,.inl _=>false
 | .inr x,.inr y=>decide (x.cps.toList<y.cps.toList)
theorem Jq (a:Key):jO a a=false:=by
 cases a with
 |inl i=>simp[jO]
 |inr x=>simpa[jO] using Q32 x.cps.toList
theorem Jr {a b c:Key}(h1:jO a b=true)(h2:jO b c=true):jO a c=true:=by
 cases a <;> cases b <;> cases c <;> simp only[jO,decide_eq_true_eq,Bool.false_eq_true] at * <;> first|omega|exact List.lt_trans h1 h2
theorem Js {x y:Str}(h:x.cps.toList=y.cps.toList):x=y:=by
 cases x;cases y;simp only[Str.mk.injEq];exact Array.toList_inj.mp h
theorem Jt (a b:Key):jO a b=true\/a=b\/jO b a=true:=by
 cases a with
 |inl i=>
  cases b with
  |inl j=>
   simp only[jO,decide_eq_true_eq];rcases Int.lt_trichotomy i j with h|h|h
   . exact .inl h
   . exact .inr (.inl (by rw[h]))
   . exact .inr (.inr h)
  |inr y=>exact .inl rfl
 |inr x=>
  cases b with
  |inl j=>exact .inr (.inr rfl)
  |inr y=>
   simp only[jO,decide_eq_true_eq];by_cases h1:x.cps.toList<y.cps.toList
   . exact .inl h1
   . by_cases h2:y.cps.toList<x.cps.toList
     . exact .inr (.inr h2)
     . exact .inr (.inl (by rw[Js (List.le_antisymm (List.not_lt.mp h2) (List.not_lt.mp h1))]))
theorem Ju {a b:Key}(h:jO a b=true):a≠b:=λe=>by
 rw[e,Jq] at h;cases h
noncomputable def iz:List Key->List Key->Bool
 |[],[]=>false
 |[],_::_=>true
 |_::_,[]=>false
 |x::xs,y::ys=>if x=y then iz xs ys else jO x y
theorem rY:∀a:List Key,iz a a=false
 |[]=>rfl
 |x::xs=>by
  show(if x=x then iz xs xs else jO x x)=false;rw[if_pos rfl];exact rY xs
theorem pd (x y:Key)(xs ys:List Key):iz (x::xs) (y::ys)=if x=y then iz xs ys else jO x y:=rfl
theorem pf:∀(a b c:List Key),iz a b=true->iz b c=true->iz a c=true
 |[],[],_,h,_=>by cases h
 |[],_::_,[],_,h=>by cases h
 |[],_::_,_::_,_,_=>rfl
 |_::_,[],_,h,_=>by cases h
 |_::_,_::_,[],_,h=>by cases h
 |x::xs,y::ys,z::zs,h1,h2=>by
  rw[pd] at *;by_cases L:x=y
  . subst L;rw[if_pos rfl] at h1;by_cases J:x=z
    . rw[if_pos J] at h2 ⊢;exact pf xs ys zs h1 h2
    . rw[if_neg J] at h2 ⊢;exact h2
  . rw[if_neg L] at h1;by_cases J:y=z
    . subst J;rw[if_neg L];exact h1
    . rw[if_neg J] at h2;have q:=Jr h1 h2;rw[if_neg (Ju q)];exact q
theorem qB:∀a b:List Key,iz a b=true\/a=b\/iz b a=true
 |[],[]=>.inr (.inl rfl)
 |[],_::_=>.inl rfl
 |_::_,[]=>.inr (.inr rfl)
 |x::xs,y::ys=>by
  rw[pd,pd];by_cases e:x=y
  . subst e;rw[if_pos rfl,if_pos rfl];rcases qB xs ys with h|h|h
    . exact .inl h
    . exact .inr (.inl (by rw[h]))
    . exact .inr (.inr h)
  . rw[if_neg e,if_neg (λz=>e z.symm)];rcases Jt x y with h|h|h
    . exact .inl h
    . exact absurd h e
    . exact .inr (.inr h)
@[reducible] noncomputable def ph:KeyOrd where
  α:=List Key
  blt:=iz
  irrefl:=rY
  trans:=pf
  negTrans a b c h:=by
   rcases qB a b with q|q|q
   . exact .inl q
   . exact .inr (by rw[<-q];exact h)
   . exact .inr (pf b a c q h)
  total a b h1 h2:=by
   rcases qB a b with q|q|q
   . rw[h1] at q;cases q
   . exact q
   . rw[h2] at q;cases q
def lG (a b:List Key):Prop:=iz b a=false
noncomputable def iE:Key->Bool
 | .inl _=>true
 | .inr _=>false
def CV (J:List (List Key)):Prop:=∃L:List Bool,L≠[]/\∀U∈J,U.map iE=L
def pj (H:Hp):List V->List (List Key)->Prop:=Paired λk J=>∃p,k=.ref p/\H p=some (.tup (J.map kV))
section
variable {X:Cx}{pins:List (Addr × Obj)}{σ:St}{H:Hp}{s:Shared}
theorem ow {k:Key}{u:Value}(r:RelV (kV k) u):(∃i t,k=.inl i/\u=.int i t)\/∃x t,k=.inr x/\u=.str x t:=by
 cases k with
 |inl i=>
  obtain⟨t,rfl⟩:=r;exact .inl ⟨i,t,rfl,rfl⟩
 |inr x=>
  obtain⟨t,rfl⟩:=r;exact .inr ⟨x,t,rfl,rfl⟩
theorem ve {prog:Program}{w:World}{A:Around}{C:Bool->Shared->Prop}:∀(U k2:List Key) (J L:List Value) (i:Nat),Vals (U.map kV) J->Vals (k2.map kV) L->U.map iE=k2.map iE->C (iz U k2) s->
 W.KatLex prog w A true false C (J.zip L) i s
 |[],[],J,L,i,Y,r2,_,q=>by
  cases Y;cases r2;exact W.kat_nil q
 |[],_::_,_,_,_,_,_,h,_=>by cases h
 |_::_,[],_,_,_,_,_,h,_=>by cases h
 |x::xs,y::ys,J,L,i,Y,r2,h,q=>by
  cases Y with
  |cons a1 b1=>
  cases r2 with
  |cons a2 b2=>
  have h1:iE x=iE y:=(List.cons.inj h).1;have h2:xs.map iE=ys.map iE:=(List.cons.inj h).2;rw[pd] at q;rcases ow a1 with⟨m,t,rfl,rfl⟩|⟨m,t,rfl,rfl⟩ <;> rcases ow a2 with⟨n,t',rfl,rfl⟩|⟨n,t',rfl,rfl⟩
  . refine W.kat_cons (wpAny_eqBool_int ?_);by_cases e:m=n
    . subst e;rw[if_pos rfl] at q;rw[beq_self_eq_true];exact W.kat_yes (ve xs ys _ _ (i+1) b1 b2 h2 q)
    . rw[if_neg (λz=>e (Sum.inl.inj z))] at q;rw[beq_false_of_ne e];refine W.kat_no ?_
      cases hi:(i == 0) with
      |true=>exact oneLt_int q
      |false=>exact W.kat_one _ _ (lt_int q)
  . cases h1
  . cases h1
  . refine W.kat_cons (wpAny_eqBool_str ?_);by_cases e:m=n
    . subst e;rw[if_pos rfl] at q;rw[decide_eq_true rfl];exact W.kat_yes (ve xs ys _ _ (i+1) b1 b2 h2 q)
    . rw[if_neg (λz=>e (Sum.inr.inj z))] at q;rw[decide_eq_false e];refine W.kat_no ?_
      cases hi:(i == 0) with
      |true=>exact oneLt_str q
      |false=>exact W.kat_one _ _ (lt_str q)
theorem CY {ks:List V}{us:List Value}{J:List (List Key)}(I:Inv X pins σ H s)(r:Vals ks us)(hk:pj H ks J){i:Nat}(hi:i<us.length):
 ∃p L,us.getD i Value.none=.ref p/\IsTup s.heap p (List.toArray L)/\Vals ((J.getD i []).map kV) L/\J.getD i []∈J:=by
 have hl:=r.length;have aa:ks.length=J.length:=Paired.length hk;have e1:ks[i]? =some (ks[i]'(by omega)):=Q05 (by omega);obtain⟨u,hu,U⟩:=r.get e1;have Y:J.getD i []=J[i]'(by omega):=by rw[Q0f,Q05 (by omega)];rfl
 have key:∀(ks:List V) (J:List (List Key)),pj H ks J->∀i (h1:i<ks.length) (h2:i<J.length),∃p,ks[i]=.ref p/\H p=some (.tup (J[i].map kV)):=by
  intro ks J hk
  induction hk with
  |nil=>intro i h1;simp at h1
  |cons a b ih=>
   intro i h1 h2
   cases i with
   |zero=>exact a
   |succ i=>simpa using ih i (by simpa using h1) (by simpa using h2)
 obtain⟨p,hp,hH⟩:=key ks J hk i (by omega) (by omega);rw[hp] at U
 cases U;obtain⟨L,rv,tp,_⟩:=I.tuple (e_.of hH);refine⟨p,L,by rw[Q0f,hu];rfl,tp,by rw[Y];exact rv,by rw[Y];exact Q1m _⟩
theorem CZ (I:Inv X pins σ H s){t:Bool}:∀{ks:List V}{us:List Value}{J:List (List Key)},Vals ks us->pj H ks J->(∀L∈J,∃k r,L=k::r/\iE k=t)->
 ∃fs,W.KatTups s.heap us fs/\fs.length=us.length/\∀v∈fs,(t=true/\∃i tk,v=.int i tk)\/(t=false/\∃x tk,v=.str x tk)
 |_,_,_,.nil,.nil,_=>⟨[],W.KatTups.nil,rfl,λv U=>nomatch U⟩
 |_,_,_,.cons a r,.cons b q,h=>by
  obtain⟨p,rfl,hp⟩:=b
  cases a;obtain⟨fs,Y,f2,f3⟩:=CZ I r q λL hm=>h L (Q06 _ hm);obtain⟨k,rr,rfl,hk⟩:=h _ Q02;obtain⟨aa,rv,⟨o,ho,hc,n,hd⟩,_⟩:=I.tuple (e_.of hp)
  cases rv with
  |cons a1 b1=>
   refine⟨_::fs,W.KatTups.cons ho hc hd (by simp;rfl) Y,by rw[Q0h,Q0h,f2],λv U=>?_⟩;rcases List.mem_cons.mp U with e|e
   . subst e;rcases ow a1 with⟨i,tk,rfl,rfl⟩|⟨x,tk,rfl,rfl⟩
     . exact .inl ⟨hk.symm,i,tk,rfl⟩
     . exact .inr ⟨hk.symm,x,tk,rfl⟩
   . exact f3 v e
theorem Jv {A:Around}{ks:List V}{us:List Value}{J:List (List Key)}(I:Inv X pins σ H s)(r:Vals ks us)(hk:pj H ks J)(aa:CV J):Asks X.prog X.w A s us (O:=ph) (λi=>J.getD i []):=by
 intro h2;obtain⟨ts,ab,L⟩:=aa
 obtain⟨t,tr,rfl⟩:∃t tr,ts=t::tr:=by
  cases ts with
  |nil=>exact absurd rfl ab
  |cons t tr=>exact⟨t,tr,rfl⟩
 have hh:∀kl∈J,∃k r,kl=k::r/\iE k=t:=λkl hm=>by
  have e:=L kl hm
  cases kl with
  |nil=>cases e
  |cons k r=>exact⟨k,r,rfl,(List.cons.inj e).1⟩
 obtain⟨fs,f1,f2,f3⟩:=CZ I r hk hh
 have fin:∀(i j:Nat) (C:Bool->Shared->Prop),i<us.length->j<us.length->C (iz (J.getD i []) (J.getD j [])) s->W.kas_ask X.prog X.w A (tuples' true) us i j C s:=by
  intro i j C hi hj q;unfold W.kas_ask;obtain⟨p,U,e1,⟨o,ho,hc,n,hd⟩,rv,m1⟩:=CY I r hk hi;obtain⟨p',its',ac,⟨o',ae,ag,n',af⟩,Y,m2⟩:=CY I r hk hj;rw[e1,ac];have ht:(J.getD i []).map iE=(J.getD j []).map iE:=(L _ m1).trans (L _ m2).symm
  have hl:U.length=its'.length:=by
   have:=congrArg List.length ht;rw[Q04,Q04] at this;rw[<-rv.length,<-Y.length,Q04,Q04,this]
  refine W.kat_lt ho hd ae af ?_;have ef:decide ((List.toArray U).size<(List.toArray its').size)=false:=by rw[Q08,Q08,hl];simp
  rw[ef];exact ve _ _ _ _ 0 rv Y ht q
 cases t with
 |true=>
  refine W.kat_kind (T:=.type "int") f1 (by omega) (λv hv=>?_) rfl ⟨rfl,fin⟩;rcases f3 v hv with⟨_,i,tk,rfl⟩|⟨z,_⟩
  . exact W.Looks.of_pure rfl
  . cases z
 |false=>
  refine W.kat_kind (T:=.type "str") f1 (by omega) (λv hv=>?_) rfl ⟨rfl,fin⟩;rcases f3 v hv with⟨z,_⟩|⟨_,x,tk,rfl⟩
  . cases z
  . exact W.Looks.of_pure rfl
end
def vf (K:PySem.W.Frag) (P:Addr) (U:Pos) (qual:Str) (te:TE) (σ:St) (Q:VK):VK:=λx H1=>∃a xs,x=.ref a/\gi K H1 a xs/\xs.length<64/\gJ P U qual H1/\
 ∀c' H2,mT P U qual c' H2->(∀b o,b≠P->H1 b=some o->H2 b=some o)->
 ∃W:List V->Hp->Prop,W [] H2/\(∀ks J,W ks J->mT P U qual c' J)/\(∀ks J y,W ks J->xs[ks.length]? =some y->te (some y::σ) J λk Y=>W (ks++[k]) Y)/\
 ∀ks J,W ks J->ks.length=xs.length->∃L,pj J ks L/\CV L/\∀p:List Nat,p.Perm (List.range xs.length)->(p.map λi=>L.getD i []).Pairwise lG->∀D,J D=none->Q (.ref D) (upd J D (.lst (p.map λi=>xs.getD i .non)))
def Jw (K:W.Frag) (P:Addr) (J:Pos) (qual:Str) (tl te:TE):TE:=λσ H Q=>tl σ H (vf K P J qual te σ Q)
section
variable {X:Cx}
theorem Jx {x:Str}{N':List Str}{l body:Expr}{L:Arguments}{scope:Scope}{lp kp p pos:Pos}{qual:Str}{c P:Addr}{tl te:TE}{k:Nat}(hg:Gl X "sorted")(hm:X.mg "sorted"=none)(hv:bootBuiltins "sorted"=some (.builtin "sorted"))(hr:iu k X.A)(hq:X.env.qual++"<lambda>"=qual)(Y:X.env.code=.ref c)(C:PySem.W.CodeHd X.base c P)
 (B:BM X.mg X.base) (S:ny X x N' scope) (ab:defaultsOf L X.env=([],[])) (hb:∀(cl:List (Str × Addr)) (pm:Value) (c':Addr) (U u:Value),bindArgs (PySem.W.kla_fn "<lambda>" qual L body scope cl pm (.ref c') U) ⟨[u],[]⟩=pure [(x,u)])
 (hl:PE X l tl) (he:∀(cl:List (Str × Addr)) (f c':Addr) (s:Shared) (H:Hp),PE (qA X x N' scope cl qual f c' s H) body te) (hs:starEach [l] X.env=[(false,eval l X.env)]:=by rfl):
 PE X (.Call (.Name "sorted" p) [l] [⟨some "key",.Lambda L body scope lp,kp⟩] pos) (Jw X.K P lp qual tl te):=by
 intro pins s σ H Q I h;refine wpAny_Call_Name_kw (lz I hg hm hv ?_);have ha:PA X [l] (ja tl kO):=a_ hl b_ (by rw[hs];rfl);refine callWith_kw (gG (ha pos pins s σ H (λvs H1=>match vs with|[x]=>vf X.K P lp qual te σ Q x H1|_=>False) I h) λus s1 zq=>?_) (by rw[hs];rfl) (by rw[hs];rfl);obtain⟨vs,H1,I1,r1,q1⟩:=zq
 obtain⟨x',rfl⟩:∃x',vs=[x']:=by
  match vs,q1 with
  |[x'],_=>exact⟨x',rfl⟩
 have q1:vf X.K P lp qual te σ Q x' H1:=q1;obtain⟨a,xs,rfl,ag,ah,T,cont⟩:=q1;obtain⟨u,rfl,ru⟩:=vals1 r1
 cases ru;show wpAny _ _ (evalAll [do let v <-eval (.Lambda L body scope lp) X.env;standAt pos;pure v]) _ _ s1;obtain⟨cl,aa,ac,ae⟩:=rR (scope:=scope) (env:=X.env) λy hy hf=>I1.ok.has y.1 (S.free y hy hf);refine wpAny_evalAll_cons (Q01 (PySem.W.kla_eval ab ?_));rw[hq];refine CK I1 Y C B T aa λf c' pm U H2 s2 I2 ai mono=>?_;refine Q01 (wpAny_standAt (Q0c (wpAny_evalAll_nil ?_)));show wpAny _ _ (call (.builtin "sorted") [.ref a] [(Str.ofString "key",.ref f)]) _ _ s2;obtain⟨W,w0,wL,wt,wf⟩:=cont c' H2 ai mono
 have aj:∃ps,H1 P=some (.iQ ps):=by
  rcases T with e|⟨al,e,_⟩
  . exact⟨_,e⟩
  . exact⟨_,e⟩
 have ak:gi X.K H2 a xs:=by
  obtain⟨ps,hP⟩:=aj;rcases ag with(z|⟨o,z⟩)|z
  . exact .inl (.inl (mono a _ (jK z hP (by intro z;cases z)) z))
  . exact .inl (.inr ⟨o,mono a _ (jK z hP (by intro z;cases z)) z⟩)
  . exact .inr z
 refine gG (CU (Q:=Q) (W:=W) I2 ak ah w0 (λpl s' H' ks y u J wk hy ry=>?_) λpl s' H' ks us J wk af rk=>?_) λr s' ⟨v,H',J,rv,q⟩=>⟨v,H',J.mG,rv,q⟩
 . exact CO J S hr.hd hr.depth ac ae (Q0u _ (Q0b _ Q02)) (wL ks H' wk).2 (hb cl pm c' U) ry (he cl f c') (wt ks H' y wk hy)
 . obtain⟨am,k1,k2,k3⟩:=wf ks H' wk af;exact⟨ph,_,Jv J rk k1 k2,λp p1 p2 D hD=>k3 p p1 p2 D hD⟩
end
noncomputable def C0 (K:W.Frag) (a b:Addr):It:=
 ⟨λi H=>∃xs ys x y,gi K H a xs/\gi K H b ys/\xs[i]? =some x/\ys[i]? =some y,
  λi H v H'=>∃p x y,H p=none/\v=.ref p/\(∀xs,gi K H a xs->xs[i]? =some x)/\(∀ys,gi K H b ys->ys[i]? =some y)/\H'=upd H p (.tup [x,y]),
  λi H=>∃xs ys,gi K H a xs/\gi K H b ys/\(xs.length<=i\/ys.length<=i)⟩
theorem Jy {P:Program}{w:World}{K:W.Frag}{ai:List Expr}{k:Nat}{tpos:Pos}{z TI TO J L l1 l2:Addr}(D:ZipApart z TI TO J L l1 l2):
 Turn P w K (.Tuple ai k tpos) (C0 K l1 l2) [z,TI,TO,J,L] z (λi h=>∃oa ob,IsZip h z TI TO .none/\IsPair h TI (.ref J) (.ref L)/\IsPair h TO oa ob/\h.IsListIter J l1 i/\h.IsListIter L l2 i) where
 mem:=by simp
 obj:=λi h st b U=>by
  obtain⟨oa,ob,h1,h2,h3,h4,h5⟩:=st;have U:b=z\/b=TI\/b=TO\/b=J\/b=L:=by simpa using U
  rcases U with rfl|rfl|rfl|rfl|rfl
  . exact⟨_,h1,λv y=>by
     have y:Data.fields _=Data.cell v:=y
     cases y⟩
  . exact⟨_,h2,λv y=>by
     have y:Data.seq _ _=Data.cell v:=y
     cases y⟩
  . exact⟨_,h3,λv y=>by
     have y:Data.seq _ _=Data.cell v:=y
     cases y⟩
  . obtain⟨o,q,c,d⟩:=h4;exact⟨o,q,λv y=>by rw[d] at y;cases y⟩
  . obtain⟨o,q,c,d⟩:=h5;exact⟨o,q,λv y=>by rw[d] at y;cases y⟩
 keep:=λi h h' st k=>by
  obtain⟨oa,ob,h1,h2,h3,h4,h5⟩:=st;exact⟨oa,ob,k z (by simp) _ h1,k TI (by simp) _ h2,k TO (by simp) _ h3,h4.at λo q=>k J (by simp) o q,h5.at λo q=>k L (by simp) o q⟩
 item:=by
  intro X hP hw hK hc i pins s σ H E I Y st hg;subst hP hw hK;obtain⟨oa,ob,h1,h2,h3,h4,h5⟩:=st;obtain⟨xs,ys,x,y,aa,ab,hx,hy⟩:=hg;obtain⟨aj,ae,p1,am⟩:=I.list aa;obtain⟨ak,af,p2,an⟩:=I.list ab;obtain⟨u1,ao,ap⟩:=ae.get hx;obtain⟨u2,aq,ar⟩:=af.get hy;have fr:H s.heap.objs.size=none:=I.hok.fresh (Q00 _);refine wpAny_pyNext_zip_item D h1 h2 h3 h4 h5 p1.isList p2.isList (x:=u1) (y:=u2) (by simpa using ao) (by simpa using aq) λh' q1 q2 q3 q4 q5 q6 q7=>?_;refine⟨_,rfl,wpAny_letOwnedTupleGo_zip (s:={ s with heap:=h' }) q1 λac g1 g2=>?_⟩
  have au:∀b∈[z,TI,TO,J,L],b<s.heap.objs.size:=λb U=>by
   have U:b=z\/b=TI\/b=TO\/b=J\/b=L:=by simpa using U
   rcases U with rfl|rfl|rfl|rfl|rfl
   . exact Q03 h1
   . exact Q03 h2
   . exact Q03 h3
   . obtain⟨o,q,_⟩:=h4;exact Q03 q
   . obtain⟨o,q,_⟩:=h5;exact Q03 q
  have av:∀b o,s.heap.get? b=some o->b≠s.heap.objs.size:=λb o q=>Q0a (Q03 q);have kk:∀b o,b≠z->b≠TO->b≠J->b≠L->s.heap.get? b=some o->ac.get? b=some o:=λb o n1 n2 n3 n4 q=>g2.extBut b o n1 (q7 b o n1 n2 n3 n4 q);have kn:∀b o,b ∉ [z,TO,J,L]->s.heap.get? b=some o->ac.get? b=some o:=λb o n q=>kk b o (λy=>n (by simp[y])) (λy=>n (by simp[y])) (λy=>n (by simp[y])) (λy=>n (by simp[y])) q;have tup:ac.get? s.heap.objs.size=some { cls:=.type "tuple",data:=.seq #[u1,u2] }:=g2.extBut _ _ (Q0r (Q03 h1)) q5
  have I1:Inv X pins σ (upd H s.heap.objs.size (.tup [x,y])) { s with heap:=ac }:=by
   refine I.step (g':=s.gens) (d':=s.drawn) (t':=s.toks) (ch:=[z,TO,J,L]) (λb U=>?_) (λb o _ _ hc q _=>kn b o hc q) (λb o _ _ hc q _=>⟨o.slots,kn b o hc q⟩) (λb o _ q n=>?_) (λb o hc q=>⟨o,kn b o hc q⟩) (λb ws q=>?_) (λb o v q=>?_) (λb ps q=>?_) (λm hm=>?_) (λb o q=>?_) I.bare
   . have ag:b∈[z,TI,TO,J,L]:=by
      have U:b=z\/b=TO\/b=J\/b=L:=by simpa using U
      rcases U with rfl|rfl|rfl|rfl <;> simp
     obtain⟨f0,f1,f2,f3,f4,f5⟩:=Y b ag;exact⟨f3,f1,f4,f5⟩
   . rw[gj (av b o q)];exact n
   . rw[gj (gB q fr)];exact q
   . rw[gj (gB q fr)];exact q
   . exact⟨#[],by rw[gj (gB q fr),q];simp⟩
   . obtain⟨o,es,ep,ho,r⟩:=hm;exact⟨o,es,ep,kk _ o (Ne.symm (Y z (by simp)).2.1) (Ne.symm (Y TO (by simp)).2.1) (Ne.symm (Y J (by simp)).2.1) (Ne.symm (Y L (by simp)).2.1) ho,r⟩
   . by_cases U:b=s.heap.objs.size
     . subst U;rw[gu] at q;cases q;exact⟨yh,[u1,u2],.cons ap (.cons ar .nil),⟨_,tup,rfl,_,rfl⟩⟩
     . rw[gj U] at q
       have nn:∀c v,H c=some v->c ∉ [z,TO,J,L]:=λc v e hm=>by
        have aw:c∈[z,TI,TO,J,L]:=by
         have hm:c=z\/c=TO\/c=J\/c=L:=by simpa using hm
         rcases hm with rfl|rfl|rfl|rfl <;> simp
        have:=(Y c aw).1;rw[e] at this;cases this
       refine(I.hok b o q).stay (λc v ah y=>kn c v ?_ y) (λc y=>by rw[gj (gB y fr)];exact y) λc ws y=>by rw[gj (gB y fr)];exact y
       rcases ah with y|y
       . rw[y];exact nn b o q
       . exact nn c _ y
  refine⟨.ref s.heap.objs.size,_,I1,rfl,⟨s.heap.objs.size,x,y,fr,rfl,λws hw=>by rw[I.rA hw aa];exact hx,λws hw=>by rw[I.rA hw ab];exact hy,rfl⟩,⟨u1,u2,g1,?_,?_,?_,?_⟩,λb U=>?_⟩
  . exact kk TI _ D.TIz D.TITO D.TIi1 D.TIi2 h2
  . exact g2.extBut _ _ D.TOz q2
  . exact q3.at λo q=>g2.extBut _ _ D.i1z q
  . exact q4.at λo q=>g2.extBut _ _ D.i2z q
  . rw[gj (Q0a (au b U))];exact(Y b U).1
 done:=by
  intro X hP hw hK hc i pins s σ H E I Y st hg;subst hP hw hK;obtain⟨oa,ob,h1,h2,h3,h4,h5⟩:=st;obtain⟨xs,ys,aa,ab,al⟩:=hg;obtain⟨aj,ae,p1,am⟩:=I.list aa;obtain⟨ak,af,p2,an⟩:=I.list ab;have e1:=ae.length;have e2:=af.length
  refine wpAny_pyNext_zip_end (I.ok.hd hc) D h1 h2 h3 h4 h5 p1.isList p2.isList (by
   rcases al with q|q
   . exact .inl (by simp;omega)
   . exact .inr (by simp;omega)) λh' hk=>⟨rfl,?_⟩
  refine I.step (g':=s.gens) (d':=s.drawn) (t':=s.toks) (ch:=[z,TO,J,L]) (λb U=>?_) (λb o _ _ hc q _=>?_) (λb o _ _ hc q _=>?_) (λb o _ q n=>n) (λb o hc q=>?_) (λb ys q=>q) (λb o v q=>q) (λb ps q=>⟨#[],by rw[q];simp⟩) (λm hm=>?_) (λb o q=>?_) I.bare
  . have ag:b∈[z,TI,TO,J,L]:=by
     have U:b=z\/b=TO\/b=J\/b=L:=by simpa using U
     rcases U with rfl|rfl|rfl|rfl <;> simp
    obtain⟨f0,f1,f2,f3,f4,f5⟩:=Y b ag;exact⟨f3,f1,f4,f5⟩
  . exact hk b o (λy=>hc (by simp[y])) (λy=>hc (by simp[y])) (λy=>hc (by simp[y])) (λy=>hc (by simp[y])) q
  . exact⟨o.slots,hk b o (λy=>hc (by simp[y])) (λy=>hc (by simp[y])) (λy=>hc (by simp[y])) (λy=>hc (by simp[y])) q⟩
  . exact⟨o,hk b o (λy=>hc (by simp[y])) (λy=>hc (by simp[y])) (λy=>hc (by simp[y])) (λy=>hc (by simp[y])) q⟩
  . obtain⟨o,es,ep,ho,r⟩:=hm;exact⟨o,es,ep,hk _ o (Ne.symm (Y z (by simp)).2.1) (Ne.symm (Y TO (by simp)).2.1) (Ne.symm (Y J (by simp)).2.1) (Ne.symm (Y L (by simp)).2.1) ho,r⟩
  . have nn:∀c v,H c=some v->∀y∈[z,TI,TO,J,L],c≠y:=λc v e y hy=>gB e (Y y hy).1;refine(I.hok b o q).stay (λc v ah y=>hk c v ?_ ?_ ?_ ?_ y) (λ_ y=>y) λ_ _ y=>y <;> (rcases ah with y|y)
    all_goals first
     |(rw[y];exact nn b o q _ (by simp))
     |exact nn c _ y _ (by simp)
 self:=λA i s Q E st q=>by
  obtain⟨oa,ob,h1,_⟩:=st;exact wpAny_pyIter_zip h1 q
def Jz (K:W.Frag) (ta:TA):TI:=λσ H R=>ta σ H λvs H1=>∃a b,vs=[.ref a,.ref b]/\(∃xs,gi K H1 a xs)/\(∃ys,gi K H1 b ys)/\R (C0 K a b) H1
section
variable {X:Cx}
theorem C1 {Y:List Expr}{k:Nat}{tpos:Pos}{a b:Expr}{ta:TA}{p pos:Pos}(hg:Gl X "zip")(hm:X.mg "zip"=none)(ha:PA X [a,b] ta)(hs:starEach [a,b] X.env=[(false,eval a X.env),(false,eval b X.env)]:=by rfl)
 (U:starEach [b] X.env=[(false,eval b X.env)]:=by rfl):PI X (.Tuple Y k tpos) (.Call (.Name "zip" p) [a,b] [] pos) (Jz X.K ta):=by
 intro pins s σ H R I h;refine Call_ (lz I hg hm boot_zip (PyProof.Rows.callWith_type1 (gG (ha pos pins s σ H _ I h) λus s1 zq=>?_) (by rw[hs,U]) (by rw[U];rfl)));obtain⟨vs,H1,L,r1,q1⟩:=zq;obtain⟨l1,l2,e,⟨xs,aa⟩,⟨ys,ab⟩,q⟩:=q1;subst e;obtain⟨u1,u2,rfl,ac,ae⟩:=vals2 r1
 cases ac
 cases ae;obtain⟨af,ah,p1,ai⟩:=L.list aa;obtain⟨ag,aj,p2,ak⟩:=L.list ab;have a1:l1<s1.heap.objs.size:=by obtain⟨_,e,_⟩:=p1.isList;exact Q03 e
 have a2:l2<s1.heap.objs.size:=by obtain⟨_,e,_⟩:=p2.isList;exact Q03 e
 refine call_zip_2 p1.isList p2.isList λh' q1 q2 q3 q4 q5 q6 q7=>?_;refine wpAny_pyIter_zip q1 ?_;have I2:Inv X pins σ H1 { s1 with heap:=h' }:=L.kept (t':=s1.toks) q7
 have Dz:ZipApart (s1.heap.objs.size+4) (s1.heap.objs.size+2) (s1.heap.objs.size+3) s1.heap.objs.size (s1.heap.objs.size+1) l1 l2:=by
  have b1:@LT.lt Nat _ l1 s1.heap.objs.size:=a1;have b2:@LT.lt Nat _ l2 s1.heap.objs.size:=a2;constructor <;> (intro z;have z':(_:Nat)=_:=z;omega)
 refine⟨s1.heap.objs.size+4,[s1.heap.objs.size+4,s1.heap.objs.size+2,s1.heap.objs.size+3,s1.heap.objs.size,s1.heap.objs.size+1],_,_,H1,rfl,I2,Jy Dz,⟨.none,.none,q1,q2,q3,q4,q5⟩,λb J=>?_,q⟩
 have J:s1.heap.objs.size<=b:=by
  have J:b=s1.heap.objs.size+4\/b=s1.heap.objs.size+2\/b=s1.heap.objs.size+3\/b=s1.heap.objs.size\/b=s1.heap.objs.size+1:=by simpa using J
  rcases J with z|z|z|z|z <;> rw[z]
  . exact Q1o _ _
  . exact Q1o _ _
  . exact Q1o _ _
  . exact Q00 _
  . exact Q1o _ _
 exact L.n6 J (L.hok.fresh J)
end
end L2
namespace HT
open PyProof.Rows L2
section
open SeqAt
open PySem.AutoSeq1 (wpAny_loadPart')
open MeetsSeq MeetsSeq2 MeetsSeq3
inductive KeysAre:List Value->List Key->Prop
 |nil:KeysAre [] []
 |cons {u:Value} {k:Key} {us:List Value} {ks:List Key}:RelV (kV k) u->KeysAre us ks->KeysAre (u::us) (k::ks)
theorem KeysAre.of:∀{ks:List Key}{us:List Value},Vals (ks.map kV) us->KeysAre us ks
 |[],_,r=>by cases r;exact .nil
 |k::ks,_,r=>by
  cases r with
  |cons a b=>exact .cons a (KeysAre.of b)
theorem KeysAre.length:∀{us:List Value}{ks:List Key},KeysAre us ks->us.length=ks.length
 |_,_,.nil=>rfl
 |_,_,.cons _ h=>by rw[Q0h,Q0h,h.length]
theorem JA (A:Around)(s:Shared){k j:Key}{u v:Value}(r:RelV (kV k) u)(q:RelV (kV j) v)(ht:iE k=iE j):∃e,SeqAt.EqAt A s u v e/\(e=true↔k=j):=by
 rcases ow r with⟨m,t,rfl,rfl⟩|⟨m,t,rfl,rfl⟩ <;> rcases ow q with⟨n,t',rfl,rfl⟩|⟨n,t',rfl,rfl⟩
 . exact⟨m == n,SeqAt.EqAt.int_int m t n t',by simp⟩
 . cases ht
 . cases ht
 . exact⟨m == n,SeqAt.EqAt.str_str m t n t',by simp⟩
theorem JB (A:Around)(s:Shared){k j:Key}{u v:Value}(r:RelV (kV k) u)(q:RelV (kV j) v)(ht:iE k=iE j)(prog:Program)(w:World)(E:Value->Shared->Prop)(Q:Value->Shared->Prop)(h:Q (.bool (!jO j k)) s):
 wpAny (model prog w) A (richCompare .LtE u v) Q E s:=by
 rcases ow r with⟨m,t,rfl,rfl⟩|⟨m,t,rfl,rfl⟩ <;> rcases ow q with⟨n,t',rfl,rfl⟩|⟨n,t',rfl,rfl⟩
 . have e:(!jO (.inl n) (.inl m))=decide (m<=n):=by
    show(!decide (n<m))=decide (m<=n);rw[<-decide_not];exact decide_eq_decide.mpr Int.not_lt
   rw[e] at h;exact(PyProof.Rows.le_int h:wpAny (model prog w) A (compareOp .LtE (.int m t) (.int n t')) Q E s)
 . cases ht
 . cases ht
 . exact(PySem.P.le_str h:wpAny (model prog w) A (compareOp .LtE (.str m t) (.str n t')) Q E s)
theorem JC (l b:Addr)(L J:Array Value)(n n2:Nat)(dd aj:Option Addr)(sl ak:Array (Option Value))(ns ms:List Key)(hi:KeysAre L.toList ns)(hj:KeysAre J.toList ms)(ht:ns.map iE=ms.map iE):
 Meets (Builtin.«tuple.__le__» ⟨[.ref l,.ref b],[]⟩)
  (λ_ R s=>s.heap.get? l=some { cls:=.type "tuple",dict:=dd,data:=.seq L n,slots:=sl }/\s.heap.get? b=some { cls:=.type "tuple",dict:=aj,data:=.seq J n2,slots:=ak }/\
    R (.ok (.ret (.bool (!iz ms ns)))) s):=
 .of_wp λprog w A R s h=>by
   obtain⟨hp,g,d,tk,os⟩:=s;obtain⟨hl,hb,h⟩:=h;have f2:=AutoSeq1.sub_tuple_tuple;have z1:L.size=ns.length:=by rw[<-hi.length];simp
   have z2:J.size=ms.length:=by rw[<-hj.length];simp
   have z3:ns.length=ms.length:=by have:=congrArg List.length ht;simpa using this
   wp_walk using wpAny_loadPart' hl,wpAny_loadPart' hb,wpAny_forIn_list _ (λrest b s'=>b.1=none/\s'=⟨hp,g,d,tk,os⟩/\∃(vs ws:List Value) (Y aa:List Key),rest=vs.zip ws/\
    KeysAre vs Y/\KeysAre ws aa/\Y.map iE=aa.map iE/\R (.ok (.ret (.bool (!iz aa Y)))) ⟨hp,g,d,tk,os⟩) _
   case turn=>
    rintro⟨y,x⟩ rest b s' ⟨ae,rfl,vs,ws,Y,aa,hz,af,ab,U,hR⟩
    cases af with
    |nil=>rw[List.zip_nil_left] at hz;cases hz
    |cons a ah=>
     cases ab with
     |nil=>rw[List.zip_nil_right] at hz;cases hz
     |cons c ai=>
      rw[Q2i] at hz;injection hz with al ag
      injection al with hy hx
      subst hy hx;rw[pd] at hR;have t1:=(List.cons.inj U).1;have t2:=(List.cons.inj U).2;obtain⟨e,he,ac⟩:=JA A.in1 ⟨hp,g,d,tk,os⟩ a c t1;refine Q01 (he prog w _ _ ?_)
      cases e with
      |true=>
       rw[if_pos (ac.mp rfl).symm] at hR
       wp_walk
       exact⟨rfl,rfl,_,_,_,_,ag,ah,ai,t2,hR⟩
      |false=>
       rw[if_neg (λq=>absurd (ac.mpr q.symm) Bool.false_ne_true)] at hR;have am:=JB A.in1 ⟨hp,g,d,tk,os⟩ a c t1 prog w
       wp_walk using am
       exact⟨_,rfl,by simpa using hR⟩
   case fin=>
    rintro⟨b1,b2⟩ s' ⟨ae,rfl,vs,ws,Y,aa,hz,af,ab,U,hR⟩;simp only at ae;subst ae
    have hv:(!iz aa Y)=decide (L.size<=J.size):=by
     cases af with
     |nil=>
      cases ab with
      |nil=>exact(decide_eq_true (by omega)).symm
      |cons c hw=>cases U
     |cons a hv=>
      cases ab with
      |nil=>cases U
      |cons c hw=>
       rw[Q2i] at hz
       cases hz
    rw[hv] at hR
    wp_walk
    exact⟨_,rfl,by simpa[Builtin.Tuple.tupleCompareSizes] using hR⟩
   case h=>
    exact⟨rfl,rfl,L.toList,J.toList,ns,ms,rfl,hi,hj,ht,h⟩
end
section
variable {prog:Program}{w:World}{A:Around}{E:Value->Shared->Prop}{s:Shared}
theorem JD {l b:Addr}{L J:Array Value}{ns U:List Key}{Q:Value->Shared->Prop}(hl:IsTup s.heap l L)(hb:IsTup s.heap b J)(hi:KeysAre L.toList ns)(hj:KeysAre J.toList U)(ht:ns.map iE=U.map iE)
 (hu:A.units<cLine) (h:Q (.bool (!iz U ns)) s):wpAny (model prog w) A (compareOp .LtE (.ref l) (.ref b)) Q E s:=by
 obtain⟨⟨cls,dd,data,sl⟩,ho,hc,n,hd⟩:=id hl;obtain⟨⟨af,ac,data2,ae⟩,Y,aa,n2,ab⟩:=id hb;simp only at hc hd aa ab;subst hc hd aa ab
 exact richCompare_meets_room (op:=.LtE) ⟨_,ho,rfl⟩ ⟨_,Y,rfl⟩ PySem.F.slot_tuple_le PySem.F.entry_tuple_le (PySem.F.args_tuple_le_2 _ _) (JC l b L J n n2 dd ac sl ae ns U hi hj ht)
  ⟨ho,Y,show Value.bool (!iz U ns)≠Value.notImplemented/\Q (.bool (!iz U ns)) s from⟨(λx=>nomatch x),h⟩⟩ hu
end
end HT
namespace L2
open Spec PyProof.Rows
section
variable {X:Cx}
def JE (K:W.Frag):R2:=λx y H Q=>∃a b ns J,x=.ref a/\y=.ref b/\e_ K H a (ns.map kV)/\e_ K H b (J.map kV)/\ns.map iE=J.map iE/\Q (.bl (!iz J ns)) H
theorem JF (L:X.A.units<cLine):i8 X (compareOp .LtE) (JE X.K):=by
 intro pins s σ H x y v u Q I U Y h;obtain⟨a,b,ns,ms,rfl,rfl,ha,hb,ht,q⟩:=h
 cases U
 cases Y;obtain⟨aa,r1,p1,_⟩:=I.tuple ha;obtain⟨J,r2,p2,_⟩:=I.tuple hb;exact HT.JD p1 p2 (by simpa using HT.KeysAre.of r1) (by simpa using HT.KeysAre.of r2) ht L ⟨.bl (!iz ms ns),H,I,rfl,q⟩
end
inductive jq (K:W.Frag) (H:Hp):Nat->V->V->Bool->Prop
 |ref {n:Nat} (a:Addr):jq K H n (.ref a) (.ref a) true
 |int {n:Nat} (a b:Int):jq K H n (.int a) (.int b) (decide (a=b))
 |str {n:Nat} (a b:Str):jq K H n (.str a) (.str b) (decide (a=b))
 |is {n:Nat} (a:Int) (b:Str):jq K H n (.int a) (.str b) false
 |si {n:Nat} (a:Str) (b:Int):jq K H n (.str a) (.int b) false
 |lst {n:Nat} {a b:Addr} {xs ys:List V} {e:Nat->Bool} (ne:a≠b) (ha:gi K H a xs) (hb:gi K H b ys) (hl:xs.length=ys.length) (he:∀(j:Nat) (x y:V),xs[j]? =some x->ys[j]? =some y->jq K H n x y (e j)):
   jq K H (n+1) (.ref a) (.ref b) ((List.range xs.length).all e)
 |tup {n:Nat} {a b:Addr} {xs ys:List V} {e:Nat->Bool} (ne:a≠b) (ha:e_ K H a xs) (hb:e_ K H b ys) (he:∀(j:Nat) (x y:V),xs[j]? =some x->ys[j]? =some y->jq K H n x y (e j)):
   jq K H (n+1) (.ref a) (.ref b) ((List.range (min xs.length ys.length)).all e && xs.length == ys.length)
section
variable {X:Cx}{pins:List (Addr × Obj)}{σ:St}{H:Hp}{s:Shared}
theorem Vals.at:∀{xs:List V}{us:List Value},Vals xs us->∀(j:Nat) (h:j<us.length),∃x,xs[j]? =some x/\RelV x us[j]
 |_,_,.nil,j,h=>absurd h (by simp)
 |_,_,.cons a r,0,h=>⟨_,rfl,a⟩
 |_,_,.cons a r,j+1,h=>by
  obtain⟨x,h1,h2⟩:=Vals.at r j (by simpa using h);exact⟨x,by simpa using h1,h2⟩
theorem jq.C2 (I:Inv X pins σ H s){n:Nat}{x y:V}{b:Bool}(h:jq X.K H n x y b):∀(A:Around) (u v:Value),RelV x u->RelV y v->A.units+n<cLine->SeqAt.EqAt A s u v b:=by
 induction h with
 |ref a=>
  intro A u v J L hu
  cases J
  cases L;exact SeqAt.EqAt.same _
 |int a b=>
  intro A u v J L hu;obtain⟨t,rfl⟩:=J;obtain⟨t',rfl⟩:=L;exact SeqAt.EqAt.int_int a t b t'
 |str a b=>
  intro A u v J L hu;obtain⟨t,rfl⟩:=J;obtain⟨t',rfl⟩:=L
  have e:decide (a=b)=(a == b):=by
   by_cases z:a=b
   . rw[decide_eq_true z,z];simp
   . rw[decide_eq_false z];exact(beq_eq_false_iff_ne.mpr z).symm
  rw[e];exact SeqAt.EqAt.str_str a t b t'
 |is a b=>
  intro A u v J L hu;obtain⟨t,rfl⟩:=J;obtain⟨t',rfl⟩:=L;exact SeqAt.EqAt.int_str a t b t'
 |si a b=>
  intro A u v J L hu;obtain⟨t,rfl⟩:=J;obtain⟨t',rfl⟩:=L;exact SeqAt.EqAt.str_int a t b t'
 |@lst n a b xs ys e ne ha hb hl he ih=>
  intro A u v J L hu
  cases J
  cases L;obtain⟨Y,r1,p1,_⟩:=I.list ha;obtain⟨U,r2,p2,_⟩:=I.list hb;have l1:=r1.length;have l2:=r2.length;refine .of_refs ne ?_;have q:xs.length=Y.toArray.size:=by rw[Q08];exact l1
  rw[q];refine SeqAt.RcAt.lists p1.isList p2.isList (by rw[Q08,Q08];omega) (by omega) λj h1 h2=>?_;obtain⟨x',e1,q1⟩:=Vals.at r1 j (by simpa using h1);obtain⟨y',e2,q2⟩:=Vals.at r2 j (by simpa using h2);refine ih j x' y' e1 e2 _ _ _ (by simpa using q1) (by simpa using q2) ?_;show A.units+1+n<cLine;omega
 |@tup n a b xs ys e ne ha hb he ih=>
  intro A u v J L hu
  cases J
  cases L;obtain⟨Y,r1,p1,_⟩:=I.tuple ha;obtain⟨U,r2,p2,_⟩:=I.tuple hb;have l1:=r1.length;have l2:=r2.length;refine .of_refs ne ?_;have q:xs.length=Y.toArray.size:=by rw[Q08];exact l1
  have q':ys.length=U.toArray.size:=by rw[Q08];exact l2
  rw[q,q'];refine SeqAt.RcAt.tuples p1 p2 (by omega) λj h1 h2=>?_;obtain⟨x',e1,q1⟩:=Vals.at r1 j (by simpa using h1);obtain⟨y',e2,q2⟩:=Vals.at r2 j (by simpa using h2);refine ih j x' y' e1 e2 _ _ _ (by simpa using q1) (by simpa using q2) ?_;show A.units+1+n<cLine;omega
def JG (K:W.Frag) (H:Hp) (n:Nat) (xs ys:List V) (e:Nat->Bool):Prop:=∀(j:Nat) (x y:V),xs[j]? =some x->ys[j]? =some y->jq K H n x y (e j)
def JH (K:W.Frag) (n:Nat):R2:=λx y H Q=>∃a b xs ys e,x=.ref a/\y=.ref b/\JG K H n xs ys e/\
 ((gi K H a xs/\gi K H b ys/\((xs.length=ys.length/\Q (.bl (!(List.range xs.length).all e)) H)\/(xs.length≠ys.length/\Q (.bl true) H)))\/
  (e_ K H a xs/\e_ K H b ys/\Q (.bl (!((List.range (min xs.length ys.length)).all e && xs.length == ys.length))) H))
theorem C3 {n:Nat}(hu:X.A.units+1+n<cLine):i8 X (compareOp .NotEq) (JH X.K n):=by
 intro pins s σ H x y v u Q I rx ry h;obtain⟨a,b,xs,ys,e,rfl,rfl,hd,h⟩:=h
 cases rx
 cases ry;rcases h with⟨ha,hb,h⟩|⟨ha,hb,q⟩
 . obtain⟨L,U,p1,_⟩:=I.list ha;obtain⟨J,Y,p2,_⟩:=I.list hb;have l1:=U.length;have l2:=Y.length;rcases h with⟨hl,q⟩|⟨hl,q⟩
   . have z:xs.length=L.toArray.size:=by rw[Q08];exact l1
     rw[z] at q;refine(SeqAt.RcNeAt.lists (e:=e) p1.isList p2.isList (by rw[Q08,Q08];omega) (by omega) (λj h1 h2=>?_)) X.prog X.w _ _ ⟨.bl _,H,I,rfl,q⟩;obtain⟨x',e1,q1⟩:=Vals.at U j (by simpa using h1);obtain⟨y',e2,q2⟩:=Vals.at Y j (by simpa using h2);refine(hd j x' y' e1 e2).C2 I _ _ _ (by simpa using q1) (by simpa using q2) ?_;show X.A.units+1+n<cLine;omega
   . refine(SeqAt.RcNeAt.lists_lengths p1.isList p2.isList ?_ (by omega)) X.prog X.w _ _ ⟨.bl true,H,I,rfl,q⟩;rw[Q08,Q08];simp;omega
 . obtain⟨L,U,p1,_⟩:=I.tuple ha;obtain⟨J,Y,p2,_⟩:=I.tuple hb;have l1:=U.length;have l2:=Y.length;have z:xs.length=L.toArray.size:=by rw[Q08];exact l1
   have z':ys.length=J.toArray.size:=by rw[Q08];exact l2
   rw[z,z'] at q;refine(SeqAt.RcNeAt.tuples (e:=e) p1 p2 (by omega) (λj h1 h2=>?_)) X.prog X.w _ _ ⟨.bl _,H,I,rfl,q⟩;obtain⟨x',e1,q1⟩:=Vals.at U j (by simpa using h1);obtain⟨y',e2,q2⟩:=Vals.at Y j (by simpa using h2);refine(hd j x' y' e1 e2).C2 I _ _ _ (by simpa using q1) (by simpa using q2) ?_;show X.A.units+1+n<cLine;omega
end
def JI (e:Addr) (l:List Env) (h h':Heap):Prop:=
 (∀b o,b ∉ frs l->b≠e->h.get? b=some o->h'.get? b=some o)/\∀b o,b≠e->h.get? b=some o->∃J,h'.get? b=some { o with slots:=J }
theorem vg {f:Array Value->Array Value}{o:Obj}{vs:Array Value}(h:o.data=.fields vs):Obj.mapFields f o={ o with data:=.fields (f vs) }:=by
 obtain⟨c,d,J,L⟩:=o;have h:J=.fields vs:=h;subst h;rfl
section
variable {M:Model}{A:Around}{E:Value->Shared->Prop}{s:Shared}
theorem JJ {base:Heap}{env:Env}{outer:List Env}{L e:Addr}{J:Obj}{vs:Array Value}{U:Value}{ae:Bool}{Q:Unit->Shared->Prop}
 (af:A.frames=some (env::outer)) (hl:s.heap.FunFrames base (env::outer)) (hf:env.frame=some L) (he:s.heap.get? e=some J) (hd:J.data=.fields vs) (hsz:1<vs.size)
 (h:∀(h':Heap) (T:Addr),s.heap.objs.size<=T->JI e (env::outer) s.heap h'->h'.get? e=some { J with data:=.fields (vs.setIfInBounds 1 (.ref T)) }->(∃oT ts,h'.get? T=some oT/\oT.data=.fields ts/\ts[3]? =some (rawInt L))->Q () { s with heap:=h' }):
 wpAny M A (do let a <-frameOf env;let pl <-entryPlaceOf L ae;let b <-EntryCells.newEntry U a .none (rawInt L) .none pl;setField (.ref e) 1 b) Q E s:=by
 have ag:e ∉ (env::outer).filterMap (·.frame):=λz=>by
  obtain⟨_,o,ho,hn⟩:=hl.mem z;rw[he] at ho
  cases ho;exact hn vs hd
 refine Q01 (wpAny_frameOf_fun af hl hf λh1 x1=>?_);refine Q01 (wpAny_entryPlaceOf λpl ab=>?_);unfold EntryCells.newEntry newFields;refine Q01 (wpAny_newObj_type ?_ (ab.sizeOk5 _ _ _ _ _));have e1:h1.get? e=some J:=(x1.2.1 e ag).trans he;generalize ac:({ cls:=.type "traceback",dict:=none,data:=.fields ([U,.ref L,.none,rawInt L,.none]++(if pl.isEmpty then List.replicate 6 Value.none else pl)).toArray }:Obj)=ob;have e2:(h1.push ob).get? e=some J:=Q07 ob e1;have ah:h1.objs.size≠e:=Q0r (Q03 e1);have aa:({ J with data:=.fields (vs.setIfInBounds 1 (.ref h1.objs.size)) }:Obj).isFreed=false:=Obj.isFreed_of_fields rfl;have em:Obj.mapFields (·.setIfInBounds 1 (Value.ref h1.objs.size)) J={ J with data:=.fields (vs.setIfInBounds 1 (.ref h1.objs.size)) }:=vg hd;refine wpAny_setField e2 hd hsz (h _ h1.objs.size (Q10 x1.1.symm) ⟨λb o hb Y ho=>?_,λb o Y ho=>?_⟩ ?_ ?_)
 . rw[Q14 _ _ (Ne.symm Y)];exact Q07 ob ((x1.2.1 b hb).trans ho)
 . obtain⟨sl,hs⟩:=x1.2.2 b o ho;refine⟨sl,?_⟩;rw[Q14 _ _ (Ne.symm Y)];exact Q07 ob hs
 . have:=Q1k (Obj.mapFields (·.setIfInBounds 1 (Value.ref h1.objs.size))) e2 (by rw[em];exact aa);rw[em] at this;exact this
 . refine⟨ob,_,?_,by rw[<-ac],?_⟩
   . rw[Q14 _ _ (Ne.symm ah)];exact Q0i h1 (by rw[<-ac];rfl)
   . first|(simp;done)|(rcases ab with rfl|⟨_,_,_,_,_,_,_,rfl⟩ <;> simp)
structure Tr (h:Heap) (e T:Addr) (cls fl:Value):Prop where
 ex:∃oe vs,h.get? e=some oe/\oe.cls=cls/\oe.dict=none/\oe.data=.fields vs/\vs[1]? =some (.ref T)
 tb:∃oT ts,h.get? T=some oT/\oT.data=.fields ts/\ts[3]? =some fl
 ne:T≠e
end
section
variable {X:Cx}{pins:List (Addr × Obj)}{σ:St}{H:Hp}{s:Shared}
end
section
variable {M:Model}{A:Around}{E:Value->Shared->Prop}{s:Shared}
end
section
variable {X:Cx}{pins:List (Addr × Obj)}{σ:St}{H:Hp}{s:Shared}
end
section
variable {X:Cx}{k:Nat}{f:Addr}{fd:FuncData}{ps:List Str}{sp:Sp}{jf:List V}{ds:List Value}{Ek:XK}{x:Str}{p pos:Pos}{e:Expr}{es:List Expr}{t:TA}{te:TE}
end
end L2
namespace L2
open Spec PyProof.Rows W
theorem JK {M:Model}{A:Around}{E:Value->Shared->Prop}{K:Frag}{s:Shared}{a C D:Addr}{J:Obj}{b:Bool}{Q:Bool->Shared->Prop}(X:K.In s.heap)(h1:typeIn K (.ref D)=some (.type "type"))(h2:(clsIn K D).isSome=true)(Y:subIn K (.ref D) (.type "BaseException")=some true)
 (h4:subIn K (.ref C) (.ref D)=some b) (he:s.heap.get? a=some J) (hc:J.cls=.ref C) (hq:Q b s):wpAny M A (excMatches (.ref a) (.ref D)) Q E s:=by
 obtain⟨h,g,d,t,os⟩:=s;have L1:=looks_typeIn (M:=M) X h1;have L2:Looks M h (isSubtype (.type "type") (.type "tuple")) false:=Looks.of_pure tc_notTuple;have L3:=looks_subIn (M:=M) X Y;have L4:=looks_subIn (M:=M) X h4
 have L5:Looks M h (isType (.ref D)) true:=by
  unfold clsIn at h2;split at h2
  . rename_i c' d' aa ab ho;intro L Q' U s' k q;unfold isType loadHead;exact Q01 (wpAny_loadPart (k _ _ (X _ _ ho)) (Q0c q))
  . cases h2
 have L6:Looks M h (typeOf (.ref a)) (.ref C):=by
  have z:Looks M h (typeOf (.ref a)) J.cls:=(Looks.ld (show h.get? a=some J from he)).andThen .now;rw[hc] at z;exact z
 have L7:Looks M h (isInstance (.ref D) (.type "tuple")) false:=L1.andThen L2
 have L8:Looks M h (isExcClass (.ref D)) true:=λL Q' U s' k q=>by
  unfold isExcClass;exact Q01 (L5 L _ U s' k (L3 L _ U s' k q))
 unfold excMatches;refine Q01 (L7.at ?_)
 repeat (any_goals (first|assumption|with_reducible refine L8.at ?_|with_reducible refine L6.at ?_|with_reducible refine L4.at ?_|wp_step))
 cases b <;> (repeat (any_goals (first|assumption|wp_step)))
end L2
namespace L2
open Spec PyProof.Rows
section
variable {X:Cx}{pins:List (Addr × Obj)}{σ:St}{H:Hp}{s:Shared}
theorem Inv.unbind {M:Model}{A:Around}{E:Value->Shared->Prop}{i:Nat}{x:Str}{pos:Pos}{Q:Unit->Shared->Prop}(I:Inv X pins σ H s)(hN:X.N.Nodup)(hi:X.N[i]? =some x)(hk:X.env.kindOf x=some .local)
 (h:∀s',Inv X pins (σ.set i none) H s'->Q () s'):wpAny M A (do bindName X.env x .none;unbindBehindTheSuite X.env x pos) Q E s:=by
 obtain⟨m,hn,hl⟩:=id I.loc;have aa:(X.env.scope.kind == .class || (X.env.scope.kind == .module && X.env.locals != X.env.globals))=false:=by rw[I.ok.kind];rfl
 have ab:i<σ.length:=by rw[I.len];exact(List.getElem?_eq_some_iff.mp hi).1
 have ly:=I.ly;refine wpAny_nameGoes_keeps hk hn aa λh' v ac L=>?_;obtain⟨oL,_,_,ae,_⟩:=id hn
 have J:iF X.prog X.w H h':=λb ob e=>by
  refine(I.hok b ob e).stay (λc w' hc q=>(L.2 c ?_).trans q) (λ_ q=>q) λ_ _ q=>q;rintro rfl;rcases hc with rfl|hc
  . rw[I.free] at e;cases e
  . rw[I.free] at hc;cases hc
 refine h _ ⟨I.ok,I.os,I.bare,⟨λb o e n hb Y=>?_,λb o e n hb Y=>?_,I.base.free,λb o e Y=>?_,I.base.tups,I.base.kL,I.base.kM⟩,⟨_,ac,λj y v' U e2 e3=>?_⟩,λy c e=>?_,I.free,I.j3,λp hp=>?_,J,by simpa using I.len⟩
 . exact(L.2 b (Q0a (Q0e (Q03 e) I.ok.above))).trans (I.base.keep b o e n hb Y)
 . obtain⟨sl,U⟩:=I.base.slot b o e n hb Y;exact⟨sl,(L.2 b (Q0a (Q0e (Q03 e) I.ok.above))).trans U⟩
 . obtain⟨o',U⟩:=I.base.there b o e Y;exact⟨o',(L.2 b (Q0a (Q0e (Q03 e) I.ok.above))).trans U⟩
 . by_cases hj:j=i
   . subst hj;rw[Q27 ab] at e2
     cases e2
   . rw[Q28 (Ne.symm hj)] at e2;obtain⟨u',r',q⟩:=hl j y v' U e2 e3;refine⟨u',r',?_⟩;rcases q with⟨k,e⟩|⟨k,c,e,z⟩
     . refine .inl ⟨k,?_⟩;have:y≠x:=λe=>hj (uC hN U (e ▸ hi));simp[this,e]
     . exact .inr ⟨k,c,e,z.sameBut L (ly y c e)⟩
 . obtain⟨w',z⟩:=I.cell y c e;exact⟨w',z.sameBut L (ly y c e)⟩
 . obtain⟨e,n,ne,nf,d⟩:=I.pin p hp;exact⟨(L.2 p.1 ne).trans e,n,ne,nf,d⟩
noncomputable abbrev Cx.marked (X:Cx) (a:Addr):Cx:={ X with A:=X.A.mark (some (.ref a)),calm:=false,xe:=λ_ _=>False }
theorem Inv.marked (I:Inv X pins σ H s)(a:Addr):Inv (X.marked a) pins σ H s:=
 ⟨⟨I.ok.mod,I.ok.kind,I.ok.glob,I.ok.blt,I.ok.above,I.ok.inj,I.ok.has,I.ok.cab,(λz=>by cases z),I.ok.frames,I.ok.stk,I.ok.uB,I.ok.bs,I.ok.lx,I.ok.oO,I.ok.qc,I.ok.kq,I.ok.nj⟩,I.os,I.bare,I.base,I.loc,I.cell,I.free,I.j3,I.pin,I.hok,I.len⟩
theorem Inv.unmarked {a:Addr}(I:Inv (X.marked a) pins σ H s)(ok:X.Ok):Inv X pins σ H s:=⟨ok,I.os,I.bare,I.base,I.loc,I.cell,I.free,I.j3,I.pin,I.hok,I.len⟩
end
def Ends.un (D:Ends) (i:Nat):Ends:={ nx:=λσ H=>D.nx (σ.set i none) H,rt:=D.rt,bk:=λσ H=>D.bk (σ.set i none) H,ct:=λσ H=>D.ct (σ.set i none) H }
end L2
namespace L2
open Spec Calls PyProof.Rows W Builtin Builtin.ObjectAttr Builtin.Getset_descriptor
section
variable {prog:Program}{w:World}{A:Around}{E:Value->Shared->Prop}{K:Frag}{h:Heap}{g:Array GenState}{d:Drawn}{t:Nat}{os:OsState}{a C:Addr}{o:Obj}
end
end L2
namespace L2
open Spec PyProof.Rows
section
variable {X:Cx}{es:List Expr}{n k:Nat}{t:St->Hp->Prop}{pos:Pos}
end
noncomputable def i3 (x:Str):List Key:=[Sum.inr x]
theorem C4 (x y:Str):iz (i3 x) (i3 y)=decide (x.cps.toList<y.cps.toList):=by
 unfold i3;rw[pd];by_cases e:(Sum.inr x:Key)=Sum.inr y
 . rw[if_pos e];have e:=Sum.inr.inj e;subst e;have h:¬x.cps.toList<x.cps.toList:=Q32 _;rw[decide_eq_false h];rfl
 . rw[if_neg e];rfl
theorem vh {ss:List Str}{us:List Value}(r:Vals (ss.map V.str) us){i:Nat}(hi:i<us.length):∃x t,us.getD i Value.none=.str x t/\(ss.map i3).getD i []=i3 x:=by
 have hl:=r.length;rw[Q04] at hl;have h1:(ss.map V.str)[i]? =some (V.str (ss[i]'(by omega))):=by rw[Q0j,Q05 (by omega)];rfl
 obtain⟨u,J,t,L⟩:=r.get h1;subst L;refine⟨ss[i]'(by omega),t,by rw[Q0f,J];rfl,?_⟩;rw[Q0f,Q0j,Q05 (by omega)];rfl
theorem JL {prog:Program}{w:World}{s:Shared}{A:Around}{ss:List Str}{us:List Value}(r:Vals (ss.map V.str) us):Asks prog w A s us (O:=ph) (λi=>(ss.map i3).getD i []):=by
 intro h2;refine W.kas_kind (T:=.type "str") h2 (λv L=>?_) rfl rfl ⟨rfl,λi j C hi U q=>?_⟩
 . obtain⟨i,hi,e⟩:=Q0y L;obtain⟨x,t,J,_⟩:=vh r hi;rw[Q0f,Q05 hi] at J;have J:us[i]=.str x t:=J;rw[<-e,J];exact W.Looks.of_pure rfl
 . unfold W.kas_ask;obtain⟨x,t,J,Y⟩:=vh r hi;obtain⟨y,u,e3,e4⟩:=vh r U;rw[J,e3];refine W.kas_lt_str ?_;have q:C (iz ((ss.map i3).getD i []) ((ss.map i3).getD j [])) s:=q;rw[Y,e4,C4] at q;exact q
def vj (K:PySem.W.Frag) (P:Addr) (L:Pos) (qual:Str) (te:TE) (σ:St) (Q:VK):VK:=λx H1=>∃a xs,x=.ref a/\gi K H1 a xs/\xs.length<64/\gJ P L qual H1/\
 ∀c' H2,mT P L qual c' H2->(∀b o,b≠P->H1 b=some o->H2 b=some o)->
 ∃W:List V->Hp->Prop,W [] H2/\(∀ks J,W ks J->mT P L qual c' J)/\(∀ks J y,W ks J->xs[ks.length]? =some y->te (some y::σ) J λk U=>W (ks++[k]) U)/\
 ∀ks J,W ks J->ks.length=xs.length->∃ss:List Str,ks=ss.map V.str/\∀p:List Nat,p.Perm (List.range xs.length)->(p.map λi=>(ss.map i3).getD i []).Pairwise lG->∀D,J D=none->Q (.ref D) (upd J D (.lst (p.map λi=>xs.getD i .non)))
def JM (K:W.Frag) (P:Addr) (J:Pos) (qual:Str) (tl te:TE):TE:=λσ H Q=>tl σ H (vj K P J qual te σ Q)
section
variable {X:Cx}
theorem JN {x:Str}{N':List Str}{l body:Expr}{L:Arguments}{scope:Scope}{lp kp p pos:Pos}{qual:Str}{c P:Addr}{tl te:TE}{k:Nat}(hg:Gl X "sorted")(hm:X.mg "sorted"=none)(hv:bootBuiltins "sorted"=some (.builtin "sorted"))(hr:iu k X.A)(hq:X.env.qual++"<lambda>"=qual)(Y:X.env.code=.ref c)(C:PySem.W.CodeHd X.base c P)
 (B:BM X.mg X.base) (S:ny X x N' scope) (ab:defaultsOf L X.env=([],[])) (hb:∀(cl:List (Str × Addr)) (pm:Value) (c':Addr) (U u:Value),bindArgs (PySem.W.kla_fn "<lambda>" qual L body scope cl pm (.ref c') U) ⟨[u],[]⟩=pure [(x,u)])
 (hl:PE X l tl) (he:∀(cl:List (Str × Addr)) (f c':Addr) (s:Shared) (H:Hp),PE (qA X x N' scope cl qual f c' s H) body te) (hs:starEach [l] X.env=[(false,eval l X.env)]:=by rfl):
 PE X (.Call (.Name "sorted" p) [l] [⟨some "key",.Lambda L body scope lp,kp⟩] pos) (JM X.K P lp qual tl te):=by
 intro pins s σ H Q I h;refine wpAny_Call_Name_kw (lz I hg hm hv ?_);have ha:PA X [l] (ja tl kO):=a_ hl b_ (by rw[hs];rfl);refine callWith_kw (gG (ha pos pins s σ H (λvs H1=>match vs with|[x]=>vj X.K P lp qual te σ Q x H1|_=>False) I h) λus s1 zq=>?_) (by rw[hs];rfl) (by rw[hs];rfl);obtain⟨vs,H1,I1,r1,q1⟩:=zq
 obtain⟨x',rfl⟩:∃x',vs=[x']:=by
  match vs,q1 with
  |[x'],_=>exact⟨x',rfl⟩
 have q1:vj X.K P lp qual te σ Q x' H1:=q1;obtain⟨a,xs,rfl,ag,ah,T,cont⟩:=q1;obtain⟨u,rfl,ru⟩:=vals1 r1
 cases ru;show wpAny _ _ (evalAll [do let v <-eval (.Lambda L body scope lp) X.env;standAt pos;pure v]) _ _ s1;obtain⟨cl,aa,ac,ae⟩:=rR (scope:=scope) (env:=X.env) λy hy hf=>I1.ok.has y.1 (S.free y hy hf);refine wpAny_evalAll_cons (Q01 (PySem.W.kla_eval ab ?_));rw[hq];refine CK I1 Y C B T aa λf c' pm U H2 s2 I2 ai mono=>?_;refine Q01 (wpAny_standAt (Q0c (wpAny_evalAll_nil ?_)));show wpAny _ _ (call (.builtin "sorted") [.ref a] [(Str.ofString "key",.ref f)]) _ _ s2;obtain⟨W,w0,wL,wt,wf⟩:=cont c' H2 ai mono
 have aj:∃ps,H1 P=some (.iQ ps):=by
  rcases T with e|⟨al,e,_⟩
  . exact⟨_,e⟩
  . exact⟨_,e⟩
 have ak:gi X.K H2 a xs:=by
  obtain⟨ps,hP⟩:=aj;rcases ag with(z|⟨o,z⟩)|z
  . exact .inl (.inl (mono a _ (jK z hP (by intro z;cases z)) z))
  . exact .inl (.inr ⟨o,mono a _ (jK z hP (by intro z;cases z)) z⟩)
  . exact .inr z
 refine gG (CU (Q:=Q) (W:=W) I2 ak ah w0 (λpl s' H' ks y u J wk hy ry=>?_) λpl s' H' ks us J wk af rk=>?_) λr s' ⟨v,H',J,rv,q⟩=>⟨v,H',J.mG,rv,q⟩
 . exact CO J S hr.hd hr.depth ac ae (Q0u _ (Q0b _ Q02)) (wL ks H' wk).2 (hb cl pm c' U) ry (he cl f c') (wt ks H' y wk hy)
 . obtain⟨ss,k1,k3⟩:=wf ks H' wk af;subst k1;exact⟨ph,_,JL rk,λp p1 p2 D hD=>k3 p p1 p2 D hD⟩
end
variable {P:Program}{w:World}{K:W.Frag}{mg:Str->Option Value}{base:Heap}
section
variable {X:Cx}
end
theorem l7.C5 {x qual:Str}{st:Stmt}{f c:Addr}{fd:FuncData}{N ps:List Str}{k:Nat}{sp:Sp}(F:l7 K x qual st f fd)(hc:fd.code=.ref c)(S:gP N ps (gC st))(len:∀vs H Q E,sp vs H Q E->vs.length=ps.length)
 (J:∀(A:Around) (outer:List Env) (s:Shared) (H:Hp) (vs:List V) (Q:VK) (E:XK),iu k (A.deeper (envOfC qual (gC st) s.heap.objs.size f (.ref c)))->sp vs H Q E->
   ∃t,j4 (gO f_ P w K mg base N qual (gC st) f (.ref c) A outer s H E).gN (jz st) t/\t { nx:=λ_ H'=>Q .non H',rt:=Q } (start N vs) H):d_ P w K mg base f_ (k+1) f fd ps sp:=by
 obtain⟨oc,od,kV,aa,pm,an,L,ct,ab,rfl,lk,U⟩:=F.ex;have hc:L=.ref c:=hc;subst hc;refine BZ lk U S len λA outer s H vs Q E hr Y=>?_;obtain⟨t,h,q⟩:=J A outer s H vs Q E hr Y;exact⟨t,h.gN,q⟩
def rZ (J:List Addr) (H:Hp):Prop:=∀b,H b=none\/(∃o xs,H b=some (.j2 o (.lst xs)))\/(b∈J/\H b=some (.iQ #[]))
theorem JO {P:Program}{w:World}{K:W.Frag}{mg mb:Str->Option Value}{CX:jL}{k:Nat}{fa a:Addr}{fd:FuncData}{x:Str}{sp:Sp}{J:Shared}{vs:List Value}{ns:List Int}{L:List (Addr × Addr)}
 (KX:K.In J.heap) (hT:W.TabsAt L J.heap) (ar:W.noTabs K=true) (au:BM mg J.heap) (aj:J.heap.Ns mainGlobals mg) (U:J.heap.Ns builtinsNs mb) (av:∀x:Str,x≠"__name__"->mb x=bootBuiltins x) (ao:J.heap.NoLimit) (hg:J.gens=#[])
 (ha:J.heap.get? a=some { cls:=.type "list",data:=.seq vs.toArray }) (hi:IntsAre vs ns) (hl:ns.length<=sizeLine) (hr:iu k callerA)
 (F:∀base:Heap,K.In base->base.Ns mainGlobals mg->BM mg base->d_ P w K mg base CX k fa fd [x] sp) (ai:∀(s:Shared) (u:Value),BindsTo s fd ⟨[u],[]⟩ [(x,u)])
 (aw:∀H:Hp,rZ (L.map (·.2)) H->(∀q∈L,H q.2=some (.iQ #[]))->gi K H a (ns.map V.int)->sp [.ref a] H (λv _=>v=.bl true) λ_ _ _=>False)
 (ax:∀H e s',CX [] H J (λ_ _ _=>False) e s'->False):
 codeAny (model P w) callerA (.call (.ref fa) ⟨[.ref a],[]⟩) (λr s'=>r=.ok (.ret (.bool true))/\OldK J.heap s'.heap/\s'.os=J.os/\AllBare s'.gens) J:=by
 have rv:=Ck hi;have ap:=hi.length
 have aa:∀b,b∈L.map (·.2)->J.heap.get? b=some (W.tabObj #[]):=λb hm=>by
  obtain⟨q,hq,rfl⟩:=List.mem_map.mp hm;exact(hT q hq).2
 have ak:a ∉ L.map (·.2):=λhm=>by
  have:=aa a hm;rw[ha] at this;cases this
 have ag:∀H:Hp,rZ (L.map (·.2)) H->(∀q∈L,H q.2=some (.iQ #[]))->gi K H a (ns.map V.int)->iF P w H J.heap->(∀b,H b≠none->b=a\/b∈L.map (·.2))->(H a≠none->K.lookup a=none)->
  codeAny (model P w) callerA (.call (.ref fa) ⟨[.ref a],[]⟩) (λr s'=>r=.ok (.ret (.bool true))/\OldK J.heap s'.heap/\s'.os=J.os/\AllBare s'.gens) J:=by
  intro H hO al hS am hA hK;have Y:∀{b:Addr} {o:Obj},J.heap.get? b=some o->H b=none->(lZ J.heap H).get? b=some o:=λe n=>GJ e n
  have ac:∀{b:Addr} {o:Obj},J.heap.get? b=some o->(∀us n,o.data≠ .seq us n)->(∀us,o.data≠ .fields us)->H b=none:=λ{b o} e d1 d2=>by
   cases q:H b with
   |none=>rfl
   |some u=>
    rcases hA b (by rw[q];simp) with e'|e'
    . subst e';rw[ha] at e;cases e;exact absurd rfl (d1 _ _)
    . rw[aa b e'] at e;cases e;exact absurd rfl (d2 _)
  have af:∀{b:Addr} {m:Str->Option Value},J.heap.Ns b m->(lZ J.heap H).Ns b m:=λ{b m} ⟨o,es,ep,e,d,r⟩=>⟨o,es,ep,Y e (ac e (by rw[d];intro us n z;cases z) (by rw[d];intro us z;cases z)),d,r⟩
  have an:K.In (lZ J.heap H):=λb o e=>Y (KX b o e) (by
   cases q:H b with
   |none=>rfl
   |some u=>
    rcases hA b (by rw[q];simp) with e'|e'
    . subst e';rw[hK (by rw[q];simp)] at e;cases e
    . have e2:=KX b o e;rw[aa b e'] at e2;cases e2;have:=List.all_eq_true.mp ar _ (W.mem_of_lookupK e);simp at this)
  have hM:Mod K mg (lZ J.heap H):=⟨an,af aj,⟨mb,af U,av⟩,let⟨mc,h1,h2⟩:=ao;⟨mc,af h1,h2⟩⟩
  have ay:BM mg (lZ J.heap H):=by
   obtain⟨bm,o,b1,b2,b3,b4,b5,b6,b7⟩:=au;exact⟨bm,o,b1,b2,b3,Y b4 (ac b4 (by rw[b7];intro us n z;cases z) (by rw[b7];intro us z;cases z)),b5,b6,b7⟩
  have e0:oj P w K mg (lZ J.heap H) callerA [] J H:=⟨rfl,hM,λb o e=>GK e,Q10 (GI _ _),trivial,λb U=>absurd (show b∈([]:List Addr) from U) (by simp),am,.of_eq hg⟩;refine codeAny_mono ((F _ an (af aj) ay).run callerA [] J H ⟨[.ref a],[]⟩ [.ref a] [.ref a] _ _ hr e0 (ai J (.ref a)) (.cons rfl .nil) (aw H hO al hS)) λr s' h=>?_
  cases r with
  |error e=>exact(ax H e s' h).elim
  |ok fl=>
   cases fl with
   |next=>exact False.elim h
   |brk=>exact False.elim h
   |cont=>exact False.elim h
   |ret u=>
    obtain⟨v,H',os,aq,un,ah,r',q⟩:=h;have q':v=.bl true:=q;subst q';obtain rfl:u=Value.bool true:=r'
    have ae:∀b,b∈L.map (·.2)->∃ps,s'.heap.get? b=some (W.tabObj ps):=λb hm=>by
     obtain⟨q,hq,rfl⟩:=List.mem_map.mp hm;obtain⟨az,e⟩:=un.kM _ _ (al q hq);exact⟨_,ah _ _ e⟩
    have keep:∀b o,b ∉ L.map (·.2)->J.heap.get? b=some o->s'.heap.get? b=some o:=λb o U e=>by
     cases q:H b with
     |none=>exact un.keep b o e q (by intro z;exact absurd (show b∈([]:List Addr) from z) (by simp)) (by simp)
     |some u=>
      rcases hO b with z|⟨ob,xs,z⟩|⟨z,_⟩
      . rw[q] at z;cases z
      . have z2:=un.kL b ob _ z;obtain⟨e1,_⟩:=am b _ z;obtain⟨e2,_⟩:=ah b _ z2;rw[e] at e1;cases e1;exact e2
      . exact absurd z U
    refine⟨rfl,⟨λb o e=>?_,λb o e=>?_⟩,os,aq⟩
    . by_cases U:b∈L.map (·.2)
      . obtain⟨ps,hP⟩:=ae b U;have e2:=aa b U;rw[e] at e2;cases e2;obtain⟨q,hq,rfl⟩:=List.mem_map.mp U;exact .inr (.inl ⟨((hT q hq).1.tab (hT q hq).2).isCodeTable,rfl,#[],ps,rfl,by rw[Q2r];exact hP⟩)
      . exact .inl (keep b o U e)
    . by_cases U:b∈L.map (·.2)
      . obtain⟨ps,hP⟩:=ae b U;exact⟨_,hP⟩
      . exact⟨o,keep b o U e⟩
 cases hk:K.lookup a with
 |some o=>
  have e:=KX a o hk;rw[ha] at e
  cases e;refine ag (λb=>if b∈L.map (·.2) then some (.iQ #[]) else none) (λb=>?_) (λq hq=>if_pos (Q20 hq)) (.inr ⟨_,vs.toArray,_,hk,rfl,rfl,rfl,by rw[Q08,ap];exact hl,by simpa using rv⟩) (λb u z=>?_) (λb z=>?_) λz=>absurd (if_neg ak) z
  . by_cases U:b∈L.map (·.2)
    . exact .inr (.inr ⟨U,if_pos U⟩)
    . exact .inl (if_neg U)
  . by_cases U:b∈L.map (·.2)
    . have z':=(if_pos U).symm.trans z
      cases z';exact aa b U
    . have z':=(if_neg U).symm.trans z
      cases z'
  . by_cases U:b∈L.map (·.2)
    . exact .inr U
    . exact absurd (if_neg U) z
 |none=>
  refine ag (λb=>if b∈L.map (·.2) then some (.iQ #[]) else if b=a then some (.j2 { cls:=.type "list",data:=.seq vs.toArray } (.lst (ns.map V.int))) else none) (λb=>?_) (λq hq=>if_pos (Q20 hq))
   (.inl (.inr ⟨{ cls:=.type "list",data:=.seq vs.toArray },(if_neg ak).trans (if_pos rfl)⟩)) (λb u z=>?_) (λb z=>?_) λ_=>hk
  . by_cases U:b∈L.map (·.2)
    . exact .inr (.inr ⟨U,if_pos U⟩)
    . by_cases ab:b=a
      . exact .inr (.inl ⟨_,_,(if_neg U).trans (if_pos ab)⟩)
      . exact .inl ((if_neg U).trans (if_neg ab))
  . by_cases U:b∈L.map (·.2)
    . have z':=(if_pos U).symm.trans z
      cases z';exact aa b U
    . have z:=(if_neg U).symm.trans z;by_cases ab:b=a
      . have z':=(if_pos ab).symm.trans z
        cases z';subst ab;exact⟨ha,by rw[Q04];exact hl,vs,_,rv,ha⟩
      . have z':=(if_neg ab).symm.trans z
        cases z'
  . by_cases U:b∈L.map (·.2)
    . exact .inr U
    . by_cases ab:b=a
      . exact .inl ab
      . exact absurd ((if_neg U).trans (if_neg ab)) z
theorem JP {l:W.OpenLaw}{n k:Nat}{q:Program}{loose:List Str}{XP:(Str->Option Value)->Heap->Prop}{YP:World->Heap->Prop}{d:DefRec}{K:Params->W.Frag}{sp:World->List (Addr × Addr)->Sp}{x:Str}{names:List Str}
 (hn:l.most=some n) (ae:n<=sizeLine) (af:d.params.defaults=[]) (hr:iu k callerA)
 (hY:∀(w:World) (h:Heap),YP w h->(K w.params).In h) (ag:∀w:World,W.noTabs (K w.params)=true)
 (tb:∀w:World,∃J:List (Addr × Addr),(∀q'∈J,∃y∈names,W.tabIn (K w.params) y=some q')/\
   (∀(mg:Str->Option Value) (fa:Addr) (h:Heap),(K w.params).In h->h.Ns mainGlobals mg->mg d.name=some (.ref fa)->
   ∃fd:FuncData,(∀(s:Shared) (u:Value),BindsTo s fd ⟨[u],[]⟩ [(x,u)])/\
    ∀base:Heap,(K w.params).In base->base.Ns mainGlobals mg->BM mg base->d_ l.prog w (K w.params) mg base f_ k fa fd [x] (sp w J)))
 (ab:∀y∈names,∃d',(recsOf q).find? (λe=>e.name == y)=some d')
 (ah:∀(w:World) (J:List (Addr × Addr)) (H:Hp) (a:Addr) (ns:List Int),ns.length<=n->rZ (J.map (·.2)) H->(∀q∈J,H q.2=some (.iQ #[]))->gi (K w.params) H a (ns.map V.int)->sp w J [.ref a] H (λv _=>v=.bl true) λ_ _ _=>False):
 W.WalkO q loose XP YP l.row.toRowW d [] (λf vs=>PySem.call f vs):=by
 refine Cj.IM hn af λw s₀ L mg mb fa o pm cd am a vs ns G Y ho hd an ai ac aa U hg=>?_;have KX:=hY w _ Y;obtain⟨J,ht,F⟩:=tb w;obtain⟨fd,hb,hF⟩:=F mg fa _ KX G.T.g ai
 have hT:W.TabsAt J L.heap:=λq' hq=>by
  obtain⟨y,hy,aj⟩:=ht q' hq;obtain⟨d',ak⟩:=ab y hy;exact W.tab_of G.T KX ak aj
 have al:BM mg L.heap:=by
  obtain⟨bm,ob,b1,b2,b3,b4,b5,b6⟩:=G.T.bmain;refine⟨bm,ob,b1,b2,λz=>?_,b3,b4,b5,b6⟩;obtain⟨o',es,ep,e,hd,_⟩:=G.T.g;rw[z,e] at b3;cases b3;rw[hd] at b6;cases b6
 exact JO KX hT (ag w) al G.T.g G.T.b G.T.builtins G.T.nolimit hg ac aa (Q0g U ae) hr hF hb (λH hO hP hS=>ah w J H a ns U hO hP hS) λH e s' h=>h.elim
end L2
namespace Pb
open L2 PyProof.Rows
mutual
inductive Kd where
 |num
 |ix
 |gA (fs:Fs)
 |rows (key by_:Str) (fs:Fs)
 |tree (k:Kd)
 |iP (fs:Fs)
inductive Fs where
 |nil
 |cons (x:Str) (k:Kd) (r:Fs)
end
mutual
inductive D where
 |int (z:Int)
 |str (x:Str)
 |tup (xs:Ds)
 |lst (xs:Ds)
 |dct (m:Ds)
inductive Ds where
 |nil
 |cons (x:Str) (d:D) (r:Ds)
end
mutual
noncomputable def Kd.dep:Kd->Nat
 | .num=>1
 | .ix=>1
 | .gA fs=>fs.dep+1
 | .rows _ _ fs=>fs.dep+1
 | .tree k=>k.dep+1
 | .iP fs=>fs.dep+1
noncomputable def Fs.dep:Fs->Nat
 | .nil=>0
 | .cons _ k r=>max k.dep r.dep
end
mutual
noncomputable def D.dep:D->Nat
 | .int _=>1
 | .str _=>1
 | .tup xs=>xs.dep+1
 | .lst xs=>xs.dep+1
 | .dct m=>m.dep+1
noncomputable def Ds.dep:Ds->Nat
 | .nil=>0
 | .cons _ d r=>max d.dep r.dep
end
theorem Kd.jr (k:Kd):1<=k.dep:=by cases k <;> simp[Kd.dep]
theorem D.jr (d:D):1<=d.dep:=by cases d <;> simp[D.dep]
noncomputable def Fs.names:Fs->List Str
 | .nil=>[]
 | .cons x _ r=>x::r.names
noncomputable def Fs.get:Fs->Str->Option Kd
 | .nil,_=>none
 | .cons y k r,x=>if x=y then some k else r.get x
noncomputable def Fs.at:Fs->Nat->Option (Str × Kd)
 | .nil,_=>none
 | .cons x k _,0=>some (x,k)
 | .cons _ _ r,i+1=>r.at i
noncomputable def Fs.snoc:Fs->Str->Kd->Fs
 | .nil,x,k=>.cons x k .nil
 | .cons y q r,x,k=>.cons y q (r.snoc x k)
noncomputable def Fs.take:Fs->Nat->Fs
 | .nil,_=>.nil
 | .cons _ _ _,0=>.nil
 | .cons x k r,i+1=>.cons x k (r.take i)
theorem Fs.vk:∀(fs:Fs) (x:Str) (k:Kd),(fs.snoc x k).names=fs.names++[x]
 | .nil,_,_=>rfl
 | .cons y q r,x,k=>by
   show y::(r.snoc x k).names=_;rw[Fs.vk r x k];rfl
theorem Fs.pq:∀(fs:Fs) (x:Str) (k:Kd),(fs.snoc x k).dep=max fs.dep k.dep
 | .nil,_,k=>by simp[Fs.snoc,Fs.dep]
 | .cons y q r,x,k=>by
   show max q.dep (r.snoc x k).dep=max (max q.dep r.dep) k.dep;rw[Fs.pq r x k,Nat.max_assoc]
theorem Fs.ky:∀(fs:Fs) (i:Nat),fs.names[i]? =(fs.at i).map (·.1)
 | .nil,i=>by simp[Fs.names,Fs.at]
 | .cons x k r,0=>by simp[Fs.names,Fs.at]
 | .cons x k r,i+1=>by
   show(x::r.names)[i+1]? =_;rw[List.getElem?_cons_succ,Fs.ky r i];rfl
theorem Fs.C6:∀{fs:Fs}{i:Nat},i<fs.names.length->∃x k,fs.at i=some (x,k)
 | .nil,i,h=>by simp[Fs.names] at h
 | .cons x k r,0,h=>⟨x,k,rfl⟩
 | .cons x k r,i+1,h=>Fs.C6 (fs:=r) (i:=i) (by simpa[Fs.names] using h)
theorem Fs.jw:∀{fs:Fs}{i:Nat}{x:Str}{k:Kd},fs.at i=some (x,k)->k.dep<=fs.dep
 | .nil,_,_,_,h=>by cases h
 | .cons x k r,0,_,_,h=>by
   cases h;exact Q2j _ _
 | .cons x k r,i+1,_,_,h=>Q0g (Fs.jw (fs:=r) (i:=i) h) (Q2k _ _)
theorem Fs.nz:∀{fs:Fs}{i:Nat}{x:Str}{k:Kd},fs.names.Nodup->fs.at i=some (x,k)->fs.get x=some k
 | .nil,_,_,_,_,h=>by cases h
 | .cons y q r,0,x,k,_,h=>by
   cases h;simp[Fs.get]
 | .cons y q r,i+1,x,k,J,h=>by
   have J:(y::r.names).Nodup:=J;obtain⟨L,U⟩:=List.nodup_cons.mp J;have h:r.at i=some (x,k):=h;have Y:x∈r.names:=Q0x (i:=i) (by rw[Fs.ky,h];rfl);show(if x=y then some q else r.get x)=some k;rw[if_neg (λe=>L (by rw[<-e];exact Y))];exact Fs.nz U h
theorem Fs.take_succ:∀{fs:Fs}{i:Nat}{x:Str}{k:Kd},fs.at i=some (x,k)->fs.take (i+1)=(fs.take i).snoc x k
 | .nil,_,_,_,h=>by cases h
 | .cons y q r,0,x,k,h=>by
   cases h
   cases r <;> rfl
 | .cons y q r,i+1,x,k,h=>by
   show Fs.cons y q (r.take (i+1))=Fs.cons y q ((r.take i).snoc x k);rw[Fs.take_succ (fs:=r) (i:=i) h]
theorem Fs.take_zero (fs:Fs):fs.take 0=.nil:=by cases fs <;> rfl
theorem Fs.take_all:∀(fs:Fs),fs.take fs.names.length=fs
 | .nil=>rfl
 | .cons x k r=>by
   show Fs.cons x k (r.take r.names.length)=_;rw[Fs.take_all r]
def px:Kd->Prop
 | .num=>True
 | .ix=>True
 |_=>False
def Fs.pl (fs:Fs) (x:Str):Prop:=∃k,fs.get x=some k/\px k
mutual
def Kd.W:Kd->Prop
 | .num=>True
 | .ix=>True
 | .gA fs=>fs.names.Nodup/\fs.names.length<=12/\fs.W
 | .rows key J fs=>fs.names.Nodup/\fs.names.length<=12/\fs.W/\fs.pl key/\(J=""\/fs.pl J)
 | .tree k=>k.W
 | .iP fs=>fs.names.Nodup/\fs.names.length<=12/\1<=fs.names.length/\fs.W
def Fs.W:Fs->Prop
 | .nil=>True
 | .cons _ k r=>k.W/\r.W
end
theorem Fs.nB:∀{fs:Fs}{i:Nat}{x:Str}{k:Kd},fs.W->fs.at i=some (x,k)->k.W
 | .nil,_,_,_,_,h=>by cases h
 | .cons x k r,0,_,_,w,h=>by
   unfold Fs.W at w
   cases h;exact w.1
 | .cons x k r,i+1,_,_,w,h=>by
   unfold Fs.W at w;exact Fs.nB (fs:=r) (i:=i) w.2 h
theorem Fs.vm {x:Str}{k:Kd}(hk:k.W):∀{fs:Fs},fs.W->(fs.snoc x k).W
 | .nil,_=>by
   show(Fs.cons x k .nil).W;unfold Fs.W;exact⟨hk,by unfold Fs.W;trivial⟩
 | .cons y q r,h=>by
   unfold Fs.W at h;show(Fs.cons y q (r.snoc x k)).W;unfold Fs.W;exact⟨h.1,Fs.vm hk h.2⟩
noncomputable def Ds.get:Ds->Str->Option D
 | .nil,_=>none
 | .cons y d r,x=>if x=y then some d else r.get x
noncomputable def keyOf (m:Ds) (x:Str):Key:=match m.get x with
 |some (.int z)=>.inl z
 |some (.str s)=>.inr s
 |_=>.inl 0
noncomputable def rankOf (key J:Str) (m:Ds):List Key:=if J="" then [keyOf m key] else [keyOf m J,keyOf m key]
theorem JQ {key J:Str}{a b:Ds}(h:rankOf key J a=rankOf key J b):keyOf a key=keyOf b key:=by
 unfold rankOf at h;split at h
 . exact(List.cons.inj h).1
 . exact(List.cons.inj (List.cons.inj h).2).1
def pz (key J:Str) (a b:Ds):Prop:=iz (rankOf key J a) (rankOf key J b)=true
def oy (key J:Str) (a b:Ds):Prop:=lG (rankOf key J a) (rankOf key J b)
noncomputable def ins (key J:Str) (m:Ds):List Ds->List Ds
 |[]=>[m]
 |y::q=>if iz (rankOf key J y) (rankOf key J m)=true then y::ins key J m q else m::y::q
noncomputable def nE (key J:Str):List Ds->List Ds
 |[]=>[]
 |m::r=>ins key J m (nE key J r)
theorem vn (key J:Str)(m:Ds):∀l:List Ds,(ins key J m l).Perm (m::l)
 |[]=>List.Perm.refl _
 |y::q=>by
  unfold ins;split
  . exact((vn key J m q).cons y).trans (List.Perm.swap m y q)
  . exact List.Perm.refl _
theorem mV (key J:Str):∀l:List Ds,(nE key J l).Perm l
 |[]=>List.Perm.refl _
 |m::r=>(vn key J m _).trans ((mV key J r).cons m)
theorem JR {a b:List Key}(h:iz a b=true):lG a b:=KeyOrd.kle_of_klt (O:=ph) h
theorem JS {a b c:List Key}(h1:lG a b)(h2:lG b c):lG a c:=KeyOrd.kle_trans (O:=ph) h1 h2
theorem C7 (key J:Str)(m:Ds):∀{l:List Ds},l.Pairwise (oy key J)->(ins key J m l).Pairwise (oy key J)
 |[],_=>Q2f _ _
 |y::q,h=>by
  obtain⟨h1,h2⟩:=List.pairwise_cons.mp h;unfold ins;by_cases c:iz (rankOf key J y) (rankOf key J m)=true
  . rw[if_pos c];refine List.pairwise_cons.mpr ⟨λz L=>?_,C7 key J m h2⟩;rcases List.mem_cons.mp ((vn key J m q).mem_iff.mp L) with e|e
    . rw[e];exact JR c
    . exact h1 z e
  . rw[if_neg c];have c':oy key J m y:=by unfold oy lG;simpa using c
    refine List.pairwise_cons.mpr ⟨λz L=>?_,h⟩;rcases List.mem_cons.mp L with e|e
    . rw[e];exact c'
    . exact JS c' (h1 z e)
theorem vo (key J:Str):∀l:List Ds,(nE key J l).Pairwise (oy key J)
 |[]=>List.Pairwise.nil
 |m::r=>C7 key J m (vo key J r)
theorem vp {key J:Str}{l:List Ds}(h:l.Pairwise (oy key J))(U:(l.map λm=>keyOf m key).Nodup):l.Pairwise (pz key J):=by
 have L:l.Pairwise λa b=>keyOf a key≠keyOf b key:=List.pairwise_map.mp U;refine(h.and L).imp λ{a b} ⟨h1,h2⟩=>?_;rcases qB (rankOf key J a) (rankOf key J b) with q|q|q
 . exact q
 . exact absurd (JQ q) h2
 . have h1:iz (rankOf key J b) (rankOf key J a)=false:=h1;rw[h1] at q;cases q
theorem C8 {key J:Str}:∀{U L:List Ds},U.Perm L->U.Pairwise (pz key J)->L.Pairwise (pz key J)->U=L
 |[],L,p,_,_=>by rw[p.nil_eq]
 |a::r,[],p,_,_=>absurd p.length_eq (by simp)
 |a::r,b::q,p,h1,h2=>by
  obtain⟨a1,a2⟩:=List.pairwise_cons.mp h1;obtain⟨b1,b2⟩:=List.pairwise_cons.mp h2
  have e:a=b:=by
   have ha:a∈b::q:=p.mem_iff.mp Q02;have hb:b∈a::r:=p.mem_iff.mpr Q02;rcases List.mem_cons.mp ha with e|e
   . exact e
   . rcases List.mem_cons.mp hb with Y|Y
     . exact Y.symm
     . have z:=pf _ _ _ (a1 b Y) (b1 a e);rw[rY] at z;cases z
  subst e;rw[C8 ((Q33 a).mp p) a2 b2]
theorem JT {key J:Str}{l z:List Ds}(p:z.Perm l)(h:z.Pairwise (oy key J))(L:(l.map λm=>keyOf m key).Nodup):z=nE key J l:=
 C8 (p.trans (mV key J l).symm) (vp h ((p.map _).nodup_iff.mpr L)) (vp (vo key J l) (((mV key J l).map _).nodup_iff.mpr L))
noncomputable def jb:List Ds->Ds
 |[]=>.nil
 |m::r=>.cons "" (.dct m) (jb r)
noncomputable abbrev pairD (a b:D):D:=.tup (.cons "" a (.cons "" b .nil))
mutual
def Tree (P:D->Prop):D->Prop
 | .tup xs=>kz P xs
 |_=>False
def kz (P:D->Prop):Ds->Prop
 | .cons _ t (.cons _ (.lst as) .nil)=>P t/\i6 P as
 |_=>False
def i6 (P:D->Prop):Ds->Prop
 | .nil=>True
 | .cons _ d r=>Tree P d/\i6 P r
end
mutual
def gU:Kd->D->Prop
 | .num,d=>∃z,d=.int z
 | .ix,d=>∃x,d=.str x
 | .gA fs,d=>∃m,d=.dct m/\iy fs m
 | .rows key L fs,d=>∃J:List Ds,d=.lst (jb J)/\(∀m∈J,iy fs m)/\J.Pairwise (pz key L)/\(J.map λm=>keyOf m key).Nodup
 | .tree k,d=>Tree (gU k) d
 | .iP fs,d=>∃x v,d=pairD (.str x) v/\kg fs x v
def iy:Fs->Ds->Prop
 | .nil,m=>m=.nil
 | .cons x k r,m=>∃d q,m=.cons x d q/\gU k d/\iy r q
def kg:Fs->Str->D->Prop
 | .nil,_,_=>False
 | .cons y k r,x,v=>(x=y/\gU k v)\/(x≠y/\kg r x v)
end
theorem Tree.shape {P:D->Prop}:∀{d:D},Tree P d->∃x y t as,d=.tup (.cons x t (.cons y (.lst as) .nil))/\P t/\i6 P as
 | .tup (.cons x t (.cons y (.lst as) .nil)),h=>by
   unfold Tree kz at h;exact⟨x,y,t,as,rfl,h.1,h.2⟩
 | .tup .nil,h=>by unfold Tree kz at h;exact h.elim
 | .tup (.cons _ _ .nil),h=>by unfold Tree kz at h;exact h.elim
 | .tup (.cons _ _ (.cons _ (.int _) _)),h=>by unfold Tree kz at h;exact h.elim
 | .tup (.cons _ _ (.cons _ (.str _) _)),h=>by unfold Tree kz at h;exact h.elim
 | .tup (.cons _ _ (.cons _ (.tup _) _)),h=>by unfold Tree kz at h;exact h.elim
 | .tup (.cons _ _ (.cons _ (.dct _) _)),h=>by unfold Tree kz at h;exact h.elim
 | .tup (.cons _ _ (.cons _ (.lst _) (.cons _ _ _))),h=>by unfold Tree kz at h;exact h.elim
 | .int _,h=>by unfold Tree at h;exact h.elim
 | .str _,h=>by unfold Tree at h;exact h.elim
 | .lst _,h=>by unfold Tree at h;exact h.elim
 | .dct _,h=>by unfold Tree at h;exact h.elim
theorem iy.get:∀{fs:Fs}{m:Ds}{x:Str}{k:Kd},iy fs m->fs.get x=some k->∃d,m.get x=some d/\gU k d
 | .nil,_,_,_,_,h=>by cases h
 | .cons y q r,m,x,k,f,h=>by
   unfold iy at f;obtain⟨d,t,rfl,J,L⟩:=f;have h:(if x=y then some q else r.get x)=some k:=h;by_cases e:x=y
   . rw[if_pos e] at h
     cases h;exact⟨d,by show(if x=y then some d else t.get x)=_;rw[if_pos e],J⟩
   . rw[if_neg e] at h;obtain⟨d',U,Y⟩:=iy.get L h;exact⟨d',by show(if x=y then some d else t.get x)=_;rw[if_neg e];exact U,Y⟩
theorem iy.plain {fs:Fs}{m:Ds}{x:Str}(f:iy fs m)(h:fs.pl x):(m.get x=some (.int 0)\/True)/\((∃z,m.get x=some (.int z)/\keyOf m x=.inl z/\fs.get x=some .num)\/∃s,m.get x=some (.str s)/\keyOf m x=.inr s/\fs.get x=some .ix):=by
 refine⟨.inr trivial,?_⟩;obtain⟨k,h1,h2⟩:=h;obtain⟨d,J,L⟩:=f.get h1
 cases k with
 |num=>
  unfold gU at L;obtain⟨z,rfl⟩:=L;exact .inl ⟨z,J,by unfold keyOf;rw[J],h1⟩
 |ix=>
  unfold gU at L;obtain⟨s,rfl⟩:=L;exact .inr ⟨s,J,by unfold keyOf;rw[J],h1⟩
 |gA _=>exact h2.elim
 |rows _ _ _=>exact h2.elim
 |tree _=>exact h2.elim
 |iP _=>exact h2.elim
theorem C9:∀{fs:Fs}{x:Str}{v:D},kg fs x v->x∈fs.names
 | .nil,_,_,h=>by unfold kg at h;exact h.elim
 | .cons y k r,x,v,h=>by
   unfold kg at h;rcases h with⟨e,_⟩|⟨_,h⟩
   . rw[e];exact Q02
   . exact Q06 _ (C9 h)
noncomputable def lH:Option Kd->Bool
 |some .num=>true
 |_=>false
theorem iy.tag {fs:Fs}{m:Ds}{x:Str}(f:iy fs m)(h:fs.pl x):iE (keyOf m x)=lH (fs.get x):=by
 rcases(f.plain h).2 with⟨z,_,e,g⟩|⟨s,_,e,g⟩ <;> rw[e,g] <;> rfl
theorem JU {fs:Fs}{key J:Str}{m:Ds}(f:iy fs m)(h1:fs.pl key)(h2:J=""\/fs.pl J):(rankOf key J m).map iE=if J="" then [lH (fs.get key)] else [lH (fs.get J),lH (fs.get key)]:=by
 unfold rankOf;split
 . show [iE (keyOf m key)]=_;rw[f.tag h1]
 . rename_i e;rcases h2 with z|z
   . exact absurd z e
   . show [iE (keyOf m J),iE (keyOf m key)]=_;rw[f.tag h1,f.tag z]
noncomputable def cellAt (ns:List Int) (n:Int):Int:=if 0<ns.length then ns.getD (n % (ns.length:Int)).toNat 0 else 0
noncomputable def nx (ns:List Int) (n:Int):Int:=
 ((cellAt ns n % 2147483647+n * n * 7919+11) * 48271 % 2147483647) * ((cellAt ns n % 2147483647+n * n * 7919+11) * 48271 % 2147483647) % 1999999973
theorem vq (ns:List Int)(n:Int):0<=nx ns n:=Q0k _ (by decide)
theorem vv (ns:List Int)(n:Int):nx ns n<1999999973:=Q0l _ (by decide)
noncomputable def num (ns:List Int) (n:Int):Int:=
 if nx ns n % 3=0 then nx ns n / 3 % 7 - 3 else(cellAt ns n % 10 ^ 40+nx ns n * 10 ^ 29) % (2 * 10 ^ 40) - 10 ^ 40
noncomputable def kT:Str:=" !#$&'()*+,-./0123456789:;<=>?@ABCDEFGHIJKLMNOPQRSTUVWXYZ"++"[\\]^_`abcdefghijklmnopqrstuvwxyz{|}~"
noncomputable def pA (m:Int):Nat->Str
 |0=>""
 |k+1=>pA m k++⟨#[(kT.cps.toList.getD ((m / 145+(k:Int) * (k:Int) * (m / 7 % 3)) % 93).toNat 0)]⟩
noncomputable def ix (ns:List Int) (n:Int):Str:=pA (nx ns n) (if nx ns n / 5 % 29=0 then 40 else(nx ns n % 5).toNat)
noncomputable def times (g:Int->D × Int):Nat->Int->Ds × Int
 |0,n=>(.nil,n)
 |m+1,n=>(.cons "" (g n).1 (times g m (g n).2).1,(times g m (g n).2).2)
noncomputable def iR (ns:List Int) (f:Nat->Int->D × Int):Nat->Nat->Int->D × Int
 |0,_,n=>(.int 0,n)
 |fu+1,J,n=>
  (pairD (f (J / 2) n).1 (.lst (times (iR ns f fu (J / 2)) (nx ns ((f (J / 2) n).2+1) % ((J:Int)+1)).toNat ((f (J / 2) n).2+1)).1),
    (times (iR ns f fu (J / 2)) (nx ns ((f (J / 2) n).2+1) % ((J:Int)+1)).toNat ((f (J / 2) n).2+1)).2)
noncomputable def nF (key:Str) (l:List Ds) (k:Key):Bool:=l.any λr=>decide (keyOf r key=k)
noncomputable def h_ (g:Int->Ds × Int) (key:Str):Nat->List Ds->Int->List Ds × Int
 |0,J,n=>(J,n)
 |m+1,J,n=>if nF key J (keyOf (g n).1 key)=true then h_ g key m J (g n).2 else h_ g key m (J++[(g n).1]) (g n).2
mutual
noncomputable def val (ns:List Int):Kd->Nat->Int->D × Int
 | .num,_,n=>(.int (num ns (n+1)),n+1)
 | .ix,_,n=>(.str (ix ns (n+1)),n+1)
 | .gA fs,J,n=>(.dct (gQ ns fs J n).1,(gQ ns fs J n).2)
 | .rows key L fs,J,n=>
   (.lst (jb (nE key L (h_ (gQ ns fs (J / 2)) key (nx ns (n+1) % ((J:Int)+1)).toNat [] (n+1)).1)),(h_ (gQ ns fs (J / 2)) key (nx ns (n+1) % ((J:Int)+1)).toNat [] (n+1)).2)
 | .tree k,J,n=>iR ns (val ns k) 4 J n
 | .iP fs,J,n=>jl ns fs (nx ns (n+1) % (fs.names.length:Int)).toNat J (n+1)
noncomputable def gQ (ns:List Int):Fs->Nat->Int->Ds × Int
 | .nil,_,n=>(.nil,n)
 | .cons x k r,J,n=>(.cons x (val ns k J n).1 (gQ ns r J (val ns k J n).2).1,(gQ ns r J (val ns k J n).2).2)
noncomputable def jl (ns:List Int):Fs->Nat->Nat->Int->D × Int
 | .nil,_,_,n=>(.int 0,n)
 | .cons x k _,0,J,n=>(pairD (.str x) (val ns k J n).1,(val ns k J n).2)
 | .cons _ _ r,i+1,J,n=>jl ns r i J n
end
theorem r8 {g:Int->Ds × Int}{key:Str}:∀(m:Nat) (J:List Ds) (n:Int),(J.map λr=>keyOf r key).Nodup->((h_ g key m J n).1.map λr=>keyOf r key).Nodup
 |0,_,_,h=>h
 |m+1,J,n,h=>by
  unfold h_;split
  . exact r8 m J _ h
  . rename_i c;refine r8 m _ _ ?_;rw[Q0m];refine List.nodup_append.mpr ⟨h,by simp,λa L b U=>?_⟩;have:b=keyOf (g n).1 key:=by simpa using U
    rw[this];obtain⟨r,Y,e⟩:=List.mem_map.mp L;exact λe2=>c (List.any_eq_true.mpr ⟨r,Y,decide_eq_true (e.trans e2)⟩)
theorem pB {g:Int->Ds × Int}{key:Str}{R:Ds->Prop}(L:∀n,R (g n).1):∀(m:Nat) (J:List Ds) (n:Int),(∀r∈J,R r)->∀r∈(h_ g key m J n).1,R r
 |0,_,_,h=>h
 |m+1,J,n,h=>by
  unfold h_;split
  . exact pB L m J _ h
  . refine pB L m _ _ λr U=>?_;rcases List.mem_append.mp U with q|q
    . exact h r q
    . have:r=(g n).1:=by simpa using q
      rw[this];exact L n
theorem C_ {P:D->Prop}{g:Int->D × Int}(J:∀n,Tree P (g n).1):∀(m:Nat) (n:Int),i6 P (times g m n).1
 |0,_=>by unfold times i6;trivial
 |m+1,n=>by
  unfold times i6;exact⟨J n,C_ J m _⟩
theorem vw {ns:List Int}{P:D->Prop}{f:Nat->Int->D × Int}(L:∀J n,J<8->P (f J n).1):∀(fu J:Nat) (n:Int),J<8->J<2 ^ fu->Tree P (iR ns f (fu+1) J n).1
 |0,J,n,_,h=>by
  have e:J=0:=by simpa using h
  subst e;unfold iR
  have U:(nx ns ((f (0 / 2) n).2+1) % (((0:Nat):Int)+1)).toNat=0:=by
   have:nx ns ((f (0 / 2) n).2+1) % (((0:Nat):Int)+1)=0:=by
    show _ % (1:Int)=0;exact Int.emod_one _
   rw[this];rfl
  rw[U];unfold Tree kz;exact⟨L _ _ (by decide),by unfold times i6;trivial⟩
 |fu+1,J,n,h8,h=>by
  have Y:=λm=>vw (ns:=ns) L fu (J / 2) m (by omega) (by rw[Nat.pow_succ] at h;omega);unfold iR;unfold Tree kz;exact⟨L _ _ (by omega),C_ Y _ _⟩
mutual
theorem qC (ns:List Int):∀(k:Kd),k.W->∀(J:Nat) (n:Int),J<8->gU k (val ns k J n).1
 | .num,_,J,n,_=>by unfold val gU;exact⟨_,rfl⟩
 | .ix,_,J,n,_=>by unfold val gU;exact⟨_,rfl⟩
 | .gA fs,w,J,n,h=>by
   unfold Kd.W at w;unfold val gU;exact⟨_,rfl,qD ns fs w.2.2 J n h⟩
 | .rows key L fs,w,J,n,h=>by
   unfold Kd.W at w;unfold val gU;have U:=r8 (g:=gQ ns fs (J / 2)) (key:=key) (nx ns (n+1) % ((J:Int)+1)).toNat [] (n+1) Q15;refine⟨_,rfl,λm Y=>?_,?_,?_⟩
   . exact pB (R:=iy fs) (λn=>qD ns fs w.2.2.1 (J / 2) n (by omega)) _ _ _ (λr hr=>absurd hr (by simp)) m ((mV key L _).mem_iff.mp Y)
   . exact vp (vo key L _) (((mV key L _).map _).nodup_iff.mpr U)
   . exact((mV key L _).map _).nodup_iff.mpr U
 | .tree k,w,J,n,h=>by
   unfold Kd.W at w;unfold val gU;exact vw (λJ n h=>qC ns k w J n h) 3 J n h (by simpa using h)
 | .iP fs,w,J,n,h=>by
   unfold Kd.W at w;unfold val gU
   have hl:(nx ns (n+1) % (fs.names.length:Int)).toNat<fs.names.length:=by
    have:=Q0l (nx ns (n+1)) (show(0:Int)<fs.names.length by omega);have:=Q0k (nx ns (n+1)) (show(fs.names.length:Int)≠0 by omega);omega
   exact Dd ns fs w.2.2.2 w.1 _ J _ h hl
theorem qD (ns:List Int):∀(fs:Fs),fs.W->∀(J:Nat) (n:Int),J<8->iy fs (gQ ns fs J n).1
 | .nil,_,_,_,_=>by unfold gQ iy;rfl
 | .cons x k r,w,J,n,h=>by
   unfold Fs.W at w;unfold gQ iy;exact⟨_,_,rfl,qC ns k w.1 J n h,qD ns r w.2 J _ h⟩
theorem Dd (ns:List Int):∀(fs:Fs),fs.W->fs.names.Nodup->∀(i J:Nat) (n:Int),J<8->i<fs.names.length->∃x v,(jl ns fs i J n).1=pairD (.str x) v/\kg fs x v
 | .nil,_,_,i,_,_,_,hi=>by simp[Fs.names] at hi
 | .cons x k r,w,L,0,J,n,h,hi=>by
   unfold Fs.W at w;unfold jl;exact⟨x,_,rfl,by unfold kg;exact .inl ⟨rfl,qC ns k w.1 J n h⟩⟩
 | .cons x k r,w,L,i+1,J,n,h,hi=>by
   unfold Fs.W at w;unfold jl;have L:(x::r.names).Nodup:=L;obtain⟨U,Y⟩:=List.nodup_cons.mp L;obtain⟨y,v,e,f⟩:=Dd ns r w.2 Y i J n h (by simpa[Fs.names] using hi);refine⟨y,v,e,?_⟩;unfold kg;exact .inr ⟨λz=>U (by rw[<-z];exact C9 f),f⟩
end
mutual
noncomputable def Kd.dB:Kd->Nat
 | .num=>1
 | .ix=>1
 | .gA fs=>fs.dB+1
 | .rows _ _ fs=>fs.dB+2
 | .tree k=>k.dB+10
 | .iP fs=>fs.dB+2
noncomputable def Fs.dB:Fs->Nat
 | .nil=>0
 | .cons _ k r=>max k.dB r.dB
end
mutual
noncomputable def Kd.cB:Kd->Nat
 | .num=>1
 | .ix=>1
 | .gA fs=>fs.cB
 | .rows _ _ fs=>8 * fs.cB+1
 | .tree k=>(k.cB+1) * 585
 | .iP fs=>fs.cB+1
noncomputable def Fs.cB:Fs->Nat
 | .nil=>0
 | .cons _ k r=>k.cB+r.cB
end
theorem Df:∀{l:List Ds}{n:Nat},(∀m∈l,m.dep<=n)->(jb l).dep<=n+1
 |[],n,_=>by simp[jb,Ds.dep]
 |m::r,n,h=>by
  have h1:=h m Q02;have h2:=Df (l:=r) (n:=n) λx J=>h x (Q06 _ J);simp only[jb,Ds.dep,D.dep];omega
theorem Dg {g:Int->D × Int}{N:Nat}(J:∀n,(g n).1.dep<=N):∀(m:Nat) (n:Int),(times g m n).1.dep<=N
 |0,_=>by simp[times,Ds.dep]
 |m+1,n=>by
  have h1:=J n;have h2:=Dg J m (g n).2;simp only[times,Ds.dep];omega
theorem Dh {ns:List Int}{f:Nat->Int->D × Int}{N:Nat}(h1:1<=N)(L:∀J n,(f J n).1.dep<=N):∀(fu J:Nat) (n:Int),(iR ns f fu J n).1.dep<=N+2 * fu
 |0,_,_=>by simp[iR,D.dep];omega
 |fu+1,J,n=>by
  have a:=L (J / 2) n;have b:=Dg (g:=iR ns f fu (J / 2)) (N:=N+2 * fu) (λn=>Dh h1 L fu (J / 2) n) (nx ns ((f (J / 2) n).2+1) % ((J:Int)+1)).toNat ((f (J / 2) n).2+1);simp only[iR,D.dep,Ds.dep];omega
theorem Kd.JV (k:Kd):1<=k.dB:=by cases k <;> simp[Kd.dB]
mutual
theorem pC (ns:List Int):∀(k:Kd) (J:Nat) (n:Int),(val ns k J n).1.dep<=k.dB
 | .num,_,_=>by simp[val,D.dep,Kd.dB]
 | .ix,_,_=>by simp[val,D.dep,Kd.dB]
 | .gA fs,J,n=>by
   have:=vx ns fs J n;simp only[val,D.dep,Kd.dB];omega
 | .rows key L fs,J,n=>by
   have:=Df (l:=nE key L (h_ (gQ ns fs (J / 2)) key (nx ns (n+1) % ((J:Int)+1)).toNat [] (n+1)).1) (n:=fs.dB) λm U=>
    pB (R:=λm=>m.dep<=fs.dB) (λn=>vx ns fs (J / 2) n) _ _ _ (λr Y=>absurd Y (by simp)) m ((mV key L _).mem_iff.mp U)
   simp only[val,D.dep,Kd.dB];omega
 | .tree k,J,n=>by
   have:=Dh (ns:=ns) (f:=val ns k) k.JV (λJ n=>pC ns k J n) 4 J n;simp only[val,Kd.dB];omega
 | .iP fs,J,n=>by
   have:=Di ns fs (nx ns (n+1) % (fs.names.length:Int)).toNat J (n+1);simp only[val,Kd.dB];omega
theorem vx (ns:List Int):∀(fs:Fs) (J:Nat) (n:Int),(gQ ns fs J n).1.dep<=fs.dB
 | .nil,_,_=>by simp[gQ,Ds.dep]
 | .cons x k r,J,n=>by
   have a:=pC ns k J n;have b:=vx ns r J (val ns k J n).2;simp only[gQ,Ds.dep,Fs.dB];omega
theorem Di (ns:List Int):∀(fs:Fs) (i J:Nat) (n:Int),(jl ns fs i J n).1.dep<=fs.dB+2
 | .nil,_,_,_=>by simp[jl,D.dep]
 | .cons x k r,0,J,n=>by
   have a:=pC ns k J n;simp only[jl,D.dep,Ds.dep,Fs.dB];omega
 | .cons x k r,i+1,J,n=>by
   have a:=Di ns r i J n;simp only[jl,Fs.dB];omega
end
theorem mod_le {a:Int}{J:Nat}(h:J<8):(a % ((J:Int)+1)).toNat<=J:=by
 have:=Q0l a (show(0:Int)<(J:Int)+1 by omega);have:=Q0k a (show((J:Int)+1)≠0 by omega);omega
theorem vy {g:Int->D × Int}{N:Nat}(J:∀n,n<=(g n).2/\(g n).2<=n+N):∀(m:Nat) (n:Int),n<=(times g m n).2/\(times g m n).2<=n+(m * N:Nat)
 |0,n=>by simp[times]
 |m+1,n=>by
  obtain⟨L,U⟩:=J n;obtain⟨Y,b2⟩:=vy J m (g n).2;have e:(m+1) * N=m * N+N:=Q1p m N;simp only[times];rw[e];omega
noncomputable def l9:Nat->Nat
 |0=>0
 |n+1=>8 * l9 n+1
theorem pE {ns:List Int}{f:Nat->Int->D × Int}{N:Nat}(L:∀J n,J<8->n<=(f J n).2/\(f J n).2<=n+N):∀(fu J:Nat) (n:Int),J<8->n<=(iR ns f fu J n).2/\(iR ns f fu J n).2<=n+((N+1) * l9 fu:Nat)
 |0,_,n,_=>by simp[iR,l9]
 |fu+1,J,n,h=>by
  obtain⟨U,Y⟩:=L (J / 2) n (by omega);obtain⟨b1,b2⟩:=vy (g:=iR ns f fu (J / 2)) (N:=(N+1) * l9 fu) (λn=>pE L fu (J / 2) n (by omega)) (nx ns ((f (J / 2) n).2+1) % ((J:Int)+1)).toNat ((f (J / 2) n).2+1);have c:=mod_le (a:=nx ns ((f (J / 2) n).2+1)) h;have d:(nx ns ((f (J / 2) n).2+1) % ((J:Int)+1)).toNat * ((N+1) * l9 fu)<=8 * ((N+1) * l9 fu):=Q12 _ (by omega)
  have e:(N+1) * l9 (fu+1)=8 * ((N+1) * l9 fu)+(N+1):=by
   show(N+1) * (8 * l9 fu+1)=_;rw[Nat.mul_add,Q34,Nat.mul_one]
  simp only[iR];rw[e];omega
theorem r_ {g:Int->Ds × Int}{key:Str}{N:Nat}(L:∀n,n<=(g n).2/\(g n).2<=n+N):∀(m:Nat) (J:List Ds) (n:Int),n<=(h_ g key m J n).2/\(h_ g key m J n).2<=n+(m * N:Nat)
 |0,_,n=>by simp[h_]
 |m+1,J,n=>by
  obtain⟨Y,a2⟩:=L n;have e:(m+1) * N=m * N+N:=Q1p m N;unfold h_;rw[e];split
  . obtain⟨U,b2⟩:=r_ (key:=key) L m J (g n).2;omega
  . obtain⟨U,b2⟩:=r_ (key:=key) L m (J++[(g n).1]) (g n).2;omega
mutual
theorem lI (ns:List Int):∀(k:Kd) (J:Nat) (n:Int),J<8->n<=(val ns k J n).2/\(val ns k J n).2<=n+k.cB
 | .num,_,_,_=>by simp only[val,Kd.cB];omega
 | .ix,_,_,_=>by simp only[val,Kd.cB];omega
 | .gA fs,J,n,h=>by
   have:=qE ns fs J n h;simp only[val,Kd.cB];omega
 | .rows key L fs,J,n,h=>by
   obtain⟨U,Y⟩:=r_ (g:=gQ ns fs (J / 2)) (key:=key) (N:=fs.cB) (λn=>qE ns fs (J / 2) n (by omega)) (nx ns (n+1) % ((J:Int)+1)).toNat [] (n+1);have c:=mod_le (a:=nx ns (n+1)) h;have d:(nx ns (n+1) % ((J:Int)+1)).toNat * fs.cB<=8 * fs.cB:=Q12 _ (by omega);simp only[val,Kd.cB];omega
 | .tree k,J,n,h=>by
   have:=pE (ns:=ns) (f:=val ns k) (N:=k.cB) (λJ n h=>lI ns k J n h) 4 J n h;have e:l9 4=585:=rfl;rw[e] at this;simp only[val,Kd.cB];omega
 | .iP fs,J,n,h=>by
   have:=Dk ns fs (nx ns (n+1) % (fs.names.length:Int)).toNat J (n+1) h;simp only[val,Kd.cB];omega
theorem qE (ns:List Int):∀(fs:Fs) (J:Nat) (n:Int),J<8->n<=(gQ ns fs J n).2/\(gQ ns fs J n).2<=n+fs.cB
 | .nil,_,_,_=>by simp[gQ,Fs.cB]
 | .cons x k r,J,n,h=>by
   have a:=lI ns k J n h;have b:=qE ns r J (val ns k J n).2 h;simp only[gQ,Fs.cB];omega
theorem Dk (ns:List Int):∀(fs:Fs) (i J:Nat) (n:Int),J<8->n<=(jl ns fs i J n).2/\(jl ns fs i J n).2<=n+fs.cB
 | .nil,_,_,_,_=>by simp[jl,Fs.cB]
 | .cons x k r,0,J,n,h=>by
   have a:=lI ns k J n h;simp only[jl,Fs.cB];omega
 | .cons x k r,i+1,J,n,h=>by
   have a:=Dk ns r i J n h;simp only[jl,Fs.cB];omega
end
noncomputable def CB:Nat->Nat
 |0=>1
 |d+1=>1200 * CB d
theorem pF:∀d,1<=CB d
 |0=>Q00 _
 |d+1=>by have:=pF d;show 1<=1200 * CB d;omega
mutual
theorem pG:∀(k:Kd) (d:Nat),k.W->k.dep<=d+1->k.cB<=CB d
 | .num,d,_,_=>pF d
 | .ix,d,_,_=>pF d
 | .gA fs,0,_,h=>by
   simp only[Kd.dep] at h
   cases fs with
   |nil=>simp[Kd.cB,Fs.cB]
   |cons x k r=>have:=k.jr;simp only[Fs.dep] at h;omega
 | .gA fs,d+1,w,h=>by
   unfold Kd.W at w;simp only[Kd.dep] at h;have:=sd fs d w.2.2 (by omega);have e:fs.names.length * CB d<=12 * CB d:=Q12 _ w.2.1;show fs.cB<=1200 * CB d;omega
 | .rows key J fs,0,w,h=>by
   simp only[Kd.dep] at h
   cases fs with
   |nil=>simp[Kd.cB,Fs.cB,CB]
   |cons x k r=>have:=k.jr;simp only[Fs.dep] at h;omega
 | .rows key J fs,d+1,w,h=>by
   unfold Kd.W at w;simp only[Kd.dep] at h;have:=sd fs d w.2.2.1 (by omega);have e:fs.names.length * CB d<=12 * CB d:=Q12 _ w.2.1;have p:=pF d;show 8 * fs.cB+1<=1200 * CB d;omega
 | .tree k,0,w,h=>by
   have:=k.jr;simp only[Kd.dep] at h;omega
 | .tree k,d+1,w,h=>by
   unfold Kd.W at w;simp only[Kd.dep] at h;have:=pG k d w (by omega);have p:=pF d;show(k.cB+1) * 585<=1200 * CB d;omega
 | .iP fs,0,w,h=>by
   simp only[Kd.dep] at h
   cases fs with
   |nil=>simp[Kd.cB,Fs.cB,CB]
   |cons x k r=>have:=k.jr;simp only[Fs.dep] at h;omega
 | .iP fs,d+1,w,h=>by
   unfold Kd.W at w;simp only[Kd.dep] at h;have:=sd fs d w.2.2.2 (by omega);have e:fs.names.length * CB d<=12 * CB d:=Q12 _ w.2.1;have p:=pF d;show fs.cB+1<=1200 * CB d;omega
theorem sd:∀(fs:Fs) (d:Nat),fs.W->fs.dep<=d+1->fs.cB<=fs.names.length * CB d
 | .nil,d,_,_=>by simp[Fs.cB]
 | .cons x k r,d,w,h=>by
   unfold Fs.W at w;simp only[Fs.dep] at h;have a:=pG k d w.1 (by omega);have b:=sd r d w.2 (by omega);show k.cB+r.cB<=(r.names.length+1) * CB d;rw[Q1p];omega
end
mutual
theorem Dl:∀(k:Kd),k.dB+8<=10 * k.dep
 | .num=>by simp[Kd.dB,Kd.dep]
 | .ix=>by simp[Kd.dB,Kd.dep]
 | .gA fs=>by have:=qF fs;simp only[Kd.dB,Kd.dep];omega
 | .rows _ _ fs=>by have:=qF fs;simp only[Kd.dB,Kd.dep];omega
 | .tree k=>by have:=Dl k;simp only[Kd.dB,Kd.dep];omega
 | .iP fs=>by have:=qF fs;simp only[Kd.dB,Kd.dep];omega
theorem qF:∀(fs:Fs),fs.dB<=10 * fs.dep - 8
 | .nil=>by simp[Fs.dB]
 | .cons x k r=>by
   have a:=Dl k;have b:=qF r;simp only[Fs.dB,Fs.dep];omega
end
end Pb
namespace Pb
open L2
mutual
def KA (H:Hp):V->Kd->Prop
 |v,.num=>∃a,v=.ref a/\H a=some (.tup [.str "number"])
 |v,.ix=>∃a,v=.ref a/\H a=some (.tup [.str "word"])
 |v,.gA fs=>∃a b vs,v=.ref a/\H a=some (.tup [.str "record",.ref b])/\H b=some (.tup vs)/\FA H vs fs
 |v,.rows key J fs=>∃a b vs,v=.ref a/\H a=some (.tup [.str "rows",.str key,.str J,.ref b])/\H b=some (.tup vs)/\FA H vs fs
 |v,.tree k=>∃a u,v=.ref a/\H a=some (.tup [.str "tree",u])/\KA H u k
 |v,.iP fs=>∃a b vs,v=.ref a/\H a=some (.tup [.str "either",.ref b])/\H b=some (.tup vs)/\FA H vs fs
def FA (H:Hp):List V->Fs->Prop
 |vs,.nil=>vs=[]
 |vs,.cons x k r=>∃c u J,vs=.ref c::J/\H c=some (.tup [.str x,u])/\KA H u k/\FA H J r
end
def Tu (H H':Hp):Prop:=∀a xs,H a=some (.tup xs)->H' a=some (.tup xs)
theorem Tu.trans {H H1 H2:Hp}(a:Tu H H1)(b:Tu H1 H2):Tu H H2:=λc xs h=>b c xs (a c xs h)
theorem Tu.of {H H':Hp}(s:Same H H'):Tu H H':=λa xs h=>s a _ h
theorem Tu.wr {H:Hp}{p:Addr}{o:HO}(h:∀xs,H p≠some (.tup xs)):Tu H (upd H p o):=λa xs e=>by
 rw[gj (λz=>h xs (by rw[<-z];exact e))];exact e
mutual
theorem KA.mono {H H':Hp}(t:Tu H H'):∀{v:V}(k:Kd),KA H v k->KA H' v k
 |v,.num,h=>by
  unfold KA at h ⊢;obtain⟨a,e,q⟩:=h;exact⟨a,e,t _ _ q⟩
 |v,.ix,h=>by
  unfold KA at h ⊢;obtain⟨a,e,q⟩:=h;exact⟨a,e,t _ _ q⟩
 |v,.gA fs,h=>by
  unfold KA at h ⊢;obtain⟨a,b,vs,e,J,L,f⟩:=h;exact⟨a,b,vs,e,t _ _ J,t _ _ L,FA.mono t fs f⟩
 |v,.rows key U fs,h=>by
  unfold KA at h ⊢;obtain⟨a,b,vs,e,J,L,f⟩:=h;exact⟨a,b,vs,e,t _ _ J,t _ _ L,FA.mono t fs f⟩
 |v,.tree k,h=>by
  unfold KA at h ⊢;obtain⟨a,u,e,q,f⟩:=h;exact⟨a,u,e,t _ _ q,KA.mono t k f⟩
 |v,.iP fs,h=>by
  unfold KA at h ⊢;obtain⟨a,b,vs,e,J,L,f⟩:=h;exact⟨a,b,vs,e,t _ _ J,t _ _ L,FA.mono t fs f⟩
theorem FA.mono {H H':Hp}(t:Tu H H'):∀{vs:List V}(fs:Fs),FA H vs fs->FA H' vs fs
 |vs,.nil,h=>by
  unfold FA at h ⊢;exact h
 |vs,.cons x k r,h=>by
  unfold FA at h ⊢;obtain⟨c,u,J,e,q,f,g⟩:=h;exact⟨c,u,J,e,t _ _ q,KA.mono t k f,FA.mono t r g⟩
end
theorem FA.len {H:Hp}:∀{vs:List V}(fs:Fs),FA H vs fs->vs.length=fs.names.length
 |vs,.nil,h=>by
  unfold FA at h;rw[h];rfl
 |vs,.cons x k r,h=>by
  unfold FA at h;obtain⟨c,u,J,e,_,_,g⟩:=h;rw[e];show J.length+1=r.names.length+1;rw[FA.len r g]
theorem FA.get {H:Hp}:∀{vs:List V}(fs:Fs) {i:Nat}{v:V},FA H vs fs->vs[i]? =some v->∃c u x k,v=.ref c/\fs.at i=some (x,k)/\H c=some (.tup [.str x,u])/\KA H u k
 |vs,.nil,i,v,h,e=>by
  unfold FA at h;rw[h] at e;simp at e
 |vs,.cons x k r,0,v,h,e=>by
  unfold FA at h;obtain⟨c,u,L,J,q,f,_⟩:=h;rw[J] at e;have e:some (V.ref c)=some v:=e
  cases e;exact⟨c,u,x,k,rfl,rfl,q,f⟩
 |vs,.cons x k r,i+1,v,h,e=>by
  unfold FA at h;obtain⟨c,u,L,J,_,_,g⟩:=h;rw[J] at e;exact FA.get r (i:=i) g (by simpa using e)
theorem FA.at {H:Hp}{vs:List V}{fs:Fs}{i:Nat}{x:Str}{k:Kd}(h:FA H vs fs)(e:fs.at i=some (x,k)):∃c u,vs[i]? =some (.ref c)/\H c=some (.tup [.str x,u])/\KA H u k:=by
 have hl:=FA.len fs h
 have hi:i<fs.names.length:=by
  have:fs.names[i]? =some x:=by rw[Fs.ky,e];rfl
  exact(List.getElem?_eq_some_iff.mp this).1
 have J:vs[i]? =some (vs[i]'(by omega)):=Q05 (by omega);obtain⟨c,u,Y,k',h1,h2,L,U⟩:=FA.get fs h J;rw[e] at h2;cases h2;exact⟨c,u,by rw[J,h1],L,U⟩
theorem FA.snoc {H:Hp}{c:Addr}{u:V}{x:Str}{k:Kd}(hc:H c=some (.tup [.str x,u]))(hk:KA H u k):∀{vs:List V}(fs:Fs),FA H vs fs->FA H (vs++[.ref c]) (fs.snoc x k)
 |vs,.nil,h=>by
  unfold FA at h;subst h;show FA H [.ref c] (.cons x k .nil);unfold FA;exact⟨c,u,[],rfl,hc,hk,by unfold FA;rfl⟩
 |vs,.cons y q r,h=>by
  unfold FA at h;obtain⟨d,w,J,e,h1,h2,L⟩:=h;subst e;show FA H (.ref d::(J++[.ref c])) (.cons y q (r.snoc x k));unfold FA;exact⟨d,w,J++[.ref c],rfl,h1,h2,FA.snoc hc hk r L⟩
mutual
def Own (H:Hp):V->D->List Addr->Prop
 |v,.int z,fp=>v=.int z/\fp=[]
 |v,.str x,fp=>v=.str x/\fp=[]
 |v,.tup xs,fp=>∃a vs,v=.ref a/\H a=some (.tup vs)/\gn H vs xs fp
 |v,.lst xs,fp=>∃a vs J,v=.ref a/\H a=some (.lst vs)/\fp=a::J/\gn H vs xs J
 |v,.dct m,fp=>∃a kvs J,v=.ref a/\H a=some (.dK kvs)/\fp=a::J/\gx H kvs m J
def gn (H:Hp):List V->Ds->List Addr->Prop
 |vs,.nil,fp=>vs=[]/\fp=[]
 |vs,.cons _ d r,fp=>∃v q J L,vs=v::q/\fp=J++L/\Own H v d J/\gn H q r L
def gx (H:Hp):List (Key × V)->Ds->List Addr->Prop
 |kvs,.nil,fp=>kvs=[]/\fp=[]
 |kvs,.cons x d r,fp=>∃v q J L,kvs=(Sum.inr x,v)::q/\fp=J++L/\Own H v d J/\gx H q r L
end
mutual
theorem Own.keep {H H':Hp}(t:Tu H H'):∀{v:V}(d:D) {fp:List Addr},(∀a∈fp,∀o,H a=some o->H' a=some o)->Own H v d fp->Own H' v d fp
 |v,.int z,fp,k,h=>by unfold Own at h ⊢;exact h
 |v,.str x,fp,k,h=>by unfold Own at h ⊢;exact h
 |v,.tup xs,fp,k,h=>by
  unfold Own at h ⊢;obtain⟨a,vs,e,q,f⟩:=h;exact⟨a,vs,e,t _ _ q,gn.keep t xs k f⟩
 |v,.lst xs,fp,k,h=>by
  unfold Own at h ⊢;obtain⟨a,vs,J,e,q,rfl,f⟩:=h;exact⟨a,vs,J,e,k a Q02 _ q,rfl,gn.keep t xs (λb L=>k b (Q06 _ L)) f⟩
 |v,.dct m,fp,k,h=>by
  unfold Own at h ⊢;obtain⟨a,vs,J,e,q,rfl,f⟩:=h;exact⟨a,vs,J,e,k a Q02 _ q,rfl,gx.keep t m (λb L=>k b (Q06 _ L)) f⟩
theorem gn.keep {H H':Hp}(t:Tu H H'):∀{vs:List V}(xs:Ds) {fp:List Addr},(∀a∈fp,∀o,H a=some o->H' a=some o)->gn H vs xs fp->gn H' vs xs fp
 |vs,.nil,fp,k,h=>by unfold gn at h ⊢;exact h
 |vs,.cons x d r,fp,k,h=>by
  unfold gn at h ⊢;obtain⟨v,q,L,U,e,rfl,Y,g2⟩:=h;exact⟨v,q,L,U,e,rfl,Own.keep t d (λb J=>k b (Q0u _ J)) Y,gn.keep t r (λb J=>k b (Q0b _ J)) g2⟩
theorem gx.keep {H H':Hp}(t:Tu H H'):∀{kvs:List (Key × V)}(m:Ds) {fp:List Addr},(∀a∈fp,∀o,H a=some o->H' a=some o)->gx H kvs m fp->gx H' kvs m fp
 |kvs,.nil,fp,k,h=>by unfold gx at h ⊢;exact h
 |kvs,.cons x d r,fp,k,h=>by
  unfold gx at h ⊢;obtain⟨v,q,L,U,e,rfl,Y,g2⟩:=h;exact⟨v,q,L,U,e,rfl,Own.keep t d (λb J=>k b (Q0u _ J)) Y,gx.keep t r (λb J=>k b (Q0b _ J)) g2⟩
end
theorem Own.same {H H':Hp}{v:V}{d:D}{fp:List Addr}(s:Same H H')(h:Own H v d fp):Own H' v d fp:=h.keep (Tu.of s) d λa _ o e=>s a o e
theorem gn.same {H H':Hp}{v:List V}{d:Ds}{fp:List Addr}(s:Same H H')(h:gn H v d fp):gn H' v d fp:=h.keep (Tu.of s) d λa _ o e=>s a o e
theorem gx.same {H H':Hp}{v:List (Key × V)}{d:Ds}{fp:List Addr}(s:Same H H')(h:gx H v d fp):gx H' v d fp:=h.keep (Tu.of s) d λa _ o e=>s a o e
def Mu (H:Hp) (a:Addr):Prop:=(∃xs,H a=some (.lst xs))\/∃kvs,H a=some (.dK kvs)
mutual
theorem Own.alive {H:Hp}:∀{v:V}(d:D) {fp:List Addr},Own H v d fp->∀a∈fp,Mu H a
 |v,.int z,fp,h=>by unfold Own at h;rw[h.2];intro a J;exact absurd J (by simp)
 |v,.str x,fp,h=>by unfold Own at h;rw[h.2];intro a J;exact absurd J (by simp)
 |v,.tup xs,fp,h=>by
  unfold Own at h;obtain⟨a,vs,e,q,f⟩:=h;exact gn.alive xs f
 |v,.lst xs,fp,h=>by
  unfold Own at h;obtain⟨a,vs,U,e,q,rfl,f⟩:=h;intro b L;rcases List.mem_cons.mp L with z|z
  . rw[z];exact .inl ⟨_,q⟩
  . exact gn.alive xs f b z
 |v,.dct m,fp,h=>by
  unfold Own at h;obtain⟨a,vs,U,e,q,rfl,f⟩:=h;intro b L;rcases List.mem_cons.mp L with z|z
  . rw[z];exact .inr ⟨_,q⟩
  . exact gx.alive m f b z
theorem gn.alive {H:Hp}:∀{vs:List V}(xs:Ds) {fp:List Addr},gn H vs xs fp->∀a∈fp,Mu H a
 |vs,.nil,fp,h=>by unfold gn at h;rw[h.2];intro a J;exact absurd J (by simp)
 |vs,.cons x d r,fp,h=>by
  unfold gn at h;obtain⟨v,q,f1,f2,e,rfl,L,U⟩:=h;intro b Y;rcases List.mem_append.mp Y with z|z
  . exact Own.alive d L b z
  . exact gn.alive r U b z
theorem gx.alive {H:Hp}:∀{kvs:List (Key × V)}(m:Ds) {fp:List Addr},gx H kvs m fp->∀a∈fp,Mu H a
 |kvs,.nil,fp,h=>by unfold gx at h;rw[h.2];intro a J;exact absurd J (by simp)
 |kvs,.cons x d r,fp,h=>by
  unfold gx at h;obtain⟨v,q,f1,f2,e,rfl,L,U⟩:=h;intro b Y;rcases List.mem_append.mp Y with z|z
  . exact Own.alive d L b z
  . exact gx.alive r U b z
end
theorem Mu.ex {H:Hp}{a:Addr}(h:Mu H a):∃o,H a=some o:=by
 rcases h with⟨_,h⟩|⟨_,h⟩ <;> exact⟨_,h⟩
theorem Mu.ne {H:Hp}{a b:Addr}(h:Mu H a)(e:H b=none):a≠b:=λz=>by
 obtain⟨o,q⟩:=h.ex;rw[z,e] at q;cases q
theorem Mu.nG {H:Hp}{a:Addr}(h:Mu H a)(xs:List V):H a≠some (.tup xs):=λz=>by
 rcases h with⟨_,h⟩|⟨_,h⟩ <;> rw[h] at z <;> cases z
noncomputable def Ds.len:Ds->Nat
 | .nil=>0
 | .cons _ _ r=>r.len+1
noncomputable def Ds.names:Ds->List Str
 | .nil=>[]
 | .cons x _ r=>x::r.names
noncomputable def Ds.at:Ds->Nat->Option D
 | .nil,_=>none
 | .cons _ d _,0=>some d
 | .cons _ _ r,i+1=>r.at i
noncomputable def Ds.snoc:Ds->Str->D->Ds
 | .nil,x,d=>.cons x d .nil
 | .cons y e r,x,d=>.cons y e (r.snoc x d)
theorem Ds.Dp:∀(xs:Ds) (x:Str) (d:D),(xs.snoc x d).len=xs.len+1
 | .nil,_,_=>rfl
 | .cons _ _ r,x,d=>by show(r.snoc x d).len+1=r.len+1+1;rw[Ds.Dp r x d]
theorem Ds.jw:∀{xs:Ds}{i:Nat}{d:D},xs.at i=some d->d.dep<=xs.dep
 | .nil,_,_,h=>by cases h
 | .cons _ d r,0,_,h=>by cases h;exact Q2j _ _
 | .cons _ d r,i+1,_,h=>Q0g (Ds.jw (xs:=r) (i:=i) h) (Q2k _ _)
theorem Ds.pH:∀{xs:Ds}{x:Str}{d:D},xs.get x=some d->d.dep<=xs.dep
 | .nil,_,_,h=>by cases h
 | .cons y e r,x,d,h=>by
   have h:(if x=y then some e else r.get x)=some d:=h;by_cases c:x=y
   . rw[if_pos c] at h;cases h;exact Q2j _ _
   . rw[if_neg c] at h;exact Q0g (Ds.pH h) (Q2k _ _)
theorem gn.len {H:Hp}:∀{vs:List V}(xs:Ds) {fp:List Addr},gn H vs xs fp->vs.length=xs.len
 |vs,.nil,fp,h=>by unfold gn at h;rw[h.1];rfl
 |vs,.cons x d r,fp,h=>by
  unfold gn at h;obtain⟨v,q,L,U,rfl,rfl,Y,J⟩:=h;show q.length+1=r.len+1;rw[gn.len r J]
theorem gn.get {H:Hp}:∀{vs:List V}(xs:Ds) {fp:List Addr}{i:Nat}{v:V},gn H vs xs fp->vs[i]? =some v->∃d f,xs.at i=some d/\Own H v d f/\∀a∈f,a∈fp
 |vs,.nil,fp,i,v,h,e=>by
  unfold gn at h;rw[h.1] at e;simp at e
 |vs,.cons x d r,fp,0,v,h,e=>by
  unfold gn at h;obtain⟨w,q,L,f2,rfl,rfl,U,Y⟩:=h;have e:some w=some v:=e
  cases e;exact⟨d,L,rfl,U,λa J=>Q0u _ J⟩
 |vs,.cons x d r,fp,i+1,v,h,e=>by
  unfold gn at h;obtain⟨w,q,L,f2,rfl,rfl,U,Y⟩:=h;obtain⟨d',f,h1,h2,h3⟩:=gn.get r (i:=i) Y (by simpa using e);exact⟨d',f,h1,h2,λa J=>Q0b _ (h3 a J)⟩
theorem gn.snoc {H:Hp}{v:V}{d:D}{g:List Addr}{y:Str}(J:Own H v d g):∀{vs:List V}(xs:Ds) {fp:List Addr},gn H vs xs fp->gn H (vs++[v]) (xs.snoc y d) (fp++g)
 |vs,.nil,fp,h=>by
  unfold gn at h;obtain⟨rfl,rfl⟩:=h;show gn H [v] (.cons y d .nil) g;unfold gn;exact⟨v,[],g,[],rfl,by simp,J,by unfold gn;exact⟨rfl,rfl⟩⟩
 |vs,.cons x e r,fp,h=>by
  unfold gn at h;obtain⟨w,q,L,U,rfl,rfl,Y,g2⟩:=h;show gn H (w::(q++[v])) (.cons x e (r.snoc y d)) (L++U++g);unfold gn;exact⟨w,q++[v],L,U++g,rfl,by rw[Q1f],Y,gn.snoc J r g2⟩
theorem gx.snoc {H:Hp}{v:V}{d:D}{g:List Addr}{y:Str}(J:Own H v d g):∀{kvs:List (Key × V)}(xs:Ds) {fp:List Addr},gx H kvs xs fp->gx H (kvs++[(Sum.inr y,v)]) (xs.snoc y d) (fp++g)
 |kvs,.nil,fp,h=>by
  unfold gx at h;obtain⟨rfl,rfl⟩:=h;show gx H [(Sum.inr y,v)] (.cons y d .nil) g;unfold gx;exact⟨v,[],g,[],rfl,by simp,J,by unfold gx;exact⟨rfl,rfl⟩⟩
 |kvs,.cons x e r,fp,h=>by
  unfold gx at h;obtain⟨w,q,L,U,rfl,rfl,Y,g2⟩:=h;show gx H ((Sum.inr x,w)::(q++[(Sum.inr y,v)])) (.cons x e (r.snoc y d)) (L++U++g);unfold gx;exact⟨w,q++[(Sum.inr y,v)],L,U++g,rfl,by rw[Q1f],Y,gx.snoc J r g2⟩
theorem gx.keys {H:Hp}:∀{kvs:List (Key × V)}(m:Ds) {fp:List Addr},gx H kvs m fp->kvs.map (·.1)=m.names.map Sum.inr
 |kvs,.nil,fp,h=>by unfold gx at h;rw[h.1];rfl
 |kvs,.cons x d r,fp,h=>by
  unfold gx at h;obtain⟨v,q,L,U,rfl,rfl,Y,J⟩:=h;show Sum.inr x::q.map (·.1)=Sum.inr x::r.names.map Sum.inr;rw[gx.keys r J]
theorem gx.len {H:Hp}{kvs:List (Key × V)}{m:Ds}{fp:List Addr}(h:gx H kvs m fp):kvs.length=m.names.length:=by
 have:=congrArg List.length (gx.keys m h);simpa using this
theorem gx.val {H:Hp}:∀{kvs:List (Key × V)}(m:Ds) {fp:List Addr}{x:Str}{d:D},gx H kvs m fp->m.get x=some d->∃v f,h6 kvs (Sum.inr x)=some v/\Own H v d f/\∀a∈f,a∈fp
 |kvs,.nil,fp,x,d,h,e=>by cases e
 |kvs,.cons y e r,fp,x,d,h,J=>by
  unfold gx at h;obtain⟨v,q,U,f2,rfl,rfl,Y,g2⟩:=h;have J:(if x=y then some e else r.get x)=some d:=J;by_cases c:x=y
  . rw[if_pos c] at J
    cases J;exact⟨v,U,oY (by rw[c]),Y,λa L=>Q0u _ L⟩
  . rw[if_neg c] at J;obtain⟨w,f,h1,h2,h3⟩:=gx.val r g2 J;exact⟨w,f,by rw[oZ (λz=>c (Sum.inr.inj z).symm)];exact h1,h2,λa L=>Q0b _ (h3 a L)⟩
theorem iy.names:∀{fs:Fs}{m:Ds},iy fs m->m.names=fs.names
 | .nil,m,h=>by unfold iy at h;rw[h];rfl
 | .cons x k r,m,h=>by
   unfold iy at h;obtain⟨d,q,rfl,_,g⟩:=h;show x::q.names=x::r.names;rw[iy.names g]
theorem gx.Dq {H:Hp}{kvs:List (Key × V)}{m:Ds}{fp:List Addr}{x:Str}(h:gx H kvs m fp)(J:x ∉ m.names):h6 kvs (Sum.inr x)=none:=by
 cases e:h6 kvs (Sum.inr x) with
 |none=>rfl
 |some v=>
  have:=IQ e;rw[gx.keys m h] at this;obtain⟨y,L,U⟩:=List.mem_map.mp this
  cases U;exact absurd L J
theorem l_ {kvs:List (Key × V)}{k:Key}{v:V}(h:h6 kvs k=none):putK kvs k v=kvs++[(k,v)]:=by
 unfold putK;rw[if_neg];rw[oq,h];simp
def Kp (S:Addr->Prop) (H H':Hp):Prop:=∀c o,¬S c->H c=some o->H' c=some o
theorem Kp.refl (S:Addr->Prop)(H:Hp):Kp S H H:=λ_ _ _ h=>h
theorem Kp.trans {S:Addr->Prop}{H H1 H2:Hp}(x:Kp S H H1)(y:Kp S H1 H2):Kp S H H2:=λc o n h=>y c o n (x c o n h)
theorem Kp.of {S:Addr->Prop}{H H':Hp}(s:Same H H'):Kp S H H':=λc o _ h=>s c o h
theorem Kp.vz {S:Addr->Prop}{H H':Hp}{a:Addr}(x:Kp S H H')(J:¬S a)(h:H' a=none):H a=none:=by
 cases e:H a with
 |none=>rfl
 |some o=>rw[x a o J e] at h;cases h
inductive A3 {α β γ:Type} (R:α->β->γ->Prop):List α->List β->List γ->Prop
 |nil:A3 R [] [] []
 |cons {a:α} {b:β} {c:γ} {as:List α} {bs:List β} {cs:List γ}:R a b c->A3 R as bs cs->A3 R (a::as) (b::bs) (c::cs)
theorem A3.snoc {α J L:Type}{R:α->J->L->Prop}{a:α}{b:J}{c:L}(h:R a b c):∀{as:List α}{bs:List J}{U:List L},A3 R as bs U->A3 R (as++[a]) (bs++[b]) (U++[c])
 |_,_,_,.nil=>.cons h .nil
 |_,_,_,.cons x r=>.cons x (A3.snoc h r)
theorem A3.len {α L U:Type}{R:α->L->U->Prop}:∀{as:List α}{bs:List L}{J:List U},A3 R as bs J->as.length=bs.length/\as.length=J.length
 |_,_,_,.nil=>⟨rfl,rfl⟩
 |_,_,_,.cons x r=>by
  obtain⟨h1,h2⟩:=A3.len r;simp only[Q0h];omega
theorem A3.at {α J L:Type}{R:α->J->L->Prop}{a0:α}{b0:J}{c0:L}:∀{as:List α}{bs:List J}{U:List L},A3 R as bs U->∀i,i<as.length->R (as.getD i a0) (bs.getD i b0) (U.getD i c0)
 |_,_,_,.nil,i,h=>absurd h (by simp)
 |_,_,_,.cons x r,0,h=>x
 |_,_,_,.cons x r,i+1,h=>by
  have:=A3.at (a0:=a0) (b0:=b0) (c0:=c0) r i (by simpa using h);simpa using this
theorem A3.pick {α J L:Type}{R:α->J->L->Prop}{a0:α}{b0:J}{c0:L}{as:List α}{bs:List J}{U:List L}(h:A3 R as bs U):∀p:List Nat,(∀i∈p,i<as.length)->A3 R (p.map λi=>as.getD i a0) (p.map λi=>bs.getD i b0) (p.map λi=>U.getD i c0)
 |[],_=>.nil
 |i::p,hp=>.cons (h.at i (hp i Q02)) (A3.pick h p λj Y=>hp j (Q06 _ Y))
theorem JW {α:Type}(a0:α):∀l:List α,((List.range l.length).map λi=>l.getD i a0)=l:=λl=>by
 apply Q2e
 . simp
 . intro i h1 h2;simp[h2]
theorem Dr {α:Type}(a0:α){l:List α}{p:List Nat}(h:p.Perm (List.range l.length)):(p.map λi=>l.getD i a0).Perm l:=by
 have:=h.map (λi=>l.getD i a0)
 rwa [JW] at this
theorem JX {α:Type}{J L:List (List α)}(h:J.Perm L):J.flatten.Perm L.flatten:=by
 induction h with
 |nil=>exact List.Perm.refl _
 |cons x _ U=>exact U.append_left x
 |swap x y l=>
  show(y++(x++l.flatten)).Perm (x++(y++l.flatten));rw[<-Q1f,<-Q1f];exact List.perm_append_comm.append_right _
 |trans _ _ a b=>exact a.trans b
abbrev iS (H:Hp):List V->List Ds->List (List Addr)->Prop:=A3 λv m f=>Own H v (.dct m) f
theorem iS.own {H:Hp}:∀{vs:List V}{J:List Ds}{fs:List (List Addr)},iS H vs J fs->gn H vs (jb J) fs.flatten
 |_,_,_,.nil=>by unfold jb gn;exact⟨rfl,rfl⟩
 |_,_,_,.cons h r=>by
  unfold jb gn;exact⟨_,_,_,_,rfl,rfl,h,iS.own r⟩
theorem gn.rows {H:Hp}:∀{J:List Ds}{vs:List V}{fp:List Addr},gn H vs (jb J) fp->∃fs,iS H vs J fs/\fp=fs.flatten
 |[],vs,fp,h=>by
  unfold jb gn at h;obtain⟨rfl,rfl⟩:=h;exact⟨[],.nil,rfl⟩
 |m::J,vs,fp,h=>by
  unfold jb gn at h;obtain⟨v,q,L,f2,rfl,rfl,U,Y⟩:=h;obtain⟨fs,h1,rfl⟩:=gn.rows Y;exact⟨L::fs,.cons U h1,rfl⟩
noncomputable def lt (z:Int):Str:=⟨#[97+z.toNat]⟩
theorem se (z:Int):(lt z).length=1:=rfl
theorem JY:∀j:Nat,j<26->(("abcdefghijklmnopqrstuvwxyz":Str)).cps.toList[j]? =some (97+j):=by decide +kernel
theorem JZ:(("abcdefghijklmnopqrstuvwxyz":Str)).cps.toList.length=26:=by decide +kernel
theorem sg {z:Int}(J:0<=z)(h1:z<26):iY (("abcdefghijklmnopqrstuvwxyz":Str)).cps.toList z=some (97+z.toNat):=by
 unfold iY lC;rw[JZ,if_pos J,if_pos (show z<((26:Nat):Int) by omega)];exact JY z.toNat (by omega)
theorem J0 {z:Int}(J:0<=z)(h1:z<6):iY [V.int 1,.int 3,.int 5,.int 7,.int 9,.int 11] z=some (.int (2 * z+1)):=by
 obtain⟨n,rfl⟩:=Int.eq_ofNat_of_zero_le J;have h:=Int.ofNat_lt.mp h1;clear J h1;revert n
 decide
noncomputable def nameAt (m:Int) (k:Nat):Str:=
 if m / 12168 % 4=0 then Txt.mul (lt (m / 6 % 26)) ((k:Int)+1)
 else Txt.slice (lt (m / 6 % 26)++lt (m / 156 % 26)) none (some (m / 4056 % 3))++lt ((m / 156+(k:Int) * (2 * (m % 6)+1)) % 26)++Txt.slice (lt (m / 6 % 26)++lt (m / 156 % 26)) (some (m / 4056 % 3)) none
theorem foldl_size (a:Array Nat):∀(n:Nat) (b:Array Nat),((List.replicate n a).foldl (· ++ ·) b).size=b.size+n * a.size
 |0,b=>by simp
 |n+1,b=>by
  rw[Q35,Q21,foldl_size a n,Q3,Q1p];omega
theorem Dt {x:Str}(J:x.length=1)(k:Nat):(Txt.mul x ((k:Int)+1)).length=k+1:=by
 have L:x.cps.size=1:=J;unfold Txt.mul;rw[if_neg (by omega)];by_cases h:k=0
 . subst h;rw[if_pos (by simp)];exact J
 . rw[if_neg]
   . show((List.replicate ((k:Int)+1).toNat x.cps).foldl (· ++ ·) #[]).size=k+1;rw[foldl_size,L,show((k:Int)+1).toNat=k+1 by omega];simp
   . rw[J];simp;omega
theorem vA (x y:Str):(x++y).cps.toList=x.cps.toList++y.cps.toList:=by
 show(x.cps++y.cps).toList=_;simp
theorem Du (x y:Str):(x++y).length=x.length+y.length:=by
 show(x.cps++y.cps).size=x.cps.size+y.cps.size;simp
theorem J1 {p q:Str}{z w:Int}(h:p++lt z++q=p++lt w++q):z.toNat=w.toNat:=by
 have e:=congrArg (λs:Str=>s.cps.toList) h;simp only[vA] at e;have e:=List.append_cancel_left (List.append_cancel_right e);have e:[97+z.toNat]=[97+w.toNat]:=e;have e:=List.cons.inj e |>.1;omega
theorem J3:∀s:Nat,s<6->∀i,i<12->∀j,j<12->(i * (2 * s+1)) % 26=(j * (2 * s+1)) % 26->i=j:=by decide +kernel
theorem J4 {m:Int}{i j:Nat}(Y:0<=m)(hi:i<12)(L:j<12)(h:nameAt m i=nameAt m j):i=j:=by
 unfold nameAt at h;by_cases J:m / 12168 % 4=0
 . rw[if_pos J,if_pos J] at h;have e:=congrArg Str.length h;rw[Dt (se _),Dt (se _)] at e;omega
 . rw[if_neg J,if_neg J] at h;have e:=J1 h;obtain⟨s,U⟩:∃s:Nat,m % 6=s:=⟨(m % 6).toNat,by omega⟩;rw[U] at e;have e:((m / 156+(i * (2 * s+1):Nat)) % 26).toNat=((m / 156+(j * (2 * s+1):Nat)) % 26).toNat:=e;generalize m / 156=a at e;exact J3 s (by omega) i hi j L (by omega)
theorem J5 {f:Nat->Str}:∀{n:Nat},(∀i j,i<n->j<n->f i=f j->i=j)->((List.range n).map f).Nodup:=by
 intro n h;refine List.pairwise_map.mpr (List.Pairwise.imp_of_mem (λ{a b} L U J=>?_) (List.nodup_range (n:=n)));intro e;exact J (h a b (List.mem_range.mp L) (List.mem_range.mp U) e)
theorem names_nodup {m:Int}{n:Nat}(J:0<=m)(L:n<=12):((List.range n).map (nameAt m)).Nodup:=
 J5 λi j hi U e=>J4 J (by omega) (by omega) e
theorem J6 {x:Str}(J:x.length=1){k:Nat}(hk:k<12)(hl:∀n,n<=1000->Builtin.Str.tooLong n=false):MulOk x ((k:Int)+1):=by
 refine⟨?_,λ_ z=>?_,λ_ _=>?_⟩
 . have L:decide (((k:Int)+1)< -(2 ^ 63:Int))=false:=decide_eq_false (by omega);have U:decide (((k:Int)+1) ≥ 2 ^ 63)=false:=decide_eq_false (by omega);rw[L,U];rfl
 . rw[J];clear hl J z;revert k
   decide
 . rw[J];exact hl _ (by omega)
end Pb
namespace Pb
open L2 PyProof.Rows Spec StrLaws Builtin Builtin.Str
def nH (H:Hp) (u:V) (pl:Bool):Prop:=∃a f rest,u=.ref a/\H a=some (.tup (.str f::rest))/\(pl=true->rest=[]/\(f="number"\/f="word"))/\(pl=false->f≠"number"/\f≠"word")/\∀v∈rest,(∃s,v=.str s)\/∃c,v=.ref c
theorem nH.mono {H H':Hp}(t:Tu H H'){u:V}{pl:Bool}(h:nH H u pl):nH H' u pl:=by
 obtain⟨a,f,rest,e,h1,h2⟩:=h;exact⟨a,f,rest,e,t _ _ h1,h2⟩
theorem nH.of {H:Hp}{u:V}:∀{k:Kd},KA H u k->∃pl,nH H u pl
 | .num,h=>by
   unfold KA at h;obtain⟨a,e,q⟩:=h;exact⟨true,a,_,_,e,q,λ_=>⟨rfl,.inl rfl⟩,(λz=>by cases z),λv J=>nomatch J⟩
 | .ix,h=>by
   unfold KA at h;obtain⟨a,e,q⟩:=h;exact⟨true,a,_,_,e,q,λ_=>⟨rfl,.inr rfl⟩,(λz=>by cases z),λv J=>nomatch J⟩
 | .gA fs,h=>by
   unfold KA at h;obtain⟨a,b,vs,e,q,_⟩:=h;exact⟨false,a,_,_,e,q,(λz=>by cases z),(λ_=>by decide),λv J=>by rw[List.mem_singleton.mp J];exact .inr ⟨_,rfl⟩⟩
 | .rows key U fs,h=>by
   unfold KA at h;obtain⟨a,b,vs,e,q,_⟩:=h;refine⟨false,a,_,_,e,q,(λz=>by cases z),(λ_=>by decide),λv J=>?_⟩;simp only[Q0v,Q36,or_false] at J;rcases J with z|z|z <;> subst z
   . exact .inl ⟨_,rfl⟩
   . exact .inl ⟨_,rfl⟩
   . exact .inr ⟨_,rfl⟩
 | .tree k,h=>by
   unfold KA at h;obtain⟨a,b,e,q,hk⟩:=h;obtain⟨_,c,_,_,L,_⟩:=nH.of hk;exact⟨false,a,_,_,e,q,(λz=>by cases z),(λ_=>by decide),λv J=>by rw[List.mem_singleton.mp J];exact .inr ⟨c,L⟩⟩
 | .iP fs,h=>by
   unfold KA at h;obtain⟨a,b,vs,e,q,_⟩:=h;exact⟨false,a,_,_,e,q,(λz=>by cases z),(λ_=>by decide),λv J=>by rw[List.mem_singleton.mp J];exact .inr ⟨_,rfl⟩⟩
noncomputable abbrev Qd:=V × Str × Bool
def sr (H:Hp) (q:Qd):Prop:=∃c u,q.1=.ref c/\H c=some (.tup [.str q.2.1,u])/\nH H u q.2.2
def lJ (H:Hp) (J:List Qd):Prop:=∀q∈J,sr H q
noncomputable def nms (J:List Qd):List Str:=J.map (·.2.1)
noncomputable def iM (J:List Qd):List V:=J.map (·.1)
theorem sr.mono {H H':Hp}(t:Tu H H'){q:Qd}(h:sr H q):sr H' q:=by
 obtain⟨c,u,e,h1,h2⟩:=h;exact⟨c,u,e,t _ _ h1,h2.mono t⟩
theorem lJ.mono {H H':Hp}(t:Tu H H'){J:List Qd}(h:lJ H J):lJ H' J:=λq L=>(h q L).mono t
theorem lJ.of {H:Hp}:∀{ys:List V}{fs:Fs},FA H ys fs->∃J,iM J=ys/\nms J=fs.names/\lJ H J
 |ys,.nil,h=>by
  unfold FA at h;subst h;exact⟨[],rfl,rfl,λq L=>nomatch L⟩
 |ys,.cons x k r,h=>by
  unfold FA at h;obtain⟨c,u,vr,rfl,q,hk,U⟩:=h;obtain⟨J,Y,e2,hp⟩:=lJ.of U;obtain⟨pl,hs⟩:=nH.of hk;refine⟨(.ref c,x,pl)::J,by show _::iM J=_;rw[Y],by show x::nms J=_;rw[e2];rfl,λq' L=>?_⟩;rcases List.mem_cons.mp L with e|e
  . subst e;exact⟨c,u,rfl,q,hs⟩
  . exact hp q' e
def sle (x y:Str):Prop:=lG (i3 x) (i3 y)
def slt (x y:Str):Prop:=iz (i3 x) (i3 y)=true
theorem Dv (x y:Str)(h:slt x y):¬slt y x:=λh2=>by
 have z:=pf _ _ _ h h2;rw[rY] at z
 cases z
theorem J7 {x y:Str}(h:i3 x=i3 y):x=y:=Sum.inr.inj (List.cons.inj h).1
theorem vB {x y:Str}(h:sle x y):slt x y\/x=y:=by
 rcases qB (i3 x) (i3 y) with q|q|q
 . exact .inl q
 . exact .inr (J7 q)
 . have h:iz (i3 y) (i3 x)=false:=h;rw[h] at q;cases q
theorem J8 {x y:Str}(h:slt x y):sle x y:=by
 unfold sle lG
 cases e:iz (i3 y) (i3 x) with
 |false=>rfl
 |true=>exact absurd e (Dv _ _ h)
theorem J9 {x y z:Str}(h1:sle x y)(h2:sle y z):sle x z:=by
 rcases vB h1 with a|a
 . rcases vB h2 with b|b
   . exact J8 (pf _ _ _ a b)
   . rw[<-b];exact h1
 . rw[a];exact h2
theorem J_ (x y:Str):ltCps x.cps.toList y.cps.toList=iz (i3 x) (i3 y):=by
 rw[C4];exact ltCps_eq _ _
theorem Dw:∀{ss:List Str},sortedS ss=true->ss.Pairwise sle
 |[],_=>.nil
 |[x],_=>Q2f _ _
 |x::y::r,h=>by
  have h:(!ltCps y.cps.toList x.cps.toList && risingS y r)=true:=h;obtain⟨h1,h2⟩:=Bool.and_eq_true_iff.mp h;have L:(y::r).Pairwise sle:=Dw (ss:=y::r) h2
  have J:sle x y:=by
   rw[J_] at h1;unfold sle lG
   cases e:iz (i3 y) (i3 x) with
   |false=>rfl
   |true=>rw[e] at h1;cases h1
  refine .cons (λz U=>?_) L;rcases List.mem_cons.mp U with e|e
  . rw[e];exact J
  . exact J9 J ((List.pairwise_cons.mp L).1 z e)
theorem Dx {J:List Qd}(h:(nms J).Pairwise sle)(L:(nms J).Nodup):J.Pairwise λa b=>slt a.2.1 b.2.1:=by
 have h1:=List.pairwise_map.mp h;have h2:J.Pairwise λa b=>a.2.1≠b.2.1:=List.pairwise_map.mp L;refine(h1.and h2).imp λ{a b} ⟨x,y⟩=>?_;rcases vB x with z|z
 . exact z
 . exact absurd z y
theorem Dy {α:Type}{R:α->α->Prop}(as:∀a b,R a b->¬R b a):∀{L J:List α},L.Perm J->L.Pairwise R->J.Pairwise R->L=J
 |[],J,p,_,_=>by rw[p.nil_eq]
 |a::r,[],p,_,_=>absurd p.length_eq (by simp)
 |a::r,b::q,p,h1,h2=>by
  obtain⟨a1,a2⟩:=List.pairwise_cons.mp h1;obtain⟨b1,b2⟩:=List.pairwise_cons.mp h2
  have Y:a=b:=by
   have ha:a∈b::q:=p.mem_iff.mp Q02;have hb:b∈a::r:=p.mem_iff.mpr Q02;rcases List.mem_cons.mp ha with e|e
   . exact e
   . rcases List.mem_cons.mp hb with U|U
     . exact U.symm
     . exact absurd (a1 b U) (as b a (b1 a e))
  subst Y;rw[Dy as ((Q33 a).mp p) a2 b2]
theorem Kb {L J:List Qd}(p:L.Perm J)(h1:(nms L).Pairwise sle)(h2:(nms J).Pairwise sle)(U:(nms J).Nodup):L=J:=
 Dy (λa b=>Dv _ _) p (Dx h1 ((p.map _).nodup_iff.mpr U)) (Dx h2 U)
def vC (x:Str):Prop:=x.length<=12/\(∀c∈x.cps.toList,c<128)/\x≠"yx"/\x≠""/\x≠"xy"
theorem foldl_rep (c:Nat):∀(n:Nat) (b:Array Nat),((List.replicate n #[c]).foldl (· ++ ·) b).toList=b.toList++List.replicate n c
 |0,b=>by simp
 |n+1,b=>by
  rw[Q35,Q21,foldl_rep c n,Array.toList_append,Q1f];rfl
theorem qG (z:Int)(k:Nat):(Txt.mul (lt z) ((k:Int)+1)).cps.toList=List.replicate (k+1) (97+z.toNat):=by
 unfold Txt.mul;rw[if_neg (by omega)];by_cases h:(((k:Int)+1 == 1) || (lt z).length == 0)=true
 . rw[if_pos h]
   have hk:k=0:=by
    rw[se] at h;simp at h;omega
   subst hk;rfl
 . rw[if_neg h];have e:((k:Int)+1).toNat=k+1:=by omega
   rw[e];show((List.replicate (k+1) #[97+z.toNat]).foldl (· ++ ·) #[]).toList=_;rw[foldl_rep];rfl
theorem Kc (a b:Int){c:Int}(Y:0<=c)(h1:c<3):∃J L:List Nat,(Txt.slice (lt a++lt b) none (some c)).cps.toList=J/\(Txt.slice (lt a++lt b) (some c) none).cps.toList=L/\J++L=[97+a.toNat,97+b.toNat]:=by
 have U:(lt a++lt b)=⟨#[97+a.toNat,97+b.toNat]⟩:=rfl;rw[U];have:c=0\/c=1\/c=2:=by omega
 rcases this with rfl|rfl|rfl
 . refine⟨[],[97+a.toNat,97+b.toNat],rfl,?_,rfl⟩;have e:strSliceIndices (some 0) none 1 2=[0,1]:=by decide +kernel
   unfold Txt.slice;rw[show(⟨#[97+a.toNat,97+b.toNat]⟩:Str).length=2 from rfl,e];rfl
 . refine⟨[97+a.toNat],[97+b.toNat],rfl,?_,rfl⟩;have e:strSliceIndices (some 1) none 1 2=[1]:=by decide +kernel
   unfold Txt.slice;rw[show(⟨#[97+a.toNat,97+b.toNat]⟩:Str).length=2 from rfl,e];rfl
 . exact⟨[97+a.toNat,97+b.toNat],[],rfl,rfl,rfl⟩
theorem DA:("yx":Str).cps.toList=[121,120]:=by decide +kernel
theorem DB:("xy":Str).cps.toList=[120,121]:=by decide +kernel
theorem Ke {m:Int}{i:Nat}(hi:i<12):vC (nameAt m i):=by
 have l1:(m / 6 % 26).toNat<26:=by omega
 have l2:(m / 156 % 26).toNat<26:=by omega
 have l3:((m / 156+(i:Int) * (2 * (m % 6)+1)) % 26).toNat<26:=by
  have:=Q0l (m / 156+(i:Int) * (2 * (m % 6)+1)) (show(0:Int)<26 by decide);have:=Q0k (m / 156+(i:Int) * (2 * (m % 6)+1)) (show(26:Int)≠0 by decide);omega
 have len:∀x:Str,x.length=x.cps.toList.length:=λx=>by rw[Q1i];rfl
 unfold nameAt;by_cases h:m / 12168 % 4=0
 . rw[if_pos h];refine⟨?_,λc hc=>?_,λe=>?_,λe=>?_,λe=>?_⟩
   . rw[len,qG,Q17];omega
   . rw[qG] at hc;rw[(List.mem_replicate.mp hc).2];omega
   . have:=congrArg (λx:Str=>x.cps.toList) e;have this:(Txt.mul (lt (m / 6 % 26)) ((i:Int)+1)).cps.toList=("yx":Str).cps.toList:=this;rw[qG,DA] at this
     have U:∀c∈([121,120]:List Nat),c=97+(m / 6 % 26).toNat:=λc hc=>by
      rw[<-this] at hc;exact(List.mem_replicate.mp hc).2
     have a:=U 121 (by simp);have b:=U 120 (by simp);omega
   . have:=congrArg (λx:Str=>x.cps.toList.length) e;have this:(Txt.mul (lt (m / 6 % 26)) ((i:Int)+1)).cps.toList.length=("":Str).cps.toList.length:=this;rw[qG,Q17] at this;have:i+1=0:=this;omega
   . have:=congrArg (λx:Str=>x.cps.toList) e;have this:(Txt.mul (lt (m / 6 % 26)) ((i:Int)+1)).cps.toList=("xy":Str).cps.toList:=this;rw[qG,DB] at this
     have U:∀c∈([120,121]:List Nat),c=97+(m / 6 % 26).toNat:=λc hc=>by
      rw[<-this] at hc;exact(List.mem_replicate.mp hc).2
     have a:=U 121 (by simp);have b:=U 120 (by simp);omega
 . rw[if_neg h];obtain⟨L,p2,e1,e2,Y⟩:=Kc (m / 6 % 26) (m / 156 % 26) (c:=m / 4056 % 3) (by omega) (by omega)
   have J:(Txt.slice (lt (m / 6 % 26)++lt (m / 156 % 26)) none (some (m / 4056 % 3))++lt ((m / 156+(i:Int) * (2 * (m % 6)+1)) % 26)++Txt.slice (lt (m / 6 % 26)++lt (m / 156 % 26)) (some (m / 4056 % 3)) none).cps.toList
    =L++[97+((m / 156+(i:Int) * (2 * (m % 6)+1)) % 26).toNat]++p2:=by
    rw[vA,vA,e1,e2];rfl
   have aa:L.length+p2.length=2:=by
    have:=congrArg List.length Y;rw[Q09] at this;exact this
   refine⟨?_,λc hc=>?_,λe=>?_,λe=>?_,λe=>?_⟩
   . rw[len,J,Q09,Q09,Q18];omega
   . rw[J] at hc
     have hc:c∈L++p2\/c=97+((m / 156+(i:Int) * (2 * (m % 6)+1)) % 26).toNat:=by
      simp only[Q1q,Q1r] at hc ⊢;rcases hc with(a|a)|a
      . exact .inl (.inl a)
      . exact .inr a
      . exact .inl (.inr a)
     rcases hc with a|a
     . rw[Y] at a;simp only[Q0v,Q36,or_false] at a;omega
     . omega
   . have:=congrArg (λx:Str=>x.cps.toList.length) e;have this:List.length _=List.length _:=this;rw[J,DA,Q09,Q09,Q18] at this;have:L.length+1+p2.length=2:=this;omega
   . have:=congrArg (λx:Str=>x.cps.toList.length) e;have this:List.length _=List.length _:=this;rw[J,Q09,Q09,Q18] at this;have:L.length+1+p2.length=0:=this;omega
   . have:=congrArg (λx:Str=>x.cps.toList.length) e;have this:List.length _=List.length _:=this;rw[J,DB,Q09,Q09,Q18] at this;have:L.length+1+p2.length=2:=this;omega
end Pb
namespace Pb
open L2
theorem boot_isinstance:bootBuiltins "isinstance"=some (.builtin "isinstance"):=by decide +kernel
theorem boot_sorted:bootBuiltins "sorted"=some (.builtin "sorted"):=by decide +kernel
theorem boot_all:bootBuiltins "all"=some (.builtin "all"):=by decide +kernel
theorem boot_int:bootBuiltins "int"=some (.type "int"):=by decide +kernel
theorem boot_bool:bootBuiltins "bool"=some (.type "bool"):=by decide +kernel
theorem boot_str:bootBuiltins "str"=some (.type "str"):=by decide +kernel
theorem boot_list:bootBuiltins "list"=some (.type "list"):=by decide +kernel
theorem boot_tuple:bootBuiltins "tuple"=some (.type "tuple"):=by decide +kernel
theorem boot_min:bootBuiltins "min"=some (.builtin "min"):=by decide +kernel
theorem boot_reversed:bootBuiltins "reversed"=some (.type "reversed"):=by decide +kernel
theorem boot_set:bootBuiltins "set"=some (.type "set"):=by decide +kernel
theorem boot_dict:bootBuiltins "dict"=some (.type "dict"):=by decide +kernel
structure Tb (mg:Str->Option Value):Prop where
 jc:mg "len"=none
 jE:mg "isinstance"=none
 vD:mg "sorted"=none
 su:mg "all"=none
 pI:mg "range"=none
 pJ:mg "enumerate"=none
 DC:mg "zip"=none
 vE:mg "int"=none
 vF:mg "bool"=none
 sx:mg "str"=none
 nI:mg "list"=none
 pK:mg "tuple"=none
 vG:mg "dict"=none
 Kf:mg "set"=none
 Kg:mg "min"=none
 Kh:mg "reversed"=none
structure Dn (K:W.Frag) (mg:Str->Option Value) (x:Str) (ps:List Str) (st:Stmt) (f:Addr) (fd:FuncData):Prop where
 F:l7 K x x st f fd
 b:Binds K fd ps []
 m:mg x=some (.ref f)
theorem gz {X:Cx}{k k2:Nat}{f:Addr}{fd:FuncData}{ps:List Str}{sp:Sp}{x:Str}{p pos:Pos}{e:Expr}{es:List Expr}{t:TA}{st:Stmt}(F:d_ X.prog X.w X.K X.mg X.base f_ k f fd ps sp)(U:iu k2 X.A)(D:Dn X.K X.mg x ps st f fd)(Y:PA X (e::es) t)(hg:Gl X x:=by rfl)(J:(x == ("__debug__":Str))=false:=by decide)(he:starEach (e::es) X.env=(false,eval e X.env)::starEach es X.env:=by rfl)(L:(backTo pos (starEach es X.env)).any (·.1)=false:=by rfl)(hk:k<=k2:=by first|decide|omega):PE X (.Call (.Name x p) (e::es) [] pos) (nr sp [] E0 t):=BR F (U.mono hk) hg D.m D.F.kp D.b .nil i9 Y J he L
theorem gD {X:Cx}(i:Nat){x:Str}{e:Expr}{te:TE}{pos J:Pos}(L:X.N.Nodup)(U:PE X e te)(hi:X.N[i]? =some x:=by rfl)(Y:Loc X.env.scope x:=by exact Or.inl rfl)(hs:swapsWith e (some (.Name x J)) pos.line X.env=pure false:=by rfl)(hf:X.fn x=true\/X.env.scope.names.lookup x=some .local:=by first|exact .inl rfl|exact .inr rfl|assumption):PS X (.Assign [.Name x J] e pos) (n0 te (je i)):=Bu L hi Y U hs hf
theorem DE {X:Cx}(i:Nat){x:Str}{e:Expr}{te:TE}{pos J:Pos}(L:X.N.Nodup)(U:PE X e te)(hi:X.N[i]? =some x:=by rfl)(Y:Loc X.env.scope x:=by exact Or.inr rfl)(hs:swapsWith e (some (.Name x J)) pos.line X.env=pure false:=by rfl)(hf:X.fn x=true\/X.env.scope.names.lookup x=some .local:=by first|exact .inl rfl|exact .inr rfl|assumption):PS X (.Assign [.Name x J] e pos) (n0 te (je i)):=Bu L hi Y U hs hf
theorem pL:0<=sizeLine:=by decide
theorem ma:1<=sizeLine:=by decide
theorem iq:2<=sizeLine:=by decide
theorem Ki:3<=sizeLine:=by decide
theorem vH:4<=sizeLine:=by decide
theorem NJ:5<=sizeLine:=by decide
theorem Kj:6<=sizeLine:=by decide
theorem gp {X:Cx}{a b:Expr}{ta tb:TE}{pos:Pos}(J:PE X a ta)(L:PE X b tb)(U:uT b:=by exact λ_ _=>rfl):PE X (.Subscript a b pos) (iD (kx X.K) ta tb):=oo HZ J L U
theorem iT {X:Cx}{a b:Expr}{ta tb:TE}{pos:Pos}(J:PE X a ta)(L:PE X b tb)(U:uT b:=by exact λ_ _=>rfl):PE X (.Subscript a b pos) (iD (B4 X.K) ta tb):=oo HY J L U
theorem kB {X:Cx}{own N:List Str}{scope sc:Scope}(J:X.env.scope=sc:=by rfl)(L:X.N=N:=by rfl)(k:scope.kind=.function:=by rfl)(c:u7 own N scope sc=true:=by decide +kernel):ke X own scope:=ke.of J L k c
theorem iA {α:Type}{a:α}{p:Prop}:a=a\/p:=Or.inl rfl
theorem gT {N P:List Str}{sc:Scope}(h:(sc.kind == .function && !sc.isCoroutine && !sc.isGenerator && decide N.Nodup && N.take P.length == P && P.all (λx=>sc.names.lookup x == some .local || sc.names.lookup x == some .cell) && sc.names.all (λy=>y.2 != .free))=true:=by decide +kernel):gP N P sc:=by
 simp only[Bool.and_eq_true,Q1a,Bool.or_eq_true,beq_iff_eq,bne_iff_ne,decide_eq_true_eq,Bool.not_eq_true',ne_eq] at h;obtain⟨⟨⟨⟨⟨⟨h1,h2⟩,J⟩,L⟩,U⟩,Y⟩,h7⟩:=h;exact⟨h1,h2,J,L,U,Y,h7⟩
abbrev g8:List Str:=XG
abbrev jm:List Str:=["kind","value"]
abbrev js:List Str:=XM
abbrev jI:List Str:=XO
abbrev jP:List Str:=XF
abbrev jW:List Str:=["kind","tree"]
abbrev kh:List Str:=XS
abbrev kU:List Str:=XI
abbrev kX:List Str:=["self"]
abbrev kY:List Str:=XE
abbrev lK:List Str:=Xc
abbrev lL:List Str:=["value"]
abbrev lM:List Str:=["kind"]
abbrev md:List Str:=["kind","seen"]
abbrev mW:List Str:=XZ
abbrev mY:List Str:=["pairs"]
abbrev mZ:List Str:=["_law_kind_here"]
abbrev nJ:List Str:=["stands"]
abbrev nK:List Str:=XV
abbrev oz:List Str:=Xd
abbrev oA:List Str:=["fields","name"]
abbrev oB:List Str:=["kind","rows"]
abbrev oE:List Str:=["fields","value"]
abbrev oF:List Str:=Xb
abbrev oG:List Str:=Xi
abbrev oH:List Str:=XQ
abbrev pM:List Str:=Xa
abbrev qH:List Str:=XX
abbrev qI:List Str:=["kind","row"]
abbrev qJ:List Str:=["fields"]
abbrev sy:List Str:=Xh
abbrev sC:List Str:=Xf
abbrev sE:List Str:=["record","names"]
abbrev sG:List Str:=Xl
abbrev sI:List Str:=Xm
abbrev sJ:List Str:=Xn
abbrev sL:List Str:=XT
abbrev sM:List Str:=XY
abbrev sN:List Str:=XJ
abbrev sO:List Str:=XW
def ki (K:W.Frag) (H:Hp) (a:Addr) (ns:List Int):Prop:=
 (∃o,H a=some (.j2 o (.lst (ns.map V.int))))\/
   ∃(o:Obj) (J:Array Value) (n:Nat),K.lookup a=some o/\o.cls=.type "list"/\o.dict=none/\o.data=.seq J n/\J.size<=sizeLine/\Vals (ns.map V.int) J.toList
theorem ki.sq {K:W.Frag}{H:Hp}{a:Addr}{ns:List Int}(h:ki K H a ns):gi K H a (ns.map V.int):=by
 rcases h with⟨o,h⟩|h
 . exact .inl (.inr ⟨o,h⟩)
 . exact .inr h
def SB (b:Addr) (H H':Hp):Prop:=∀c o,c≠b->H c=some o->H' c=some o
theorem SB.trans {b:Addr}{H H1 H2:Hp}(x:SB b H H1)(y:SB b H1 H2):SB b H H2:=λc o n h=>y c o n (x c o n h)
theorem SB.of {b:Addr}{H H':Hp}(s:Same H H'):SB b H H':=λc o _ h=>s c o h
theorem SB.wr {b:Addr}{H:Hp}{o:HO}:SB b H (upd H b o):=λc u n h=>by rw[gj n];exact h
theorem SB.new {b p:Addr}{H:Hp}{o:HO}(h:H p=none):SB b H (upd H p o):=λc u n q=>by rw[gj (gB q h)];exact q
structure G0 (K:W.Frag) (H:Hp) (a b:Addr) (ns:List Int) (n:Int):Prop where
 lN:ki K H a ns
 len:ns.length<=63
 at_:H b=some (.lst [.int n])
 pos:0<=n
theorem SB.lN {K:W.Frag}{b:Addr}{H H':Hp}{a:Addr}{ns:List Int}{n:Int}(x:SB b H H')(J:H b=some (.lst [.int n]))(h:ki K H a ns):ki K H' a ns:=by
 rcases h with⟨o,h⟩|h
 . exact .inl ⟨o,x a _ (jK h J (by intro z;cases z)) h⟩
 . exact .inr h
theorem SB.tu {b:Addr}{H H':Hp}{n:Int}(x:SB b H H')(J:H b=some (.lst [.int n])):Tu H H':=λc xs h=>x c _ (jK h J (by intro z;cases z)) h
theorem G0.go {K:W.Frag}{H H':Hp}{a b:Addr}{ns:List Int}{n n':Int}(g:G0 K H a b ns n)(x:SB b H H')(h:H' b=some (.lst [.int n']))(J:n<=n'):G0 K H' a b ns n':=
 ⟨x.lN g.at_ g.lN,g.len,h,by have:=g.pos;omega⟩
theorem Same.new {H:Hp}{p:Addr}{o:HO}(h:H p=none):Same H (upd H p o):=λc u q=>by rw[gj (gB q h)];exact q
theorem int_at {ns:List Int}{z:Int}(J:0<=z)(h1:z<ns.length):iY (ns.map V.int) z=some (.int (ns.getD z.toNat 0)):=by
 obtain⟨j,rfl⟩:∃j:Nat,z=(j:Int):=⟨z.toNat,by omega⟩;rw[Q1x];exact iZ (by rw[Q0j,Q0f,Q05 (by omega)];rfl)
def oI (K:W.Frag):Sp:=λvs H Q _=>∃a b ns n,vs=[.ref a,.ref b]/\G0 K H a b ns n/\n<=1000000000000/\
 ∀(H':Hp),SB b H H'->H' b=some (.lst [.int (n+1)])->Q (.int (nx ns (n+1))) H'
def nL (K:W.Frag):Sp:=λvs H Q _=>∃a b ns n,vs=[.ref a,.ref b]/\G0 K H a b ns n/\n<=1000000000000/\
 ∀(r:Int) (H':Hp),0<=r->r<1999999973->SB b H H'->H' b=some (.lst [.int (n+1)])->Q (.int r) H'
theorem sP {P:Program}{w:World}{K:W.Frag}{mg:Str->Option Value}{base:Heap}{CX:jL}{k:Nat}{f:Addr}{fd:FuncData}{ps:List Str}(F:d_ P w K mg base CX k f fd ps (oI K)):d_ P w K mg base CX k f fd ps (nL K):=
 F.imp λvs H Q E ⟨a,b,ns,n,e,g,J,q⟩=>⟨a,b,ns,n,e,g,J,λH' s1 h1=>q _ H' (vq _ _) (vv _ _) s1 h1⟩
def sQ (K:W.Frag):Sp:=λvs H Q _=>∃a b ns n,vs=[.ref a,.ref b]/\G0 K H a b ns n/\n<=1000000000000/\
 ∀(v:V) (k:Kd) (H':Hp),SB b H H'->H' b=some (.lst [.int (n+1)])->KA H' v k->k.dep<=1->px k->k.W->Q v H'
def DF (K:W.Frag):Sp:=λvs H Q _=>∃a b ns n,∃m:Nat,vs=[.ref a,.ref b,.int m]/\m<=12/\G0 K H a b ns n/\n<=1000000000000/\
 ∀(p:Addr) (ss:List Str) (H':Hp),SB b H H'->H' b=some (.lst [.int (n+1)])->p≠b->H' p=some (.lst (ss.map V.str))->ss.length=m->ss.Nodup->Q (.ref p) H'
noncomputable def ck:Nat->Nat
 |0=>2
 |d+1=>3 * ck d+6
def pN (K:W.Frag) (d:Nat):Sp:=λvs H Q _=>∃a b ns n,vs=[.ref a,.ref b,.int d]/\G0 K H a b ns n/\n+ck d<=1000000000000/\
 ∀(v:V) (k:Kd) (n':Int) (H':Hp),SB b H H'->H' b=some (.lst [.int n'])->n<=n'->n'<=n+ck d->KA H' v k->k.dep<=d+1->k.W->Q v H'
def DG (K:W.Frag) (d:Nat):Sp:=λvs H Q _=>∃a b ns n,∃m:Nat,vs=[.ref a,.ref b,.int m,.int d]/\m<=3/\G0 K H a b ns n/\n+1+3 * ck d<=1000000000000/\
 ∀(t:Addr) (xs:List V) (fs:Fs) (n':Int) (H':Hp),SB b H H'->H' b=some (.lst [.int n'])->n<=n'->n'<=n+1+3 * ck d->H' t=some (.tup xs)->FA H' xs fs->fs.names.Nodup->fs.names.length=m->fs.dep<=d+1->fs.W->Q (.ref t) H'
def DH (K:W.Frag) (d:Nat):Sp:=λvs H Q _=>∃a b ns n,∃m:Nat,vs=[.ref a,.ref b,.int m,.int d]/\1<=m/\m<=3/\G0 K H a b ns n/\n+5+3 * ck d<=1000000000000/\
 ∀(v:V) (k:Kd) (n':Int) (H':Hp),SB b H H'->H' b=some (.lst [.int n'])->n<=n'->n'<=n+5+3 * ck d->KA H' v k->k.dep<=d+2->k.W->(∃key J fs,k=.rows key J fs)->Q v H'
def DJ (K:W.Frag):Sp:=λvs H Q _=>∃a b ns n,vs=[.ref a,.ref b]/\G0 K H a b ns n/\n<=1000000000000/\
 ∀(H':Hp),SB b H H'->H' b=some (.lst [.int (n+1)])->Q (.int (num ns (n+1))) H'
def DK (K:W.Frag):Sp:=λvs H Q _=>∃a b ns n,vs=[.ref a,.ref b]/\G0 K H a b ns n/\n<=1000000000000/\
 ∀(H':Hp),SB b H H'->H' b=some (.lst [.int (n+1)])->Q (.str (ix ns (n+1))) H'
def vI (K:W.Frag):Sp:=λvs H Q _=>∃a b ns n,∃m:Nat,vs=[.ref a,.ref b,.int m]/\m<=12/\G0 K H a b ns n/\n<=1000000000000/\
 ∀(p:Addr) (ss:List Str) (H':Hp),SB b H H'->H' b=some (.lst [.int (n+1)])->p≠b->H' p=some (.lst (ss.map V.str))->ss.length=m->ss.Nodup->ss.Pairwise sle->(∀x∈ss,vC x)->Q (.ref p) H'
theorem namesW {P:Program}{w:World}{K:W.Frag}{mg:Str->Option Value}{base:Heap}{CX:jL}{k:Nat}{f:Addr}{fd:FuncData}{ps:List Str}(F:d_ P w K mg base CX k f fd ps (vI K)):d_ P w K mg base CX k f fd ps (DF K):=
 F.imp λvs H Q E ⟨a,b,ns,n,m,e,J,g,L,q⟩=>⟨a,b,ns,n,m,e,J,g,L,λp ss H' s1 h1 h2 U Y h5 _ _=>q p ss H' s1 h1 h2 U Y h5⟩
def sR (K:W.Frag) (d:Nat):Sp:=λvs H Q _=>∃a b ns n,∃m:Nat,vs=[.ref a,.ref b,.int m,.int d]/\m<=12/\G0 K H a b ns n/\n+1+m * ck d<=1000000000000/\
 ∀(t:Addr) (xs:List V) (fs:Fs) (n':Int) (H':Hp),SB b H H'->H' b=some (.lst [.int n'])->n<=n'->n'<=n+1+m * ck d->H' t=some (.tup xs)->FA H' xs fs->fs.names.Nodup->fs.names.length=m->fs.dep<=d+1->fs.W->fs.names.Pairwise sle->(∀x∈fs.names,vC x)->Q (.ref t) H'
theorem Kk {P:Program}{w:World}{K:W.Frag}{mg:Str->Option Value}{base:Heap}{CX:jL}{k d:Nat}{f:Addr}{fd:FuncData}{ps:List Str}(F:d_ P w K mg base CX k f fd ps (sR K d)):d_ P w K mg base CX k f fd ps (DG K d):=
 F.imp λvs H Q E ⟨a,b,ns,n,m,e,hm,g,hn,q⟩=>by
   have e3:(m:Int) * ck d<=3 * ck d:=Q22 (by omega) (by omega);exact⟨a,b,ns,n,m,e,by omega,g,by omega,λt xs fs n' H' h1 h2 L h4 U Y h7 h8 h9 J _ _=>q t xs fs n' H' h1 h2 L (by omega) U Y h7 h8 h9 J⟩
variable {P:Program}{w:World}{K:W.Frag}{mg:Str->Option Value}{base:Heap}
theorem Kl:gP ["_law_script","_law_at","_law_cell","_law_m"] XG (gC (top 35)):=gT
theorem qK (T:Tb mg)(J:Dn K mg "_law_next" g8 (top 35) L U):d_ P w K mg base f_ (1) L U g8 (oI K):=by
 refine J.F.ok Kl λvs H Q E h=>?_;obtain⟨a,b,ns,n,rfl,g,hn,q⟩:=h;refine⟨rfl,λaa A outer s nd hr hu=>?_⟩
 refine⟨_,(gh (Bt (gy j7 (iT (pv 1) c_) c_) (G8 (pv 1) c_ set_list))
  (gh (gD 2 nd c_)
  (gh (gF (gI rJ (g7 jC (by rfl) T.jc PySem.boot_len (a_ (pv 0) b_)) c_ (gE _)) (gm (gD 2 nd (iT (pv 0) (gy ia (iT (pv 1) c_) (g7 jC (by rfl) T.jc PySem.boot_len (a_ (pv 0) b_)))))) gH)
  (gh (gD 3 nd (gy ia (gy lA (gy j7 (gy j7 (gy ia (pv 2) c_) (gy lA (gy lA (iT (pv 1) c_) (iT (pv 1) c_)) c_)) c_) c_) c_))
  (gm (gv (gy ia (gy lA (pv 3) (pv 3)) c_))))))),?_⟩
 ac_rfl
 have hb:=g.at_;have hp:=g.pos;have hS:gi K (upd H b (.lst [.int (n+1)])) a (ns.map V.int):=(SB.wr.lN hb g.lN).sq;have Y:upd H b (.lst [.int (n+1)]) b=some (.lst [.int (n+1)]):=gu;refine⟨_,rfl,b,_,_,_,rfl,rfl,gi.of hb,rfl,_,_,rfl,rfl,_,rfl,b,_,_,0,rfl,rfl,hb,rfl,?_⟩;refine⟨_,rfl,a,_,rfl,.inl hS,_,_,rfl,rfl,_,rfl,?_⟩;have hl:(ns.map V.int).length=ns.length:=Q04 _;refine iL (λc=>?_) (λc=>?_)
 . have c':(0:Int)<((ns.map V.int).length:Nat):=of_decide_eq_true c;rw[hl] at c';have i0:=Q0k (n+1) (show(ns.length:Int)≠0 by omega);have i1:=Q0l (n+1) c'
   have hz:iY (ns.map V.int) ((n+1) % (((ns.map V.int).length:Nat):Int))=some (.int (cellAt ns (n+1))):=by
    rw[hl,int_at i0 i1];unfold cellAt;rw[if_pos (by omega)]
   refine⟨_,rfl,_,rfl,b,_,_,_,rfl,rfl,gi.of Y,rfl,_,rfl,a,_,rfl,.inl hS,_,_,rfl,rfl,by rw[hl];exact c',a,_,_,_,rfl,rfl,hS,hz,?_⟩
   refine⟨_,rfl,_,_,rfl,rfl,(by show(0:Int)<_;decide),_,rfl,b,_,_,_,rfl,rfl,gi.of Y,rfl,_,rfl,b,_,_,_,rfl,rfl,gi.of Y,rfl,_,_,rfl,rfl,.inl ⟨by omega,by omega⟩,_,_,rfl,rfl,.inr ⟨by decide,by decide⟩,
    _,_,rfl,rfl,_,_,rfl,rfl,_,_,rfl,rfl,.inr ⟨by decide,by decide⟩,_,_,rfl,rfl,(by show(0:Int)<_;decide),?_⟩
   refine⟨_,rfl,_,rfl,_,_,rfl,rfl,.inl ⟨?_,?_⟩,_,_,rfl,rfl,(by show(0:Int)<_;decide),q _ SB.wr Y⟩
   . exact Q37 (by decide) (Q0k _ (by decide))
   . exact Int.lt_trans (Q0l _ (by decide)) (by decide)
 . have c':¬(0:Int)<((ns.map V.int).length:Nat):=λz=>c (decide_eq_true z);rw[hl] at c'
   have hz:cellAt ns (n+1)=0:=by
    unfold cellAt;rw[if_neg (by omega)]
   have q':Q (.int (((0:Int) % 2147483647+(n+1) * (n+1) * 7919+11) * 48271 % 2147483647 * (((0:Int) % 2147483647+(n+1) * (n+1) * 7919+11) * 48271 % 2147483647) % 1999999973)) (upd H b (.lst [.int (n+1)])):=by
    have:=q _ SB.wr Y;unfold nx at this;rw[hz] at this;exact this
   refine⟨_,rfl,_,_,rfl,rfl,(by show(0:Int)<_;decide),_,rfl,b,_,_,_,rfl,rfl,gi.of Y,rfl,_,rfl,b,_,_,_,rfl,rfl,gi.of Y,rfl,_,_,rfl,rfl,.inl ⟨by omega,by omega⟩,_,_,rfl,rfl,.inr ⟨by decide,by decide⟩,
    _,_,rfl,rfl,_,_,rfl,rfl,_,_,rfl,rfl,.inr ⟨by decide,by decide⟩,_,_,rfl,rfl,(by show(0:Int)<_;decide),?_⟩
   refine⟨_,rfl,_,rfl,_,_,rfl,rfl,.inl ⟨?_,?_⟩,_,_,rfl,rfl,(by show(0:Int)<_;decide),q'⟩
   . exact Q37 (by decide) (Q0k _ (by decide))
   . exact Int.lt_trans (Q0l _ (by decide)) (by decide)
theorem Km:gP XG XG (gC (top 39)):=gT
theorem vJ (T:Tb mg)(J:Dn K mg "_law_plain" g8 (top 39) L U)(Y:Dn K mg "_law_next" g8 (top 35) aa ab)(ac:d_ P w K mg base f_ (1) aa ab g8 (nL K)):d_ P w K mg base f_ (2) L U g8 (sQ K):=by
 refine J.F.ok Km λvs H Q E h=>?_;obtain⟨a,b,ns,n,rfl,g,hn,q⟩:=h;refine⟨rfl,λaf A outer s nd hr hu=>?_⟩
 refine⟨_,(gh (gF (gI gX (gy ia (gz ac hr Y (a_ (pv 0) (a_ (pv 1) b_))) c_) c_ (gE _)) (gm (gv (iw (a_ gK b_)))) gH)
  (gm (gv (iw (a_ gK b_))))),?_⟩
 ac_rfl
 refine⟨_,rfl,_,rfl,a,b,ns,n,rfl,g,hn,λr H1 r0 r1 s1 h1=>?_⟩;refine⟨_,_,rfl,rfl,(by show(0:Int)<_;decide),rfl,_,rfl,?_⟩
 have fin:∀(x:Str) (k:Kd),(∀(p:Addr) (H2:Hp),H2 p=some (.tup [.str x])->KA H2 (.ref p) k)->k.dep<=1->px k->k.W->∀p,H1 p=none->Q (.ref p) (upd H1 p (.tup [.str x])):=λx k hk hd hp hw p ae=>
  q _ k _ (s1.trans (SB.new ae)) (by rw[gj (gB h1 ae)];exact h1) (hk p _ gu) hd hp hw
 refine iL (λc=>?_) (λc=>?_)
 . exact⟨ma,λp hp=>fin _ .num (λp H2 e=>by unfold KA;exact⟨p,rfl,e⟩) (Q00 _) trivial (by unfold Kd.W;trivial) p hp⟩
 . exact⟨ma,λp hp=>fin _ .ix (λp H2 e=>by unfold KA;exact⟨p,rfl,e⟩) (Q00 _) trivial (by unfold Kd.W;trivial) p hp⟩
theorem Ko:gP ["_law_script","_law_at","_law_m","_law_cell"] XG (gC (top 36)):=gT
theorem Kq (T:Tb mg)(J:Dn K mg "_law_number" g8 (top 36) L U)(Y:Dn K mg "_law_next" g8 (top 35) aa ab)(ac:d_ P w K mg base f_ (1) aa ab g8 (oI K)):d_ P w K mg base f_ (2) L U g8 (DJ K):=by
 refine J.F.ok Ko λvs H Q E h=>?_;obtain⟨a,b,ns,n,rfl,g,hn,q⟩:=h;refine⟨rfl,λaf A outer s nd hr hu=>?_⟩
 refine⟨_,(gh (gD 2 nd (gz ac hr Y (a_ (pv 0) (a_ (pv 1) b_))))
  (gh (gD 3 nd c_)
  (gh (gF (gI rJ (g7 jC (by rfl) T.jc PySem.boot_len (a_ (pv 0) b_)) c_ (gE _)) (gm (gD 3 nd (iT (pv 0) (gy ia (iT (pv 1) c_) (g7 jC (by rfl) T.jc PySem.boot_len (a_ (pv 0) b_)))))) gH)
  (gh (gF (gI gX (gy ia (pv 2) c_) c_ (gE _)) (gm (gv (gy l5 (gy ia (gy ju (pv 2) c_) c_) c_))) gH)
  (gm (gv (gy l5 (gy ia (gy j7 (gy ia (pv 3) (gy rH c_ c_)) (gy lA (pv 2) (gy rH c_ c_))) (gy lA c_ (gy rH c_ c_))) (gy rH c_ c_)))))))),?_⟩
 ac_rfl
 refine⟨_,rfl,_,rfl,a,b,ns,n,rfl,g,hn,λH1 s1 h1=>?_⟩;have g1:=g.go s1 h1 (by omega);have hS:=g1.lN.sq;have r0:=vq ns (n+1);have r1:=vv ns (n+1);have hl:(ns.map V.int).length=ns.length:=Q04 _;have hq:∀e,num ns (n+1)=e->Q (.int e) H1:=λe he=>by rw[<-he];exact q _ s1 h1
 unfold num at hq;refine⟨_,rfl,a,_,rfl,.inl hS,_,_,rfl,rfl,_,rfl,?_⟩;have pw:uL 10 40:=⟨by decide,by decide,by decide⟩;have ae:uL 10 29:=⟨by decide,by decide,by decide⟩;refine iL (λc=>?_) (λc=>?_)
 . have c':(0:Int)<((ns.map V.int).length:Nat):=of_decide_eq_true c;rw[hl] at c';have i0:=Q0k (n+1) (show(ns.length:Int)≠0 by omega);have i1:=Q0l (n+1) c'
   have hz:iY (ns.map V.int) ((n+1) % (((ns.map V.int).length:Nat):Int))=some (.int (cellAt ns (n+1))):=by
    rw[hl,int_at i0 i1];unfold cellAt;rw[if_pos (by omega)]
   refine⟨_,rfl,_,rfl,b,_,_,_,rfl,rfl,gi.of h1,rfl,_,rfl,a,_,rfl,.inl hS,_,_,rfl,rfl,by rw[hl];exact c',a,_,_,_,rfl,rfl,hS,hz,?_⟩;refine⟨_,rfl,_,_,rfl,rfl,(by show(0:Int)<_;decide),rfl,_,rfl,iL (λc2=>?_) (λc2=>?_)⟩
   . have c3:nx ns (n+1) % 3=0:=by
      have:=of_decide_eq_true c2;injection this
     refine⟨_,rfl,_,_,rfl,rfl,⟨by decide,by decide⟩,_,_,rfl,rfl,(by show(0:Int)<_;decide),_,_,rfl,rfl,hq _ (by rw[if_pos c3])⟩
   . have c3:¬nx ns (n+1) % 3=0:=λz=>c2 (decide_eq_true (show V.int (nx ns (n+1) % 3)=V.int 0 by rw[z]));refine⟨_,rfl,_,_,rfl,rfl,pw,_,_,rfl,rfl,(by show(0:Int)<_;decide),_,rfl,_,_,rfl,rfl,ae,_,_,rfl,rfl,.inl ⟨by omega,by omega⟩,_,_,rfl,rfl,_,_,rfl,rfl,pw,_,_,rfl,rfl,.inl ⟨by decide,by decide⟩,_,_,rfl,rfl,(by show(0:Int)<_;decide),_,_,rfl,rfl,pw,_,_,rfl,rfl,hq _ (by rw[if_neg c3];rfl)⟩
 . have c':¬(0:Int)<((ns.map V.int).length:Nat):=λz=>c (decide_eq_true z);rw[hl] at c'
   have hz:cellAt ns (n+1)=0:=by
    unfold cellAt;rw[if_neg (by omega)]
   refine⟨_,rfl,_,_,rfl,rfl,(by show(0:Int)<_;decide),rfl,_,rfl,iL (λc2=>?_) (λc2=>?_)⟩
   . have c3:nx ns (n+1) % 3=0:=by
      have:=of_decide_eq_true c2;injection this
     refine⟨_,rfl,_,_,rfl,rfl,⟨by decide,by decide⟩,_,_,rfl,rfl,(by show(0:Int)<_;decide),_,_,rfl,rfl,hq _ (by rw[if_pos c3])⟩
   . have c3:¬nx ns (n+1) % 3=0:=λz=>c2 (decide_eq_true (show V.int (nx ns (n+1) % 3)=V.int 0 by rw[z]));refine⟨_,rfl,_,_,rfl,rfl,pw,_,_,rfl,rfl,(by show(0:Int)<_;decide),_,rfl,_,_,rfl,rfl,ae,_,_,rfl,rfl,.inl ⟨by omega,by omega⟩,_,_,rfl,rfl,_,_,rfl,rfl,pw,_,_,rfl,rfl,.inl ⟨by decide,by decide⟩,_,_,rfl,rfl,(by show(0:Int)<_;decide),_,_,rfl,rfl,pw,_,_,rfl,rfl,hq _ (by rw[if_neg c3,hz];rfl)⟩
theorem pO:kT.length=93:=by decide +kernel
theorem DL {z:Int}(J:0<=z)(h1:z<93):iY kT.cps.toList z=some (kT.cps.toList.getD z.toNat 0):=by
 have hl:kT.cps.toList.length=93:=by
  have:=pO;rw[Q1i];exact this
 unfold iY lC;rw[hl,if_pos J,if_pos (show z<((93:Nat):Int) by omega)];show kT.cps.toList[z.toNat]? =_;rw[Q0f,Q05 (by omega)];rfl
theorem vK (m:Int):∀k,(pA m k).length=k
 |0=>rfl
 |k+1=>by
  show(pA m k++_).length=_;rw[Du,vK m k];rfl
noncomputable def σW (a b:Addr) (m:Int) (k:Int) (w:Str) (y z:Option V):St:=[some (.ref a),some (.ref b),some (.str kT),some (.int m),some (.int k),some (.str w),y,z]
theorem Kr:gP ["_law_script","_law_at","_law_signs","_law_m","_law_many","_law_word_here","_law_k","_law_place"] XG (gC (top 37)):=gT
theorem Ks (T:Tb mg)(J:Dn K mg "_law_word" g8 (top 37) L U)(Y:Dn K mg "_law_next" g8 (top 35) aa ab)(ac:d_ P w K mg base f_ (1) aa ab g8 (oI K)):d_ P w K mg base f_ (2) L U g8 (DK K):=by
 refine J.F.ok Kr λvs H Q E h=>?_;obtain⟨a,b,ns,n,rfl,g,hn,q⟩:=h;refine⟨rfl,λaf A outer s nd hr hu=>?_⟩
 refine⟨_,(gh (gD 2 nd gK)
  (gh (gD 2 nd (gy qo (pv 2) gK))
  (gh (gD 3 nd (gz ac hr Y (a_ (pv 0) (a_ (pv 1) b_))))
  (gh (gD 4 nd (gy ia (pv 3) c_))
  (gh (gF (gI gX (gy ia (gy ju (pv 3) c_) c_) c_ (gE _)) (gm (gD 4 nd c_)) gH)
  (gh (gD 5 nd gK)
  (gh (jo PassesOwn.never rfl (qj rfl T.pI (a_ (pv 4) b_)) (g5 (i:=6) nd rfl iA) (gh (gD 7 nd (gy j7 (gy ju (pv 3) c_) (gy lA (gy lA (pv 6) (pv 6)) (gy ia (gy ju (pv 3) c_) c_))))
  (gm (gD 5 nd (gy qo (pv 5) (oo qp (pv 2) (gy ia (pv 7) (g7 Ii (by rfl) T.jc PySem.boot_len (a_ (pv 2) b_))) (λ_ _=>rfl)))))))
  (gm (gv (pv 5)))))))))),?_⟩
 ac_rfl
 have ae:(kT).length<=sizeLine:=by rw[pO];decide
 refine⟨_,rfl,_,_,rfl,rfl,ae,?_⟩;refine⟨_,rfl,_,rfl,a,b,ns,n,rfl,g,hn,λH1 s1 h1=>?_⟩;have r0:=vq ns (n+1);have r1:=vv ns (n+1);have hq:∀e,ix ns (n+1)=e->Q (.str e) H1:=λe he=>by rw[<-he];exact q _ s1 h1
 unfold ix at hq;generalize nx ns (n+1)=m at *;refine⟨_,rfl,_,_,rfl,rfl,(by show(0:Int)<_;decide),?_⟩;refine⟨_,rfl,_,_,rfl,rfl,⟨by decide,by decide⟩,_,_,rfl,rfl,(by show(0:Int)<_;decide),rfl,_,rfl,iL (λc=>?_) (λc=>?_)⟩
 . have c3:m / 5 % 29=0:=by
    have:=of_decide_eq_true c;injection this
   rw[if_pos c3] at hq;refine⟨_,rfl,_,rfl,by decide,by decide,oV (n:=Int.toNat 40) (λi σ H'=>∃y z,σ=σW a b m 40 (pA m i) y z/\H'=H1) ⟨_,_,rfl,rfl⟩ ?_ ?_⟩
   . rintro i σ H' hi ⟨y,z,rfl,rfl⟩;have hi:i<40:=hi;have e0:(0:Int)+(i:Int)=(i:Int):=by omega
     have l3:0<=(m / 145+((0:Int)+(i:Int)) * ((0:Int)+(i:Int)) * (m / 7 % 3)) % 93/\(m / 145+((0:Int)+(i:Int)) * ((0:Int)+(i:Int)) * (m / 7 % 3)) % 93<93:=⟨Q0k _ (by decide),Q0l _ (by decide)⟩;refine⟨_,rfl,_,_,rfl,rfl,⟨by decide,by decide⟩,_,rfl,_,rfl,_,_,rfl,rfl,.inl ⟨by omega,by omega⟩,_,rfl,_,_,rfl,rfl,⟨by decide,by decide⟩,_,_,rfl,rfl,(by show(0:Int)<_;decide),_,_,rfl,rfl,.inr ⟨by omega,by omega⟩,_,_,rfl,rfl,?_⟩;refine⟨_,rfl,_,rfl,_,rfl,_,rfl,_,rfl,ae,_,_,rfl,rfl,(by show(0:Int)<((kT.length:Nat):Int);rw[pO];decide),kT,_,_,rfl,rfl,ae,(by rw[pO];exact DL l3.1 l3.2),_,_,rfl,rfl,?_,?_⟩
     . rw[vK];show i+1<=sizeLine;exact Q0q (iB (by omega))
     . rw[e0];exact⟨_,_,rfl,rfl⟩
   . rintro σ H' ⟨y,z,rfl,rfl⟩;exact⟨_,rfl,hq _ rfl⟩
 . have c3:¬m / 5 % 29=0:=λz=>c (decide_eq_true (show V.int (m / 5 % 29)=V.int 0 by rw[z]));rw[if_neg c3] at hq;have h5:0<=m % 5/\m % 5<5:=by omega
   refine⟨_,rfl,_,rfl,by omega,by omega,oV (n:=Int.toNat (m % 5)) (λi σ H'=>∃y z,σ=σW a b m (m % 5) (pA m i) y z/\H'=H1) ⟨_,_,rfl,rfl⟩ ?_ ?_⟩
   . rintro i σ H' hi ⟨y,z,rfl,rfl⟩;have hi:i<40:=by omega
     have e0:(0:Int)+(i:Int)=(i:Int):=by omega
     have l3:0<=(m / 145+((0:Int)+(i:Int)) * ((0:Int)+(i:Int)) * (m / 7 % 3)) % 93/\(m / 145+((0:Int)+(i:Int)) * ((0:Int)+(i:Int)) * (m / 7 % 3)) % 93<93:=⟨Q0k _ (by decide),Q0l _ (by decide)⟩;refine⟨_,rfl,_,_,rfl,rfl,⟨by decide,by decide⟩,_,rfl,_,rfl,_,_,rfl,rfl,.inl ⟨by omega,by omega⟩,_,rfl,_,_,rfl,rfl,⟨by decide,by decide⟩,_,_,rfl,rfl,(by show(0:Int)<_;decide),_,_,rfl,rfl,.inr ⟨by omega,by omega⟩,_,_,rfl,rfl,?_⟩;refine⟨_,rfl,_,rfl,_,rfl,_,rfl,_,rfl,ae,_,_,rfl,rfl,(by show(0:Int)<((kT.length:Nat):Int);rw[pO];decide),kT,_,_,rfl,rfl,ae,(by rw[pO];exact DL l3.1 l3.2),_,_,rfl,rfl,?_,?_⟩
     . rw[vK];show i+1<=sizeLine;exact Q0q (iB (by omega))
     . rw[e0];exact⟨_,_,rfl,rfl⟩
   . rintro σ H' ⟨y,z,rfl,rfl⟩;exact⟨_,rfl,hq _ rfl⟩
theorem Ku (n:Nat)(h:n<=1000):Builtin.Str.tooLong n=false:=by
 have:n<=sizeLine:=Q0q (iB h);unfold Builtin.Str.tooLong;exact decide_eq_false (by omega)
theorem Kv (f:Nat->Str)(i:Nat):((List.range (i+1)).map f).map V.str=((List.range i).map f).map V.str++[V.str (f i)]:=by
 rw[Q38,Q0m,Q0m];rfl
noncomputable abbrev abc:Str:="abcdefghijklmnopqrstuvwxyz"
noncomputable abbrev stemOf (r:Int):Str:=lt (r / 6 % 26)++lt (r / 156 % 26)
noncomputable def σN (a b:Addr) (m:Nat) (r:Int) (p:Addr) (y z:Option V):St:=
 [some (.ref a),some (.ref b),some (.int m),some (.str abc),some (.int r),some (.int (2 * (r % 6)+1)),some (.str (stemOf r)),some (.int (r / 4056 % 3)),some (.ref p),y,z]
theorem Kw:gP ["_law_script","_law_at","_law_many","_law_letters","_law_m","_law_step","_law_stem","_law_cut","_law_names_here","_law_k","_law_sign"] Xd (gC (top 38)):=gT
theorem DM (T:Tb mg)(J:Dn K mg "_law_names" oz (top 38) L U)(Y:Dn K mg "_law_next" g8 (top 35) aa ab)(ac:d_ P w K mg base f_ (1) aa ab g8 (nL K)):d_ P w K mg base f_ (2) L U oz (vI K):=by
 refine J.F.ok Kw λvs H Q E h=>?_;obtain⟨a,b,ns,n,m,rfl,hm,g,hn,q⟩:=h;refine⟨rfl,λan A outer s nd hr hu=>?_⟩
 refine⟨_,(gh (gD 3 nd gK)
  (gh (gD 4 nd (gz ac hr Y (a_ (pv 0) (a_ (pv 1) b_))))
  (gh (gD 5 nd (iT (iJ (a_ c_ (a_ c_ (a_ c_ (a_ c_ (a_ c_ (a_ c_ b_))))))) (gy ia (pv 4) c_)))
  (gh (gD 6 nd (gy qo (oo qp (pv 3) (gy ia (gy ju (pv 4) c_) c_) (λ_ _=>rfl)) (oo qp (pv 3) (gy ia (gy ju (pv 4) c_) c_) (λ_ _=>rfl))))
  (gh (gD 7 nd (gy ia (gy ju (pv 4) c_) c_))
  (gh (gD 8 nd (iJ b_))
  (gh (jo PassesOwn.never rfl (qj rfl T.pI (a_ (pv 2) b_)) (g5 (i:=9) nd rfl iA) (gm (gF (gI gX (gy ia (gy ju (pv 4) c_) c_) c_ (gE _)) (gm (j5 (mN PySem.F.plainAttrs_list PySem.F.slot_list_append PySem.F.type_list_append nu (pv 8) (a_ (gy Jc (oo qp (pv 3) (gy ia (gy ju (pv 4) c_) c_) (λ_ _=>rfl)) (gy j7 (pv 9) c_)) b_)))) (gh (gD 10 nd (oo qp (pv 3) (gy ia (gy j7 (gy ju (pv 4) c_) (gy lA (pv 9) (pv 5))) c_) (λ_ _=>rfl)))
  (gm (j5 (mN PySem.F.plainAttrs_list PySem.F.slot_list_append PySem.F.type_list_append nu (pv 8) (a_ (gy qo (gy qo (rN Cw (pv 6) rL (rM (pv 7))) (pv 10)) (rN Cw (pv 6) (rM (pv 7)) rL)) b_))))))))
  (gm (gv (g7 IZ (by rfl) T.vD boot_sorted (a_ (pv 8) b_))))))))))),?_⟩
 ac_rfl
 refine⟨_,rfl,_,rfl,a,b,ns,n,rfl,g,hn,λr H1 r0 r1 s1 h1=>?_⟩;have hz:(abc).length<=sizeLine:=by decide +kernel
 have m6:0<=r % 6/\r % 6<6:=by omega
 have l1:0<=r / 6 % 26/\r / 6 % 26<26:=by omega
 have l2:0<=r / 156 % 26/\r / 156 % 26<26:=by omega
 refine⟨Kj,λp1 aj=>?_⟩;refine⟨_,rfl,_,_,rfl,rfl,(by show(0:Int)<_;decide),p1,_,_,_,rfl,rfl,gi.of gu,J0 m6.1 m6.2,?_⟩;have s2:SB b H (upd H1 p1 (.lst [.int 1,.int 3,.int 5,.int 7,.int 9,.int 11])):=s1.trans (SB.new aj);have h2:upd H1 p1 (.lst [.int 1,.int 3,.int 5,.int 7,.int 9,.int 11]) b=some (.lst [.int (n+1)]):=by rw[gj (gB h1 aj)];exact h1
 generalize upd H1 p1 (.lst [.int 1,.int 3,.int 5,.int 7,.int 9,.int 11])=H2 at s2 h2
 refine⟨_,rfl,_,rfl,_,_,rfl,rfl,⟨by decide,by decide⟩,_,_,rfl,rfl,(by show(0:Int)<_;decide),_,_,_,rfl,rfl,hz,sg l1.1 l1.2,_,rfl,_,rfl,_,_,rfl,rfl,⟨by decide,by decide⟩,_,_,rfl,rfl,(by show(0:Int)<_;decide),_,_,_,rfl,rfl,hz,sg l2.1 l2.2,
  _,_,rfl,rfl,iq,?_⟩
 refine⟨_,rfl,_,_,rfl,rfl,⟨by decide,by decide⟩,_,_,rfl,rfl,(by show(0:Int)<_;decide),?_⟩;refine⟨pL,λp hp=>?_⟩;have al:p≠b:=λz=>by rw[z,h2] at hp;cases hp
 have em:Int.toNat (m:Int)=m:=by omega
 refine⟨_,rfl,_,rfl,by omega,by omega,oV (n:=Int.toNat (m:Int)) (λi σ H'=>∃y z,σ=σN a b m r p y z/\SB b H H'/\H' b=some (.lst [.int (n+1)])/\H' p=some (.lst (((List.range i).map (nameAt r)).map V.str))) ?_ ?_ ?_⟩
 . exact⟨_,_,rfl,s2.trans (SB.new hp),by rw[gj (gB h2 hp)];exact h2,gu⟩
 . intro i σ H' hi zq;obtain⟨y,z,rfl,sb,ah,af⟩:=zq;rw[em] at hi
   have ae:(((List.range i).map (nameAt r)).map V.str).length<sizeLine:=by
    rw[Q04,Q04,Q2];exact iB (by omega)
   have next:∀(v:Str) (y' z':Option V),v=nameAt r i->∃y z,σN a b m r p y' z'=σN a b m r p y z/\SB b H (upd H' p (.lst (((List.range i).map (nameAt r)).map V.str++[V.str v])))/\
    upd H' p (.lst (((List.range i).map (nameAt r)).map V.str++[V.str v])) b=some (.lst [.int (n+1)])/\upd H' p (.lst (((List.range i).map (nameAt r)).map V.str++[V.str v])) p=some (.lst (((List.range (i+1)).map (nameAt r)).map V.str)):=by
    rintro v y' z' rfl;refine⟨y',z',rfl,λc o hc hh=>?_,by rw[gj (Ne.symm al)];exact ah,by rw[gu,Kv]⟩;by_cases e:c=p
    . subst e;have:=s2 c o hc hh;rw[hp] at this;cases this
    . rw[gj e];exact sb c o hc hh
   have e0:(0:Int)+(i:Int)=(i:Int):=by omega
   refine⟨_,rfl,_,_,rfl,rfl,⟨by decide,by decide⟩,_,_,rfl,rfl,(by show(0:Int)<_;decide),rfl,_,rfl,?_⟩;refine iL (λc=>?_) (λc=>?_)
   . have c':r / 12168 % 4=0:=by
      have:=of_decide_eq_true c;injection this
     refine⟨_,rfl,.inl ⟨rfl,_,gi.of af⟩,_,rfl,_,rfl,_,_,rfl,rfl,⟨by decide,by decide⟩,_,_,rfl,rfl,(by show(0:Int)<_;decide),_,_,_,rfl,rfl,hz,sg l1.1 l1.2,_,rfl,_,_,rfl,rfl,_,_,rfl,rfl,?_,p,_,_,rfl,rfl,af,ae,?_⟩
     . rw[e0];exact J6 (se _) (by omega) Ku
     . refine next _ _ _ ?_;rw[e0];unfold nameAt;rw[if_pos c'];rfl
   . have c':¬r / 12168 % 4=0:=λz=>c (decide_eq_true (show V.int (r / 12168 % 4)=V.int 0 by rw[z]));have l3:0<=(r / 156+((0:Int)+(i:Int)) * (2 * (r % 6)+1)) % 26/\(r / 156+((0:Int)+(i:Int)) * (2 * (r % 6)+1)) % 26<26:=⟨Q0k _ (by decide),Q0l _ (by decide)⟩;have ls:(stemOf r).length<=sizeLine:=iq;refine⟨_,rfl,_,rfl,_,_,rfl,rfl,⟨by decide,by decide⟩,_,rfl,_,rfl,_,_,rfl,rfl,.inl ⟨by omega,by omega⟩,_,_,rfl,rfl,_,_,rfl,rfl,(by show(0:Int)<_;decide),_,_,_,rfl,rfl,hz,sg l3.1 l3.2,?_⟩;have k1:=Txt.slice_le (stemOf r) none (some (r / 4056 % 3));have k2:=Txt.slice_le (stemOf r) (some (r / 4056 % 3)) none;have k0:(stemOf r).length=2:=rfl;rw[k0] at k1 k2;refine⟨_,rfl,.inl ⟨rfl,_,gi.of af⟩,_,rfl,_,rfl,_,rfl,_,rfl,ls,_,rfl,_,_,rfl,rfl,?_,_,rfl,_,rfl,_,rfl,_,rfl,ls,_,_,rfl,rfl,?_,p,_,_,rfl,rfl,af,ae,?_⟩
     . show _+1<=sizeLine;exact Q0g (Q39 k1 1) (by decide)
     . rw[Du];show _+1+_<=sizeLine;exact Q0g (Nat.add_le_add (Q39 k1 1) k2) (by decide)
     . refine next _ _ _ ?_;rw[e0];unfold nameAt;rw[if_neg c'];rfl
 . intro σ H' zq;obtain⟨y,z,rfl,sb,ah,af⟩:=zq;rw[em] at af;have ae:((List.range m).map (nameAt r)).length=m:=by rw[Q04,Q2]
   refine⟨_,rfl,p,_,rfl,gi.of af,by rw[ae];omega,λp' am ai ag ak=>?_⟩;refine q p' am _ (sb.trans (SB.new ai)) (by rw[gj (gB ah ai)];exact ah) (λz=>by rw[z,ah] at ai;cases ai) gu (ag.length_eq.trans ae) (ag.nodup_iff.mpr (names_nodup r0 hm)) (Dw ak) λx hx=>?_;obtain⟨i,hi,rfl⟩:=List.mem_map.mp (ag.mem_iff.mp hx);exact Ke (by have:=List.mem_range.mp hi;omega)
theorem Kx:gP Xg XI (gC (top 40)):=gT
theorem vL (d:Nat)(T:Tb mg)(J:Dn K mg "_law_fields" kU (top 40) L U)(Y:Dn K mg "_law_names" oz (top 38) aa ab)(ac:d_ P w K mg base f_ (2) aa ab oz (vI K))(ae:Dn K mg "_law_kind" lK (top 42) af ag)(ah:d_ P w K mg base f_ (2 * d+4) af ag lK (pN K d)):d_ P w K mg base f_ (2 * d+5) L U kU (sR K d):=by
 refine J.F.ok Kx λvs H Q E h=>?_;obtain⟨a,b,ns,n,m,rfl,hm,g,hn,q⟩:=h;refine⟨rfl,λaE A outer s nd hr hu=>?_⟩
 refine⟨_,(gh (gD 4 nd (gz ac hr Y (a_ (pv 0) (a_ (pv 1) (a_ (pv 2) b_)))))
  (gm (gv (nt rP (by rfl) T.pK boot_tuple (a_ (kP (g:=(je 0)) (tt:=lD) (te:=(uO (ja (ik 0) (ja (nr _ _ _ (ja (ik 1) (ja (ik 2) (ja (ik 4) kO)))) kO)))) (own:=["_law_name"]) rfl (kB (N:=Xg) (sc:=gC (top 40))) (mF (pv 4)) (λ_ _ _ _ _=>(g5 (i:=0) (show(["_law_name","_law_script","_law_at","_law_many","_law_deep","_law_names_here"]:List Str).Nodup by decide +kernel) rfl (Or.inl rfl) (.inr rfl))) (λ_ _ _ _ _=>mP) (λ_ _ _ _ _=>(iw (a_ (pv 0) (a_ (gz ah hr ae (a_ (pv 1) (a_ (pv 2) (a_ (pv 4) b_)))) b_))))) b_))))),?_⟩
 ac_rfl
 have aG:0<=(m:Int) * ck d:=Q3a (by omega) (by omega);have ar:n<=1000000000000:=by omega
 refine⟨_,rfl,_,rfl,_,rfl,a,b,ns,n,m,rfl,by omega,g,ar,λp ss H1 s1 h1 au hp hl av aw ap=>?_⟩
 refine⟨_,rfl,p,rfl,⟨_,gi.of hp⟩,λi m' ys H'=>m'=ss.length - i/\i<=ss.length/\∃(fs:Fs) (n':Int),SB b H H'/\H' b=some (.lst [.int n'])/\n<=n'/\n'<=n+1+i * ck d/\H' p=some (.lst (ss.map V.str))/\FA H' ys fs/\fs.names=ss.take i/\fs.dep<=d+1/\ys.length=i/\fs.W,
  ⟨_,rfl,Q0d _,.nil,n+1,s1,h1,by omega,by omega,hp,by unfold FA;rfl,by simp[Fs.names],by simp[Fs.dep],rfl,by unfold Fs.W;trivial⟩,?_⟩
 intro i m' ys H' zq;obtain⟨rfl,aD,fs,n',sb,ak,z1,z2,al,hf,ai,ax,hy,hW⟩:=zq;by_cases hi:i<ss.length
 . refine .inr ⟨⟨_,.str ss[i],gi.of al,by rw[Q0j,Q05 hi];rfl⟩,iB (by omega),λx ay y=>?_⟩;obtain⟨rfl,y⟩:=y;have hx:=y _ (gi.of al)
   have ex:x=.str ss[i]:=by
    rw[Q0j,Q05 hi] at hx;exact(Option.some.inj hx).symm
   subst ex;refine⟨rfl,yes (i5 ?_)⟩;have az:((i:Int)+1) * ck d<=(m:Int) * ck d:=Q22 (by omega) (by omega);rw[Q2l,Int.one_mul] at az;refine⟨_,rfl,_,rfl,_,rfl,_,rfl,a,b,ns,n',rfl,g.go sb ak z1,by omega,λv k aA H2 s2 h2 y1 y2 hk aH aB=>?_⟩;refine⟨iq,λt ht=>?_⟩;have aC:t≠b:=λz=>by rw[z,h2] at ht;cases ht
   have an:Tu H2 (upd H2 t (.tup [.str ss[i],v])):=Tu.of (λc o h=>by rw[gj (gB h ht)];exact h);have tu:Tu ay (upd H2 t (.tup [.str ss[i],v])):=(s2.tu ak).trans an;refine⟨_,Nat.sub_lt_sub_left hi (Q13 i),rfl,hi,fs.snoc ss[i] k,aA,sb.trans (s2.trans (SB.new ht)),by rw[gj (Ne.symm aC)];exact h2,by omega,?_,?_,FA.snoc gu (KA.mono an k hk) fs (FA.mono tu fs hf),?_,?_,?_,Fs.vm aB hW⟩
   . have e:((i+1:Nat):Int) * ck d=(i:Int) * ck d+ck d:=by
      rw[Q3b,Q2l];simp
     rw[e];omega
   . have h3:=s2 p _ au al;rw[gj (gB h3 ht)];exact h3
   . rw[Fs.vk,ai,Q0t,Q05 hi];rfl
   . rw[Fs.pq];omega
   . rw[Q09,hy];rfl
 . have ei:i=m:=by omega
   subst ei;refine .inl ⟨⟨_,gi.of al,by rw[Q04];omega⟩,λp' aj=>?_⟩;refine⟨p',ys,rfl,.inl ⟨gi.of gu,λt ht=>?_⟩⟩;have aq:p'≠b:=λz=>by rw[z,ak] at aj;cases aj
   have ao:upd H' p' (.lst ys) b=some (.lst [.int n']):=by rw[gj (Ne.symm aq)];exact ak
   have tu:Tu H' (upd (upd H' p' (.lst ys)) t (.tup ys)):=λc xs h=>by
    rw[gj (gB (show upd H' p' (.lst ys) c=some (.tup xs) by rw[gj (gB h aj)];exact h) ht),gj (gB h aj)];exact h
   have am:ss.take i=ss:=by rw[<-hl,Q2m]
   refine q t ys fs n' _ (sb.trans ((SB.new aj).trans (SB.new ht))) (by rw[gj (gB ao ht)];exact ao) z1 (by omega) gu (FA.mono tu fs hf) ?_ ?_ ax hW ?_ ?_
   . rw[ai,am];exact av
   . rw[ai,am];exact hl
   . rw[ai,am];exact aw
   . rw[ai,am];exact ap
noncomputable def σR (a b:Addr) (m d:Nat) (p:Addr) (r:Int) (J:Addr) (x y z:Option V):St:=
 [some (.ref a),some (.ref b),some (.int m),some (.int d),some (.ref p),some (.int r),some (.int (r % m)),some (.int (r / m % (m+1))),some (.ref J),x,y,z]
theorem vM {ss:List Str}{z:Int}(J:0<=z)(h1:z<ss.length):∃x:Str,iY (ss.map V.str) z=some (.str x)/\ss[z.toNat]? =some x:=by
 obtain⟨j,rfl⟩:∃j:Nat,z=(j:Int):=⟨z.toNat,by omega⟩;exact⟨ss[j]'(by omega),iZ (by rw[Q0j,Q05 (by omega)];rfl),by rw[Q1x];exact Q05 (by omega)⟩
theorem Fs.DN:∀{fs:Fs}{x:Str}{k:Kd}{j:Nat}{y:Str}{q:Kd},fs.at j=some (y,q)->(fs.snoc x k).at j=some (y,q)
 | .nil,_,_,_,_,_,h=>by cases h
 | .cons _ _ _,_,_,0,_,_,h=>h
 | .cons _ _ r,x,k,j+1,y,q,h=>Fs.DN (fs:=r) (j:=j) h
theorem Fs.DO:∀{fs:Fs}{x:Str}{k:Kd},(fs.snoc x k).at fs.names.length=some (x,k)
 | .nil,_,_=>rfl
 | .cons _ _ r,x,k=>Fs.DO (fs:=r)
theorem Ky:gP ["_law_script","_law_at","_law_many","_law_deep","_law_names_here","_law_m","_law_lead","_law_by","_law_fields_here","_law_k","_law_kind_here","_law_name"] XI (gC (top 41)):=gT
theorem Kz (d:Nat)(T:Tb mg)(U:Dn K mg "_law_rows_kind" kU (top 41) Y aa)(ae:Dn K mg "_law_names" oz (top 38) af ag)(ah:d_ P w K mg base f_ (2) af ag oz (DF K))(an:Dn K mg "_law_next" g8 (top 35) ao ap)(aq:d_ P w K mg base f_ (1) ao ap g8 (nL K))(ai:Dn K mg "_law_plain" g8 (top 39) aj ak)(al:d_ P w K mg base f_ (2) aj ak g8 (sQ K))(ar:Dn K mg "_law_kind" lK (top 42) au av)(aw:d_ P w K mg base f_ (2 * d+4) au av lK (pN K d)):
 d_ P w K mg base f_ (2 * d+5) Y aa kU (DH K d):=by
 refine U.F.ok Ky λvs H Q E h=>?_;obtain⟨a,b,ns,n,m,rfl,bm,hm,g,hn,q⟩:=h;refine⟨rfl,λbn A outer s nd hr hu=>?_⟩
 refine⟨_,(gh (gD 4 nd (gz ah hr ae (a_ (pv 0) (a_ (pv 1) (a_ (pv 2) b_)))))
  (gh (gD 5 nd (gz aq hr an (a_ (pv 0) (a_ (pv 1) b_))))
  (gh (gD 6 nd (gy ia (pv 5) (pv 2)))
  (gh (gD 7 nd (gy ia (gy ju (pv 5) (pv 2)) (gy j7 (pv 2) c_)))
  (gh (gD 8 nd (iJ b_))
  (gh (jo PassesOwn.never rfl (qj rfl T.pI (a_ (pv 2) b_)) (g5 (i:=9) nd rfl iA) (gh (gD 10 nd (gz aw hr ar (a_ (pv 0) (a_ (pv 1) (a_ (pv 3) b_)))))
  (gh (gF (PW.pt (jS (gI gX (pv 9) (pv 6) (gE _)) (jR (gI gX (pv 9) (pv 7) (gE _))))) (gm (gD 10 nd (gz al hr ai (a_ (pv 0) (a_ (pv 1) b_))))) gH)
  (gm (j5 (mN PySem.F.plainAttrs_list PySem.F.slot_list_append PySem.F.type_list_append nu (pv 8) (a_ (iw (a_ (iT (pv 4) (pv 9)) (a_ (pv 10) b_))) b_)))))))
  (gh (gD 11 nd gK)
  (gh (gF (PW.pt (qf (gI oW (pv 7) (pv 2) (gE _)) (qe (gI mH (pv 7) (pv 6) (gE _))))) (gm (gD 11 nd (iT (pv 4) (pv 7)))) gH)
  (gm (gv (iw (a_ gK (a_ (iT (pv 4) (pv 6)) (a_ (pv 11) (a_ (nt rP (by rfl) T.pK boot_tuple (a_ (pv 8) b_)) b_))))))))))))))),?_⟩
 ac_rfl
 refine⟨_,rfl,_,rfl,_,rfl,a,b,ns,n,m,rfl,by omega,g,by omega,λp ss H1 s1 h1 aA hp hl a6=>?_⟩;refine⟨_,rfl,_,rfl,a,b,ns,n+1,rfl,g.go s1 h1 (by omega),by omega,λr H2 r0 r1 s2 h2=>?_⟩;have aM:H2 p=some (.lst (ss.map V.str)):=s2 p _ aA hp;have aS:SB b H H2:=s1.trans s2;refine⟨_,rfl,_,rfl,_,_,rfl,rfl,by omega,?_⟩;refine⟨_,rfl,_,rfl,_,_,rfl,rfl,⟨by omega,by omega⟩,_,rfl,_,_,rfl,rfl,_,_,rfl,rfl,by omega,?_⟩;refine⟨pL,λJ aB=>?_⟩;have ab:J≠b:=λz=>by rw[z,h2] at aB;cases aB
 have aT:p≠J:=λz=>by rw[z,aB] at aM;cases aM
 have a2:∀o,H J=some o->False:=λo ho=>by
  have:=aS J o ab ho;rw[aB] at this;cases this
 have em:Int.toNat (m:Int)=m:=by omega
 refine⟨_,rfl,_,rfl,by omega,by omega,oV (n:=Int.toNat (m:Int)) (λi σ H'=>∃(x y z:Option V) (n':Int) (ys:List V) (fs:Fs),σ=σR a b m d p r J x y z/\SB b H H'/\H' b=some (.lst [.int n'])/\n<=n'/\n'<=n+2+i * (ck d+1)/\
  H' p=some (.lst (ss.map V.str))/\H' J=some (.lst ys)/\FA H' ys fs/\fs.dep<=d+1/\ys.length=i/\fs.W/\fs.names=ss.take i/\∀j:Nat,j<i->((j:Int)=r % m\/(j:Int)=r / m % (m+1))->∃y q,fs.at j=some (y,q)/\px q) ?_ ?_ ?_⟩
 . refine⟨_,_,_,n+1+1,[],.nil,rfl,aS.trans (SB.new aB),by rw[gj (Ne.symm ab)];exact h2,by omega,by omega,by rw[gj aT];exact aM,gu,by unfold FA;rfl,by simp[Fs.dep],rfl,by unfold Fs.W;trivial,rfl,λj hj=>absurd hj (by omega)⟩
 . intro i σ H' hi zq;obtain⟨x,y,z,n',ys,fs,rfl,sb,ax,z1,z2,am,L,aI,a7,hy,hW,aJ,aK⟩:=zq;rw[em] at hi;have a8:(i:Int)<=2:=by omega
   have bo:(i:Int) * (ck d+1)<=2 * (ck d+1):=Q22 a8 (by omega)
   have e1:((i+1:Nat):Int) * (ck d+1)=(i:Int) * (ck d+1)+(ck d+1):=by
    rw[Q3b,Q2l];simp
   have aC:ys.length<sizeLine:=iB (by omega);have a9:∃q:Str,iY (ss.map V.str) ((0:Int)+(i:Int))=some (.str q)/\ss[((0:Int)+(i:Int)).toNat]? =some q:=vM (by omega) (by omega);obtain⟨nm,aD,ay⟩:=a9
   have ay:ss[i]? =some nm:=by
    rw[show((0:Int)+(i:Int)).toNat=i by omega] at ay;exact ay
   have ba:fs.names.length=i:=by rw[<-FA.len fs aI];exact hy
   have next:∀(x' y' z':Option V) (v:V) (k:Kd) (n2:Int) (H3:Hp) (t:Addr),SB b H' H3->H3 b=some (.lst [.int n2])->n'<=n2->n2<=n'+(ck d+1)->KA H3 v k->k.dep<=d+1->k.W->(((i:Int)=r % m\/(i:Int)=r / m % (m+1))->px k)->H3 t=none->
    ∃(x y z:Option V) (n':Int) (aN:List V) (fs:Fs),σR a b m d p r J x' y' z'=σR a b m d p r J x y z/\SB b H (upd (upd H3 t (.tup [.str nm,v])) J (.lst (ys++[.ref t])))/\(upd (upd H3 t (.tup [.str nm,v])) J (.lst (ys++[.ref t]))) b=some (.lst [.int n'])/\n<=n'/\
     n'<=n+2+((i+1:Nat):Int) * (ck d+1)/\(upd (upd H3 t (.tup [.str nm,v])) J (.lst (ys++[.ref t]))) p=some (.lst (ss.map V.str))/\(upd (upd H3 t (.tup [.str nm,v])) J (.lst (ys++[.ref t]))) J=some (.lst aN)/\
     FA (upd (upd H3 t (.tup [.str nm,v])) J (.lst (ys++[.ref t]))) aN fs/\fs.dep<=d+1/\aN.length=i+1/\fs.W/\fs.names=ss.take (i+1)/\∀j:Nat,j<i+1->((j:Int)=r % m\/(j:Int)=r / m % (m+1))->∃y q,fs.at j=some (y,q)/\px q:=by
    intro x' y' z' v k n2 H3 t s3 h3 w1 w2 hk aU aO bb ht;have aV:H3 J=some (.lst ys):=s3 J _ ab L;have aW:H3 p=some (.lst (ss.map V.str)):=s3 p _ aA am;have bc:t≠J:=λz=>by rw[z,aV] at ht;cases ht
    have bd:t≠b:=λz=>by rw[z,h3] at ht;cases ht
    have be:t≠p:=λz=>by rw[z,aW] at ht;cases ht
    have aX:Tu H3 (upd (upd H3 t (.tup [.str nm,v])) J (.lst (ys++[.ref t]))):=λc xs h=>by
     rw[gj (jK h aV (by intro z;cases z)),gj (gB h ht)];exact h
    have bf:upd (upd H3 t (.tup [.str nm,v])) J (.lst (ys++[.ref t])) t=some (.tup [.str nm,v]):=by rw[gj bc];exact gu
    refine⟨x',y',z',n2,ys++[.ref t],fs.snoc nm k,rfl,λc o hc hh=>?_,?_,by omega,by rw[e1];omega,?_,gu,FA.snoc bf (KA.mono aX k hk) fs (FA.mono ((s3.tu ax).trans aX) fs aI),by rw[Fs.pq];omega,by rw[Q09,hy];rfl,Fs.vm aO hW,by rw[Fs.vk,aJ,Q0t,ay];rfl,λj hj az=>?_⟩
    . have q1:=s3 c o hc (sb c o hc hh);by_cases e:c=J
      . subst e;exact(a2 o hh).elim
      . rw[gj e,gj (gB q1 ht)];exact q1
    . rw[gj (Ne.symm ab),gj (Ne.symm bd)];exact h3
    . rw[gj aT,gj (Ne.symm be)];exact aW
    . by_cases e:j<i
      . obtain⟨y,q,e1,e2⟩:=aK j e az;exact⟨y,q,Fs.DN e1,e2⟩
      . have:j=i:=by omega
        subst this;exact⟨nm,k,by have:=Fs.DO (fs:=fs) (x:=nm) (k:=k);rwa [ba] at this,bb az⟩
   refine⟨_,rfl,_,rfl,_,rfl,a,b,ns,n',rfl,g.go sb ax z1,by omega,λv k n2 H3 s3 h3 w1 w2 hk aU aO=>?_⟩;refine⟨_,rfl,_,rfl,rfl,_,rfl,?_⟩;refine iL (λc=>i5 ?_) (λcL=>⟨_,rfl,_,rfl,rfl,_,rfl,iL (λc=>?_) (λc=>?_)⟩)
   . refine⟨_,rfl,_,rfl,a,b,ns,n2,rfl,(g.go sb ax z1).go s3 h3 w1,by omega,λv' k' H4 s4 h4 aP a3 aE aG=>?_⟩;have ac:=s3.trans s4;refine⟨_,rfl,.inl ⟨rfl,_,gi.of (ac J _ ab L)⟩,_,rfl,_,rfl,p,_,_,_,rfl,rfl,gi.of (ac p _ aA am),aD,_,rfl,iq,λt ht=>?_⟩;refine⟨J,_,_,rfl,rfl,by rw[gj (gB (ac J _ ab L) ht)];exact ac J _ ab L,aC,?_⟩;exact next _ _ _ v' k' _ H4 t ac h4 (by omega) (by omega) aP (by omega) aG (λ_=>aE) ht
   . refine⟨_,rfl,_,rfl,a,b,ns,n2,rfl,(g.go sb ax z1).go s3 h3 w1,by omega,λv' k' H4 s4 h4 aP a3 aE aG=>?_⟩;have ac:=s3.trans s4;refine⟨_,rfl,.inl ⟨rfl,_,gi.of (ac J _ ab L)⟩,_,rfl,_,rfl,p,_,_,_,rfl,rfl,gi.of (ac p _ aA am),aD,_,rfl,iq,λt ht=>?_⟩;refine⟨J,_,_,rfl,rfl,by rw[gj (gB (ac J _ ab L) ht)];exact ac J _ ab L,aC,?_⟩;exact next _ _ _ v' k' _ H4 t ac h4 (by omega) (by omega) aP (by omega) aG (λ_=>aE) ht
   . refine⟨_,rfl,.inl ⟨rfl,_,gi.of (s3 J _ ab L)⟩,_,rfl,_,rfl,p,_,_,_,rfl,rfl,gi.of (s3 p _ aA am),aD,_,rfl,iq,λt ht=>?_⟩;refine⟨J,_,_,rfl,rfl,by rw[gj (gB (s3 J _ ab L) ht)];exact s3 J _ ab L,aC,?_⟩;refine next _ _ _ v k _ H3 t s3 h3 (by omega) (by omega) hk aU aO (λaz=>?_) ht
     exact(by
      rcases az with e|e
      . exact absurd (decide_eq_true (show V.int ((0:Int)+(i:Int))=V.int (r % m) by rw[<-e];congr 1;omega)) cL
      . exact absurd (decide_eq_true (show V.int ((0:Int)+(i:Int))=V.int (r / m % (m+1)) by rw[<-e];congr 1;omega)) c)
 . intro σ H' zq;obtain⟨x,y,z,n',ys,fs,rfl,sb,ax,z1,z2,am,L,aI,a7,hy,hW,aJ,aK⟩:=zq;rw[em] at z2 hy aK aJ;have e3:(m:Int) * (ck d+1)<=3 * (ck d+1):=Q22 (by omega) (by omega);have l0:0<=r % (m:Int):=Q0k _ (by omega);have l1:r % (m:Int)<m:=Q0l _ (by omega);have b0:0<=r / (m:Int) % ((m:Int)+1):=Q0k _ (by omega);obtain⟨xk,aQ,bg⟩:=vM (ss:=ss) l0 (by omega);have aH:fs.names=ss:=by rw[aJ,<-hl,Q2m]
   have aY:fs.names.Nodup:=by rw[aH];exact a6
   have pl:∀(z:Int) (x:Str),0<=z->z<m->(z=r % m\/z=r / m % (m+1))->ss[z.toNat]? =some x->fs.pl x:=λz x h0 h1 az hx=>by
    obtain⟨y,q,e1,e2⟩:=aK z.toNat (by omega) (by rw[Int.toNat_of_nonneg h0];exact az);have aZ:=Fs.ky fs z.toNat;rw[e1,aH,hx] at aZ;have e3:some x=some y:=aZ
    cases e3;exact⟨q,Fs.nz aY e1,e2⟩
   have bh:fs.pl xk:=pl _ _ l0 l1 (.inl rfl) bg;have aL:fs.names.length<=12:=by rw[aH,hl];omega
   have fin:∀(nm:Str),(nm=""\/fs.pl nm)->∀(t:Addr),H' t=none->∀v:Addr,upd H' t (.tup ys) v=none->Q (.ref v) (upd (upd H' t (.tup ys)) v (.tup [.str "rows",.str xk,.str nm,.ref t])):=by
    intro nm bi t ht v hv;have bj:v≠t:=λz=>by rw[z,gu] at hv;cases hv
    have tu:Tu H' (upd (upd H' t (.tup ys)) v (.tup [.str "rows",.str xk,.str nm,.ref t])):=λc xs h=>by
     have e:upd H' t (.tup ys) c=some (.tup xs):=by rw[gj (gB h ht)];exact h
     rw[gj (gB e hv)];exact e
    have a1:upd H' t (.tup ys) b=some (.lst [.int n']):=by rw[gj (gB ax ht)];exact ax
    refine q (.ref v) (.rows xk nm fs) n' _ (sb.trans ((SB.new ht).trans (SB.new hv))) (by rw[gj (gB a1 hv)];exact a1) z1 (by omega) ?_ (by simp only[Kd.dep];omega) (by unfold Kd.W;exact⟨aY,aL,hW,bh,bi⟩) ⟨_,_,_,rfl⟩;unfold KA;exact⟨v,t,ys,rfl,gu,by rw[gj (Ne.symm bj)];exact gu,FA.mono tu fs aI⟩
   refine⟨_,rfl,_,rfl,_,_,rfl,rfl,_,rfl,?_⟩;refine iL (λc=>⟨_,rfl,_,rfl,rfl,_,rfl,iL (λc2=>?_) (λc2=>?_)⟩) (λc=>gY ?_)
   . have c':r / (m:Int) % ((m:Int)+1)<m:=of_decide_eq_true c;obtain⟨nm,a4,a5⟩:=vM (ss:=ss) b0 (by omega);refine⟨_,rfl,_,rfl,p,_,_,_,rfl,rfl,gi.of am,a4,?_⟩;exact⟨_,rfl,_,rfl,p,_,_,_,rfl,rfl,gi.of am,aQ,_,rfl,_,rfl,J,ys,rfl,.inl ⟨gi.of L,λt ht=>⟨vH,λv hv=>fin nm (.inr (pl _ _ b0 c' (.inr rfl) a5)) t ht v hv⟩⟩⟩
   . exact⟨_,rfl,_,rfl,p,_,_,_,rfl,rfl,gi.of am,aQ,_,rfl,_,rfl,J,ys,rfl,.inl ⟨gi.of L,λt ht=>⟨vH,λv hv=>fin _ (.inl rfl) t ht v hv⟩⟩⟩
   . exact⟨_,rfl,_,rfl,p,_,_,_,rfl,rfl,gi.of am,aQ,_,rfl,_,rfl,J,ys,rfl,.inl ⟨gi.of L,λt ht=>⟨vH,λv hv=>fin _ (.inl rfl) t ht v hv⟩⟩⟩
theorem DP:gP ["_law_script","_law_at","_law_deep","_law_m"] Xc (gC (top 42)):=gT
theorem KC (T:Tb mg)(aa:Dn K mg "_law_kind" lK (top 42) ab ac)(ae:Dn K mg "_law_next" g8 (top 35) af ag)(ah:d_ P w K mg base f_ (1) af ag g8 (nL K))(J:Dn K mg "_law_plain" g8 (top 39) L U)(Y:d_ P w K mg base f_ (2) L U g8 (sQ K)):d_ P w K mg base f_ (2 * 0+4) ab ac lK (pN K 0):=by
 refine aa.F.ok DP λvs H Q E h=>?_;obtain⟨a,b,ns,n,rfl,g,hn,q⟩:=h;refine⟨rfl,λaj A outer s nd hr hu=>?_⟩;have ai:ck 0=2:=rfl;rw[ai] at hn q
 refine⟨_,(gh (gD 3 nd (gz ah hr ae (a_ (pv 0) (a_ (pv 1) b_))))
  (gh (gF (PW.pt (jS (gI BF (pv 2) c_ (gE _)) (jR IY))) (gm (gv (gz Y hr J (a_ (pv 0) (a_ (pv 1) b_))))) gH) uF)),?_⟩
 ac_rfl
 refine⟨_,rfl,_,rfl,a,b,ns,n,rfl,g,by omega,λr H1 r0 r1 s1 h1=>?_⟩;refine⟨_,rfl,_,_,rfl,rfl,_,rfl,?_⟩;refine iL (λc=>i5 ?_) (λc=>(c (by decide)).elim);refine⟨_,rfl,_,rfl,a,b,ns,n+1,rfl,g.go s1 h1 (by omega),by omega,λv k H2 s2 h2 hk hd hp hw=>?_⟩;exact q v k (n+1+1) H2 (s1.trans s2) h2 (by omega) (by omega) hk (by omega) hw
theorem KD (d:Nat)(T:Tb mg)(U:Dn K mg "_law_kind" lK (top 42) Y aa)(am:Dn K mg "_law_next" g8 (top 35) an ao)(ap:d_ P w K mg base f_ (1) an ao g8 (nL K))(ai:Dn K mg "_law_plain" g8 (top 39) aj ak)(al:d_ P w K mg base f_ (2) aj ak g8 (sQ K))(J:Dn K mg "_law_fields" kU (top 40) ag ah)(L:d_ P w K mg base f_ (2 * d+5) ag ah kU (DG K d))(ab:Dn K mg "_law_rows_kind" kU (top 41) ac ae)(af:d_ P w K mg base f_ (2 * d+5) ac ae kU (DH K d))
 (aq:d_ P w K mg base f_ (2 * d+4) Y aa lK (pN K d)):d_ P w K mg base f_ (2 * (d+1)+4) Y aa lK (pN K (d+1)):=by
 refine U.F.ok DP λvs H Q E h=>?_;obtain⟨a,b,ns,n,rfl,g,hn,q⟩:=h;refine⟨rfl,λax A outer s nd hr hu=>?_⟩
 have ar:(ck (d+1):Int)=3 * ck d+6:=by
  have:ck (d+1)=3 * ck d+6:=rfl;omega
 rw[ar] at hn
 refine⟨_,(gh (gD 3 nd (gz ap hr am (a_ (pv 0) (a_ (pv 1) b_))))
  (gh (gF (PW.pt (jS (gI BF (pv 2) c_ (gE _)) (jR (gI oW (gy ia (pv 3) c_) c_ (gE _))))) (gm (gv (gz al hr ai (a_ (pv 0) (a_ (pv 1) b_))))) gH)
  (gh (gF (gI oW (gy ia (pv 3) c_) c_ (gE _)) (gm (gv (iw (a_ gK (a_ (gz L hr J (a_ (pv 0) (a_ (pv 1) (a_ (gy ia (gy ju (pv 3) c_) c_) (a_ (gy l5 (pv 2) c_) b_))))) b_))))) gH)
  (gh (gF (gI oW (gy ia (pv 3) c_) c_ (gE _)) (gm (gv (gz af hr ab (a_ (pv 0) (a_ (pv 1) (a_ (gy j7 c_ (gy ia (gy ju (pv 3) c_) c_)) (a_ (gy l5 (pv 2) c_) b_))))))) gH)
  (gh (gF (gI gX (gy ia (pv 3) c_) c_ (gE _)) (gm (gv (iw (a_ gK (a_ (gz aq hr U (a_ (pv 0) (a_ (pv 1) (a_ (gy l5 (pv 2) c_) b_)))) b_))))) gH)
  (gm (gv (iw (a_ gK (a_ (gz L hr J (a_ (pv 0) (a_ (pv 1) (a_ (gy j7 c_ (gy ia (gy ju (pv 3) c_) c_)) (a_ (gy l5 (pv 2) c_) b_))))) b_)))))))))),?_⟩
 ac_rfl
 refine⟨_,rfl,_,rfl,a,b,ns,n,rfl,g,by omega,λr H1 r0 r1 s1 h1=>?_⟩;have g1:=g.go s1 h1 (by omega);have e2:(((d+1:Nat):Int)) - 1=(d:Int):=by omega
 have e0:(if decide ((((d+1:Nat):Int))<=0)=true then True else False)=False:=by
  rw[if_neg (by rw[decide_eq_true_iff];omega)]
 refine⟨_,rfl,_,_,rfl,rfl,_,rfl,iL (λc=>?_) (λc=>?_)⟩
 . exact absurd (of_decide_eq_true c) (by omega)
 refine⟨_,rfl,_,_,rfl,rfl,(by show(0:Int)<_;decide),_,_,rfl,rfl,_,rfl,iL (λc1=>?_) (λc1=>?_)⟩
 . refine⟨_,rfl,_,rfl,a,b,ns,n+1,rfl,g1,by omega,λv k H2 s2 h2 hk hd hp hw=>?_⟩;exact q v k (n+1+1) H2 (s1.trans s2) h2 (by omega) (by rw[ar];omega) hk (by omega) hw
 refine⟨_,rfl,_,_,rfl,rfl,(by show(0:Int)<_;decide),_,_,rfl,rfl,_,rfl,iL (λc2=>?_) (λc2=>?_)⟩
 . obtain⟨m,hm⟩:∃m:Nat,r / 10 % 4=(m:Int):=⟨(r / 10 % 4).toNat,by omega⟩;refine⟨_,rfl,_,rfl,_,rfl,_,_,rfl,rfl,⟨by decide,by decide⟩,_,_,rfl,rfl,(by show(0:Int)<_;decide),_,rfl,_,_,rfl,rfl,a,b,ns,n+1,m,(by show [V.ref a,V.ref b,V.int (r / 10 % 4),V.int (((d+1:Nat):Int) - 1)]=_;rw[hm,e2]),by omega,g1,by omega,λt xs fs n' H2 s2 h2 w1 w2 ht au av hl aw hW=>?_⟩;refine⟨iq,λv hv=>?_⟩;have tu:Tu H2 (upd H2 v (.tup [.str "record",.ref t])):=λc ys h=>by rw[gj (gB h hv)];exact h
   refine q (.ref v) (.gA fs) n' _ (s1.trans (s2.trans (SB.new hv))) (by rw[gj (gB h2 hv)];exact h2) (by omega) (by rw[ar];omega) ?_ (by simp only[Kd.dep];omega) (by unfold Kd.W;exact⟨av,by omega,hW⟩);unfold KA;exact⟨v,t,xs,rfl,gu,tu _ _ ht,FA.mono tu fs au⟩
 refine⟨_,rfl,_,_,rfl,rfl,(by show(0:Int)<_;decide),_,_,rfl,rfl,_,rfl,iL (λc3=>?_) (λc3=>?_)⟩
 . obtain⟨m,hm⟩:∃m:Nat,1+r / 10 % 3=(m:Int):=⟨(1+r / 10 % 3).toNat,by omega⟩;refine⟨_,rfl,_,rfl,_,rfl,_,_,rfl,rfl,⟨by decide,by decide⟩,_,_,rfl,rfl,(by show(0:Int)<_;decide),_,_,rfl,rfl,_,rfl,_,_,rfl,rfl,a,b,ns,n+1,m,(by show [V.ref a,V.ref b,V.int (1+r / 10 % 3),V.int (((d+1:Nat):Int) - 1)]=_;rw[hm,e2]),by omega,by omega,g1,by omega,λv k n' H2 s2 h2 w1 w2 hk aw hw _=>?_⟩;exact q v k n' H2 (s1.trans s2) h2 (by omega) (by rw[ar];omega) hk (by omega) hw
 refine⟨_,rfl,_,_,rfl,rfl,(by show(0:Int)<_;decide),rfl,_,rfl,iL (λc4=>?_) (λc4=>?_)⟩
 . refine⟨_,rfl,_,rfl,_,rfl,_,_,rfl,rfl,a,b,ns,n+1,(by show [V.ref a,V.ref b,V.int (((d+1:Nat):Int) - 1)]=_;rw[e2]),g1,by omega,λu k n' H2 s2 h2 w1 w2 hk aw hw=>?_⟩;refine⟨iq,λv hv=>?_⟩;have tu:Tu H2 (upd H2 v (.tup [.str "tree",u])):=λc ys h=>by rw[gj (gB h hv)];exact h
   refine q (.ref v) (.tree k) n' _ (s1.trans (s2.trans (SB.new hv))) (by rw[gj (gB h2 hv)];exact h2) (by omega) (by rw[ar];omega) ?_ (by simp only[Kd.dep];omega) (by unfold Kd.W;exact hw);unfold KA;exact⟨v,u,rfl,gu,KA.mono tu k hk⟩
 . obtain⟨m,hm⟩:∃m:Nat,1+r / 10 % 3=(m:Int):=⟨(1+r / 10 % 3).toNat,by omega⟩;refine⟨_,rfl,_,rfl,_,rfl,_,_,rfl,rfl,⟨by decide,by decide⟩,_,_,rfl,rfl,(by show(0:Int)<_;decide),_,_,rfl,rfl,_,rfl,_,_,rfl,rfl,a,b,ns,n+1,m,(by show [V.ref a,V.ref b,V.int (1+r / 10 % 3),V.int (((d+1:Nat):Int) - 1)]=_;rw[hm,e2]),by omega,g1,by omega,λt xs fs n' H2 s2 h2 w1 w2 ht au av hl aw hW=>?_⟩;refine⟨iq,λv hv=>?_⟩;have tu:Tu H2 (upd H2 v (.tup [.str "either",.ref t])):=λc ys h=>by rw[gj (gB h hv)];exact h
   refine q (.ref v) (.iP fs) n' _ (s1.trans (s2.trans (SB.new hv))) (by rw[gj (gB h2 hv)];exact h2) (by omega) (by rw[ar];omega) ?_ (by simp only[Kd.dep];omega) (by unfold Kd.W;exact⟨av,by omega,by omega,hW⟩);unfold KA;exact⟨v,t,xs,rfl,gu,tu _ _ ht,FA.mono tu fs au⟩
theorem kind_all (T:Tb mg)(U:Dn K mg "_law_kind" lK (top 42) ac ae)(J:Dn K mg "_law_next" g8 (top 35) an ao)(L:Dn K mg "_law_plain" g8 (top 39) aj ak)(aa:Dn K mg "_law_names" oz (top 38) al am)(ab:Dn K mg "_law_fields" kU (top 40) ah ai)(Y:Dn K mg "_law_rows_kind" kU (top 41) af ag):∀d:Nat,d_ P w K mg base f_ (2 * d+4) ac ae lK (pN K d)
 |0=>KC T U J (sP (qK T J)) L (vJ T L J (sP (qK T J)))
 |d+1=>by
  have N:=sP (qK (P:=P) (w:=w) (base:=base) T J);have Pl:=vJ T L J N;have Nm:=DM T aa J N;have ih:=kind_all T U J L aa ab Y d;have Fd:=vL d T ab aa Nm U ih;have Rw:=Kz d T Y aa (namesW Nm) J N L Pl U ih;exact KD d T U J N L Pl ab (Kk Fd) Y Rw ih
theorem DQ (ns:List Int)(x:Str)(k:Kd)(J:Nat):∀(fs:Fs) (n:Int),gQ ns (fs.snoc x k) J n=((gQ ns fs J n).1.snoc x (val ns k J (gQ ns fs J n).2).1,(val ns k J (gQ ns fs J n).2).2)
 | .nil,n=>by
   show gQ ns (.cons x k .nil) J n=_;simp only[gQ,Ds.snoc]
 | .cons y q r,n=>by
   show gQ ns (.cons y q (r.snoc x k)) J n=_;simp only[gQ,Ds.snoc];rw[DQ ns x k J r]
theorem DR (g:Int->D × Int):∀(m:Nat) (n:Int),times g (m+1) n=((times g m n).1.snoc "" (g (times g m n).2).1,(g (times g m n).2).2)
 |0,n=>by simp only[times,Ds.snoc]
 |m+1,n=>by
  have J:=DR g m (g n).2;show(Ds.cons "" (g n).1 (times g (m+1) (g n).2).1,(times g (m+1) (g n).2).2)=_;rw[J];simp only[times,Ds.snoc]
theorem vN {g h:Int->D × Int}(e:∀n,g n=h n):∀(m:Nat) (n:Int),times g m n=times h m n
 |0,n=>rfl
 |m+1,n=>by
  simp only[times];rw[e n,vN e m]
theorem nM {ns:List Int}{f:Nat->Int->D × Int}:∀(fu J:Nat) (n:Int),J<2 ^ fu->iR ns f (fu+1) J n=iR ns f (fu+2) J n
 |0,J,n,h=>by
  have e:J=0:=by simpa using h
  subst e
  have L:(nx ns ((f (0 / 2) n).2+1) % (((0:Nat):Int)+1)).toNat=0:=by
   have:nx ns ((f (0 / 2) n).2+1) % (((0:Nat):Int)+1)=0:=by
    show _ % (1:Int)=0;exact Int.emod_one _
   rw[this];rfl
  unfold iR;rw[L];rfl
 |fu+1,J,n,h=>by
  have U:=λm=>nM (ns:=ns) (f:=f) fu (J / 2) m (by rw[Nat.pow_succ] at h;omega);show(pairD (f (J / 2) n).1 (.lst (times (iR ns f (fu+1) (J / 2)) _ _).1),(times (iR ns f (fu+1) (J / 2)) _ _).2)=(pairD (f (J / 2) n).1 (.lst (times (iR ns f (fu+2) (J / 2)) _ _).1),(times (iR ns f (fu+2) (J / 2)) _ _).2);rw[vN U]
theorem KG (ns:List Int)(k:Kd)(J:Nat)(n:Int)(h:J<8):val ns (.tree k) J n=
 (pairD (val ns k (J / 2) n).1 (.lst (times (val ns (.tree k) (J / 2)) (nx ns ((val ns k (J / 2) n).2+1) % ((J:Int)+1)).toNat ((val ns k (J / 2) n).2+1)).1),
   (times (val ns (.tree k) (J / 2)) (nx ns ((val ns k (J / 2) n).2+1) % ((J:Int)+1)).toNat ((val ns k (J / 2) n).2+1)).2):=by
 have e:∀m,val ns (.tree k) (J / 2) m=iR ns (val ns k) 3 (J / 2) m:=λm=>by
  show iR ns (val ns k) 4 (J / 2) m=_;exact(nM 2 (J / 2) m (by show _<4;omega)).symm
 rw[vN e];simp only[val,iR]
theorem vO {g:Int->Ds × Int}{key:Str}:∀(m:Nat) (J:List Ds) (n:Int),h_ g key (m+1) J n=
 (if nF key (h_ g key m J n).1 (keyOf (g (h_ g key m J n).2).1 key)=true then((h_ g key m J n).1,(g (h_ g key m J n).2).2) else((h_ g key m J n).1++[(g (h_ g key m J n).2).1],(g (h_ g key m J n).2).2))
 |0,J,n=>by
  simp only[h_]
  first
   |rfl
   |(by_cases c:nF key J (keyOf (g n).1 key)=true <;> simp[c])
 |m+1,J,n=>by
  rw[h_];split
  . rename_i c;rw[vO m J]
    conv=>rhs;rw[h_]
    simp only[c,if_true]
  . rename_i c;rw[vO m (J++[(g n).1])]
    conv=>rhs;rw[h_]
    simp only[c,if_false];rfl
noncomputable def mu:Kd->Nat->Nat
 | .rows key L fs,J=>(2 * (fs.dep+1)+1) * 8+J
 |k,J=>(2 * k.dep) * 8+J
theorem DT (k:Kd)(J:Nat):mu k J<=(2 * k.dep+1) * 8+J:=by
 cases k <;> simp only[mu,Kd.dep] <;> omega
theorem vP {k U:Kd}{J L:Nat}(h:k.dep<U.dep)(Y:J<8):mu k J<mu U L:=by
 have:=DT k J
 cases U <;> simp only[mu,Kd.dep] at * <;> omega
noncomputable def gr (J:Nat):Nat:=if J=0 then 1 else if J=1 then 9 else if J<4 then 73 else 585
noncomputable def kc:Kd->Nat->Nat
 | .tree k,J=>(k.cB+1) * gr J
 |k,_=>k.cB
theorem vQ (J:Nat):1<=gr J/\gr J<=585:=by
 unfold gr;by_cases L:J=0
 . rw[if_pos L];omega
 . rw[if_neg L];by_cases h1:J=1
   . rw[if_pos h1];omega
   . rw[if_neg h1];by_cases h2:J<4
     . rw[if_pos h2];omega
     . rw[if_neg h2];omega
theorem KH (J:Nat):gr J<=585:=(vQ J).2
theorem pP (k:Kd)(J:Nat):kc k J<=k.cB:=by
 cases k with
 |tree k=>exact Q3c _ (KH J)
 |_=>exact Q00 _
theorem KI {J:Nat}(h1:1<=J)(L:J<8):1+J * gr (J / 2)<=gr J:=by
 have h:J=1\/J=2\/J=3\/J=4\/J=5\/J=6\/J=7:=by omega
 rcases h with h|h|h|h|h|h|h <;> subst h <;> decide
theorem KJ (ns:List Int)(k:Kd)(J:Nat)(n:Int)(h:J<8):n<=(val ns (.tree k) J n).2/\(val ns (.tree k) J n).2<=n+((k.cB+1) * gr J:Nat):=by
 have L:=λ(J:Nat) (n:Int) (h:J<8)=>lI ns k J n h;have e:val ns (.tree k) J n=iR ns (val ns k) 4 J n:=by simp only[val]
 rw[e];unfold gr;by_cases U:J=0
 . rw[if_pos U,<-nM 2 J n (by omega),<-nM 1 J n (by omega),<-nM 0 J n (by omega)];exact pE (N:=k.cB) L 1 J n h
 . rw[if_neg U];by_cases h1:J=1
   . rw[if_pos h1,<-nM 2 J n (by omega),<-nM 1 J n (by omega)];exact pE (N:=k.cB) L 2 J n h
   . rw[if_neg h1];by_cases h2:J<4
     . rw[if_pos h2,<-nM 2 J n (by omega)];exact pE (N:=k.cB) L 3 J n h
     . rw[if_neg h2];exact pE (N:=k.cB) L 4 J n h
theorem DU (ns:List Int):∀(fs:Fs) (i J:Nat) (n:Int) (x:Str) (k:Kd),fs.at i=some (x,k)->jl ns fs i J n=(pairD (.str x) (val ns k J n).1,(val ns k J n).2)
 | .nil,i,_,_,_,_,h=>by cases h
 | .cons y q r,0,J,n,x,k,h=>by
   cases h;simp only[jl]
 | .cons y q r,i+1,J,n,x,k,h=>by
   simp only[jl];exact DU ns r i J n x k h
theorem Fs.DV:∀{fs:Fs}{i:Nat}{x:Str}{k:Kd},fs.at i=some (x,k)->k.cB<=fs.cB
 | .nil,_,_,_,h=>by cases h
 | .cons y q r,0,x,k,h=>by
   cases h;simp only[Fs.cB];omega
 | .cons y q r,i+1,x,k,h=>by
   have:=Fs.DV (fs:=r) (i:=i) h;simp only[Fs.cB];omega
theorem Fs.DW:∀{fs:Fs}{i:Nat}{x:Str}{k:Kd},fs.at i=some (x,k)->(fs.take i).cB+k.cB<=fs.cB
 | .nil,_,_,_,h=>by cases h
 | .cons y q r,0,x,k,h=>by
   cases h;simp only[Fs.take,Fs.cB];omega
 | .cons y q r,i+1,x,k,h=>by
   have:=Fs.DW (fs:=r) (i:=i) h;simp only[Fs.take,Fs.cB];omega
theorem Fs.vR:∀(fs:Fs) (i:Nat),(fs.take i).names=fs.names.take i
 | .nil,i=>by simp[Fs.take,Fs.names]
 | .cons x k r,0=>by simp[Fs.take,Fs.names]
 | .cons x k r,i+1=>by
   show x::(r.take i).names=x::r.names.take i;rw[Fs.vR r i]
theorem Fs.KL {fs:Fs}{i:Nat}{x:Str}{k:Kd}(J:fs.names.Nodup)(h:fs.at i=some (x,k)):x ∉ (fs.take i).names:=by
 rw[Fs.vR];intro L;obtain⟨j,U,e⟩:=Q0y L;have Y:fs.names[i]? =some x:=by rw[Fs.ky,h];rfl
 obtain⟨hi,ei⟩:=List.getElem?_eq_some_iff.mp Y;rw[Q0p] at U;rw[Q23] at e;have:=(Q1v J).mp (e.trans ei.symm);omega
theorem sS (ns:List Int)(J:Nat):∀(fs:Fs) (n:Int),(gQ ns fs J n).1.names=fs.names
 | .nil,n=>by simp[gQ,Ds.names,Fs.names]
 | .cons x k r,n=>by
   simp only[gQ,Ds.names,Fs.names];rw[sS ns J r]
theorem gx.key {H:Hp}{kvs:List (Key × V)}{m:Ds}{fp:List Addr}{fs:Fs}{x:Str}(h:gx H kvs m fp)(f:iy fs m)(hp:fs.pl x):h6 kvs (Sum.inr x)=some (kV (keyOf m x)):=by
 rcases(f.plain hp).2 with⟨z,J,L,_⟩|⟨s,J,L,_⟩
 . obtain⟨v,g,h1,h2,_⟩:=gx.val m h J;unfold Own at h2;rw[h1,L,h2.1];rfl
 . obtain⟨v,g,h1,h2,_⟩:=gx.val m h J;unfold Own at h2;rw[h1,L,h2.1];rfl
mutual
def D.Sm:D->Prop
 | .int _=>True
 | .str _=>True
 | .tup xs=>xs.len<=100/\xs.Sm
 | .lst xs=>xs.len<=100/\xs.Sm
 | .dct m=>m.len<=100/\m.Sm
def Ds.Sm:Ds->Prop
 | .nil=>True
 | .cons _ d r=>d.Sm/\r.Sm
end
theorem Ds.kD:∀{xs:Ds}{i:Nat}{d:D},xs.Sm->xs.at i=some d->d.Sm
 | .nil,_,_,_,h=>by cases h
 | .cons _ d r,0,_,w,h=>by unfold Ds.Sm at w;cases h;exact w.1
 | .cons _ d r,i+1,_,w,h=>by unfold Ds.Sm at w;exact Ds.kD (xs:=r) (i:=i) w.2 h
theorem Ds.pQ:∀{xs:Ds}{x:Str}{d:D},xs.Sm->xs.get x=some d->d.Sm
 | .nil,_,_,_,h=>by cases h
 | .cons y e r,x,d,w,h=>by
   unfold Ds.Sm at w;have h:(if x=y then some e else r.get x)=some d:=h;by_cases c:x=y
   . rw[if_pos c] at h;cases h;exact w.1
   . rw[if_neg c] at h;exact Ds.pQ w.2 h
theorem sT:∀(m:Ds),m.names.length=m.len
 | .nil=>rfl
 | .cons _ _ r=>by show r.names.length+1=r.len+1;rw[sT r]
theorem vS:∀l:List Ds,(jb l).len=l.length
 |[]=>rfl
 |m::r=>by show(jb r).len+1=r.length+1;rw[vS r]
theorem DX:∀{l:List Ds},(∀m∈l,(D.dct m).Sm)->(jb l).Sm
 |[],_=>by unfold jb Ds.Sm;trivial
 |m::r,h=>by
  unfold jb Ds.Sm;exact⟨h m Q02,DX λx J=>h x (Q06 _ J)⟩
theorem DY:∀{l:List Ds},(jb l).Sm->∀m∈l,(D.dct m).Sm
 |[],_,m,J=>absurd J (by simp)
 |x::r,h,m,J=>by
  unfold jb Ds.Sm at h;rcases List.mem_cons.mp J with e|e
  . rw[e];exact h.1
  . exact DY h.2 m e
theorem DZ:∀{l:List Ds},∀m∈l,m.dep+1<=(jb l).dep
 |[],m,J=>absurd J (by simp)
 |x::r,m,J=>by
  simp only[jb,Ds.dep,D.dep];rcases List.mem_cons.mp J with e|e
  . rw[e];omega
  . have:=DZ (l:=r) m e;omega
theorem D2 (g:Int->D × Int):∀(m:Nat) (n:Int),(times g m n).1.len=m
 |0,_=>rfl
 |m+1,n=>by show(times g m (g n).2).1.len+1=m+1;rw[D2 g m]
theorem D3 {g:Int->D × Int}(J:∀n,(g n).1.Sm):∀(m:Nat) (n:Int),(times g m n).1.Sm
 |0,_=>by unfold times Ds.Sm;trivial
 |m+1,n=>by
  unfold times Ds.Sm;exact⟨J n,D3 J m _⟩
theorem sU {a b:D}(h1:a.Sm)(h2:b.Sm):(pairD a b).Sm:=by
 unfold D.Sm;exact⟨by show 2<=100;decide,by unfold Ds.Sm;exact⟨h1,by unfold Ds.Sm;exact⟨h2,by unfold Ds.Sm;trivial⟩⟩⟩
theorem D4 {ns:List Int}{f:Nat->Int->D × Int}(L:∀J n,J<8->(f J n).1.Sm):∀(fu J:Nat) (n:Int),J<8->(iR ns f fu J n).1.Sm
 |0,_,_,_=>by unfold iR D.Sm;trivial
 |fu+1,J,n,h=>by
  unfold iR;refine sU (L _ _ (by omega)) ?_;unfold D.Sm;refine⟨?_,D3 (λn=>D4 L fu (J / 2) n (by omega)) _ _⟩;rw[D2];have:=mod_le (a:=nx ns ((f (J / 2) n).2+1)) h;omega
theorem vT {g:Int->Ds × Int}{key:Str}:∀(m:Nat) (J:List Ds) (n:Int),(h_ g key m J n).1.length<=J.length+m
 |0,J,n=>by simp[h_]
 |m+1,J,n=>by
  unfold h_;split
  . have:=vT (g:=g) (key:=key) m J (g n).2;omega
  . have:=vT (g:=g) (key:=key) m (J++[(g n).1]) (g n).2;rw[Q09] at this;have e:[(g n).1].length=1:=rfl;omega
mutual
theorem pR (ns:List Int):∀(k:Kd),k.W->∀(J:Nat) (n:Int),J<8->(val ns k J n).1.Sm
 | .num,_,_,_,_=>by unfold val D.Sm;trivial
 | .ix,_,_,_,_=>by unfold val D.Sm;trivial
 | .gA fs,w,J,n,h=>by
   unfold Kd.W at w;unfold val;exact vU ns fs w.2.2 J n h w.2.1
 | .rows key L fs,w,J,n,h=>by
   unfold Kd.W at w;unfold val D.Sm;refine⟨?_,DX λm U=>?_⟩
   . rw[vS,(mV key L _).length_eq];have:=vT (g:=gQ ns fs (J / 2)) (key:=key) (nx ns (n+1) % ((J:Int)+1)).toNat [] (n+1);have e:=mod_le (a:=nx ns (n+1)) h;have e2:([]:List Ds).length=0:=rfl;omega
   . exact pB (R:=λm=>(D.dct m).Sm) (λn=>vU ns fs w.2.2.1 (J / 2) n (by omega) w.2.1) _ _ _ (λr Y=>absurd Y (by simp)) m ((mV key L _).mem_iff.mp U)
 | .tree k,w,J,n,h=>by
   unfold Kd.W at w;unfold val;exact D4 (λJ n h=>pR ns k w J n h) 4 J n h
 | .iP fs,w,J,n,h=>by
   unfold Kd.W at w;unfold val;exact D5 ns fs w.2.2.2 _ J _ h
theorem vU (ns:List Int):∀(fs:Fs),fs.W->∀(J:Nat) (n:Int),J<8->fs.names.length<=12->(D.dct (gQ ns fs J n).1).Sm
 | .nil,_,_,_,_,_=>by
   unfold gQ D.Sm;exact⟨by show 0<=100;omega,by unfold Ds.Sm;trivial⟩
 | .cons x k r,w,J,n,h,hl=>by
   unfold Fs.W at w;have hl:r.names.length+1<=12:=hl;have a:=pR ns k w.1 J n h;have b:=vU ns r w.2 J (val ns k J n).2 h (by omega);unfold D.Sm at b;unfold gQ D.Sm;refine⟨?_,by unfold Ds.Sm;exact⟨a,b.2⟩⟩;show(gQ ns r J (val ns k J n).2).1.len+1<=100;rw[<-sT,sS];omega
theorem D5 (ns:List Int):∀(fs:Fs),fs.W->∀(i J:Nat) (n:Int),J<8->(jl ns fs i J n).1.Sm
 | .nil,_,_,_,_,_=>by unfold jl D.Sm;trivial
 | .cons x k r,w,0,J,n,h=>by
   unfold Fs.W at w;unfold jl;exact sU (by unfold D.Sm;trivial) (pR ns k w.1 J n h)
 | .cons x k r,w,i+1,J,n,h=>by
   unfold Fs.W at w;unfold jl;exact D5 ns r w.2 i J n h
end
theorem i6.at {P:D->Prop}:∀{xs:Ds}{i:Nat}{d:D},i6 P xs->xs.at i=some d->Tree P d
 | .nil,_,_,_,h=>by cases h
 | .cons _ d r,0,_,w,h=>by unfold i6 at w;cases h;exact w.1
 | .cons _ d r,i+1,_,w,h=>by unfold i6 at w;exact i6.at (xs:=r) (i:=i) w.2 h
theorem Own.pair {H:Hp}{v:V}{x y:Str}{a b:D}{fp:List Addr}(h:Own H v (.tup (.cons x a (.cons y b .nil))) fp):∃c J L U Y,v=.ref c/\H c=some (.tup [J,L])/\fp=U++Y/\Own H J a U/\Own H L b Y:=by
 unfold Own at h;obtain⟨c,vs,rfl,hc,h⟩:=h;unfold gn at h;obtain⟨J,q,U,Y,rfl,rfl,g1,h⟩:=h;unfold gn at h;obtain⟨L,q2,g,f3,rfl,rfl,g2,h⟩:=h;unfold gn at h;obtain⟨rfl,rfl⟩:=h;exact⟨c,J,L,U,g,rfl,hc,by simp,g1,g2⟩
def m4 (fs:Fs) (m:Ds):Prop:=∀x k,fs.get x=some k->∃e,m.get x=some e/\gU k e
def me (fs:Fs) (m:Ds):Prop:=m.names.length=fs.names.length/\m4 fs m
theorem iy.p {fs:Fs}{m:Ds}(f:iy fs m):m4 fs m:=λ_ _ h=>f.get h
theorem iy.u {fs:Fs}{m:Ds}(f:iy fs m):me fs m:=⟨by rw[f.names],f.p⟩
theorem m4.plain {fs:Fs}{m:Ds}{x:Str}(f:m4 fs m)(h:fs.pl x):(∃z,m.get x=some (.int z)/\keyOf m x=.inl z/\fs.get x=some .num)\/∃s,m.get x=some (.str s)/\keyOf m x=.inr s/\fs.get x=some .ix:=by
 obtain⟨k,h1,h2⟩:=h;obtain⟨d,J,L⟩:=f _ _ h1
 cases k with
 |num=>
  unfold gU at L;obtain⟨z,rfl⟩:=L;exact .inl ⟨z,J,by unfold keyOf;rw[J],h1⟩
 |ix=>
  unfold gU at L;obtain⟨s,rfl⟩:=L;exact .inr ⟨s,J,by unfold keyOf;rw[J],h1⟩
 |_=>exact h2.elim
theorem m4.tag {fs:Fs}{m:Ds}{x:Str}(f:m4 fs m)(h:fs.pl x):iE (keyOf m x)=lH (fs.get x):=by
 rcases f.plain h with⟨z,_,e,g⟩|⟨s,_,e,g⟩ <;> rw[e,g] <;> rfl
theorem D6 {fs:Fs}{key J:Str}{m:Ds}(f:m4 fs m)(h1:fs.pl key)(h2:J=""\/fs.pl J):(rankOf key J m).map iE=if J="" then [lH (fs.get key)] else [lH (fs.get J),lH (fs.get key)]:=by
 unfold rankOf;split
 . show [iE (keyOf m key)]=_;rw[f.tag h1]
 . rename_i e;show [iE (keyOf m J),iE (keyOf m key)]=_;rw[f.tag h1,f.tag (h2.resolve_left e)]
theorem gx.qL {H:Hp}{kvs:List (Key × V)}{m:Ds}{fp:List Addr}{fs:Fs}{x:Str}(h:gx H kvs m fp)(f:m4 fs m)(hp:fs.pl x):h6 kvs (Sum.inr x)=some (kV (keyOf m x)):=by
 rcases f.plain hp with⟨z,J,L,_⟩|⟨s,J,L,_⟩
 . obtain⟨v,g,h1,h2,_⟩:=gx.val m h J;unfold Own at h2;rw[h1,L,h2.1];rfl
 . obtain⟨v,g,h1,h2,_⟩:=gx.val m h J;unfold Own at h2;rw[h1,L,h2.1];rfl
def kj (k:Kd) (d:D):Prop:=match k with
 | .gA fs=>∃m,d=.dct m/\me fs m
 | .rows key L fs=>∃J:List Ds,d=.lst (jb J)/\(∀m∈J,me fs m)/\J.Pairwise (pz key L)/\(J.map λm=>keyOf m key).Nodup
 |k=>gU k d
theorem kj.of {k:Kd}{d:D}(h:gU k d):kj k d:=by
 cases k with
 |gA fs=>
  unfold gU at h;obtain⟨m,e,hF⟩:=h;exact⟨m,e,hF.u⟩
 |rows key U fs=>
  unfold gU at h;obtain⟨J,e,hF,h1,h2⟩:=h;exact⟨J,e,λm L=>(hF m L).u,h1,h2⟩
 |_=>exact h
theorem Tree.ind {P M:D->Prop}(h:∀x y t as,P t->(∀i d,Ds.at as i=some d->Tree P d/\M d)->M (.tup (.cons x t (.cons y (.lst as) .nil)))):∀(n:Nat) (d:D),d.dep<=n->Tree P d->M d
 |0,d,L,_=>absurd L (by have:=d.jr;omega)
 |n+1,d,L,hT=>by
  obtain⟨x,y,t,as,rfl,h1,h2⟩:=hT.shape;simp only[D.dep,Ds.dep] at L;exact h x y t as h1 λi d J=>⟨i6.at h2 J,Tree.ind h n d (by have:=Ds.jw J;omega) (i6.at h2 J)⟩
theorem i6.of {P:D->Prop}:∀{as:Ds},(∀i d,as.at i=some d->Tree P d)->i6 P as
 | .nil,_=>by unfold i6;trivial
 | .cons _ d r,h=>by
   unfold i6;exact⟨h 0 d rfl,i6.of λi d' J=>h (i+1) d' J⟩
theorem Tree.mk {P:D->Prop}{x y:Str}{t:D}{as:Ds}(h1:P t)(h2:∀i d,as.at i=some d->Tree P d):Tree P (.tup (.cons x t (.cons y (.lst as) .nil))):=by
 unfold Tree kz;exact⟨h1,i6.of h2⟩
theorem Tree.imp {P Q:D->Prop}(hp:∀t,P t->Q t){d:D}(h:Tree P d):Tree Q d:=
 Tree.ind (M:=Tree Q) (λ_ _ _ _ h1 h2=>Tree.mk (hp _ h1) λi d J=>(h2 i d J).2) _ d (Q00 _) h
def kZ (k:Kd) (d:D):Prop:=match k with
 | .tree k=>Tree (kj k) d
 |k=>kj k d
theorem kZ.of {k:Kd}{d:D}(h:gU k d):kZ k d:=by
 cases k with
 |tree k=>
  unfold gU at h;exact Tree.imp (λt ht=>kj.of ht) h
 |_=>exact kj.of h
theorem kZ.of0 {k:Kd}{d:D}(h:kj k d):kZ k d:=by
 cases k with
 |tree k=>exact kZ.of (k:=.tree k) h
 |_=>exact h
abbrev gM (b P:Addr):Hp->Hp->Prop:=Kp (λc=>c=b\/c=P)
theorem _root_.L2.gJ.tab {P:Addr}{J:Pos}{L:Str}{H:Hp}(h:gJ P J L H):∃ps,H P=some (.iQ ps):=by
 rcases h with e|⟨c,e,_⟩ <;> exact⟨_,e⟩
theorem _root_.L2.gJ.keep {P:Addr}{J:Pos}{L:Str}{H H':Hp}(h:gJ P J L H)(k:∀c o,(∀xs,o≠ .lst xs)->H c=some o->H' c=some o):gJ P J L H':=by
 rcases h with e|⟨c,e,f⟩
 . exact .inl (k _ _ (by intro xs z;cases z) e)
 . exact .inr ⟨c,k _ _ (by intro xs z;cases z) e,k _ _ (by intro xs z;cases z) f⟩
theorem _root_.L2.gJ.same {P:Addr}{J:Pos}{L:Str}{H H':Hp}(h:gJ P J L H)(s:Same H H'):gJ P J L H':=h.keep λc o _ e=>s c o e
theorem _root_.L2.gJ.sb {P b:Addr}{J:Pos}{L:Str}{H H':Hp}{l:List V}(h:gJ P J L H)(U:H b=some (.lst l))(s:SB b H H'):gJ P J L H':=
 h.keep λc o Y e=>s c o (jK e U (Y l)) e
theorem _root_.L2.gJ.wr {P p:Addr}{L:Pos}{U:Str}{H:Hp}{o:HO}(h:gJ P L U H)(hp:Mu H p):gJ P L U (upd H p o):=by
 have key:∀c u,(∀xs,u≠ .lst xs)->(∀J,u≠ .dK J)->H c=some u->upd H p o c=some u:=λc u h1 h2 e=>by
  rw[gj];· exact e
  intro z;subst z;rcases hp with⟨xs,q⟩|⟨J,q⟩
  . rw[e] at q;exact h1 xs (Option.some.inj q)
  . rw[e] at q;exact h2 J (Option.some.inj q)
 rcases h with e|⟨c,e,f⟩
 . exact .inl (key _ _ (by intro xs z;cases z) (by intro xs z;cases z) e)
 . exact .inr ⟨c,key _ _ (by intro xs z;cases z) (by intro xs z;cases z) e,key _ _ (by intro xs z;cases z) (by intro xs z;cases z) f⟩
theorem SB.g6 {b P:Addr}{H H':Hp}(s:SB b H H'):gM b P H H':=λc o n e=>s c o (λz=>n (.inl z)) e
theorem gM.at {b P c:Addr}{H H':Hp}{n:Int}{J:Pos}{L:Str}{o:HO}(x:gM b P H H')(U:H b=some (.lst [.int n]))(hT:gJ P J L H)(h1:o≠ .lst [.int n])(h2:∀ps,o≠ .iQ ps)(e:H c=some o):H' c=some o:=by
 obtain⟨ps,Y⟩:=hT.tab;refine x c o (λz=>?_) e;rcases z with z|z
 . exact jK e U h1 z
 . exact jK e Y (h2 ps) z
theorem gM.tu {b P:Addr}{H H':Hp}{n:Int}{J:Pos}{L:Str}(x:gM b P H H')(U:H b=some (.lst [.int n]))(hT:gJ P J L H):Tu H H':=λa xs e=>x.at U hT (by intro z;cases z) (by intro ps z;cases z) e
theorem gM.g0 {K:W.Frag}{a b P:Addr}{H H':Hp}{ns:List Int}{n n':Int}{J:Pos}{L:Str}(x:gM b P H H')(g:G0 K H a b ns n)(hT:gJ P J L H)(h:H' b=some (.lst [.int n']))(U:n<=n'):G0 K H' a b ns n':=by
 refine⟨?_,g.len,h,by have:=g.pos;omega⟩;rcases g.lN with⟨o,e⟩|e
 . exact .inl ⟨o,x.at g.at_ hT (by intro z;cases z) (by intro ps z;cases z) e⟩
 . exact .inr e
theorem Own.g6 {b P:Addr}{H₀ H H':Hp}{v:V}{d:D}{fp:List Addr}{n:Int}{L:Pos}{U:Str}(h:Own H v d fp)(x:gM b P H H')(Y:H b=some (.lst [.int n]))(hT:gJ P L U H)(J:∃o,H₀ b=some o)(fr:∀c∈fp,H₀ c=none):Own H' v d fp:=by
 refine h.keep (x.tu Y hT) d λc hc o e=>x c o (λz=>?_) e;rcases z with z|z
 . obtain⟨o',e'⟩:=J;have:=fr c hc;rw[z,e'] at this;cases this
 . obtain⟨ps,hP⟩:=hT.tab;rcases Own.alive d h c hc with⟨xs,q⟩|⟨xs,q⟩ <;> rw[z,hP] at q <;> cases q
def sV:Sp:=λvs H Q _=>∃p r b key J fs kvs m fp,vs=[.ref p,.ref r]/\H p=some (.tup [.str "rows",.str key,.str J,.ref b])/\H r=some (.dK kvs)/\gx H kvs m fp/\m4 fs m/\fs.pl key/\(J=""\/fs.pl J)/\
 ∀q,H q=none->Q (.ref q) (upd H q (.tup ((rankOf key J m).map kV)))
noncomputable def KN (st:Stmt):Pos:=match(jz st).getLast? with
 |some (.Return (some (.Call _ _ [⟨_,.Lambda _ _ _ J,_⟩] _)) _)=>J
 |_=>⟨0,0,0,0⟩
noncomputable abbrev jX:Pos:=KN (top 44)
noncomputable abbrev jY:Str:=("_law_rows":Str)++".<locals>."++"<lambda>"
def nN (K:W.Frag) (P:Addr) (N:Nat):Sp:=λvs H Q _=>∃a b ns n L k,∃J:Nat,vs=[.ref a,.ref b,L,.int J]/\G0 K H a b ns n/\gJ P jX jY H/\KA H L k/\k.W/\J<8/\mu k J<=N/\n+kc k J<=1000000000000/\
 ∀(v:V) (H':Hp) (fp:List Addr),gM b P H H'->H' b=some (.lst [.int (val ns k J n).2])->gJ P jX jY H'->Own H' v (val ns k J n).1 fp->fp.Nodup->(∀c∈fp,H c=none)->Q v H'
def D7 (K:W.Frag) (P:Addr) (N:Nat):Sp:=λvs H Q _=>∃a b ns n U key L fs,∃J:Nat,vs=[.ref a,.ref b,U,.int J]/\G0 K H a b ns n/\gJ P jX jY H/\KA H U (.rows key L fs)/\(Kd.rows key L fs).W/\J<8/\mu (.rows key L fs) J<=N+1/\n+(Kd.rows key L fs).cB<=1000000000000/\
 ∀(v:V) (H':Hp) (fp:List Addr),gM b P H H'->H' b=some (.lst [.int (val ns (.rows key L fs) J n).2])->gJ P jX jY H'->Own H' v (val ns (.rows key L fs) J n).1 fp->fp.Nodup->(∀c∈fp,H c=none)->Q v H'
theorem KO:gP XX XX (gC (top 43)):=gT
theorem KP (T:Tb mg)(J:Dn K mg "_law_rank" qH (top 43) L U):d_ P w K mg base f_ (1) L U qH (sV):=by
 refine J.F.ok KO λvs H Q E h=>?_;obtain⟨p,r,b,key,Y,fs,kvs,m,fp,rfl,hp,hR,hO,hF,hk,aa,q⟩:=h;refine⟨rfl,λac A outer s nd hr hu=>?_⟩
 refine⟨_,(gh (gF (gI gX (gp (pv 0) c_) gK (gE _)) (gm (gv (iw (a_ (jN hu (pv 1) (gp (pv 0) c_) (λ_ _=>rfl)) b_)))) gH)
  (gm (gv (iw (a_ (jN hu (pv 1) (gp (pv 0) c_) (λ_ _=>rfl)) (a_ (jN hu (pv 1) (gp (pv 0) c_) (λ_ _=>rfl)) b_)))))),?_⟩
 ac_rfl
 have gk:ip H r (.str key) (some (kV (keyOf m key))):=by have:=ip.k (k:=Sum.inr key) hR;rw[hO.qL hF hk] at this;exact this
 refine⟨_,rfl,p,_,_,_,rfl,rfl,e_.of hp,rfl,rfl,_,rfl,iL (λc=>?_) (λc=>?_)⟩
 . have c':Y="":=by
    have:=of_decide_eq_true c;injection this
   refine⟨_,rfl,_,rfl,p,_,_,_,rfl,rfl,e_.of hp,rfl,r,_,rfl,gk,ma,λt ht=>?_⟩;have:=q t ht;unfold rankOf at this;rw[if_pos c'] at this;exact this
 . have c':¬Y="":=λz=>c (decide_eq_true (show V.str Y=V.str "" by rw[z]));have ab:fs.pl Y:=aa.resolve_left c';have gb:ip H r (.str Y) (some (kV (keyOf m Y))):=by have:=ip.k (k:=Sum.inr Y) hR;rw[hO.qL hF ab] at this;exact this
   refine⟨_,rfl,_,rfl,p,_,_,_,rfl,rfl,e_.of hp,rfl,r,_,rfl,gb,_,rfl,_,rfl,p,_,_,_,rfl,rfl,e_.of hp,rfl,r,_,rfl,gk,iq,λt ht=>?_⟩;have:=q t ht;unfold rankOf at this;rw[if_neg c'] at this;exact this
theorem KQ:gP ["kind","row","key","by"] ["kind","row"] (gC (top 19)):=gT
theorem D8 (T:Tb mg)(L:Dn K mg "rank" qI (top 19) U Y):d_ P w K mg base f_ (1) U Y qI (sV):=by
 refine L.F.ok KQ λvs H Q E h=>?_;obtain⟨p,r,b,key,J,fs,kvs,m,fp,rfl,hp,hR,hO,hF,hk,aa,q⟩:=h;refine⟨rfl,λac A outer s nd hr hu=>?_⟩
 refine⟨_,(gh (gD 2 nd (gp (pv 0) c_))
  (gh (gD 3 nd (gp (pv 0) c_))
  (gh (gF (gI gX (pv 3) gK (gE _)) (gm (gv (iw (a_ (jN hu (pv 1) (pv 2) (λ_ _=>rfl)) b_)))) gH)
  (gm (gv (iw (a_ (jN hu (pv 1) (pv 3) (λ_ _=>rfl)) (a_ (jN hu (pv 1) (pv 2) (λ_ _=>rfl)) b_)))))))),?_⟩
 ac_rfl
 have gk:ip H r (.str key) (some (kV (keyOf m key))):=by have:=ip.k (k:=Sum.inr key) hR;rw[hO.qL hF hk] at this;exact this
 refine⟨_,rfl,p,_,_,_,rfl,rfl,e_.of hp,rfl,?_⟩;refine⟨_,rfl,p,_,_,_,rfl,rfl,e_.of hp,rfl,?_⟩;refine⟨_,rfl,rfl,_,rfl,iL (λc=>?_) (λc=>?_)⟩
 . have c':J="":=by
    have:=of_decide_eq_true c;injection this
   refine⟨_,rfl,_,rfl,r,_,rfl,gk,ma,λt ht=>?_⟩;have:=q t ht;unfold rankOf at this;rw[if_pos c'] at this;exact this
 . have c':¬J="":=λz=>c (decide_eq_true (show V.str J=V.str "" by rw[z]));have ab:fs.pl J:=aa.resolve_left c';have gb:ip H r (.str J) (some (kV (keyOf m J))):=by have:=ip.k (k:=Sum.inr J) hR;rw[hO.qL hF ab] at this;exact this
   refine⟨_,rfl,_,rfl,r,_,rfl,gb,_,rfl,_,rfl,r,_,rfl,gk,iq,λt ht=>?_⟩;have:=q t ht;unfold rankOf at this;rw[if_neg c'] at this;exact this
noncomputable def σV (a b L:Addr) (J:Nat) (U ps:Addr) (x y:Option V):St:=[some (.ref a),some (.ref b),some (.ref L),some (.int J),some (.ref U),some (.ref ps),x,y]
theorem D9 {α J:Type}{F:α->J->Prop}{a:α}{b:J}:∀{as:List α}{bs:List J},Paired F as bs->F a b->Paired F (as++[a]) (bs++[b])
 |_,_,.nil,h=>.cons h .nil
 |_,_,.cons x r,h=>.cons x (D9 r h)
theorem D_ {L:List (Key × V)}{J:List Ds}{key:Str}(h:L.map (·.1)=J.map λr=>keyOf r key)(k:Key):(h6 L k).isSome=nF key J k:=by
 rw[<-oq];unfold nF;have e:∀(l:List Ds),(l.any λr=>decide (keyOf r key=k))=((l.map λr=>keyOf r key).any λx=>decide (x=k)):=λl=>by rw[Q2n];rfl
 rw[e,<-h,Q2n];rfl
theorem iS.g6 {b P:Addr}{H₀ H H':Hp}{n:Int}{lp:Pos}{ql:Str}(x:gM b P H H')(U:H b=some (.lst [.int n]))(hT:gJ P lp ql H)(J:∃o,H₀ b=some o):
 ∀{vs:List V} {Y:List Ds} {L:List (List Addr)},iS H vs Y L->(∀c∈L.flatten,H₀ c=none)->iS H' vs Y L
 |_,_,_,.nil,_=>.nil
 |_,_,_,.cons h r,fr=>.cons (h.g6 x U hT J λc hc=>fr c (Q0u _ hc)) (iS.g6 x U hT J r λc hc=>fr c (Q0b _ hc))
theorem iS.keep {H H':Hp}(t:Tu H H'):∀{vs:List V}{L:List Ds}{J:List (List Addr)},iS H vs L J->(∀c∈J.flatten,∀o,H c=some o->H' c=some o)->iS H' vs L J
 |_,_,_,.nil,_=>.nil
 |_,_,_,.cons h r,k=>.cons (h.keep t _ λc hc=>k c (Q0u _ hc)) (iS.keep t r λc hc=>k c (Q0b _ hc))
theorem iS.mu {H:Hp}{vs:List V}{L:List Ds}{J:List (List Addr)}(h:iS H vs L J):∀c∈J.flatten,Mu H c:=gn.alive _ h.own
theorem Ea:gP XU XM (gC (top 44)):=gT
theorem KR {Pt c:Addr}(N:Nat)(T:Tb mg)(ak:Dn K mg "_law_rows" js (top 44) al ab)(bb:ab.code=.ref c)(bA:W.CodeHd base c Pt)(bB:BM mg base)(am:Dn K mg "_law_next" g8 (top 35) an ao)(ap:d_ P w K mg base f_ (1) an ao g8 (oI K))(U:Dn K mg "_law_rank" qH (top 43) aq ar)(au:d_ P w K mg base f_ (1) aq ar qH (sV))(af:Dn K mg "_law_value" js (top 45) ag ah)(ai:d_ P w K mg base f_ (2 * N+5) ag ah js (nN K Pt N)):
 d_ P w K mg base f_ (2 * N+6) al ab js (D7 K Pt N):=by
 refine ak.F.C5 bb Ea (λvs H Q E h=>?_) (λA outer s H vs Q E hr h=>?_)
 . obtain⟨a,b,ns,n,kv,key,Y,fs,J,rfl,_⟩:=h;rfl
 obtain⟨a,b,ns,n,kv,key,Y,fs,J,rfl,g,hT,hk,hW,b4,bC,hn,q⟩:=h;have nd:=Ea.nd;have hu:=Cm hr;unfold KA at hk;obtain⟨pk,pb,xs,rfl,aY,bD,bE⟩:=hk;have b5:=hW;unfold Kd.W at hW;obtain⟨bF,bG,aZ,aI,be⟩:=hW
 refine⟨_,(gh (gD 4 nd (iJ b_))
  (gh (gD 5 nd nv)
  (gh (jo PassesOwn.never rfl (qj rfl T.pI (a_ (gy ia (gz ap hr am (a_ (pv 0) (a_ (pv 1) b_))) (gy j7 (pv 3) c_)) b_)) (g5 (i:=6) nd rfl iA) (gh (gD 7 nd (gz ai hr af (a_ (pv 0) (a_ (pv 1) (a_ (iw (a_ gK (a_ (gp (pv 2) c_) b_))) (a_ (gy ju (pv 3) c_) b_))))))
  (gm (gF (uD (Ci hu (jN hu (pv 7) (gp (pv 2) c_) (λ_ _=>rfl)) (pv 5)) (by with_unfolding_all rfl)) (gh (l6 hu (pv 5) (jN hu (pv 7) (gp (pv 2) c_) (λ_ _=>rfl)) jk rfl)
  (gm (j5 (mN PySem.F.plainAttrs_list PySem.F.slot_list_append PySem.F.type_list_append nu (pv 4) (a_ (pv 7) b_))))) gH))))
  (gm (gv (Jx (x:="_law_row") (N':=["","","_law_kind_here","","","","",""]) rfl T.vD boot_sorted hr rfl rfl bA bB (ny.of (N:=XU) (sc:=gC (top 44)) rfl rfl rfl rfl rfl (by decide +kernel)) rfl (λ_ _ _ _ _=>rfl) (pv 4) (λ_ _ _ _ _=>(BR au (iu.deeper (k:=1) (iu.in1 (k:=2) (iu.in1 (k:=3) (hr.mono (by omega)))) _) rfl U.m U.F.kp U.b .nil i9 (a_ (pv 3) (a_ (pv 0) b_)))))))))),?_⟩
 ac_rfl
 have bH:(Kd.rows key Y fs).cB=8 * fs.cB+1:=rfl;rw[bH] at hn;have hb:=g.at_;obtain⟨b6,hP⟩:=hT.tab;refine⟨pL,λpr aO=>?_⟩;intro ps aB
 have aJ:H ps=none:=by
  by_cases e:ps=pr
  . rw[e,gu] at aB;cases aB
  . rwa [gj e] at aB
 have a1:ps≠pr:=λe=>by rw[e,gu] at aB;cases aB
 have s0:Same H (upd (upd H pr (.lst [])) ps (.dK [])):=(Same.new aO).trans (Same.new aB);have hT0:=hT.same s0;have g0:G0 K (upd (upd H pr (.lst [])) ps (.dK [])) a b ns n:=⟨(SB.of s0).lN hb g.lN,g.len,s0 _ _ hb,g.pos⟩;refine⟨_,rfl,_,rfl,a,b,ns,n,rfl,g0,by omega,λH1 s1 h1=>?_⟩;refine⟨_,rfl,_,_,rfl,rfl,_,_,rfl,rfl,by omega,?_⟩;have b7:=Q0k (nx ns (n+1)) (show((J:Int)+1)≠0 by omega);have b8:=Q0l (nx ns (n+1)) (show(0:Int)<(J:Int)+1 by omega);have a2:b≠pr:=gB hb aO;have a3:b≠ps:=gB hb aJ;have lW:Pt≠pr:=gB hP aO;have bI:Pt≠ps:=gB hP aJ;have bJ:H1 pr=some (.lst []):=s1 pr _ (Ne.symm a2) (by rw[gj (Ne.symm a1)];exact gu);have bK:H1 ps=some (.dK []):=s1 ps _ (Ne.symm a3) gu;have bL:gJ Pt jX jY H1:=hT0.sb (s0 _ _ hb) s1;have k1:gM b Pt H H1:=λc o nc e=>s1 c o (λz=>nc (.inl z)) (s0 c o e);have cnt:=λm=>qE ns fs (J / 2) m (by omega)
 refine⟨_,rfl,by omega,by omega,oV (n:=Int.toNat (nx ns (n+1) % ((J:Int)+1))) (λi σ H'=>∃x y vs fl sk,σ=σV a b pk J pr ps x y/\gM b Pt H H'/\H' b=some (.lst [.int (h_ (gQ ns fs (J / 2)) key i [] (n+1)).2])/\gJ Pt jX jY H'/\
  H' pr=some (.lst vs)/\H' ps=some (.dK sk)/\iS H' vs (h_ (gQ ns fs (J / 2)) key i [] (n+1)).1 fl/\fl.flatten.Nodup/\(∀c∈fl.flatten,H c=none/\c≠pr/\c≠ps)/\sk.map (·.1)=((h_ (gQ ns fs (J / 2)) key i [] (n+1)).1.map λr=>keyOf r key)/\vs.length<=i) ?_ ?_ ?_⟩
 . exact⟨_,_,[],[],[],rfl,k1,h1,bL,bJ,bK,.nil,Q15,λc hc=>absurd hc (by simp),rfl,Q00 _⟩
 . intro i σ H' hi zq;obtain⟨x,y,vs,fl,sk,rfl,kp,aE,aC,aP,a4,ac,aQ,aw,aG,bM⟩:=zq;have b9:i<8:=by omega
   obtain⟨c1,c2⟩:=r_ (key:=key) cnt i [] (n+1);have c3:i * fs.cB<=7 * fs.cB:=Q12 _ (by omega);have aH:Tu H H':=kp.tu hb hT;refine⟨_,rfl,_,rfl,_,rfl,pk,_,_,_,rfl,rfl,e_.of (aH _ _ aY),rfl,iq,λt ht=>?_⟩;have st:Same H' (upd H' t (.tup [.str "record",.ref pb])):=Same.new ht;have e2:((J / 2:Nat):Int)=(J:Int) / 2:=by omega
   have bN:KA (upd H' t (.tup [.str "record",.ref pb])) (.ref t) (.gA fs):=by
    unfold KA;exact⟨t,pb,xs,rfl,gu,st _ _ (aH _ _ bD),FA.mono (aH.trans (Tu.of st)) fs bE⟩
   have ca:=g.pos;refine⟨_,rfl,_,_,rfl,rfl,⟨by decide,by decide⟩,a,b,ns,(h_ (gQ ns fs (J / 2)) key i [] (n+1)).2,.ref t,.gA fs,J / 2,(by rw[e2];rfl),gM.g0 (kp.trans (Kp.of st)) g hT (st _ _ aE) (by omega),aC.same st,bN,(by unfold Kd.W;exact⟨bF,bG,aZ⟩),by omega,(by simp only[mu,Kd.dep] at bC ⊢;omega),(by simp only[kc,Kd.cB];omega),?_⟩;intro v H2 fp g6 aD bf ay bt aV;have ev:val ns (.gA fs) (J / 2) (h_ (gQ ns fs (J / 2)) key i [] (n+1)).2=(.dct (gQ ns fs (J / 2) (h_ (gQ ns fs (J / 2)) key i [] (n+1)).2).1,(gQ ns fs (J / 2) (h_ (gQ ns fs (J / 2)) key i [] (n+1)).2).2):=by simp only[val]
   rw[ev] at aD ay;have bu:=qD ns fs aZ (J / 2) (h_ (gQ ns fs (J / 2)) key i [] (n+1)).2 (by omega);have succ:=vO (g:=gQ ns fs (J / 2)) (key:=key) i [] (n+1);generalize h_ (gQ ns fs (J / 2)) key (i+1) [] (n+1)=cb at succ ⊢;generalize h_ (gQ ns fs (J / 2)) key i [] (n+1)=L at *;generalize gQ ns fs (J / 2) L.2=ae at *;have av:gM b Pt H' H2:=(Kp.of st).trans g6;have bO:∃o,H b=some o:=⟨_,hb⟩;have bg:H2 pr=some (.lst vs):=av pr _ (λz=>z.elim (Ne.symm a2) (Ne.symm lW)) aP;have aS:H2 ps=some (.dK sk):=av ps _ (λz=>z.elim (Ne.symm a3) (Ne.symm bI)) a4;have aa:iS H2 vs L.1 fl:=iS.g6 av aE aC bO ac λc hc=>(aw c hc).1;have bc:=ay;unfold Own at ay;obtain⟨rr,kvs,fq,rfl,a5,cd,a6⟩:=ay;have az:H2 pk=some (.tup [.str "rows",.str key,.str Y,.ref pb]):=gM.at (kp.trans av) hb hT (by intro z;cases z) (by intro ps z;cases z) aY;have gk:ip H2 rr (.str key) (some (kV (keyOf ae.1 key))):=by have:=ip.k (k:=Sum.inr key) a5;rw[a6.key bu aI] at this;exact this
   have gs:ip H2 ps (kV (keyOf ae.1 key)) (h6 sk (keyOf ae.1 key)):=ip.k aS;have sv:=D_ aG (keyOf ae.1 key);have aL:gM b Pt H H2:=kp.trans av;refine⟨_,rfl,_,rfl,pk,_,_,_,rfl,rfl,e_.of az,rfl,rr,_,rfl,gk,_,rfl,ps,_,rfl,gs,_,rfl,?_⟩
   cases ec:nF key L.1 (keyOf ae.1 key) with
   |true=>
    rw[ec] at sv;rw[ec,if_pos rfl] at succ;rw[sv];subst succ;exact gY ⟨_,_,vs,fl,sk,rfl,aL,aD,bf,bg,aS,aa,aQ,aw,aG,by omega⟩
   |false=>
    rw[ec] at sv;rw[ec,if_neg (by simp)] at succ;rw[sv];subst succ;refine i5 ?_
    have bP:h6 sk (keyOf ae.1 key)=none:=by
     cases z:h6 sk (keyOf ae.1 key) with
     |none=>rfl
     |some o=>rw[z] at sv;cases sv
    have bv:sk.length<sizeLine:=by
     have e1:sk.length=(L.1.map λr=>keyOf r key).length:=by rw[<-aG,Q04]
     rw[Q04] at e1;have ce:=(A3.len aa).1;exact iB (by omega)
    refine⟨_,rfl,_,rfl,_,rfl,pk,_,_,_,rfl,rfl,e_.of az,rfl,rr,_,rfl,gk,ps,_,rfl,j8.k aS bv,?_⟩;rw[l_ bP];have bh:Mu H2 ps:=.inr ⟨_,aS⟩;have bQ:Tu H2 (upd H2 ps (.dK (sk++[(keyOf ae.1 key,.bl true)]))):=Tu.wr λys z=>bh.nG ys z;have a7:upd H2 ps (.dK (sk++[(keyOf ae.1 key,.bl true)])) pr=some (.lst vs):=by rw[gj (Ne.symm a1)];exact bg
    refine⟨_,rfl,.inl ⟨rfl,_,gi.of a7⟩,_,rfl,pr,_,_,rfl,rfl,a7,iB (by omega),?_⟩;have bi:Mu (upd H2 ps (.dK (sk++[(keyOf ae.1 key,.bl true)]))) pr:=.inl ⟨_,a7⟩;have bj:Tu H2 (upd (upd H2 ps (.dK (sk++[(keyOf ae.1 key,.bl true)]))) pr (.lst (vs++[.ref rr]))):=bQ.trans (Tu.wr λys z=>bi.nG ys z)
    have aK:∀c∈fp,H c=none/\c≠pr/\c≠ps:=λc hc=>by
     have z:=aV c hc;have z':H' c=none:=st.free z;have nb:c≠b:=λe=>by rw[e,aE] at z';cases z'
     obtain⟨bm,a8⟩:=aC.tab;have nP:c≠Pt:=λe=>by rw[e,a8] at z';cases z'
     refine⟨kp.vz (λe=>e.elim nb nP) z',λe=>?_,λe=>?_⟩
     . rw[e,aP] at z';cases z'
     . rw[e,a4] at z';cases z'
    have aj:∀c,c≠pr->c≠ps->upd (upd H2 ps (.dK (sk++[(keyOf ae.1 key,.bl true)]))) pr (.lst (vs++[.ref rr])) c=H2 c:=λc n1 n2=>by rw[gj n1,gj n2]
    refine⟨_,_,vs++[.ref rr],fl++[fp],_,rfl,λc o nc e=>?_,by rw[aj b a2 a3];exact aD,(bf.wr bh).wr bi,gu,by rw[gj a1];exact gu,?_,?_,?_,?_,by rw[Q09];show vs.length+1<=i+1;omega⟩
    . rw[aj c (gB e aO) (gB e aJ)];exact aL c o nc e
    . refine A3.snoc ?_ (iS.keep bj aa λc hc o e=>by rw[aj c (aw c hc).2.1 (aw c hc).2.2];exact e);exact bc.keep bj _ λc hc o e=>by rw[aj c (aK c hc).2.1 (aK c hc).2.2];exact e
    . rw[Q3d];refine List.nodup_append.mpr ⟨aQ,by simpa using bt,λc hc d hd=>?_⟩;have bR:d∈fp:=by simpa using hd
      intro e;subst e;obtain⟨o,eo⟩:=(iS.mu ac c hc).ex;have:=st.free (aV c bR);rw[eo] at this;cases this
    . intro c hc;rw[Q3d] at hc;rcases List.mem_append.mp hc with z|z
      . exact aw c z
      . exact aK c (by simpa using z)
    . rw[Q0m,Q0m,aG];rfl
 . intro σ H' zq;obtain⟨x,y,vs,fl,sk,rfl,kp,aE,aC,aP,a4,ac,aQ,aw,aG,bM⟩:=zq;have bS:val ns (.rows key Y fs) J n=(.lst (jb (nE key Y (h_ (gQ ns fs (J / 2)) key (nx ns (n+1) % ((J:Int)+1)).toNat [] (n+1)).1)),(h_ (gQ ns fs (J / 2)) key (nx ns (n+1) % ((J:Int)+1)).toNat [] (n+1)).2):=by simp only[val]
   rw[bS] at q;have aM:∀m∈(h_ (gQ ns fs (J / 2)) key (nx ns (n+1) % ((J:Int)+1)).toNat [] (n+1)).1,iy fs m:=pB (R:=iy fs) (λn=>qD ns fs aZ (J / 2) n (by omega)) _ _ _ (λr hr=>absurd hr (by simp));have bT:=r8 (g:=gQ ns fs (J / 2)) (key:=key) (nx ns (n+1) % ((J:Int)+1)).toNat [] (n+1) Q15;generalize h_ (gQ ns fs (J / 2)) key (nx ns (n+1) % ((J:Int)+1)).toNat [] (n+1)=L at *;obtain⟨aW,bw⟩:=A3.len ac;refine⟨_,rfl,pr,vs,rfl,gi.of aP,by omega,aC,λc' H2 a9 mono=>?_⟩;have aH:Tu H H':=kp.tu hb hT
   have np:∀cc o,(∀ps,o≠ .iQ ps)->H' cc=some o->H2 cc=some o:=λcc o ho e=>by
    obtain⟨bm,a8⟩:=aC.tab;exact mono cc o (jK e a8 (ho bm)) e
   have bn:Tu H' H2:=λcc ys e=>np cc _ (by intro ps z;cases z) e
   have aa:iS H2 vs L.1 fl:=iS.keep bn ac λcc hc o e=>np cc o (by
    intro ps z;rcases iS.mu ac cc hc with⟨_,q⟩|⟨_,q⟩ <;> rw[e] at q <;> rw[z] at q <;> cases q) e
   have az:H2 pk=some (.tup [.str "rows",.str key,.str Y,.ref pb]):=bn _ _ (aH _ _ aY);refine⟨λks H3=>Same H2 H3/\ks.length<=vs.length/\pj H3 ks ((L.1.map (rankOf key Y)).take ks.length),⟨Same.refl _,Q0d _,.nil⟩,λks H3 hw=>a9.mono λcc o _ e=>hw.1 _ _ e,?_,?_⟩
   . rintro ks H3 yv ⟨s3,bU,aT⟩ hy;have bo:ks.length<vs.length:=(List.getElem?_eq_some_iff.mp hy).1;have aX:=A3.at (a0:=V.non) (b0:=Ds.nil) (c0:=[]) aa ks.length bo;have ey:vs.getD ks.length .non=yv:=by rw[Q0f,hy];rfl
     rw[ey] at aX
     have bx:L.1.getD ks.length .nil∈L.1:=by
      rw[Q0f,Q05 (by omega)];exact Q1m _
     have aN:=Own.same s3 aX;unfold Own at aN;obtain⟨rr,kvs,fq,rfl,a5,_,a6⟩:=aN;refine⟨_,rfl,_,rfl,pk,rr,pb,key,Y,fs,kvs,_,fq,rfl,s3 _ _ az,a5,a6,(aM _ bx).p,aI,be,λt ht=>⟨s3.trans (Same.new ht),by rw[Q09];exact bo,?_⟩⟩
     have et:(L.1.map (rankOf key Y)).take (ks++[V.ref t]).length=(L.1.map (rankOf key Y)).take ks.length++[rankOf key Y (L.1.getD ks.length .nil)]:=by
      rw[Q09];show List.take (ks.length+1) _=_;rw[Q0t,Q0j,Q0f,Q05 (by omega)];rfl
     rw[et];refine D9 (Paired.rj aT λk kl z=>?_) ⟨t,rfl,gu⟩;obtain⟨pp,e,hh⟩:=z;exact⟨pp,e,by rw[gj (gB hh ht)];exact hh⟩
   . rintro ks H3 ⟨s3,bU,aT⟩ bz
     have bV:(L.1.map (rankOf key Y)).take ks.length=L.1.map (rankOf key Y):=by
      rw[bz,aW,Q0z (by rw[Q04];exact Q00 _)]
     rw[bV] at aT;refine⟨_,aT,⟨if Y="" then [lH (fs.get key)] else [lH (fs.get Y),lH (fs.get key)],by split <;> simp,λkl bW=>?_⟩,λp hp hs D hD=>?_⟩
     . obtain⟨m,hm,rfl⟩:=List.mem_map.mp bW;exact JU (aM m hm) aI be
     have ba:∀i∈p,i<vs.length:=λi hi=>by
      have:=hp.mem_iff.mp hi;simpa using this
     have bX:p.Perm (List.range L.1.length):=by rw[<-aW];exact hp
     have hz:(p.map λi=>L.1.getD i .nil)=nE key Y L.1:=by
      refine JT (Dr _ bX) ?_ bT;rw[Q1z] at hs ⊢;refine List.Pairwise.imp_of_mem (λ{i j} hi hj h=>?_) hs;have bY:=ba i hi;have bZ:=ba j hj
      have ge:∀i,i<vs.length->(L.1.map (rankOf key Y)).getD i []=rankOf key Y (L.1.getD i .nil):=λi hi=>by
       rw[Q0f,Q0f,Q0j,Q05 (by omega)];rfl
      rw[ge i bY,ge j bZ] at h;exact h
     have aA:iS H3 vs L.1 fl:=iS.keep (Tu.of s3) aa λcc _ o e=>s3 cc o e;have sD:Same H3 (upd H3 D (.lst (p.map λi=>vs.getD i .non))):=Same.new hD;have aU:iS (upd H3 D (.lst (p.map λi=>vs.getD i .non))) vs L.1 fl:=iS.keep (Tu.of sD) aA λcc _ o e=>sD cc o e;have bd:=A3.pick (a0:=V.non) (b0:=Ds.nil) (c0:=[]) aU p ba;have b1:(p.map λi=>fl.getD i []).Perm fl:=Dr _ (by rw[<-bw];exact hp);have ax:=JX b1;have aD:H2 b=some (.lst [.int L.2]):=np b _ (by intro ps z;cases z) aE;have bp:D≠b:=λe=>by rw[e,s3 _ _ aD] at hD;cases hD
     have bq:D≠Pt:=λe=>by rw[e,s3 _ _ a9.1] at hD;cases hD
     have br:=s3.free hD
     have b3:H' D=none:=by
      cases e:H' D with
      |none=>rfl
      |some o=>rw[mono D o bq e] at br;cases br
     refine q (.ref D) _ (D::(p.map λi=>fl.getD i []).flatten) (λcc o nc e=>?_) (by rw[gj (Ne.symm bp)];exact s3 _ _ aD) (.inr ⟨c',a9.mono λcc o _ e=>sD _ _ (s3 _ _ e)⟩) ?_ ?_ ?_
     . have e1:=kp cc o nc e;exact sD _ _ (s3 _ _ (mono cc o (λz=>nc (.inr z)) e1))
     . unfold Own;exact⟨D,_,_,rfl,gu,rfl,by rw[<-hz];exact iS.own bd⟩
     . refine List.nodup_cons.mpr ⟨λhm=>?_,ax.nodup_iff.mpr aQ⟩;obtain⟨o,eo⟩:=(iS.mu aA D (ax.mem_iff.mp hm)).ex;rw[hD] at eo;cases eo
     . intro cc hc;rcases List.mem_cons.mp hc with z|z
       . rw[z];exact kp.vz (λe=>e.elim bp bq) b3
       . exact(aw cc (ax.mem_iff.mp z)).1
theorem KS (k:Kd)(J:Nat):16<=mu k J:=by
 have:=k.jr
 cases k <;> simp only[mu,Kd.dep] at * <;> omega
noncomputable def σU (a b:Addr) (L:V) (J:Nat) (U Y x3 x4 x5:Option V):St:=[some (.ref a),some (.ref b),some L,some (.int J),U,Y,x3,x4,x5]
theorem gx.g6 {b P:Addr}{H₀ H H':Hp}{v:List (Key × V)}{d:Ds}{fp:List Addr}{n:Int}{L:Pos}{U:Str}(h:gx H v d fp)(x:gM b P H H')(Y:H b=some (.lst [.int n]))(hT:gJ P L U H)(J:∃o,H₀ b=some o)(fr:∀c∈fp,H₀ c=none):gx H' v d fp:=by
 refine h.keep (gM.tu x Y hT) d λc hc o e=>x c o (λz=>?_) e;rcases z with z|z
 . obtain⟨o',e'⟩:=J;have:=fr c hc;rw[z,e'] at this;cases this
 . obtain⟨ps,hP⟩:=hT.tab;rcases gx.alive d h c hc with⟨xs,q⟩|⟨xs,q⟩ <;> rw[z,hP] at q <;> cases q
theorem gn.g6 {b P:Addr}{H₀ H H':Hp}{v:List V}{d:Ds}{fp:List Addr}{n:Int}{L:Pos}{U:Str}(h:gn H v d fp)(x:gM b P H H')(Y:H b=some (.lst [.int n]))(hT:gJ P L U H)(J:∃o,H₀ b=some o)(fr:∀c∈fp,H₀ c=none):gn H' v d fp:=by
 refine h.keep (gM.tu x Y hT) d λc hc o e=>x c o (λz=>?_) e;rcases z with z|z
 . obtain⟨o',e'⟩:=J;have:=fr c hc;rw[z,e'] at this;cases this
 . obtain⟨ps,hP⟩:=hT.tab;rcases gn.alive d h c hc with⟨xs,q⟩|⟨xs,q⟩ <;> rw[z,hP] at q <;> cases q
theorem gM.fresh {b P c:Addr}{H H':Hp}{n:Int}{J:Pos}{L:Str}(x:gM b P H H')(U:H' b=some (.lst [.int n]))(hT:gJ P J L H')(h:H' c=none):H c=none:=by
 obtain⟨ps,Y⟩:=hT.tab;exact x.vz (λe=>e.elim (λz=>by rw[z,U] at h;cases h) λz=>by rw[z,Y] at h;cases h) h
theorem Eb:gP XR XM (gC (top 45)):=gT
theorem KU {Pt:Addr}(T:Tb mg)(J:Dn K mg "_law_value" js (top 45) L U):d_ P w K mg base f_ (2 * 0+5) L U js (nN K Pt 0):=by
 refine J.F.ok Eb λvs H Q E h=>?_;obtain⟨a,b,ns,n,kv,k,Y,rfl,g,hT,hk,hW,ab,aa,_⟩:=h;refine⟨rfl,λac A outer s nd hr hu=>?_⟩;exact absurd aa (by have:=KS k Y;omega)
theorem KW {Pt:Addr}(N:Nat)(T:Tb mg)(L:Dn K mg "_law_value" js (top 45) ac ae)(Y:d_ P w K mg base f_ (2 * N+5) ac ae js (nN K Pt N))(aq:Dn K mg "_law_rows" js (top 44) ar au)(av:d_ P w K mg base f_ (2 * N+6) ar au js (D7 K Pt N))(af:Dn K mg "_law_next" g8 (top 35) aw ax)(ag:d_ P w K mg base f_ (1) aw ax g8 (oI K))(am:Dn K mg "_law_number" g8 (top 36) an ao)(ap:d_ P w K mg base f_ (2) an ao g8 (DJ K))(ay:Dn K mg "_law_word" g8 (top 37) az aA)(aB:d_ P w K mg base f_ (2) az aA g8 (DK K)):
 d_ P w K mg base f_ (2 * (N+1)+5) ac ae js (nN K Pt (N+1)):=by
 refine L.F.ok Eb λvs H Q E h=>?_;obtain⟨a,b,ns,n,kv,k,J,rfl,g,hT,hk,hW,ab,aZ,hn,q⟩:=h;refine⟨rfl,λbD A outer s nd hr hu=>?_⟩
 refine⟨_,(gh (gF (gI gX (gp (pv 2) c_) gK (gE _)) (gm (gv (gz ap hr am (a_ (pv 0) (a_ (pv 1) b_))))) gH)
  (gh (gF (gI gX (gp (pv 2) c_) gK (gE _)) (gm (gv (gz aB hr ay (a_ (pv 0) (a_ (pv 1) b_))))) gH)
  (gh (gF (gI gX (gp (pv 2) c_) gK (gE _)) (gh (gD 4 nd nv)
  (gh (jo PassesOwn.never rfl (kN (gp (pv 2) c_)) (jU rfl (iH (g5 (i:=5) nd rfl iA) (iH (g5 (i:=6) nd rfl iA) jT))) (gm (l6 hu (pv 4) (pv 5) (gz Y hr L (a_ (pv 0) (a_ (pv 1) (a_ (pv 6) (a_ (pv 3) b_))))) rfl)))
  (gm (gv (pv 4))))) gH)
  (gh (gF (gI gX (gp (pv 2) c_) gK (gE _)) (gm (gv (gz av hr aq (a_ (pv 0) (a_ (pv 1) (a_ (pv 2) (a_ (pv 3) b_))))))) gH)
  (gh (gF (gI gX (gp (pv 2) c_) gK (gE _)) (gh (gD 7 nd (gz Y hr L (a_ (pv 0) (a_ (pv 1) (a_ (gp (pv 2) c_) (a_ (gy ju (pv 3) c_) b_))))))
  (gh (gD 8 nd (gy ia (gz ag hr af (a_ (pv 0) (a_ (pv 1) b_))) (gy j7 (pv 3) c_)))
  (gm (gv (iw (a_ (pv 7) (a_ (kP (g:=(je 0)) (tt:=lD) (te:=(nr _ _ _ (ja (ik 1) (ja (ik 2) (ja (ik 3) (ja (iD _ (ik 4) (tC (.int 2))) kO)))))) (own:=["_law_k"]) rfl (kB (N:=XR) (sc:=gC (top 45))) (qj rfl T.pI (a_ (pv 8) b_)) (λ_ _ _ _ _=>(g5 (i:=0) (show(["_law_k","_law_script","_law_at","_law_kind_here","_law_room","_law_made","_law_name","_law_inner","_law_top_here","_law_many"]:List Str).Nodup by decide +kernel) rfl (Or.inl rfl) (.inr rfl))) (λ_ _ _ _ _=>mP) (λ_ _ _ _ _=>(gz Y hr L (a_ (pv 1) (a_ (pv 2) (a_ (pv 3) (a_ (gy ju (pv 4) c_) b_))))))) b_))))))) gH)
  (gh (Bt (gp (gp (pv 2) c_) (gy ia (gz ag hr af (a_ (pv 0) (a_ (pv 1) b_))) (g7 jC (by rfl) T.jc PySem.boot_len (a_ (gp (pv 2) c_) b_)))) (jU rfl (iH (g5 (i:=5) nd rfl iA) (iH (g5 (i:=6) nd rfl iA) jT))))
  (gm (gv (iw (a_ (pv 5) (a_ (gz Y hr L (a_ (pv 0) (a_ (pv 1) (a_ (pv 6) (a_ (pv 3) b_))))) b_))))))))))),?_⟩
 ac_rfl
 have hb:=g.at_;have bE:=g.pos;have aT:∃o,H b=some o:=⟨_,hb⟩;obtain⟨bF,hP⟩:=hT.tab;have e2:((J / 2:Nat):Int)=(J:Int) / 2:=by omega
 cases k with
 |num=>
  unfold KA at hk;obtain⟨c,rfl,hc⟩:=hk;simp only[kc,Kd.cB] at hn;refine j_ rfl hc rfl (by decide +kernel) ?_;refine⟨_,rfl,_,rfl,a,b,ns,n,rfl,g,by omega,λH1 s1 h1=>?_⟩;have ev:val ns .num J n=(.int (num ns (n+1)),n+1):=by simp only[val]
  rw[ev] at q;exact q _ H1 [] (SB.g6 s1) h1 (hT.sb hb s1) (by unfold Own;exact⟨rfl,rfl⟩) Q15 λc hc=>absurd hc (by simp)
 |ix=>
  unfold KA at hk;obtain⟨c,rfl,hc⟩:=hk;simp only[kc,Kd.cB] at hn;refine hX rfl hc rfl (by decide +kernel) ?_;refine j_ rfl hc rfl (by decide +kernel) ?_;refine⟨_,rfl,_,rfl,a,b,ns,n,rfl,g,by omega,λH1 s1 h1=>?_⟩;have ev:val ns .ix J n=(.str (ix ns (n+1)),n+1):=by simp only[val]
  rw[ev] at q;exact q _ H1 [] (SB.g6 s1) h1 (hT.sb hb s1) (by unfold Own;exact⟨rfl,rfl⟩) Q15 λc hc=>absurd hc (by simp)
 |gA fs=>
  unfold KA at hk;obtain⟨pk,pb,xs,rfl,aa,aE,aG⟩:=hk;unfold Kd.W at hW;obtain⟨a5,bf,aU⟩:=hW;refine hX rfl aa rfl (by decide +kernel) ?_;refine hX rfl aa rfl (by decide +kernel) ?_;refine j_ rfl aa rfl (by decide +kernel) ?_;intro p hp;have a6:b≠p:=gB hb hp;have bg:Pt≠p:=gB hP hp;have s0:Same H (upd H p (.dK [])):=Same.new hp;have bh:val ns (.gA fs) J n=(.dct (gQ ns fs J n).1,(gQ ns fs J n).2):=by simp only[val]
  rw[bh] at q;simp only[kc,Kd.cB] at hn
  refine⟨_,rfl,pk,_,_,_,rfl,rfl,e_.of (s0 _ _ aa),rfl,pb,rfl,⟨_,e_.of (s0 _ _ aE)⟩,n9 (xs:=xs) (λi σ H'=>∃x2 x3 x4 x5 kvs fq,σ=σU a b (.ref pk) J (some (.ref p)) x2 x3 x4 x5/\gM b Pt H H'/\H' b=some (.lst [.int (gQ ns (fs.take i) J n).2])/\gJ Pt jX jY H'/\
   H' p=some (.dK kvs)/\gx H' kvs (gQ ns (fs.take i) J n).1 fq/\fq.Nodup/\∀c∈fq,H c=none/\c≠p) ?_ ?_ ?_ ?_⟩
  . rw[Fs.take_zero];refine⟨_,_,_,_,[],[],rfl,Kp.of s0,by simp only[gQ];exact s0 _ _ hb,hT.same s0,gu,?_,Q15,λc hc=>absurd hc (by simp)⟩;simp only[gQ];unfold gx;exact⟨rfl,rfl⟩
  . intro i σ H' _ zq;obtain⟨x2,x3,x4,x5,kvs,fq,rfl,kp,_⟩:=zq;exact e_.of (gM.tu kp hb hT _ _ aE)
  . intro i v σ H' hv zq;obtain⟨x2,x3,x4,x5,kvs,fq,rfl,kp,ah,ai,aL,hO,aH,aj⟩:=zq;have a7:=gM.tu kp hb hT;obtain⟨c,u,nm,k,rfl,ak,hc,hk⟩:=FA.get fs aG hv;have cn:=qE ns (fs.take i) J n ab;have cb:=Fs.DW ak;refine⟨c,_,rfl,e_.of (a7 _ _ hc),rfl,_,_,rfl,_,_,rfl,rfl,?_⟩;refine⟨_,rfl,_,rfl,_,rfl,_,rfl,a,b,ns,(gQ ns (fs.take i) J n).2,u,k,J,rfl,gM.g0 kp g hT ah cn.1,ai,KA.mono a7 k hk,Fs.nB aU ak,ab,?_,by have:=pP k J;omega,?_⟩
    . have:mu k J<mu (.gA fs) J:=vP (by have:=Fs.jw ak;simp only[Kd.dep];omega) ab;omega
    intro v2 H2 fp g6 aI aJ aC aD al;have a8:H2 p=some (.dK kvs):=g6 p _ (λz=>z.elim (Ne.symm a6) (Ne.symm bg)) aL;have bi:=gx.g6 hO g6 ah ai aT λc hc=>(aj c hc).1;have bj:nm ∉ (gQ ns (fs.take i) J n).1.names:=by rw[sS];exact Fs.KL a5 ak
    have bm:kvs.length<sizeLine:=by
     rw[gx.len hO,sS];have:(fs.take i).names.length<=fs.names.length:=by rw[Fs.vR,Q0p];omega
     exact iB (by omega)
    refine⟨_,rfl,_,rfl,p,_,rfl,j8.k (k:=Sum.inr nm) a8 bm,?_⟩;rw[l_ (gx.Dq hO bj)];have a9:Mu H2 p:=.inr ⟨_,a8⟩;have ba:Tu H2 (upd H2 p (.dK (kvs++[(Sum.inr nm,v2)]))):=Tu.wr λys z=>a9.nG ys z
    have aP:∀c∈fp,H c=none/\c≠p:=λc hc=>by
     have z:=al c hc;exact⟨gM.fresh kp ah ai z,λe=>by rw[e,aL] at z;cases z⟩
    have sn:=DQ ns nm k J (fs.take i) n;rw[Fs.take_succ ak,sn];refine⟨_,_,_,_,_,fq++fp,rfl,λc o nc e=>?_,by rw[gj a6];exact aI,aJ.wr a9,gu,?_,?_,?_⟩
    . rw[gj (gB e hp)];exact g6 c o nc (kp c o nc e)
    . exact gx.snoc (aC.keep ba _ λc hc o e=>by rw[gj (aP c hc).2];exact e) _ (bi.keep ba _ λc hc o e=>by rw[gj (aj c hc).2];exact e)
    . refine List.nodup_append.mpr ⟨aH,aD,λc hc d hd=>?_⟩;intro e;subst e;obtain⟨o,eo⟩:=(gx.alive _ hO c hc).ex;rw[al c hd] at eo;cases eo
    . intro c hc;rcases List.mem_append.mp hc with z|z
      . exact aj c z
      . exact aP c z
  . intro σ H' zq;obtain⟨x2,x3,x4,x5,kvs,fq,rfl,kp,ah,ai,aL,hO,aH,aj⟩:=zq;rw[FA.len fs aG,Fs.take_all] at ah hO;refine⟨_,rfl,q (.ref p) H' (p::fq) kp ah ai ?_ ?_ ?_⟩
    . unfold Own;exact⟨p,kvs,fq,rfl,aL,rfl,hO⟩
    . exact List.nodup_cons.mpr ⟨λhm=>(aj p hm).2 rfl,aH⟩
    . intro c hc;rcases List.mem_cons.mp hc with z|z
      . rw[z];exact hp
      . exact(aj c z).1
 |rows key bn fs=>
  have aV:=hk;unfold KA at hk;obtain⟨pk,pb,xs,rfl,aa,aE,aG⟩:=hk;simp only[kc] at hn;refine hX rfl aa rfl (by decide +kernel) ?_;refine hX rfl aa rfl (by decide +kernel) ?_;refine hX rfl aa rfl (by decide +kernel) ?_;refine j_ rfl aa rfl (by decide +kernel) ?_;exact⟨_,rfl,_,rfl,_,rfl,_,rfl,a,b,ns,n,_,key,bn,fs,J,rfl,g,hT,aV,hW,ab,aZ,hn,q⟩
 |tree k=>
  have aV:=hk;unfold KA at hk;obtain⟨pk,u,rfl,aa,bo⟩:=hk;unfold Kd.W at hW;refine hX rfl aa rfl (by decide +kernel) ?_;refine hX rfl aa rfl (by decide +kernel) ?_;refine hX rfl aa rfl (by decide +kernel) ?_;refine hX rfl aa rfl (by decide +kernel) ?_;refine j_ rfl aa rfl (by decide +kernel) ?_;have ev:=KG ns k J n ab;rw[ev] at q;simp only[kc,Kd.cB] at hn;have bG:k.cB+1<=(k.cB+1) * gr J:=Q3e _ (vQ J).1
  have m1:mu k (J / 2)<=N:=by
   have:mu k (J / 2)<mu (.tree k) J:=vP (by simp only[Kd.dep];omega) (by omega);omega
  refine⟨_,rfl,_,rfl,_,rfl,pk,_,_,_,rfl,rfl,e_.of aa,rfl,_,rfl,_,_,rfl,rfl,⟨by decide,by decide⟩,a,b,ns,n,u,k,J / 2,(by rw[e2];rfl),g,hT,bo,hW,by omega,m1,by have:=pP k (J / 2);have:k.cB+1<=(k.cB+1) * gr J:=Q3e _ (vQ J).1;omega,?_⟩;intro vt Ht aM aW aN bb bp bq aX;have ct:=lI ns k (J / 2) n (by omega);generalize bH:val ns k (J / 2) n=U at *;refine⟨_,rfl,_,rfl,a,b,ns,U.2,rfl,gM.g0 aW g hT aN ct.1,by omega,λH1 s1 h1=>?_⟩;have g1:G0 K H1 a b ns (U.2+1):=(gM.g0 aW g hT aN ct.1).go s1 h1 (by omega);have aY:=bb.sb aN s1;have k1:gM b Pt H H1:=aW.trans (SB.g6 s1);have aQ:Own H1 vt U.1 aM:=bp.g6 (SB.g6 s1) aN bb aT aX;refine⟨_,rfl,_,_,rfl,rfl,_,_,rfl,rfl,by omega,?_⟩;have br:=Q0k (nx ns (U.2+1)) (show((J:Int)+1)≠0 by omega);have bt:=Q0l (nx ns (U.2+1)) (show(0:Int)<(J:Int)+1 by omega);have bu:=λm=>KJ ns k (J / 2) m (by omega);have bd:=λi=>vy (g:=val ns (.tree k) (J / 2)) (N:=(k.cB+1) * gr (J / 2)) bu i (U.2+1)
  refine⟨_,rfl,_,rfl,_,rfl,by omega,by omega,λi m ys H'=>m=(nx ns (U.2+1) % ((J:Int)+1)).toNat - i/\i<=(nx ns (U.2+1) % ((J:Int)+1)).toNat/\ys.length=i/\∃fq,gM b Pt H1 H'/\H' b=some (.lst [.int (times (val ns (.tree k) (J / 2)) i (U.2+1)).2])/\gJ Pt jX jY H'/\
   gn H' ys (times (val ns (.tree k) (J / 2)) i (U.2+1)).1 fq/\fq.Nodup/\∀c∈fq,H1 c=none,⟨(nx ns (U.2+1) % ((J:Int)+1)).toNat,rfl,Q0d _,rfl,[],Kp.refl _ _,h1,aY,?_,Q15,λc hc=>absurd hc (by simp)⟩,?_⟩
  . simp only[times];unfold gn;exact⟨rfl,rfl⟩
  intro i m ys H' zq;obtain⟨rfl,bC,bv,fq,kp,ah,ai,hO,aH,aj⟩:=zq;by_cases hi:i<(nx ns (U.2+1) % ((J:Int)+1)).toNat
  . refine .inr ⟨hi,iB (by omega),λx bw y=>?_⟩;obtain⟨rfl,rfl⟩:=y;refine⟨rfl,yes (i5 ?_)⟩;have bx:1<=J:=by omega
    have bI:=bd i
    have bz:(times (val ns (.tree k) (J / 2)) i (U.2+1)).2+((k.cB+1) * gr (J / 2):Nat)<=1000000000000:=by
     have a1:=Q3c (k.cB+1) (KI bx ab);have a2:(k.cB+1) * (1+J * gr (J / 2))=(k.cB+1)+J * ((k.cB+1) * gr (J / 2)):=by rw[Nat.mul_add,Nat.mul_one,Q34]
     have a3:(i+1) * ((k.cB+1) * gr (J / 2))<=J * ((k.cB+1) * gr (J / 2)):=Q12 _ (by omega);have a4:(i+1) * ((k.cB+1) * gr (J / 2))=i * ((k.cB+1) * gr (J / 2))+(k.cB+1) * gr (J / 2):=Q1p _ _;omega
    have kA:gM b Pt H bw:=k1.trans kp;refine⟨_,rfl,_,rfl,_,rfl,_,rfl,_,_,rfl,rfl,⟨by decide,by decide⟩,a,b,ns,(times (val ns (.tree k) (J / 2)) i (U.2+1)).2,.ref pk,.tree k,J / 2,(by rw[e2];rfl),gM.g0 kA g hT ah (by omega),ai,KA.mono (gM.tu kA hb hT) _ aV,(by unfold Kd.W;exact hW),by omega,(by simp only[mu] at aZ ⊢;omega),bz,?_⟩;intro v2 H2 fp g6 aI aJ aC aD al;have sn:=DR (val ns (.tree k) (J / 2)) i (U.2+1);refine⟨(nx ns (U.2+1) % ((J:Int)+1)).toNat - (i+1),by omega,rfl,hi,by rw[Q09,bv];rfl,fq++fp,kp.trans g6,by rw[sn];exact aI,aJ,?_,?_,?_⟩
    . rw[sn];exact gn.snoc aC _ (gn.g6 hO g6 ah ai ⟨_,h1⟩ aj)
    . refine List.nodup_append.mpr ⟨aH,aD,λc hc d hd=>?_⟩;intro e;subst e;obtain⟨o,eo⟩:=(gn.alive _ hO c hc).ex;rw[al c hd] at eo;cases eo
    . intro c hc;rcases List.mem_append.mp hc with z|z
      . exact aj c z
      . exact gM.fresh kp ah ai (al c z)
  . have ei:i=(nx ns (U.2+1) % ((J:Int)+1)).toNat:=by omega
    subst ei;refine .inl ⟨Q00 _,λpl aO=>⟨iq,λt ht=>?_⟩⟩;have sl:Same H' (upd H' pl (.lst ys)):=Same.new aO;have st:Same (upd H' pl (.lst ys)) (upd (upd H' pl (.lst ys)) t (.tup [vt,.ref pl])):=Same.new ht;have sa:=sl.trans st;have aS:Own H' vt U.1 aM:=aQ.g6 kp h1 aY aT aX;have kA:gM b Pt H H':=k1.trans kp;refine q (.ref t) _ (aM++(pl::fq)) (kA.trans (Kp.of sa)) (sa _ _ ah) (ai.same sa) ?_ ?_ ?_
    . unfold Own;refine⟨t,_,rfl,gu,?_⟩;unfold gn;refine⟨vt,[.ref pl],aM,pl::fq,rfl,rfl,Own.same sa aS,?_⟩;unfold gn;refine⟨.ref pl,[],pl::fq,[],rfl,by simp,?_,by unfold gn;exact⟨rfl,rfl⟩⟩;unfold Own;exact⟨pl,ys,fq,rfl,st _ _ gu,rfl,gn.same sa hO⟩
    . refine List.nodup_append.mpr ⟨bq,List.nodup_cons.mpr ⟨λhm=>?_,aH⟩,λc hc d hd=>?_⟩
      . obtain⟨o,eo⟩:=(gn.alive _ hO pl hm).ex;rw[aO] at eo;cases eo
      . intro e;subst e;rcases List.mem_cons.mp hd with z|z
        . obtain⟨o,eo⟩:=(Own.alive _ aS c hc).ex;rw[z,aO] at eo;cases eo
        . obtain⟨o,eo⟩:=(Own.alive _ aQ c hc).ex;rw[aj c z] at eo;cases eo
    . intro c hc;rcases List.mem_append.mp hc with z|z
      . exact aX c z
      . rcases List.mem_cons.mp z with y|y
        . rw[y];exact gM.fresh kA ah ai aO
        . exact gM.fresh k1 h1 aY (aj c y)
 |iP fs=>
  unfold KA at hk;obtain⟨pk,pb,xs,rfl,aa,aE,aG⟩:=hk;unfold Kd.W at hW;obtain⟨a5,bf,bJ,aU⟩:=hW;refine hX rfl aa rfl (by decide +kernel) ?_;refine hX rfl aa rfl (by decide +kernel) ?_;refine hX rfl aa rfl (by decide +kernel) ?_;refine hX rfl aa rfl (by decide +kernel) ?_;refine hX rfl aa rfl (by decide +kernel) ?_;simp only[kc,Kd.cB] at hn;refine⟨_,rfl,pk,_,_,_,rfl,rfl,e_.of aa,rfl,_,rfl,_,rfl,a,b,ns,n,rfl,g,by omega,λH1 s1 h1=>?_⟩;have aK:=s1.tu hb;have bc:(xs.length:Int)=(fs.names.length:Int):=by rw[FA.len fs aG]
  have br:=Q0k (nx ns (n+1)) (show((fs.names.length:Int))≠0 by omega);have bt:=Q0l (nx ns (n+1)) (show(0:Int)<(fs.names.length:Int) by omega);obtain⟨nm,k,ak⟩:=Fs.C6 (fs:=fs) (i:=(nx ns (n+1) % (fs.names.length:Int)).toNat) (by omega);obtain⟨c,u,bA,hc,hk⟩:=FA.at aG ak
  have bB:iY xs (nx ns (n+1) % ((xs.length:Nat):Int))=some (.ref c):=by
   have e:nx ns (n+1) % ((xs.length:Nat):Int)=(((nx ns (n+1) % (fs.names.length:Int)).toNat:Nat):Int):=by rw[bc];omega
   rw[e];exact iZ bA
  refine⟨_,rfl,pk,_,_,_,rfl,rfl,e_.of (aK _ _ aa),rfl,pb,_,rfl,.inr (e_.of (aK _ _ aE)),_,_,rfl,rfl,by rw[bc];omega,pb,_,_,_,rfl,rfl,e_.of (aK _ _ aE),bB,?_⟩;refine⟨c,_,rfl,e_.of (aK _ _ hc),rfl,_,_,rfl,_,_,rfl,rfl,?_⟩
  have ev:val ns (.iP fs) J n=(pairD (.str nm) (val ns k J (n+1)).1,(val ns k J (n+1)).2):=by
   show jl ns fs (nx ns (n+1) % (fs.names.length:Int)).toNat J (n+1)=_;exact DU ns fs _ J (n+1) nm k ak
  rw[ev] at q;have cb:=Fs.DV ak;refine⟨_,rfl,_,rfl,_,rfl,_,rfl,_,rfl,a,b,ns,n+1,u,k,J,rfl,g.go s1 h1 (by omega),hT.sb hb s1,KA.mono aK k hk,Fs.nB aU ak,ab,?_,by have:=pP k J;omega,?_⟩
  . have:mu k J<mu (.iP fs) J:=vP (by have:=Fs.jw ak;simp only[Kd.dep];omega) ab;omega
  intro v2 H2 fp g6 aI aJ aC aD al;have be:gM b Pt H H2:=(SB.g6 s1).trans g6;refine⟨iq,λt ht=>?_⟩;have st:Same H2 (upd H2 t (.tup [.str nm,v2])):=Same.new ht;refine q (.ref t) _ fp (be.trans (Kp.of st)) (st _ _ aI) (aJ.same st) ?_ aD λc hc=>gM.fresh (SB.g6 s1) h1 (hT.sb hb s1) (al c hc);unfold Own;refine⟨t,_,rfl,gu,?_⟩;unfold gn;refine⟨.str nm,[v2],[],fp,rfl,rfl,by unfold Own;exact⟨rfl,rfl⟩,?_⟩;unfold gn;exact⟨v2,[],fp,[],rfl,by simp,Own.same st aC,by unfold gn;exact⟨rfl,rfl⟩⟩
theorem Ec {Pt c:Addr}{af:Addr}{ag:FuncData}(T:Tb mg)(L:Dn K mg "_law_value" js (top 45) ac ae)(Y:Dn K mg "_law_rows" js (top 44) al ah)(ai:ah.code=.ref c)(aq:W.CodeHd base c Pt)(ar:BM mg base)(J:Dn K mg "_law_next" g8 (top 35) am an)(U:Dn K mg "_law_number" g8 (top 36) aj ak)(aa:Dn K mg "_law_word" g8 (top 37) ao ap)(ab:Dn K mg "_law_rank" qH (top 43) af ag):∀N:Nat,d_ P w K mg base f_ (2 * N+5) ac ae js (nN K Pt N)
 |0=>KU T L
 |N+1=>by
  have ih:=Ec T L Y ai aq ar J U aa ab N;have Nx:=qK (P:=P) (w:=w) (base:=base) T J;have R:=KR N T Y ai aq ar J Nx ab (KP T ab) L ih;exact KW N T L ih Y R J Nx U (Kq T U J Nx) aa (Ks T aa J Nx)
theorem Fs.get_mem:∀{fs:Fs}{x:Str}{k:Kd},fs.get x=some k->x∈fs.names
 | .nil,_,_,h=>by cases h
 | .cons y q r,x,k,h=>by
   have h:(if x=y then some q else r.get x)=some k:=h;by_cases e:x=y
   . rw[e];exact Q02
   . rw[if_neg e] at h;exact Q06 _ (Fs.get_mem h)
theorem vV:∀{fs:Fs}{x:Str}{v:D},kg fs x v->∃k,fs.get x=some k/\gU k v
 | .nil,_,_,h=>by unfold kg at h;exact h.elim
 | .cons y k r,x,v,h=>by
   unfold kg at h;rcases h with⟨e,f⟩|⟨e,h⟩
   . exact⟨k,by show(if x=y then some k else r.get x)=_;rw[if_pos e],f⟩
   . obtain⟨J,L,U⟩:=vV h;exact⟨J,by show(if x=y then some k else r.get x)=_;rw[if_neg e];exact L,U⟩
theorem Fs.vW:∀{fs:Fs}{x:Str}{k:Kd},fs.W->fs.get x=some k->k.W
 | .nil,_,_,_,h=>by cases h
 | .cons y q r,x,k,w,h=>by
   unfold Fs.W at w;have h:(if x=y then some q else r.get x)=some k:=h;by_cases e:x=y
   . rw[if_pos e] at h;cases h;exact w.1
   . rw[if_neg e] at h;exact Fs.vW w.2 h
theorem qM {K:PySem.W.Frag}{a:Addr}{xs:List V}{g:TG}{tb:TS}{D:Ends}{σ:St}{H:Hp}(Pv:Nat->St->Hp->Prop)(h0:Pv 0 σ H)(hl:∀i σ H,i<=xs.length->Pv i σ H->gi K H a xs)
 (hs:∀(i:Nat) y σ H p,xs[i]? =some y->Pv i σ H->H p=none->g (.ref p) σ (upd H p (.tup [.int i,y])) λJ H2=>tb { D with nx:=Pv (i+1),ct:=Pv (i+1),bk:=D.nx } J H2) (hd:∀σ H,Pv xs.length σ H->D.nx σ H):
 ∃W:Nat->Nat->St->Hp->Prop,(∃m,W 0 m σ H)/\∀i m σ H,W i m σ H->
  ((Ite K a).stop i H/\D.nx σ H)\/((Ite K a).go i H/\∃N:St->Hp->Prop,(∀L H',N L H'->∃Y,Y<m/\W (i+1) Y L H')/\∀x H',(Ite K a).l4 i H x H'->g x σ H' λJ H2=>tb { D with nx:=N,ct:=N,bk:=D.nx } J H2):=by
 refine⟨λi m σ H=>m=xs.length - i/\i<=xs.length/\Pv i σ H,⟨xs.length,by simp,Q0d _,h0⟩,?_⟩;rintro i m σ H ⟨rfl,hi,p⟩;by_cases U:i<xs.length
 . refine .inr ⟨⟨xs,xs[i],hl i σ H hi p,by simp[U]⟩,Pv (i+1),λL H' p'=>⟨xs.length - (i+1),by omega,rfl,U,p'⟩,λx H' y=>?_⟩;obtain⟨q,y,hq,rfl,hy,rfl⟩:=y;exact hs i y σ H q (hy xs (hl i σ H hi p)) p hq
 . have e:i=xs.length:=by omega
   subst e;exact .inl ⟨⟨xs,hl _ σ H (Q00 _) p,Q00 _⟩,hd σ H p⟩
def vX:Sp:=λvs H Q _=>∃b x xs fs k,vs=[.ref b,.str x]/\H b=some (.tup xs)/\FA H xs fs/\fs.names.Nodup/\fs.get x=some k/\∀u,KA H u k->u≠ .non->Q u H
def qN:Sp:=λvs H Q _=>∃a x y,vs=[.ref a]/\H a=some (.tup [x,y])/\Q (.bl true) H
def Ed:Sp:=λvs H Q _=>∃b a xs kvs fs m fp,vs=[.ref b,.ref a]/\H b=some (.tup xs)/\FA H xs fs/\fs.names.Nodup/\fs.names.length<=12/\H a=some (.dK kvs)/\gx H kvs m fp/\me fs m/\∀H',Same H H'->Q (.bl true) H'
def m7 (n:Nat):Sp:=λvs H Q _=>∃J v k d fp,vs=[J,v]/\KA H J k/\k.W/\Own H v d fp/\kZ k d/\d.dep<=n/\d.Sm/\∀H',Same H H'->Q .non H'
def sW (n:Nat):Sp:=λvs H Q _=>∃b a xs kvs fs m fp,vs=[.ref b,.ref a]/\H b=some (.tup xs)/\FA H xs fs/\fs.names.Nodup/\fs.names.length<=12/\fs.W/\H a=some (.dK kvs)/\gx H kvs m fp/\me fs m/\m.dep<=n/\m.Sm/\∀H',Same H H'->Q .non H'
def vY (n:Nat):Sp:=λvs H Q _=>∃U Y a xs key J fs ys L fl,vs=[.ref U,.ref a]/\H U=some (.tup [.str "rows",.str key,.str J,.ref Y])/\H Y=some (.tup xs)/\FA H xs fs/\(Kd.rows key J fs).W/\H a=some (.lst ys)/\iS H ys L fl/\(∀m∈L,me fs m)/\L.Pairwise (pz key J)/\(L.map λm=>keyOf m key).Nodup/\(∀m∈L,m.dep<=n)/\(∀m∈L,m.Sm)/\ys.length<=100/\∀H',Same H H'->Q .non H'
def qO (n:Nat):Sp:=λvs H Q _=>∃a u v k d fp,vs=[.ref a,v]/\H a=some (.tup [.str "tree",u])/\KA H u k/\k.W/\Own H v d fp/\Tree (kj k) d/\d.dep<=n/\d.Sm/\∀H',Same H H'->Q .non H'
def vZ (n:Nat):Sp:=λvs H Q _=>∃b t x v xs fs d fp,vs=[.ref b,.ref t]/\H b=some (.tup xs)/\FA H xs fs/\fs.names.Nodup/\fs.W/\H t=some (.tup [.str x,v])/\Own H v d fp/\kg fs x d/\d.dep<=n/\d.Sm/\∀H',Same H H'->Q .non H'
theorem KA.KY {H:Hp}:∀{u:V}{k:Kd},KA H u k->u≠ .non
 |_,.num,h=>by unfold KA at h;obtain⟨a,rfl,_⟩:=h;intro z;cases z
 |_,.ix,h=>by unfold KA at h;obtain⟨a,rfl,_⟩:=h;intro z;cases z
 |_,.gA _,h=>by unfold KA at h;obtain⟨a,b,vs,rfl,_⟩:=h;intro z;cases z
 |_,.rows _ _ _,h=>by unfold KA at h;obtain⟨a,b,vs,rfl,_⟩:=h;intro z;cases z
 |_,.tree _,h=>by unfold KA at h;obtain⟨a,b,rfl,_⟩:=h;intro z;cases z
 |_,.iP _,h=>by unfold KA at h;obtain⟨a,b,vs,rfl,_⟩:=h;intro z;cases z
theorem KZ:gP ["fields","name","pair"] ["fields","name"] (gC (top 6)):=gT
theorem Ee (T:Tb mg)(J:Dn K mg "kind_at" oA (top 6) L U):d_ P w K mg base f_ (1) L U oA (vX):=by
 refine J.F.ok KZ λvs H Q E h=>?_;obtain⟨b,x,xs,fs,k,rfl,hb,ab,ae,Y,q⟩:=h;refine⟨rfl,λag A outer s nd hr hu=>?_⟩
 refine⟨_,(gh (jo PassesOwn.never rfl (kN (pv 0)) (g5 (i:=2) nd rfl iA) (gm (gF (gI gX (gp (pv 2) c_) (pv 1) (gE _)) (gm (gv (gp (pv 2) c_))) gH)))
  (gm (gv i_))),?_⟩
 ac_rfl
 refine⟨_,rfl,b,rfl,⟨_,e_.of hb⟩,n9 (xs:=xs) (λi σ H'=>H'=H/\(∃z,σ=[some (.ref b),some (.str x),z])/\∀j,j<i->fs.names[j]? ≠some x) ⟨rfl,⟨_,rfl⟩,λj hj=>absurd hj (by omega)⟩ ?_ ?_ ?_⟩
 . rintro i σ H' _ ⟨rfl,_⟩;exact e_.of hb
 . rintro i v σ H' hv ⟨rfl,⟨z,rfl⟩,aa⟩;obtain⟨c,u,nm,k',rfl,ac,hc,hk⟩:=FA.get fs ab hv;have af:fs.names[i]? =some nm:=by rw[Fs.ky,ac];rfl
   refine⟨_,rfl,c,_,_,_,rfl,rfl,e_.of hc,rfl,_,rfl,rfl,_,rfl,iL (λcc=>?_) (λcc=>?_)⟩
   . have e:nm=x:=by
      have:=of_decide_eq_true cc;injection this
     subst e;have ek:=Fs.nz ae ac;rw[Y] at ek
     cases ek;exact⟨_,rfl,c,_,_,_,rfl,rfl,e_.of hc,rfl,q u hk hk.KY⟩
   . refine⟨rfl,⟨_,rfl⟩,λj hj=>?_⟩;by_cases e:j<i
     . exact aa j e
     . have:j=i:=by omega
       subst this;rw[af];intro z
       cases z;exact cc (decide_eq_true rfl)
 . rintro σ H' ⟨rfl,_,aa⟩;obtain⟨j,hj,e⟩:=Q0y (Fs.get_mem Y);exact absurd (by rw[Q05 hj,e]) (aa j (by rw[FA.len fs ab];exact hj))
theorem K0:gP ["value"] ["value"] (gC (top 14)):=gT
theorem Ef (T:Tb mg)(J:Dn K mg "is_pair" lL (top 14) L U):d_ P w K mg base f_ (1) L U lL (qN):=by
 refine J.F.ok K0 λvs H Q E h=>?_;obtain⟨a,x,y,rfl,Y,q⟩:=h;refine⟨rfl,λaa A outer s nd hr hu=>?_⟩;refine⟨_,(gm (gv (oQ (g7 jD (by rfl) T.jE boot_isinstance (a_ (pv 0) (a_ (jA (v:=.ty "tuple") rfl T.pK boot_tuple rfl) b_))) (qg (mI gX (g7 jC (by rfl) T.jc PySem.boot_len (a_ (pv 0) b_)) c_ (gE _)))))),?_⟩
 ac_rfl
 refine⟨_,rfl,_,_,_,true,rfl,.tup Y,rfl,true,rfl,i5 ?_⟩;exact⟨_,rfl,a,_,rfl,.inr (e_.of Y),rfl,q⟩
theorem K1:gP XS XS (gC (top 12)):=gT
theorem Eg (T:Tb mg)(J:Dn K mg "has_just" kh (top 12) L U):d_ P w K mg base f_ (1) L U kh (Ed):=by
 refine J.F.ok K1 λvs H Q E h=>?_;obtain⟨b,a,xs,kvs,fs,m,fp,rfl,hb,Y,ac,hx,ha,hO,hF,q⟩:=h;refine⟨rfl,λaf A outer s nd hr hu=>?_⟩;refine⟨_,(gm (gv (oQ (mI gX (g7 Cn (by rfl) T.jc PySem.boot_len (a_ (pv 1) b_)) (g7 jC (by rfl) T.jc PySem.boot_len (a_ (pv 0) b_)) (gE _)) (qg (g7 (rT rfl) (by rfl) T.su boot_all (a_ (kP (g:=(qi K 2 (mE (je 0) (mE (je 1) qh)))) (tt:=lD) (te:=_) (own:=["name","inner"]) rfl (kB (N:=XS) (sc:=gC (top 12))) (kN (pv 0)) (λ_ _ _ _ _=>(jU rfl (iH (g5 (i:=0) (show(["name","inner","fields","record"]:List Str).Nodup by decide +kernel) rfl (Or.inl rfl) (.inr rfl)) (iH (g5 (i:=1) (show(["name","inner","fields","record"]:List Str).Nodup by decide +kernel) rfl (Or.inl rfl) (.inr rfl)) jT)))) (λ_ _ _ _ _=>mP) (λ_ _ _ _ _=>(GQ (Cg hu (pv 0) (pv 3)) (by with_unfolding_all rfl)))) b_)))))),?_⟩
 ac_rfl
 have e1:kvs.length=xs.length:=by rw[gx.len hO,FA.len fs Y,hF.1]
 have ag:xs.length<=12:=by rw[FA.len fs Y];exact hx
 refine⟨_,rfl,a,_,rfl,ha,_,rfl,b,_,rfl,.inr (e_.of hb),rfl,_,rfl,?_⟩;rw[decide_eq_true (show V.int (kvs.length:Nat)=V.int (xs.length:Nat) by rw[e1])];refine i5 ?_;refine⟨_,rfl,b,rfl,⟨_,e_.of hb⟩,λi m ys H'=>H'=H/\m=xs.length - i/\i<=xs.length/\ys=(List.replicate i true).map V.bl,⟨xs.length,rfl,by simp,Q0d _,rfl⟩,?_⟩;rintro i m ys H' ⟨rfl,rfl,hi,rfl⟩;by_cases aa:i<xs.length
 . refine .inr ⟨⟨xs,xs[i],e_.of hb,by simp[aa]⟩,by rw[Q04,Q17];exact iB (by omega),λx H' y=>?_⟩;obtain⟨rfl,y⟩:=y;have hv:=y xs (e_.of hb);obtain⟨c,u,nm,k,rfl,ae,hc,hk⟩:=FA.get fs Y hv;obtain⟨d,hd,_⟩:=hF.2 _ _ (Fs.nz ac ae);obtain⟨v,f,ab,_⟩:=gx.val _ hO hd;refine⟨c,_,rfl,e_.of hc,rfl,_,_,rfl,_,_,rfl,rfl,rfl,yes (i5 ?_)⟩;refine⟨_,rfl,_,rfl,a,_,rfl,ip.k (k:=Sum.inr nm) ha,?_⟩;rw[ab];refine⟨xs.length - (i+1),by omega,rfl,rfl,aa,?_⟩;rw[List.replicate_succ',Q0m];rfl
 . refine .inl ⟨⟨xs,e_.of hb,Q19 aa⟩,λp hp=>⟨p,List.replicate i true,rfl,gi.of gu,?_⟩⟩
   have e:(List.replicate i true).all id=true:=by
    rw[Q1a];intro z hz;rw[Q3f hz];rfl
   rw[e];exact q _ (Same.new hp)
theorem K2:gP ["fields","record","name","inner","place"] XS (gC (top 11)):=gT
theorem Eh (n:Nat)(T:Tb mg)(J:Dn K mg "record_misfit" kh (top 11) L U)(Y:Dn K mg "has_just" kh (top 12) aa ab)(ac:d_ P w K mg base f_ (1) aa ab kh (Ed))(ae:Dn K mg "misfit" jm (top 10) af ag)(ah:d_ P w K mg base f_ (3 * n+3) af ag jm (m7 n)):d_ P w K mg base f_ (3 * n+4) L U kh (sW n):=by
 refine J.F.ok K2 λvs H Q E h=>?_;obtain⟨b,a,xs,kvs,fs,m,fp,rfl,hb,ai,aj,hx,ao,ha,hO,hF,ap,aq,q⟩:=h;refine⟨rfl,λar A outer s nd hr hu=>?_⟩
 refine⟨_,(gh (gF (PW.pt (jS (i7 (iG (g7 jD (by rfl) T.jE boot_isinstance (a_ (pv 1) (a_ (jA (v:=.ty "dict") rfl T.vG boot_dict rfl) b_))))) (jR (i7 (iG (gz ac hr Y (a_ (pv 0) (a_ (pv 1) b_)))))))) (gm (gv (iJ b_))) gH)
  (gh (jo PassesOwn.never rfl (kN (pv 0)) (jU rfl (iH (g5 (i:=2) nd rfl iA) (iH (g5 (i:=3) nd rfl iA) jT))) (gh (gD 4 nd (gz ah hr ae (a_ (pv 3) (a_ (jN hu (pv 1) (pv 2) (λ_ _=>rfl)) b_))))
  (gm (gF (gI lB (pv 4) i_ (gE _)) (gm (gv mQ)) gH))))
  (gm (gv i_)))),?_⟩
 ac_rfl
 refine⟨_,rfl,_,_,_,true,rfl,.dK ha,rfl,true,rfl,gY ?_⟩;refine⟨_,rfl,_,rfl,b,a,xs,kvs,fs,m,fp,rfl,hb,ai,aj,hx,ha,hO,hF,λH1 s1=>⟨true,rfl,gY ?_⟩⟩;refine⟨_,rfl,b,rfl,⟨_,e_.of (s1 _ _ hb)⟩,n9 (xs:=xs) (λi σ H'=>Same H H'/\∃x y z,σ=[some (.ref b),some (.ref a),x,y,z]) ⟨s1,_,_,_,rfl⟩ ?_ ?_ ?_⟩
 . rintro i σ H' _ ⟨s2,_⟩;exact e_.of (s2 _ _ hb)
 . rintro i v σ H' hv ⟨s2,x,y,z,rfl⟩;obtain⟨c,u,nm,k,rfl,ak,hc,hk⟩:=FA.get fs ai hv;obtain⟨d,hd,al⟩:=hF.2 _ _ (Fs.nz aj ak);obtain⟨e,f,am,an,_⟩:=gx.val _ hO hd;refine⟨c,_,rfl,e_.of (s2 _ _ hc),rfl,_,_,rfl,_,_,rfl,rfl,?_⟩;refine⟨_,rfl,_,rfl,_,rfl,a,e,rfl,(by have:=ip.k (k:=Sum.inr nm) (s2 _ _ ha);rw[am] at this;exact this),u,e,k,d,f,rfl,KA.mono (Tu.of s2) k hk,Fs.nB ao ak,Own.same s2 an,kZ.of al,Q0g (Ds.pH hd) ap,Ds.pQ aq hd,λH3 s3=>?_⟩;refine⟨_,rfl,rfl,_,rfl,?_⟩;rw[decide_eq_true rfl];refine gY ?_;exact⟨s2.trans s3,_,_,_,rfl⟩
 . rintro σ H' ⟨s2,_⟩;exact q _ s2
theorem K3:gP ["kind","rows","earlier","number","row","place"] ["kind","rows"] (gC (top 13)):=gT
theorem Ej (n:Nat)(T:Tb mg)(aa:Dn K mg "rows_misfit" oB (top 13) ab ac)(J:Dn K mg "record_misfit" kh (top 11) L U)(Y:d_ P w K mg base f_ (3 * n+4) L U kh (sW n))(ak:Dn K mg "rank" qI (top 19) av aw)(al:d_ P w K mg base f_ (1) av aw qI (sV)):d_ P w K mg base f_ (3 * n+5) ab ac oB (vY n):=by
 refine aa.F.ok K3 λvs H Q E h=>?_;obtain⟨pk,pb,a,xs,key,ag,fs,ys,rs,fl,rfl,aj,aK,aL,hW,ha,ao,ae,aA,aM,aN,aO,a3,q⟩:=h;refine⟨rfl,λa6 A outer s nd hr hu=>?_⟩;have aP:=hr.BP;unfold Kd.W at hW;obtain⟨aQ,aS,aT,ai,aq⟩:=hW
 refine⟨_,(gh (gF (i7 (iG (g7 jD (by rfl) T.jE boot_isinstance (a_ (pv 1) (a_ (jA (v:=.ty "list") rfl T.nI boot_list rfl) b_))))) (gm (gv (iJ b_))) gH)
  (gh (gD 2 nd nv)
  (gh (jo PassesOwn.never rfl (o8 rfl T.pJ (a_ (pv 1) b_)) (jU rfl (iH (g5 (i:=3) nd rfl iA) (iH (g5 (i:=4) nd rfl iA) jT))) (gh (gD 5 nd (gz Y hr J (a_ (gp (pv 0) c_) (a_ (pv 4) b_))))
  (gh (gF (gI lB (pv 5) i_ (gE _)) (gm (gv mQ)) gH)
  (gh (gF (PW.pt (qf (gI rJ (pv 3) c_ (gE _)) (qe (gI (JF aP) (gz al hr ak (a_ (pv 0) (a_ (pv 4) b_))) (gz al hr ak (a_ (pv 0) (a_ (iT (pv 1) (gy l5 (pv 3) c_)) b_))) (gE _))))) (gm (gv mQ)) gH)
  (gh (gF (uD (Cg hu (jN hu (pv 4) (gp (pv 0) c_) (λ_ _=>rfl)) (pv 2)) (by with_unfolding_all rfl)) (gm (gv mQ)) gH)
  (gm (l6 hu (pv 2) (jN hu (pv 4) (gp (pv 0) c_) (λ_ _=>rfl)) jk rfl)))))))
  (gm (gv i_))))),?_⟩
 ac_rfl
 refine⟨_,rfl,_,_,_,true,rfl,.lst ha,rfl,true,rfl,gY ?_⟩;intro p hp;have s0:Same H (upd H p (.dK [])):=Same.new hp;obtain⟨a4,a5⟩:=A3.len ao;refine⟨_,rfl,a,rfl,⟨_,gi.of (s0 _ _ ha)⟩,qM (xs:=ys) (λi σ H'=>∃x y z ek,σ=[some (.ref pk),some (.ref a),some (.ref p),x,y,z]/\Same H H'/\H' p=some (.dK ek)/\ek.map (·.1)=(rs.take i).map λm=>keyOf m key) ⟨_,_,_,[],rfl,s0,gu,rfl⟩ ?_ ?_ ?_⟩
 . intro i σ H' _ zq;obtain⟨x,y,z,ek,rfl,s2,_⟩:=zq;exact gi.of (s2 _ _ ha)
 . rintro i yv σ H' t hy ⟨x,y,z,ek,rfl,s2,aU,ay⟩ ht;have hi:i<ys.length:=(List.getElem?_eq_some_iff.mp hy).1;have st:Same H' (upd H' t (.tup [.int i,yv])):=Same.new ht;have s3:=s2.trans st
   have aB:∀j,j<ys.length->∃rr kvs fq,ys[j]? =some (.ref rr)/\H rr=some (.dK kvs)/\gx H kvs (rs.getD j .nil) fq/\rs.getD j .nil∈rs:=λj hj=>by
    have h:=A3.at (a0:=V.non) (b0:=Ds.nil) (c0:=[]) ao j hj;unfold Own at h;obtain⟨rr,kvs,fq,e,am,_,an⟩:=h;refine⟨rr,kvs,fq,?_,am,an,?_⟩
    . rw[<-e,Q0f,Q05 hj];rfl
    . rw[Q0f,Q05 (by omega)];exact Q1m _
   obtain⟨rr,kvs,fq,aC,am,an,af⟩:=aB i hi;rw[hy] at aC
   cases aC;have aD:upd H' t (.tup [.int i,.ref rr]) p=some (.dK ek):=st _ _ aU
   have gk:∀H4,Same H H4->ip H4 rr (.str key) (some (kV (keyOf (rs.getD i .nil) key))):=λH4 s4=>by
    have:=ip.k (k:=Sum.inr key) (s4 _ _ am);rw[an.qL (ae _ af).2 ai] at this;exact this
   refine⟨t,_,rfl,e_.of gu,rfl,_,_,rfl,_,_,rfl,rfl,?_⟩;refine⟨_,rfl,pk,_,_,_,rfl,rfl,e_.of (s3 _ _ aj),rfl,_,rfl,pb,rr,xs,kvs,fs,_,fq,rfl,s3 _ _ aK,FA.mono (Tu.of s3) fs aL,aQ,aS,aT,s3 _ _ am,gx.same s3 an,ae _ af,aN _ af,aO _ af,λH4 s4=>?_⟩;have ah:=s3.trans s4;refine⟨_,rfl,rfl,_,rfl,?_⟩;rw[decide_eq_true rfl];refine gY ?_
   have ar:h6 ek (keyOf (rs.getD i .nil) key)=none:=by
    have sv:=D_ ay (keyOf (rs.getD i .nil) key)
    have:nF key (rs.take i) (keyOf (rs.getD i .nil) key)=false:=by
     cases z:nF key (rs.take i) (keyOf (rs.getD i .nil) key) with
     |false=>rfl
     |true=>
      obtain⟨m,hm,e⟩:=List.any_eq_true.mp z;have e:=of_decide_eq_true e;obtain⟨j,hj,ej⟩:=Q0y hm;rw[Q0p] at hj;rw[Q23] at ej;have aE:i<rs.length:=by omega
      have e2:rs.getD i .nil=rs[i]:=by rw[Q0f,Q05 aE];rfl
      have:=List.pairwise_iff_getElem.mp (List.pairwise_map.mp aM) j i (by omega) aE (by omega);rw[ej,<-e2] at this;exact absurd e this
    rw[this] at sv
    cases z:h6 ek (keyOf (rs.getD i .nil) key) with
    |none=>rfl
    |some o=>rw[z] at sv;cases sv
   have fin:∀H5,Same (upd H' t (.tup [.int i,.ref rr])) H5->∀(DD:Ends),DD.nx=(λσ H'=>∃x y z ek,σ=[some (.ref pk),some (.ref a),some (.ref p),x,y,z]/\Same H H'/\H' p=some (.dK ek)/\ek.map (·.1)=(rs.take (i+1)).map λm=>keyOf m key)->∀z':Option V,
    DD.nx [some (.ref pk),some (.ref a),some (.ref p),some (.int i),some (.ref rr),z'] (upd H5 p (.dK (ek++[(keyOf (rs.getD i .nil) key,.bl true)]))):=λH5 s5 DD aV z'=>by
    rw[aV];refine⟨_,_,_,_,rfl,λc o e=>?_,gu,?_⟩
    . rw[gj (gB e hp)];exact s5 _ _ (s3 _ _ e)
    . rw[Q0m,ay,Q0t,Q0m];congr 1;rw[Q05 (by omega),Q0f,Q05 (by omega)];rfl
   have ax:ek.length<sizeLine:=by
    have e1:=congrArg List.length ay;rw[Q04,Q04,Q0p] at e1;have:=hr.BP;exact iB (by omega)
   refine⟨_,rfl,_,_,rfl,rfl,_,rfl,iL (λc=>?_) (λc=>gY ?_)⟩
   . have a7:0<i:=by
      have:(0:Int)<(i:Int):=of_decide_eq_true c;omega
     obtain⟨rp,aW,aX,aI,aY,aJ,ap⟩:=aB (i - 1) (by omega);refine⟨_,rfl,_,rfl,pk,rr,pb,key,ag,fs,kvs,_,fq,rfl,ah _ _ aj,ah _ _ am,gx.same ah an,(ae _ af).2,ai,aq,λt1 aZ=>?_⟩;have az:Same H4 (upd H4 t1 (.tup ((rankOf key ag (rs.getD i .nil)).map kV))):=Same.new aZ;have s5:=ah.trans az
     have a1:iY ys ((i:Int) - 1)=some (.ref rp):=by
      have e:(i:Int) - 1=((i - 1:Nat):Int):=by omega
      rw[e];exact iZ aI
     refine⟨_,rfl,_,rfl,_,rfl,_,_,rfl,rfl,a,_,_,_,rfl,rfl,gi.of (s5 _ _ ha),a1,pk,rp,pb,key,ag,fs,aW,_,aX,rfl,s5 _ _ aj,s5 _ _ aY,gx.same s5 aJ,(ae _ ap).2,ai,aq,λt2 qP=>?_⟩;have au:Same (upd H4 t1 (.tup ((rankOf key ag (rs.getD i .nil)).map kV))) (upd (upd H4 t1 (.tup ((rankOf key ag (rs.getD i .nil)).map kV))) t2 (.tup ((rankOf key ag (rs.getD (i - 1) .nil)).map kV))):=Same.new qP;have s6:=s5.trans au
     have a2:iz (rankOf key ag (rs.getD (i - 1) .nil)) (rankOf key ag (rs.getD i .nil))=true:=by
      have ge:∀j (h:j<rs.length),rs.getD j .nil=rs[j]:=λj h=>by rw[Q0f,Q05 h];rfl
      rw[ge (i - 1) (by omega),ge i (by omega)];exact List.pairwise_iff_getElem.mp aA (i - 1) i (by omega) (by omega) (by omega)
     refine⟨t1,t2,_,_,rfl,rfl,e_.of (au _ _ gu),e_.of gu,(D6 (ae _ af).2 ai aq).trans (D6 (ae _ ap).2 ai aq).symm,_,rfl,?_⟩;rw[a2];refine gY ?_;have aG:=au _ _ (az _ _ (s4 _ _ aD));refine⟨_,rfl,_,rfl,pk,_,_,_,rfl,rfl,e_.of (s6 _ _ aj),rfl,rr,_,rfl,gk _ s6,_,rfl,p,_,rfl,ip.k aG,_,rfl,?_⟩;rw[ar];refine gY ?_;refine⟨_,rfl,_,rfl,_,rfl,pk,_,_,_,rfl,rfl,e_.of (s6 _ _ aj),rfl,rr,_,rfl,gk _ s6,p,_,rfl,j8.k aG ax,?_⟩;rw[l_ ar];exact fin _ (s4.trans (az.trans au)) _ rfl _
   . have aH:=s4 _ _ aD;refine⟨_,rfl,_,rfl,pk,_,_,_,rfl,rfl,e_.of (ah _ _ aj),rfl,rr,_,rfl,gk _ ah,_,rfl,p,_,rfl,ip.k aH,_,rfl,?_⟩;rw[ar];refine gY ?_;refine⟨_,rfl,_,rfl,_,rfl,pk,_,_,_,rfl,rfl,e_.of (ah _ _ aj),rfl,rr,_,rfl,gk _ ah,p,_,rfl,j8.k aH ax,?_⟩;rw[l_ ar];exact fin _ s4 _ rfl _
 . intro σ H' zq;obtain⟨x,y,z,ek,rfl,s2,_⟩:=zq;exact q _ s2
theorem v3:gP ["kind","tree","place","number","arm"] ["kind","tree"] (gC (top 15)):=gT
theorem K4 (T:Tb mg)(J:Dn K mg "tree_misfit" jW (top 15) L U):d_ P w K mg base f_ (3 * 0+2) L U jW (qO 0):=by
 refine J.F.ok v3 λvs H Q E h=>?_;obtain⟨a,u,v,k,d,fp,rfl,_,_,_,_,_,Y,_⟩:=h;refine⟨rfl,λaa A outer s nd hr hu=>?_⟩;exact absurd Y (by have:=d.jr;omega)
theorem K5 (n:Nat)(T:Tb mg)(J:Dn K mg "tree_misfit" jW (top 15) L U)(Y:d_ P w K mg base f_ (3 * n+2) L U jW (qO n))(aa:Dn K mg "is_pair" lL (top 14) ab ac)(ae:d_ P w K mg base f_ (1) ab ac lL (qN))(af:Dn K mg "misfit" jm (top 10) ag ah)(ai:d_ P w K mg base f_ (3 * n+3) ag ah jm (m7 n)):d_ P w K mg base f_ (3 * (n+1)+2) L U jW (qO (n+1)):=by
 refine J.F.ok v3 λvs H Q E h=>?_;obtain⟨a,u,v,k,d,fp,rfl,ha,hk,hW,hO,lX,ap,al,q⟩:=h;refine⟨rfl,λaz A outer s nd hr hu=>?_⟩;obtain⟨x,y,t,as,rfl,aq,ar⟩:=lX.shape;obtain⟨c,v1,v2,f1,f2,rfl,hc,rfl,au,am⟩:=hO.pair;unfold Own at am;obtain⟨pl,ys,fq,rfl,aj,rfl,av⟩:=am;simp only[D.dep,Ds.dep] at ap;unfold D.Sm Ds.Sm at al;obtain⟨_,aw,an⟩:=al;unfold Ds.Sm at an;have ao:=an.1;unfold D.Sm at ao
 refine⟨_,(gh (gF (PW.pt (jS (i7 (iG (gz ae hr aa (a_ (pv 1) b_)))) (jR (i7 (iG (g7 jD (by rfl) T.jE boot_isinstance (a_ (gp (pv 1) c_) (a_ (jA (v:=.ty "list") rfl T.nI boot_list rfl) b_)))))))) (gm (gv (iJ b_))) gH)
  (gh (gD 2 nd (gz ai hr af (a_ (gp (pv 0) c_) (a_ (gp (pv 1) c_) b_))))
  (gh (gF (gI lB (pv 2) i_ (gE _)) (gm (gv mQ)) gH)
  (gh (jo PassesOwn.never rfl (o8 rfl T.pJ (a_ (gp (pv 1) c_) b_)) (jU rfl (iH (g5 (i:=3) nd rfl iA) (iH (g5 (i:=4) nd rfl iA) jT))) (gh (gD 2 nd (gz Y hr J (a_ (pv 0) (a_ (pv 4) b_))))
  (gm (gF (gI lB (pv 2) i_ (gE _)) (gm (gv mQ)) gH))))
  (gm (gv i_)))))),?_⟩
 ac_rfl
 refine⟨_,rfl,c,v1,.ref pl,rfl,hc,true,rfl,gY ?_⟩;refine⟨_,rfl,c,_,_,_,rfl,rfl,e_.of hc,rfl,_,_,_,true,rfl,.lst aj,rfl,true,rfl,gY ?_⟩;refine⟨_,rfl,a,_,_,_,rfl,rfl,e_.of ha,rfl,_,rfl,c,_,_,_,rfl,rfl,e_.of hc,rfl,u,v1,k,t,f1,rfl,hk,hW,au,kZ.of0 aq,by omega,aw,λH1 s1=>?_⟩;refine⟨_,rfl,rfl,_,rfl,?_⟩;rw[decide_eq_true rfl];refine gY ?_;refine⟨_,rfl,c,_,_,_,rfl,rfl,e_.of (s1 _ _ hc),rfl,pl,rfl,⟨_,gi.of (s1 _ _ aj)⟩,qM (xs:=ys) (λi σ H'=>Same H H'/\∃x y z,σ=[some (.ref a),some (.ref c),x,y,z]) ⟨s1,_,_,_,rfl⟩ ?_ ?_ ?_⟩
 . rintro i σ H' _ ⟨s2,_⟩;exact gi.of (s2 _ _ aj)
 . rintro i yv σ H' tt hy ⟨s2,x,y,z,rfl⟩ ax;have st:Same H' (upd H' tt (.tup [.int i,yv])):=Same.new ax;have s3:=s2.trans st;obtain⟨d',f,ak,ay,_⟩:=gn.get _ av hy;have aA:=Ds.jw ak;refine⟨tt,_,rfl,e_.of gu,rfl,_,_,rfl,_,_,rfl,rfl,?_⟩;refine⟨_,rfl,_,rfl,a,u,yv,k,d',f,rfl,s3 _ _ ha,KA.mono (Tu.of s3) k hk,hW,Own.same s3 ay,i6.at ar ak,by omega,Ds.kD ao.2 ak,λH4 s4=>?_⟩;refine⟨_,rfl,rfl,_,rfl,?_⟩;rw[decide_eq_true rfl];refine gY ?_;exact⟨s3.trans s4,_,_,_,rfl⟩
 . rintro σ H' ⟨s2,_⟩;exact q _ s2
theorem K6:gP ["fields","value","inner","place"] ["fields","value"] (gC (top 16)):=gT
theorem El (n:Nat)(T:Tb mg)(J:Dn K mg "either_misfit" oE (top 16) L U)(Y:Dn K mg "is_pair" lL (top 14) aa ab)(ac:d_ P w K mg base f_ (1) aa ab lL (qN))(ae:Dn K mg "kind_at" oA (top 6) af ag)(ah:d_ P w K mg base f_ (1) af ag oA (vX))(ai:Dn K mg "misfit" jm (top 10) aj ak)(al:d_ P w K mg base f_ (3 * n+3) aj ak jm (m7 n)):d_ P w K mg base f_ (3 * n+4) L U oE (vZ n):=by
 refine J.F.ok K6 λvs H Q E h=>?_;obtain⟨b,t,x,v,xs,fs,d,fp,rfl,hb,ao,ap,aq,ht,hO,hE,ar,au,q⟩:=h;refine⟨rfl,λaw A outer s nd hr hu=>?_⟩
 refine⟨_,(gh (gF (i7 (iG (gz ac hr Y (a_ (pv 1) b_)))) (gm (gv (iJ b_))) gH)
  (gh (gD 2 nd (gz ah hr ae (a_ (pv 0) (a_ (gp (pv 1) c_) b_))))
  (gh (gF (gI BG (pv 2) i_ (gE _)) (gm (gv (iJ b_))) gH)
  (gh (gD 3 nd (gz al hr ai (a_ (pv 2) (a_ (gp (pv 1) c_) b_))))
  (gh (gF (gI lB (pv 3) i_ (gE _)) (gm (gv mQ)) gH)
  (gm (gv i_))))))),?_⟩
 ac_rfl
 obtain⟨k,am,an⟩:=vV hE;refine⟨_,rfl,t,_,_,rfl,ht,true,rfl,gY ?_⟩;refine⟨_,rfl,_,rfl,t,_,_,_,rfl,rfl,e_.of ht,rfl,b,x,xs,fs,k,rfl,hb,ao,ap,am,λu hu av=>?_⟩;refine⟨_,rfl,rfl,_,rfl,?_⟩;rw[decide_eq_false av];refine gY ?_;refine⟨_,rfl,_,rfl,t,_,_,_,rfl,rfl,e_.of ht,rfl,u,v,k,d,fp,rfl,hu,Fs.vW aq am,hO,kZ.of an,ar,au,λH1 s1=>?_⟩;refine⟨_,rfl,rfl,_,rfl,?_⟩;rw[decide_eq_true rfl];refine gY ?_;exact q _ s1
theorem v5:gP ["kind","value","form"] ["kind","value"] (gC (top 10)):=gT
theorem K7 (T:Tb mg)(J:Dn K mg "misfit" jm (top 10) L U):d_ P w K mg base f_ (3 * 0+3) L U jm (m7 0):=by
 refine J.F.ok v5 λvs H Q E h=>?_;obtain⟨kv,v,k,d,fp,rfl,_,_,_,_,Y,_⟩:=h;refine⟨rfl,λaa A outer s nd hr hu=>?_⟩;exact absurd Y (by have:=d.jr;omega)
theorem K8 (n:Nat)(T:Tb mg)(ao:Dn K mg "misfit" jm (top 10) ap aq)(J:Dn K mg "record_misfit" kh (top 11) L U)(Y:d_ P w K mg base f_ (3 * n+4) L U kh (sW n))(af:Dn K mg "rows_misfit" oB (top 13) ag ah)(ai:d_ P w K mg base f_ (3 * n+5) ag ah oB (vY n))(aj:Dn K mg "tree_misfit" jW (top 15) ak al)(am:d_ P w K mg base f_ (3 * (n+1)+2) ak al jW (qO (n+1)))(aa:Dn K mg "either_misfit" oE (top 16) ab ac)(ae:d_ P w K mg base f_ (3 * n+4) ab ac oE (vZ n)):
 d_ P w K mg base f_ (3 * (n+1)+3) ap aq jm (m7 (n+1)):=by
 refine ao.F.ok v5 λvs H Q E h=>?_;obtain⟨kv,v,k,d,fp,rfl,hk,hW,hO,hF,av,an,q⟩:=h;refine⟨rfl,λaD A outer s nd hr hu=>?_⟩
 refine⟨_,(gh (gD 2 nd (gp (pv 0) c_))
  (gh (gF (gI gX (pv 2) gK (gE _)) (gm (gv (oR (PW.pt (qf (iG (g7 jD (by rfl) T.jE boot_isinstance (a_ (pv 1) (a_ (jA (v:=.ty "int") rfl T.vE boot_int rfl) b_)))) (qe (i7 (iG (g7 jD (by rfl) T.jE boot_isinstance (a_ (pv 1) (a_ (jA (v:=.ty "bool") rfl T.vF boot_bool rfl) b_)))))))) i_ (iJ b_)))) gH)
  (gh (gF (gI gX (pv 2) gK (gE _)) (gm (gv (oR (iG (g7 jD (by rfl) T.jE boot_isinstance (a_ (pv 1) (a_ (jA (v:=.ty "str") rfl T.sx boot_str rfl) b_)))) i_ (iJ b_)))) gH)
  (gh (gF (gI gX (pv 2) gK (gE _)) (gm (gv (gz Y hr J (a_ (gp (pv 0) c_) (a_ (pv 1) b_))))) gH)
  (gh (gF (gI gX (pv 2) gK (gE _)) (gm (gv (gz ai hr af (a_ (pv 0) (a_ (pv 1) b_))))) gH)
  (gh (gF (gI gX (pv 2) gK (gE _)) (gm (gv (gz am hr aj (a_ (pv 0) (a_ (pv 1) b_))))) gH)
  (gm (gv (gz ae hr aa (a_ (gp (pv 0) c_) (a_ (pv 1) b_))))))))))),?_⟩
 ac_rfl
 cases k with
 |num=>
  unfold KA at hk;obtain⟨a,rfl,ha⟩:=hk;change gU _ _ at hF;unfold gU at hF;obtain⟨z,rfl⟩:=hF;unfold Own at hO;obtain⟨rfl,rfl⟩:=hO;refine⟨_,rfl,a,_,_,_,rfl,rfl,e_.of ha,rfl,?_⟩;refine lE rfl (by decide +kernel) ?_;refine⟨_,rfl,_,_,_,true,rfl,.int z,rfl,true,rfl,i5 ?_⟩;refine⟨_,rfl,_,_,_,false,rfl,.int z,rfl,false,rfl,i5 ?_⟩;exact q _ (Same.refl _)
 |ix=>
  unfold KA at hk;obtain⟨a,rfl,ha⟩:=hk;change gU _ _ at hF;unfold gU at hF;obtain⟨z,rfl⟩:=hF;unfold Own at hO;obtain⟨rfl,rfl⟩:=hO;refine⟨_,rfl,a,_,_,_,rfl,rfl,e_.of ha,rfl,?_⟩;refine iC rfl (by decide +kernel) ?_;refine lE rfl (by decide +kernel) ?_;refine⟨_,rfl,_,_,_,true,rfl,.str z,rfl,true,rfl,i5 ?_⟩;exact q _ (Same.refl _)
 |gA fs=>
  unfold KA at hk;obtain⟨a,b,xs,rfl,ha,hb,ar⟩:=hk;obtain⟨m,rfl,hF⟩:=hF;unfold Own at hO;obtain⟨c,kvs,fq,rfl,hc,rfl,hO⟩:=hO;unfold Kd.W at hW;unfold D.Sm at an;simp only[D.dep] at av;refine⟨_,rfl,a,_,_,_,rfl,rfl,e_.of ha,rfl,?_⟩;refine iC rfl (by decide +kernel) ?_;refine iC rfl (by decide +kernel) ?_;refine lE rfl (by decide +kernel) ?_;exact⟨_,rfl,a,_,_,_,rfl,rfl,e_.of ha,rfl,_,rfl,b,c,xs,kvs,fs,m,fq,rfl,hb,ar,hW.1,hW.2.1,hW.2.2,hc,hO,hF,by omega,an.2,q⟩
 |rows key aA fs=>
  unfold KA at hk;obtain⟨a,b,xs,rfl,ha,hb,ar⟩:=hk;obtain⟨rs,rfl,az,aw,aB⟩:=hF;unfold Own at hO;obtain⟨c,ys,fq,rfl,hc,rfl,hO⟩:=hO;obtain⟨fl,au,rfl⟩:=gn.rows hO;unfold D.Sm at an;simp only[D.dep] at av;refine⟨_,rfl,a,_,_,_,rfl,rfl,e_.of ha,rfl,?_⟩;refine iC rfl (by decide +kernel) ?_;refine iC rfl (by decide +kernel) ?_;refine iC rfl (by decide +kernel) ?_;refine lE rfl (by decide +kernel) ?_;refine⟨_,rfl,_,rfl,a,b,c,xs,key,aA,fs,ys,rs,fl,rfl,ha,hb,ar,hW,hc,au,az,aw,aB,λm hm=>?_,λm hm=>?_,?_,q⟩
  . have:=DZ m hm;omega
  . have:=DY an.2 m hm;unfold D.Sm at this;exact this.2
  . have h1:=(A3.len au).1;have h2:=an.1;rw[vS] at h2;omega
 |tree k=>
  unfold KA at hk;obtain⟨a,u,rfl,ha,hu⟩:=hk;change Tree _ _ at hF;unfold Kd.W at hW;refine⟨_,rfl,a,_,_,_,rfl,rfl,e_.of ha,rfl,?_⟩;refine iC rfl (by decide +kernel) ?_;refine iC rfl (by decide +kernel) ?_;refine iC rfl (by decide +kernel) ?_;refine iC rfl (by decide +kernel) ?_;refine lE rfl (by decide +kernel) ?_;exact⟨_,rfl,_,rfl,a,u,v,k,d,fp,rfl,ha,hu,hW,hO,hF,av,an,q⟩
 |iP fs=>
  unfold KA at hk;obtain⟨a,b,xs,rfl,ha,hb,ar⟩:=hk;change gU _ _ at hF;unfold gU at hF;obtain⟨x,v',rfl,hE⟩:=hF;obtain⟨c,v1,v2,f1,f2,rfl,hc,rfl,ax,aC⟩:=hO.pair;unfold Own at ax;obtain⟨rfl,rfl⟩:=ax;unfold Kd.W at hW;simp only[D.dep,Ds.dep] at av;unfold D.Sm Ds.Sm at an;obtain⟨_,aE,ay⟩:=an;unfold Ds.Sm at ay;refine⟨_,rfl,a,_,_,_,rfl,rfl,e_.of ha,rfl,?_⟩;refine iC rfl (by decide +kernel) ?_;refine iC rfl (by decide +kernel) ?_;refine iC rfl (by decide +kernel) ?_;refine iC rfl (by decide +kernel) ?_;refine iC rfl (by decide +kernel) ?_;exact⟨_,rfl,a,_,_,_,rfl,rfl,e_.of ha,rfl,_,rfl,b,c,x,v2,xs,fs,v',f2,rfl,hb,ar,hW.1,hW.2.2.2,hc,aC,hE,by omega,ay.1,q⟩
theorem Em (T:Tb mg)(Y:Dn K mg "misfit" jm (top 10) ai aj)(J:Dn K mg "record_misfit" kh (top 11) ak al)(ac:Dn K mg "has_just" kh (top 12) aq ar)(aa:Dn K mg "rows_misfit" oB (top 13) ao ap)(ah:Dn K mg "rank" qI (top 19) az aA)(L:Dn K mg "tree_misfit" jW (top 15) af ag)(ab:Dn K mg "is_pair" lL (top 14) au av)(U:Dn K mg "either_misfit" oE (top 16) am an)(ae:Dn K mg "kind_at" oA (top 6) aw ax):∀n:Nat,d_ P w K mg base f_ (3 * n+3) ai aj jm (m7 n)/\d_ P w K mg base f_ (3 * n+2) af ag jW (qO n)
 |0=>⟨K7 T Y,K4 T L⟩
 |n+1=>by
  obtain⟨M,Tr⟩:=Em T Y J ac aa ah L ab U ae n;have Ip:=Ef (P:=P) (w:=w) (base:=base) T ab;have R:=Eh n T J ac (Eg T ac) Y M;have Ro:=Ej n T aa J R ah (D8 T ah);have ay:=K5 n T L Tr ab Ip Y M;have Ei:=El n T U ab Ip ae (Ee T ae) Y M;exact⟨K8 n T Y J R aa Ro L ay U Ei,ay⟩
def sX (J:It) (H:Hp) (xs:List V):Prop:=(∀i x,xs[i]? =some x->J.go i H)/\(∀i x H',J.l4 i H x H'->H'=H/\xs[i]? =some x)/\J.stop xs.length H
theorem sY {K:W.Frag}{H:Hp}{a:Addr}{xs:List V}(h:e_ K H a xs):sX (oU K a) H xs:=⟨λ_ _ e=>⟨_,_,h,e⟩,λ_ _ _ y=>⟨y.1,y.2 _ h⟩,_,h,Q00 _⟩
theorem En {K:W.Frag}{H:Hp}{a:Addr}{xs:List V}(h:gi K H a xs):sX (oS K a) H xs:=⟨λ_ _ e=>⟨_,_,h,e⟩,λ_ _ _ y=>⟨y.1,y.2 _ h⟩,_,h,Q00 _⟩
def CW (F:Nat->List V) (n:Nat) (H:Hp) (i m:Nat) (ys:List V) (H':Hp):Prop:=m=n - i/\i<=n/\ys=F i/\(F i).length<=i/\H'=H
theorem qQ {J:It}{H:Hp}{xs:List V}{S:List V->Hp->Prop}{C:(Nat->Nat->List V->Hp->Prop)->Nat->Nat->List V->V->Hp->Prop}(hJ:sX J H xs)(F:Nat->List V)(aa:xs.length<=1000)
 (q:S (F xs.length) H) (step:∀i x,xs[i]? =some x->(∀y,F (i+1)=F i++[y]->∃Y,Y<xs.length - i/\CW F xs.length H (i+1) Y (F i++[y]) H)->(F (i+1)=F i->∃Y,Y<xs.length - i/\CW F xs.length H (i+1) Y (F i) H)->C (CW F xs.length H) i (xs.length - i) (F i) x H) (h0:F 0=[]:=by rfl):
 ∃W:Nat->Nat->List V->Hp->Prop,(∃m,W 0 m [] H)/\∀i m ys H',W i m ys H'->(J.stop i H'/\S ys H')\/(J.go i H'/\ys.length<sizeLine/\∀x U,J.l4 i H' x U->C W i m ys x U):=by
 refine⟨CW F xs.length H,⟨_,rfl,Q0d _,h0.symm,by rw[h0];exact Q00 0,rfl⟩,?_⟩;rintro i m ys H' ⟨rfl,hi,rfl,hl,rfl⟩;by_cases L:i<xs.length
 . refine .inr ⟨hJ.1 i _ (Q05 L),iB (by omega),λx U y=>?_⟩;obtain⟨rfl,hx⟩:=hJ.2.1 _ _ _ y;exact step i x hx (λy e=>⟨_,Q3g _ _ L,rfl,L,e.symm,by rw[e,Q09];exact Q2o hl,rfl⟩) (λe=>⟨_,Q3g _ _ L,rfl,L,e.symm,by rw[e];omega,rfl⟩)
 . cases Nat.le_antisymm hi (Q19 L);exact .inl ⟨hJ.2.2,q⟩
def sZ (tu:Bool) (K:W.Frag) (H:Hp) (a:Addr) (xs:List V):Prop:=match tu with|true=>e_ K H a xs|false=>gi K H a xs
def Eo (tu:Bool) (K:W.Frag) (tl:TE):TI:=match tu with|true=>Bw K tl|false=>Bv K tl
theorem K9 (tu:Bool){X:Cx}{tg l:Expr}{tl:TE}(hl:PE X l tl):PI X tg l (Eo tu X.K tl):=by
 cases tu
 . exact mF hl
 . exact kN hl
noncomputable def Ep (tu:Bool) (xs:List V):HO:=match tu with|true=>.tup xs|false=>.lst xs
theorem sZ.of {tu:Bool}{K:W.Frag}{H:Hp}{a:Addr}{xs:List V}(h:H a=some (Ep tu xs)):sZ tu K H a xs:=by
 cases tu
 . exact gi.of h
 . exact e_.of h
theorem K_ {tu:Bool}{K:W.Frag}{tl:TE}{σ:St}{H:Hp}{a:Addr}{xs:List V}{R:It->Hp->Prop}(L:sZ tu K H a xs)(h:∀J,sX J H xs->R J H)(U:∀Q:VK,Q (.ref a) H->tl σ H Q):Eo tu K tl σ H R:=by
 cases tu
 . exact U _ ⟨a,rfl,⟨_,L⟩,h _ (En L)⟩
 . exact U _ ⟨a,rfl,⟨_,L⟩,h _ (sY L)⟩
theorem take_add {α:Type}{l:List α}{i:Nat}{x:α}(h:l[i]? =some x):l.take (i+1)=l.take i++[x]:=by
 rw[Q0t,h];rfl
theorem Er {α J:Type}{l:List α}{p:α->Bool}{f:α->J}{i:Nat}{x:α}(h:l[i]? =some x)(c:p x=true):((l.take (i+1)).filter p).map f=((l.take i).filter p).map f++[f x]:=by
 rw[take_add h,Q3h,Q1g,if_pos c,Q0m];rfl
theorem Es {α J:Type}{l:List α}{p:α->Bool}{f:α->J}{i:Nat}{x:α}(h:l[i]? =some x)(c:¬p x=true):((l.take (i+1)).filter p).map f=((l.take i).filter p).map f:=by
 rw[take_add h,Q3h,Q1g,if_neg c,List.filter_nil,Q0s]
theorem Et:∀{l:List Ds}{i:Nat}{d:D},(jb l).at i=some d->∃m∈l,d=.dct m
 |[],_,_,h=>by cases h
 |m::r,0,_,h=>by cases h;exact⟨m,Q02,rfl⟩
 |m::r,i+1,d,h=>by
  obtain⟨J,h1,h2⟩:=Et (l:=r) (i:=i) h;exact⟨J,Q06 _ h1,h2⟩
theorem Fs.Eu:∀{fs:Fs}{x:Str}{k:Kd},fs.get x=some k->∃j,fs.at j=some (x,k)
 | .nil,_,_,h=>by cases h
 | .cons y q r,x,k,h=>by
   have h:(if x=y then some q else r.get x)=some k:=h;by_cases e:x=y
   . rw[if_pos e] at h
     cases h;exact⟨0,by rw[e];rfl⟩
   . rw[if_neg e] at h;obtain⟨j,J⟩:=Fs.Eu h;exact⟨j+1,J⟩
theorem Fs.La {fs:Fs}{i j:Nat}{x:Str}{k J:Kd}(L:fs.names.Nodup)(h1:fs.at i=some (x,k))(h2:fs.at j=some (x,J)):i=j:=by
 have U:fs.names[i]? =some x:=by rw[Fs.ky,h1];rfl
 have Y:fs.names[j]? =some x:=by rw[Fs.ky,h2];rfl
 obtain⟨l1,q1⟩:=List.getElem?_eq_some_iff.mp U;obtain⟨l2,q2⟩:=List.getElem?_eq_some_iff.mp Y;exact(Q1v L).mp (q1.trans q2.symm)
theorem v7 (i:Nat):(List.replicate i true).all id=true:=by
 rw[Q1a];intro z J;rw[Q3f J];rfl
def v8 (fs:Fs) (J L:Ds):Prop:=J.names.length=fs.names.length/\∀x k,fs.get x=some k->∃e,J.get x=some e/\L.get x=some e/\gU k e
def kE (k:Kd) (U Y:D):Prop:=match k with
 | .gA fs=>∃J L,U=.dct J/\Y=.dct L/\v8 fs J L
 | .rows _ _ fs=>∃x1 x2:Ds,U=.lst x1/\Y=.lst x2/\x1.len=x2.len/\∀i e1 e2,x1.at i=some e1->x2.at i=some e2->∃J L,e1=.dct J/\e2=.dct L/\v8 fs J L
 |k=>U=Y/\gU k U
theorem me.Ew {fs:Fs}{m:Ds}(h:me fs m):v8 fs m m:=⟨h.1,λx k J=>let⟨e,h1,h2⟩:=h.2 x k J;⟨e,h1,h1,h2⟩⟩
theorem kE.Lb {k:Kd}{d:D}(h:kj k d):kE k d d:=by
 cases k with
 |gA fs=>
  obtain⟨m,e,hF⟩:=h;exact⟨m,m,e,e,hF.Ew⟩
 |rows key L fs=>
  obtain⟨U,e,hF,h1,h2⟩:=h;refine⟨_,_,e,e,rfl,λi Y e2 h1 h2=>?_⟩;rw[h1] at h2
  cases h2;obtain⟨m,J,rfl⟩:=Et h1;exact⟨m,m,rfl,rfl,(hF m J).Ew⟩
 |_=>exact⟨rfl,h⟩
theorem kE.of {k:Kd}{d:D}(h:gU k d):kE k d d:=kE.Lb (kj.of h)
inductive kb (R:D->D->Prop):D->D->Prop
 |mk {x y x' y':Str} {t t':D} {as as':Ds}:R t t'->as.len=as'.len->(∀i d d',as.at i=some d->as'.at i=some d'->kb R d d')->kb R (.tup (.cons x t (.cons y (.lst as) .nil))) (.tup (.cons x' t' (.cons y' (.lst as') .nil)))
theorem kb.shape {R:D->D->Prop}{d d':D}(h:kb R d d'):∃x y L U t t' as J,d=.tup (.cons x t (.cons y (.lst as) .nil))/\d'=.tup (.cons L t' (.cons U (.lst J) .nil))/\R t t'/\as.len=J.len/\∀i d d',Ds.at as i=some d->Ds.at J i=some d'->kb R d d':=by
 cases h with
 |mk h1 h2 Y=>exact⟨_,_,_,_,_,_,_,_,rfl,rfl,h1,h2,Y⟩
theorem kb.refl {R:D->D->Prop}{P:D->Prop}(hp:∀t,P t->R t t){d:D}(h:Tree P d):kb R d d:=
 Tree.ind (M:=λd=>kb R d d) (λ_ _ _ _ h1 h2=>.mk (hp _ h1) rfl λi d d' J L=>by
  rw[J] at L
  cases L;exact(h2 i d J).2) _ d (Q00 _) h
def AL (k:Kd) (J L:D):Prop:=match k with
 | .tree k=>kb (kE k) J L
 |k=>kE k J L
theorem AL.of0 {k:Kd}{J L:D}(h:kE k J L):AL k J L:=by
 cases k with
 |tree k=>
  obtain⟨rfl,h⟩:=h;unfold gU at h;exact kb.refl (λt ht=>kE.of ht) h
 |_=>exact h
theorem AL.of {k:Kd}{d:D}(h:gU k d):AL k d d:=AL.of0 (kE.of h)
def pS (n:Nat):Sp:=λvs H Q _=>∃J L U k d Y f1 f2,vs=[J,L,U]/\KA H J k/\k.W/\Own H L d f1/\Own H U Y f2/\AL k d Y/\d.dep<=n/\d.Sm/\∀H',Same H H'->Q (.bl true) H'
theorem Lc:gP XH XZ (gC (top 46)):=gT
theorem Ld (n:Nat)(T:Tb mg)(J:Dn K mg "_law_alike" mW (top 46) aa ab)(L:d_ P w K mg base f_ (n+1) aa ab mW (pS n)):d_ P w K mg base f_ ((n+1)+1) aa ab mW (pS (n+1)):=by
 refine J.F.ok Lc λvs H Q E h=>?_;obtain⟨kv,v1,v2,k,d,d2,f1,f2,rfl,hk,hW,ag,ah,hF,ar,aj,q⟩:=h;refine⟨rfl,λa8 A outer s nd hr hu=>?_⟩
 refine⟨_,(gh (gF (gI gX (gp (pv 0) c_) gK (gE _)) (gm (gv (oQ (g7 jD (by rfl) T.jE boot_isinstance (a_ (pv 1) (a_ (jA (v:=.ty "int") rfl T.vE boot_int rfl) b_))) (oQ (GY (g7 jD (by rfl) T.jE boot_isinstance (a_ (pv 1) (a_ (jA (v:=.ty "bool") rfl T.vF boot_bool rfl) b_)))) (qg (mI gX (pv 1) (pv 2) (gE _))))))) gH)
  (gh (gF (gI gX (gp (pv 0) c_) gK (gE _)) (gm (gv (oQ (g7 jD (by rfl) T.jE boot_isinstance (a_ (pv 1) (a_ (jA (v:=.ty "str") rfl T.sx boot_str rfl) b_))) (qg (mI gX (pv 1) (pv 2) (gE _)))))) gH)
  (gh (gF (gI gX (gp (pv 0) c_) gK (gE _)) (gh (gF (PW.pt (jS (i7 (iG (g7 jD (by rfl) T.jE boot_isinstance (a_ (pv 1) (a_ (jA (v:=.ty "dict") rfl T.vG boot_dict rfl) b_))))) (jR (gI mH (g7 u6 (by rfl) T.jc PySem.boot_len (a_ (pv 1) b_)) (g7 jC (by rfl) T.jc PySem.boot_len (a_ (gp (pv 0) c_) b_)) (gE _))))) (gm (gv jk)) gH)
  (gh (jo PassesOwn.never rfl (kN (gp (pv 0) c_)) (jU rfl (iH (g5 (i:=3) nd rfl iA) (iH (g5 (i:=4) nd rfl iA) jT))) (gm (gF (PW.pt (jS (uD (Ci hu (pv 3) (pv 1)) (by with_unfolding_all rfl)) (jR (i7 (iG (gz L hr J (a_ (pv 4) (a_ (jN hu (pv 1) (pv 3) (λ_ _=>rfl)) (a_ (jN hu (pv 2) (pv 3) (λ_ _=>rfl)) b_))))))))) (gm (gv jk)) gH)))
  (gm (gv jk)))) gH)
  (gh (gF (gI gX (gp (pv 0) c_) gK (gE _)) (gh (gF (PW.pt (jS (i7 (iG (g7 jD (by rfl) T.jE boot_isinstance (a_ (pv 1) (a_ (jA (v:=.ty "list") rfl T.nI boot_list rfl) b_))))) (jR (gI mH (g7 u6 (by rfl) T.jc PySem.boot_len (a_ (pv 1) b_)) (g7 jC (by rfl) T.jc PySem.boot_len (a_ (pv 2) b_)) (gE _))))) (gm (gv jk)) gH)
  (gm (gv (g7 (rT rfl) (by rfl) T.su boot_all (a_ (kP (g:=(qi K 2 (mE (je 0) (mE (je 1) qh)))) (tt:=lD) (te:=(nr _ _ _ (ja (uO (ja (tC (.str "record")) (ja (iD (kx K) (ik 2) (tC (.int 3))) kO))) (ja (ik 0) (ja (ik 1) kO))))) (own:=["_law_a","_law_b"]) rfl (kB (N:=XH) (sc:=gC (top 46))) (C1 rfl T.DC (a_ (pv 1) (a_ (pv 2) b_))) (λ_ _ _ _ _=>(jU rfl (iH (g5 (i:=0) (show(XD:List Str).Nodup by decide +kernel) rfl (Or.inl rfl) (.inr rfl)) (iH (g5 (i:=1) (show(XD:List Str).Nodup by decide +kernel) rfl (Or.inl rfl) (.inr rfl)) jT)))) (λ_ _ _ _ _=>mP) (λ_ _ _ _ _=>(gz L hr J (a_ (iw (a_ gK (a_ (gp (pv 2) c_) b_))) (a_ (pv 0) (a_ (pv 1) b_)))))) b_))))) gH)
  (gh (gF (PW.pt (jS (i7 (iG (g7 jD (by rfl) T.jE boot_isinstance (a_ (pv 1) (a_ (jA (v:=.ty "tuple") rfl T.pK boot_tuple rfl) b_))))) (jR (gI mH (g7 u6 (by rfl) T.jc PySem.boot_len (a_ (pv 1) b_)) c_ (gE _))))) (gm (gv jk)) gH)
  (gh (gF (gI gX (gp (pv 0) c_) gK (gE _)) (gh (gF (PW.pt (jS (i7 (iG (g7 jD (by rfl) T.jE boot_isinstance (a_ (gp (pv 1) c_) (a_ (jA (v:=.ty "str") rfl T.sx boot_str rfl) b_))))) (jR (gI mH (gp (pv 1) c_) (gp (pv 2) c_) (gE _))))) (gm (gv jk)) gH)
  (gh (IX (i:=4) nd rfl iA (g:=(je 0)) (tt:=(mJ (iD og (iD (kx K) (ik 0) (tC (.int 0))) (iD (kx K) (ik 3) (tC (.int 0)))))) (te:=(iD (kx K) (ik 0) (tC (.int 1)))) (own:=["_law_pair"]) rfl (kB (N:=XH) (sc:=gC (top 46))) (kN (gp (pv 0) c_)) (λ_ _ _ _ _=>(g5 (i:=0) (show(["_law_pair","_law_kind_here","_law_found","_law_due","_law_name","_law_inner"]:List Str).Nodup by decide +kernel) rfl (Or.inl rfl) (.inr rfl))) (λ_ _ _ _ _=>(rS (gI gX (gp (pv 0) c_) (gp (pv 3) c_) (gE _)))) (λ_ _ _ _ _=>(gp (pv 0) c_)))
  (gm (gv (gz L hr J (a_ (iT (pv 4) c_) (a_ (gp (pv 1) c_) (a_ (gp (pv 2) c_) b_)))))))) gH)
  (gh (gF (PW.pt (jS (i7 (iG (g7 jD (by rfl) T.jE boot_isinstance (a_ (gp (pv 1) c_) (a_ (jA (v:=.ty "list") rfl T.nI boot_list rfl) b_))))) (jR (gI mH (g7 jC (by rfl) T.jc PySem.boot_len (a_ (gp (pv 1) c_) b_)) (g7 jC (by rfl) T.jc PySem.boot_len (a_ (gp (pv 2) c_) b_)) (gE _))))) (gm (gv jk)) gH)
  (gh (gF (i7 (iG (gz L hr J (a_ (gp (pv 0) c_) (a_ (gp (pv 1) c_) (a_ (gp (pv 2) c_) b_)))))) (gm (gv jk)) gH)
  (gm (gv (g7 (rT rfl) (by rfl) T.su boot_all (a_ (kP (g:=(qi K 2 (mE (je 0) (mE (je 1) qh)))) (tt:=lD) (te:=(nr _ _ _ (ja (ik 2) (ja (ik 0) (ja (ik 1) kO))))) (own:=["_law_a","_law_b"]) rfl (kB (N:=XH) (sc:=gC (top 46))) (C1 rfl T.DC (a_ (gp (pv 1) c_) (a_ (gp (pv 2) c_) b_))) (λ_ _ _ _ _=>(jU rfl (iH (g5 (i:=0) (show(XD:List Str).Nodup by decide +kernel) rfl (Or.inl rfl) (.inr rfl)) (iH (g5 (i:=1) (show(XD:List Str).Nodup by decide +kernel) rfl (Or.inl rfl) (.inr rfl)) jT)))) (λ_ _ _ _ _=>mP) (λ_ _ _ _ _=>(gz L hr J (a_ (pv 2) (a_ (pv 0) (a_ (pv 1) b_)))))) b_)))))))))))),?_⟩
 ac_rfl
 cases k with
 |num=>
  unfold KA at hk;obtain⟨a,rfl,ha⟩:=hk;obtain⟨rfl,hF⟩:=hF;unfold gU at hF;obtain⟨z,rfl⟩:=hF;unfold Own at ag ah;obtain⟨rfl,rfl⟩:=ag;obtain⟨rfl,rfl⟩:=ah;refine j_ rfl ha rfl (by decide +kernel) ?_;refine⟨_,rfl,_,_,_,true,rfl,.int z,rfl,true,rfl,i5 ?_⟩;refine⟨_,rfl,_,_,_,false,rfl,.int z,rfl,false,rfl,true,rfl,i5 ?_⟩;refine⟨_,rfl,_,rfl,rfl,?_⟩;rw[decide_eq_true rfl];exact q _ (Same.refl _)
 |ix=>
  unfold KA at hk;obtain⟨a,rfl,ha⟩:=hk;obtain⟨rfl,hF⟩:=hF;unfold gU at hF;obtain⟨z,rfl⟩:=hF;unfold Own at ag ah;obtain⟨rfl,rfl⟩:=ag;obtain⟨rfl,rfl⟩:=ah;refine hX rfl ha rfl (by decide +kernel) ?_;refine j_ rfl ha rfl (by decide +kernel) ?_;refine⟨_,rfl,_,_,_,true,rfl,.str _,rfl,true,rfl,i5 ?_⟩;refine⟨_,rfl,_,rfl,rfl,?_⟩;rw[decide_eq_true rfl];exact q _ (Same.refl _)
 |gA fs=>
  unfold KA at hk;obtain⟨a,b,xs,rfl,ha,hb,ai⟩:=hk;obtain⟨m,m2,rfl,rfl,hU⟩:=hF;unfold Own at ag ah;obtain⟨c1,aE,g1,rfl,U,rfl,ak⟩:=ag;obtain⟨c2,a9,g2,rfl,ac,rfl,am⟩:=ah;unfold Kd.W at hW;unfold D.Sm at aj;simp only[D.dep] at ar;have aN:m.dep<=n:=by omega
  refine hX rfl ha rfl (by decide +kernel) ?_;refine hX rfl ha rfl (by decide +kernel) ?_;refine j_ rfl ha rfl (by decide +kernel) ?_;have el:aE.length=xs.length:=by rw[gx.len ak,FA.len fs ai];exact hU.1
  refine⟨_,rfl,_,_,_,true,rfl,.dK U,rfl,true,rfl,gY ?_⟩;refine⟨_,rfl,.inl ⟨c1,_,rfl,U,_,rfl,a,_,_,_,rfl,rfl,e_.of ha,rfl,b,_,rfl,.inr (e_.of hb),rfl,_,rfl,?_⟩⟩;refine mO (show V.int (aE.length:Nat)=V.int (xs.length:Nat) by rw[el]) ?_;refine⟨_,rfl,a,_,_,_,rfl,rfl,e_.of ha,rfl,b,rfl,⟨_,e_.of hb⟩,n9 (xs:=xs) (λi σ H'=>Same H H'/\∃x y,σ=[some (.ref a),some (.ref c1),some (.ref c2),x,y]) ⟨Same.refl _,_,_,rfl⟩ ?_ ?_ ?_⟩
  . rintro i σ H' _ ⟨s2,_⟩;exact e_.of (s2 _ _ hb)
  . rintro i v σ H' hv ⟨s2,x,y,rfl⟩;obtain⟨c,u,nm,k,rfl,ae,hc,hk⟩:=FA.get fs ai hv;obtain⟨d,hd,aU,ap⟩:=hU.2 _ _ (Fs.nz hW.1 ae);obtain⟨e1,f1,aV,aO,_⟩:=gx.val _ ak hd;obtain⟨e2,f2,aW,aP,_⟩:=gx.val _ am aU;have g1:ip H' c1 (.str nm) (some e1):=by have:=ip.k (k:=Sum.inr nm) (s2 _ _ U);rw[aV] at this;exact this
    have g2:ip H' c2 (.str nm) (some e2):=by have:=ip.k (k:=Sum.inr nm) (s2 _ _ ac);rw[aW] at this;exact this
    refine⟨c,_,rfl,e_.of (s2 _ _ hc),rfl,_,_,rfl,_,_,rfl,rfl,?_⟩;refine⟨_,rfl,_,rfl,c1,_,rfl,g1,false,rfl,gY ?_⟩;refine⟨_,rfl,_,rfl,_,rfl,c1,e1,rfl,g1,_,rfl,_,rfl,c2,e2,rfl,g2,u,e1,e2,k,d,d,f1,f2,rfl,KA.mono (Tu.of s2) k hk,Fs.nB hW.2.2 ae,Own.same s2 aO,Own.same s2 aP,AL.of ap,Q0g (Ds.pH hd) aN,Ds.pQ aj.2 hd,λH3 s3=>⟨true,rfl,gY ?_⟩⟩;exact⟨s2.trans s3,_,_,rfl⟩
  . rintro σ H' ⟨s2,_⟩;exact q _ s2
 |rows key ba fs=>
  unfold KA at hk;obtain⟨a,b,xs,rfl,ha,hb,ai⟩:=hk;obtain⟨x1,x2,rfl,rfl,aQ,aX⟩:=hF;unfold Own at ag ah;obtain⟨c1,Y,g1,rfl,U,rfl,ak⟩:=ag;obtain⟨c2,af,g2,rfl,ac,rfl,am⟩:=ah;unfold Kd.W at hW;unfold D.Sm at aj;simp only[D.dep] at ar;have al:Y.length=x1.len:=gn.len _ ak;have an:af.length=x1.len:=(gn.len _ am).trans aQ.symm;have aS:=aj.1;refine hX rfl ha rfl (by decide +kernel) ?_;refine hX rfl ha rfl (by decide +kernel) ?_;refine hX rfl ha rfl (by decide +kernel) ?_;refine j_ rfl ha rfl (by decide +kernel) ?_;refine⟨_,rfl,_,_,_,true,rfl,.lst U,rfl,true,rfl,gY ?_⟩;refine⟨_,rfl,.inr ⟨c1,_,rfl,.inl (gi.of U),_,rfl,c2,_,rfl,.inl (gi.of ac),rfl,_,rfl,mO (show V.int (Y.length:Nat)=V.int (af.length:Nat) by rw[al,an]) ?_⟩⟩;refine⟨_,rfl,_,rfl,c1,c2,rfl,⟨_,gi.of U⟩,⟨_,gi.of ac⟩,λi m zs H'=>m=Y.length - i/\i<=Y.length/\zs=(List.replicate i true).map V.bl/\Same H H',⟨Y.length,rfl,Q0d _,rfl,Same.refl _⟩,?_⟩;rintro i mm zs H' ⟨rfl,aT,rfl,s2⟩;by_cases hi:i<Y.length
  . have av:i<af.length:=by omega
    refine .inr ⟨⟨Y,af,Y[i],af[i],gi.of (s2 _ _ U),gi.of (s2 _ _ ac),Q05 hi,Q05 av⟩,by rw[Q04,Q17];exact iB (by omega),λx aY y=>?_⟩;obtain⟨p,y1,y2,hp,rfl,e1,e2,rfl⟩:=y;have e1:=e1 _ (gi.of (s2 _ _ U));have e2:=e2 _ (gi.of (s2 _ _ ac));obtain⟨d,fa,ae,aw,_⟩:=gn.get _ ak e1;obtain⟨d',fb,aq,ax,_⟩:=gn.get _ am e2;obtain⟨m1,m2,rfl,rfl,hm⟩:=aX _ _ _ ae aq;have aZ:=Ds.jw ae;have s3:Same H' (upd H' p (.tup [y1,y2])):=Same.new hp;have sa:=s2.trans s3;refine⟨p,_,rfl,e_.of gu,rfl,_,_,rfl,_,_,rfl,rfl,rfl,yes (i5 ?_)⟩;refine⟨_,rfl,a,_,_,_,rfl,rfl,e_.of (sa _ _ ha),rfl,iq,λt ht=>?_⟩;have st:Same (upd H' p (.tup [y1,y2])) (upd (upd H' p (.tup [y1,y2])) t (.tup [.str "record",.ref b])):=Same.new ht;have sb:=sa.trans st;refine⟨_,rfl,_,rfl,.ref t,y1,y2,.gA fs,.dct m1,.dct m2,fa,fb,rfl,?_,?_,Own.same sb aw,Own.same sb ax,?_,by omega,Ds.kD aj.2 ae,λH3 s4=>?_⟩
    . unfold KA;exact⟨t,b,xs,rfl,gu,sb _ _ hb,FA.mono (Tu.of sb) fs ai⟩
    . unfold Kd.W;exact⟨hW.1,hW.2.1,hW.2.2.1⟩
    . exact⟨m1,m2,rfl,rfl,hm⟩
    . refine⟨Y.length - (i+1),by omega,rfl,hi,?_,sb.trans s4⟩;rw[List.replicate_succ',Q0m];rfl
  . refine .inl ⟨⟨Y,af,gi.of (s2 _ _ U),gi.of (s2 _ _ ac),.inl (Q19 hi)⟩,λp hp=>⟨p,List.replicate i true,rfl,gi.of gu,?_⟩⟩;rw[v7];exact q _ (s2.trans (Same.new hp))
 |tree k=>
  have a1:=hk;unfold KA at hk;obtain⟨a,u,rfl,ha,a2⟩:=hk;have hF:kb (kE k) d d2:=hF;have a3:=hW;unfold Kd.W at hW;obtain⟨x,y,x',y',t,t',as,bb,rfl,rfl,a4,aG,ai⟩:=hF.shape;obtain⟨c1,u1,w1,ay,bc,rfl,U,rfl,az,aH⟩:=ag.pair;obtain⟨c2,u2,w2,aA,bd,rfl,ac,rfl,aB,aI⟩:=ah.pair;unfold Own at aH aI;obtain⟨l1,Y,g1,rfl,al,rfl,ak⟩:=aH;obtain⟨l2,af,g2,rfl,an,rfl,am⟩:=aI;simp only[D.dep,Ds.dep] at ar;unfold D.Sm Ds.Sm at aj;obtain⟨_,aJ,ao⟩:=aj;unfold Ds.Sm at ao;have aC:=ao.1;unfold D.Sm at aC;have aS:=aC.1;have a5:Y.length=as.len:=gn.len _ ak;have a6:af.length=as.len:=(gn.len _ am).trans aG.symm;refine hX rfl ha rfl (by decide +kernel) ?_;refine hX rfl ha rfl (by decide +kernel) ?_;refine hX rfl ha rfl (by decide +kernel) ?_;refine hX rfl ha rfl (by decide +kernel) ?_;refine⟨_,rfl,_,_,_,true,rfl,.tup U,rfl,true,rfl,gY ?_⟩;refine⟨_,rfl,.inr ⟨c1,_,rfl,.inr (e_.of U),rfl,_,rfl,mO rfl ?_⟩⟩;refine hX rfl ha rfl (by decide +kernel) ?_;refine⟨_,rfl,c1,_,_,_,rfl,rfl,e_.of U,rfl,_,_,_,true,rfl,.lst al,rfl,true,rfl,gY ?_⟩;refine⟨_,rfl,c1,_,_,_,rfl,rfl,e_.of U,rfl,l1,_,rfl,.inl (gi.of al),_,rfl,c2,_,_,_,rfl,rfl,e_.of ac,rfl,l2,_,rfl,.inl (gi.of an),rfl,_,rfl,mO (show V.int (Y.length:Nat)=V.int (af.length:Nat) by rw[a5,a6]) ?_⟩;refine⟨_,rfl,a,_,_,_,rfl,rfl,e_.of ha,rfl,_,rfl,c1,_,_,_,rfl,rfl,e_.of U,rfl,_,rfl,c2,_,_,_,rfl,rfl,e_.of ac,rfl,u,u1,u2,k,t,t',ay,aA,rfl,a2,hW,az,aB,AL.of0 a4,by omega,aJ,λH1 s1=>⟨true,rfl,gY ?_⟩⟩;refine⟨_,rfl,c1,_,_,_,rfl,rfl,e_.of (s1 _ _ U),rfl,_,rfl,c2,_,_,_,rfl,rfl,e_.of (s1 _ _ ac),rfl,l1,l2,rfl,⟨_,gi.of (s1 _ _ al)⟩,⟨_,gi.of (s1 _ _ an)⟩,λi m zs H'=>m=Y.length - i/\i<=Y.length/\zs=(List.replicate i true).map V.bl/\Same H H',⟨Y.length,rfl,Q0d _,rfl,s1⟩,?_⟩;rintro i mm zs H' ⟨rfl,aT,rfl,s2⟩;by_cases hi:i<Y.length
  . have av:i<af.length:=by omega
    refine .inr ⟨⟨Y,af,Y[i],af[i],gi.of (s2 _ _ al),gi.of (s2 _ _ an),Q05 hi,Q05 av⟩,by rw[Q04,Q17];exact iB (by omega),λx aY y=>?_⟩;obtain⟨p,x1,x2,hp,rfl,e1,e2,rfl⟩:=y;have e1:=e1 _ (gi.of (s2 _ _ al));have e2:=e2 _ (gi.of (s2 _ _ an));obtain⟨d,fa,ae,aw,_⟩:=gn.get _ ak e1;obtain⟨d',fb,aq,ax,_⟩:=gn.get _ am e2;have aZ:=Ds.jw ae;have s3:Same H' (upd H' p (.tup [x1,x2])):=Same.new hp;have sa:=s2.trans s3;refine⟨p,_,rfl,e_.of gu,rfl,_,_,rfl,_,_,rfl,rfl,rfl,yes (i5 ?_)⟩;refine⟨_,rfl,_,rfl,_,rfl,.ref a,x1,x2,.tree k,d,d',fa,fb,rfl,KA.mono (Tu.of sa) _ a1,a3,Own.same sa aw,Own.same sa ax,ai _ _ _ ae aq,by omega,Ds.kD aC.2 ae,λH3 s4=>?_⟩;refine⟨Y.length - (i+1),by omega,rfl,hi,?_,sa.trans s4⟩;rw[List.replicate_succ',Q0m];rfl
  . refine .inl ⟨⟨Y,af,gi.of (s2 _ _ al),gi.of (s2 _ _ an),.inl (Q19 hi)⟩,λp hp=>⟨p,List.replicate i true,rfl,gi.of gu,?_⟩⟩;rw[v7];exact q _ (s2.trans (Same.new hp))
 |iP fs=>
  unfold KA at hk;obtain⟨a,b,xs,rfl,ha,hb,ai⟩:=hk;obtain⟨rfl,hF⟩:=hF;unfold gU at hF;obtain⟨x,v',rfl,hE⟩:=hF;obtain⟨c1,z1,u1,be,ay,rfl,U,rfl,aK,az⟩:=ag.pair;obtain⟨c2,z2,u2,bf,aA,rfl,ac,rfl,aL,aB⟩:=ah.pair;unfold Own at aK aL;obtain⟨rfl,rfl⟩:=aK;obtain⟨rfl,rfl⟩:=aL;unfold Kd.W at hW;simp only[D.dep,Ds.dep] at ar;unfold D.Sm Ds.Sm at aj;obtain⟨_,aJ,ao⟩:=aj;unfold Ds.Sm at ao;obtain⟨k,au,ap⟩:=vV hE;obtain⟨j,hj⟩:=Fs.Eu au;obtain⟨c,u,aD,hc,a7⟩:=FA.at ai hj;have bg:j<xs.length:=(List.getElem?_eq_some_iff.mp aD).1;have aG:xs.length<=12:=by rw[FA.len fs ai];exact hW.2.1
  refine hX rfl ha rfl (by decide +kernel) ?_;refine hX rfl ha rfl (by decide +kernel) ?_;refine hX rfl ha rfl (by decide +kernel) ?_;refine hX rfl ha rfl (by decide +kernel) ?_;refine⟨_,rfl,_,_,_,true,rfl,.tup U,rfl,true,rfl,gY ?_⟩;refine⟨_,rfl,.inr ⟨c1,_,rfl,.inr (e_.of U),rfl,_,rfl,mO rfl ?_⟩⟩;refine j_ rfl ha rfl (by decide +kernel) ?_;refine⟨_,rfl,c1,_,_,_,rfl,rfl,e_.of U,rfl,_,_,_,true,rfl,.str _,rfl,true,rfl,gY ?_⟩;refine⟨_,rfl,c1,_,_,_,rfl,rfl,e_.of U,rfl,_,rfl,c2,_,_,_,rfl,rfl,e_.of ac,rfl,rfl,_,rfl,mO rfl ?_⟩;refine⟨_,rfl,a,_,_,_,rfl,rfl,e_.of ha,rfl,b,rfl,⟨_,e_.of hb⟩,qQ (sY (e_.of hb)) (λi=>if j<i then [u] else []) (by omega) (λp hp=>?_) (λi z hv add skip=>?_) (if_neg (Q2y _))⟩
  . rw[if_pos (List.getElem?_eq_some_iff.mp aD).1];have s1:Same H (upd H p (.lst [u])):=Same.new hp
    exact⟨_,rfl,p,_,_,_,rfl,rfl,gi.of gu,iZ (j:=0) rfl,_,rfl,c1,_,_,_,rfl,rfl,e_.of (s1 _ _ U),rfl,_,rfl,c2,_,_,_,rfl,rfl,e_.of (s1 _ _ ac),rfl,
     u,u1,u2,k,v',v',ay,aA,rfl,KA.mono (Tu.of s1) k a7,Fs.vW hW.2.2.2 au,Own.same s1 az,Own.same s1 aB,AL.of ap,by omega,ao.1,λH2 s2=>q _ (s1.trans s2)⟩
  . obtain⟨d,w',nm,k',rfl,ae,hd,bh⟩:=FA.get _ ai hv;refine⟨rfl,_,rfl,d,_,_,_,rfl,rfl,e_.of hd,rfl,_,rfl,c2,_,_,_,rfl,rfl,e_.of ac,rfl,rfl,_,rfl,iL (λcc=>?_) (λcc=>skip ?_)⟩
    . have e:nm=x:=by
       have:=of_decide_eq_true cc;injection this
      subst e
      cases Fs.La hW.1 ae hj;rw[aD] at hv
      cases hv;rw[hc] at hd
      cases hd;refine⟨_,rfl,c,_,_,_,rfl,rfl,e_.of hc,rfl,add _ ?_⟩;rw[if_neg (Q0o _),if_pos (Q13 _)];rfl
    . have ne:i≠j:=λe=>by
       subst e;rw[ae] at hj
       cases hj;exact cc (decide_eq_true rfl)
      by_cases aM:j<i
      . rw[if_pos aM,if_pos (by omega)]
      . rw[if_neg aM,if_neg (by omega)]
theorem Ex (T:Tb mg)(J:Dn K mg "_law_alike" mW (top 46) L U):∀n:Nat,d_ P w K mg base f_ (n+1) L U mW (pS n)
 |0=>by
  have Y:∀vs H Q E,¬pS 0 vs H Q E:=λvs H Q E h=>by
   obtain⟨_,_,_,_,d,_,_,_,_,_,_,_,_,_,hd,_⟩:=h;have:=d.jr;omega
  exact⟨λvs H Q E h=>absurd h (Y vs H Q E),λA outer s H args us vs Q E _ _ _ _ h=>absurd h (Y vs H Q E)⟩
 |n+1=>Ld n T J (Ex T J n)
end Pb
namespace L2
open Spec PyProof.Rows
section
variable {prog:Program}{w:World}{A:Around}{E:Value->Shared->Prop}{hp:Heap}{g:Array GenState}{dr:Drawn}{tk:Nat}{os:OsState}{C fI:Addr}{NK:List Value}{B nid NL:String}
end
end L2
namespace L2
open Spec Calls PyProof.Rows W Builtin Builtin.ObjectAttr
section
variable {prog:Program}{w:World}{A:Around}{E:Value->Shared->Prop}{s:Shared}{K:Frag}{x C:Addr}{ox:Obj}{name:Str}{v:Value}
end
end L2
namespace L2
open Spec Calls PyProof.Rows W Builtin Builtin.ObjectAttr Builtin.Getset_descriptor
section
variable {prog:Program}{w:World}{A:Around}{E:Value->Shared->Prop}{K:Frag}{h:Heap}{g:Array GenState}{d:Drawn}{t:Nat}{os:OsState}{a C dx:Addr}{o:Obj}{vs:Array Value}{mA:Str->Option Value}{name:Str}{v:Value}
end
end L2
namespace L2
open Spec PyProof.Rows
section
variable {M:Model}{A:Around}{E:Value->Shared->Prop}{s:Shared}
structure nO (h:Heap) (e T:Addr) (cls:Value) (dd:Option Addr) (fl:Value):Prop where
 ex:∃oe vs,h.get? e=some oe/\oe.cls=cls/\oe.dict=dd/\oe.data=.fields vs/\vs[1]? =some (.ref T)
 tb:∃oT ts,h.get? T=some oT/\oT.data=.fields ts/\ts[3]? =some fl
 ne:T≠e
theorem Ey {e T:Addr}{cls fl:Value}{U:Option Addr}{Q:Unit->Shared->Prop}(t:nO s.heap e T cls U fl)(h:∀h',nO h' e T cls U .none->(∀b o,b≠T->s.heap.get? b=some o->h'.get? b=some o)->(∃o',h'.get? T=some o')->Q () { s with heap:=h' }):wpAny M A (setFlight (.ref e) none) Q E s:=by
 obtain⟨⟨Y,vs,he,hc,L,hd,h1⟩,⟨oT,ts,hT,J,h3⟩,ne⟩:=t;have em:Obj.mapFields (·.setIfInBounds 3 ((none:Option Addr).elim Value.none λf=>rawInt f)) oT={ oT with data:=.fields (ts.setIfInBounds 3 .none) }:=vg J;have hsz:=(Array.getElem?_eq_some_iff.mp h3).1;unfold setFlight;refine Q01 (wpAny_field he hd h1 ?_);rw[if_pos (show(Value.ref T != Value.none)=true by simp)];have self:=Q1k (Obj.mapFields (·.setIfInBounds 3 ((none:Option Addr).elim Value.none λf=>rawInt f))) hT (by rw[em];exact Obj.isFreed_of_fields rfl);rw[em] at self
 have oth:∀b o,b≠T->s.heap.get? b=some o->(s.heap.update T (Obj.mapFields (·.setIfInBounds 3 ((none:Option Addr).elim Value.none λf=>rawInt f)))).get? b=some o:=λb o hb ho=>by
  rw[Q14 _ _ (Ne.symm hb)];exact ho
 exact wpAny_setField hT J hsz (h _ ⟨⟨Y,vs,oth e Y (Ne.symm ne) he,hc,L,hd,h1⟩,⟨_,_,self,rfl,by simp[hsz]⟩,ne⟩ oth ⟨_,self⟩)
theorem Le {base:Heap}{env:Env}{outer:List Env}{L e T:Addr}{cls:Value}{dd:Option Addr}{Q:Unit->Shared->Prop}(ae:A.frames=some (env::outer))(hl:s.heap.FunFrames base (env::outer))(hf:env.frame=some L)(t:nO s.heap e T cls dd .none)
 (h:∀(h':Heap) (T':Addr),s.heap.objs.size<=T'->(∀b o,b ∉ frs (env::outer)->b≠e->b≠T->s.heap.get? b=some o->h'.get? b=some o)->(∀b o,b≠e->b≠T->s.heap.get? b=some o->∃sl,h'.get? b=some { o with slots:=sl })->(∃o,h'.get? T=some o)->nO h' e T' cls dd (rawInt L)->Q () { s with heap:=h' }):
 wpAny M A (noteFrame (.ref e) env) Q E s:=by
 obtain⟨⟨oe,vs,he,hc,af,hd,h1⟩,⟨oT,ts,hT,U,h3⟩,ne⟩:=t;have hsz:=(Array.getElem?_eq_some_iff.mp h3).1;have em:Obj.mapFields (·.setIfInBounds 3 Value.none) oT={ oT with data:=.fields (ts.setIfInBounds 3 .none) }:=vg U;unfold noteFrame;simp only[hf];refine Q01 (wpAny_field he hd h1 ?_);rw[if_pos (show(Value.ref T != Value.none)=true by simp)];refine Q01 (wpAny_field hT U h3 ?_);rw[if_neg (show ¬(Value.none == rawInt L)=true by simp[rawInt])];refine Q01 (wpAny_setField hT U hsz ?_);have self:=Q1k (Obj.mapFields (·.setIfInBounds 3 Value.none)) hT (by rw[em];exact Obj.isFreed_of_fields rfl);rw[em] at self
 have oth:∀b o,b≠T->s.heap.get? b=some o->(s.heap.update T (Obj.mapFields (·.setIfInBounds 3 Value.none))).get? b=some o:=λb o hb J=>by
  rw[Q14 _ _ (Ne.symm hb)];exact J
 have nT:∀b o,s.heap.get? b=some o->(∀vs,o.data≠ .fields vs)->b≠T:=λb o J hn z=>by
  rw[z,hT] at J
  cases J;exact hn ts U
 have ab:(s.heap.update T (Obj.mapFields (·.setIfInBounds 3 Value.none))).objs.size=s.heap.objs.size:=Q2g _ _ _;refine JJ (s:={ s with heap:=s.heap.update T (Obj.mapFields (·.setIfInBounds 3 Value.none)) }) ae (hl.of_keeps λb o J hn=>⟨o,oth b o (nT b o J hn) J,rfl⟩) hf (oth e oe (Ne.symm ne) he) hd (Array.getElem?_eq_some_iff.mp h1).1 λh' T' ag hP ah ai=>?_;have ac:s.heap.objs.size<=T':=by rw[<-ab];exact ag
 refine h h' T' ac (λb o hb Y aa J=>hP.1 b o hb Y (oth b o aa J)) (λb o Y aa J=>hP.2 b o Y (oth b o aa J)) ?_ ⟨⟨_,_,ah,hc,af,rfl,by simp[(Array.getElem?_eq_some_iff.mp h1).1]⟩,ai,?_⟩
 . obtain⟨sl,hs⟩:=hP.2 T _ ne self;exact⟨_,hs⟩
 . have h1:e<s.heap.objs.size:=Q03 he;exact λz=>Q0o e (Q0e h1 (by rw[<-z];exact ac))
end
section
variable {X:Cx}{pins:List (Addr × Obj)}{σ:St}{H:Hp}{s:Shared}
end
def Lf (P:Program) (w:World):jL:=λouter H s E e s'=>∃(a T C:Addr) (J:Option Addr) (H':Hp),e=.ref a/\nO s'.heap a T (.ref C) J .none/\s.heap.get? a=none/\s.heap.get? T=none/\H' a=none/\H' T=none/\s'.os=s.os/\AllBare s'.gens/\Un (frs outer) [] H H' s.heap s'.heap/\iF P w H' s'.heap/\E (.ref C) J H'
section
variable {M:Model}{A:Around}{E:Value->Shared->Prop}{s:Shared}
end
section
variable {X:Cx}{pins:List (Addr × Obj)}{σ:St}{H:Hp}{s:Shared}
end
noncomputable def oJ (a C:Addr) (J:Option Addr):HO:=.ext λh=>∃o,h.get? a=some o/\o.cls=.ref C/\o.dict=J/\∃vs,o.data=.fields vs
theorem oJ.ok {P:Program}{w:World}{H:Hp}{h:Heap}{a C:Addr}{J:Option Addr}(e:∃o,h.get? a=some o/\o.cls=.ref C/\o.dict=J/\∃vs,o.data=.fields vs):iO P w H h a (oJ a C J):=
 ⟨e,let⟨o,h1,_⟩:=e;⟨o,h1⟩,λ_ _ ⟨o,h1,h2⟩ k=>⟨o,k o h1,h2⟩⟩
def v9 (X:Cx) (pins:List (Addr × Obj)) (σ:St) (Ek:XK) (e:Value) (s':Shared):Prop:=∃H s,Inv X pins σ H s/\Lf X.prog X.w X.stack H s Ek e s'
def Ez (X:Cx) (Ek:XK) (e:Expr) (t:TE):Prop:=
 ∀(pins:List (Addr × Obj)) (s:Shared) (σ:St) (H:Hp) (Q:VK),Inv X pins σ H s->t σ H Q->wpAny (model X.prog X.w) X.A (eval e X.env) (EP X pins σ Q) (v9 X pins σ Ek) s
def EA (X:Cx) (Ek:XK) (st:List Stmt) (t:TS):Prop:=
 ∀(pins:List (Addr × Obj)) (s:Shared) (σ:St) (H:Hp) (D:Ends),Inv X pins σ H s->t D σ H->wpAny (model X.prog X.w) X.A (execs st X.env) (SP X pins D) (v9 X pins σ Ek) s
section
variable {X:Cx}{k:Nat}{f:Addr}{fd:FuncData}{ps:List Str}{sp:Sp}{jf:List V}{ds:List Value}{Ek:XK}{x:Str}{p pos:Pos}{e:Expr}{es:List Expr}{t:TA}{te:TE}
theorem EB (J:Ez X Ek e te):EA X Ek [.Return (some e) pos] (Bq te):=by
 intro pins s σ H D I h;exact wpAny_execs_cons (wpAny_Return_some (Q0n (J pins s σ H _ I h) (λv s1 ⟨x,H1,L,U,Y⟩=>⟨x,σ,H1,L,U,Y⟩) λ_ _ z=>z))
end
theorem Lg {X:Cx}{pins:List (Addr × Obj)}{σ:St}{Ek:XK}{e:Value}{s':Shared}{Q:Unit->Shared->Prop}{E:Value->Shared->Prop}(ac:X.stack=X.env::X.outer)(ah:X.env.frame=some X.env.locals)(h:v9 X pins σ Ek e s')
 (q:∀(a C T:Addr) (U:Option Addr) (H':Hp) (h2:Heap),e=.ref a->H' a=none->Ek (.ref C) U H'->nO h2 a T (.ref C) U .none->Inv X pins σ (upd H' a (oJ a C U)) { s' with heap:=h2 }->
   (∀L:Heap,nO L a T (.ref C) U .none->(∀b o,b≠T->h2.get? b=some o->L.get? b=some o)->Inv X pins σ (upd H' a (oJ a C U)) { s' with heap:=L })->Q () { s' with heap:=h2 }):
 wpAny (model X.prog X.w) X.A (noteFrame e X.env) (λ_ s2=>wpAny (model X.prog X.w) X.A (setFlight e none) Q E s2) E s':=by
 obtain⟨H,s,I,a,T,C,U,H',rfl,t,la,lT,na,nT,os,ab,un,ae,hE⟩:=h;have I':=I.call' (s':=s') (ch:=[]) os un ae ab (λb z=>absurd z (by simp));have ai:X.A.frames=some (X.env::X.outer):=by rw[<-ac];exact I.ok.frames
 have hl:s'.heap.FunFrames X.base (X.env::X.outer):=by rw[<-ac];exact I'.stack
 refine Le ai hl ah t λh1 T1 aj k1 k2 an t1=>?_;refine Ey (s:={ s' with heap:=h1 }) t1 λh2 t2 k3 ao=>?_
 have aa:∀b o,s'.heap.get? b=some o->b≠T1:=λb o e z=>by
  have L:=Q03 e;rw[z] at L;exact Q0o _ (Q0e L aj)
 have key:∀L:Heap,nO L a T1 (.ref C) U .none->(∀b o,b≠T1->h2.get? b=some o->L.get? b=some o)->Inv X pins σ (upd H' a (oJ a C U)) { s' with heap:=L }:=λL t3 k4=>by
  have m1:∀b o,b ∉ frs X.stack->b≠a->b≠T->s'.heap.get? b=some o->L.get? b=some o:=λb o Y n1 n2 e=>
   k4 b o (aa b o e) (k3 b o (aa b o e) (k1 b o (by rw[<-ac];exact Y) n1 n2 e))
  have m2:∀b o,b≠a->b≠T->s'.heap.get? b=some o->∃sl,L.get? b=some { o with slots:=sl }:=λb o n1 n2 e=>by
   obtain⟨sl,e1⟩:=k2 b o n1 n2 e;exact⟨sl,k4 b _ (aa b o e) (k3 b _ (aa b o e) e1)⟩
  have J:∀b o,s.heap.get? b=some o->b≠a/\b≠T:=λb o e=>⟨(λz=>by rw[z,la] at e;cases e),λz=>by rw[z,lT] at e;cases e⟩;refine I.call' (s':={ s' with heap:=L }) (ch:=[]) os ⟨λb o e n Y _=>?_,λb o e n Y hx=>?_,λb o e n hx=>?_,λb o e hx=>?_,λb xs e=>?_,λb o u e=>?_,λb ps e=>?_⟩ (λb o e=>?_) ab (λb z=>absurd z (by simp))
  . exact m1 b o Y (J b o e).1 (J b o e).2 (un.keep b o e n Y (by simp))
  . obtain⟨sl,e1⟩:=un.slot b o e n Y hx;obtain⟨af,e2⟩:=m2 b _ (J b o e).1 (J b o e).2 e1;exact⟨af,e2⟩
  . rw[gj (J b o e).1];exact un.free b o e n hx
  . obtain⟨o',e1⟩:=un.there b o e hx;obtain⟨af,e2⟩:=m2 b _ (J b o e).1 (J b o e).2 e1;exact⟨_,e2⟩
  . have:=un.tups b xs e;rw[gj (gB this na)];exact this
  . have:=un.kL b o u e;rw[gj (gB this na)];exact this
  . obtain⟨ag,this⟩:=un.kM b ps e;exact⟨ag,by rw[gj (gB this na)];exact this⟩
  . by_cases Y:b=a
    . subst Y;rw[gu] at e
      cases e;obtain⟨oe,vs,he,hc,ak,al,_⟩:=t3.ex;exact oJ.ok ⟨oe,he,hc,ak,vs,al⟩
    . rw[gj Y] at e;refine(ae b o e).stay (λc u hc r=>?_) (λc r=>by rw[gj (gB r na)];exact r) λc xs r=>by rw[gj (gB r na)];exact r
      have am:∃v,H' c=some v:=by
       rcases hc with z|z
       . exact⟨o,by rw[z];exact e⟩
       . exact⟨_,z⟩
      obtain⟨v,hv⟩:=am;refine m1 c u (λz=>?_) (gB hv na) (gB hv nT) r;rw[I'.rm c z] at hv;cases hv
 exact q a C T1 U H' h2 rfl na hE t2 (key h2 t2 λ_ _ _ e=>e) key
def Lh (Ek:XK) (i:Nat) (tb L:TS):TS:=λD σ H=>tb D σ H/\∀(a C:Addr) (J:Option Addr) (H':Hp),H' a=none->Ek (.ref C) J H'->L (D.un i) (σ.set i (some (.ref a))) (upd H' a (oJ a C J))
theorem EC {X:Cx}{body:List Stmt}{x n:Str}{Dc:Addr}{Ek:XK}{i:Nat}{U:Stmt}{L:List Stmt}{np ab pos:Pos}{tb ts:TS}(ac:X.stack=X.env::X.outer)(ae:X.env.frame=some X.env.locals)
 (hb:EA X Ek body tb) (hg:Gl X x) (hm:X.mg x=some (.ref Dc)) (h1:W.typeIn X.K (.ref Dc)=some (.type "type")) (h2:(W.clsIn X.K Dc).isSome=true) (h3:W.subIn X.K (.ref Dc) (.type "BaseException")=some true)
 (h4:∀C dd H,Ek (.ref C) dd H->W.subIn X.K (.ref C) (.ref Dc)=some true) (hN:X.N.Nodup) (hi:X.N[i]? =some n) (J:X.env.kindOf n=some .local) (hs:∀a,j4 (X.marked a) (U::L) ts) (hd:(x == ("__debug__":Str))=false:=by decide):
 PS X (.Try body [.ExceptHandler (some (.Name x np)) (some n) (U::L) ab] [] [] pos) (Lh Ek i tb ts):=by
 intro pins s σ H D I h;obtain⟨hq,hk⟩:=h;refine wpAny_Try_except (Q0n (hb pins s σ H D I hq) (λf s1 q=>?_) λe s1 z=>?_)
 . cases f with
   |next=>exact wpAny_execs_nil q
   |ret v=>exact q
   |brk=>exact q
   |cont=>exact q
 . refine Lg ac ae z λa C T dd H' ag e1 na hE t2 I2 key=>?_;subst e1;have ok:=I2.ok;refine wpAny_handleBy_cons (codeAny_handlers_test ?_) (by intro q;cases q);refine rq (X:=X.marked a) (I2.marked a) hg hm ?_ hd;obtain⟨oe,vs,he,hc,_⟩:=id t2.ex;refine JK I2.iW h1 h2 h3 (h4 C dd H' hE) he hc ?_;simp only[if_true];refine codeAny_handlers_suite_as ?_;refine Ey t2 λaf t3 k3 _=>?_;have I3:=key af t3 k3;refine rn I3 hN hi (.inl J) (show RelV (.ref a) (.ref a) from rfl) (λs4 I4=>?_) (.inr J);refine Q0n (hs a pins s4 _ _ (D.un i) (I4.marked a) (hk a C dd H' na hE)) (λf s5 q=>?_) λ_ _ z=>False.elim z;show wpAny _ _ _ _ _ _
   cases f with
   |next=>
    obtain⟨aa,H5,Y,q⟩:=q;exact(Y.unmarked ok).unbind hN hi J λs6 I6=>⟨_,_,I6,q⟩
   |ret v=>
    obtain⟨y,aa,H5,Y,r,q⟩:=q;exact(Y.unmarked ok).unbind hN hi J λs6 I6=>⟨y,_,_,I6,r,q⟩
   |brk=>
    obtain⟨aa,H5,Y,q⟩:=q;exact(Y.unmarked ok).unbind hN hi J λs6 I6=>⟨_,_,I6,q⟩
   |cont=>
    obtain⟨aa,H5,Y,q⟩:=q;exact(Y.unmarked ok).unbind hN hi J λs6 I6=>⟨_,_,I6,q⟩
section
variable {X:Cx}{pins:List (Addr × Obj)}{σ:St}{H:Hp}{s:Shared}
end
section
variable {X:Cx}
end
section
variable {X:Cx}{k:Nat}{f C:Addr}{fd:FuncData}{ps:List Str}{sp:Sp}{Ek:XK}{m:Str}{p pos apos:Pos}{e o:Expr}{es:List Expr}{t:TA}{te ta:TE}
theorem ED (J:PE X.gN e te):Ez X Ek e te:=λpins s σ H Q I h=>
 Q0n (J pins s σ H Q (I.wish _) h) (λ_ _ ⟨v,H',L,r,q⟩=>⟨v,H',L.mD,r,q⟩) λ_ _ z=>False.elim z
end
noncomputable def hk (l:List Key) (q:Key):Bool:=l.any λx=>decide (x=q)
noncomputable def stepK (l:List Key) (k:Key):List Key:=if hk l k=true then l else l++[k]
theorem EE {prog:Program}{w:World}{h:Heap}{a:Addr}{S J:Key->Bool}{n n':Nat}(L:h.SetOf (iV prog w) a S n)(e:∀k,S k=J k)(U:n=n'):h.SetOf (iV prog w) a J n':=by
 obtain rfl:S=J:=funext e;subst U;exact L
noncomputable def jn (v:Nat->Key):Nat->List Key
 |0=>[]
 |i+1=>stepK (jn v i) (v i)
theorem EF (v:Nat->Key):∀i,(jn v i).length<=i
 |0=>Q00 _
 |i+1=>by
  have:=EF v i;show(stepK (jn v i) (v i)).length<=i+1;unfold stepK;split
  . omega
  . rw[Q09];exact Q2o this
theorem Li (l m:List Key)(q:Key):hk (l++m) q=(hk l q || hk m q):=List.any_append
theorem Lj (l:List Key)(k q:Key):hk (stepK l k) q=(hk l q || decide (q=k)):=by
 unfold stepK;split
 . rename_i h;by_cases e:q=k
   . subst e;rw[h];rfl
   . rw[decide_eq_false e,Bool.or_false]
 . rw[Li]
   have:hk [k] q=decide (q=k):=by
    show(decide (k=q) || false)=_;rw[Bool.or_false];by_cases e:q=k
    . subst e;rfl
    . rw[decide_eq_false e,decide_eq_false λz=>e z.symm]
   rw[this]
theorem Lk (l:List Key)(k:Key):(stepK l k).length=if hk l k=true then l.length else l.length+1:=by
 unfold stepK;split
 . rfl
 . rw[Q09];rfl
theorem Ll {l:List Key}{q:Key}:hk l q=true↔q∈l:=by
 unfold hk;rw[List.any_eq_true];constructor
 . rintro⟨x,h1,h2⟩;rw[<-of_decide_eq_true h2];exact h1
 . intro h;exact⟨q,h,decide_eq_true rfl⟩
theorem EG {v:Nat->Key}:∀{i:Nat},((List.range i).map v).Nodup->jn v i=(List.range i).map v
 |0,_=>rfl
 |i+1,h=>by
  rw[Q38,Q0m] at h ⊢;obtain⟨h1,h2,J⟩:=List.nodup_append.mp h;show stepK (jn v i) (v i)=_;rw[EG h1];unfold stepK;rw[if_neg]
  . rfl
  . intro z;exact J _ (Ll.mp z) (v i) (List.mem_singleton.mpr rfl) rfl
section
variable {prog:Program}{w:World}{A:Around}{R:Result->Shared->Prop}{I:Addr}{fp wr:List Addr}{G:Array GenState->Array GenState->Prop}{n:Nat}{Pp:Nat->Value->Prop}{St':Nat->Shared->Prop}
theorem Lm (W:WalksS prog w A.in1 I fp wr G n Pp St')(S:Addr)(sf:S ∉ fp)(v:Nat->Key)(hv:∀i u,Pp i u->(iV prog w).is (v i) u=true/\u.scannable=true)(bd:n+1<scanBound):
 ∀(k i:Nat) (s:Shared),n - i=k->i<=n->St' i s->s.heap.SetOf (iV prog w) S (λq=>hk (jn v i) q) (jn v i).length->
  (∀s',Moved (S::wr) G s s'->s'.heap.SetOf (iV prog w) S (λq=>hk (jn v n) q) (jn v n).length->R (.ok (.ret .none)) s')->
  codeAny (model prog w) A (.builtin "set.update.loop" ⟨[.ref S,.ref I],[]⟩) R s:=by
 have sw:S ∉ wr:=λz=>sf (W.sub _ z);have up:∀b∈wr,b∈S::wr:=λb z=>Q06 _ z;intro k
 induction k with
 |zero=>
  intro i s e1 e2 st Y fin;obtain rfl:i=n:=by omega
  refine codeAny_builtin PyProof.Rows.F.entry_set_update_loop ?_;rw[Around.under_plainId PyProof.Rows.F.plain_set_update_loop _];show wpAny _ A.in1 (pyNext (.ref I) >>= _) _ _ s;refine Q01 (W.done s _ _ st λs' L=>?_);show wpAny _ A.in1 (ret Value.none) _ _ s';obtain⟨o,es,ep,t,ho,J⟩:=Y;exact Q0c (fin s' (L.mono up) ⟨o,es,ep,t,L.heap S _ sw ho,J⟩)
 |succ k ih=>
  intro i s e1 e2 st Y fin;have lt:i<n:=by omega
  refine codeAny_builtin PyProof.Rows.F.entry_set_update_loop ?_;rw[Around.under_plainId PyProof.Rows.F.plain_set_update_loop _];show wpAny _ A.in1 (pyNext (.ref I) >>= _) _ _ s;refine Q01 (W.item i s _ _ lt st λu s' hP aa L=>?_);obtain⟨is,sc⟩:=hv i u hP
  have ab:s'.heap.SetOf (iV prog w) S (λq=>hk (jn v i) q) (jn v i).length:=by
   obtain⟨o,es,ep,tb,ho,J⟩:=Y;exact⟨o,es,ep,tb,L.heap S _ sw ho,J⟩
  show wpAny _ A.in1 (holding [u] (setAdd S u) >>= _) _ _ s';refine Q01 (wpAny_holding ?_);unfold setAdd;refine wpAny_holding (Q01 ((iV prog w).pyHash (k:=v i) is ?_));have U:(jn v i).length+1<scanBound:=by have:=EF v i;omega
  refine wpAny_setAddHashed_of (knd:=iV prog w) (s:={ s' with toks:=s'.toks+1 }) is sc ab U λh' sb ac=>?_
  have ae:h'.SetOf (iV prog w) S (λq=>hk (jn v (i+1)) q) (jn v (i+1)).length:=
   EE ac (λq=>(Lj _ _ _).symm) (Lk _ _).symm
  refine Q0c ⟨plainId_quiet PyProof.Rows.F.plain_set_update_loop _,ih (i+1) _ (by omega) lt (W.frame _ s' _ _ aa (Q11 _) λb hb o e=>?_) ae λaf ag ah=>?_⟩
  . rw[sb.2 b (λz:b=S=>sf (by rw[<-z];exact hb))];exact e
  . refine fin af (Moved.trans W.gtrans ((L.mono up).then_heap (Q11 _) λb o hb e=>?_) ag) ah;rw[sb.2 b (λz:b=S=>hb (by rw[z];exact Q02))];exact e
end
theorem Ln:LawfulBEq Key where
 eq_of_beq:=by
  intro a b h
  cases a <;> cases b
  . exact congrArg Sum.inl (eq_of_beq (α:=Int) h)
  . cases h
  . cases h
  . exact congrArg Sum.inr (eq_of_beq (α:=Str) h)
 rfl:=by
  intro a
  cases a
  . exact BEq.rfl (α:=Int)
  . exact BEq.rfl (α:=Str)
theorem Lo {prog:Program}{w:World}{A:Around}{E:Value->Shared->Prop}{s:Shared}{l:Addr}{J:Array Value}{v:Nat->Key}{Q:Value->Shared->Prop}(ah:A.handled=none)(il:s.heap.IsList l J)
 (hv:∀(i:Nat) (u:Value),J[i]? =some u->(iV prog w).is (v i) u=true/\u.scannable=true) (bd:J.size+1<scanBound)
 (q:∀(h':Heap) (tk:Nat),h'.SetOf (iV prog w) s.heap.objs.size (λk=>hk (jn v J.size) k) (jn v J.size).length->(∀b o,b<s.heap.objs.size->s.heap.get? b=some o->h'.get? b=some o)->Q (.ref s.heap.objs.size) { s with heap:=h',toks:=tk }):
 wpAny (model prog w) A (call (.type "set") [.ref l]) Q E s:=by
 obtain⟨c,tl,ao⟩:=PySem.F.called_set.mro;have made:=PySem.F.called_set.made;have sub:=PySem.F.called_set.sub;refine wpAny_call (codeAny_of_tree ?_);show wpAny _ _ (callAny (.type "set") _) _ _ _;refine Q0c ⟨Code.quiet_builtin _ (by decide +kernel),codeAny_builtin PySem.F.entry_type_call ?_⟩;rw[Around.under_plain (weight_type_call_type "set" [.ref l] []) rfl];have n1:=PySem.F.called_set.notType;have n2:=PySem.F.called_set.canCreate;have ct:=PySem.F.typeCall_set_1 (.ref l)
 repeat (any_goals (first|assumption|wp_step))
 refine codeAny_mono (code_set_new_1 (.ref l) (E:=E) (Q₁:=λob s1=>∃ld:Bool,ob=.ref s.heap.objs.size/\s1={ s with heap:=s.heap.push { cls:=.type "set",dict:=none,data:=.set #[] 0 (.fresh 0 0 ld) } }) λld=>⟨ld,rfl,rfl⟩) λr s1 hr=>?_
 cases r with
 |error e=>exact hr
 |ok fl=>
  cases fl with
  |ret ob=>
   obtain⟨ld,rfl,rfl⟩:=hr;have gS:(s.heap.push { cls:=.type "set",dict:=none,data:=.set #[] 0 (.fresh 0 0 ld) }).get? s.heap.objs.size=some { cls:=.type "set",dict:=none,data:=.set #[] 0 (.fresh 0 0 ld) }:=Q0i _ rfl;have ty:Shared.TypeIs { s with heap:=s.heap.push { cls:=.type "set",dict:=none,data:=.set #[] 0 (.fresh 0 0 ld) } } (.ref s.heap.objs.size) "set":=⟨_,gS,rfl⟩;have li:=PySem.F.called_set.init.lookup;have bi:=PySem.F.called_set.init.bind (.ref s.heap.objs.size)
   repeat (any_goals (first|assumption|wp_step))
   refine codeAny_mono (codeAny_call_builtin (R:=wants (λr s2=>r=.none/\∃h' tk,s2={ s with heap:=h',toks:=tk }/\h'.SetOf (iV prog w) s.heap.objs.size (λk=>hk (jn v J.size) k) (jn v J.size).length/\
    (∀b o,b<s.heap.objs.size->s.heap.get? b=some o->h'.get? b=some o)) E) PySem.F.called_set.init.plain PySem.F.entry_set_init (check_set_init_1 ty ?_)) λr2 s2 L=>?_
   . obtain⟨ol,Y,U,nl,dl⟩:=il;obtain⟨oc,od,ae,af⟩:=ol;have U:oc=.type "list":=U;have dl:ae=.seq J nl:=dl;subst U;subst dl;have ac:(s.heap.push { cls:=.type "set",dict:=none,data:=.set #[] 0 (.fresh 0 0 ld) }).get? l=some { cls:=.type "list",dict:=od,data:=.seq J nl,slots:=af }:=Q07 _ Y;have ap:=PySem.F.sub_list_set;have aq:=PySem.F.sub_list_frozenset;have nd:(Value.type "list" == Value.type "dict")=false:=by decide
     have aa:(s.heap.push { cls:=.type "set",dict:=none,data:=.set #[] 0 (.fresh 0 0 ld) }).IsList l J:=⟨_,ac,rfl,nl,rfl⟩;unfold Builtin.«set.__init__» noKeywords Builtin.Frozenset.updateFrom;generalize ag:pyIter=PI
     wp_walk
     subst ag;refine wpAny_pyIter_list aa ?_;refine Q01 (wpAny_runValue ?_);have ab:l<s.heap.objs.size:=Q03 Y;have ai:A.in1.in1.in1.handled=none:=by simp[ah]
     have aj:l≠(s.heap.push { cls:=.type "set",dict:=none,data:=.set #[] 0 (.fresh 0 0 ld) }).objs.size:=by rw[Q16];exact Q0a (Q2h ab)
     have ak:s.heap.objs.size ∉ [(s.heap.push { cls:=.type "set",dict:=none,data:=.set #[] 0 (.fresh 0 0 ld) }).objs.size,l]:=by
      rw[Q16];simp only[Q0v,Q1r,Q1s,or_false,not_or];exact⟨Q0a (Q13 _),Q0r ab⟩
     refine Lm ((Walks.list ai _ l aj J).toS) s.heap.objs.size ak v hv bd (J.size - 0) 0 _ (by omega) (Q0d _) ⟨⟨_,Q0i _ rfl,rfl,rfl⟩,(aa.push _)⟩ ?sA ?sB
     case sA=>
      have g2:((s.heap.push { cls:=.type "set",dict:=none,data:=.set #[] 0 (.fresh 0 0 ld) }).push { cls:=.type "list_iterator",data:=.fields #[.ref l,.int 0 0] }).get? s.heap.objs.size=some { cls:=.type "set",dict:=none,data:=.set #[] 0 (.fresh 0 0 ld) }:=Q07 _ gS;haveI:=Ln;refine EE (Obj.SetObjOf.setOf (knd:=iV prog w) (setObjOf_fresh ld) g2 (by unfold scanBound;omega)) (λ_=>rfl) rfl
     case sB=>
      intro s' mv so;obtain⟨h',g',d',al,am⟩:=s';have eg:g'=s.gens:=mv.gens;have ed:d'=s.drawn:=mv.drawn;have eo:am=s.os:=mv.os;subst eg;subst ed;subst eo;show wpAny _ _ _ _ _ _;refine Q0c ?_;show wpAny _ _ (ret Value.none) _ _ _;refine Q0c ⟨rfl,h',al,rfl,so,λb o hb e=>?_⟩;have b1:b≠s.heap.objs.size:=Q0a hb;have b2:b≠(s.heap.push { cls:=.type "set",dict:=none,data:=.set #[] 0 (.fresh 0 0 ld) }).objs.size:=by rw[Q16];exact Q0a (Q2h hb)
      exact mv.heap b o (by simp only[Q0v,Q1r,Q1s,or_false,not_or];exact⟨b1,b2⟩) (Q07 _ (Q07 _ e))
   . cases r2 with
     |error e=>exact L
     |ok an=>
      cases an with
      |ret r=>
       obtain⟨rfl,h',tk,rfl,so,kp⟩:=L
       repeat (any_goals (first|assumption|wp_step))
       exact q _ _ so kp
      |_=>exact L.elim
  |_=>exact hr.elim
noncomputable def s_ (P:Program) (w:World) (a:Addr) (n:Nat):HO:=.ext λh=>∃S,h.SetOf (iV P w) a S n
section
variable {X:Cx}
theorem Lp (hc:X.calm=true):j6 X (.type "set") (λxs H Q=>∃(a:Addr) (ss:List Str),xs=[.ref a]/\gi X.K H a (ss.map V.str)/\ss.length<=60/\∀p,H p=none->Q (.ref p) (upd H p (s_ X.prog X.w p (jn (λi=>Sum.inr (ss.getD i "")) ss.length).length))):=by
 intro pins s σ H xs us Q I r h;obtain⟨a,ss,rfl,hq,ae,q⟩:=h;obtain⟨u,rfl,ru⟩:=vals1 r
 cases ru;obtain⟨J,rv,pl,hz⟩:=I.list hq;have hl:J.length=ss.length:=by rw[<-rv.length,Q04]
 have hsz:J.toArray.size=ss.length:=by rw[Q08];exact hl
 refine Lo (v:=λi=>Sum.inr (ss.getD i "")) (I.ok.hd hc) pl.isList (λi u hu=>?_) (by rw[hsz];unfold scanBound;omega) λh' tk so kp=>?_
 . have hi:i<ss.length:=by
    have:=(Array.getElem?_eq_some_iff.mp hu).1;rw[hsz] at this;exact this
   have h1:(ss.map V.str)[i]? =some (V.str (ss.getD i "")):=by
    rw[Q0j,Q0f,Q05 hi];rfl
   obtain⟨u',e1,t,e2⟩:=rv.get h1
   have:u=u':=by
    have U:J.toArray[i]? =some u:=hu;rw[List.getElem?_toArray,e1] at U;exact(Option.some.inj U).symm
   subst this;subst e2;exact⟨Bp _ t,rfl⟩
 . rw[hsz] at so;obtain⟨o,es,ep,t,ho,Y⟩:=so;refine⟨.ref s.heap.objs.size,_,I.laid (h':=h') (t':=tk) (λb u e=>kp b u (Q03 e) e) (Q00 _) ?_,rfl,q _ (I.hok.fresh (Q00 _))⟩;exact⟨⟨_,o,es,ep,t,ho,Y⟩,⟨o,ho⟩,λh1 h2 ⟨S,o',aa,ab,t',ac,L⟩ k=>⟨S,o',aa,ab,t',k _ ac,L⟩⟩
theorem Lq:j6 X (.builtin "len") (λxs H Q=>∃a n,xs=[.ref a]/\H a=some (s_ X.prog X.w a n)/\Q (.int n) H):=by
 intro pins s σ H xs us Q I r h;obtain⟨a,n,rfl,L,q⟩:=h;obtain⟨u,rfl,U⟩:=vals1 r
 cases U;obtain⟨S,o,es,ep,t,Y,hex,hd,aa,J,hb,hf,hn⟩:=(I.hok a _ L).1;refine call_len_set Y hex hd hf (by unfold scanBound at hb;omega) ⟨.int n,H,I.tok _,⟨_,by rw[hn]⟩,q⟩
end
section
variable {prog:Program}{w:World}{A:Around}{E:Value->Shared->Prop}{s:Shared}
end
section
variable {X:Cx}
end
end L2
namespace Pb
open L2
end Pb
namespace L2
open Spec PyProof.Rows
section
variable {X:Cx}
theorem Lr:j6 X (.type "dict") (λxs H Q=>∃a kvs,xs=[.ref a]/\H a=some (.dK kvs)/\∀l,H l=none->Q (.ref l) (upd H l (.dK kvs))):=by
 intro pins s σ H xs us Q I r h;obtain⟨a,kvs,rfl,L,q⟩:=h;obtain⟨u,rfl,U⟩:=vals1 r
 cases U;obtain⟨z,Y,vs,J,dd⟩:=rQ I.hok L;refine kt_call_dict Y dd (by rw[<-J.length];exact z) λh' hd hs=>?_;have hb:(s.heap.objs.size == sysModules)=false:=beq_eq_false_iff_ne.mpr (Q0r I.big);refine⟨.ref s.heap.objs.size,_,I.laid (a:=s.heap.objs.size) (o:=.dK kvs) (t':=s.toks) (λb o e=>?_) (Q00 _) ⟨z,hb,vs,J,hd⟩,rfl,q _ (I.hok.fresh (Q00 _))⟩;exact hs.extBut b o (Q0a (Q03 e)) (Q07 _ e)
end
noncomputable def lO (kvs J:List (Key × V)):List (Key × V):=J.foldl (λL U=>putK L U.1 U.2) kvs
theorem KV.puts:∀{J:List (Key × V)}{L:List (Key × Value)},KV J L->∀{kvs:List (Key × V)}{vs:List (Key × Value)},KV kvs vs->KV (lO kvs J) (merged vs L)
 |_,_,.nil,_,_,r=>r
 |_,_,.cons (a:=p) (b:=q) h t,kvs,vs,r=>by
  obtain⟨h1,h2⟩:=h;have:=KV.puts t (r.put p.1 h2);unfold lO merged at this ⊢;rw[Q21,Q21,<-h1];exact this
theorem Ls (kvs:List (Key × V))(k:Key)(v:V):(putK kvs k v).length<=kvs.length+1:=by
 unfold putK;split
 . rw[Q04];omega
 . rw[Q09];exact Q00 _
theorem EH:∀(J kvs:List (Key × V)),(lO kvs J).length<=kvs.length+J.length
 |[],kvs=>Q00 _
 |p::r,kvs=>by
  have:=EH r (putK kvs p.1 p.2);have h2:=Ls kvs p.1 p.2;have e:lO kvs (p::r)=lO (putK kvs p.1 p.2) r:=rfl;rw[e,Q0h];omega
section
variable {X:Cx}
def Lu:V->List V->Hp->VK->Prop:=λx vs H Q=>∃a b kvs J,x=.ref a/\vs=[.ref b]/\a≠b/\H a=some (.dK kvs)/\H b=some (.dK J)/\kvs.length+J.length<=sizeLine/\Q .non (upd H a (.dK (lO kvs J)))
theorem Lv:uU X "dict.update" Lu:=by
 intro pins s σ H x vs v us Q I rx rv h;obtain⟨a,b,kvs,Y,rfl,rfl,ne,hA,hB,hz,q⟩:=h;obtain⟨u,rfl,ru⟩:=vals1 rv
 cases rx
 cases ru;obtain⟨z,hd,wa,L,dd⟩:=rQ I.hok hA;obtain⟨z2,aa,wb,J,ab⟩:=rQ I.hok hB;refine call_meetsIn PySem.F.slot_dict_update dd.typeIs PySem.F.entry_dict_update (PySem.F.args_dict_update_2 _ _) (meets_dict_update (iV X.prog X.w) a b ne aa) ⟨wa,wb,dd,ab,by rw[<-L.length,<-J.length];exact hz,λh' U _ hs=>?_⟩;have he:∃q,h'.get? a=some q:=let⟨q,_,_,hq,_⟩:=U;⟨q,hq⟩
 exact⟨.non,_,u3 (t':=s.toks) I (by rw[hA];exact True.intro) hs he (Ce (Q0g (EH Y kvs) hz) hd (J.puts L) U),rfl,q⟩
end
end L2
namespace Pb
open L2 PyProof.Rows
noncomputable def Lw (st:Stmt):Pos:=match jz st with
 | .Assign _ (.Call _ [.Call _ _ [⟨_,.Lambda _ _ _ J,_⟩] _] _ _) _::_=>J
 |_=>⟨0,0,0,0⟩
noncomputable abbrev jF:Pos:=Lw (top 7)
noncomputable abbrev jG:Str:=("sorted_fields":Str)++".<locals>."++"<lambda>"
abbrev jd (Pt:Addr) (H H':Hp):Prop:=Kp (λc=>c=Pt) H H'
theorem jd.tu {Pt:Addr}{H H':Hp}{J:Pos}{L:Str}(x:jd Pt H H')(hT:gJ Pt J L H):Tu H H':=λc xs h=>by
 obtain⟨ps,U⟩:=hT.tab;exact x c _ (jK h U (by intro z;cases z)) h
def EI (K:W.Frag) (Pt:Addr):Sp:=λvs H Q E=>∃l J,vs=[.ref l]/\gi K H l (iM J)/\lJ H J/\J.length<=13/\gJ Pt jF jG H/\(nms J).Nodup/\(nms J).Pairwise sle/\
 (∀t H',jd Pt H H'->gJ Pt jF jG H'->H' t=some (.tup (iM J))->Q (.ref t) H')
def EJ (K:W.Frag) (Pt:Addr):Sp:=λvs H Q E=>∃l J,vs=[.ref l]/\gi K H l (iM J)/\lJ H J/\J.length<=13/\gJ Pt jF jG H/\(nms J).Nodup/\(nms J).Pairwise sle/\
 (∀r t H',jd Pt H H'->gJ Pt jF jG H'->H' t=some (.tup (iM J))->H' r=some (.tup [.str "record",.ref t])->Q (.ref r) H')
theorem Lx {J:List Qd}{i:Nat}{v:V}(h:(iM J)[i]? =some v):∃q,J[i]? =some q/\q.1=v:=by
 have h:(J.map (·.1))[i]? =some v:=h;rw[Q0j] at h
 cases e:J[i]? with
 |none=>rw[e] at h;cases h
 |some q=>rw[e] at h;exact⟨q,rfl,Option.some.inj h⟩
theorem qR (J:List Qd):(iM J).length=J.length:=Q04 _
theorem tf (J:List Qd):(nms J).length=J.length:=Q04 _
noncomputable def q0:Qd:=(.non,"",false)
theorem Ly (J:List Qd)(p:List Nat):iM (p.map λi=>J.getD i q0)=p.map λi=>(iM J).getD i .non:=by
 unfold iM;rw[Q1t];refine Q1e λi _=>?_;show(J.getD i q0).1=_;rw[Q0f,Q0f,Q0j]
 cases J[i]? <;> rfl
theorem Lz (J:List Qd){p:List Nat}(h:p.Perm (List.range J.length)):(p.map λi=>J.getD i q0).Perm J:=by
 have:=h.map λi=>J.getD i q0;rw[CQ] at this;exact this
theorem ti {x:Str}{ss:List Str}:inV (.str x) (ss.map V.str)=decide (x∈ss):=by
 unfold inV;rw[Q2n];have:∀y:Str,((λy=>mL y (V.str x)) ∘ V.str) y=decide (y=x):=λy=>rfl
 induction ss with
 |nil=>rfl
 |cons y r J=>
  rw[Q1b,J,this];by_cases e:y=x
  . rw[decide_eq_true e,decide_eq_true (show x∈y::r by rw[e];exact Q02)];rfl
  . rw[decide_eq_false e];by_cases h:x∈r
    . rw[decide_eq_true h,decide_eq_true (Q06 _ h)];rfl
    . rw[decide_eq_false h,decide_eq_false λz=>(List.mem_cons.mp z).elim (λz=>e z.symm) h];rfl
theorem tm:∀{ss:List Str},(ss.map V.str).all mK=true
 |[]=>rfl
 |x::r=>by rw[Q0w,Q2a,tm];rfl
noncomputable def Fs.gR (ss:List Str):Fs->Fs
 | .nil=>.nil
 | .cons x k r=>if x∈ss then .cons x k (r.gR ss) else r.gR ss
noncomputable def i4 (ss:List Str) (xs:List V) (ns:List Str):List V:=((xs.zip ns).filter λq=>decide (q.2∈ss)).map (·.1)
theorem FA.few {H:Hp}{ss:List Str}:∀{xs:List V}(fs:Fs),FA H xs fs->FA H (i4 ss xs fs.names) (fs.gR ss)
 |xs,.nil,h=>by
  unfold FA at h;subst h;show FA H [] .nil;unfold FA;rfl
 |xs,.cons x k r,h=>by
  unfold FA at h;obtain⟨c,u,L,rfl,h1,h2,U⟩:=h;have J:=FA.few (ss:=ss) r U;show FA H (i4 ss (.ref c::L) (x::r.names)) (if x∈ss then .cons x k (r.gR ss) else r.gR ss);unfold i4;rw[Q2i,Q1g];by_cases e:x∈ss
  . rw[if_pos e,if_pos (decide_eq_true e),Q0w];unfold FA;exact⟨c,u,_,rfl,h1,h2,J⟩
  . rw[if_neg e,if_neg (by rw[decide_eq_false e];decide)];exact J
theorem Fs.k7 (ss:List Str):∀fs:Fs,(fs.gR ss).names=fs.names.filter λx=>decide (x∈ss)
 | .nil=>rfl
 | .cons x k r=>by
   show(if x∈ss then Fs.cons x k (r.gR ss) else r.gR ss).names=(x::r.names).filter _;rw[Q1g];by_cases e:x∈ss
   . rw[if_pos e,if_pos (decide_eq_true e)];show x::(r.gR ss).names=_;rw[Fs.k7 ss r]
   . rw[if_neg e,if_neg (by rw[decide_eq_false e];decide)];exact Fs.k7 ss r
theorem Fs.pT (ss:List Str):∀{fs:Fs}{x:Str},(fs.gR ss).get x=if x∈ss then fs.get x else none
 | .nil,x=>by
   show none=_;split <;> rfl
 | .cons y k r,x=>by
   have J:=Fs.pT ss (fs:=r) (x:=x);show(if y∈ss then Fs.cons y k (r.gR ss) else r.gR ss).get x=if x∈ss then(if x=y then some k else r.get x) else none
   by_cases e:y∈ss
   . rw[if_pos e];show(if x=y then some k else(r.gR ss).get x)=_;by_cases z:x=y
     . rw[if_pos z,if_pos (by rw[z];exact e),if_pos z]
     . rw[if_neg z,J,if_neg z]
   . rw[if_neg e,J];by_cases z:x∈ss
     . rw[if_pos z,if_pos z,if_neg λq=>e (by rw[<-q];exact z)]
     . rw[if_neg z,if_neg z]
theorem Fs.tq (ss:List Str):∀{fs:Fs},fs.W->(fs.gR ss).W
 | .nil,h=>h
 | .cons y k r,h=>by
   unfold Fs.W at h;show(if y∈ss then Fs.cons y k (r.gR ss) else r.gR ss).W;split
   . unfold Fs.W;exact⟨h.1,Fs.tq ss h.2⟩
   . exact Fs.tq ss h.2
structure Dm (K:W.Frag) (x qual:Str) (ps:List Str) (st:Stmt) (f:Addr) (fd:FuncData):Prop where
 F:l7 K x qual st f fd
 b:Binds K fd ps []
variable {P:Program}{w:World}{K:W.Frag}{mg:Str->Option Value}{base:Heap}
theorem EK:gP ["pairs","fields","number","name"] ["pairs"] (gC (top 7)):=gT
theorem LA {Pt c:Addr}(T:Tb mg)(U:Dn K mg "sorted_fields" mY (top 7) Y L)(ae:L.code=.ref c)(ar:W.CodeHd base c Pt)(au:BM mg base):d_ P w K mg base f_ (8) Y L mY (EI K Pt):=by
 refine U.F.C5 ae EK (λvs H Q E h=>?_) (λA outer s H vs Q E hr h=>?_)
 . obtain⟨l,J,rfl,_⟩:=h;rfl
 obtain⟨l,J,rfl,hl,hp,az,hT,ag,av,q1⟩:=h;have nd:=EK.nd;have hu:=Cm hr
 refine⟨_,(gh (gD 1 nd (nt rP (by rfl) T.pK boot_tuple (a_ (JN (te:=(iD (kx K) (ik 0) (tC (.int 0)))) (x:="pair") (N':=["","","",""]) rfl T.vD boot_sorted hr rfl rfl ar au (ny.of (N:=["pairs","fields","number","name"]) (sc:=gC (top 7)) rfl rfl rfl rfl rfl (by decide +kernel)) rfl (λ_ _ _ _ _=>rfl) (pv 0) (λ_ _ _ _ _=>(gp (pv 0) c_))) b_)))
  (gh (jo PassesOwn.never rfl (Hg rfl T.pI (a_ c_ (a_ (g7 jC (by rfl) T.jc PySem.boot_len (a_ (pv 1) b_)) b_))) (g5 (i:=2) nd rfl iA) (gh (gD 3 nd (gp (gp (pv 1) (pv 2)) c_))
  (gm (gF (gI gX (pv 3) (gp (gp (pv 1) (gy l5 (pv 2) c_)) c_) (gE _)) (gm rB) gH))))
  (gm (gv (pv 1))))),?_⟩
 ac_rfl
 refine⟨_,rfl,l,iM J,rfl,hl,by rw[qR];omega,hT,λc' H2 ah mono=>?_⟩;have g6:jd Pt H H2:=λcc o hc e=>mono cc o hc e;have ai:lJ H2 J:=hp.mono (g6.tu hT);refine⟨λks H3=>H3=H2/\ks.length<=J.length/\ks=((nms J).map V.str).take ks.length,⟨rfl,Q0d _,rfl⟩,λks H3 hw=>by rw[hw.1];exact ah,?_,?_⟩
 . rintro ks H3 yv ⟨rfl,aA,aa⟩ hy;obtain⟨qq,hq,rfl⟩:=Lx hy;obtain⟨cc,u,ec,hc,hk⟩:=ai qq (Q0x hq);obtain⟨qv,qn,qb⟩:=qq;have ec:qv=.ref cc:=ec;subst ec;have aw:ks.length<J.length:=(List.getElem?_eq_some_iff.mp hq).1;refine⟨_,rfl,cc,_,_,_,rfl,rfl,e_.of hc,rfl,rfl,by rw[Q09];exact aw,?_⟩;rw[Q09];show _=List.take (ks.length+1) _;rw[Q0t,<-aa,Q0j]
   have:(nms J)[ks.length]? =some qn:=by
    show(J.map (·.2.1))[ks.length]? =_;rw[Q0j,hq];rfl
   rw[this];rfl
 . rintro ks H3 ⟨rfl,_,aa⟩ ap
   have aa:ks=(nms J).map V.str:=by
    rw[aa,ap,qR,Q0z (by rw[Q04,tf];exact Q00 _)]
   refine⟨nms J,aa,λp ac hs D hD=>?_⟩;rw[qR] at ac;rw[<-Ly];have af:=Lz J ac
   have aq:(nms (p.map λi=>J.getD i q0)).Pairwise sle:=by
    show((p.map λi=>J.getD i q0).map (·.2.1)).Pairwise sle;rw[Q1t,Q1z];rw[Q1z] at hs;refine List.Pairwise.imp_of_mem (λ{i j} hi hj h=>?_) hs
    have ge:∀i∈p,((nms J).map i3).getD i []=i3 (J.getD i q0).2.1:=λi hi=>by
     have ax:i<J.length:=by
      have:=ac.mem_iff.mp hi;simpa using this
     unfold nms;rw[Q0f,Q0f,Q0j,Q0j,Q05 ax];rfl
    rw[ge i hi,ge j hj] at h;exact h
   have ay:(p.map λi=>J.getD i q0)=J:=Kb af aq av ag;rw[ay];refine⟨D,iM J,rfl,.inl ⟨gi.of gu,λt ht=>?_⟩⟩;have sD:Same H3 (upd H3 D (.lst (iM J))):=Same.new hD;have s5:Same H3 (upd (upd H3 D (.lst (iM J))) t (.tup (iM J))):=sD.trans (Same.new ht);have aj:jd Pt H (upd (upd H3 D (.lst (iM J))) t (.tup (iM J))):=g6.trans (Kp.of s5);have ak:gJ Pt jF jG (upd (upd H3 D (.lst (iM J))) t (.tup (iM J))):=.inr ⟨c',ah.mono λb o _ e=>s5 _ _ e⟩;have ab:upd (upd H3 D (.lst (iM J))) t (.tup (iM J)) t=some (.tup (iM J)):=gu;have al:lJ (upd (upd H3 D (.lst (iM J))) t (.tup (iM J))) J:=ai.mono (Tu.of s5);generalize upd (upd H3 D (.lst (iM J))) t (.tup (iM J))=H5 at aj ak ab al
   have am:∀j,j<J.length->∃cc u,(iM J)[j]? =some (.ref cc)/\H5 cc=some (.tup [.str ((nms J).getD j ""),u]):=λj hj=>by
    obtain⟨cc,u,ec,hc,_⟩:=al J[j] (Q1m hj);refine⟨cc,u,?_,?_⟩
    . show(J.map (·.1))[j]? =_;rw[Q0j,Q05 hj];exact congrArg some ec
    . have e:(nms J).getD j ""=J[j].2.1:=by
       unfold nms;rw[Q0f,Q0j,Q05 hj];rfl
      rw[e];exact hc
   refine⟨_,rfl,t,_,rfl,.inr (e_.of ab),_,_,rfl,⟨by decide,by decide,by omega,by rw[qR];omega⟩,oV (lo:=1) (n:=(((iM J).length:Int) - 1).toNat) (λk σ H'=>H'=H5/\∃y z,σ=[some (.ref l),some (.ref t),y,z]) ⟨rfl,_,_,rfl⟩ ?_ ?_⟩
   . rintro k σ H' hk ⟨rfl,y,z,rfl⟩;rw[qR] at hk;obtain⟨c1,u1,a1,b1⟩:=am (k+1) (by omega);obtain⟨c2,u2,a2,b2⟩:=am k (by omega)
     have e1:iY (iM J) ((1:Int)+(k:Int))=some (.ref c1):=by
      have:=iZ (j:=k+1) a1;rw[show((1:Int)+(k:Int))=((k+1:Nat):Int) by omega];exact this
     have e2:iY (iM J) ((1:Int)+(k:Int) - 1)=some (.ref c2):=by
      have:=iZ (j:=k) a2;rw[show((1:Int)+(k:Int) - 1)=((k:Nat):Int) by omega];exact this
     refine⟨_,rfl,_,rfl,t,_,_,_,rfl,rfl,e_.of ab,e1,c1,_,_,_,rfl,rfl,e_.of b1,rfl,?_⟩;refine⟨_,rfl,_,rfl,_,rfl,_,_,rfl,rfl,t,_,_,_,rfl,rfl,e_.of ab,e2,c2,_,_,_,rfl,rfl,e_.of b2,rfl,rfl,_,rfl,iL (λcc=>?_) λcc=>⟨rfl,_,_,rfl⟩⟩
     have e:(nms J).getD (k+1) ""=(nms J).getD k "":=by
      have:=of_decide_eq_true cc;injection this
     have an:k+1<(nms J).length:=by rw[tf];omega
     have ao:k<(nms J).length:=by rw[tf];omega
     rw[Q0f,Q0f,Q05 an,Q05 ao] at e;have e:(nms J)[k+1]=(nms J)[k]:=e;exact absurd e.symm (List.pairwise_iff_getElem.mp ag k (k+1) ao an (by omega))
   . rintro σ H' ⟨rfl,y,z,rfl⟩;exact⟨_,rfl,q1 t _ aj ak ab⟩
theorem LB:gP ["pairs"] ["pairs"] (gC (top 8)):=gT
theorem LC {Pt:Addr}(T:Tb mg)(aa:Dn K mg "record_of" mY (top 8) ab ac)(J:Dn K mg "sorted_fields" mY (top 7) L U)(Y:d_ P w K mg base f_ (8) L U mY (EI K Pt)):d_ P w K mg base f_ (9) ab ac mY (EJ K Pt):=by
 refine aa.F.ok LB λvs H Q E h=>?_;obtain⟨l,qs,rfl,hl,hp,ag,hT,ah,ai,q1⟩:=h;refine⟨rfl,λak A outer s nd hr hu=>?_⟩;refine⟨_,(gm (gv (iw (a_ gK (a_ (gz Y hr J (a_ (pv 0) b_)) b_))))),?_⟩
 ac_rfl
 refine⟨_,rfl,l,qs,rfl,hl,hp,ag,hT,ah,ai,λt H' kp aj af=>?_⟩;refine⟨iq,λr ae=>?_⟩;exact q1 r t _ (kp.trans (Kp.of (Same.new ae))) (aj.same (Same.new ae)) (by rw[gj (gB af ae)];exact af) gu
abbrev LD:R2:=λx y H Q=>y=.non/\Q (.bl (!decide (x=.non))) H
theorem Fs.m8:∀{fs:Fs}{x:Str},x∈fs.names->∃k,fs.get x=some k
 | .nil,_,h=>nomatch h
 | .cons y q r,x,h=>by
   by_cases e:x=y
   . exact⟨q,by show(if x=y then some q else r.get x)=_;rw[if_pos e]⟩
   . obtain⟨k,hk⟩:=Fs.m8 (fs:=r) (x:=x) ((List.mem_cons.mp h).resolve_left e);exact⟨k,by show(if x=y then some q else r.get x)=_;rw[if_neg e];exact hk⟩
noncomputable def iU (f:Str->V) (ss:List Str):List (Key × V):=ss.map λx=>(Sum.inr x,f x)
theorem v_ (f:Str->V):∀(ss:List Str) (x:Str),h6 (iU f ss) (Sum.inr x)=if x∈ss then some (f x) else none
 |[],x=>by
  rw[if_neg (by simp)];rfl
 |y::r,x=>by
  show h6 ((Sum.inr y,f y)::iU f r) (Sum.inr x)=_;by_cases e:y=x
  . rw[oY (by show Sum.inr y=Sum.inr x;rw[e]),if_pos (by rw[e];exact Q02)];show some (f y)=_;rw[e]
  . rw[oZ (λz=>e (Sum.inr.inj z)),v_ f r x];by_cases h:x∈r
    . rw[if_pos h,if_pos (Q06 _ h)]
    . rw[if_neg h,if_neg λz=>(List.mem_cons.mp z).elim (λz=>e z.symm) h]
theorem LF (f:Str->V){ss:List Str}{x:Str}(h:x ∉ ss):putK (iU f ss) (Sum.inr x) (f x)=iU f (ss++[x]):=by
 unfold putK;rw[if_neg]
 . unfold iU;rw[Q0m];rfl
 . rw[oq,v_,if_neg h]
   decide
theorem LG (f:Str->V)(ss:List Str):(iU f ss).length=ss.length:=Q04 _
theorem wc {ss:List Str}{i:Nat}{v:V}(h:(ss.map V.str)[i]? =some v):∃x,ss[i]? =some x/\v=.str x:=by
 rw[Q0j] at h
 cases e:ss[i]? with
 |none=>rw[e] at h;cases h
 |some x=>rw[e] at h;exact⟨x,rfl,(Option.some.inj h).symm⟩
theorem LH (ss:List Str):((List.range ss.length).map λi=>(Sum.inr (ss.getD i ""):Key))=ss.map Sum.inr:=by
 refine Q2e (by simp) λi h1 h2=>?_;have hi:i<ss.length:=by simpa using h2
 rw[Q2d,List.getElem_range,Q2d,Q0f,Q05 hi];rfl
theorem gi.qS {K:W.Frag}{H H':Hp}{l:Addr}{xs:List V}(h:gi K H l xs)(s:Same H H'):gi K H' l xs:=by
 rcases h with(h|⟨o,h⟩)|h
 . exact .inl (.inl (s _ _ h))
 . exact .inl (.inr ⟨o,s _ _ h⟩)
 . exact .inr h
def tw:Sp:=λvs H Q _=>vs=[.bl true]/\Q .non H
def EL (K:W.Frag):Sp:=λvs H Q _=>∃kk t l xs fs,∃ss:List Str,vs=[.ref kk,.ref l]/\H kk=some (.tup [.str "record",.ref t])/\H t=some (.tup xs)/\FA H xs fs/\fs.names.Nodup/\gi K H l (ss.map V.str)/\ss.Nodup/\ss.length<=12/\(∀x∈ss,x∈fs.names)/\∀H',Same H H'->Q (.bl true) H'
def EN (tu:Bool) (K:W.Frag):Sp:=λvs H Q _=>∃t l xs fs,∃ss:List Str,vs=[.ref t,.ref l]/\H t=some (Ep tu xs)/\FA H xs fs/\fs.names.length<=12/\gi K H l (ss.map V.str)/\∀p H',Same H H'->H' p=some (.lst (i4 ss xs fs.names))->H p=none->Q (.ref p) H'
def ER (K:W.Frag):Sp:=λvs H Q _=>∃a l kvs,∃ss:List Str,∃f:Str->V,vs=[.ref a,.ref l]/\H a=some (.dK kvs)/\gi K H l (ss.map V.str)/\ss.Nodup/\ss.length<=12/\(∀x∈ss,h6 kvs (Sum.inr x)=some (f x))/\∀p H',Same H H'->H' p=some (.dK (iU f ss))->H p=none->Q (.ref p) H'
theorem LI:gP ["stands"] ["stands"] (gC (top 22)):=gT
theorem LJ (T:Tb mg)(J:Dn K mg "ask_stands" nJ (top 22) L U):d_ P w K mg base f_ (1) L U nJ (tw):=by
 refine J.F.ok LI λvs H Q E h=>?_;obtain⟨rfl,q⟩:=h;refine⟨rfl,λY A outer s nd hr hu=>?_⟩;refine⟨_,(gm (gF (i7 (iG (pv 0))) (gm rB) gH)),?_⟩
 ac_rfl
 exact⟨_,rfl,true,rfl,gY q⟩
theorem LK:gP Xh Xh (gC (top 30)):=gT
theorem LL (T:Tb mg)(J:Dn K mg "has_each_once" sy (top 30) L U)(Y:Dn K mg "kind_at" oA (top 6) aa ab)(ac:d_ P w K mg base f_ (1) aa ab oA (vX)):d_ P w K mg base f_ (3) L U sy (EL K):=by
 refine J.F.ok LK λvs H Q E h=>?_;obtain⟨kk,t,l,xs,fs,ss,rfl,af,ht,ai,aj,hl,ak,ap,al,q⟩:=h;refine⟨rfl,λaq A outer s nd hr hu=>?_⟩
 refine⟨_,(gh (gF (gI mH (g7 Lq (by rfl) T.jc PySem.boot_len (a_ (nt (Lp rfl) (by rfl) T.Kf boot_set (a_ (pv 1) b_)) b_)) (g7 jC (by rfl) T.jc PySem.boot_len (a_ (pv 1) b_)) (gE _)) (gm (gv jk)) gH)
  (gm (gv (oQ (mI gX (gp (pv 0) c_) gK (gE _)) (qg (g7 (rT rfl) (by rfl) T.su boot_all (a_ (kP (g:=(je 0)) (tt:=lD) (te:=(iD LD (nr _ _ _ (ja (iD (kx K) (ik 1) (tC (.int 1))) (ja (ik 0) kO))) (tC .non))) (own:=["name"]) rfl (kB (N:=Xh) (sc:=gC (top 30))) (mF (pv 1)) (λ_ _ _ _ _=>(g5 (i:=0) (show(["name","kind","names"]:List Str).Nodup by decide +kernel) rfl (Or.inl rfl) (.inr rfl))) (λ_ _ _ _ _=>mP) (λ_ _ _ _ _=>(mI lB (gz ac hr Y (a_ (gp (pv 1) c_) (a_ (pv 0) b_))) i_ (gE _)))) b_))))))),?_⟩
 ac_rfl
 refine⟨_,rfl,l,ss,rfl,hl,by omega,λp hp=>?_⟩;have s1:Same H (upd H p (s_ P w p (jn (λi=>Sum.inr (ss.getD i "")) ss.length).length)):=Same.new hp
 have am:(jn (λi=>(Sum.inr (ss.getD i ""):Key)) ss.length).length=ss.length:=by
  have hn:((List.range ss.length).map λi=>(Sum.inr (ss.getD i ""):Key)).Nodup:=by
   rw[LH];exact List.Pairwise.map _ (λa b h z=>h (Sum.inr.inj z)) ak
  rw[EG hn,Q04,Q2]
 refine⟨p,_,rfl,gu,?_⟩;have ae:gi K (upd H p (s_ P w p (jn (λi=>Sum.inr (ss.getD i "")) ss.length).length)) l (ss.map V.str):=(Pb.gi.qS hl s1);rw[am] at s1 ae ⊢;refine⟨_,rfl,l,_,rfl,.inl ae,rfl,_,rfl,mO (by rw[Q04]) ?_⟩;refine⟨_,rfl,kk,_,_,_,rfl,rfl,e_.of (s1 _ _ af),rfl,rfl,_,rfl,?_⟩;rw[decide_eq_true rfl];refine i5 ?_;have an:=s1 _ _ ht;have ag:=s1 _ _ af;have ah:=FA.mono (Tu.of s1) fs ai;refine⟨_,rfl,l,rfl,⟨_,ae⟩,qQ (En ae) (λi=>(List.replicate i true).map V.bl) (by rw[Q04];omega) (λp hp=>⟨p,_,rfl,gi.of gu,?_⟩) (λi x hx add _=>?_)⟩
 . rw[v7];exact q _ (s1.trans (Same.new hp))
 . obtain⟨s,hs,rfl⟩:=List.mem_map.mp (Q0x hx);obtain⟨k,hk⟩:=Fs.m8 (al _ hs);refine⟨rfl,yes (i5 ?_)⟩;refine⟨_,rfl,kk,_,_,_,rfl,rfl,e_.of ag,rfl,_,rfl,t,s,xs,fs,k,rfl,an,ah,aj,hk,λu hu ao=>⟨rfl,add _ ?_⟩⟩;rw[decide_eq_false ao,List.replicate_succ',Q0m];rfl
theorem LM:gP Xf Xf (gC (top 31)):=gT
theorem ES {H:Hp}{xs:List V}{fs:Fs}{i:Nat}{x:V}(J:FA H xs fs)(U:xs[i]? =some x):∃c u nm,x=.ref c/\H c=some (.tup [.str nm,u])/\(xs.zip fs.names)[i]? =some (.ref c,nm):=by
 obtain⟨c,u,nm,k,rfl,L,hc,hk⟩:=FA.get fs J U;refine⟨c,u,nm,rfl,hc,?_⟩;rw[List.getElem?_zip_eq_some,Fs.ky,L];exact⟨U,rfl⟩
theorem LN (tu:Bool)(T:Tb mg)(L:Dn K mg "fields_among" sC (top 31) U Y):d_ P w K mg base f_ (1) U Y sC (EN tu K):=by
 refine L.F.ok LM λvs H Q E h=>?_;obtain⟨t,l,xs,fs,ss,rfl,ht,aa,ab,hl,q⟩:=h;refine⟨rfl,λac A outer s nd hr hu=>?_⟩;refine⟨_,(gm (gv (kP (g:=(je 0)) (tt:=(mJ (iD (uX K false) (iD (kx K) (ik 0) (tC (.int 0))) (ik 2)))) (te:=(ik 0)) (own:=["pair"]) rfl (kB (N:=Xf) (sc:=gC (top 31))) (K9 tu (pv 0)) (λ_ _ _ _ _=>(g5 (i:=0) (show(["pair","fields","names"]:List Str).Nodup by decide +kernel) rfl (Or.inl rfl) (.inr rfl))) (λ_ _ _ _ _=>(rS (gI uY (gp (pv 0) c_) (pv 2) (by with_unfolding_all rfl)))) (λ_ _ _ _ _=>(pv 0))))),?_⟩
 ac_rfl
 have ae:=FA.len fs aa;refine K_ (sZ.of ht) (λJ hJ=>qQ hJ (λi=>(((xs.zip fs.names).take i).filter λq=>inV (V.str q.2) (ss.map V.str)).map (·.1)) (by omega) (λp hp=>?_) (λi x hx add skip=>?_)) (λ_ h=>⟨_,rfl,h⟩)
 . refine q p _ (Same.new hp) ?_ hp;rw[gu,Q0z (by rw[Q3i];omega)];unfold i4;simp only[ti]
 . obtain⟨c,u,nm,rfl,hc,hz⟩:=ES aa hx;exact⟨rfl,_,rfl,c,_,_,_,rfl,rfl,e_.of hc,rfl,_,rfl,l,_,rfl,.inl hl,rfl,tm,_,rfl,iL (λcc=>⟨_,rfl,add _ (Er hz cc)⟩) (λcc=>skip (Es hz cc))⟩
theorem LO:gP ["record","names","part","name"] ["record","names"] (gC (top 32)):=gT
theorem LP (T:Tb mg)(J:Dn K mg "part_of" sE (top 32) L U):d_ P w K mg base f_ (1) L U sE (ER K):=by
 refine J.F.ok LO λvs H Q E h=>?_;obtain⟨a,l,kvs,ss,f,rfl,ha,hl,aa,ae,hv,q⟩:=h;refine⟨rfl,λaf A outer s nd hr hu=>?_⟩
 refine⟨_,(gh (gD 2 nd nv)
  (gh (jo PassesOwn.never rfl (mF (pv 1)) (g5 (i:=3) nd rfl iA) (gm (l6 hu (pv 2) (pv 3) (jN hu (pv 0) (pv 3) (λ_ _=>rfl)) rfl)))
  (gm (gv (pv 2))))),?_⟩
 ac_rfl
 intro p hp;have s0:Same H (upd H p (.dK [])):=Same.new hp;refine⟨_,rfl,l,rfl,⟨_,(Pb.gi.qS hl s0)⟩,rF (xs:=ss.map V.str) (λi σ H'=>Same H H'/\(∃z,σ=[some (.ref a),some (.ref l),some (.ref p),z])/\H' p=some (.dK (iU f (ss.take i)))) ⟨s0,⟨_,rfl⟩,gu⟩ ?_ ?_ ?_⟩
 . rintro i σ H' _ ⟨s1,_⟩;exact(Pb.gi.qS hl s1)
 . rintro i v σ H' ab ⟨s1,⟨z,rfl⟩,Y⟩;obtain⟨x,hx,rfl⟩:=wc ab;have hi:i<ss.length:=(List.getElem?_eq_some_iff.mp hx).1;have ac:ss[i]=x:=(List.getElem?_eq_some_iff.mp hx).2;refine⟨_,rfl,_,rfl,a,f x,rfl,?_,_,rfl,_,rfl,p,_,rfl,j8.k (k:=Sum.inr x) Y (by rw[LG,Q0p];exact iB (by omega)),?_⟩
   . have:=ip.k (k:=Sum.inr x) (s1 _ _ ha);rw[hv x (Q0x hx)] at this;exact this
   . refine⟨λc o e=>?_,⟨_,rfl⟩,?_⟩
     . rw[gj]
       . exact s1 c o e
       . exact gB e hp
     . rw[gu,LF f,Q0t,hx]
       . rfl
       . intro hm;obtain⟨j,hj,e⟩:=Q0y hm;rw[Q0p] at hj;rw[Q23] at e;exact absurd (e.trans ac.symm) (List.pairwise_iff_getElem.mp aa j i (by omega) hi (by omega))
 . rintro σ H' ⟨s1,⟨z,rfl⟩,Y⟩;rw[Q04,Q2m] at Y;exact⟨_,rfl,q p _ s1 Y hp⟩
noncomputable def ie (δ:Str->D):List Str->Ds
 |[]=>.nil
 |x::r=>.cons x (δ x) (ie δ r)
theorem mf (δ:Str->D):∀l:List Str,(ie δ l).names=l
 |[]=>rfl
 |x::r=>by show x::(ie δ r).names=_;rw[mf δ r]
theorem wd (δ:Str->D):∀l:List Str,(ie δ l).len=l.length
 |[]=>rfl
 |x::r=>by show(ie δ r).len+1=r.length+1;rw[wd δ r]
theorem nQ (δ:Str->D):∀{l:List Str}{x:Str},x∈l->(ie δ l).get x=some (δ x)
 |y::r,x,h=>by
  show(if x=y then some (δ y) else(ie δ r).get x)=_;by_cases e:x=y
  . rw[if_pos e,e]
  . rw[if_neg e];exact nQ δ ((List.mem_cons.mp h).resolve_left e)
theorem we (δ:Str->D){n:Nat}:∀{l:List Str},(∀x∈l,(δ x).dep<=n)->(ie δ l).dep<=n
 |[],_=>Q0d _
 |x::r,h=>by
  have:=we δ (l:=r) λy J=>h y (Q06 _ J);have:=h x Q02;show max (δ x).dep (ie δ r).dep<=n;omega
theorem wg (δ:Str->D):∀{l:List Str},(∀x∈l,(δ x).Sm)->(ie δ l).Sm
 |[],_=>by unfold ie Ds.Sm;trivial
 |x::r,h=>by
  unfold ie Ds.Sm;exact⟨h x Q02,wg δ λy J=>h y (Q06 _ J)⟩
theorem ET {δ J:Str->D}:∀{l:List Str},(∀x∈l,δ x=J x)->ie δ l=ie J l
 |[],_=>rfl
 |x::r,h=>by
  show Ds.cons x (δ x) (ie δ r)=.cons x (J x) (ie J r);rw[h x Q02,ET λy L=>h y (Q06 _ L)]
theorem wm {H:Hp}{f:Str->V}{δ:Str->D}{S:Addr->Prop}:∀{l:List Str},(∀x∈l,∃fp,Own H (f x) (δ x) fp/\∀c∈fp,S c)->∃fp,gx H (iU f l) (ie δ l) fp/\∀c∈fp,S c
 |[],_=>⟨[],by unfold ie gx;exact⟨rfl,rfl⟩,λc hc=>nomatch hc⟩
 |x::r,h=>by
  obtain⟨J,h1,s1⟩:=h x Q02;obtain⟨L,h2,U⟩:=wm (l:=r) λy Y=>h y (Q06 _ Y);refine⟨J++L,?_,λc hc=>(List.mem_append.mp hc).elim (s1 c) (U c)⟩;unfold ie gx;exact⟨f x,_,J,L,rfl,rfl,h1,h2⟩
theorem EU {δ:Str->D}:∀{fs:Fs},fs.names.Nodup->(∀x k,fs.get x=some k->gU k (δ x))->iy fs (ie δ fs.names)
 | .nil,_,_=>by unfold Fs.names ie iy;rfl
 | .cons x k r,J,h=>by
   have J:(x::r.names).Nodup:=J;obtain⟨U,Y⟩:=List.nodup_cons.mp J;show iy (.cons x k r) (.cons x (δ x) (ie δ r.names));unfold iy;refine⟨_,_,rfl,h x k (by show(if x=x then some k else _)=_;rw[if_pos rfl]),EU Y λy q L=>h y q ?_⟩;show(if y=x then some k else r.get y)=_;rw[if_neg λz=>U (by rw[<-z];exact Fs.get_mem L)];exact L
noncomputable def Ds.v (m:Ds) (x:Str):D:=(m.get x).getD (.int 0)
theorem Ds.pU {m:Ds}{x:Str}{d:D}(h:m.get x=some d):m.v x=d:=by unfold Ds.v;rw[h];rfl
theorem Ds.get_name:∀{m:Ds}{x:Str},x∈m.names->∃d,m.get x=some d
 | .cons y d r,x,h=>by
   by_cases e:x=y
   . exact⟨d,by show(if x=y then some d else r.get x)=_;rw[if_pos e]⟩
   . obtain⟨d',h'⟩:=Ds.get_name (m:=r) ((List.mem_cons.mp h).resolve_left e);exact⟨d',by show(if x=y then some d else r.get x)=_;rw[if_neg e];exact h'⟩
theorem Ds.pV:∀{m:Ds}{x:Str}{d:D},m.get x=some d->x∈m.names
 | .nil,_,_,h=>by cases h
 | .cons y e r,x,d,h=>by
   have h:(if x=y then some e else r.get x)=some d:=h;show x∈y::r.names;by_cases c:x=y
   . rw[c];exact Q02
   . rw[if_neg c] at h;exact Q06 _ (Ds.pV h)
theorem gx.EV {H:Hp}:∀{m:Ds}{kvs:List (Key × V)}{fp:List Addr},gx H kvs m fp->m.names.Nodup->kvs=iU (λx=>(h6 kvs (Sum.inr x)).getD .non) m.names
 | .nil,kvs,fp,h,_=>by
   unfold gx at h;rw[h.1];rfl
 | .cons y d r,kvs,fp,h,J=>by
   unfold gx at h;obtain⟨v,q,f1,f2,rfl,rfl,h1,h2⟩:=h;have J:(y::r.names).Nodup:=J;obtain⟨L,U⟩:=List.nodup_cons.mp J;have Y:(h6 ((Sum.inr y,v)::q) (Sum.inr y)).getD .non=v:=by rw[oY (p:=(Sum.inr y,v)) rfl];rfl
   have e2:iU (λx=>(h6 ((Sum.inr y,v)::q) (Sum.inr x)).getD .non) r.names=iU (λx=>(h6 q (Sum.inr x)).getD .non) r.names:=Q1e λx hx=>by
    show((Sum.inr x:Key),(h6 ((Sum.inr y,v)::q) (Sum.inr x)).getD .non)=_;rw[oZ (p:=(Sum.inr y,v)) λz=>L (by rw[Sum.inr.inj z];exact hx)]
   show _=(Sum.inr y,(h6 ((Sum.inr y,v)::q) (Sum.inr y)).getD .non)::iU (λx=>(h6 ((Sum.inr y,v)::q) (Sum.inr x)).getD .non) r.names;rw[Y,e2,<-gx.EV h2 U]
theorem gx.iU {H:Hp}{m:Ds}{kvs:List (Key × V)}{fp:List Addr}(h:gx H kvs m fp)(L:m.names.Nodup):∃f:Str->V,kvs=iU f m.names/\∀x∈m.names,∃d g,m.get x=some d/\Own H (f x) d g/\∀c∈g,c∈fp:=by
 refine⟨_,h.EV L,λx U=>?_⟩;obtain⟨d,J⟩:=Ds.get_name U;obtain⟨v,g,h1,h2,Y⟩:=gx.val m h J;exact⟨d,g,J,by show Own H ((h6 kvs (Sum.inr x)).getD .non) d g;rw[h1];exact h2,Y⟩
theorem LQ (f:Str->V)(v:V){A:List Str}{x:Str}(h:x∈A):putK (iU f A) (Sum.inr x) v=iU (λz=>if z=x then v else f z) A:=by
 unfold putK;rw[if_pos (by rw[oq,v_,if_pos h];rfl)];unfold iU;rw[Q1t];refine Q1e λz _=>?_;show(if(Sum.inr z:Key)=Sum.inr x then((Sum.inr z:Key),v) else(Sum.inr z,f z))=(Sum.inr z,if z=x then v else f z);by_cases e:z=x
 . rw[if_pos (by rw[e]),if_pos e]
 . rw[if_neg (λq=>e (Sum.inr.inj q)),if_neg e]
theorem EW (g:Str->V){A:List Str}:∀{B:List Str}(f:Str->V),B.Nodup->(∀x∈B,x∈A)->lO (iU f A) (iU g B)=iU (λz=>if z∈B then g z else f z) A
 |[],f,_,_=>by
  show iU f A=_;unfold iU;refine Q1e λz _=>?_;show _=((Sum.inr z:Key),if z∈[] then g z else f z);rw[if_neg (by simp)]
 |x::r,f,L,h=>by
  obtain⟨U,Y⟩:=List.nodup_cons.mp L;show lO (putK (iU f A) (Sum.inr x) (g x)) (iU g r)=_;rw[LQ f (g x) (h x Q02),EW g _ Y λy hy=>h y (Q06 _ hy)];unfold iU;refine Q1e λz _=>?_;show(Sum.inr z,(if z∈r then g z else if z=x then g x else f z))=((Sum.inr z:Key),if z∈x::r then g z else f z);by_cases e:z=x
  . subst e;rw[if_neg U,if_pos rfl,if_pos Q02]
  . by_cases J:z∈r
    . rw[if_pos J,if_pos (Q06 _ J)]
    . rw[if_neg J,if_neg e,if_neg (λq=>(List.mem_cons.mp q).elim e J)]
noncomputable def km (fs:Fs) (J L:Ds):Ds:=ie (λx=>((L.get x).or (J.get x)).getD (.int 0)) fs.names
theorem LR {H:Hp}{ks kn:List (Key × V)}{fs:Fs}{L J:Ds}{Y f2:List Addr}(nd:fs.names.Nodup)(h1:gx H ks L Y)(hF:iy fs L)(h2:gx H kn J f2)(n2:J.names.Nodup)(U:∀x∈J.names,x∈fs.names):
 ∃fp,gx H (lO ks kn) (km fs L J) fp/\∀c∈fp,c∈Y\/c∈f2:=by
 have en:=hF.names;obtain⟨f,rfl,hf⟩:=h1.iU (by rw[en];exact nd);obtain⟨g,rfl,hg⟩:=h2.iU n2;rw[en] at hf ⊢;rw[EW g f n2 U];refine wm λx hx=>?_;obtain⟨d1,g1,a1,a2,a3⟩:=hf x hx;by_cases e:x∈J.names
 . obtain⟨d2,g2,b1,b2,b3⟩:=hg x e;exact⟨g2,by rw[if_pos e,b1];exact b2,λc hc=>.inr (b3 c hc)⟩
 . have hn:J.get x=none:=by
    cases z:J.get x with
    |none=>rfl
    |some d=>exact absurd (Ds.pV z) e
   exact⟨g1,by rw[if_neg e,hn,a1];exact a2,λc hc=>.inl (a3 c hc)⟩
noncomputable def ofD:List D->Ds
 |[]=>.nil
 |d::r=>.cons "" d (ofD r)
noncomputable def Ds.ds:Ds->List D
 | .nil=>[]
 | .cons _ d r=>d::r.ds
theorem Ds.k8:∀(as:Ds) (i:Nat),as.at i=as.ds[i]?
 | .nil,i=>by cases i <;> rfl
 | .cons _ d r,0=>rfl
 | .cons _ d r,i+1=>Ds.k8 r i
theorem Ds.lP:∀as:Ds,as.ds.length=as.len
 | .nil=>rfl
 | .cons _ d r=>by show r.ds.length+1=r.len+1;rw[Ds.lP r]
theorem pW:∀(l:List D) (i:Nat),(ofD l).at i=l[i]?
 |[],i=>by cases i <;> rfl
 |d::r,0=>rfl
 |d::r,i+1=>pW r i
theorem m9:∀l:List D,(ofD l).len=l.length
 |[]=>rfl
 |d::r=>by show(ofD r).len+1=r.length+1;rw[m9 r]
theorem EX (d:D):∀l:List D,ofD (l++[d])=(ofD l).snoc "" d
 |[]=>rfl
 |e::r=>by show Ds.cons "" e (ofD (r++[d]))=.cons "" e ((ofD r).snoc "" d);rw[EX d r]
theorem wo {n:Nat}:∀{l:List D},(∀d∈l,d.dep<=n)->(ofD l).dep<=n
 |[],_=>Q0d _
 |d::r,h=>by
  have:=wo (l:=r) λy J=>h y (Q06 _ J);have:=h d Q02;show max d.dep (ofD r).dep<=n;omega
theorem wq:∀{l:List D},(∀d∈l,d.Sm)->(ofD l).Sm
 |[],_=>by unfold ofD Ds.Sm;trivial
 |d::r,h=>by
  unfold ofD Ds.Sm;exact⟨h d Q02,wq λy J=>h y (Q06 _ J)⟩
noncomputable def wu:D->Ds
 | .tup (.cons _ (.dct m) _)=>m
 |_=>.nil
noncomputable def wx:D->Ds
 | .tup (.cons _ _ (.cons _ (.lst as) .nil))=>as
 |_=>.nil
noncomputable def jx (fs:Fs) (e:D):Nat->D->D->D
 |0,_,d=>d
 |n+1,s,d=>pairD (.dct (km fs (wu s) (wu d))) (.lst (ofD ((wx d).ds.mapIdx λi x=>jx fs e n (((wx s).at i).getD e) x)))
noncomputable def jg (l:List Str):Nat->D->D
 |0,d=>d
 |n+1,d=>pairD (.dct (ie (wu d).v l)) (.lst (ofD ((wx d).ds.map (jg l n))))
abbrev g_ (P:Ds->Prop):D->Prop:=Tree λt=>∃m,t=.dct m/\P m
theorem g_.shape {P:Ds->Prop}{d:D}(h:g_ P d):∃x y m as,d=.tup (.cons x (.dct m) (.cons y (.lst as) .nil))/\P m/\∀i e,Ds.at as i=some e->g_ P e:=by
 obtain⟨x,y,t,as,rfl,⟨m,rfl,J⟩,L⟩:=Tree.shape h;exact⟨x,y,m,as,rfl,J,λi e U=>i6.at L U⟩
theorem LU {as:Ds}{d:D}(h:d∈as.ds):∃i,as.at i=some d:=by
 obtain⟨i,hi,e⟩:=Q0y h;exact⟨i,by rw[Ds.k8,Q05 hi,e]⟩
theorem pX (t:D)(as:Ds):(pairD t (.lst as)).dep=max t.dep (as.dep+1)+1:=by
 simp only[pairD,D.dep,Ds.dep];omega
theorem lQ {x y:Str}(t:D)(as:Ds):(D.tup (.cons x t (.cons y (.lst as) .nil))).dep=max t.dep (as.dep+1)+1:=by
 simp only[D.dep,Ds.dep];omega
theorem EY {as:Ds}:(D.lst as).Sm↔as.len<=100/\as.Sm:=by
 rw[D.Sm.eq_def]
theorem qT {x:Str}{d:D}{r:Ds}:(Ds.cons x d r).Sm↔d.Sm/\r.Sm:=by
 rw[Ds.Sm.eq_def]
theorem kG {x y:Str}{t:D}{as:Ds}:(D.tup (.cons x t (.cons y (.lst as) .nil))).Sm↔t.Sm/\as.len<=100/\as.Sm:=by
 rw[D.Sm.eq_def];show(2<=100/\_)↔_;rw[qT,qT,EY];exact⟨λh=>⟨h.2.1,h.2.2.1⟩,λh=>⟨by decide,h.1,h.2,by unfold Ds.Sm;trivial⟩⟩
structure iX (fs:Fs) (r:Nat) (m:Ds):Prop where
 fit:iy fs m
 dep:m.dep<=r
 sm:(D.dct m).Sm
structure kH (fs ps:Fs) (r:Nat) (m:Ds):Prop where
 nd:m.names.Nodup
 get:∀x d,m.get x=some d->∃k,fs.get x=some k/\gU k d
 fit:me ps m
 sub:∀x∈m.names,x∈ps.names
 dep:m.dep<=r
 sm:(D.dct m).Sm
theorem oK {m:Ds}:(D.dct m).Sm↔m.len<=100/\m.Sm:=by
 rw[D.Sm.eq_def]
theorem Ds.LV {m:Ds}(h:m.Sm)(x:Str):(m.v x).Sm:=by
 unfold Ds.v
 cases e:m.get x with
 |none=>rw[D.Sm.eq_def];trivial
 |some d=>exact Ds.pQ h e
structure pY (fs ps:Fs) (l:List Str):Prop where
 nd:l.Nodup
 len:l.length=ps.names.length
 jZ:l.length<=12
 inn:∀x∈l,x∈fs.names
 sub:∀x∈l,x∈ps.names
 of:∀x k,ps.get x=some k->x∈l/\fs.get x=some k
theorem LW {fs ps:Fs}{r:Nat}{Y L:Ds}(nd:fs.names.Nodup)(aa:fs.names.length<=12)(h1:iX fs r Y)(h2:kH fs ps r L):iX fs r (km fs Y L):=by
 have key:∀x k,fs.get x=some k->gU k (((L.get x).or (Y.get x)).getD (.int 0))/\(((L.get x).or (Y.get x)).getD (.int 0)).dep<=r/\(((L.get x).or (Y.get x)).getD (.int 0)).Sm:=λx k J=>by
  cases e:L.get x with
  |some d=>
   obtain⟨k',U,g2⟩:=h2.get x d e;rw[J] at U
   cases U;exact⟨g2,Q0g (Ds.pH e) h2.dep,Ds.pQ (oK.mp h2.sm).2 e⟩
  |none=>
   obtain⟨d,U,g2⟩:=h1.fit.get J;rw[U];exact⟨g2,Q0g (Ds.pH U) h1.dep,Ds.pQ (oK.mp h1.sm).2 U⟩
 refine⟨EU nd λx k J=>(key x k J).1,we _ λx J=>?_,oK.mpr ⟨by unfold km;rw[wd];omega,wg _ λx J=>?_⟩⟩
 . obtain⟨k,hk⟩:=Fs.m8 J;exact(key x k hk).2.1
 . obtain⟨k,hk⟩:=Fs.m8 J;exact(key x k hk).2.2
theorem LX {g:Nat->D->D}{l:List D}{d:D}(h:d∈l.mapIdx g):∃i e,l[i]? =some e/\d=g i e:=by
 obtain⟨i,hi,e⟩:=Q0y h;rw[Q1u] at hi;exact⟨i,l[i],Q05 hi,by rw[<-e,List.getElem_mapIdx]⟩
theorem wy {fs ps:Fs}{r:Nat}{e:D}(nd:fs.names.Nodup)(ac:fs.names.length<=12)(he:g_ (iX fs r) e):∀(n:Nat) (s d:D),g_ (iX fs r) s->g_ (kH fs ps r) d->d.Sm->d.dep<=n->g_ (iX fs r) (jx fs e n s d)/\(jx fs e n s d).dep<=d.dep+r+1/\(jx fs e n s d).Sm
 |0,s,d,_,_,_,hd=>absurd hd (by have:=d.jr;omega)
 |n+1,s,d,hs,hD,ae,hd=>by
  obtain⟨x,y,ms,Y,rfl,hm,ha⟩:=g_.shape hs;obtain⟨x',y',mn,as,rfl,hn,hb⟩:=g_.shape hD;have kn:=LW nd ac hm hn;rw[lQ] at hd;have U:=kG.mp ae
  have aa:∀i a,as.at i=some a->_:=λi a ab=>wy nd ac he n ((Y.at i).getD e) a (by
   cases z:Y.at i with
   |none=>exact he
   |some q=>exact ha i q z) (hb i a ab) (Ds.kD U.2.2 ab) (by have:=Ds.jw ab;omega)
  have J:∀z∈as.ds.mapIdx (λi x=>jx fs e n ((Y.at i).getD e) x),∃i a,as.at i=some a/\z=jx fs e n ((Y.at i).getD e) a:=λz L=>by
   obtain⟨i,a,h1,h2⟩:=LX L;exact⟨i,a,by rw[Ds.k8];exact h1,h2⟩
  show g_ (iX fs r) (pairD (.dct (km fs ms mn)) (.lst (ofD (as.ds.mapIdx λi x=>jx fs e n ((Y.at i).getD e) x))))/\_/\_;refine⟨Tree.mk ⟨_,rfl,kn⟩ λi z L=>?_,?_,kG.mpr ⟨kn.sm,?_,wq λz L=>?_⟩⟩
  . rw[pW] at L;obtain⟨j,a,h1,rfl⟩:=J z (Q0x L);exact(aa j a h1).1
  . show(pairD (.dct (km fs ms mn)) (.lst (ofD (as.ds.mapIdx λi x=>jx fs e n ((Y.at i).getD e) x)))).dep<=_;rw[pX,lQ];have h1:(D.dct (km fs ms mn)).dep<=r+1:=by have:=kn.dep;simp only[D.dep];omega
    have h2:(ofD (as.ds.mapIdx λi x=>jx fs e n ((Y.at i).getD e) x)).dep<=as.dep+r+1:=wo λz L=>by
     obtain⟨j,a,h1,rfl⟩:=J z L;have:=(aa j a h1).2.1;have:=Ds.jw h1;omega
    have h3:=D.jr (.dct mn);omega
  . rw[m9,Q1u,Ds.lP];exact U.2.1
  . obtain⟨j,a,h1,rfl⟩:=J z L;exact(aa j a h1).2.2
theorem LY {fs ps:Fs}{r:Nat}{l:List Str}{m:Ds}(hl:pY fs ps l)(U:iX fs r m):kH fs ps r (ie m.v l):=by
 have Y:∀x∈l,∃k d,fs.get x=some k/\m.get x=some d/\m.v x=d/\gU k d:=λx J=>by
  obtain⟨k,hk⟩:=Fs.m8 (hl.inn x J);obtain⟨d,L,g2⟩:=U.fit.get hk;exact⟨k,d,hk,L,Ds.pU L,g2⟩
 refine⟨by rw[mf];exact hl.nd,λx d h=>?_,⟨by rw[mf];exact hl.len,λx k J=>?_⟩,by rw[mf];exact hl.sub,we _ λx J=>?_,oK.mpr ⟨by rw[wd];have:=hl.jZ;omega,wg _ λx J=>Ds.LV (oK.mp U.sm).2 x⟩⟩
 . have J:=Ds.pV h;rw[mf] at J;obtain⟨k,d',h1,_,h3,h4⟩:=Y x J;rw[nQ _ J,h3] at h
   cases h;exact⟨k,h1,h4⟩
 . obtain⟨h1,h2⟩:=hl.of x k J;obtain⟨k',d',L,_,g3,g4⟩:=Y x h1;rw[h2] at L
   cases L;exact⟨d',by rw[nQ _ h1,g3],g4⟩
 . obtain⟨k,d',_,h2,h3,_⟩:=Y x J;rw[h3];exact Q0g (Ds.pH h2) U.dep
theorem EZ {fs ps:Fs}{r:Nat}{l:List Str}(hl:pY fs ps l):∀(n:Nat) (s:D),g_ (iX fs r) s->s.Sm->s.dep<=n->g_ (kH fs ps r) (jg l n s)/\(jg l n s).dep<=s.dep+r+1/\(jg l n s).Sm
 |0,s,_,_,hd=>absurd hd (by have:=s.jr;omega)
 |n+1,s,hs,ab,hd=>by
  obtain⟨x,y,m,as,rfl,hm,ha⟩:=g_.shape hs;have kn:=LY hl hm;rw[lQ] at hd;have U:=kG.mp ab;have Y:∀i a,as.at i=some a->_:=λi a aa=>EZ hl n a (ha i a aa) (Ds.kD U.2.2 aa) (by have:=Ds.jw aa;omega)
  have J:∀z∈as.ds.map (jg l n),∃i a,as.at i=some a/\z=jg l n a:=λz L=>by
   obtain⟨a,h1,h2⟩:=List.mem_map.mp L;obtain⟨i,hi⟩:=LU h1;exact⟨i,a,hi,h2.symm⟩
  show g_ (kH fs ps r) (pairD (.dct (ie m.v l)) (.lst (ofD (as.ds.map (jg l n)))))/\_/\_;refine⟨Tree.mk ⟨_,rfl,kn⟩ λi z L=>?_,?_,kG.mpr ⟨kn.sm,?_,wq λz L=>?_⟩⟩
  . rw[pW] at L;obtain⟨j,a,h1,rfl⟩:=J z (Q0x L);exact(Y j a h1).1
  . show(pairD (.dct (ie m.v l)) (.lst (ofD (as.ds.map (jg l n))))).dep<=_;rw[pX,lQ];have h1:(D.dct (ie m.v l)).dep<=r+1:=by have:=kn.dep;simp only[D.dep];omega
    have h2:(ofD (as.ds.map (jg l n))).dep<=as.dep+r+1:=wo λz L=>by
     obtain⟨j,a,h1,rfl⟩:=J z L;have:=(Y j a h1).2.1;have:=Ds.jw h1;omega
    have h3:=D.jr (.dct m);omega
  . rw[m9,Q04,Ds.lP];exact U.2.1
  . obtain⟨j,a,h1,rfl⟩:=J z L;exact(Y j a h1).2.2
theorem E1 {fs ps:Fs}{r:Nat}{l l':List Str}(hl:pY fs ps l)(L:pY fs ps l'):∀(n:Nat) (s:D),g_ (iX fs r) s->s.dep<=n->kb (kE (.gA ps)) (jg l n s) (jg l' n s)
 |0,s,_,Y=>absurd Y (by have:=s.jr;omega)
 |n+1,s,hs,Y=>by
  obtain⟨x,y,m,as,rfl,hm,ha⟩:=g_.shape hs;rw[lQ] at Y;refine kb.mk ⟨_,_,rfl,rfl,by rw[mf];exact hl.len,λz k hz=>?_⟩ (by rw[m9,m9,Q04,Q04]) λi a b h1 h2=>?_
  . obtain⟨g1,g2⟩:=hl.of z k hz;obtain⟨d,J,U⟩:=hm.fit.get g2;exact⟨d,by rw[nQ _ g1];exact congrArg some (Ds.pU J),by rw[nQ _ (L.of z k hz).1];exact congrArg some (Ds.pU J),U⟩
  . rw[pW] at h1 h2;obtain⟨c,J,rfl⟩:=Option.map_eq_some_iff.mp (List.getElem?_map.symm.trans h1);obtain⟨c',U,rfl⟩:=Option.map_eq_some_iff.mp (List.getElem?_map.symm.trans h2);rw[J] at U
    cases U;have J:as.ds[i]? =some c:=J;rw[<-Ds.k8] at J;exact E1 hl L n c (ha i c J) (by have:=Ds.jw J;omega)
theorem E2 {fs ps:Fs}{r:Nat}{l:List Str}{e:D}(hl:pY fs ps l):∀(n:Nat) (s:D),g_ (iX fs r) s->s.dep<=n->kb (kE (.gA fs)) (jx fs e n s (jg l n s)) s
 |0,s,_,L=>absurd L (by have:=s.jr;omega)
 |n+1,s,hs,L=>by
  obtain⟨x,y,m,as,rfl,hm,ha⟩:=g_.shape hs;rw[lQ] at L;refine kb.mk (t:=.dct (km fs m (ie m.v l))) ⟨_,_,rfl,rfl,by unfold km;rw[mf],λz k U=>?_⟩ (as:=ofD ((ofD (as.ds.map (jg l n))).ds.mapIdx λi x=>jx fs e n ((as.at i).getD e) x)) ?_ λi a b h1 h2=>?_
  . obtain⟨d,J,q2⟩:=hm.fit.get U;refine⟨d,?_,J,q2⟩;unfold km;rw[nQ _ (Fs.get_mem U)];refine congrArg some ?_
    cases w:(ie m.v l).get z with
    |none=>rw[J];rfl
    |some d'=>
     have Y:=Ds.pV w;rw[mf] at Y;rw[nQ _ Y,Ds.pU J] at w
     cases w;rfl
  . rw[m9,Q1u,Ds.lP,m9,Q04,Ds.lP]
  . rw[pW,Q2p] at h1;obtain⟨c,J,rfl⟩:=Option.map_eq_some_iff.mp h1;rw[<-Ds.k8,pW,Q0j,<-Ds.k8,h2] at J
    cases J;rw[h2];exact E2 hl n b (ha i b h2) (by have:=Ds.jw h2;omega)
mutual
noncomputable def blk:Kd->D
 | .num=>.int 0
 | .ix=>.str ""
 | .gA fs=>.dct (k_ fs)
 | .rows _ _ _=>.lst .nil
 | .tree k=>pairD (blk k) (.lst .nil)
 | .iP fs=>qU fs
noncomputable def k_:Fs->Ds
 | .nil=>.nil
 | .cons x k r=>.cons x (blk k) (k_ r)
noncomputable def qU:Fs->D
 | .nil=>.int 0
 | .cons x k _=>pairD (.str x) (blk k)
end
noncomputable def mh (fs:Fs) (x:Str):D:=match fs.get x with
 |some k=>blk k
 |none=>.int 0
theorem tD:∀{fs:Fs},fs.names.Nodup->k_ fs=ie (mh fs) fs.names
 | .nil,_=>by unfold k_;rfl
 | .cons x k r,J=>by
   have J:(x::r.names).Nodup:=J;obtain⟨L,U⟩:=List.nodup_cons.mp J;unfold k_;show _=Ds.cons x (mh (.cons x k r) x) (ie (mh (.cons x k r)) r.names)
   have Y:mh (.cons x k r) x=blk k:=by
    unfold mh;rw[show(Fs.cons x k r).get x=some k by show(if x=x then some k else _)=_;rw[if_pos rfl]]
   rw[Y,tD U];refine congrArg _ (ET λy hy=>?_);unfold mh;rw[show(Fs.cons x k r).get y=r.get y by show(if y=x then some k else r.get y)=_;rw[if_neg λz=>L (by rw[<-z];exact hy)]]
mutual
theorem qV:∀{k:Kd},k.W->gU k (blk k)/\(blk k).Sm/\(blk k).dep<=k.dB
 | .num,_=>by unfold blk gU D.Sm;exact⟨⟨0,rfl⟩,trivial,Q00 1⟩
 | .ix,_=>by unfold blk gU D.Sm;exact⟨⟨"",rfl⟩,trivial,Q00 1⟩
 | .gA fs,h=>by
   unfold Kd.W at h;obtain⟨h1,h2,J⟩:=wz h.2.2;unfold blk gU;refine⟨⟨_,rfl,h1⟩,oK.mpr ⟨by rw[<-sT,h1.names];omega,h2⟩,?_⟩;simp only[D.dep,Kd.dB];omega
 | .rows key Y fs,h=>by
   unfold blk gU;refine⟨⟨[],rfl,λm L=>absurd L (by simp),List.Pairwise.nil,Q15⟩,EY.mpr ⟨Q0d _,by unfold Ds.Sm;trivial⟩,?_⟩;simp only[D.dep,Ds.dep,Kd.dB];omega
 | .tree k,h=>by
   unfold Kd.W at h;obtain⟨h1,h2,J⟩:=qV h;unfold blk gU;refine⟨Tree.mk h1 λi d U=>(by cases i <;> cases U),kG.mpr ⟨h2,Q0d _,by unfold Ds.Sm;trivial⟩,?_⟩;rw[pX];simp only[Ds.dep,Kd.dB];omega
 | .iP fs,h=>by
   unfold Kd.W at h;unfold blk gU;obtain⟨x,v,e,h1,h2,J⟩:=LZ h.2.2.2 h.2.2.1;rw[e];refine⟨⟨x,v,rfl,h1⟩,?_,?_⟩
   . rw[D.Sm.eq_def];show 2<=100/\_;rw[qT,qT];exact⟨by decide,by unfold D.Sm;trivial,h2,by unfold Ds.Sm;trivial⟩
   . simp only[pairD,D.dep,Ds.dep,Kd.dB];omega
theorem wz:∀{fs:Fs},fs.W->iy fs (k_ fs)/\(k_ fs).Sm/\(k_ fs).dep<=fs.dB
 | .nil,_=>by unfold k_ iy Ds.Sm;exact⟨rfl,trivial,Q00 0⟩
 | .cons x k r,h=>by
   unfold Fs.W at h;obtain⟨J,L,Y⟩:=qV h.1;obtain⟨U,b2,b3⟩:=wz h.2;unfold k_ iy;refine⟨⟨_,_,rfl,J,U⟩,qT.mpr ⟨L,b2⟩,?_⟩;simp only[Ds.dep,Fs.dB];omega
theorem LZ:∀{fs:Fs},fs.W->1<=fs.names.length->∃x v,qU fs=pairD (.str x) v/\kg fs x v/\v.Sm/\v.dep<=fs.dB
 | .nil,_,h=>absurd h (by decide)
 | .cons x k r,h,_=>by
   unfold Fs.W at h;obtain⟨J,L,U⟩:=qV h.1;unfold qU kg;refine⟨x,_,rfl,.inl ⟨rfl,J⟩,L,?_⟩;simp only[Fs.dB];omega
end
structure kd (H:Hp) (S:Addr->Prop) (δ:Str->D) (l:List Str) (p:Addr) (i:Nat) (H':Hp):Prop where
 same:Same H H'
 at_:∃kv fq,H' p=some (.dK kv)/\gx H' kv (ie δ (l.take i)) fq/\∀c∈fq,(H c=none\/S c)/\c≠p
theorem E3 (δ:Str->D)(x:Str):∀l:List Str,ie δ (l++[x])=(ie δ l).snoc x (δ x)
 |[]=>rfl
 |y::r=>by show Ds.cons y (δ y) (ie δ (r++[x]))=.cons y (δ y) ((ie δ r).snoc x (δ x));rw[E3 δ x r]
theorem kd.zero {H:Hp}{S:Addr->Prop}{δ:Str->D}{l:List Str}{p:Addr}(hp:H p=none):kd H S δ l p 0 (upd H p (.dK [])):=
 ⟨Same.new hp,[],[],gu,by show gx _ [] .nil [];unfold gx;exact⟨rfl,rfl⟩,λc hc=>nomatch hc⟩
theorem kd.add {H H' L:Hp}{S:Addr->Prop}{δ:Str->D}{l:List Str}{p:Addr}{i:Nat}{x:Str}{v:V}{fp:List Addr}(h:kd H S δ l p i H')(hp:H p=none)(hx:l[i]? =some x)(nd:l.Nodup)(s:Same H' L)(ho:Own L v (δ x) fp)(hf:∀c∈fp,H' c=none\/(S c/\c≠p)):
 ∃J,L p=some (.dK J)/\J.length<=i/\h6 J (Sum.inr x)=none/\kd H S δ l p (i+1) (upd L p (.dK (J++[(Sum.inr x,v)]))):=by
 obtain⟨J,fq,hk,hO,hq⟩:=h.at_;have U:=s _ _ hk
 have ex:x ∉ l.take i:=λz=>by
  obtain⟨j,hj,e⟩:=Q0y z;rw[Q0p] at hj;rw[Q23] at e;obtain⟨hi,e2⟩:=List.getElem?_eq_some_iff.mp hx;have:=(Q1v nd (h₀:=by omega) (h₁:=hi)).mp (e.trans e2.symm);omega
 have aa:J.length<=i:=by
  rw[gx.len hO,mf,Q0p];omega
 refine⟨J,U,aa,gx.Dq hO (by rw[mf];exact ex),⟨λc o e=>by rw[gj (gB e hp)];exact s _ _ (h.same _ _ e),_,fq++fp,gu,?_,λc hc=>?_⟩⟩
 . have ab:Mu L p:=.inr ⟨_,U⟩;have Y:Tu L (upd L p (.dK (J++[(Sum.inr x,v)]))):=Tu.wr λys z=>ab.nG ys z
   have np:∀c∈fp,c≠p:=λc hc z=>by
    rcases hf c hc with q|q
    . rw[z,hk] at q;cases q
    . exact q.2 z
   rw[Q0t,hx];show gx _ _ (ie δ (l.take i++[x])) _;rw[E3];exact gx.snoc (ho.keep Y _ λc hc o e=>by rw[gj (np c hc)];exact e) _ ((gx.same s hO).keep Y _ λc hc o e=>by rw[gj (hq c hc).2];exact e)
 . rcases List.mem_append.mp hc with z|z
   . exact hq c z
   . rcases hf c z with q|q
     . exact⟨.inl (h.same.free q),λe=>by rw[e,hk] at q;cases q⟩
     . exact⟨.inr q.1,q.2⟩
theorem kd.fin {H H':Hp}{S:Addr->Prop}{δ:Str->D}{l:List Str}{p:Addr}{i:Nat}(h:kd H S δ l p i H')(hp:H p=none)(hi:l.length<=i):Same H H'/\∃fp,Own H' (.ref p) (.dct (ie δ l)) fp/\∀c∈fp,H c=none\/S c:=by
 obtain⟨U,J,hk,L,Y⟩:=h.at_;rw[Q0z hi] at L;refine⟨h.same,p::J,by unfold Own;exact⟨p,U,J,rfl,hk,rfl,L⟩,λc hc=>?_⟩;rcases List.mem_cons.mp hc with z|z
 . rw[z];exact .inl hp
 . exact(Y c z).1
def lg (n:Nat):Sp:=λvs H Q _=>∃J k,vs=[J]/\KA H J k/\k.W/\k.dep<=n/\∀v H' fp,Same H H'->Own H' v (blk k) fp->(∀c∈fp,H c=none)->Q v H'
def E4 (n:Nat):Sp:=λvs H Q _=>∃b xs fs,vs=[.ref b]/\H b=some (.tup xs)/\FA H xs fs/\fs.names.Nodup/\fs.names.length<=12/\fs.W/\fs.dep<=n/\∀v H' fp,Same H H'->Own H' v (.dct (k_ fs)) fp->(∀c∈fp,H c=none)->Q v H'
theorem wA {fs:Fs}{i:Nat}{x:Str}{k:Kd}(J:fs.names.Nodup)(h:fs.at i=some (x,k)):mh fs x=blk k:=by
 unfold mh;rw[Fs.nz J h]
theorem E5 {H:Hp}(z:Int):Own H (.int z) (.int z) []:=by unfold Own;exact⟨rfl,rfl⟩
theorem tE {H:Hp}(z:Str):Own H (.str z) (.str z) []:=by unfold Own;exact⟨rfl,rfl⟩
theorem mi {H:Hp}{c:Addr}{u v:V}{d e:D}{f g:List Addr}(hc:H c=some (.tup [u,v]))(h1:Own H u d f)(h2:Own H v e g):Own H (.ref c) (pairD d e) (f++(g++[])):=by
 unfold Own;refine⟨c,_,rfl,hc,?_⟩;unfold gn;refine⟨u,_,f,_,rfl,rfl,h1,?_⟩;unfold gn;refine⟨v,_,g,_,rfl,rfl,h2,?_⟩;unfold gn;exact⟨rfl,rfl⟩
theorem tF {H:Hp}{c:Addr}(hc:H c=some (.lst [])):Own H (.ref c) (.lst .nil) [c]:=by
 unfold Own;exact⟨c,[],[],rfl,hc,rfl,by unfold gn;exact⟨rfl,rfl⟩⟩
theorem Fs.tG:∀{fs:Fs}{i:Nat}{x:Str}{k:Kd},fs.at i=some (x,k)->k.dep<=fs.dep
 | .nil,_,_,_,h=>by cases h
 | .cons y q r,0,_,_,h=>by
   cases h;simp only[Fs.dep];omega
 | .cons y q r,i+1,x,k,h=>by
   have:=Fs.tG (fs:=r) (i:=i) h;simp only[Fs.dep];omega
theorem L0:gP ["fields","record","name","inner"] ["fields"] (gC (top 18)):=gT
theorem L9 (n:Nat)(T:Tb mg)(J:Dn K mg "empty_record" qJ (top 18) L U)(Y:Dn K mg "empty" lM (top 17) aa ab)(ac:d_ P w K mg base f_ (2 * n+1) aa ab lM (lg n)):d_ P w K mg base f_ (2 * n+2) L U qJ (E4 n):=by
 refine J.F.ok L0 λvs H Q E h=>?_;obtain⟨b,xs,fs,rfl,hb,ag,af,hx,ah,ak,q⟩:=h;refine⟨rfl,λal A outer s nd hr hu=>?_⟩;have el:=FA.len fs ag
 refine⟨_,(gh (gD 1 nd nv)
  (gh (jo PassesOwn.never rfl (kN (pv 0)) (jU rfl (iH (g5 (i:=2) nd rfl iA) (iH (g5 (i:=3) nd rfl iA) jT))) (gm (l6 hu (pv 1) (pv 2) (gz ac hr Y (a_ (pv 3) b_)) rfl)))
  (gm (gv (pv 1))))),?_⟩
 ac_rfl
 intro p hp;refine⟨_,rfl,b,rfl,⟨_,e_.of ((Same.new hp) _ _ hb)⟩,n9 (xs:=xs) (λi σ H'=>∃x y,σ=[some (.ref b),some (.ref p),x,y]/\kd H (λ_=>False) (mh fs) fs.names p i H') ⟨_,_,rfl,kd.zero hp⟩ ?_ ?_ ?_⟩
 . rintro i σ H' _ ⟨x,y,rfl,R⟩;exact e_.of (R.same _ _ hb)
 . rintro i v σ H' hv ⟨x,y,rfl,R⟩;obtain⟨c,u,nm,k,rfl,ae,hc,hk⟩:=FA.get fs ag hv;have s2:=R.same;refine⟨c,_,rfl,e_.of (s2 _ _ hc),rfl,_,_,rfl,_,_,rfl,rfl,?_⟩;refine⟨_,rfl,u,k,rfl,KA.mono (Tu.of s2) k hk,Fs.nB ah ae,by have:=Fs.tG ae;omega,λv2 H3 am s3 ai aj=>?_⟩;have hi:i<fs.names.length:=by rw[<-el];exact(List.getElem?_eq_some_iff.mp hv).1
   obtain⟨kv,h1,h2,h3,R'⟩:=R.add hp (x:=nm) (by rw[Fs.ky,ae];rfl) af s3 (by rw[wA af ae];exact ai) λc hc=>.inl (aj c hc);refine⟨_,rfl,_,rfl,p,_,rfl,j8.k (k:=Sum.inr nm) h1 (iB (by omega)),?_⟩;rw[l_ h3];exact⟨_,_,rfl,R'⟩
 . rintro σ H' ⟨x,y,rfl,R⟩;obtain⟨s2,fp,ho,hf⟩:=R.fin hp (by rw[el];exact Q00 _);rw[<-tD af] at ho;exact⟨_,rfl,q _ _ fp s2 ho λc hc=>(hf c hc).resolve_right id⟩
theorem L_:gP ["kind","form","first"] ["kind"] (gC (top 17)):=gT
theorem Ma (n:Nat)(T:Tb mg)(aa:Dn K mg "empty" lM (top 17) ab ac)(ae:d_ P w K mg base f_ (2 * n+1) ab ac lM (lg n))(J:Dn K mg "empty_record" qJ (top 18) L U)(Y:d_ P w K mg base f_ (2 * n+2) L U qJ (E4 n)):d_ P w K mg base f_ (2 * (n+1)+1) ab ac lM (lg (n+1)):=by
 refine aa.F.ok L_ λvs H Q E h=>?_;obtain⟨kv,k,rfl,hk,hW,ag,q⟩:=h;refine⟨rfl,λai A outer s nd hr hu=>?_⟩
 refine⟨_,(gh (gD 1 nd (gp (pv 0) c_))
  (gh (gF (gI gX (pv 1) gK (gE _)) (gm (gv c_)) gH)
  (gh (gF (gI gX (pv 1) gK (gE _)) (gm (gv gK)) gH)
  (gh (gF (gI gX (pv 1) gK (gE _)) (gm (gv (gz Y hr J (a_ (gp (pv 0) c_) b_)))) gH)
  (gh (gF (gI gX (pv 1) gK (gE _)) (gm (gv (iJ b_))) gH)
  (gh (gF (gI gX (pv 1) gK (gE _)) (gm (gv (iw (a_ (gz ae hr aa (a_ (gp (pv 0) c_) b_)) (a_ (iJ b_) b_))))) gH)
  (gh (gD 2 nd (gp (gp (pv 0) c_) c_))
  (gm (gv (iw (a_ (gp (pv 2) c_) (a_ (gz ae hr aa (a_ (gp (pv 2) c_) b_)) b_)))))))))))),?_⟩
 ac_rfl
 cases k with
 |num=>
  unfold KA at hk;obtain⟨a,rfl,ha⟩:=hk;refine⟨_,rfl,a,_,_,_,rfl,rfl,e_.of ha,rfl,?_⟩;refine lE rfl (by decide +kernel) ?_;exact q _ _ [] (Same.refl _) (by unfold blk;exact E5 0) λc hc=>nomatch hc
 |ix=>
  unfold KA at hk;obtain⟨a,rfl,ha⟩:=hk;refine⟨_,rfl,a,_,_,_,rfl,rfl,e_.of ha,rfl,?_⟩;refine iC rfl (by decide +kernel) ?_;refine lE rfl (by decide +kernel) ?_;exact q _ _ [] (Same.refl _) (by unfold blk;exact tE "") λc hc=>nomatch hc
 |gA fs=>
  unfold KA at hk;obtain⟨a,b,xs,rfl,ha,hb,af⟩:=hk;unfold Kd.W at hW;simp only[Kd.dep] at ag;refine⟨_,rfl,a,_,_,_,rfl,rfl,e_.of ha,rfl,?_⟩;refine iC rfl (by decide +kernel) ?_;refine iC rfl (by decide +kernel) ?_;refine lE rfl (by decide +kernel) ?_;exact⟨_,rfl,a,_,_,_,rfl,rfl,e_.of ha,rfl,b,xs,fs,rfl,hb,af,hW.1,hW.2.1,hW.2.2,by omega,λv H' fp s ho hf=>q v H' fp s (by unfold blk;exact ho) hf⟩
 |rows key aj fs=>
  unfold KA at hk;obtain⟨a,b,xs,rfl,ha,hb,af⟩:=hk;refine⟨_,rfl,a,_,_,_,rfl,rfl,e_.of ha,rfl,?_⟩;refine iC rfl (by decide +kernel) ?_;refine iC rfl (by decide +kernel) ?_;refine iC rfl (by decide +kernel) ?_;refine lE rfl (by decide +kernel) ?_;exact⟨Q0d _,λp hp=>q _ _ [p] (Same.new hp) (by unfold blk;exact tF gu) λc hc=>by rw[List.mem_singleton.mp hc];exact hp⟩
 |tree k=>
  unfold KA at hk;obtain⟨a,u,rfl,ha,hu⟩:=hk;unfold Kd.W at hW;simp only[Kd.dep] at ag;refine⟨_,rfl,a,_,_,_,rfl,rfl,e_.of ha,rfl,?_⟩;refine iC rfl (by decide +kernel) ?_;refine iC rfl (by decide +kernel) ?_;refine iC rfl (by decide +kernel) ?_;refine iC rfl (by decide +kernel) ?_;refine lE rfl (by decide +kernel) ?_;refine⟨_,rfl,a,_,_,_,rfl,rfl,e_.of ha,rfl,u,k,rfl,hu,hW,by omega,λv H1 fp s1 ho hf=>⟨Q0d _,λp hp=>⟨iq,λt ht=>?_⟩⟩⟩;have s2:Same H1 (upd H1 p (.lst [])):=Same.new hp;have e2:=gu (H:=H1) (a:=p) (o:=.lst []);generalize upd H1 p (.lst [])=H2 at s2 e2 ht;have s3:Same H2 (upd H2 t (.tup [v,.ref p])):=Same.new ht;refine q _ _ (fp++([p]++[])) (s1.trans (s2.trans s3)) (by unfold blk;exact mi gu (ho.same (s2.trans s3)) (tF (s3 _ _ e2))) λc hc=>?_;rcases List.mem_append.mp hc with z|z
  . exact hf c z
  . rw[Q0s,Q1r] at z;rw[z];exact s1.free hp
 |iP fs=>
  unfold KA at hk;obtain⟨a,b,xs,rfl,ha,hb,af⟩:=hk;unfold Kd.W at hW;simp only[Kd.dep] at ag
  cases fs with
  |nil=>exact absurd hW.2.2.1 (by decide)
  |cons x k r=>
   unfold FA at af;obtain⟨c,u,vr,rfl,hc,hk,_⟩:=af;have ah:=hW.2.2.2;unfold Fs.W at ah;simp only[Fs.dep] at ag;refine⟨_,rfl,a,_,_,_,rfl,rfl,e_.of ha,rfl,?_⟩;refine iC rfl (by decide +kernel) ?_;refine iC rfl (by decide +kernel) ?_;refine iC rfl (by decide +kernel) ?_;refine iC rfl (by decide +kernel) ?_;refine iC rfl (by decide +kernel) ?_;refine⟨_,rfl,a,_,_,_,rfl,rfl,e_.of ha,rfl,b,_,_,_,rfl,rfl,e_.of hb,iZ (j:=0) rfl,?_⟩;refine⟨_,rfl,c,_,_,_,rfl,rfl,e_.of hc,rfl,_,rfl,c,_,_,_,rfl,rfl,e_.of hc,rfl,u,k,rfl,hk,ah.1,by omega,λv H1 fp s1 ho hf=>⟨iq,λt ht=>?_⟩⟩;have s3:Same H1 (upd H1 t (.tup [.str x,v])):=Same.new ht;refine q _ _ ([]++(fp++[])) (s1.trans s3) (by unfold blk qU;exact mi gu (tE x) (ho.same s3)) λc hc=>hf c (by simpa using hc)
theorem tH {vs:List V}{H:Hp}{Q:VK}{E:XK}:¬lg 0 vs H Q E:=λh=>by
 obtain⟨_,k,_,_,_,J,_⟩:=h
 cases k <;> simp[Kd.dep] at J
theorem wB (T:Tb mg)(L:Dn K mg "empty" lM (top 17) aa ab)(J:Dn K mg "empty_record" qJ (top 18) U Y):∀n:Nat,d_ P w K mg base f_ (2 * n+1) aa ab lM (lg n)
 |0=>⟨λvs H Q E h=>absurd h tH,λA outer s H args us vs Q E _ _ _ _ h=>absurd h tH⟩
 |n+1=>Ma n T L (wB T L J n) J (L9 n T J L (wB T L J n))
theorem Mb:gP ["_law_kind_here","_law_made","_law_name","_law_inner"] ["_law_kind_here"] (gC (top 48)):=gT
theorem Mc (n:Nat)(T:Tb mg)(J:Dn K mg "_law_blank" mZ (top 48) U Y)(L:d_ P w K mg base f_ (n+1) U Y mZ (lg n)):d_ P w K mg base f_ ((n+1)+1) U Y mZ (lg (n+1)):=by
 refine J.F.ok Mb λvs H Q E h=>?_;obtain⟨kv,k,rfl,hk,hW,ab,q⟩:=h;refine⟨rfl,λaj A outer s nd hr hu=>?_⟩
 refine⟨_,(gh (gF (gI gX (gp (pv 0) c_) gK (gE _)) (gm (gv c_)) gH)
  (gh (gF (gI gX (gp (pv 0) c_) gK (gE _)) (gm (gv gK)) gH)
  (gh (gF (gI gX (gp (pv 0) c_) gK (gE _)) (gh (gD 1 nd nv)
  (gh (jo PassesOwn.never rfl (kN (gp (pv 0) c_)) (jU rfl (iH (g5 (i:=2) nd rfl iA) (iH (g5 (i:=3) nd rfl iA) jT))) (gm (l6 hu (pv 1) (pv 2) (gz L hr J (a_ (pv 3) b_)) rfl)))
  (gm (gv (pv 1))))) gH)
  (gh (gF (gI gX (gp (pv 0) c_) gK (gE _)) (gm (gv (iJ b_))) gH)
  (gh (gF (gI gX (gp (pv 0) c_) gK (gE _)) (gm (gv (iw (a_ (gz L hr J (a_ (gp (pv 0) c_) b_)) (a_ (iJ b_) b_))))) gH)
  (gm (gv (iw (a_ (gp (gp (gp (pv 0) c_) c_) c_) (a_ (gz L hr J (a_ (gp (gp (gp (pv 0) c_) c_) c_) b_)) b_)))))))))),?_⟩
 ac_rfl
 cases k with
 |num=>
  unfold KA at hk;obtain⟨a,rfl,ha⟩:=hk;refine j_ rfl ha rfl (by decide +kernel) ?_;exact q _ _ [] (Same.refl _) (by unfold blk;exact E5 0) λc hc=>nomatch hc
 |ix=>
  unfold KA at hk;obtain⟨a,rfl,ha⟩:=hk;refine hX rfl ha rfl (by decide +kernel) ?_;refine j_ rfl ha rfl (by decide +kernel) ?_;exact q _ _ [] (Same.refl _) (by unfold blk;exact tE "") λc hc=>nomatch hc
 |gA fs=>
  unfold KA at hk;obtain⟨a,b,xs,rfl,ha,hb,aa⟩:=hk;unfold Kd.W at hW;obtain⟨ae,hx,ag⟩:=hW;simp only[Kd.dep] at ab;have el:=FA.len fs aa;refine hX rfl ha rfl (by decide +kernel) ?_;refine hX rfl ha rfl (by decide +kernel) ?_;refine j_ rfl ha rfl (by decide +kernel) ?_;intro p hp;refine⟨_,rfl,a,_,_,_,rfl,rfl,e_.of ((Same.new hp) _ _ ha),rfl,b,rfl,⟨_,e_.of ((Same.new hp) _ _ hb)⟩,n9 (xs:=xs) (λi σ H'=>∃x y,σ=[some (.ref a),some (.ref p),x,y]/\kd H (λ_=>False) (mh fs) fs.names p i H') ⟨_,_,rfl,kd.zero hp⟩ ?_ ?_ ?_⟩
  . rintro i σ H' _ ⟨x,y,rfl,R⟩;exact e_.of (R.same _ _ hb)
  . rintro i v σ H' hv ⟨x,y,rfl,R⟩;obtain⟨c,u,nm,k,rfl,ac,hc,hk⟩:=FA.get fs aa hv;have s2:=R.same;refine⟨c,_,rfl,e_.of (s2 _ _ hc),rfl,_,_,rfl,_,_,rfl,rfl,?_⟩;refine⟨_,rfl,u,k,rfl,KA.mono (Tu.of s2) k hk,Fs.nB ag ac,by have:=Fs.tG ac;omega,λv2 H3 ak s3 ah ai=>?_⟩;have hi:i<fs.names.length:=by rw[<-el];exact(List.getElem?_eq_some_iff.mp hv).1
    obtain⟨kv,h1,h2,h3,R'⟩:=R.add hp (x:=nm) (by rw[Fs.ky,ac];rfl) ae s3 (by rw[wA ae ac];exact ah) λc hc=>.inl (ai c hc);refine⟨_,rfl,_,rfl,p,_,rfl,j8.k (k:=Sum.inr nm) h1 (iB (by omega)),?_⟩;rw[l_ h3];exact⟨_,_,rfl,R'⟩
  . rintro σ H' ⟨x,y,rfl,R⟩;obtain⟨s2,fp,ho,hf⟩:=R.fin hp (by rw[el];exact Q00 _);rw[<-tD ae] at ho;exact⟨_,rfl,q _ _ fp s2 (by unfold blk;exact ho) λc hc=>(hf c hc).resolve_right id⟩
 |rows key al fs=>
  unfold KA at hk;obtain⟨a,b,xs,rfl,ha,hb,aa⟩:=hk;refine hX rfl ha rfl (by decide +kernel) ?_;refine hX rfl ha rfl (by decide +kernel) ?_;refine hX rfl ha rfl (by decide +kernel) ?_;refine j_ rfl ha rfl (by decide +kernel) ?_;exact⟨Q0d _,λp hp=>q _ _ [p] (Same.new hp) (by unfold blk;exact tF gu) λc hc=>by rw[List.mem_singleton.mp hc];exact hp⟩
 |tree k=>
  unfold KA at hk;obtain⟨a,u,rfl,ha,hu⟩:=hk;unfold Kd.W at hW;simp only[Kd.dep] at ab;refine hX rfl ha rfl (by decide +kernel) ?_;refine hX rfl ha rfl (by decide +kernel) ?_;refine hX rfl ha rfl (by decide +kernel) ?_;refine hX rfl ha rfl (by decide +kernel) ?_;refine j_ rfl ha rfl (by decide +kernel) ?_;refine⟨_,rfl,a,_,_,_,rfl,rfl,e_.of ha,rfl,u,k,rfl,hu,hW,by omega,λv H1 fp s1 ho hf=>⟨Q0d _,λp hp=>⟨iq,λt ht=>?_⟩⟩⟩;have s2:Same H1 (upd H1 p (.lst [])):=Same.new hp;have e2:=gu (H:=H1) (a:=p) (o:=.lst []);generalize upd H1 p (.lst [])=H2 at s2 e2 ht;have s3:Same H2 (upd H2 t (.tup [v,.ref p])):=Same.new ht;refine q _ _ (fp++([p]++[])) (s1.trans (s2.trans s3)) (by unfold blk;exact mi gu (ho.same (s2.trans s3)) (tF (s3 _ _ e2))) λc hc=>?_;rcases List.mem_append.mp hc with z|z
  . exact hf c z
  . rw[Q0s,Q1r] at z;rw[z];exact s1.free hp
 |iP fs=>
  unfold KA at hk;obtain⟨a,b,xs,rfl,ha,hb,aa⟩:=hk;unfold Kd.W at hW;simp only[Kd.dep] at ab
  cases fs with
  |nil=>exact absurd hW.2.2.1 (by decide)
  |cons x k r=>
   unfold FA at aa;obtain⟨c,u,vr,rfl,hc,hk,_⟩:=aa;have af:=hW.2.2.2;unfold Fs.W at af;simp only[Fs.dep] at ab;refine hX rfl ha rfl (by decide +kernel) ?_;refine hX rfl ha rfl (by decide +kernel) ?_;refine hX rfl ha rfl (by decide +kernel) ?_;refine hX rfl ha rfl (by decide +kernel) ?_;refine hX rfl ha rfl (by decide +kernel) ?_;refine⟨_,rfl,a,_,_,_,rfl,rfl,e_.of ha,rfl,b,_,_,_,rfl,rfl,e_.of hb,iZ (j:=0) rfl,c,_,_,_,rfl,rfl,e_.of hc,rfl,?_⟩;refine⟨_,rfl,a,_,_,_,rfl,rfl,e_.of ha,rfl,b,_,_,_,rfl,rfl,e_.of hb,iZ (j:=0) rfl,c,_,_,_,rfl,rfl,e_.of hc,rfl,u,k,rfl,hk,af.1,by omega,λv H1 fp s1 ho hf=>⟨iq,λt ht=>?_⟩⟩;have s3:Same H1 (upd H1 t (.tup [.str x,v])):=Same.new ht;exact q _ _ ([]++(fp++[])) (s1.trans s3) (by unfold blk qU;exact mi gu (tE x) (ho.same s3)) λc hc=>hf c (by simpa using hc)
theorem E6 (T:Tb mg)(J:Dn K mg "_law_blank" mZ (top 48) L U):∀n:Nat,d_ P w K mg base f_ (n+1) L U mZ (lg n)
 |0=>⟨λvs H Q E h=>absurd h tH,λA outer s H args us vs Q E _ _ _ _ h=>absurd h tH⟩
 |n+1=>Mc n T J (E6 T J n)
end Pb
namespace Pb
open L2
def qW (n N:Nat):Sp:=λvs H Q _=>∃a u v k d fp,vs=[.ref a,v]/\H a=some (.tup [.str "tree",u])/\KA H u k/\k.W/\Own H v d fp/\Tree (λt=>kj k t/\t.dep<=N) d/\d.dep<=n/\d.Sm/\∀H',Same H H'->Q .non H'
def E7 (n N:Nat):Sp:=λvs H Q _=>∃J v k d fp,vs=[J,v]/\KA H J (.tree k)/\k.W/\Own H v d fp/\Tree (λt=>kj k t/\t.dep<=N) d/\d.dep<=n/\d.Sm/\∀H',Same H H'->Q .non H'
variable {P:Program}{w:World}{K:W.Frag}{mg:Str->Option Value}{base:Heap}
theorem Md (n N j:Nat)(hj:1<=j)(T:Tb mg)(J:Dn K mg "tree_misfit" jW (top 15) L U)(Y:d_ P w K mg base f_ (n+j) L U jW (qW n N))(aa:Dn K mg "is_pair" lL (top 14) ab ac)(ae:d_ P w K mg base f_ (1) ab ac lL (qN))(af:Dn K mg "misfit" jm (top 10) ag ah)(ai:d_ P w K mg base f_ (j) ag ah jm (m7 N)):d_ P w K mg base f_ ((n+j)+1) L U jW (qW (n+1) N):=by
 refine J.F.ok v3 λvs H Q E h=>?_;obtain⟨a,u,v,k,d,fp,rfl,ha,hk,hW,hO,lX,aq,al,q⟩:=h;refine⟨rfl,λaz A outer s nd hr hu=>?_⟩;obtain⟨x,y,t,as,rfl,am,ar⟩:=lX.shape;obtain⟨c,v1,v2,f1,f2,rfl,hc,rfl,au,an⟩:=hO.pair;unfold Own at an;obtain⟨pl,ys,fq,rfl,aj,rfl,av⟩:=an;simp only[D.dep,Ds.dep] at aq;unfold D.Sm Ds.Sm at al;obtain⟨_,aw,ao⟩:=al;unfold Ds.Sm at ao;have ap:=ao.1;unfold D.Sm at ap
 refine⟨_,(gh (gF (PW.pt (jS (i7 (iG (gz ae hr aa (a_ (pv 1) b_)))) (jR (i7 (iG (g7 jD (by rfl) T.jE boot_isinstance (a_ (gp (pv 1) c_) (a_ (jA (v:=.ty "list") rfl T.nI boot_list rfl) b_)))))))) (gm (gv (iJ b_))) gH)
  (gh (gD 2 nd (gz ai hr af (a_ (gp (pv 0) c_) (a_ (gp (pv 1) c_) b_))))
  (gh (gF (gI lB (pv 2) i_ (gE _)) (gm (gv mQ)) gH)
  (gh (jo PassesOwn.never rfl (o8 rfl T.pJ (a_ (gp (pv 1) c_) b_)) (jU rfl (iH (g5 (i:=3) nd rfl iA) (iH (g5 (i:=4) nd rfl iA) jT))) (gh (gD 2 nd (gz Y hr J (a_ (pv 0) (a_ (pv 4) b_))))
  (gm (gF (gI lB (pv 2) i_ (gE _)) (gm (gv mQ)) gH))))
  (gm (gv i_)))))),?_⟩
 ac_rfl
 refine⟨_,rfl,c,v1,.ref pl,rfl,hc,true,rfl,gY ?_⟩;refine⟨_,rfl,c,_,_,_,rfl,rfl,e_.of hc,rfl,_,_,_,true,rfl,.lst aj,rfl,true,rfl,gY ?_⟩;refine⟨_,rfl,a,_,_,_,rfl,rfl,e_.of ha,rfl,_,rfl,c,_,_,_,rfl,rfl,e_.of hc,rfl,u,v1,k,t,f1,rfl,hk,hW,au,kZ.of0 am.1,am.2,aw,λH1 s1=>?_⟩;refine⟨_,rfl,rfl,_,rfl,?_⟩;rw[decide_eq_true rfl];refine gY ?_;refine⟨_,rfl,c,_,_,_,rfl,rfl,e_.of (s1 _ _ hc),rfl,pl,rfl,⟨_,gi.of (s1 _ _ aj)⟩,qM (xs:=ys) (λi σ H'=>Same H H'/\∃x y z,σ=[some (.ref a),some (.ref c),x,y,z]) ⟨s1,_,_,_,rfl⟩ ?_ ?_ ?_⟩
 . rintro i σ H' _ ⟨s2,_⟩;exact gi.of (s2 _ _ aj)
 . rintro i yv σ H' tt hy ⟨s2,x,y,z,rfl⟩ ax;have st:Same H' (upd H' tt (.tup [.int i,yv])):=Same.new ax;have s3:=s2.trans st;obtain⟨d',f,ak,ay,_⟩:=gn.get _ av hy;have aA:=Ds.jw ak;refine⟨tt,_,rfl,e_.of gu,rfl,_,_,rfl,_,_,rfl,rfl,?_⟩;refine⟨_,rfl,_,rfl,a,u,yv,k,d',f,rfl,s3 _ _ ha,KA.mono (Tu.of s3) k hk,hW,Own.same s3 ay,i6.at ar ak,by omega,Ds.kD ap.2 ak,λH4 s4=>?_⟩;refine⟨_,rfl,rfl,_,rfl,?_⟩;rw[decide_eq_true rfl];refine gY ?_;exact⟨s3.trans s4,_,_,_,rfl⟩
 . rintro σ H' ⟨s2,_⟩;exact q _ s2
theorem E8 {N:Nat}{vs:List V}{H:Hp}{Q:VK}{E:XK}:¬qW 0 N vs H Q E:=λh=>by
 obtain⟨_,_,_,_,d,_,_,_,_,_,_,_,J,_⟩:=h;have:=d.jr;omega
theorem E9 (N j:Nat)(hj:1<=j)(T:Tb mg)(J:Dn K mg "tree_misfit" jW (top 15) Y aa)(L:Dn K mg "is_pair" lL (top 14) ae af)(U:d_ P w K mg base f_ (1) ae af lL (qN))(ab:Dn K mg "misfit" jm (top 10) ag ah)(ac:d_ P w K mg base f_ (j) ag ah jm (m7 N)):∀n:Nat,d_ P w K mg base f_ (n+j) Y aa jW (qW n N)
 |0=>⟨λvs H Q E h=>absurd h E8,λA outer s H args us vs Q E _ _ _ _ h=>absurd h E8⟩
 |n+1=>by
  have:=Md n N j hj T J (E9 N j hj T J L U ab ac n) L U ab ac;rw[show n+1+j=(n+j)+1 by omega];exact this
theorem Me (n N j:Nat)(T:Tb mg)(an:Dn K mg "misfit" jm (top 10) ao ap)(J:Dn K mg "record_misfit" kh (top 11) L U)(Y:d_ P w K mg base f_ (4) L U kh (sW 0))(af:Dn K mg "rows_misfit" oB (top 13) ag ah)(ai:d_ P w K mg base f_ (5) ag ah oB (vY 0))(aj:Dn K mg "tree_misfit" jW (top 15) ak al)(am:d_ P w K mg base f_ (j) ak al jW (qW n N))(aa:Dn K mg "either_misfit" oE (top 16) ab ac)(ae:d_ P w K mg base f_ (4) ab ac oE (vZ 0))(hj:5<=j):d_ P w K mg base f_ (j+1) ao ap jm (E7 n N):=by
 refine an.F.ok v5 λvs H Q E h=>?_;obtain⟨kv,v,k,d,fp,rfl,hk,hW,hO,hF,aq,ar,q⟩:=h;refine⟨rfl,λau A outer s nd hr hu=>?_⟩
 refine⟨_,(gh (gD 2 nd (gp (pv 0) c_))
  (gh (gF (gI gX (pv 2) gK (gE _)) (gm (gv (oR (PW.pt (qf (iG (g7 jD (by rfl) T.jE boot_isinstance (a_ (pv 1) (a_ (jA (v:=.ty "int") rfl T.vE boot_int rfl) b_)))) (qe (i7 (iG (g7 jD (by rfl) T.jE boot_isinstance (a_ (pv 1) (a_ (jA (v:=.ty "bool") rfl T.vF boot_bool rfl) b_)))))))) i_ (iJ b_)))) gH)
  (gh (gF (gI gX (pv 2) gK (gE _)) (gm (gv (oR (iG (g7 jD (by rfl) T.jE boot_isinstance (a_ (pv 1) (a_ (jA (v:=.ty "str") rfl T.sx boot_str rfl) b_)))) i_ (iJ b_)))) gH)
  (gh (gF (gI gX (pv 2) gK (gE _)) (gm (gv (gz Y hr J (a_ (gp (pv 0) c_) (a_ (pv 1) b_))))) gH)
  (gh (gF (gI gX (pv 2) gK (gE _)) (gm (gv (gz ai hr af (a_ (pv 0) (a_ (pv 1) b_))))) gH)
  (gh (gF (gI gX (pv 2) gK (gE _)) (gm (gv (gz am hr aj (a_ (pv 0) (a_ (pv 1) b_))))) gH)
  (gm (gv (gz ae hr aa (a_ (gp (pv 0) c_) (a_ (pv 1) b_))))))))))),?_⟩
 ac_rfl
 unfold KA at hk;obtain⟨a,u,rfl,ha,hu⟩:=hk;refine⟨_,rfl,a,_,_,_,rfl,rfl,e_.of ha,rfl,?_⟩;refine iC rfl (by decide +kernel) ?_;refine iC rfl (by decide +kernel) ?_;refine iC rfl (by decide +kernel) ?_;refine iC rfl (by decide +kernel) ?_;refine lE rfl (by decide +kernel) ?_;exact⟨_,rfl,_,rfl,a,u,v,k,d,fp,rfl,ha,hu,hW,hO,hF,aq,ar,q⟩
end Pb
namespace Pb
open L2 PyProof.Rows
structure j0 (H:Hp) (kk t:Addr) (xs:List V) (fs:Fs):Prop where
 at_:H kk=some (.tup [.str "record",.ref t])
 tu:H t=some (.tup xs)
 fa:FA H xs fs
 nd:fs.names.Nodup
 jZ:fs.names.length<=12
 W:fs.W
 so:fs.names.Pairwise sle
theorem j0.mono {H H':Hp}{kk t:Addr}{xs:List V}{fs:Fs}(h:j0 H kk t xs fs)(u:Tu H H'):j0 H' kk t xs fs:=
 ⟨u _ _ h.at_,u _ _ h.tu,FA.mono u fs h.fa,h.nd,h.jZ,h.W,h.so⟩
theorem j0.few {H:Hp}{kk t r t':Addr}{xs:List V}{fs:Fs}(ss:List Str)(h:j0 H kk t xs fs)(h1:H r=some (.tup [.str "record",.ref t']))(h2:H t'=some (.tup (i4 ss xs fs.names))):j0 H r t' (i4 ss xs fs.names) (fs.gR ss):=
 ⟨h1,h2,FA.few fs h.fa,by rw[Fs.k7];exact h.nd.filter _,by rw[Fs.k7];exact Q0g (Q3j _ _) h.jZ,Fs.tq ss h.W,by rw[Fs.k7];exact h.so.filter _⟩
structure qX (H:Hp) (C v dx nl:Addr) (ss:List Str):Prop where
 ob:H v=some (.ins C dx [("names",.ref nl)])
 nl:H nl=some (.lst (ss.map V.str))
 nd:ss.Nodup
 jZ:ss.length<=12
structure lS (K:W.Frag) (mg:Str->Option Value) (C fI fB fS fP fG fK:Addr):Prop where
 ct:Cls K C
 na:nq K C "names"
 pZ:Mk K C fI
 m:mg "Take"=some (.ref C)
 b:Meth K C "behind" fB
 s:Meth K C "see" fS
 p:Meth K C "put" fP
 g:Meth K C "grade" fG
 k:Meth K C "keeps" fK
def E_ (K:W.Frag) (C:Addr):Sp:=λvs H Q _=>∃x hl dx,∃ss:List Str,vs=[.ref x,.ref hl]/\H x=some (.ins C dx [])/\gi K H hl (ss.map V.str)/\∀p H',H p=none->(∀c o,c≠x->H c=some o->H' c=some o)->H' x=some (.ins C dx [("names",.ref p)])->H' p=some (.lst (ss.map V.str))->Q .non H'
def tJ (P2 C:Addr):Sp:=λvs H Q _=>∃v kk t dx nl xs fs ss,vs=[.ref v,.ref kk]/\qX H C v dx nl ss/\j0 H kk t xs fs/\(∀x∈ss,x∈fs.names)/\gJ P2 jF jG H/\∀r t' H',jd P2 H H'->gJ P2 jF jG H'->H' r=some (.tup [.str "record",.ref t'])->H' t'=some (.tup (i4 ss xs fs.names))->Q (.ref r) H'
def wC (C:Addr):Sp:=λvs H Q _=>∃v J a dx nl ss kvs,∃f:Str->V,vs=[.ref v,J,.ref a]/\qX H C v dx nl ss/\H a=some (.dK kvs)/\(∀x∈ss,h6 kvs (Sum.inr x)=some (f x))/\∀p H',Same H H'->H' p=some (.dK (iU f ss))->H p=none->Q (.ref p) H'
def tK:Sp:=λvs H Q _=>∃v,vs=[v]/\Q (.str "firm") H
def wD (n:Nat):Sp:=λvs H Q _=>∃J v k d fp,vs=[J,v]/\KA H J k/\k.W/\Own H v d fp/\kZ k d/\d.dep<=n/\d.Sm/\∀H',Same H H'->Q .non H'
def Fb (n N:Nat):Sp:=λvs H Q _=>∃J v k d fp,vs=[J,v]/\KA H J (.tree k)/\k.W/\Own H v d fp/\Tree (λt=>kj k t/\t.dep<=N) d/\d.dep<=n/\d.Sm/\∀H',Same H H'->Q .non H'
def Kn (H H':Hp):Prop:=∀c o,(∀ps,o≠ .iQ ps)->H c=some o->H' c=some o
theorem Kn.of {H H':Hp}(s:Same H H'):Kn H H':=λc o _ e=>s c o e
theorem Kn.trans {H H1 H2:Hp}(a:Kn H H1)(b:Kn H1 H2):Kn H H2:=λc o J e=>b c o J (a c o J e)
theorem Kn.lh {P:Addr}{J:Pos}{L:Str}{H H':Hp}(k:jd P H H')(hT:gJ P J L H):Kn H H':=λc o U e=>by
 obtain⟨ps,Y⟩:=hT.tab;exact k c o (jK e Y (U ps)) e
theorem Kn.tu {H H':Hp}(k:Kn H H'):Tu H H':=λc xs e=>k c _ (by intro ps z;cases z) e
theorem Kn.lst {H H':Hp}(k:Kn H H'){c:Addr}{xs:List V}(e:H c=some (.lst xs)):H' c=some (.lst xs):=k c _ (by intro ps z;cases z) e
theorem Own.kn {H H':Hp}{v:V}{d:D}{fp:List Addr}(h:Own H v d fp)(k:Kn H H'):Own H' v d fp:=Own.keep k.tu d (λc hc o e=>k c o (by
 intro ps z;rcases Own.alive _ h c hc with⟨_,q⟩|⟨_,q⟩ <;> rw[e] at q <;> rw[z] at q <;> cases q) e) h
theorem gx.kn {H H':Hp}{kvs:List (Key × V)}{m:Ds}{fp:List Addr}(h:gx H kvs m fp)(k:Kn H H'):gx H' kvs m fp:=gx.keep k.tu m (λc hc o e=>k c o (by
 intro ps z;rcases gx.alive _ h c hc with⟨_,q⟩|⟨_,q⟩ <;> rw[e] at q <;> rw[z] at q <;> cases q) e) h
def wF (n:Nat) (P2 C:Addr):Sp:=λvs H Q _=>∃v kk t dx nl xs fs ss src sn ks kn J fp,vs=[.ref v,.ref kk,.ref src,.ref sn]/\qX H C v dx nl ss/\j0 H kk t xs fs/\(∀x∈ss,x∈fs.names)/\gJ P2 jF jG H/\H src=some (.dK ks)/\ks.length<=12/\H sn=some (.dK kn)/\gx H kn J fp/\me (fs.gR ss) J/\J.dep+1<=n/\(D.dct J).Sm/\
 ∀p H',jd P2 H H'->gJ P2 jF jG H'->H p=none->H' p=some (.dK (lO ks kn))->Q (.ref p) H'
section
variable {P:Program}{w:World}{K:W.Frag}{mg:Str->Option Value}{base:Heap}
variable {C P2:Addr}
theorem Mf:gP Xl Xl (gC (gw 33 0)):=gT
theorem Mg (T:Tb mg)(TK:lS K mg C J Y ac ae aa ab)(L:Dm K "__init__" "Take.__init__" sG (gw 33 0) J U):d_ P w K mg base f_ (1) J U sG (E_ K C):=by
 refine L.F.ok Mf λvs H Q E h=>?_;obtain⟨x,hl,dx,ss,rfl,hx,hs,q⟩:=h;refine⟨rfl,λag A outer s nd hr hu=>?_⟩;refine⟨_,(gm (BN (pv 0) (nt B9 (by rfl) T.nI boot_list (a_ (pv 1) b_)) rfl)),?_⟩
 ac_rfl
 refine⟨_,rfl,hl,_,rfl,.inl hs,λp hp=>?_⟩;have af:x≠p:=gB hx hp;refine⟨_,rfl,x,C,dx,[],rfl,by rw[gj af];exact hx,TK.ct,TK.na,by decide,?_⟩;refine q p _ hp (λc o hc e=>by rw[gj hc,gj (gB e hp)];exact e) gu ?_;rw[gj (Ne.symm af),gu]
theorem Mh:gP XO XO (gC (gw 33 1)):=gT
theorem Mi (T:Tb mg)(TK:lS K mg C aq J aw ax au av)(ab:Dm K "behind" "Take.behind" jI (gw 33 1) J ac)(ai:Dn K mg "ask_stands" nJ (top 22) aj ak)(al:d_ P w K mg base f_ (1) aj ak nJ (tw))(L:Dn K mg "has_each_once" sy (top 30) U Y)(aa:d_ P w K mg base f_ (3) U Y sy (EL K))(ae:Dn K mg "fields_among" sC (top 31) af ag)(ah:d_ P w K mg base f_ (1) af ag sC (EN true K))(am:Dn K mg "record_of" mY (top 8) an ao)(ap:d_ P w K mg base f_ (9) an ao mY (EJ K P2)):d_ P w K mg base f_ (10) J ac jI (tJ P2 C):=by
 refine ab.F.ok Mh λvs H Q E h=>?_;obtain⟨v,kk,t,dx,nl,xs,fs,ss,rfl,hV,hK,aA,hT,q⟩:=h;refine⟨rfl,λaH A outer s nd hr hu=>?_⟩
 refine⟨_,(gh (j5 (gz al hr ai (a_ (gz aa hr L (a_ (pv 1) (a_ (oi (pv 0) rfl) b_))) b_)))
  (gm (gv (gz ap hr am (a_ (gz ah hr ae (a_ (gp (pv 1) c_) (a_ (oi (pv 0) rfl) b_))) b_))))),?_⟩
 ac_rfl
 refine⟨_,rfl,_,rfl,v,C,dx,_,_,rfl,hV.ob,TK.ct,TK.na,rfl,kk,t,nl,xs,fs,ss,rfl,hK.at_,hK.tu,hK.fa,hK.nd,gi.of hV.nl,hV.nd,hV.jZ,aA,λH1 s1=>⟨rfl,?_⟩⟩;have ar:=hK.mono (Tu.of s1);refine⟨_,rfl,kk,_,_,_,rfl,rfl,e_.of ar.at_,rfl,_,rfl,v,C,dx,_,_,rfl,s1 _ _ hV.ob,TK.ct,TK.na,rfl,t,nl,xs,fs,ss,rfl,ar.tu,ar.fa,ar.jZ,gi.of (s1 _ _ hV.nl),λp H2 s2 ay _=>?_⟩;have az:=s1.trans s2;have aB:=ar.mono (Tu.of s2);obtain⟨qs,e1,e2,aC⟩:=lJ.of (FA.few (ss:=ss) fs aB.fa);rw[<-e1] at ay
 have aI:qs.length<=12:=by
  rw[<-tf,e2,Fs.k7];exact Q0g (Q3j _ _) hK.jZ
 refine⟨p,qs,rfl,gi.of ay,aC,by omega,hT.same az,by rw[e2,Fs.k7];exact hK.nd.filter _,by rw[e2,Fs.k7];exact hK.so.filter _,λr t' H' kp aD aE aG=>?_⟩;exact q r t' H' ((Kp.of az).trans kp) aD aG (by rw[aE,e1])
theorem Mj:gP XF XF (gC (gw 33 2)):=gT
theorem Ml (T:Tb mg)(TK:lS K mg C ae af J ai ag ah)(L:Dm K "see" "Take.see" jP (gw 33 2) J U)(Y:Dn K mg "part_of" sE (top 32) aa ab)(ac:d_ P w K mg base f_ (1) aa ab sE (ER K)):d_ P w K mg base f_ (2) J U jP (wC C):=by
 refine L.F.ok Mj λvs H Q E h=>?_;obtain⟨v,kv,a,dx,nl,ss,kvs,f,rfl,hV,ha,hf,q⟩:=h;refine⟨rfl,λaj A outer s nd hr hu=>?_⟩;refine⟨_,(gm (gv (gz ac hr Y (a_ (pv 2) (a_ (oi (pv 0) rfl) b_))))),?_⟩
 ac_rfl
 exact⟨_,rfl,_,rfl,v,C,dx,_,_,rfl,hV.ob,TK.ct,TK.na,rfl,a,nl,kvs,ss,f,rfl,ha,gi.of hV.nl,hV.nd,hV.jZ,hf,q⟩
theorem Mm:gP ["self"] ["self"] (gC (gw 33 4)):=gT
theorem Mn (T:Tb mg)(J:Dm K "grade" "Take.grade" kX (gw 33 4) L U):d_ P w K mg base f_ (1) L U kX (tK):=by
 refine J.F.ok Mm λvs H Q E h=>?_;obtain⟨v,rfl,q⟩:=h;refine⟨rfl,λY A outer s nd hr hu=>?_⟩;refine⟨_,(gm (gv gK)),?_⟩
 ac_rfl
 exact q
theorem Fc:gP ["kind","seen","place"] ["kind","seen"] (gC (top 21)):=gT
theorem Mo (n j:Nat)(T:Tb mg)(J:Dn K mg "ask_fit" md (top 21) L U)(Y:Dn K mg "misfit" jm (top 10) aa ab)(ac:d_ P w K mg base f_ (j) aa ab jm (m7 n)):d_ P w K mg base f_ (j+1) L U md (wD n):=by
 refine J.F.ok Fc λvs H Q E h=>?_;obtain⟨kv,v,k,d,fp,rfl,hk,hW,ho,hF,hd,hs,q⟩:=h;refine⟨rfl,λae A outer s nd hr hu=>?_⟩
 refine⟨_,(gh (gD 2 nd (gz ac hr Y (a_ (pv 0) (a_ (pv 1) b_))))
  (gm (gF (gI lB (pv 2) i_ (gE _)) (gm rB) gH))),?_⟩
 ac_rfl
 refine⟨_,rfl,_,rfl,kv,v,k,d,fp,rfl,hk,hW,ho,hF,hd,hs,λH' s1=>?_⟩;refine⟨_,rfl,rfl,_,rfl,?_⟩;rw[decide_eq_true rfl];exact gY (q _ s1)
theorem Mp (n N j:Nat)(T:Tb mg)(J:Dn K mg "ask_fit" md (top 21) L U)(Y:Dn K mg "misfit" jm (top 10) aa ab)(ac:d_ P w K mg base f_ (j) aa ab jm (E7 n N)):d_ P w K mg base f_ (j+1) L U md (Fb n N):=by
 refine J.F.ok Fc λvs H Q E h=>?_;obtain⟨kv,v,k,d,fp,rfl,hk,hW,ho,hF,hd,hs,q⟩:=h;refine⟨rfl,λae A outer s nd hr hu=>?_⟩
 refine⟨_,(gh (gD 2 nd (gz ac hr Y (a_ (pv 0) (a_ (pv 1) b_))))
  (gm (gF (gI lB (pv 2) i_ (gE _)) (gm rB) gH))),?_⟩
 ac_rfl
 refine⟨_,rfl,_,rfl,kv,v,k,d,fp,rfl,hk,hW,ho,hF,hd,hs,λH' s1=>?_⟩;refine⟨_,rfl,rfl,_,rfl,?_⟩;rw[decide_eq_true rfl];exact gY (q _ s1)
theorem Mq:gP ["self","kind","source","seen","fresh"] XE (gC (gw 33 3)):=gT
theorem Mr (n j:Nat)(T:Tb mg)(TK:lS K mg C ak J an L al am)(ab:Dm K "put" "Take.put" kY (gw 33 3) L ac)(af:Dn K mg "ask_fit" md (top 21) ag ah)(ai:d_ P w K mg base f_ (j) ag ah md (wD n))(U:Dm K "behind" "Take.behind" jI (gw 33 1) J Y)(aa:d_ P w K mg base f_ (10) J Y jI (tJ P2 C))(hj:10<=j):d_ P w K mg base f_ (j+1) L ac kY (wF n P2 C):=by
 have CT:=TK.ct;have aj:=TK.b;refine ab.F.ok Mq λvs H Q E h=>?_;obtain⟨v,kk,t,dx,nl,xs,fs,ss,src,sn,ks,kn,mn,fp,rfl,hV,hK,ay,hT,ax,aG,az,hO,hU,aH,aA,q⟩:=h;refine⟨rfl,λaI A outer s nd hr hu=>?_⟩
 refine⟨_,(gh (j5 (gz ai hr af (a_ (jH (pv 0) CT aj aa (hr.mono (by omega)) U.b .nil i9 (a_ (pv 1) b_)) (a_ (pv 3) b_))))
  (gh (gD 4 nd (nt Lr (by rfl) T.vG boot_dict (a_ (pv 2) b_)))
  (gh (j5 (mN PySem.F.plainAttrs_dict PySem.F.slot_dict_update PySem.F.type_dict_update Lv (pv 4) (a_ (pv 3) b_)))
  (gm (gv (pv 4)))))),?_⟩
 ac_rfl
 refine⟨_,rfl,v,dx,_,rfl,hV.ob,rfl,_,rfl,v,kk,t,dx,nl,xs,fs,ss,rfl,hV,hK,ay,hT,λr t' H1 ar aw aB aC=>?_⟩;have k1:=Kn.lh ar hT;have ae:=(hK.mono k1.tu).few ss aB aC;have ao:=k1 _ _ (by intro ps z;cases z) az;have au:=k1 _ _ (by intro ps z;cases z) ax
 have aD:Own H1 (.ref sn) (.dct mn) (sn::fp):=by
  unfold Own;exact⟨sn,kn,fp,rfl,ao,rfl,hO.kn k1⟩
 refine⟨_,rfl,.ref r,.ref sn,.gA (fs.gR ss),.dct mn,_,rfl,by unfold KA;exact⟨r,t',_,rfl,ae.at_,ae.tu,ae.fa⟩,by unfold Kd.W;exact⟨ae.nd,ae.jZ,ae.W⟩,aD,⟨mn,rfl,hU⟩,by simp only[D.dep];omega,aA,λH2 s2=>?_⟩;have ap:=s2 _ _ ao;have av:=s2 _ _ au;refine⟨_,rfl,src,ks,rfl,av,λl hl=>?_⟩;have aq:sn≠l:=gB ap hl
 have aE:kn.length<=12:=by
  rw[gx.len hO,hU.1];exact ae.jZ
 have sF:Same H2 (upd (upd H2 l (.dK ks)) l (.dK (lO ks kn))):=λc o e=>by rw[gj (gB e hl),gj (gB e hl)];exact e
 refine⟨_,rfl,.inr (.inr (.inl ⟨rfl,.inl ⟨_,gu⟩⟩)),_,rfl,l,sn,ks,kn,rfl,rfl,Ne.symm aq,gu,by rw[gj aq];exact ap,Q0q (iB (by omega)),?_⟩;refine⟨_,rfl,q l _ (ar.trans ((Kp.of s2).trans (Kp.of sF))) ((aw.same s2).same sF) ?_ gu⟩
 cases e:H l with
 |none=>rfl
 |some o=>
  by_cases z:l=P2
  . obtain⟨aJ,h2⟩:=(aw.same s2).tab;rw[<-z,hl] at h2;cases h2
  . have:=s2 _ _ (ar l o z e);rw[hl] at this;cases this
end
end Pb
namespace L2
open Spec PyProof.Rows
structure Fe (K:W.Frag) (C:Addr):Prop where
 makes:W.makesIn K C=true
 init:W.findIn K (.ref C) "__init__"=some (some (.builtin "object.__init__"))
 kp:W.keepIn K (.ref C)=true
open W in
theorem Ms {K:Frag}{prog:Program}{w:World}{A:Around}{s:Shared}{C:Addr}{R:Result->Shared->Prop}(X:K.In s.heap)(L:makesIn K C=true)(hi:findIn K (.ref C) "__init__"=some (some (.builtin "object.__init__")))
 (h:R (.ok (.ret (.ref (s.heap.objs.size+1)))) { s with heap:=(s.heap.push emptyDict).push (instObj C s.heap.objs.size) }):codeAny (model prog w) A (.call (.ref C) ⟨[],[]⟩) R s:=by
 have Y:=makes_of (M:=model prog w) X L;refine Hw X L hi (λself=>Looks.of_pure (oi_bind self)) ?_;obtain⟨J,g,d,t,os⟩:=s
 have U:((J.push emptyDict).push (instObj C J.objs.size)).get? (J.objs.size+1)=some (instObj C J.objs.size):=by
  rw[<-Q16 J emptyDict];exact Q0i _ rfl
 have t1:Looks (model prog w) ((J.push emptyDict).push (instObj C J.objs.size)) (typeOf (.ref (J.objs.size+1))) (.ref C):=(Looks.ld U).andThen .now;have t2:Looks (model prog w) ((J.push emptyDict).push (instObj C J.objs.size)) (isInstance (.ref (J.objs.size+1)) (.type "object")) true:=t1.andThen (Y.top.keeps λb o e=>Q07 _ (Q07 _ e));refine codeAny_call_builtin oi_plain entry_oi (@check_slot (model prog w) _ _ _ "object.__init__" "object" "__init__" (.ref (J.objs.size+1)) [] [] _ oi_kind oi_split t2 (oi_args (.ref (J.objs.size+1))) ?_);rw[oi_run];exact Q0c (And.intro rfl h)
section
variable {X:Cx}{C:Addr}{x:Str}{p pos:Pos}
theorem Ff (M:Fe X.K C)(L:Gl X x)(U:X.mg x=some (.ref C))(J:(x == ("__debug__":Str))=false:=by decide):
 PE X (.Call (.Name x p) [] [] pos) (λσ H Q=>∀y dx,H y=none->H dx=none->dx≠y->Q (.ref y) (upd (upd H dx (.own y)) y (.ins C dx []))):=by
 intro pins s σ H Q I h;refine wpAny_Call_Name_kw (rq I L U ?_ J);refine W.callWith_K0 I.iW M.kp (wpAny_call (Ms I.iW M.makes M.init ?_));have Y:=h (s.heap.objs.size+1) s.heap.objs.size (I.hok.fresh (Q11 _)) (I.hok.fresh (Q00 _)) (Q0a (Q13 _));exact⟨V.ref (s.heap.objs.size+1),_,Inv.made (C:=C) I,rfl,Y⟩
end
end L2
namespace Pb
open L2 PyProof.Rows
structure mj (K:W.Frag) (mg:Str->Option Value) (C fI fB fS fP fN fG fK:Addr):Prop where
 ct:Cls K C
 na:nq K C "inner"
 pZ:Mk K C fI
 m:mg "Boughs"=some (.ref C)
 b:Meth K C "behind" fB
 s:Meth K C "see" fS
 p:Meth K C "put" fP
 n:Meth K C "put_knots" fN
 g:Meth K C "grade" fG
 k:Meth K C "keeps" fK
structure tL (K:W.Frag) (mg:Str->Option Value) (x:Str) (C:Addr):Prop where
 m:mg x=some (.ref C)
 ty:W.typeIn K (.ref C)=some (.type "type")
 is:(W.clsIn K C).isSome=true
 bx:W.subIn K (.ref C) (.type "BaseException")=some true
structure Bo (H:Hp) (C CB P2 v dx vi gW nl kk kr t:Addr) (xs:List V) (fs:Fs) (ss:List Str):Prop where
 b:H v=some (.ins CB dx [("inner",.ref vi)])
 tk:qX H C vi gW nl ss
 k:H kk=some (.tup [.str "tree",.ref kr])
 r:j0 H kr t xs fs
 inn:∀x∈ss,x∈fs.names
 lam:gJ P2 jF jG H
theorem Bo.kn {H H':Hp}{C CB P2 v dx vi gW nl kk kr t:Addr}{xs:List V}{fs:Fs}{ss:List Str}(h:Bo H C CB P2 v dx vi gW nl kk kr t xs fs ss)(k:Kn H H')(hT:gJ P2 jF jG H'):Bo H' C CB P2 v dx vi gW nl kk kr t xs fs ss:=
 ⟨k _ _ (by intro ps z;cases z) h.b,⟨k _ _ (by intro ps z;cases z) h.tk.ob,k.lst h.tk.nl,h.tk.nd,h.tk.jZ⟩,k.tu _ _ h.k,h.r.mono k.tu,h.inn,hT⟩
theorem Bo.same {H H':Hp}{C CB P2 v dx vi gW nl kk kr t:Addr}{xs:List V}{fs:Fs}{ss:List Str}(h:Bo H C CB P2 v dx vi gW nl kk kr t xs fs ss)(s:Same H H'):Bo H' C CB P2 v dx vi gW nl kk kr t xs fs ss:=h.kn (Kn.of s) (h.lam.same s)
theorem jd.free {P2 c:Addr}{J:Pos}{L:Str}{H H':Hp}(k:jd P2 H H')(hT:gJ P2 J L H')(h:H' c=none):H c=none:=by
 cases e:H c with
 |none=>rfl
 |some o=>
  by_cases z:c=P2
  . obtain⟨ps,q⟩:=hT.tab;rw[z,q] at h;cases h
  . rw[k c o z e] at h;cases h
def Fg (CB:Addr):Sp:=λvs H Q _=>∃x dx vi,vs=[.ref x,.ref vi]/\H x=some (.ins CB dx [])/\∀H',(∀c o,c≠x->H c=some o->H' c=some o)->H' x=some (.ins CB dx [("inner",.ref vi)])->Q .non H'
def Fh (P2 C:Addr):Sp:=λvs H Q E=>∃l r,vs=l::r/\tJ P2 C r H Q E
def wG (n:Nat) (P2 C:Addr):Sp:=λvs H Q E=>∃l r,vs=l::r/\wF n P2 C r H Q E
def wH (C CB P2:Addr):Sp:=λvs H Q _=>∃v dx vi gW nl kk kr t xs fs ss,vs=[.ref v,.ref kk]/\Bo H C CB P2 v dx vi gW nl kk kr t xs fs ss/\
 ∀q r t' H',jd P2 H H'->gJ P2 jF jG H'->H' q=some (.tup [.str "tree",.ref r])->H' r=some (.tup [.str "record",.ref t'])->H' t'=some (.tup (i4 ss xs fs.names))->Q (.ref q) H'
def Fi (C CB:Addr):Sp:=λvs H Q _=>∃v dx vi gW nl ss,vs=[.ref v]/\H v=some (.ins CB dx [("inner",.ref vi)])/\qX H C vi gW nl ss/\Q (.str "loose") H
def tM:Sp:=λvs H Q _=>∃v x,vs=[v,x]/\Q (.bl false) H
section
variable {P:Program}{w:World}{K:W.Frag}{mg:Str->Option Value}{base:Heap}
variable {C CB P2 Mt Mv:Addr}
theorem Mw:gP ["ahead","inner","kind","e"] Xm (gC (top 23)):=gT
theorem Mx (T:Tb mg)(TK:lS K mg C af J ai aj ag ah)(XC:tL K mg "NoView" Mt)(L:Dn K mg "behind_inner" sI (top 23) U Y)(aa:Dm K "behind" "Take.behind" jI (gw 33 1) J ab)(ac:d_ P w K mg base f_ (10) J ab jI (tJ P2 C)):d_ P w K mg base f_ (11) U Y sI (Fh P2 C):=by
 have CT:=TK.ct;have ae:=TK.b;refine L.F.ok Mw λvs H Q E h=>?_;obtain⟨l,r,rfl,v,kk,t,dx,nl,xs,fs,ss,rfl,hV,hK,ak,hT,q⟩:=h;refine⟨rfl,λal A outer s nd hr hu=>?_⟩;refine⟨_,(gm (EC (Ek:=λ_ _ _=>False) (i:=3) rfl rfl (EB (ED (jH (pv 1) CT ae ac (hr.mono (by decide)) aa.b .nil i9 (a_ (pv 2) b_)))) rfl XC.m XC.ty XC.is XC.bx (λ_ _ _ z=>z.elim) nd rfl rfl (λa=>uF))),?_⟩
 ac_rfl
 refine⟨?_,λa C' dd H' na hE=>hE.elim⟩;exact⟨_,rfl,v,dx,_,rfl,hV.ob,rfl,_,rfl,v,kk,t,dx,nl,xs,fs,ss,rfl,hV,hK,ak,hT,q⟩
theorem My:gP ["ahead","inner","kind","source","seen","e"] Xa (gC (top 24)):=gT
theorem Mz (n j:Nat)(T:Tb mg)(TK:lS K mg C ae af aj J ag ah)(XC:tL K mg "CantPut" Mv)(L:Dn K mg "put_inner" pM (top 24) U Y)(aa:Dm K "put" "Take.put" kY (gw 33 3) J ab)(ac:d_ P w K mg base f_ (j) J ab kY (wF n P2 C)):d_ P w K mg base f_ (j+1) U Y pM (wG n P2 C):=by
 have CT:=TK.ct;have ai:=TK.p;refine L.F.ok My λvs H Q E h=>?_;obtain⟨l,r,rfl,v,kk,t,dx,nl,xs,fs,ss,src,sn,ks,kn,mn,fp,rfl,hV,q⟩:=h;refine⟨rfl,λak A outer s nd hr hu=>?_⟩;refine⟨_,(gm (EC (Ek:=λ_ _ _=>False) (i:=5) rfl rfl (EB (ED (jH (pv 1) CT ai ac (hr.mono (by omega)) aa.b .nil i9 (a_ (pv 2) (a_ (pv 3) (a_ (pv 4) b_)))))) rfl XC.m XC.ty XC.is XC.bx (λ_ _ _ z=>z.elim) nd rfl rfl (λa=>uF))),?_⟩
 ac_rfl
 refine⟨?_,λa C' dd H' na hE=>hE.elim⟩;exact⟨_,rfl,v,dx,_,rfl,hV.ob,rfl,_,rfl,_,rfl,_,rfl,v,kk,t,dx,nl,xs,fs,ss,src,sn,ks,kn,mn,fp,rfl,hV,q⟩
theorem MA:gP Xn Xn (gC (gw 28 0)):=gT
theorem MC (T:Tb mg)(BO:mj K mg CB J aa ae af Y ab ac)(L:Dm K "__init__" "Boughs.__init__" sJ (gw 28 0) J U):d_ P w K mg base f_ (1) J U sJ (Fg CB):=by
 refine L.F.ok MA λvs H Q E h=>?_;obtain⟨x,dx,vi,rfl,hx,q⟩:=h;refine⟨rfl,λag A outer s nd hr hu=>?_⟩;refine⟨_,(gm (BN (pv 0) (pv 1) rfl)),?_⟩
 ac_rfl
 refine⟨_,rfl,_,rfl,x,CB,dx,[],rfl,hx,BO.ct,BO.na,by decide,?_⟩;exact q _ (λc o hc e=>by rw[gj hc];exact e) gu
theorem MD:gP XO XO (gC (gw 28 1)):=gT
theorem ME (T:Tb mg)(BO:mj K mg CB aj J am an ai ak al)(L:Dm K "behind" "Boughs.behind" jI (gw 28 1) J U)(ae:Dn K mg "ask_stands" nJ (top 22) af ag)(ah:d_ P w K mg base f_ (1) af ag nJ (tw))(Y:Dn K mg "behind_inner" sI (top 23) aa ab)(ac:d_ P w K mg base f_ (11) aa ab sI (Fh P2 C)):d_ P w K mg base f_ (12) J U jI (wH C CB P2):=by
 refine L.F.ok MD λvs H Q E h=>?_;obtain⟨v,dx,vi,gW,nl,kk,kr,t,xs,fs,ss,rfl,B,q⟩:=h;refine⟨rfl,λaq A outer s nd hr hu=>?_⟩
 refine⟨_,(gh (j5 (gz ah hr ae (a_ (mI gX (gp (pv 1) c_) gK (gE _)) b_)))
  (gm (gv (iw (a_ gK (a_ (gz ac hr Y (a_ (iJ (a_ gK b_)) (a_ (oi (pv 0) rfl) (a_ (gp (pv 1) c_) b_)))) b_)))))),?_⟩
 ac_rfl
 refine⟨_,rfl,kk,_,_,_,rfl,rfl,e_.of B.k,rfl,rfl,by rw[decide_eq_true rfl];rfl,?_⟩;refine⟨ma,λl hl=>?_⟩;have s1:Same H (upd H l (.lst [.str "knot"])):=Same.new hl;generalize upd H l (.lst [.str "knot"])=H1 at s1;have B1:=B.same s1;refine⟨_,rfl,v,CB,dx,_,_,rfl,B1.b,BO.ct,BO.na,rfl,_,rfl,kk,_,_,_,rfl,rfl,e_.of B1.k,rfl,.ref l,_,rfl,vi,kr,t,gW,nl,xs,fs,ss,rfl,B1.tk,B1.r,B1.inn,B1.lam,λr t' H2 kp hT ao ap=>⟨iq,λz hz=>?_⟩⟩;have s3:Same H2 (upd H2 z (.tup [.str "tree",.ref r])):=Same.new hz;exact q z r t' _ ((Kp.of s1).trans (kp.trans (Kp.of s3))) (hT.same s3) gu (s3 _ _ ao) (s3 _ _ ap)
theorem MF:gP ["self"] ["self"] (gC (gw 28 5)):=gT
theorem MG (T:Tb mg)(TK:lS K mg C ah ak ap aq L am)(BO:mj K mg CB ag ai an ao af J aj)(U:Dm K "grade" "Boughs.grade" kX (gw 28 5) J Y)(aa:Dm K "grade" "Take.grade" kX (gw 33 4) L ab)(ac:d_ P w K mg base f_ (1) L ab kX (tK)):d_ P w K mg base f_ (2) J Y kX (Fi C CB):=by
 have al:=TK.ct;have ae:=TK.g;refine U.F.ok MF λvs H Q E h=>?_;obtain⟨v,dx,vi,gW,nl,ss,rfl,hv,ar,q⟩:=h;refine⟨rfl,λau A outer s nd hr hu=>?_⟩;refine⟨_,(gm (gv (oR (gI gX (uQ (oi (pv 0) rfl) al ae ac (hr.mono (by decide)) aa.b .nil i9) gK (gE _)) gK gK))),?_⟩
 ac_rfl
 refine⟨_,rfl,v,CB,dx,_,_,rfl,hv,BO.ct,BO.na,rfl,vi,gW,_,rfl,ar.ob,rfl,.ref vi,rfl,rfl,_,rfl,?_⟩;rw[show decide (V.str "firm"=V.str "full")=false by decide +kernel];exact gY q
theorem MH:gP XV XV (gC (gw 28 6)):=gT
theorem MJ (T:Tb mg)(J:Dm K "keeps" "Boughs.keeps" nK (gw 28 6) L U):d_ P w K mg base f_ (1) L U nK (tM):=by
 refine J.F.ok MH λvs H Q E h=>?_;obtain⟨v,x,rfl,q⟩:=h;refine⟨rfl,λY A outer s nd hr hu=>?_⟩;exact⟨_,(gm (gv jk)),q⟩
end
theorem tN {H:Hp}{v:V}{d:D}{fp g:List Addr}{zs:List V}{L:List D}{i:Nat}(h:gn H zs (ofD (L.take i)) g)(J:L[i]? =some d)(U:Own H v d fp):gn H (zs++[v]) (ofD (L.take (i+1))) (g++fp):=by
 rw[Q0t,J];show gn H _ (ofD (L.take i++[d])) _;rw[EX];exact gn.snoc U _ h
theorem tO {H:Hp}{L:List D}:gn H [] (ofD (L.take 0)) []:=by
 show gn H [] .nil [];unfold gn;exact⟨rfl,rfl⟩
theorem nR {H:Hp}{u:V}{d:D}{fp:List Addr}{U:Ds->Prop}(h:Own H u d fp)(hT:g_ U d):∃x y m as c a l kvs ys J L,d=.tup (.cons x (.dct m) (.cons y (.lst as) .nil))/\U m/\(∀i e,Ds.at as i=some e->g_ U e)/\u=.ref c/\H c=some (.tup [.ref a,.ref l])/\H a=some (.dK kvs)/\gx H kvs m J/\H l=some (.lst ys)/\gn H ys as L/\ys.length=as.len/\(∀z∈J,z∈fp)/\(∀z∈L,z∈fp)/\a∈fp/\l∈fp:=by
 obtain⟨x,y,m,as,rfl,hm,ha⟩:=g_.shape hT;obtain⟨c,v1,v2,g1,g2,rfl,hc,rfl,h1,h2⟩:=h.pair;unfold Own at h1 h2;obtain⟨a,kvs,J,rfl,aa,rfl,hO⟩:=h1;obtain⟨l,ys,L,rfl,hl,rfl,hL⟩:=h2;exact⟨x,y,m,as,c,a,l,kvs,ys,J,L,rfl,hm,ha,rfl,hc,aa,hO,hl,hL,gn.len _ hL,λz Y=>by simp[Y],λz Y=>by simp[Y],by simp,by simp⟩
def qY (n:Nat) (C CB P2:Addr):Sp:=λvs H Q _=>∃v dx vi gW nl kk kr t xs fs ss u d fp r,vs=[.ref v,.ref kk,u]/\Bo H C CB P2 v dx vi gW nl kk kr t xs fs ss/\Own H u d fp/\g_ (iX fs r) d/\d.dep<=n/\d.Sm/\
 ∀L H' J,Same H H'->Own H' L (jg ss n d) J->(∀c∈J,H c=none\/c∈fp)->Q L H'
section
variable {P:Program}{w:World}{K:W.Frag}{mg:Str->Option Value}{base:Heap}
variable {C CB P2:Addr}
theorem MK:gP XF XF (gC (gw 28 2)):=gT
theorem ML (n:Nat)(T:Tb mg)(TK:lS K mg C ak ao Y aw aq ar)(BO:mj K mg CB ai al J au ah am an)(ac:Dm K "see" "Take.see" jP (gw 33 2) Y ae)(af:d_ P w K mg base f_ (2) Y ae jP (wC C))(L:Dm K "see" "Boughs.see" jP (gw 28 2) J U)(aa:d_ P w K mg base f_ (n+3) J U jP (qY n C CB P2)):d_ P w K mg base f_ ((n+1)+3) J U jP (qY (n+1) C CB P2):=by
 have ap:=TK.ct;have ag:=TK.s;have aj:=BO.ct;have ab:=BO.s;refine L.F.ok MK λvs H Q E h=>?_;obtain⟨v,dx,vi,gW,nl,kk,kr,t,xs,fs,ss,u,d,fp,r,rfl,B,hO,hT,hd,aB,q⟩:=h;refine⟨rfl,λaN A outer s nd hr hu=>?_⟩;obtain⟨x,y,m,as,c,a,l,kvs,ys,f1,f2,rfl,hm,ha,rfl,hc,aC,hM,hl,hL,aD,i1,i2,_,_⟩:=nR hO hT;rw[lQ] at hd;have hs:=kG.mp aB;refine⟨_,(gm (gv (iw (a_ (jH (oi (pv 0) rfl) ap ag af (hr.mono (by omega)) ac.b .nil i9 (a_ (gp (pv 1) c_) (a_ (gp (pv 2) c_) b_))) (a_ (kP (g:=(je 0)) (tt:=lD) (te:=_) (own:=["arm"]) rfl (kB (N:=XF) (sc:=gC (gw 28 2))) (mF (gp (pv 2) c_)) (λ_ _ _ _ _=>(g5 (i:=0) (show(["arm","self","kind","source"]:List Str).Nodup by decide +kernel) rfl (Or.inl rfl) (.inr rfl))) (λ_ _ _ _ _=>mP) (λ_ _ _ _ _=>(jH (pv 1) aj ab aa (hr.mono (by omega)) L.b .nil i9 (a_ (pv 2) (a_ (pv 0) b_))))) b_))))),?_⟩
 ac_rfl
 have hv:∀z∈ss,∃d g,h6 kvs (Sum.inr z)=some ((h6 kvs (Sum.inr z)).getD .non)/\m.v z=d/\Own H ((h6 kvs (Sum.inr z)).getD .non) d g/\∀c∈g,c∈f1:=λz hz=>by
  obtain⟨k,hk⟩:=Fs.m8 (B.inn z hz);obtain⟨d,g1,_⟩:=hm.fit.get hk;obtain⟨w,g,h1,h2,h3⟩:=gx.val _ hM g1;exact⟨d,g,by rw[h1];rfl,Ds.pU g1,by rw[h1];exact h2,h3⟩
 refine⟨_,rfl,v,CB,dx,_,_,rfl,B.b,BO.ct,BO.na,rfl,vi,gW,_,rfl,B.tk.ob,rfl,_,rfl,kk,_,_,_,rfl,rfl,e_.of B.k,rfl,_,rfl,c,_,_,_,rfl,rfl,e_.of hc,rfl,vi,.ref kr,a,gW,nl,ss,kvs,λz=>(h6 kvs (Sum.inr z)).getD .non,rfl,B.tk,aC,λz hz=>(hv z hz).choose_spec.choose_spec.1,λp H1 s1 hp aE=>?_⟩
 obtain⟨g,hR,hg⟩:=wm (H:=H1) (f:=λz=>(h6 kvs (Sum.inr z)).getD .non) (δ:=m.v) (S:=λc=>c∈f1) (l:=ss) λz hz=>by
  obtain⟨d,g,_,h2,h3,h4⟩:=hv z hz;exact⟨g,by rw[h2];exact h3.same s1,h4⟩
 have hR:Own H1 (.ref p) (.dct (ie m.v ss)) (p::g):=by
  unfold Own;exact⟨p,_,g,rfl,hp,rfl,hR⟩
 refine⟨_,rfl,c,_,_,_,rfl,rfl,e_.of (s1 _ _ hc),rfl,l,rfl,⟨_,gi.of (s1 _ _ hl)⟩,λi mm zs H'=>mm=ys.length - i/\i<=ys.length/\zs.length=i/\Same H1 H'/\∃gq,gn H' zs (ofD ((as.ds.map (jg ss n)).take i)) gq/\∀c∈gq,H c=none\/c∈fp,⟨ys.length,rfl,Q0d _,rfl,Same.refl _,[],tO,λc hc=>nomatch hc⟩,?_⟩;intro i mm zs H' zq;obtain⟨rfl,aM,aG,s2,gq,ax,ay⟩:=zq;have sa:=s1.trans s2;have aH:(as.ds.map (jg ss n)).length=ys.length:=by rw[Q04,Ds.lP,aD]
 by_cases hi:i<ys.length
 . refine .inr ⟨⟨_,ys[i],gi.of (sa _ _ hl),Q05 hi⟩,iB (by omega),λx aO y=>?_⟩;obtain⟨rfl,y⟩:=y;have hy:=y _ (gi.of (sa _ _ hl));obtain⟨d,f,av,aI,hf⟩:=gn.get _ hL hy;have aP:=Ds.jw av;refine⟨rfl,yes (i5 ?_)⟩;have B2:=B.same sa;refine⟨_,rfl,v,dx,_,rfl,B2.b,rfl,_,rfl,_,rfl,v,dx,vi,gW,nl,kk,kr,t,xs,fs,ss,x,d,f,r,rfl,B2,aI.same sa,ha i d av,by omega,Ds.kD hs.2.2 av,λu2 H3 aJ s3 aK aL=>?_⟩;refine⟨ys.length - (i+1),by omega,rfl,hi,by rw[Q09,aG];rfl,s2.trans s3,gq++aJ,tN (gn.same s3 ax) (by rw[Q0j,<-Ds.k8,av];rfl) aK,λc hc=>?_⟩;rcases List.mem_append.mp hc with z|z
   . exact ay c z
   . rcases aL c z with w|w
     . exact .inl (sa.free w)
     . exact .inr (i2 c (hf c w))
 . have ei:i=ys.length:=by omega
   subst ei;refine .inl ⟨⟨_,gi.of (sa _ _ hl),Q00 _⟩,λpl az=>⟨iq,λtt aA=>?_⟩⟩;rw[Q0z (Q10 aH)] at ax;have s3:Same H' (upd H' pl (.lst zs)):=Same.new az;have e3:=gu (H:=H') (a:=pl) (o:=.lst zs);generalize upd H' pl (.lst zs)=H3 at s3 e3 aA;have s4:Same H3 (upd H3 tt (.tup [.ref p,.ref pl])):=Same.new aA
   have oL:Own H3 (.ref pl) (.lst (ofD (as.ds.map (jg ss n)))) (pl::gq):=by
    unfold Own;exact⟨pl,zs,gq,rfl,e3,rfl,gn.same s3 ax⟩
   refine q _ _ _ (sa.trans (s3.trans s4)) (mi gu (hR.same (s2.trans (s3.trans s4))) (oL.same s4)) λc hc=>?_;simp only[Q0s,Q24,Q0v,Q1q] at hc;rcases hc with z|z|z|z
   . rw[z];exact .inl aE
   . exact .inr (i1 c (hg c z))
   . rw[z];exact .inl (sa.free az)
   . exact ay c z
theorem Fj {vs:List V}{H:Hp}{Q:VK}{E:XK}:¬qY 0 C CB P2 vs H Q E:=λh=>by
 obtain⟨_,_,_,_,_,_,_,_,_,_,_,_,d,_,_,_,_,_,_,J,_⟩:=h;have:=d.jr;omega
theorem Fk (T:Tb mg)(TK:lS K mg C ag ak U ao al am)(BO:mj K mg CB af ah J an ae ai aj)(Y:Dm K "see" "Take.see" jP (gw 33 2) U ac)(aa:d_ P w K mg base f_ (2) U ac jP (wC C))(L:Dm K "see" "Boughs.see" jP (gw 28 2) J ab):∀n:Nat,d_ P w K mg base f_ (n+3) J ab jP (qY n C CB P2)
 |0=>⟨λvs H Q E h=>absurd h Fj,λA outer s H args us vs Q E _ _ _ _ h=>absurd h Fj⟩
 |n+1=>ML n T TK BO Y aa L (Fk T TK BO Y aa L n)
end
theorem tQ {A B:TS}{D:Ends}{σ:L2.St}{H:Hp}(Pv:L2.St->Hp->Prop)(L:∀J H',Pv J H'->B D J H')(U:(∀J H',Pv J H'->B D J H')->A { D with nx:=B D } σ H):uE A B D σ H:=U L
theorem Bo.ka {H:Hp}{C CB P2 v dx vi gW nl kk kr t:Addr}{xs:List V}{fs:Fs}{ss:List Str}(h:Bo H C CB P2 v dx vi gW nl kk kr t xs fs ss):KA H (.ref kk) (.tree (.gA fs))/\(Kd.tree (.gA fs)).W:=by
 unfold KA KA Kd.W Kd.W;exact⟨⟨kk,.ref kr,rfl,h.k,kr,t,xs,rfl,h.r.at_,h.r.tu,h.r.fa⟩,h.r.nd,h.r.jZ,h.r.W⟩
theorem gn.kn {H H':Hp}{vs:List V}{m:Ds}{fp:List Addr}(h:gn H vs m fp)(k:Kn H H'):gn H' vs m fp:=gn.keep k.tu m (λc hc o e=>k c o (by
 intro ps z;rcases gn.alive _ h c hc with⟨_,q⟩|⟨_,q⟩ <;> rw[e] at q <;> rw[z] at q <;> cases q) e) h
theorem kH.in {fs ps:Fs}{r:Nat}{m:Ds}(h:kH fs ps r m):∀x∈m.names,x∈fs.names:=λx J=>by
 obtain⟨d,L⟩:=Ds.get_name J;obtain⟨k,hk,_⟩:=h.get x d L;exact Fs.get_mem hk
noncomputable abbrev eT (fs:Fs):D:=blk (.tree (.gA fs))
def qZ (n N:Nat) (C CB P2:Addr):Sp:=λvs H Q _=>∃v dx vi gW nl kk kr t xs fs ss l Y u1 U f1 u2 J f2 r,vs=[.ref v,.ref l,.ref kk,u1,u2]/\Bo H C CB P2 v dx vi gW nl kk kr t xs fs ss/\H l=some (.lst Y)/\Y.length+n<=200/\Own H u1 U f1/\g_ (iX fs r) U/\U.Sm/\Own H u2 J f2/\g_ (kH fs (fs.gR ss) r) J/\J.dep<=n/\J.Sm/\r+1<=N/\fs.dep<=6/\g_ (iX fs r) (eT fs)/\
 ∀u' H' L,jd P2 H H'->gJ P2 jF jG H'->Own H' u' (jx fs (eT fs) n U J) L->(∀c∈L,H c=none\/c∈f1\/c∈f2)->Q u' H'
section
variable {P:Program}{w:World}{K:W.Frag}{mg:Str->Option Value}{base:Heap}
variable {C CB P2:Addr}
theorem MM:gP ["self","ahead","kind","source","seen","knot","arms","number","arm","old"] Xb (gC (gw 28 4)):=gT
theorem MN (n N j:Nat)(hj:17<=j)(T:Tb mg)(BO:mj K mg CB aj am aC aD J an ao)(ac:Dn K mg "put_inner" pM (top 24) ae af)(ag:d_ P w K mg base f_ (j) ae af pM (wG N P2 C))(ay:Dn K mg "empty" lM (top 17) az aA)(aB:d_ P w K mg base f_ (17) az aA lM (lg 8))(L:Dm K "put_knots" "Boughs.put_knots" oF (gw 28 4) J U)(Y:d_ P w K mg base f_ (n+j) J U oF (qZ n N C CB P2)):d_ P w K mg base f_ ((n+j)+1) J U oF (qZ (n+1) N C CB P2):=by
 have ak:=BO.ct;have aa:=BO.n;refine L.F.ok MM λvs H Q E h=>?_;obtain⟨v,dx,vi,gW,nl,kk,kr,t,xs,fs,ss,l,ws,u1,d1,f1,u2,d2,f2,r,rfl,B,hl,hw,aY,bt,bu,aZ,bv,hd,bw,hN,bx,hE,q⟩:=h;refine⟨rfl,λb4 A outer s nd hr hu=>?_⟩;obtain⟨x,y,m1,ah,c1,a1,l1,bz,aE,p1,q1,rfl,a3,bA,rfl,aL,bh,a4,a5,bB,bi,bC,bD,_,_⟩:=nR aY bt;obtain⟨x',y',m2,aM,c2,a2,l2,bE,aN,p2,q2,rfl,ap,bF,rfl,a6,bj,a7,a8,bG,aJ,bH,bI,_,_⟩:=nR aZ bv;rw[lQ] at hd;have bm:=kG.mp bu;have bn:=kG.mp bw;have bJ:=B.r.nd
 refine⟨_,(gh (gD 5 nd (gz ag hr ac (a_ (gy Ca (pv 1) (iJ (a_ gK b_))) (a_ (oi (pv 0) rfl) (a_ (gp (pv 2) c_) (a_ (gp (pv 3) c_) (a_ (gp (pv 4) c_) b_)))))))
  (gh (gD 6 nd (iJ b_))
  (gh (jo PassesOwn.never rfl (o8 rfl T.pJ (a_ (gp (pv 4) c_) b_)) (jU rfl (iH (g5 (i:=7) nd rfl iA) (iH (g5 (i:=8) nd rfl iA) jT))) (gh (gD 9 nd (oR (gI oW (pv 7) (g7 jC (by rfl) T.jc PySem.boot_len (a_ (gp (pv 3) c_) b_)) (gE _)) (iT (gp (pv 3) c_) (pv 7)) (gz aB hr ay (a_ (pv 2) b_))))
  (gm (j5 (mN PySem.F.plainAttrs_list PySem.F.slot_list_append PySem.F.type_list_append nu (pv 6) (a_ (jH (pv 0) ak aa Y (hr.mono (by omega)) L.b .nil i9 (a_ (gy Ca (pv 1) (iJ (a_ (pv 7) b_))) (a_ (pv 2) (a_ (pv 9) (a_ (pv 8) b_))))) b_))))))
  (gm (gv (iw (a_ (pv 5) (a_ (pv 6) b_)))))))),?_⟩
 ac_rfl
 refine⟨_,rfl,ma,λla aO=>?_⟩;have t1:Same H (upd H la (.lst [.str "knot"])):=Same.new aO;have e1:=gu (H:=H) (a:=la) (o:=.lst [.str "knot"]);generalize upd H la (.lst [.str "knot"])=H1 at t1 e1;refine⟨l,la,ws,_,rfl,rfl,t1 _ _ hl,e1,Q0q (iB (by show ws.length+1<=1000;omega)),λlb aP=>?_⟩;have t2:Same H1 (upd H1 lb (.lst (ws++[.str "knot"]))):=Same.new aP;generalize upd H1 lb (.lst (ws++[.str "knot"]))=H2 at t2;have ai:=t1.trans t2;have B2:=B.same ai;refine⟨_,rfl,v,CB,dx,_,_,rfl,B2.b,BO.ct,BO.na,rfl,_,rfl,kk,_,_,_,rfl,rfl,e_.of B2.k,rfl,_,rfl,c1,_,_,_,rfl,rfl,e_.of (ai _ _ aL),rfl,_,rfl,c2,_,_,_,rfl,rfl,e_.of (ai _ _ a6),rfl,?_⟩;refine⟨.ref lb,_,rfl,vi,kr,t,gW,nl,xs,fs,ss,a1,a2,bz,bE,m2,p2,rfl,B2.tk,B2.r,B2.inn,B2.lam,ai _ _ bh,by rw[gx.len a4,a3.fit.names];exact B.r.jZ,ai _ _ bj,gx.same ai a7,ap.fit,by have:=ap.dep;omega,ap.sm,λpk H3 bK a9 bo bL=>?_⟩;have av:jd P2 H H3:=(Kp.of ai).trans bK;have bM:=Kn.lh av B.lam;obtain⟨fk,hK,bN⟩:=LR bJ a4 a3.fit a7 ap.nd ap.in
 have ax:Own H3 (.ref pk) (.dct (km fs m1 m2)) (pk::fk):=by
  unfold Own;exact⟨pk,_,fk,rfl,bL,rfl,hK.kn bM⟩
 have bp:H pk=none:=ai.free bo;refine⟨Q0d _,λpa aQ=>?_⟩;have al:H pa=none:=jd.free av a9 aQ;have t4:Same H3 (upd H3 pa (.lst [])):=Same.new aQ;have e4:=gu (H:=H3) (a:=pa) (o:=.lst [])
 have bq:∀c∈pk::fk,c≠pa:=λc hc z=>by
  rcases Own.alive _ ax c hc with⟨_,w⟩|⟨_,w⟩ <;> rw[z,aQ] at w <;> cases w
 generalize upd H3 pa (.lst [])=H4 at t4 e4;have aw:jd P2 H H4:=av.trans (Kp.of t4);have bO:(aM.ds.mapIdx λi x=>jx fs (eT fs) n ((ah.at i).getD (eT fs)) x).length=aN.length:=by rw[Q1u,Ds.lP,aJ]
 refine⟨_,rfl,c2,_,_,_,rfl,rfl,e_.of ((Kn.lh aw B.lam).tu _ _ a6),rfl,l2,rfl,⟨_,gi.of ((Kn.lh aw B.lam).lst a8)⟩,qM (xs:=aN) (λi σ H'=>∃z1 z2 z3 zs gq,σ=[some (.ref v),some (.ref l),some (.ref kk),some (.ref c1),some (.ref c2),some (.ref pk),some (.ref pa),z1,z2,z3]/\jd P2 H H'/\gJ P2 jF jG H'/\H' pa=some (.lst zs)/\gn H' zs (ofD ((aM.ds.mapIdx λi x=>jx fs (eT fs) n ((ah.at i).getD (eT fs)) x).take i)) gq/\(∀c∈gq,(H c=none\/c∈f1\/c∈f2)/\c≠pa)/\Own H' (.ref pk) (.dct (km fs m1 m2)) (pk::fk)) ?_ ?_ ?_ ?_⟩
 . exact⟨_,_,_,[],[],rfl,aw,a9.same t4,e4,tO,λc hc=>(nomatch hc),ax.same t4⟩
 . intro i σ H' _ zq;obtain⟨z1,z2,z3,zs,gq,rfl,kp,_⟩:=zq;exact gi.of ((Kn.lh kp B.lam).lst a8)
 . rintro i yv σ H' tt hy ⟨z1,z2,z3,zs,gq,rfl,kp,aS,ab,aq,aG,aT⟩ aU;have st:Same H' (upd H' tt (.tup [.int i,yv])):=Same.new aU;have et:=gu (H:=H') (a:=tt) (o:=.tup [.int i,yv]);generalize upd H' tt (.tup [.int i,yv])=H5 at st et;have aV:jd P2 H H5:=kp.trans (Kp.of st);have k5:=Kn.lh aV B.lam;have aW:=aS.same st;have B5:=B.kn k5 aW;obtain⟨da,fa,aH,bP,bQ⟩:=gn.get _ bG hy;have b5:=Ds.jw aH;have bR:i<aN.length:=(List.getElem?_eq_some_iff.mp hy).1;have b3:i<=100:=by rw[aJ] at bR;omega
   refine⟨tt,_,rfl,e_.of et,rfl,_,_,rfl,_,_,rfl,rfl,?_⟩;refine tQ (A:=n0 _ _) (λba H6=>∃uo fo,ba=[some (.ref v),some (.ref l),some (.ref kk),some (.ref c1),some (.ref c2),some (.ref pk),some (.ref pa),some (.int i),some yv,some uo]/\Same H5 H6/\Own H6 uo ((ah.at i).getD (eT fs)) fo/\∀c∈fo,(H c=none/\H5 c=none)\/c∈f1) ?_ (λhB=>?_);rotate_left
   . refine⟨_,rfl,_,rfl,c1,_,_,_,rfl,rfl,e_.of (k5.tu _ _ aL),rfl,l1,_,rfl,.inl (gi.of (k5.lst a5)),_,_,rfl,rfl,_,rfl,iL (λcc=>?_) (λcc=>?_)⟩
     . have cc:(i:Int)<(aE.length:Int):=of_decide_eq_true cc;have aI:i<aE.length:=by omega
       obtain⟨db,fb,hb,bS,bT⟩:=gn.get _ bB (Q05 aI);refine⟨_,rfl,c1,_,_,_,rfl,rfl,e_.of (k5.tu _ _ aL),rfl,_,rfl,l1,_,_,_,rfl,rfl,gi.of (k5.lst a5),iZ (Q05 aI),hB _ _ ⟨_,fb,rfl,Same.refl _,by rw[hb];exact bS.kn k5,λc hc=>.inr (bD c (bT c hc))⟩⟩
     . have aI:aE.length<=i:=by
        have cc:¬(i:Int)<(aE.length:Int):=λz=>cc (decide_eq_true z);omega
       have hn:ah.at i=none:=by
        rw[Ds.k8,Q3k (by rw[Ds.lP,<-bi];exact aI)]
       obtain⟨hk,hW⟩:=B5.ka;exact⟨_,rfl,.ref kk,.tree (.gA fs),rfl,hk,hW,by simp only[Kd.dep];omega,λuo H6 fo s6 ho hf=>hB _ _ ⟨uo,fo,rfl,s6,by rw[hn];exact ho,λc hc=>.inl ⟨jd.free aV aW (hf c hc),hf c hc⟩⟩⟩
   intro ba H6 zq;obtain⟨uo,fo,rfl,s6,bU,bV⟩:=zq;have bW:jd P2 H H6:=aV.trans (Kp.of s6);have k6:=Kn.lh bW B.lam;have bX:=aW.same s6;have bb:=st.trans s6;have B6:=B5.same s6;refine⟨_,rfl,.inl ⟨rfl,_,gi.of (bb _ _ ab)⟩,_,rfl,v,dx,_,rfl,B6.b,rfl,_,rfl,_,rfl,ma,λla aO=>?_⟩;have u1:Same H6 (upd H6 la (.lst [.int i])):=Same.new aO;have e1:=gu (H:=H6) (a:=la) (o:=.lst [.int i]);generalize upd H6 la (.lst [.int i])=H7 at u1 e1;refine⟨l,la,ws,_,rfl,rfl,u1 _ _ (k6.lst hl),e1,Q0q (iB (by show ws.length+1<=1000;omega)),λlb aP=>?_⟩;have u2:Same H7 (upd H7 lb (.lst (ws++[.int i]))):=Same.new aP;have e2:=gu (H:=H7) (a:=lb) (o:=.lst (ws++[.int i]));generalize upd H7 lb (.lst (ws++[.int i]))=H8 at u2 e2;have ar:=u1.trans u2;have au:=bb.trans ar;have bc:=bX.same ar;refine⟨_,rfl,_,rfl,_,rfl,v,dx,vi,gW,nl,kk,kr,t,xs,fs,ss,lb,_,uo,(ah.at i).getD (eT fs),fo,yv,da,fa,r,rfl,B6.same ar,e2,by rw[Q09];show ws.length+1+n<=200;omega,bU.same ar,?_,?_,(bP.kn k6).same ar,bF i da aH,by omega,Ds.kD bn.2.2 aH,hN,bx,hE,λur H9 fr bd bY bZ b1=>?_⟩
   . cases z:ah.at i with
     |none=>exact hE
     |some e=>exact bA i e z
   . cases z:ah.at i with
     |none=>exact(qV B5.ka.2).2.1
     |some e=>exact Ds.kD bm.2.2 z
   have k9:=Kn.lh bd bc;have aK:=k9.lst (au _ _ ab);have br:jd P2 H H9:=(kp.trans (Kp.of au)).trans bd
   have hz:zs.length<=100:=by
    rw[gn.len _ aq,m9,Q0p];omega
   refine⟨pa,zs,_,rfl,rfl,aK,iB (by omega),?_⟩
   have be:∀c∈fr,(H c=none\/c∈f1\/c∈f2)/\c≠pa:=λc hc=>by
    rcases b1 c hc with z|z|z
    . refine⟨.inl (jd.free (kp.trans (Kp.of au)) bc z),λw=>?_⟩;rw[w,au _ _ ab] at z
      cases z
    . rcases bV c z with w|w
      . refine⟨.inl w.1,λw'=>?_⟩;have:=w.2;rw[w',st _ _ ab] at this
        cases this
      . exact⟨.inr (.inl w),λw'=>by
         rcases Own.alive _ aY c w with⟨_,h⟩|⟨_,h⟩ <;> rw[w',al] at h <;> cases h⟩
    . have w:=bI c (bQ c z)
      exact⟨.inr (.inr w),λw'=>by
       rcases Own.alive _ aZ c w with⟨_,h⟩|⟨_,h⟩ <;> rw[w',al] at h <;> cases h⟩
   have bf:Mu H9 pa:=.inl ⟨_,aK⟩;have aX:Tu H9 (upd H9 pa (.lst (zs++[ur]))):=Tu.wr λys z=>bf.nG ys z;have bg:Kn H' H9:=(Kn.of au).trans k9;refine⟨_,_,_,zs++[ur],gq++fr,rfl,λc o hc e=>?_,?_,gu,?_,λc hc=>?_,?_⟩
   . rw[gj (gB e al)];exact br c o hc e
   . exact gJ.wr bY bf
   . refine tN (gn.keep aX _ (λc hc o e=>by rw[gj (aG c hc).2];exact e) (gn.kn aq bg)) ?_ (bZ.keep aX _ λc hc o e=>by rw[gj (be c hc).2];exact e);rw[Q2p,<-Ds.k8,aH];rfl
   . rcases List.mem_append.mp hc with z|z
     . exact aG c z
     . exact be c z
   . exact(aT.kn bg).keep aX _ λc hc o e=>by rw[gj (bq c hc)];exact e
 . intro σ H' zq;obtain⟨z1,z2,z3,zs,gq,rfl,kp,aS,ab,aq,aG,aT⟩:=zq;rw[Q0z (Q10 bO)] at aq;refine⟨_,rfl,_,rfl,iq,λtt aU=>?_⟩;have s3:Same H' (upd H' tt (.tup [.ref pk,.ref pa])):=Same.new aU
   have oL:Own H' (.ref pa) (.lst (ofD (aM.ds.mapIdx λi x=>jx fs (eT fs) n ((ah.at i).getD (eT fs)) x))) (pa::gq):=by
    unfold Own;exact⟨pa,zs,gq,rfl,ab,rfl,aq⟩
   refine q _ _ _ (kp.trans (Kp.of s3)) (aS.same s3) (mi gu (aT.same s3) (oL.same s3)) λc hc=>?_;simp only[Q0s,Q24,Q0v,Q1q] at hc;rcases hc with z|z|z|z
   . rw[z];exact .inl bp
   . exact .inr ((bN c z).imp (bC c) (bH c))
   . rw[z];exact .inl al
   . exact(aG c z).1
theorem Fl {N:Nat}{vs:List V}{H:Hp}{Q:VK}{E:XK}:¬qZ 0 N C CB P2 vs H Q E:=λh=>by
 obtain⟨_,_,_,_,_,_,_,_,_,_,_,_,_,_,_,_,_,d,_,_,_,_,_,_,_,_,_,_,_,J,_⟩:=h;have:=d.jr;omega
theorem Fm (N j:Nat)(hj:17<=j)(T:Tb mg)(BO:mj K mg CB ag ah am an J ai aj)(Y:Dn K mg "put_inner" pM (top 24) ab ac)(aa:d_ P w K mg base f_ (j) ab ac pM (wG N P2 C))(ae:Dn K mg "empty" lM (top 17) ak al)(af:d_ P w K mg base f_ (17) ak al lM (lg 8))(L:Dm K "put_knots" "Boughs.put_knots" oF (gw 28 4) J U):∀n:Nat,d_ P w K mg base f_ (n+j) J U oF (qZ n N C CB P2)
 |0=>⟨λvs H Q E h=>absurd h Fl,λA outer s H args us vs Q E _ _ _ _ h=>absurd h Fl⟩
 |n+1=>by
  have:=MN n N j hj T BO Y aa ae af L (Fm N j hj T BO Y aa ae af L n);rw[show n+1+j=(n+j)+1 by omega];exact this
end
structure tR (K:W.Frag) (mg:Str->Option Value) (C fB fS fP fG fK:Addr):Prop where
 ct:Cls K C
 pZ:Fe K C
 m:mg "Top"=some (.ref C)
 b:Meth K C "behind" fB
 s:Meth K C "see" fS
 p:Meth K C "put" fP
 g:Meth K C "grade" fG
 k:Meth K C "keeps" fK
theorem g_.MO {fs ps:Fs}{r N:Nat}{d:D}(h:g_ (kH fs ps r) d)(L:r+1<=N):Tree (λt=>kj (.gA ps) t/\t.dep<=N) d:=Tree.imp (λt ⟨m,e,J⟩=>⟨⟨m,e,J.fit⟩,by rw[e];have:=J.dep;simp only[D.dep];omega⟩) h
theorem g_.fit {fs:Fs}{r:Nat}{d:D}(h:g_ (iX fs r) d):gU (.tree (.gA fs)) d:=by
 unfold gU;exact Tree.imp (λt ⟨m,e,J⟩=>by unfold gU;exact⟨m,e,J.fit⟩) h
def Fn (n N:Nat) (C CB P2:Addr):Sp:=λvs H Q _=>∃v dx vi gW nl kk kr t xs fs ss Y L f1 u2 J f2 r,vs=[.ref v,.ref kk,Y,u2]/\Bo H C CB P2 v dx vi gW nl kk kr t xs fs ss/\Own H Y L f1/\g_ (iX fs r) L/\L.Sm/\Own H u2 J f2/\g_ (kH fs (fs.gR ss) r) J/\J.dep<=n/\J.Sm/\r+1<=N/\fs.dep<=6/\g_ (iX fs r) (eT fs)/\
 ∀u' H' U,jd P2 H H'->gJ P2 jF jG H'->Own H' u' (jx fs (eT fs) n L J) U->Q u' H'
def wI:Sp:=λvs H Q _=>∃v kk u,vs=[v,.ref kk]/\H kk=some (.tup [.str "tree",u])/\Q u H
def Fo:Sp:=λvs H Q _=>∃v k c J L,vs=[v,k,.ref c]/\H c=some (.tup [J,L])/\Q J H
def Fp (n:Nat) (C:Addr):Sp:=λvs H Q _=>∃v dx kk J k c w1 L u d fp,vs=[.ref v,.ref kk,.ref c,u]/\H v=some (.ins C dx [])/\H kk=some (.tup [.str "tree",J])/\KA H J k/\k.W/\H c=some (.tup [w1,L])/\Own H u d fp/\kZ k d/\d.dep<=n/\d.Sm/\∀p H',Same H H'->H' p=some (.tup [u,L])->Q (.ref p) H'
section
variable {P:Program}{w:World}{K:W.Frag}{mg:Str->Option Value}{base:Heap}
variable {C CB kI P2:Addr}
theorem MP:gP XE XE (gC (gw 28 3)):=gT
theorem MQ (n N j:Nat)(hj:12<=j)(T:Tb mg)(BO:mj K mg CB al L au U J aq ar)(hn:n<=199)(aj:Dm K "put" "Boughs.put" kY (gw 28 3) U ak)(ae:Dm K "behind" "Boughs.behind" jI (gw 28 1) L af)(ag:d_ P w K mg base f_ (12) L af jI (wH C CB P2))(am:Dn K mg "ask_fit" md (top 21) an ao)(ap:d_ P w K mg base f_ (j) an ao md (Fb n N))(Y:Dm K "put_knots" "Boughs.put_knots" oF (gw 28 4) J aa)(ab:d_ P w K mg base f_ (j) J aa oF (qZ n N C CB P2)):d_ P w K mg base f_ (j+1) U ak kY (Fn n N C CB P2):=by
 have ai:=BO.ct;have ac:=BO.n;have ah:=BO.b;refine aj.F.ok MP λvs H Q E h=>?_;obtain⟨v,dx,vi,gW,nl,kk,kr,t,xs,fs,ss,u1,d1,f1,u2,d2,f2,r,rfl,B,aB,aC,aD,av,aw,hd,ax,hN,aE,hE,q⟩:=h;refine⟨rfl,λaK A outer s nd hr hu=>?_⟩
 refine⟨_,(gh (j5 (gz ap hr am (a_ (jH (pv 0) ai ah ag (hr.mono (by omega)) ae.b .nil i9 (a_ (pv 1) b_)) (a_ (pv 3) b_))))
  (gm (gv (jH (pv 0) ai ac ab (hr.mono (by omega)) Y.b .nil i9 (a_ (iJ b_) (a_ (pv 1) (a_ (pv 2) (a_ (pv 3) b_)))))))),?_⟩
 ac_rfl
 refine⟨_,rfl,v,dx,_,rfl,B.b,rfl,_,rfl,v,dx,vi,gW,nl,kk,kr,t,xs,fs,ss,rfl,B,λqk rk t' H1 ay aA aG aH aI=>?_⟩;have k1:=Kn.lh ay B.lam;have B1:=B.kn k1 aA;have hK:=B1.r.few ss aH aI;refine⟨_,rfl,.ref qk,u2,.gA (fs.gR ss),d2,f2,rfl,?_,?_,av.kn k1,aw.MO hN,hd,ax,λH2 s2=>?_⟩
 . unfold KA KA;exact⟨qk,.ref rk,rfl,aG,rk,t',_,rfl,hK.at_,hK.tu,hK.fa⟩
 . unfold Kd.W;exact⟨hK.nd,hK.jZ,hK.W⟩
 have B2:=B1.same s2;refine⟨_,rfl,v,dx,_,rfl,B2.b,rfl,Q0d _,λl hl=>?_⟩;have s3:Same H2 (upd H2 l (.lst [])):=Same.new hl;have e3:=gu (H:=H2) (a:=l) (o:=.lst []);generalize upd H2 l (.lst [])=H3 at s3 e3;have az:=s2.trans s3;have k3:Kn H H3:=k1.trans (Kn.of az);exact⟨_,rfl,_,rfl,_,rfl,v,dx,vi,gW,nl,kk,kr,t,xs,fs,ss,l,[],u1,d1,f1,u2,d2,f2,r,rfl,B2.same s3,e3,by show 0+n<=200;omega,aB.kn k3,aC,aD,av.kn k3,aw,hd,ax,hN,aE,hE,λu' H' aJ kp hT ho _=>q u' H' aJ ((ay.trans (Kp.of az)).trans kp) hT ho⟩
theorem MR:gP XO XO (gC (gw 27 0)):=gT
theorem MS (T:Tb mg)(J:Dm K "behind" "Top.behind" jI (gw 27 0) L U)(Y:Dn K mg "ask_stands" nJ (top 22) aa ab)(ac:d_ P w K mg base f_ (1) aa ab nJ (tw)):d_ P w K mg base f_ (2) L U jI (wI):=by
 refine J.F.ok MR λvs H Q E h=>?_;obtain⟨v,kk,u,rfl,hk,q⟩:=h;refine⟨rfl,λae A outer s nd hr hu=>?_⟩
 refine⟨_,(gh (j5 (gz ac hr Y (a_ (mI gX (gp (pv 1) c_) gK (gE _)) b_)))
  (gm (gv (gp (pv 1) c_)))),?_⟩
 ac_rfl
 refine⟨_,rfl,kk,_,_,_,rfl,rfl,e_.of hk,rfl,rfl,by rw[decide_eq_true rfl];rfl,?_⟩;exact⟨_,rfl,kk,_,_,_,rfl,rfl,e_.of hk,rfl,q⟩
theorem MU:gP XF XF (gC (gw 27 1)):=gT
theorem MV (T:Tb mg)(J:Dm K "see" "Top.see" jP (gw 27 1) L U):d_ P w K mg base f_ (1) L U jP (Fo):=by
 refine J.F.ok MU λvs H Q E h=>?_;obtain⟨v,k,c,u1,u2,rfl,hc,q⟩:=h;refine⟨rfl,λY A outer s nd hr hu=>?_⟩;refine⟨_,(gm (gv (gp (pv 2) c_))),?_⟩
 ac_rfl
 exact⟨_,rfl,c,_,_,_,rfl,rfl,e_.of hc,rfl,q⟩
theorem MW:gP XE XE (gC (gw 27 2)):=gT
theorem MX (n j:Nat)(hj:2<=j)(T:Tb mg)(TO:tR K mg kI J al L aj ak)(ab:Dm K "put" "Top.put" kY (gw 27 2) L ac)(U:Dm K "behind" "Top.behind" jI (gw 27 0) J Y)(aa:d_ P w K mg base f_ (2) J Y jI (wI))(ae:Dn K mg "ask_fit" md (top 21) af ag)(ah:d_ P w K mg base f_ (j) af ag md (wD n)):d_ P w K mg base f_ (j+1) L ac kY (Fp n kI):=by
 have CT:=TO.ct;have ai:=TO.b;refine ab.F.ok MW λvs H Q E h=>?_;obtain⟨v,dx,kk,uk,k,c,w1,w2,u,d,fp,rfl,hv,hk,hK,hW,hc,ho,hF,hd,hs,q⟩:=h;refine⟨rfl,λam A outer s nd hr hu=>?_⟩
 refine⟨_,(gh (j5 (gz ah hr ae (a_ (jH (pv 0) CT ai aa (hr.mono (by omega)) U.b .nil i9 (a_ (pv 1) b_)) (a_ (pv 3) b_))))
  (gm (gv (iw (a_ (pv 3) (a_ (gp (pv 2) c_) b_)))))),?_⟩
 ac_rfl
 refine⟨_,rfl,v,dx,_,rfl,hv,rfl,_,rfl,.ref v,kk,uk,rfl,hk,_,rfl,uk,u,k,d,fp,rfl,hK,hW,ho,hF,hd,hs,λH1 s1=>?_⟩;refine⟨_,rfl,_,rfl,c,_,_,_,rfl,rfl,e_.of (s1 _ _ hc),rfl,iq,λt ht=>?_⟩;exact q t _ (s1.trans (Same.new ht)) gu
theorem MY:gP ["self"] ["self"] (gC (gw 27 3)):=gT
theorem MZ (T:Tb mg)(J:Dm K "grade" "Top.grade" kX (gw 27 3) L U):d_ P w K mg base f_ (1) L U kX (tK):=by
 refine J.F.ok MY λvs H Q E h=>?_;obtain⟨v,rfl,q⟩:=h;refine⟨rfl,λY A outer s nd hr hu=>?_⟩;exact⟨_,(gm (gv gK)),q⟩
theorem M0:gP XV XV (gC (gw 27 4)):=gT
theorem M1 (T:Tb mg)(J:Dm K "keeps" "Top.keeps" nK (gw 27 4) L U):d_ P w K mg base f_ (1) L U nK (tM):=by
 refine J.F.ok M0 λvs H Q E h=>?_;obtain⟨v,x,rfl,q⟩:=h;refine⟨rfl,λY A outer s nd hr hu=>?_⟩;exact⟨_,(gm (gv jk)),q⟩
end
def q9 (n:Nat):Sp:=λvs H Q _=>∃l,∃ss:List Str,∃fs r u d fp,vs=[.ref l,u]/\H l=some (.lst (ss.map V.str))/\ss.Nodup/\ss.length<=12/\(∀x∈ss,x∈fs.names)/\Own H u d fp/\g_ (iX fs r) d/\d.dep<=n/\d.Sm/\
 ∀L H' J,Same H H'->Own H' L (jg ss n d) J->(∀c∈J,H c=none\/c∈fp)->Q L H'
def Fq (H:Hp) (fs:Fs) (u:V) (d:D) (f:List Addr):Prop:=(u=.non/\d=eT fs/\f=[])\/((∃a,u=.ref a)/\Own H u d f)
def q_ (n:Nat):Sp:=λvs H Q _=>∃t l xs fs,∃ss:List Str,∃ps r Y U f1 u2 J f2,vs=[.ref t,.ref l,Y,u2]/\H t=some (.tup xs)/\FA H xs fs/\fs.names.Nodup/\fs.names.length<=12/\fs.W/\fs.dep<=6/\H l=some (.lst (ss.map V.str))/\(∀x∈fs.names,x∈ps.names↔x∈ss)/\Fq H fs Y U f1/\g_ (iX fs r) U/\U.Sm/\Own H u2 J f2/\g_ (kH fs ps r) J/\J.dep<=n/\J.Sm/\g_ (iX fs r) (eT fs)/\
 ∀u' H' L,Same H H'->Own H' u' (jx fs (eT fs) n U J) L->(∀c∈L,H c=none\/c∈f1\/c∈f2)->Q u' H'
variable {P:Program}{w:World}{K:W.Frag}{mg:Str->Option Value}{base:Heap}
theorem M2:gP Xj Xi (gC (top 50)):=gT
theorem M3 (n:Nat)(T:Tb mg)(J:Dn K mg "_law_shown" oG (top 50) L U)(Y:d_ P w K mg base f_ (n+1) L U oG (q9 n)):d_ P w K mg base f_ ((n+1)+1) L U oG (q9 (n+1)):=by
 refine J.F.ok M2 λvs H Q E h=>?_;obtain⟨nl,ss,fs,r,u,d,fp,rfl,ab,af,ak,ag,hO,hT,hd,al,q⟩:=h;refine⟨rfl,λax A outer s nd hr hu=>?_⟩;obtain⟨x,y,m,as,c,a,l,kvs,ys,f1,f2,rfl,hm,ha,rfl,hc,am,hM,hl,hL,an,i1,i2,_,_⟩:=nR hO hT;rw[lQ] at hd;have hs:=kG.mp al
 refine⟨_,(gh (gD 2 nd nv)
  (gh (jo PassesOwn.never rfl (mF (pv 0)) (g5 (i:=3) nd rfl iA) (gm (l6 hu (pv 2) (pv 3) (jN hu (gp (pv 1) c_) (pv 3) (λ_ _=>rfl)) rfl)))
  (gm (gv (iw (a_ (pv 2) (a_ (kP (g:=(je 0)) (tt:=lD) (te:=(nr _ _ _ (ja (ik 1) (ja (ik 0) kO)))) (own:=["_law_arm"]) rfl (kB (N:=Xj) (sc:=gC (top 50))) (mF (gp (pv 1) c_)) (λ_ _ _ _ _=>(g5 (i:=0) (show(["_law_arm","_law_names_here","_law_tree","_law_row","_law_name"]:List Str).Nodup by decide +kernel) rfl (Or.inl rfl) (.inr rfl))) (λ_ _ _ _ _=>mP) (λ_ _ _ _ _=>(gz Y hr J (a_ (pv 1) (a_ (pv 0) b_))))) b_))))))),?_⟩
 ac_rfl
 have hv:∀z∈ss,∃v g,h6 kvs (Sum.inr z)=some v/\Own H v (m.v z) g/\∀c∈g,c∈f1:=λz hz=>by
  obtain⟨k,hk⟩:=Fs.m8 (ag z hz);obtain⟨d,g1,_⟩:=hm.fit.get hk;obtain⟨w,g,h1,h2,h3⟩:=gx.val _ hM g1;exact⟨w,g,h1,by rw[Ds.pU g1];exact h2,h3⟩
 intro p hp
 have np:∀c∈f1,c≠p:=λc hc z=>by
  rcases gx.alive _ hM c hc with⟨_,w⟩|⟨_,w⟩ <;> rw[z,hp] at w <;> cases w
 refine⟨_,rfl,nl,rfl,⟨_,gi.of ((Same.new hp) _ _ ab)⟩,rF (xs:=ss.map V.str) (λi σ H'=>∃z,σ=[some (.ref nl),some (.ref c),some (.ref p),z]/\kd H (λc=>c∈f1) m.v ss p i H') ⟨_,rfl,kd.zero hp⟩ ?_ ?_ ?_⟩
 . rintro i σ H' _ ⟨z,rfl,R⟩;exact gi.of (R.same _ _ ab)
 . rintro i v σ H' hi ⟨z,rfl,R⟩;obtain⟨nm,ac,rfl⟩:=wc hi;obtain⟨w,g,h1,h2,h3⟩:=hv nm (Q0x ac);have s2:=R.same;have gt:ip H' a (.str nm) (some w):=by have:=ip.k (k:=Sum.inr nm) (s2 _ _ am);rw[h1] at this;exact this
   have ay:i<ss.length:=(List.getElem?_eq_some_iff.mp ac).1;obtain⟨kv,e1,e2,e3,R'⟩:=R.add hp (x:=nm) ac af (Same.refl _) (h2.same s2) λc hc=>.inr ⟨h3 c hc,np c (h3 c hc)⟩;refine⟨_,rfl,c,_,_,_,rfl,rfl,e_.of (s2 _ _ hc),rfl,_,rfl,a,w,rfl,gt,_,rfl,_,rfl,p,_,rfl,j8.k (k:=Sum.inr nm) e1 (iB (by omega)),?_⟩;rw[l_ e3];exact⟨_,rfl,R'⟩
 . rintro σ H1 ⟨z,rfl,R⟩;obtain⟨s1,g,hR,hg⟩:=R.fin hp (by rw[Q04];exact Q00 _);refine⟨_,rfl,_,rfl,c,_,_,_,rfl,rfl,e_.of (s1 _ _ hc),rfl,l,rfl,⟨_,gi.of (s1 _ _ hl)⟩,λi mm zs H'=>mm=ys.length - i/\i<=ys.length/\zs.length=i/\Same H1 H'/\∃gq,gn H' zs (ofD ((as.ds.map (jg ss n)).take i)) gq/\∀c∈gq,H c=none\/c∈fp,⟨ys.length,rfl,Q0d _,rfl,Same.refl _,[],tO,λc hc=>(nomatch hc)⟩,?_⟩;intro i mm zs H' zq;obtain⟨rfl,aw,ao,s2,gq,ae,ah⟩:=zq;have sa:=s1.trans s2;have ap:(as.ds.map (jg ss n)).length=ys.length:=by rw[Q04,Ds.lP,an]
   by_cases hi:i<ys.length
   . refine .inr ⟨⟨_,ys[i],gi.of (sa _ _ hl),Q05 hi⟩,iB (by omega),λx az y=>?_⟩;obtain⟨rfl,y⟩:=y;have hy:=y _ (gi.of (sa _ _ hl));obtain⟨d,f,aa,aq,hf⟩:=gn.get _ hL hy;have aA:=Ds.jw aa;refine⟨rfl,yes (i5 ?_)⟩;refine⟨_,rfl,_,rfl,nl,ss,fs,r,x,d,f,rfl,sa _ _ ab,af,ak,ag,aq.same sa,ha i d aa,by omega,Ds.kD hs.2.2 aa,λu2 H3 ar s3 au av=>?_⟩;refine⟨ys.length - (i+1),by omega,rfl,hi,by rw[Q09,ao];rfl,s2.trans s3,gq++ar,tN (gn.same s3 ae) (by rw[Q0j,<-Ds.k8,aa];rfl) au,λc hc=>?_⟩;rcases List.mem_append.mp hc with z|z
     . exact ah c z
     . rcases av c z with w|w
       . exact .inl (sa.free w)
       . exact .inr (i2 c (hf c w))
   . have ei:i=ys.length:=by omega
     subst ei;refine .inl ⟨⟨_,gi.of (sa _ _ hl),Q00 _⟩,λpl ai=>⟨iq,λtt aj=>?_⟩⟩;rw[Q0z (Q10 ap)] at ae;have s3:Same H' (upd H' pl (.lst zs)):=Same.new ai;have e3:=gu (H:=H') (a:=pl) (o:=.lst zs);generalize upd H' pl (.lst zs)=H3 at s3 e3 aj;have s4:Same H3 (upd H3 tt (.tup [.ref p,.ref pl])):=Same.new aj
     have oL:Own H3 (.ref pl) (.lst (ofD (as.ds.map (jg ss n)))) (pl::gq):=by
      unfold Own;exact⟨pl,zs,gq,rfl,e3,rfl,gn.same s3 ae⟩
     refine q _ _ _ (sa.trans (s3.trans s4)) (mi gu (hR.same (s2.trans (s3.trans s4))) (oL.same s4)) λc hc=>?_;simp only[Q0s,Q24,Q0v,Q1q] at hc;rcases hc with z|z|z
     . exact(hg c z).imp id (i1 c)
     . rw[z];exact .inl (sa.free ai)
     . exact ah c z
theorem Ft {vs:List V}{H:Hp}{Q:VK}{E:XK}:¬q9 0 vs H Q E:=λh=>by
 obtain⟨_,_,_,_,_,d,_,_,_,_,_,_,_,_,J,_⟩:=h;have:=d.jr;omega
theorem Fu (T:Tb mg)(J:Dn K mg "_law_shown" oG (top 50) L U):∀n:Nat,d_ P w K mg base f_ (n+1) L U oG (q9 n)
 |0=>⟨λvs H Q E h=>absurd h Ft,λA outer s H args us vs Q E _ _ _ _ h=>absurd h Ft⟩
 |n+1=>M3 n T J (Fu T J n)
theorem Fv {fs:Fs}{x y:Str}{m as}(h:D.tup (.cons x (.dct m) (.cons y (.lst as) .nil))=eT fs):m=k_ fs/\as=.nil:=by
 unfold eT blk blk at h;injection h with h
 injection h with _ h1 h2
 injection h1 with h1
 injection h2 with _ J _
 injection J with J
 exact⟨h1,J⟩
theorem M4:gP ["_law_fields_here","_law_names_here","_law_tree","_law_seen_here","_law_row","_law_name","_law_inner","_law_arms","_law_k","_law_arm","_law_under"] XQ (gC (top 51)):=gT
theorem M5 (n:Nat)(T:Tb mg)(aa:Dn K mg "_law_blank" mZ (top 48) ab ac)(ae:d_ P w K mg base f_ (n+8) ab ac mZ (lg 7))(J:Dn K mg "_law_back" oH (top 51) L U)(af:d_ P w K mg base f_ (n+8) L U oH (q_ n)):d_ P w K mg base f_ ((n+8)+1) L U oH (q_ (n+1)):=by
 refine J.F.ok M4 λvs H Q E h=>?_;obtain⟨t,nl,xs,fs,ss,ps,r,u1,d1,f1,u2,d2,f2,rfl,ht,aw,ag,aJ,ax,ba,aK,ay,ao,bb,bc,az,bd,hd,be,hE,q⟩:=h;refine⟨rfl,λbB A outer s nd hr hu=>?_⟩;have el:=FA.len fs aw;obtain⟨x,y,m1,ah,rfl,bf,aL⟩:=g_.shape bb;obtain⟨x',y',m2,aA,c2,a2,l2,bC,aB,p2,q2,rfl,aM,bg,rfl,aN,a3,bh,aO,bi,au,aP,bj,_,_⟩:=nR az bd;rw[lQ] at hd;have a4:=kG.mp bc;have a5:=kG.mp be
 refine⟨_,(gh (gD 4 nd nv)
  (gh (jo PassesOwn.never rfl (kN (pv 0)) (jU rfl (iH (g5 (i:=5) nd rfl iA) (iH (g5 (i:=6) nd rfl iA) jT))) (gm (gF (gI uY (pv 5) (pv 1) (by with_unfolding_all rfl)) (gm (l6 hu (pv 4) (pv 5) (jN hu (gp (pv 3) c_) (pv 5) (λ_ _=>rfl)) rfl)) (gm (gF (gI BG (pv 2) i_ (gE _)) (gm (l6 hu (pv 4) (pv 5) (gz ae hr aa (a_ (pv 6) b_)) rfl)) (gm (l6 hu (pv 4) (pv 5) (jN hu (gp (pv 2) c_) (pv 5) (λ_ _=>rfl)) rfl)))))))
  (gh (gD 7 nd (iJ b_))
  (gh (jo PassesOwn.never rfl (o8 rfl T.pJ (a_ (gp (pv 3) c_) b_)) (jU rfl (iH (g5 (i:=8) nd rfl iA) (iH (g5 (i:=9) nd rfl iA) jT))) (gh (gD 10 nd i_)
  (gh (gF (PW.pt (qf (gI lB (pv 2) i_ (gE _)) (qe (gI oW (pv 8) (g7 jC (by rfl) T.jc PySem.boot_len (a_ (gp (pv 2) c_) b_)) (gE _))))) (gm (gD 10 nd (iT (gp (pv 2) c_) (pv 8)))) gH)
  (gm (j5 (mN PySem.F.plainAttrs_list PySem.F.slot_list_append PySem.F.type_list_append nu (pv 7) (a_ (gz af hr J (a_ (pv 0) (a_ (pv 1) (a_ (pv 10) (a_ (pv 9) b_))))) b_)))))))
  (gm (gv (iw (a_ (pv 4) (a_ (pv 7) b_))))))))),?_⟩
 ac_rfl
 intro p hp
 have np:∀c,(c∈f1\/c∈f2)->c≠p:=λc hc z=>by
  rcases hc with hc|hc
  . rcases ao with⟨_,_,e⟩|⟨_,ho⟩
    . rw[e] at hc;exact nomatch hc
    . rcases Own.alive _ ho c hc with⟨_,w⟩|⟨_,w⟩ <;> rw[z,hp] at w <;> cases w
  . rcases Own.alive _ az c hc with⟨_,w⟩|⟨_,w⟩ <;> rw[z,hp] at w <;> cases w
 refine⟨_,rfl,t,rfl,⟨_,e_.of ((Same.new hp) _ _ ht)⟩,n9 (xs:=xs) (λi σ H'=>∃z1 z2,σ=[some (.ref t),some (.ref nl),some u1,some (.ref c2),some (.ref p),z1,z2,none,none,none,none]/\kd H (λc=>c∈f1\/c∈f2) (λx=>((m2.get x).or (m1.get x)).getD (.int 0)) fs.names p i H') ⟨_,_,rfl,kd.zero hp⟩ ?_ ?_ ?_⟩
 . rintro i σ H' _ ⟨z1,z2,rfl,R⟩;exact e_.of (R.same _ _ ht)
 . rintro i v σ H' hv ⟨z1,z2,rfl,R⟩;obtain⟨c,u,nm,k,rfl,Y,hc,hk⟩:=FA.get fs aw hv;have s2:=R.same;have hg:=Fs.nz ag Y;have an:nm∈fs.names:=Fs.get_mem hg;have hi:i<fs.names.length:=by rw[<-el];exact(List.getElem?_eq_some_iff.mp hv).1
   have aC:fs.names[i]? =some nm:=by rw[Fs.ky,Y];rfl
   refine⟨c,_,rfl,e_.of (s2 _ _ hc),rfl,_,_,rfl,_,_,rfl,rfl,?_⟩;refine⟨_,rfl,_,rfl,nl,_,rfl,.inl (gi.of (s2 _ _ aK)),rfl,tm,_,rfl,iL (λcc=>?_) (λcc=>?_)⟩
   . have hx:nm∈ss:=by
      have cc:inV (.str nm) (ss.map V.str)=true:=cc;rw[ti] at cc;exact of_decide_eq_true cc
     obtain⟨k',bm⟩:=Fs.m8 ((ay nm an).mpr hx);obtain⟨d,e1,_⟩:=aM.fit.2 nm k' bm;obtain⟨w,g,h1,h2,h3⟩:=gx.val _ bh e1;have gt:ip H' a2 (.str nm) (some w):=by have:=ip.k (k:=Sum.inr nm) (s2 _ _ a3);rw[h1] at this;exact this
     obtain⟨kv,b1,b2,b3,R'⟩:=R.add hp aC ag (Same.refl _) (v:=w) (fp:=g) (by rw[e1];exact h2.same s2) λc hc=>.inr ⟨.inr (aP c (h3 c hc)),np c (.inr (aP c (h3 c hc)))⟩;refine⟨_,rfl,c2,_,_,_,rfl,rfl,e_.of (s2 _ _ aN),rfl,_,rfl,a2,w,rfl,gt,_,rfl,_,rfl,p,_,rfl,j8.k (k:=Sum.inr nm) b1 (iB (by omega)),?_⟩;rw[l_ b3];exact⟨_,_,rfl,R'⟩
   . have hx:nm ∉ ss:=λz=>cc (by
      show inV (.str nm) (ss.map V.str)=true;rw[ti];exact decide_eq_true z)
     have aQ:m2.get nm=none:=by
      cases e:m2.get nm with
      |none=>rfl
      |some d=>exact absurd ((ay nm an).mp (aM.sub nm (Ds.pV e))) hx
     obtain⟨d,e1,_⟩:=bf.fit.get hg;rcases ao with⟨rfl,e,rfl⟩|⟨⟨a,rfl⟩,ho⟩
     . obtain⟨rfl,rfl⟩:=Fv e
       have ed:d=blk k:=by
        rw[tD ag,nQ _ an,wA ag Y] at e1;exact(Option.some.inj e1).symm
       refine⟨_,rfl,rfl,_,rfl,i5 ?_⟩;refine⟨_,rfl,u,k,rfl,KA.mono (Tu.of s2) k hk,Fs.nB ax Y,by have:=Fs.tG Y;omega,λw H3 g s3 bn bo=>?_⟩;obtain⟨kv,b1,b2,b3,R'⟩:=R.add hp aC ag s3 (v:=w) (fp:=g) (by rw[aQ,e1,ed];exact bn) λc hc=>.inl (bo c hc);refine⟨_,rfl,_,rfl,p,_,rfl,j8.k (k:=Sum.inr nm) b1 (iB (by omega)),?_⟩;rw[l_ b3];exact⟨_,_,rfl,R'⟩
     . obtain⟨c1,v1,v2,g1,g2,ec,ap,rfl,h1,h2⟩:=ho.pair
       cases ec;unfold Own at h1;obtain⟨a1,bD,p1,rfl,a6,rfl,bp⟩:=h1;obtain⟨w,g,h1,h2,h3⟩:=gx.val _ bp e1;have gt:ip H' a1 (.str nm) (some w):=by have:=ip.k (k:=Sum.inr nm) (s2 _ _ a6);rw[h1] at this;exact this
       have aS:∀c∈g,c∈a1::p1++g2:=λc hc=>by simp[h3 c hc]
       obtain⟨kv,b1,b2,b3,R'⟩:=R.add hp aC ag (Same.refl _) (v:=w) (fp:=g) (by rw[aQ,e1];exact h2.same s2) λc hc=>.inr ⟨.inl (aS c hc),np c (.inl (aS c hc))⟩;refine⟨_,rfl,rfl,_,rfl,gY ?_⟩;refine⟨_,rfl,a,_,_,_,rfl,rfl,e_.of (s2 _ _ ap),rfl,_,rfl,a1,w,rfl,gt,_,rfl,_,rfl,p,_,rfl,j8.k (k:=Sum.inr nm) b1 (iB (by omega)),?_⟩;rw[l_ b3];exact⟨_,_,rfl,R'⟩
 . rintro σ H1 ⟨z1,z2,rfl,R⟩;obtain⟨s1,g,hR,hg⟩:=R.fin hp (by rw[el];exact Q00 _);have hR:Own H1 (.ref p) (.dct (km fs m1 m2)) g:=hR;clear R;refine⟨Q0d _,λpa aD=>?_⟩;have aj:H pa=none:=s1.free aD;have t4:Same H1 (upd H1 pa (.lst [])):=Same.new aD;have e4:=gu (H:=H1) (a:=pa) (o:=.lst [])
   have a7:∀c∈g,c≠pa:=λc hc z=>by
    rcases Own.alive _ hR c hc with⟨_,w⟩|⟨_,w⟩ <;> rw[z,aD] at w <;> cases w
   have aT:∀c,(c∈f1\/c∈f2)->c≠pa:=λc hc z=>by
    rcases hc with hc|hc
    . rcases ao with⟨_,_,e⟩|⟨_,ho⟩
      . rw[e] at hc;exact nomatch hc
      . rcases Own.alive _ ho c hc with⟨_,w⟩|⟨_,w⟩ <;> rw[z,aj] at w <;> cases w
    . rcases Own.alive _ az c hc with⟨_,w⟩|⟨_,w⟩ <;> rw[z,aj] at w <;> cases w
   generalize upd H1 pa (.lst [])=H4 at t4 e4;have s4:=s1.trans t4;have bq:(aA.ds.mapIdx λi x=>jx fs (eT fs) n ((ah.at i).getD (eT fs)) x).length=aB.length:=by rw[Q1u,Ds.lP,au]
   refine⟨_,rfl,c2,_,_,_,rfl,rfl,e_.of (s4 _ _ aN),rfl,l2,rfl,⟨_,gi.of (s4 _ _ aO)⟩,qM (xs:=aB) (λi σ H'=>∃z3 z4 z5 zs gq,σ=[some (.ref t),some (.ref nl),some u1,some (.ref c2),some (.ref p),z1,z2,some (.ref pa),z3,z4,z5]/\Same H H'/\H' pa=some (.lst zs)/\gn H' zs (ofD ((aA.ds.mapIdx λi x=>jx fs (eT fs) n ((ah.at i).getD (eT fs)) x).take i)) gq/\(∀c∈gq,(H c=none\/c∈f1\/c∈f2)/\c≠pa)/\Own H' (.ref p) (.dct (km fs m1 m2)) g) ?_ ?_ ?_ ?_⟩
   . exact⟨_,_,_,[],[],rfl,s4,e4,tO,λc hc=>(nomatch hc),hR.same t4⟩
   . intro i σ H' _ zq;obtain⟨z3,z4,z5,zs,gq,rfl,sH,_⟩:=zq;exact gi.of (sH _ _ aO)
   . rintro i yv σ H' tt hy ⟨z3,z4,z5,zs,gq,rfl,sH,ai,ak,aq,aE⟩ aG;have st:Same H' (upd H' tt (.tup [.int i,yv])):=Same.new aG;have et:=gu (H:=H') (a:=tt) (o:=.tup [.int i,yv]);generalize upd H' tt (.tup [.int i,yv])=H5 at st et;have s5:=sH.trans st;obtain⟨da,fa,Y,br,a8⟩:=gn.get _ bi hy;have bE:=Ds.jw Y;have bt:i<aB.length:=(List.getElem?_eq_some_iff.mp hy).1;have bA:i<=100:=by rw[au] at bt;omega
     refine⟨tt,_,rfl,e_.of et,rfl,_,_,rfl,_,_,rfl,rfl,?_⟩;refine tQ (A:=n0 _ _) (λal H6=>al=[some (.ref t),some (.ref nl),some u1,some (.ref c2),some (.ref p),z1,z2,some (.ref pa),some (.int i),some yv,some .non]/\H6=H5) ?_ (λhB=>hB _ _ ⟨rfl,rfl⟩);rintro al H6 ⟨rfl,rfl⟩;refine tQ (A:=nY _ _ _) (λal aU=>∃uo fo,al=[some (.ref t),some (.ref nl),some u1,some (.ref c2),some (.ref p),z1,z2,some (.ref pa),some (.int i),some yv,some uo]/\aU=H6/\Fq H6 fs uo ((ah.at i).getD (eT fs)) fo/\∀c∈fo,c∈f1) ?_ (λhB=>?_);rotate_left
     . rcases ao with⟨rfl,e,rfl⟩|⟨⟨a,rfl⟩,ho⟩
       . obtain⟨rfl,rfl⟩:=Fv e;refine⟨_,rfl,rfl,_,rfl,gY ?_⟩;exact hB _ _ ⟨_,[],rfl,rfl,.inl ⟨rfl,rfl,rfl⟩,λc hc=>(nomatch hc)⟩
       . obtain⟨c1,v1,v2,g1,g2,ec,ap,rfl,h1,h2⟩:=ho.pair
         cases ec;unfold Own at h2;obtain⟨l1,am,q1,rfl,aV,rfl,aW⟩:=h2;have a9:=gn.len _ aW;refine⟨_,rfl,rfl,_,rfl,i5 ?_⟩;refine⟨_,rfl,_,rfl,a,_,_,_,rfl,rfl,e_.of (s5 _ _ ap),rfl,l1,_,rfl,.inl (gi.of (s5 _ _ aV)),_,_,rfl,rfl,_,rfl,iL (λcc=>?_) (λcc=>?_)⟩
         . have cc:(i:Int)<(am.length:Int):=of_decide_eq_true cc;have ar:i<am.length:=by omega
           obtain⟨db,fb,hb,aH,bu⟩:=gn.get _ aW (Q05 ar)
           have hr:∃a',am[i]=.ref a':=by
            obtain⟨_,_,_,_,e,_⟩:=g_.shape (aL i db hb);rw[e] at aH;obtain⟨c,_,_,_,_,e2,_⟩:=aH.pair;exact⟨c,e2⟩
           refine⟨_,rfl,a,_,_,_,rfl,rfl,e_.of (s5 _ _ ap),rfl,_,rfl,l1,_,_,_,rfl,rfl,gi.of (s5 _ _ aV),iZ (Q05 ar),hB _ _ ⟨_,fb,rfl,rfl,.inr ⟨hr,by rw[hb];exact aH.same s5⟩,λc hc=>by simp[bu c hc]⟩⟩
         . have ar:am.length<=i:=by
            have cc:¬(i:Int)<(am.length:Int):=λz=>cc (decide_eq_true z);omega
           have hn:ah.at i=none:=by
            rw[Ds.k8,Q3k (by rw[Ds.lP,<-a9];exact ar)]
           exact hB _ _ ⟨_,[],rfl,rfl,.inl ⟨rfl,by rw[hn];rfl,rfl⟩,λc hc=>(nomatch hc)⟩
     intro al aU zq;obtain⟨uo,fo,rfl,rfl,bv,aX⟩:=zq;refine⟨_,rfl,.inl ⟨rfl,_,gi.of (st _ _ ai)⟩,_,rfl,_,rfl,_,rfl,_,rfl,t,nl,xs,fs,ss,ps,r,uo,(ah.at i).getD (eT fs),fo,yv,da,fa,rfl,s5 _ _ ht,FA.mono (Tu.of s5) fs aw,ag,aJ,ax,ba,s5 _ _ aK,ay,bv,?_,?_,br.same s5,bg i da Y,by omega,Ds.kD a5.2.2 Y,hE,λur H9 fr s9 bw bx=>?_⟩
     . cases z:ah.at i with
       |none=>exact hE
       |some e=>exact aL i e z
     . cases z:ah.at i with
       |none=>exact(qV (k:=.tree (.gA fs)) (by unfold Kd.W Kd.W;exact⟨ag,aJ,ax⟩)).2.1
       |some e=>exact Ds.kD a4.2.2 z
     have av:=s9 _ _ (st _ _ ai)
     have hz:zs.length<=100:=by
      rw[gn.len _ ak,m9,Q0p];omega
     refine⟨pa,zs,_,rfl,rfl,av,iB (by omega),?_⟩
     have aY:∀c∈fr,(H c=none\/c∈f1\/c∈f2)/\c≠pa:=λc hc=>by
      rcases bx c hc with z|z|z
      . refine⟨.inl (s5.free z),λw=>?_⟩;rw[w,st _ _ ai] at z
        cases z
      . exact⟨.inr (.inl (aX c z)),aT c (.inl (aX c z))⟩
      . have w:=bj c (a8 c z);exact⟨.inr (.inr w),aT c (.inr w)⟩
     have bz:Mu H9 pa:=.inl ⟨_,av⟩;have aI:Tu H9 (upd H9 pa (.lst (zs++[ur]))):=Tu.wr λys z=>bz.nG ys z;have aZ:=st.trans s9;refine⟨_,_,_,zs++[ur],gq++fr,rfl,λc o e=>?_,gu,?_,λc hc=>?_,?_⟩
     . rw[gj (gB e aj)];exact s9 _ _ (s5 _ _ e)
     . refine tN (gn.keep aI _ (λc hc o e=>by rw[gj (aq c hc).2];exact e) (gn.same aZ ak)) ?_ (bw.keep aI _ λc hc o e=>by rw[gj (aY c hc).2];exact e);rw[Q2p,<-Ds.k8,Y];rfl
     . rcases List.mem_append.mp hc with z|z
       . exact aq c z
       . exact aY c z
     . exact(aE.same aZ).keep aI _ λc hc o e=>by rw[gj (a7 c hc)];exact e
   . intro σ H' zq;obtain⟨z3,z4,z5,zs,gq,rfl,sH,ai,ak,aq,aE⟩:=zq;rw[Q0z (Q10 bq)] at ak;refine⟨_,rfl,_,rfl,iq,λtt aG=>?_⟩;have s3:Same H' (upd H' tt (.tup [.ref p,.ref pa])):=Same.new aG
     have oL:Own H' (.ref pa) (.lst (ofD (aA.ds.mapIdx λi x=>jx fs (eT fs) n ((ah.at i).getD (eT fs)) x))) (pa::gq):=by
      unfold Own;exact⟨pa,zs,gq,rfl,ai,rfl,ak⟩
     refine q _ _ _ (sH.trans s3) (mi gu (aE.same s3) (oL.same s3)) λc hc=>?_;simp only[Q0s,Q24,Q0v,Q1q] at hc;rcases hc with z|z|z
     . exact hg c z
     . rw[z];exact .inl aj
     . exact(aq c z).1
theorem Fw {vs:List V}{H:Hp}{Q:VK}{E:XK}:¬q_ 0 vs H Q E:=λh=>by
 obtain⟨_,_,_,_,_,_,_,_,_,_,_,d,_,_,_,_,_,_,_,_,_,_,_,_,_,_,_,J,_⟩:=h;have:=d.jr;omega
theorem Fx (T:Tb mg)(J:Dn K mg "_law_blank" mZ (top 48) Y aa)(L:d_ P w K mg base f_ (8) Y aa mZ (lg 7))(U:Dn K mg "_law_back" oH (top 51) ab ac):∀n:Nat,d_ P w K mg base f_ (n+8) ab ac oH (q_ n)
 |0=>⟨λvs H Q E h=>absurd h Fw,λA outer s H args us vs Q E _ _ _ _ h=>absurd h Fw⟩
 |n+1=>by
  have:=M5 n T J (L.mono (by omega)) U (Fx T J L U n);rw[show n+1+8=(n+8)+1 by omega];exact this
end Pb
namespace Pb
open L2
mutual
inductive lU (P:D->Prop):D->Prop
 |mk {t:D} {as:Ds}:P t->jh P as->lU P (pairD t (.lst as))
inductive jh (P:D->Prop):Ds->Prop
 |nil:jh P .nil
 |cons {d:D} {r:Ds}:lU P d->jh P r->jh P (.cons "" d r)
end
mutual
noncomputable def flat:Nat->D->List (Nat × D)
 |e,.tup xs=>Fy e xs
 |_,_=>[]
noncomputable def Fy:Nat->Ds->List (Nat × D)
 |e,.cons _ t (.cons _ (.lst as) .nil)=>(e,t)::jy (e+1) as
 |_,_=>[]
noncomputable def jy:Nat->Ds->List (Nat × D)
 |_,.nil=>[]
 |e,.cons _ d r=>flat e d++jy e r
end
theorem tT (e:Nat)(t:D)(as:Ds):flat e (pairD t (.lst as))=(e,t)::jy (e+1) as:=by
 unfold flat Fy;rfl
theorem tU (e:Nat):jy e .nil=[]:=by unfold jy;rfl
theorem ra (e:Nat)(x:Str)(d:D)(r:Ds):jy e (.cons x d r)=flat e d++jy e r:=by
 rw[jy]
mutual
theorem lU.tree {P Q:D->Prop}(hp:∀t,P t->Q t):∀{d:D},lU P d->Tree Q d
 |_,.mk h l=>by unfold Tree kz;exact⟨hp _ h,jh.tree hp l⟩
theorem jh.tree {P Q:D->Prop}(hp:∀t,P t->Q t):∀{as:Ds},jh P as->i6 Q as
 |_,.nil=>by unfold i6;trivial
 |_,.cons h l=>by unfold i6;exact⟨lU.tree hp h,jh.tree hp l⟩
end
mutual
theorem lU.len {P:D->Prop}:∀{d:D},lU P d->∀e,(flat e d).length=(flat 0 d).length
 |_,.mk h l,e=>by rw[tT,tT,Q0h,Q0h,jh.len l (e+1),jh.len l (0+1)]
theorem jh.len {P:D->Prop}:∀{as:Ds},jh P as->∀e,(jy e as).length=(jy 0 as).length
 |_,.nil,e=>by rw[tU,tU]
 |_,.cons h l,e=>by rw[ra,ra,Q09,Q09,lU.len h e,jh.len l e]
end
theorem jh.snoc {P:D->Prop}{d:D}(h:lU P d):∀{as:Ds},jh P as->jh P (as.snoc "" d)
 |_,.nil=>.cons h .nil
 |_,.cons a l=>.cons a (jh.snoc h l)
theorem Fz (e:Nat)(d:D):∀as:Ds,jy e (as.snoc "" d)=jy e as++flat e d
 | .nil=>by
   show jy e (.cons "" d .nil)=_;rw[ra,tU,Q0s,List.nil_append]
 | .cons x y r=>by
   show jy e (.cons x y (r.snoc "" d))=_;rw[ra,Fz e d r,ra,Q1f]
noncomputable abbrev Zp:=List (D × Ds)
noncomputable def clo:Zp->Zp
 |(x,as)::(y,bs)::r=>(y,bs.snoc "" (pairD x (.lst as)))::r
 |z=>z
noncomputable def ko:Nat->Zp->Zp
 |0,z=>z
 |j+1,z=>ko j (clo z)
noncomputable def cut (e:Nat) (z:Zp):Zp:=ko (z.length - e) z
noncomputable def oM (x:D) (z:Zp):Zp:=(x,.nil)::z
theorem FC:∀{z:Zp},2<=z.length->(clo z).length+1=z.length
 |[],h=>absurd h (by simp)
 |[_],h=>absurd h (by simp)
 |(_,_)::(_,_)::_,_=>rfl
theorem FD:∀{j:Nat}{z:Zp},j<z.length->(ko j z).length+j=z.length
 |0,z,_=>rfl
 |j+1,z,h=>by
  have h1:=FC (z:=z) (by omega);have:=FD (j:=j) (z:=clo z) (by omega);show(ko j (clo z)).length+(j+1)=_;omega
theorem M6 {e:Nat}{z:Zp}(h1:1<=e)(h:e<=z.length):(cut e z).length=e:=by
 have:=FD (j:=z.length - e) (z:=z) (by omega);unfold cut;omega
noncomputable def fin (z:Zp):D:=match cut 1 z with
 |(x,as)::_=>pairD x (.lst as)
 |[]=>.int 0
noncomputable def zc:Zp->Nat
 |[]=>0
 |(_,as)::r=>(jy 0 as).length+1+zc r
structure ZI (P:D->Prop) (i:Nat) (z:Zp):Prop where
 len:z.length<=i
 cnt:zc z=i
 fr:∀f∈z,P f.1/\jh P f.2/\f.2.Sm/\f.2.len+z.length<=i/\f.2.dep+2 * z.length<=2 * i+1
theorem Ds.pq (d:D):∀as:Ds,(as.snoc "" d).dep=max as.dep d.dep
 | .nil=>by show max d.dep 0=max 0 d.dep;omega
 | .cons x e r=>by show max e.dep (r.snoc "" d).dep=max (max e.dep r.dep) d.dep;rw[Ds.pq d r];omega
theorem Ds.FE {d:D}(h:d.Sm):∀{as:Ds},as.Sm->(as.snoc "" d).Sm
 | .nil,_=>by show(Ds.cons "" d .nil).Sm;unfold Ds.Sm;exact⟨h,by unfold Ds.Sm;trivial⟩
 | .cons x e r,w=>by
   unfold Ds.Sm at w;show(Ds.cons x e (r.snoc "" d)).Sm;unfold Ds.Sm;exact⟨w.1,Ds.FE h w.2⟩
theorem ZI.clo {P:D->Prop}{i:Nat}(Y:∀t,P t->t.dep<=2/\t.Sm)(hi:i<=60):∀{z:Zp},2<=z.length->ZI P i z->ZI P i (clo z)
 |[],h,_=>absurd h (by simp)
 |[_],h,_=>absurd h (by simp)
 |(x,as)::(y,bs)::r,_,⟨h1,h2,L⟩=>by
  obtain⟨U,J,x3,x4,x5⟩:=L (x,as) Q02;obtain⟨y1,y2,y3,y4,y5⟩:=L (y,bs) (Q06 _ Q02);have xd:=(Y x U).1;have J:jh P as:=J;simp only[Q0h] at x4 x5 y4 y5 h1;have hS:(pairD x (.lst as)).Sm:=sU (Y x U).2 (by unfold D.Sm;exact⟨by omega,x3⟩);refine⟨by show(r.length+1)<=i;omega,?_,λf hf=>?_⟩
  . show(jy 0 (bs.snoc "" (pairD x (.lst as)))).length+1+zc r=i;rw[Fz,Q09,tT,Q0h,jh.len J (0+1),<-h2];show _=(jy 0 as).length+1+((jy 0 bs).length+1+zc r);omega
  . rcases List.mem_cons.mp hf with z|z
    . rw[z];refine⟨y1,jh.snoc (.mk U J) y2,Ds.FE hS y3,?_,?_⟩
      . show(bs.snoc "" _).len+(r.length+1)<=i;rw[Ds.Dp];omega
      . show(bs.snoc "" _).dep+2 * (r.length+1)<=_;rw[Ds.pq,pX];omega
    . obtain⟨w1,w2,w3,w4,w5⟩:=L f (Q06 _ (Q06 _ z));simp only[Q0h] at w4 w5;exact⟨w1,w2,w3,by show f.2.len+(r.length+1)<=i;omega,by show f.2.dep+2 * (r.length+1)<=_;omega⟩
theorem ZI.ko {P:D->Prop}{i:Nat}(J:∀t,P t->t.dep<=2/\t.Sm)(hi:i<=60):∀{j:Nat}{z:Zp},j<z.length->ZI P i z->ZI P i (ko j z)
 |0,z,_,h=>h
 |j+1,z,L,h=>by
  have h1:=FC (z:=z) (by omega);exact ZI.ko J hi (j:=j) (z:=Pb.clo z) (by omega) (h.clo J hi (by omega))
theorem ZI.cut {P:D->Prop}{i e:Nat}{z:Zp}(J:∀t,P t->t.dep<=2/\t.Sm)(hi:i<=60)(h1:1<=e)(h2:e<=z.length)(h:ZI P i z):ZI P i (cut e z):=h.ko J hi (by omega)
theorem ZI.oM {P:D->Prop}{i:Nat}{z:Zp}{x:D}(J:P x)(h:ZI P i z):ZI P (i+1) (oM x z):=by
 obtain⟨h1,h2,L⟩:=h;refine⟨by show z.length+1<=i+1;omega,?_,λf U=>?_⟩
 . show(jy 0 .nil).length+1+zc z=_;rw[tU,h2];simp;omega
 . show _/\_/\_/\_+(z.length+1)<=_/\_+2 * (z.length+1)<=_;rcases List.mem_cons.mp U with e|e
   . rw[e];exact⟨J,.nil,by unfold Ds.Sm;trivial,by show 0+_<=_;omega,by show 0+_<=_;omega⟩
   . obtain⟨w1,Y,w3,w4,w5⟩:=L f e;exact⟨w1,Y,w3,by omega,by omega⟩
theorem ZI.one {P:D->Prop}{x:D}(J:P x):ZI P 1 [(x,.nil)]:=ZI.oM (z:=[]) J ⟨Q00 _,rfl,λf L=>nomatch L⟩
theorem ZI.fin {P:D->Prop}{i:Nat}{z:Zp}(L:∀t,P t->t.dep<=2/\t.Sm)(hi:i<=60)(Y:1<=z.length)(h:ZI P i z):lU P (fin z)/\(fin z).Sm/\(fin z).dep<=2 * i+3/\(flat 0 (fin z)).length=i:=by
 have hc:=M6 (Q00 1) Y;have hI:=h.cut L hi (Q00 1) Y;unfold Pb.fin;generalize Pb.cut 1 z=z' at hc hI
 match z',hc,hI with
 |[(x,as)],_,⟨h1,h2,h3⟩=>
  obtain⟨U,J,x3,x4,x5⟩:=h3 (x,as) Q02;have:=(L x U).1;have J:jh P as:=J;simp only[Q0h,Q2b] at x4 x5;refine⟨.mk U J,sU (L x U).2 (by unfold D.Sm;exact⟨by omega,x3⟩),by rw[pX];omega,?_⟩;show(flat 0 (pairD x (.lst as))).length=i;rw[tT,Q0h,jh.len J (0+1)];have h2:(jy 0 as).length+1+0=i:=h2;omega
structure Fr where
 l:Addr
 t:Addr
 vs:List V
 ds:Ds
 fp:List Addr
 u:V
 x:D
 fx:List Addr
def iN (H:Hp):List Fr->List V->Prop
 |[],_=>True
 |f::r,nx=>H f.l=some (.lst (f.vs++nx))/\gn H f.vs f.ds f.fp/\H f.t=some (.tup [f.u,.ref f.l])/\Own H f.u f.x f.fx/\iN H r [.ref f.t]
noncomputable def ml (fs:List Fr):Zp:=fs.map λf=>(f.x,f.ds)
def Ad (fs:List Fr) (a:Addr):Prop:=∃f∈fs,a=f.l\/a∈f.fp\/a∈f.fx
structure mr (fs:List Fr):Prop where
 nd:(fs.map Fr.l).Nodup
 ap:∀f∈fs,∀g∈fs,f.l ∉ g.fp/\f.l ∉ g.fx
theorem iN.keep {H H':Hp}(t:Tu H H'):∀{fs:List Fr}{nx:List V},(∀a,Ad fs a->∀o,H a=some o->H' a=some o)->iN H fs nx->iN H' fs nx
 |[],_,_,_=>trivial
 |f::r,nx,k,⟨h1,h2,L,U,Y⟩=>
  ⟨k _ ⟨f,Q02,.inl rfl⟩ _ h1,h2.keep t _ λa J=>k a ⟨f,Q02,.inr (.inl J)⟩,t _ _ L,U.keep t _ λa J=>k a ⟨f,Q02,.inr (.inr J)⟩,
    iN.keep t (λa ⟨g,hg,J⟩=>k a ⟨g,Q06 _ hg,J⟩) Y⟩
theorem iN.same {H H':Hp}(s:Same H H'){fs:List Fr}{nx:List V}(h:iN H fs nx):iN H' fs nx:=h.keep (Tu.of s) λa _ o e=>s a o e
theorem iN.alive {H:Hp}:∀{fs:List Fr}{nx:List V},iN H fs nx->∀a,Ad fs a->Mu H a
 |[],_,_,a,⟨f,L,_⟩=>nomatch L
 |f::r,nx,⟨h1,h2,h3,U,Y⟩,a,⟨g,hg,J⟩=>by
  rcases List.mem_cons.mp hg with e|e
  . rw[e] at J;rcases J with z|z|z
    . rw[z];exact .inl ⟨_,h1⟩
    . exact gn.alive _ h2 a z
    . exact Own.alive _ U a z
  . exact Y.alive a ⟨g,e,J⟩
theorem iN.close {H:Hp}{f g:Fr}{r:List Fr}(h:iN H (f::g::r) [])(U:mr (f::g::r)):
 ∃g',iN H (g'::r) []/\mr (g'::r)/\g'.l=g.l/\g'.t=g.t/\(g'.x,g'.ds)=(g.x,g.ds.snoc "" (pairD f.x (.lst f.ds)))/\∀a,Ad (g'::r) a->Ad (f::g::r) a:=by
 obtain⟨h1,h2,h3,h4,k1,k2,k3,k4,k5⟩:=h;rw[Q0s] at h1
 have hf:Own H (.ref f.t) (pairD f.x (.lst f.ds)) (f.fx++f.l::f.fp):=by
  unfold Own;refine⟨f.t,_,rfl,h3,?_⟩;unfold gn;refine⟨f.u,_,f.fx,f.l::f.fp,rfl,rfl,h4,?_⟩;unfold gn;refine⟨.ref f.l,[],f.l::f.fp,[],rfl,by simp,?_,by unfold gn;exact⟨rfl,rfl⟩⟩;unfold Own;exact⟨f.l,f.vs,f.fp,rfl,h1,rfl,h2⟩
 have nd:(f.l::g.l::r.map Fr.l).Nodup:=U.nd;obtain⟨n1,n2⟩:=List.nodup_cons.mp nd;refine⟨⟨g.l,g.t,g.vs++[.ref f.t],g.ds.snoc "" (pairD f.x (.lst f.ds)),g.fp++(f.fx++f.l::f.fp),g.u,g.x,g.fx⟩,⟨by rw[Q0s];exact k1,gn.snoc hf _ k2,k3,k4,k5⟩,⟨n2,λp hp q Y=>?_⟩,rfl,rfl,rfl,?_⟩
 . have aa:∃L∈g::r,p.l=L.l:=by
    rcases List.mem_cons.mp hp with e|e
    . exact⟨g,Q02,by rw[e]⟩
    . exact⟨p,Q06 _ e,rfl⟩
   obtain⟨L,J,e0⟩:=aa;have aF:=U.ap L (Q06 _ J) f Q02;have ab:L.l≠f.l:=λz=>n1 (by rw[<-z];exact Q20 (f:=Fr.l) J);rw[e0];rcases List.mem_cons.mp Y with e|e
   . rw[e];have aG:=U.ap L (Q06 _ J) g (Q06 _ Q02);refine⟨λz=>?_,aG.2⟩;rcases List.mem_append.mp z with z|z
     . exact aG.1 z
     . rcases List.mem_append.mp z with z|z
       . exact aF.2 z
       . rcases List.mem_cons.mp z with z|z
         . exact ab z
         . exact aF.1 z
   . exact U.ap L (Q06 _ J) q (Q06 _ (Q06 _ e))
 . rintro a ⟨q,Y,ha⟩;rcases List.mem_cons.mp Y with e|e
   . rw[e] at ha;rcases ha with z|z|z
     . exact⟨g,Q06 _ Q02,.inl z⟩
     . rcases List.mem_append.mp z with z|z
       . exact⟨g,Q06 _ Q02,.inr (.inl z)⟩
       . rcases List.mem_append.mp z with z|z
         . exact⟨f,Q02,.inr (.inr z)⟩
         . rcases List.mem_cons.mp z with z|z
           . exact⟨f,Q02,.inl z⟩
           . exact⟨f,Q02,.inr (.inl z)⟩
     . exact⟨g,Q06 _ Q02,.inr (.inr z)⟩
   . exact⟨q,Q06 _ (Q06 _ e),ha⟩
theorem iN.ko {H:Hp}:∀{j:Nat}{fs:List Fr},j<fs.length->iN H fs []->mr fs->
 ∃fs',iN H fs' []/\mr fs'/\ml fs'=Pb.ko j (ml fs)/\fs'.map Fr.l=(fs.map Fr.l).drop j/\fs'.map Fr.t=(fs.map Fr.t).drop j/\∀a,Ad fs' a->Ad fs a
 |0,fs,_,h,L=>⟨fs,h,L,rfl,rfl,rfl,λ_ z=>z⟩
 |j+1,[],J,_,_=>absurd J (by simp)
 |j+1,[_],J,_,_=>absurd J (by simp)
 |j+1,f::g::r,J,h,L=>by
  obtain⟨g',h1,h2,U,Y,e3,h3⟩:=h.close L;obtain⟨fs',a1,a2,a3,a4,a5,a6⟩:=iN.ko (j:=j) (fs:=g'::r) (by simp only[Q0h] at J ⊢;omega) h1 h2;refine⟨fs',a1,a2,?_,?_,?_,λa z=>h3 a (a6 a z)⟩
  . rw[a3];show Pb.ko j ((g'.x,g'.ds)::ml r)=Pb.ko j (clo ((f.x,f.ds)::(g.x,g.ds)::ml r));rw[e3];rfl
  . rw[a4];show(g'.l::r.map Fr.l).drop j=(g.l::r.map Fr.l).drop j;rw[U]
  . rw[a5];show(g'.t::r.map Fr.t).drop j=(g.t::r.map Fr.t).drop j;rw[Y]
theorem FF (fs:List Fr):(ml fs).length=fs.length:=Q04 ..
theorem iN.cut {H:Hp}{e:Nat}{fs:List Fr}(h1:1<=e)(h2:e<=fs.length)(h:iN H fs [])(L:mr fs):
 ∃f r,iN H (f::r) []/\mr (f::r)/\ml (f::r)=Pb.cut e (ml fs)/\(f::r).map Fr.l=(fs.map Fr.l).drop (fs.length - e)/\(f::r).map Fr.t=(fs.map Fr.t).drop (fs.length - e)/\∀a,Ad (f::r) a->Ad fs a:=by
 obtain⟨fs',U,Y,a3,J,a5,a6⟩:=iN.ko (j:=fs.length - e) (by omega) h L
 cases fs' with
 |nil=>
  have:=congrArg List.length J;rw[Q1j,Q04] at this;simp at this;omega
 |cons f r=>
  refine⟨f,r,U,Y,?_,J,a5,a6⟩;rw[a3];unfold Pb.cut;rw[FF]
theorem iN.push {H:Hp}{f:Fr}{r:List Fr}{t' L:Addr}{u':V}{x':D}{J:List Addr}(h:iN H (f::r) [])(hA:mr (f::r))(ht:H t'=some (.tup [u',.ref L]))(hl:H L=some (.lst []))(ho:Own H u' x' J)
 (n1:¬Ad (f::r) L) (n2:L ∉ J) (n3:∀g∈f::r,g.l ∉ J):
 iN (upd H f.l (.lst (f.vs++[.ref t']))) (⟨L,t',[],.nil,[],u',x',J⟩::f::r) []/\mr (⟨L,t',[],.nil,[],u',x',J⟩::f::r):=by
 obtain⟨h1,h2,h3,h4,h5⟩:=h;have mu:Mu H f.l:=.inl ⟨_,h1⟩;have tu:Tu H (upd H f.l (.lst (f.vs++[.ref t']))):=Tu.wr λys z=>mu.nG ys z;have nd:(f.l::r.map Fr.l).Nodup:=hA.nd;obtain⟨m1,m2⟩:=List.nodup_cons.mp nd;have ap:=hA.ap f Q02;have kp:∀a,a≠f.l->∀o,H a=some o->upd H f.l (.lst (f.vs++[.ref t'])) a=some o:=λa U o e=>by rw[gj U];exact e
 have aa:L≠f.l:=λz=>n1 ⟨f,Q02,.inl z⟩
 refine⟨⟨kp _ aa _ hl,by unfold gn;exact⟨rfl,rfl⟩,tu _ _ ht,ho.keep tu _ λa U=>kp a λz=>n3 f Q02 (by rw[<-z];exact U),
  gu,h2.keep tu _ λa U=>kp a λz=>(ap f Q02).1 (by rw[<-z];exact U),tu _ _ h3,h4.keep tu _ λa U=>kp a λz=>(ap f Q02).2 (by rw[<-z];exact U),h5.keep tu λa ⟨g,hg,U⟩=>kp a λz=>?_⟩,⟨?_,?_⟩⟩
 . rcases U with y|y|y
   . exact m1 (by rw[<-z,y];exact Q20 (f:=Fr.l) hg)
   . exact(ap g (Q06 _ hg)).1 (by rw[<-z];exact y)
   . exact(ap g (Q06 _ hg)).2 (by rw[<-z];exact y)
 . show(L::f.l::r.map Fr.l).Nodup;refine List.nodup_cons.mpr ⟨λz=>?_,nd⟩;have z:L∈(f::r).map Fr.l:=z;obtain⟨g,hg,e⟩:=List.mem_map.mp z;exact n1 ⟨g,hg,.inl e.symm⟩
 . intro p hp q hq;rcases List.mem_cons.mp hp with e|e <;> rcases List.mem_cons.mp hq with Y|Y
   . rw[e,Y];exact⟨by simp,n2⟩
   . rw[e];exact⟨λz=>n1 ⟨q,Y,.inr (.inl z)⟩,λz=>n1 ⟨q,Y,.inr (.inr z)⟩⟩
   . rw[Y];exact⟨by simp,n3 p e⟩
   . exact hA.ap p e q Y
theorem iN.tree {H:Hp}{f:Fr}(h:iN H [f] []):Own H (.ref f.t) (pairD f.x (.lst f.ds)) (f.fx++f.l::f.fp):=by
 obtain⟨h1,h2,J,L,_⟩:=h;rw[Q0s] at h1;unfold Own;refine⟨f.t,_,rfl,J,?_⟩;unfold gn;refine⟨f.u,_,f.fx,f.l::f.fp,rfl,rfl,L,?_⟩;unfold gn;refine⟨.ref f.l,[],f.l::f.fp,[],rfl,by simp,?_,by unfold gn;exact⟨rfl,rfl⟩⟩;unfold Own;exact⟨f.l,f.vs,f.fp,rfl,h1,rfl,h2⟩
theorem iN.fin {H:Hp}{fs:List Fr}{Y:List Addr}{L:Addr}(h:iN H fs [])(hA:mr fs)(ht:fs.map Fr.t=Y++[L]):∃fp,Own H (.ref L) (Pb.fin (ml fs)) fp/\∀a∈fp,Ad fs a:=by
 have hl:1<=fs.length:=by
  have:=congrArg List.length ht;rw[Q04,Q09] at this;simp at this;omega
 obtain⟨f,r,a1,a2,a3,a4,J,a6⟩:=h.cut (Q00 1) hl hA
 have hr:r=[]:=by
  have:=congrArg List.length J;rw[Q1j,Q04,Q04] at this
  cases r with
  |nil=>rfl
  |cons _ _=>simp at this;omega
 subst hr
 have e:f.t=L:=by
  rw[ht] at J
  have U:fs.length - 1=Y.length:=by
   have:=congrArg List.length ht;rw[Q04,Q09] at this;simp at this;omega
  rw[U,List.drop_left] at J;exact(List.cons.inj J).1
 refine⟨f.fx++f.l::f.fp,?_,λa ha=>a6 a ?_⟩
 . unfold Pb.fin;rw[<-a3,<-e];exact iN.tree a1
 . rcases List.mem_append.mp ha with z|z
   . exact⟨f,Q02,.inr (.inr z)⟩
   . rcases List.mem_cons.mp z with z|z
     . exact⟨f,Q02,.inl z⟩
     . exact⟨f,Q02,.inr (.inl z)⟩
theorem _root_.Pb.gM.mu {b P c:Addr}{H H':Hp}{J:Pos}{L:Str}{o:HO}(x:gM b P H H')(hT:gJ P J L H)(hc:c≠b)(m:Mu H c)(e:H c=some o):H' c=some o:=x c o (λz=>z.elim hc λz=>by
 obtain⟨ps,q⟩:=hT.tab;rcases m with⟨_,w⟩|⟨_,w⟩ <;> rw[z,q] at w <;> cases w) e
theorem gM.sb {b P:Addr}{H H':Hp}(s:SB b H H'):gM b P H H':=λc o h e=>s c o (λz=>h (.inl z)) e
theorem M7 {fs J:List Fr}{e:Nat}(h:J.map Fr.t=(fs.map Fr.t).drop (fs.length - e)):(fs.reverse.map λf=>V.ref f.t).take e=J.reverse.map λf=>V.ref f.t:=by
 have h2:J.map (λf=>V.ref f.t)=(fs.map λf=>V.ref f.t).drop (fs.length - e):=by
  have:=congrArg (List.map V.ref) h;rw[Q1t,List.map_drop,Q1t] at this;exact this
 rw[Q2q,Q2q,h2,List.take_reverse,Q04]
theorem new1 {H:Hp}{p:Addr}(hp:H p=none)(o:HO):∃H',upd H p o=H'/\Same H H'/\H' p=some o:=⟨_,rfl,Same.new hp,gu⟩
theorem FG (xs:List V)(i:Nat):om xs none (some (i:Int))=xs.take i:=by
 unfold om;rw[HT.HN,HT.HP,List.drop_zero,Nat.sub_zero];exact List.take_eq_take_iff.mpr (by omega)
noncomputable def m_ (st c:Int) (L:Nat):Int:=if 0<st then(L:Int) - c % (if st<(L:Int) then st else(L:Int)) else 1+c % (L:Int)
theorem FH {st c:Int}{L:Nat}(J:1<=L):1<=m_ st c L/\m_ st c L<=L:=by
 unfold m_;by_cases h:0<st
 . rw[if_pos h];by_cases h2:st<(L:Int)
   . rw[if_pos h2];have a:=Q0k c (show st≠0 by omega);have b:=Q0l c h;omega
   . rw[if_neg h2];have a:=Q0k c (show(L:Int)≠0 by omega);have b:=Q0l c (show(0:Int)<L by omega);omega
 . rw[if_neg h];have a:=Q0k c (show(L:Int)≠0 by omega);have b:=Q0l c (show(0:Int)<L by omega);omega
noncomputable def FI (ns:List Int) (k:Kd) (st:Int) (s:Zp × Int) (c:Int):Zp × Int:=(oM (val ns k 1 s.2).1 (cut (m_ st c s.1.length).toNat s.1),(val ns k 1 s.2).2)
noncomputable def g0 (ns:List Int) (k:Kd) (n:Int):Zp × Int:=([((val ns k 1 n).1,.nil)],(val ns k 1 n).2+1)
noncomputable def lV (ns:List Int) (k:Kd) (n:Int):Int:=nx ns ((val ns k 1 n).2+1) % 3
noncomputable def hZ (ns:List Int) (k:Kd) (n:Int) (i:Nat):Zp × Int:=(ns.take i).foldl (FI ns k (lV ns k n)) (g0 ns k n)
theorem tV {ns:List Int}{k:Kd}{n:Int}{i:Nat}{c:Int}(h:ns[i]? =some c):hZ ns k n (i+1)=FI ns k (lV ns k n) (hZ ns k n i) c:=by
 unfold hZ;rw[Q0t,h,List.foldl_append];rfl
def wJ (k:Kd) (t:D):Prop:=gU k t/\t.dep<=2/\t.Sm
theorem FJ {k:Kd}(L:k.dB<=2)(U:k.W)(ns:List Int)(J:Nat)(n:Int)(Y:J<8):wJ k (val ns k J n).1:=
 ⟨qC ns k U J n Y,Q0g (pC ns k J n) L,pR ns k U J n Y⟩
theorem FK (ns:List Int)(k:Kd)(n:Int):∀i,i<=ns.length->1<=(hZ ns k n i).1.length
 |0,_=>Q00 1
 |i+1,h=>by
  rw[tV (Q05 (show i<ns.length by omega))];show 1<=(cut _ _).length+1;omega
theorem wK {k:Kd}(J:k.dB<=2)(L:k.W)(ns:List Int)(n:Int):∀i,i<=ns.length->i<=40->ZI (wJ k) (i+1) (hZ ns k n i).1
 |0,_,_=>ZI.one (FJ J L ns 1 n (by decide))
 |i+1,h,U=>by
  have hp:=FK ns k n i (by omega);rw[tV (Q05 (show i<ns.length by omega))];obtain⟨Y,d2⟩:=FH (st:=lV ns k n) (c:=ns[i]) hp;exact((wK J L ns n i (by omega) (by omega)).cut (λt h=>h.2) (by omega) (by omega) (by omega)).oM (FJ J L ns 1 _ (by decide))
theorem M8 {k:Kd}(J:k.dB<=2)(L:k.W)(ns:List Int)(n:Int):lU (wJ k) (fin (hZ ns k n 40).1)/\(fin (hZ ns k n 40).1).Sm/\(fin (hZ ns k n 40).1).dep<=85/\(flat 0 (fin (hZ ns k n 40).1)).length<=41:=by
 have e:hZ ns k n 40=hZ ns k n (min 40 ns.length):=by
  unfold hZ;rw[show ns.take 40=ns.take (min 40 ns.length) from List.take_eq_take_iff.mpr (by omega)]
 rw[e];obtain⟨a,b,c,d⟩:=(wK J L ns n (min 40 ns.length) (by omega) (by omega)).fin (λt h=>h.2) (by omega) (FK ns k n _ (by omega));exact⟨a,b,by omega,by omega⟩
def FL (K:W.Frag) (Pt:Addr):Sp:=λvs H Q _=>∃a b ns n J k,vs=[.ref a,.ref b,J,.int 40]/\G0 K H a b ns n/\gJ Pt jX jY H/\k.dB<=2/\KA H J k/\k.W/\k.dep<=2/\n+100 * (k.cB+1)<=1000000000000/\
 ∀(v:V) (H':Hp) (fp:List Addr),gM b Pt H H'->gJ Pt jX jY H'->H' b=some (.lst [.int (hZ ns k n 40).2])->Own H' v (fin (hZ ns k n 40).1) fp->(∀c∈fp,H c=none)->Q v H'
section
variable {P:Program}{w:World}{K:W.Frag}{mg:Str->Option Value}{base:Heap}
variable {Pt:Addr}
theorem M9:gP ["_law_script","_law_at","_law_kind_here","_law_most","_law_top_here","_law_road","_law_steep","_law_cell","_law_deep","_law_tree"] XT (gC (top 49)):=gT
theorem M_ (T:Tb mg)(aa:Dn K mg "_law_grown" sL (top 49) ab ac)(J:Dn K mg "_law_value" js (top 45) ae af)(L:d_ P w K mg base f_ (2 * 60+5) ae af js (nN K Pt 60))(ag:Dn K mg "_law_next" g8 (top 35) ah ai)(aj:d_ P w K mg base f_ (1) ah ai g8 (oI K)):d_ P w K mg base f_ (126) ab ac sL (FL K Pt):=by
 refine aa.F.ok M9 λvs H Q E h=>?_;obtain⟨a,b,ns,n,kv,k,rfl,g,aM,bG,hk,hW,b7,hn,q⟩:=h;refine⟨rfl,λb8 A outer s nd hr hu=>?_⟩
 refine⟨_,(gh (gD 4 nd (iw (a_ (gz L hr J (a_ (pv 0) (a_ (pv 1) (a_ (pv 2) (a_ c_ b_))))) (a_ (iJ b_) b_))))
  (gh (gD 5 nd (iJ (a_ (pv 4) b_)))
  (gh (gD 6 nd (gy ia (gz aj hr ag (a_ (pv 0) (a_ (pv 1) b_))) c_))
  (gh (jo PassesOwn.never rfl (mF (rN B7 (pv 0) rL (rM (pv 3)))) (g5 (i:=7) nd rfl iA) (gh (gD 8 nd (gy j7 c_ (gy ia (pv 7) (g7 jC (by rfl) T.jc PySem.boot_len (a_ (pv 5) b_)))))
  (gh (gF (gI rJ (pv 6) c_ (gE _)) (gm (gD 8 nd (gy l5 (g7 jC (by rfl) T.jc PySem.boot_len (a_ (pv 5) b_)) (gy ia (pv 7) (g7 (Hq rfl) (by rfl) T.Kg boot_min (a_ (g7 jC (by rfl) T.jc PySem.boot_len (a_ (pv 5) b_)) (a_ (pv 6) b_))))))) gH)
  (gh (gD 5 nd (rN B7 (pv 5) rL (rM (pv 8))))
  (gh (gD 9 nd (iw (a_ (gz L hr J (a_ (pv 0) (a_ (pv 1) (a_ (pv 2) (a_ c_ b_))))) (a_ (iJ b_) b_))))
  (gh (j5 (mN PySem.F.plainAttrs_list PySem.F.slot_list_append PySem.F.type_list_append nu (gp (iT (pv 5) (Hk Hn c_)) c_) (a_ (pv 9) b_)))
  (gm (j5 (mN PySem.F.plainAttrs_list PySem.F.slot_list_append PySem.F.type_list_append nu (pv 5) (a_ (pv 9) b_))))))))))
  (gm (gv (pv 4))))))),?_⟩
 ac_rfl
 have bc:mu k 1<=60:=by have:=DT k 1;omega
 have b9:=pP k 1;have ct:=lI ns k 1 n (by decide);refine⟨_,rfl,_,rfl,_,rfl,a,b,ns,n,kv,k,1,rfl,g,aM,hk,hW,by decide,bc,by omega,λv0 H1 aN s1 h1 aO a2 bz au=>?_⟩;refine⟨pL,λl0 aP=>⟨iq,λt0 a3=>?_⟩⟩;obtain⟨Ha,bd,sa,el⟩:=new1 aP (.lst []);rw[bd] at a3 ⊢;obtain⟨Hb,be,sb,et⟩:=new1 a3 (.tup [v0,.ref l0]);rw[be];clear bd be;have el:=sb _ _ el;have a4:gM b Pt H Hb:=s1.trans (Kp.of (sa.trans sb));have av:H l0=none:=gM.fresh s1 h1 aO aP;have bH:=aO.same (sa.trans sb)
 have aL:l0 ∉ aN:=λz=>by
  obtain⟨o,eo⟩:=(Own.alive _ a2 l0 z).ex;rw[aP] at eo;cases eo
 have am:=(sa.trans sb) _ _ h1;have aw:=a2.same (sa.trans sb);refine⟨_,rfl,ma,λrd an=>?_⟩;obtain⟨Hc,bf,sc,bg⟩:=new1 an (.lst [.ref t0]);rw[bf];clear bf;have g1:=gM.g0 (a4.trans (Kp.of sc)) g aM (sc _ _ am) ct.1;have aQ:=bH.same sc;refine⟨_,rfl,_,rfl,a,b,ns,_,rfl,g1,by omega,λH2 s2 h2=>⟨_,_,rfl,rfl,(by show(0:Int)<_;decide),?_⟩⟩;have aG:rd≠b:=λz=>by rw[z,am] at an;cases an
 have g2:=g1.go s2 h2 (by omega);refine⟨_,rfl,_,rfl,_,rfl,a,_,rfl,g2.lN.sq,λps ao=>?_⟩;rw[show om (ns.map V.int) none (some 40)=(ns.take 40).map V.int by rw[show(40:Int)=((40:Nat):Int) from rfl,FG,List.map_take]];obtain⟨H3,aC,s3,a5⟩:=new1 ao (.lst ((ns.take 40).map V.int));rw[aC];clear aC;have ca:lV ns k n=nx ns ((val ns k 1 n).2+1) % 3:=rfl;have bI:=(gJ.sb aQ (sc _ _ am) s2).same s3;have bh:gM b Pt H H3:=(a4.trans (Kp.of sc)).trans ((gM.sb s2).trans (Kp.of s3));have bi:H3 b=some (.lst [.int ((val ns k 1 n).2+1)]):=s3 _ _ h2;have aW:((ns.take 40).map V.int).length=(ns.take 40).length:=Q04 ..;have bA:ps≠b:=λz=>by rw[z,h2] at ao;cases ao
 have aS:∀c,H c=none->c≠b:=λc hc z=>by rw[z,g.at_] at hc;cases hc
 refine⟨ps,rfl,⟨_,gi.of a5⟩,rF (xs:=(ns.take 40).map V.int) (λi σ H'=>∃x7 x8 x9 fs U ts,σ=[some (.ref a),some (.ref b),some kv,some (.int 40),some (.ref t0),some (.ref U),some (.int (lV ns k n)),x7,x8,x9]/\(gM b Pt H H'/\gJ Pt jX jY H')/\H' b=some (.lst [.int (hZ ns k n i).2])/\iN H' fs []/\mr fs/\ml fs=(hZ ns k n i).1/\(∀c,Ad fs c->H c=none)/\fs.map Fr.t=ts++[t0]/\fs.length<=i+1/\
  H' U=some (.lst (fs.reverse.map λf=>V.ref f.t))/\¬Ad fs U/\U≠b/\H' ps=some (.lst ((ns.take 40).map V.int))/\¬Ad fs ps/\n<=(hZ ns k n i).2/\(hZ ns k n i).2<=n+(((i+1) * k.cB:Nat):Int)+1) ?_ ?_ ?_ ?_⟩
 . have e0:hZ ns k n 0=g0 ns k n:=rfl
   have bj:∀c,c≠l0->c ∉ aN->¬Ad [⟨l0,t0,[],.nil,[],v0,(val ns k 1 n).1,aN⟩] c:=λc h1 h2 ⟨f,hf,hc⟩=>by
    rw[List.mem_singleton.mp hf] at hc;rcases hc with z|z|z
    . exact h1 z
    . exact absurd z (by simp)
    . exact h2 z
   refine⟨_,_,_,[⟨l0,t0,[],.nil,[],v0,(val ns k 1 n).1,aN⟩],rd,[],rfl,⟨bh,bI⟩,bi,?_,⟨by simp,?_⟩,rfl,?_,rfl,by simp,?_,?_,aG,a5,?_,by rw[e0];show n<=(val ns k 1 n).2+1;omega,by rw[e0];show(val ns k 1 n).2+1<=_;omega⟩
   . exact⟨s3 _ _ (s2 _ _ (aS _ av) (sc _ _ el)),by unfold gn;exact⟨rfl,rfl⟩,Tu.of s3 _ _ (gM.tu (P:=Pt) (gM.sb s2) (sc _ _ am) aQ _ _ (sc _ _ et)),(Own.g6 (P:=Pt) (H₀:=H) (aw.same sc) (gM.sb s2) (sc _ _ am) aQ ⟨_,g.at_⟩ au).same s3,trivial⟩
   . intro f hf f' bJ;rw[List.mem_singleton.mp hf,List.mem_singleton.mp bJ];exact⟨by simp,aL⟩
   . rintro c ⟨f,hf,hc⟩;rw[List.mem_singleton.mp hf] at hc;rcases hc with z|z|z
     . rw[z];exact av
     . exact absurd z (by simp)
     . exact au c z
   . exact s3 _ _ (s2 _ _ aG bg)
   . refine bj rd (λz=>by rw[z,el] at an;cases an) λz=>?_;obtain⟨o,eo⟩:=(Own.alive _ aw rd z).ex;rw[an] at eo;cases eo
   . refine bj ps (λz=>by rw[z,s2 _ _ (aS _ av) (sc _ _ el)] at ao;cases ao) λz=>?_;obtain⟨o,eo⟩:=(Own.alive _ (Own.g6 (P:=Pt) (H₀:=H) (aw.same sc) (gM.sb s2) (sc _ _ am) aQ ⟨_,g.at_⟩ au) ps z).ex;rw[ao] at eo;cases eo
 . intro i σ H' _ zq;obtain⟨x7,x8,x9,fs,U,ts,rfl,hh⟩:=zq;exact gi.of hh.2.2.2.2.2.2.2.2.2.2.2.1
 . intro i c σ H' hc zq;obtain⟨x7,x8,x9,fs,U,ts,rfl,⟨ak,aT⟩,ap,aU,hA,hz,aD,ht,bK,al,bB,ba,aH,aI,bm,bL⟩:=zq;clear bh bi a5 s3 ao s2 h2 g2 g1 bg sc an aG et el sa aL aw am a4 a2 bz au a3 aP av h1 s1
   obtain⟨ci,rfl,bn,b4⟩:∃ci,c=.int ci/\ns[i]? =some ci/\i<40:=by
    rw[Q0j] at hc
    cases e:(ns.take 40)[i]? with
    |none=>rw[e] at hc;cases hc
    |some ci=>
     rw[e] at hc;have hi:=(List.getElem?_eq_some_iff.mp e).1;rw[Q0p] at hi;rw[List.getElem?_take,if_pos (by omega)] at e;exact⟨ci,(Option.some.inj hc).symm,e,by omega⟩
   have hL:fs.length=(hZ ns k n i).1.length:=by rw[<-hz,FF]
   have aO:1<=fs.length:=by
    have:=congrArg List.length ht;rw[Q04,Q09] at this;simp at this;omega
   have aV:(fs.reverse.map λf=>V.ref f.t).length=fs.length:=by rw[Q04,Q1h]
   obtain⟨d1,d2⟩:=FH (st:=lV ns k n) (c:=ci) aO;obtain⟨e,he⟩:∃e:Nat,m_ (lV ns k n) ci fs.length=(e:Int):=⟨(m_ (lV ns k n) ci fs.length).toNat,by omega⟩;refine⟨_,rfl,_,rfl,U,_,rfl,.inl (gi.of al),_,_,rfl,rfl,by rw[aV];omega,_,_,rfl,rfl,?_⟩;rw[aV];dsimp only[je];refine tQ (A:=nY _ _ _) (λbM bN=>bN=H'/\bM=[some (.ref a),some (.ref b),some kv,some (.int 40),some (.ref t0),some (.ref U),some (.int (lV ns k n)),some (.int ci),some (.int e),x9]) ?_ (λhB=>?_)
   . rintro _ _ ⟨rfl,rfl⟩;refine⟨_,rfl,_,rfl,_,rfl,U,_,rfl,gi.of al,λp1 aA=>?_⟩;obtain⟨f,r,c1,c2,c3,c4,c5,c6⟩:=aU.cut (e:=e) (by omega) (by omega) hA;rw[FG,M7 c5];have aX:∀x,Ad fs x->x≠p1:=λx Y=>(aU.alive x Y).ne aA;obtain⟨H1,bo,s1,a6⟩:=new1 aA (.lst ((f::r).reverse.map λf=>V.ref f.t));rw[bo];clear bo;have a7:=s1 _ _ ap;have g1:=gM.g0 (ak.trans (Kp.of s1)) g aM a7 bm;have aB:=aT.same s1;have b5:(i+1) * k.cB<=40 * k.cB:=Q12 _ (by omega);have cb:=lI ns k 1 (hZ ns k n i).2 (by decide);refine⟨_,rfl,_,rfl,_,rfl,a,b,ns,_,kv,k,1,rfl,g1,aB,KA.mono (gM.tu (ak.trans (Kp.of s1)) g.at_ aM) _ hk,hW,by decide,bc,by omega,λv2 H2 aE s2 h2 bp bq b6 ax=>?_⟩;refine⟨pL,λl' aq=>⟨iq,λt' br=>?_⟩⟩;obtain⟨H3,aC,s3,bO⟩:=new1 aq (.lst []);rw[aC] at br ⊢;obtain⟨H4,bt,s4,bP⟩:=new1 br (.tup [v2,.ref l']);rw[bt];clear aC bt;have ar:=s3.trans s4;have bQ:=s4 _ _ bO;have aJ:p1≠b:=λz=>by rw[z,ap] at aA;cases aA
     have nb:∀x,Ad (f::r) x->x≠b:=λx Y=>aS x (aD x (c6 x Y));have aY:iN H2 (f::r) []:=(c1.same s1).keep (gM.tu s2 a7 aB) λx Y o h=>s2.mu aB (nb x Y) ((c1.same s1).alive x Y) h;have aZ:=aY.same ar;have bR:=bq.same ar;have bu:=s2.mu aB aJ (.inl ⟨_,a6⟩) a6;have bv:=ar _ _ bu;have bS:∀x,H2 x=none->H x=none:=λx Y=>gM.fresh ((ak.trans (Kp.of s1)).trans s2) h2 bp Y
     have bT:¬Ad (f::r) l':=λz=>by
      obtain⟨o,eo⟩:=(aY.alive l' z).ex;rw[aq] at eo;cases eo
     have bU:l' ∉ aE:=λz=>by
      obtain⟨o,eo⟩:=(Own.alive _ bq l' z).ex;rw[aq] at eo;cases eo
     have bV:∀x,Ad (f::r) x->x ∉ aE:=λx Y z=>by
      obtain⟨o,eo⟩:=((c1.same s1).alive x Y).ex;rw[ax x z] at eo;cases eo
     obtain⟨k1,k2⟩:=aZ.push c2 bP bQ bR bT bU λx Y=>bV x.l ⟨x,Y,.inl rfl⟩;obtain⟨ay,_,bC,_,_⟩:=aZ;rw[Q0s] at ay;have bb:(f::r).reverse.map (λf=>V.ref f.t)=(r.reverse.map λf=>V.ref f.t)++[.ref f.t]:=by rw[Q3l,Q0m];rfl
     have bD:f.l≠p1:=aX _ (c6 _ ⟨f,Q02,.inl rfl⟩);have cc:=(List.getElem?_eq_some_iff.mp bn).1
     have cd:f.vs.length<=60:=by
      have zi:=(wK bG hW ns n i (by omega) (by omega)).cut (λt h=>h.2) (by omega) (e:=e) (by omega) (by omega);rw[<-hz,<-c3] at zi;have:=(zi.fr (f.x,f.ds) Q02).2.2.2.1;have h3:=gn.len _ c1.2.1;simp only at this;omega
     have ce:((f::r).reverse.map λf=>V.ref f.t).length<=58:=by
      rw[Q04,Q1h];have:=congrArg List.length c4;rw[Q04,Q1j,Q04] at this;omega
     refine⟨_,rfl,_,rfl,p1,_,_,_,rfl,rfl,gi.of bv,by rw[bb];exact HW _ _,f.t,_,_,_,rfl,rfl,e_.of bC,rfl,.inl ⟨rfl,_,gi.of ay⟩,_,rfl,f.l,f.vs,_,rfl,rfl,ay,iB (by omega),?_⟩;have a8:upd H4 f.l (.lst (f.vs++[.ref t'])) p1=some (.lst ((f::r).reverse.map λf=>V.ref f.t)):=by rw[gj (Ne.symm bD)];exact bv
     refine⟨_,rfl,.inl ⟨rfl,_,gi.of a8⟩,_,rfl,p1,_,_,rfl,rfl,a8,iB (by omega),?_⟩;have bW:l'≠p1:=λw=>by rw[w,bu] at aq;cases aq
     have nA:∀x,Ad (⟨l',t',[],.nil,[],v2,(val ns k 1 (hZ ns k n i).2).1,aE⟩::f::r) x->x≠p1/\H x=none:=by
      rintro x ⟨g',hg,Y⟩;rcases List.mem_cons.mp hg with z|z
      . rw[z] at Y;rcases Y with y|y|y
        . rw[show x=l' from y];exact⟨bW,bS _ aq⟩
        . exact absurd y (by simp)
        . exact⟨(λw=>by have:=ax x y;rw[w,a6] at this;cases this),gM.fresh (ak.trans (Kp.of s1)) a7 aB (ax x y)⟩
      . have bw:Ad (f::r) x:=⟨g',z,Y⟩;exact⟨aX x (c6 x bw),aD x (c6 x bw)⟩
     have bE:H p1=none:=gM.fresh ak ap aT aA;have a1:H f.l=none:=aD _ (c6 _ ⟨f,Q02,.inl rfl⟩);have bF:ps≠f.l:=λz=>aI (c6 _ ⟨f,Q02,.inl z⟩);have az:=s1 _ _ aH;have aK:=s2.mu aB bA (.inl ⟨_,az⟩) az;have bX:ps≠p1:=gB aH aA;have eg:=tV (k:=k) (n:=n) bn
     have bY:(hZ ns k n (i+1)).1=oM (val ns k 1 (hZ ns k n i).2).1 (cut e (hZ ns k n i).1):=by
      rw[eg];show oM _ (cut (m_ _ ci (hZ ns k n i).1.length).toNat _)=_;rw[<-hL,he,Q1x]
     have a9:(hZ ns k n (i+1)).2=(val ns k 1 (hZ ns k n i).2).2:=by rw[eg];rfl
     have bx:Mu (upd H4 f.l (.lst (f.vs++[.ref t']))) p1:=.inl ⟨_,a8⟩
     have bZ:(f::r).length=e:=by
      have:=congrArg List.length c4;rw[Q04,Q1j,Q04] at this;omega
     have cf:ts.length+1=fs.length:=by
      have:=congrArg List.length ht;rw[Q04,Q09] at this;simpa using this.symm
     refine⟨_,_,_,⟨l',t',[],.nil,[],v2,(val ns k 1 (hZ ns k n i).2).1,aE⟩::f::r,p1,t'::ts.drop (fs.length - e),rfl,⟨λc o nc h=>?_,?_⟩,?_,k1.keep (Tu.wr λys z=>bx.nG ys z) (λx Y o h=>by rw[gj (nA x Y).1];exact h),k2,?_,λc hc=>(nA c hc).2,?_,?_,?_,λz=>(nA p1 z).1 rfl,aJ,?_,?_,?_,?_⟩
     . rw[gj (gB h bE),gj (gB h a1)];exact ar _ _ (s2 _ _ nc (s1 _ _ (ak c o nc h)))
     . exact gJ.wr (gJ.wr (bp.same ar) (.inl ⟨_,ay⟩)) bx
     . rw[gj (Ne.symm aJ),gj (Ne.symm (aS _ a1)),a9];exact ar _ _ h2
     . rw[bY];show(_,Ds.nil)::ml (f::r)=_;rw[c3,hz];rfl
     . show t'::(f::r).map Fr.t=_;rw[c5,ht,List.drop_append_of_le_length (by omega)];rfl
     . rw[Q0h,bZ];omega
     . rw[gu,Q3l (a:=(⟨l',t',[],.nil,[],v2,(val ns k 1 (hZ ns k n i).2).1,aE⟩:Fr)),Q0m];rfl
     . rw[gj bX,gj bF];exact ar _ _ aK
     . rintro⟨g',hg,Y⟩;rcases List.mem_cons.mp hg with z|z
       . rw[z] at Y;rcases Y with y|y|y
         . rw[show ps=l' from y,aq] at aK;cases aK
         . exact absurd y (by simp)
         . rw[ax ps y] at az;cases az
       . exact aI (c6 ps ⟨g',z,Y⟩)
     . rw[a9];omega
     . rw[a9,Nat.add_mul (i+1) 1,Nat.one_mul];omega
   . refine⟨_,rfl,_,_,rfl,rfl,_,rfl,?_⟩;refine iL (λc=>?_) (λc=>?_)
     . have c':0<lV ns k n:=of_decide_eq_true c;refine⟨_,rfl,U,_,rfl,.inl (gi.of al),_,rfl,_,rfl,U,_,rfl,.inl (gi.of al),_,rfl,_,_,rfl,_,_,rfl,rfl,?_,_,_,rfl,rfl,?_⟩
       . rw[aV];show(0:Int)<if _ then _ else _;split <;> omega
       . refine hB _ _ ⟨rfl,?_⟩;rw[aV,<-he];unfold m_;rw[if_pos c'];rfl
     . have c':¬0<lV ns k n:=λz=>c (decide_eq_true z);refine hB _ _ ⟨rfl,?_⟩;rw[<-he];unfold m_;rw[if_neg c'];rfl
 . intro σ H' zq;obtain⟨x7,x8,x9,fs,U,ts,rfl,⟨ak,aT⟩,ap,aU,hA,hz,aD,ht,bK,al,bB,ba,aH,aI,bm,bL⟩:=zq;rw[aW] at ap hz
   have b1:hZ ns k n (ns.take 40).length=hZ ns k n 40:=by
    unfold hZ;rw[show ns.take (ns.take 40).length=ns.take 40 from List.take_eq_take_iff.mpr (by rw[Q0p];omega)]
   rw[b1] at ap hz;obtain⟨fp,hO,b3⟩:=aU.fin hA ht;rw[hz] at hO;exact⟨_,rfl,q _ H' fp ak aT ap hO λc hc=>aD c (b3 c hc)⟩
end
end Pb
namespace Pb
open L2 PyProof.Rows
theorem FN {K:W.Frag}{H:Hp}{n:Nat}{a b:Addr}{xs ys:List V}(J:H a=some (.tup xs))(L:H b=some (.tup ys))(hl:xs.length=ys.length)(U:∀(j:Nat) (x y:V),xs[j]? =some x->ys[j]? =some y->jq K H n x y true):jq K H (n+1) (.ref a) (.ref b) true:=by
 by_cases e:a=b
 . subst e;exact .ref a
 . have:=jq.tup (e:=λ_=>true) e (e_.of (K:=K) J) (e_.of (K:=K) L) U
   have Y:((List.range (min xs.length ys.length)).all (λ_=>true) && xs.length == ys.length)=true:=by
    rw[hl];simp
   rw[Y] at this;exact this
theorem wM {K:W.Frag}{H:Hp}{n:Nat}(x:Str):jq K H n (.str x) (.str x) true:=by
 have:=jq.str (K:=K) (H:=H) (n:=n) x x;rw[decide_eq_true rfl] at this;exact this
theorem all2 {K:W.Frag}{H:Hp}{n:Nat}{x y U Y:V}(h1:jq K H n x U true)(h2:jq K H n y Y true):∀(j:Nat) (a b:V),[x,y][j]? =some a->[U,Y][j]? =some b->jq K H n a b true
 |0,_,_,J,L=>by cases J;cases L;exact h1
 |1,_,_,J,L=>by cases J;cases L;exact h2
 |_+2,_,_,J,_=>by cases J
noncomputable def sn (ns:List Int) (k:Kd) (g:Bool) (n:Int):D × Int:=if g=true then(fin (hZ ns k n 40).1,(hZ ns k n 40).2) else val ns (.tree k) 3 n
theorem FO (ns:List Int)(k:Kd)(n:Int):∀i,i<=ns.length->n<=(hZ ns k n i).2/\(hZ ns k n i).2<=n+(((i+1) * k.cB:Nat):Int)+1
 |0,_=>by
  have:=lI ns k 1 n (by decide);show n<=(val ns k 1 n).2+1/\(val ns k 1 n).2+1<=_;omega
 |i+1,h=>by
  have J:=FO ns k n i (by omega);have:=lI ns k 1 (hZ ns k n i).2 (by decide);rw[tV (Q05 (show i<ns.length by omega))];show n<=(val ns k 1 (hZ ns k n i).2).2/\(val ns k 1 (hZ ns k n i).2).2<=_;rw[Nat.add_mul (i+1) 1,Nat.one_mul];omega
theorem FP (ns:List Int)(k:Kd)(g:Bool)(n:Int){B:Nat}(h1:41 * k.cB+1<=B)(h2:(Kd.tree k).cB<=B):n<=(sn ns k g n).2/\(sn ns k g n).2<=n+B:=by
 unfold sn;split
 . have e:hZ ns k n 40=hZ ns k n (min 40 ns.length):=by
    unfold hZ;rw[show ns.take 40=ns.take (min 40 ns.length) from List.take_eq_take_iff.mpr (by omega)]
   rw[e];have:=FO ns k n (min 40 ns.length) (by omega);have J:(min 40 ns.length+1) * k.cB<=41 * k.cB:=Q12 _ (by omega);show n<=(hZ ns k n (min 40 ns.length)).2/\(hZ ns k n (min 40 ns.length)).2<=_;omega
 . have:=lI ns (.tree k) 3 n (by decide);omega
theorem FQ {fs:Fs}{r:Nat}{t:D}(h:gU (.gA fs) t)(J:t.dep<=r+1)(L:t.Sm):∃m,t=.dct m/\iX fs r m:=by
 unfold gU at h;obtain⟨m,rfl,U⟩:=h;simp only[D.dep] at J;exact⟨m,rfl,U,by omega,L⟩
theorem FR {fs:Fs}(ns:List Int)(n:Int)(L:(Kd.gA fs).W):g_ (iX fs (fs.dB+1)) (val ns (.tree (.gA fs)) 3 n).1/\(val ns (.tree (.gA fs)) 3 n).1.Sm/\(val ns (.tree (.gA fs)) 3 n).1.dep<=fs.dB+11:=by
 have U:=pC ns (.tree (.gA fs)) 3 n;simp only[Kd.dB] at U;refine⟨?_,pR ns (.tree (.gA fs)) (by unfold Kd.W;exact L) 3 n (by decide),by omega⟩;unfold val;refine vw (λJ n h=>FQ (qC ns (.gA fs) L J n h) ?_ (pR ns (.gA fs) L J n h)) 3 3 n (by decide) (by decide);have:=pC ns (.gA fs) J n;simp only[Kd.dB] at this;omega
theorem FT {fs:Fs}(ns:List Int)(g:Bool)(n:Int)(F:Nat)(J:(Kd.gA fs).W)(hF:fs.dB<=F)(L:g=true->F<=1)(U:F<=12):g_ (iX fs (fs.dB+1)) (sn ns (.gA fs) g n).1/\(sn ns (.gA fs) g n).1.Sm/\(sn ns (.gA fs) g n).1.dep+2 * F<=87:=by
 unfold sn;by_cases h:g=true
 . rw[if_pos h];have h1:=L h;obtain⟨a,b,c,_⟩:=M8 (k:=.gA fs) (by simp only[Kd.dB];omega) J ns n;exact⟨a.tree λt ht=>FQ ht.1 (by have:=ht.2.1;omega) ht.2.2,b,by show(fin _).dep+_<=_;omega⟩
 . rw[if_neg h];obtain⟨a,b,c⟩:=FR ns n J;exact⟨a,b,by omega⟩
theorem tW:∀{l m:List Str},l.Sublist m->m.Nodup->(m.filter λx=>decide (x∈l))=l
 |_,_,.slnil,_=>rfl
 |l,_,.cons (l₂:=m) a h,J=>by
  obtain⟨L,U⟩:=List.nodup_cons.mp J;rw[Q1g,if_neg (by rw[decide_eq_true_eq];exact λz=>L (h.subset z))];exact tW h U
 |_,_,.cons₂ (l₁:=l) (l₂:=m) a h,J=>by
  obtain⟨L,U⟩:=List.nodup_cons.mp J;rw[Q1g,if_pos (decide_eq_true Q02)];refine congrArg _ (Eq.trans ?_ (tW h U));refine List.filter_congr λx Y=>?_;by_cases e:x∈l
  . rw[decide_eq_true e,decide_eq_true (Q06 _ e)]
  . rw[decide_eq_false e,decide_eq_false λz=>(List.mem_cons.mp z).elim (λz=>L (by rw[<-z];exact Y)) e]
theorem pT {fs:Fs}{ss:List Str}{x:Str}{k:Kd}(h:(fs.gR ss).get x=some k):fs.get x=some k/\x∈ss:=by
 rw[Fs.pT] at h;by_cases c:x∈ss
 . rw[if_pos c] at h;exact⟨h,c⟩
 . rw[if_neg c] at h;cases h
theorem wN (ss:List Str):∀fs:Fs,(fs.gR ss).dB<=fs.dB/\(fs.gR ss).dep<=fs.dep
 | .nil=>by unfold Fs.gR;exact⟨Q00 _,Q00 _⟩
 | .cons y q r=>by
   have J:=wN ss r;unfold Fs.gR;split
   . simp only[Fs.dB,Fs.dep];omega
   . simp only[Fs.dB,Fs.dep];omega
theorem FU {fs:Fs}{ss l:List Str}(U:fs.names.Nodup)(aa:fs.names.length<=12)(J:ss.Sublist fs.names)(hl:l.Perm ss):pY fs (fs.gR ss) l:=by
 have Y:(fs.gR ss).names=ss:=by rw[Fs.k7];exact tW J U
 have:=J.length_le;exact⟨hl.nodup_iff.mpr (J.nodup U),by rw[Y,hl.length_eq],by rw[hl.length_eq];omega,λx L=>J.subset (hl.mem_iff.mp L),λx L=>by rw[Y];exact hl.mem_iff.mp L,λx k hk=>⟨hl.mem_iff.mpr (pT hk).2,(pT hk).1⟩⟩
theorem Na {fs:Fs}{ss:List Str}(Y:fs.names.Nodup){m:Ds}(h:iX (fs.gR ss) ((fs.gR ss).dB+1) m):kH fs (fs.gR ss) (fs.dB+1) m:=by
 have L:=h.fit.names;have np:(fs.gR ss).names.Nodup:=by rw[Fs.k7];exact Y.filter _
 refine⟨by rw[L];exact np,λx d J=>?_,h.fit.u,λx J=>by rw[<-L];exact J,by have:=h.dep;have:=(wN ss fs).1;omega,h.sm⟩;have U:=Ds.pV J;rw[L] at U;obtain⟨k,hk⟩:=Fs.m8 U;obtain⟨d',e,hf⟩:=h.fit.get hk;rw[J] at e
 cases e;exact⟨k,(pT hk).1,hf⟩
theorem Nb:∀{k:Kd},k.W->k.dep<=1->k.dB<=1
 | .num,_,_=>Q00 1
 | .ix,_,_=>Q00 1
 | .gA .nil,_,_=>Q00 1
 | .gA (.cons _ k r),_,h=>by simp only[Kd.dep,Fs.dep] at h;cases k <;> simp[Kd.dep] at h <;> omega
 | .rows _ _ .nil,w,_=>by
   unfold Kd.W at w;obtain⟨k,hk,_⟩:=w.2.2.2.1
   cases hk
 | .rows _ _ (.cons _ k r),_,h=>by simp only[Kd.dep,Fs.dep] at h;cases k <;> simp[Kd.dep] at h <;> omega
 | .tree k,_,h=>by simp only[Kd.dep] at h;cases k <;> simp[Kd.dep] at h <;> omega
 | .iP .nil,w,_=>by
   unfold Kd.W at w;exact absurd w.2.2.1 (by decide)
 | .iP (.cons _ k r),_,h=>by simp only[Kd.dep,Fs.dep] at h;cases k <;> simp[Kd.dep] at h <;> omega
theorem FV:∀{fs:Fs},fs.W->fs.dep<=1->fs.dB<=1
 | .nil,_,_=>by simp only[Fs.dB];omega
 | .cons _ k r,w,h=>by
   unfold Fs.W at w;simp only[Fs.dep] at h;have:=Nb w.1 (by omega);have:=FV w.2 (by omega);simp only[Fs.dB];omega
def FW (K:W.Frag):Sp:=λvs H Q _=>∃a b l ns n,∃nm:List Str,vs=[.ref a,.ref b,.ref l]/\G0 K H a b ns n/\n<=1000000000000/\H l=some (.lst (nm.map V.str))/\l≠b/\nm.length<=12/\
 ∀p (ss:List Str) H',SB b H H'->H' b=some (.lst [.int (n+1)])->H' p=some (.lst (ss.map V.str))->ss.Sublist nm->p≠b->Q (.ref p) H'
def FX (K:W.Frag) (Pt:Addr):Sp:=λvs H Q _=>∃a b ns n J k g,vs=[.ref a,.ref b,J,.bl g]/\G0 K H a b ns n/\gJ Pt jX jY H/\KA H J k/\k.W/\k.dep<=3/\(g=true->k.dB<=2/\k.dep<=2)/\n+100 * (k.cB+1)<=1000000000000/\n+(Kd.tree k).cB<=1000000000000/\
 ∀v H' fp,gM b Pt H H'->gJ Pt jX jY H'->H' b=some (.lst [.int (sn ns k g n).2])->Own H' v (sn ns k g n).1 fp->(∀c∈fp,H c=none)->Q v H'
section
variable {P:Program}{w:World}{K:W.Frag}{mg:Str->Option Value}{base:Heap}
variable {Pt:Addr}
theorem Nc:gP Xk XY (gC (top 47)):=gT
theorem Nd (T:Tb mg)(J:Dn K mg "_law_some" sM (top 47) L U)(Y:Dn K mg "_law_next" g8 (top 35) aa ab)(ac:d_ P w K mg base f_ (1) aa ab g8 (nL K)):d_ P w K mg base f_ (2) L U sM (FW K):=by
 refine J.F.ok Nc λvs H Q E h=>?_;obtain⟨a,b,l,ns,n,nm,rfl,g,hn,hl,ai,an,q⟩:=h;refine⟨rfl,λao A outer s nd hr hu=>?_⟩
 refine⟨_,(gh (DE 3 nd (gz ac hr Y (a_ (pv 0) (a_ (pv 1) b_))))
  (gh (gF (gI gX (gy ia (pv 3) c_) c_ (gE _)) (gm (gv (nt B9 (by rfl) T.nI boot_list (a_ (pv 2) b_)))) gH)
  (gm (gv (kP (g:=(qi K 2 (mE (je 0) (mE (je 1) qh)))) (tt:=(mJ (iD og (iD _ (iD _ (iD _ (ik 5) (tC (.int 7))) (iD _ (iD _ (iD _ (ik 0) (ik 0)) (tC (.int 3))) (tC (.int 1)))) (tC (.int 2))) (tC (.int 1))))) (te:=(ik 1)) (own:=["_law_k","_law_name"]) rfl (kB (N:=Xk) (sc:=gC (top 47))) (o8 rfl T.pJ (a_ (pv 2) b_)) (λ_ _ _ _ _=>(jU rfl (iH (g5 (i:=0) (show(Xe:List Str).Nodup by decide +kernel) rfl (Or.inl rfl) (.inr rfl)) (iH (g5 (i:=1) (show(Xe:List Str).Nodup by decide +kernel) rfl (Or.inl rfl) (.inr rfl)) jT)))) (λ_ _ _ _ _=>(rS (gI gX (gy ia (gy ju (gy ju (pv 5) c_) (gy j7 (gy lA (gy lA (pv 0) (pv 0)) c_) c_)) c_) c_ (gE _)))) (λ_ _ _ _ _=>(pv 1))))))),?_⟩
 ac_rfl
 refine⟨_,rfl,_,rfl,a,b,ns,n,rfl,g,by omega,λm H1 m0 m1 ag af=>?_⟩;have ae:=ag _ _ ai hl;have nb:∀p,H1 p=none->p≠b:=λp hp z=>by rw[z,af] at hp;cases hp
 refine⟨_,rfl,_,_,rfl,rfl,(by show(0:Int)<7;decide),rfl,_,rfl,iL (λcc=>?_) (λcc=>?_)⟩
 . refine⟨_,rfl,l,_,rfl,.inl (gi.of ae),λp hp=>?_⟩;exact q p nm _ (ag.trans (SB.new hp)) (by rw[gj (Ne.symm (nb p hp))];exact af) gu (List.Sublist.refl _) (nb p hp)
 . refine⟨_,rfl,l,rfl,⟨_,gi.of ae⟩,λi mm zs H'=>mm=(nm.map V.str).length - i/\i<=(nm.map V.str).length/\(∃ss:List Str,zs=ss.map V.str/\ss.Sublist (nm.take i)/\ss.length<=i)/\Same H1 H',⟨_,rfl,Q0d _,⟨[],rfl,List.nil_sublist _,Q00 _⟩,Same.refl _⟩,?_⟩;rintro i mm zs H' ⟨rfl,ap,⟨ss,rfl,ah,aj⟩,s2⟩;have aq:(nm.map V.str).length=nm.length:=Q04 _;by_cases hi:i<(nm.map V.str).length
   . refine .inr ⟨⟨_,_,gi.of (s2 _ _ ae),Q05 hi⟩,by rw[Q04];exact iB (by omega),λx ar y=>?_⟩;obtain⟨tt,yv,ak,rfl,hy,rfl⟩:=y;obtain⟨x,hx,rfl⟩:=wc (hy _ (gi.of (s2 _ _ ae)));have st:Same H' (upd H' tt (.tup [.int i,.str x])):=Same.new ak;refine⟨tt,_,rfl,e_.of gu,rfl,_,_,rfl,_,_,rfl,rfl,rfl,?_⟩;have am:i<=11:=by omega
     have au:((i:Int) * i).natAbs<=121:=by
      rw[Int.natAbs_mul];exact Nat.mul_le_mul (by omega) (by omega)
     have av:(0:Int)<=(i:Int) * i:=Q3a (by omega) (by omega);refine⟨_,rfl,_,_,rfl,rfl,⟨by decide,by decide⟩,_,rfl,_,rfl,_,_,rfl,rfl,?_,_,_,rfl,rfl,?_,_,_,rfl,rfl,_,_,rfl,rfl,⟨by omega,by omega⟩,_,_,rfl,rfl,(by show(0:Int)<2;decide),rfl,_,rfl,iL (λc2=>?_) (λc2=>?_)⟩
     . exact .inl ⟨by omega,by omega⟩
     . exact .inr ⟨by decide,by decide⟩
     . refine⟨_,rfl,(nm.map V.str).length - (i+1),by omega,rfl,hi,⟨ss++[x],by rw[Q0m];rfl,?_,by rw[Q09];exact Q2o aj⟩,s2.trans st⟩;rw[Q0t,hx];exact ah.append (List.Sublist.refl _)
     . refine⟨(nm.map V.str).length - (i+1),by omega,rfl,hi,⟨ss,rfl,?_,by omega⟩,s2.trans st⟩;rw[Q0t];exact ah.trans (List.sublist_append_left _ _)
   . refine .inl ⟨⟨_,gi.of (s2 _ _ ae),Q19 hi⟩,λp hp=>?_⟩;have s3:Same H' (upd H' p (.lst (ss.map V.str))):=Same.new hp;have al:=(s2.trans s3) _ _ af;exact q p ss _ (ag.trans (SB.of (s2.trans s3))) al gu (ah.trans (Q2u _ _)) λz=>by rw[z,s2 _ _ af] at hp;cases hp
theorem Nf:gP XJ XJ (gC (top 52)):=gT
theorem Ng (T:Tb mg)(af:Dn K mg "_law_seen" sN (top 52) ag ah)(J:Dn K mg "_law_grown" sL (top 49) L U)(Y:d_ P w K mg base f_ (126) L U sL (FL K Pt))(aa:Dn K mg "_law_value" js (top 45) ab ac)(ae:d_ P w K mg base f_ (2 * 67+5) ab ac js (nN K Pt 67)):d_ P w K mg base f_ (140) ag ah sN (FX K Pt):=by
 refine af.F.ok Nf λvs H Q E h=>?_;obtain⟨a,b,ns,n,kv,k,gg,rfl,g,hT,hk,hW,hd,hg,h1,h2,q⟩:=h;refine⟨rfl,λal A outer s nd hr hu=>?_⟩
 refine⟨_,(gh (gF (iG (pv 3)) (gm (gv (gz Y hr J (a_ (pv 0) (a_ (pv 1) (a_ (pv 2) (a_ c_ b_))))))) gH)
  (gm (gv (gz ae hr aa (a_ (pv 0) (a_ (pv 1) (a_ (iw (a_ gK (a_ (pv 2) b_))) (a_ c_ b_)))))))),?_⟩
 ac_rfl
 cases gg with
 |true=>
  obtain⟨g1,g2⟩:=hg rfl;refine⟨_,rfl,true,rfl,i5 ?_⟩;exact⟨_,rfl,_,rfl,_,rfl,a,b,ns,n,kv,k,rfl,g,hT,g1,hk,hW,g2,h1,λv H' fp kp ai aj ho hf=>q v H' fp kp ai aj ho hf⟩
 |false=>
  refine⟨_,rfl,false,rfl,gY ?_⟩;refine⟨_,rfl,_,rfl,_,rfl,iq,λt ht=>?_⟩;have s1:Same H (upd H t (.tup [.str "tree",kv])):=Same.new ht;have e1:=gu (H:=H) (a:=t) (o:=.tup [.str "tree",kv]);generalize upd H t (.tup [.str "tree",kv])=H1 at s1 e1;have ak:mu (.tree k) 3<=67:=by simp only[mu,Kd.dep];omega
  refine⟨a,b,ns,n,.ref t,.tree k,3,rfl,g.go (SB.of s1) (s1 _ _ g.at_) (Int.le_refl _),hT.same s1,by unfold KA;exact⟨t,kv,rfl,e1,KA.mono (Tu.of s1) k hk⟩,by unfold Kd.W;exact hW,by decide,ak,by have:=pP (.tree k) 3;omega,λv H' fp kp aj ai ho _ hf=>q v H' fp ((Kp.of s1).trans kp) ai aj ho λc hc=>s1.free (hf c hc)⟩
end
def FY (n N:Nat):Sp:=λvs H Q _=>∃kk kr t xs fs r L J Y U m f2,vs=[.ref kk,L,U]/\H kk=some (.tup [.str "tree",.ref kr])/\j0 H kr t xs fs/\Own H L J Y/\g_ (iX fs r) J/\J.Sm/\J.dep+r+2<=n/\r+1<=N/\Own H U (.dct m) f2/\iX fs r m/\∀H',Same H H'->Q (.bl true) H'
theorem j0.ka {H:Hp}{kr t:Addr}{xs:List V}{fs:Fs}(h:j0 H kr t xs fs):KA H (.ref kr) (.gA fs)/\(Kd.gA fs).W:=by
 unfold KA Kd.W;exact⟨⟨kr,t,xs,rfl,h.at_,h.tu,h.fa⟩,h.nd,h.jZ,h.W⟩
section
variable {P:Program}{w:World}{K:W.Frag}{mg:Str->Option Value}{base:Heap}
variable {kI:Addr}
theorem Nh:gP ["_law_kind_here","_law_tree","_law_value_here","_law_view"] XW (gC (top 53)):=gT
theorem Ni (n N j:Nat)(hj:n+1<=j)(T:Tb mg)(TO:tR K mg kI J aa ab L aB)(al:Dn K mg "_law_top" sO (top 53) am an)(U:Dn K mg "_law_alike" mW (top 46) ag ah)(Y:d_ P w K mg base f_ (n+1) ag ah mW (pS n))(ac:Dm K "behind" "Top.behind" jI (gw 27 0) J ae)(af:d_ P w K mg base f_ (2) J ae jI (wI))(ao:Dm K "see" "Top.see" jP (gw 27 1) aa ap)(aq:d_ P w K mg base f_ (1) aa ap jP (Fo))(ar:Dm K "put" "Top.put" kY (gw 27 2) ab au)(av:d_ P w K mg base f_ (j) ab au kY (Fp N kI))(ai:Dm K "grade" "Top.grade" kX (gw 27 3) L aj)(ak:d_ P w K mg base f_ (1) L aj kX (tK)):d_ P w K mg base f_ (j+2) am an sO (FY n N):=by
 have CT:=TO.ct;have aw:=TO.b;have aG:=TO.s;have aH:=TO.p;have ax:=TO.g;have aA:=TO.pZ;have aK:=TO.m;refine al.F.ok Nh λvs H Q E h=>?_;obtain⟨kk,kr,t,xs,fs,r,u1,d1,f1,u2,m,f2,rfl,ay,hK,aS,aT,aU,aV,bc,aI,hm,q⟩:=h;refine⟨rfl,λbd A outer s nd hr hu=>?_⟩;have aW:=Q1d (Q1y (by decide:1<=64) _) hr.units;obtain⟨x,y,m1,aL,c1,a1,l1,aX,aY,p1,q1,rfl,aJ,aZ,rfl,aC,aO,a2,a3,a4,bb,_,_,_,_⟩:=nR aS aT;rw[lQ] at aV;have aP:=kG.mp aU
 refine⟨_,(gh (gD 3 nd (Ff aA rfl aK))
  (gh (gF (PW.pt (jS (gI (C3 (n:=0) aW) (jH (pv 3) CT aw af (hr.mono (by omega)) ac.b .nil i9 (a_ (pv 0) b_)) (gp (pv 0) c_) (gE _)) (jR (gI mH (uQ (pv 3) CT ax ak (hr.mono (by omega)) ai.b .nil i9) gK (gE _))))) (gm (gv jk)) gH)
  (gh (gF (i7 (iG (gz Y hr U (a_ (gp (pv 0) c_) (a_ (jH (pv 3) CT aG aq (hr.mono (by omega)) ao.b .nil i9 (a_ (pv 0) (a_ (pv 1) b_))) (a_ (gp (pv 1) c_) b_)))))) (gm (gv jk)) gH)
  (gm (gv (gz Y hr U (a_ (pv 0) (a_ (jH (pv 3) CT aH av (hr.mono (by omega)) ar.b .nil i9 (a_ (pv 0) (a_ (pv 1) (a_ (pv 2) b_)))) (a_ (iw (a_ (pv 2) (a_ (gp (pv 1) c_) b_))) b_))))))))),?_⟩
 ac_rfl
 intro v dx hv a5 be;have s1:Same H (upd (upd H dx (.own v)) v (.ins kI dx [])):=λc o e=>by rw[gj (gB e hv),gj (gB e a5)];exact e
 have e1:=gu (H:=upd H dx (.own v)) (a:=v) (o:=.ins kI dx []);generalize upd (upd H dx (.own v)) v (.ins kI dx [])=H1 at s1 e1;have aD:=hK.mono (Tu.of s1);refine⟨_,rfl,v,dx,_,rfl,e1,rfl,_,rfl,.ref v,kk,.ref kr,rfl,s1 _ _ ay,_,rfl,kk,_,_,_,rfl,rfl,e_.of (s1 _ _ ay),rfl,?_⟩;refine⟨kr,kr,_,_,λ_=>true,rfl,rfl,all2 (wM _) (.ref t),.inr ⟨e_.of aD.at_,e_.of aD.at_,_,rfl,gY ?_⟩⟩;refine⟨_,rfl,v,dx,_,rfl,e1,rfl,.ref v,rfl,rfl,_,rfl,mO rfl ?_⟩;obtain⟨kA,kW⟩:=aD.ka
 have o1:Own H1 (.ref a1) (.dct m1) (a1::p1):=by
  unfold Own;exact⟨a1,aX,p1,rfl,s1 _ _ aO,rfl,gx.same s1 a2⟩
 have oL:Own H1 (.ref l1) (.lst aL) (l1::q1):=by
  unfold Own;exact⟨l1,aY,q1,rfl,s1 _ _ a3,rfl,gn.same s1 a4⟩
 refine⟨_,rfl,kk,_,_,_,rfl,rfl,e_.of (s1 _ _ ay),rfl,_,rfl,v,dx,_,rfl,e1,rfl,_,rfl,_,rfl,.ref v,.ref kk,c1,_,_,rfl,s1 _ _ aC,_,rfl,c1,_,_,_,rfl,rfl,e_.of (s1 _ _ aC),rfl,.ref kr,.ref a1,.ref a1,.gA fs,.dct m1,.dct m1,_,_,rfl,kA,kW,o1,o1,AL.of (by unfold gU;exact⟨m1,rfl,aJ.fit⟩),by have:=aJ.dep;simp only[D.dep];omega,aJ.sm,λH2 s2=>⟨true,rfl,gY ?_⟩⟩;have aE:=s1.trans s2;have a6:=aD.mono (Tu.of s2);obtain⟨a7,a8⟩:=a6.ka;refine⟨_,rfl,_,rfl,v,dx,_,rfl,s2 _ _ e1,rfl,_,rfl,_,rfl,_,rfl,v,dx,kk,.ref kr,.gA fs,c1,_,_,u2,.dct m,f2,rfl,s2 _ _ e1,aE _ _ ay,a7,a8,aE _ _ aC,aI.same aE,⟨m,rfl,hm.fit.u⟩,by have:=hm.dep;simp only[D.dep];omega,hm.sm,λp H3 s3 hp=>?_⟩;have aM:=aE.trans s3;refine⟨_,rfl,_,rfl,c1,_,_,_,rfl,rfl,e_.of (aM _ _ aC),rfl,iq,λtt a9=>?_⟩;have s4:Same H3 (upd H3 tt (.tup [u2,.ref l1])):=Same.new a9;have az:=aM.trans s4;have ba:=hK.mono (Tu.of az);have aN:=oL.same (s2.trans (s3.trans s4));have aQ:gU (.tree (.gA fs)) (pairD (.dct m) (.lst aL)):=g_.fit (r:=r) (Tree.mk ⟨m,rfl,hm⟩ aZ);refine⟨.ref kk,.ref p,.ref tt,.tree (.gA fs),_,_,_,_,rfl,by unfold KA;exact⟨kk,.ref kr,rfl,az _ _ ay,ba.ka.1⟩,by unfold Kd.W;exact kW,mi (s4 _ _ hp) (aI.same az) aN,mi gu (aI.same az) aN,AL.of aQ,?_,kG.mpr ⟨hm.sm,aP.2⟩,λH5 s5=>q _ (az.trans s5)⟩;rw[pX];have:=hm.dep;simp only[D.dep];omega
end
theorem ji {A B:TS}{D:Ends}{σ:L2.St}{H:Hp}(k:∀N:L2.St->Hp->Prop,(∀σ H,B D σ H->N σ H)->A { D with nx:=N } σ H):uE A B D σ H:=k (B D) λ_ _ h=>h
def Kt (b:Addr) (H H':Hp):Prop:=∀c o,c≠b->(∀ps,o≠ .iQ ps)->H c=some o->H' c=some o
section
variable {K:W.Frag}{Pt P2 a b:Addr}{ns:List Int}{n n':Int}{H H':Hp}
theorem Kt.sb (s:SB b H H'):Kt b H H':=λc o hc _ e=>s c o hc e
theorem Kt.g6 {J:Pos}{L:Str}(x:gM b Pt H H')(hT:gJ Pt J L H):Kt b H H':=λc o hc U e=>by
 obtain⟨ps,q⟩:=hT.tab;exact x c o (λz=>z.elim hc (jK e q (U ps))) e
theorem Kt.tu {l:List V}(k:Kt b H H')(J:H b=some (.lst l)):Tu H H':=λc xs e=>k c _ (jK e J (by intro z;cases z)) (by intro ps z;cases z) e
theorem Kt.lst {c:Addr}{xs:List V}(k:Kt b H H')(hc:c≠b)(e:H c=some (.lst xs)):H' c=some (.lst xs):=k c _ hc (by intro ps z;cases z) e
theorem Own.kt {l:List V}{v:V}{d:D}{fp:List Addr}(h:Own H v d fp)(k:Kt b H H')(J:H b=some (.lst l))(L:∀c∈fp,c≠b):Own H' v d fp:=Own.keep (k.tu J) d (λc hc o e=>k c o (L c hc) (by
 intro ps z;rcases Own.alive _ h c hc with⟨_,q⟩|⟨_,q⟩ <;> rw[e] at q <;> rw[z] at q <;> cases q) e) h
theorem _root_.L2.gJ.k2 {U J:Pos}{Y L:Str}{l:List V}(h:gJ P2 U Y H)(x:gM b Pt H H')(hb:H b=some (.lst l))(hT:gJ Pt J L H)(ne:P2≠Pt):gJ P2 U Y H':=by
 obtain⟨ps,q⟩:=hT.tab;have k:∀c o,c≠Pt->(∀xs,o≠ .lst xs)->H c=some o->H' c=some o:=λc o hc ho e=>x c o (λz=>z.elim (λz=>by rw[z,hb] at e;cases e;exact ho _ rfl) hc) e;rcases h with e|⟨c,e,f⟩
 . exact .inl (k _ _ ne (by intro xs z;cases z) e)
 . exact .inr ⟨c,k _ _ ne (by intro xs z;cases z) e,k _ _ (jK f q (by intro z;cases z)) (by intro xs z;cases z) f⟩
structure DS (K:W.Frag) (Pt P2 a b:Addr) (ns:List Int) (n:Int) (H:Hp):Prop where
 g:G0 K H a b ns n
 t:gJ Pt jX jY H
 s:gJ P2 jF jG H
theorem DS.same (h:DS K Pt P2 a b ns n H)(s:Same H H'):DS K Pt P2 a b ns n H':=⟨h.g.go (SB.of s) (s _ _ h.g.at_) (Int.le_refl _),h.t.same s,h.s.same s⟩
theorem DS.sb (h:DS K Pt P2 a b ns n H)(s:SB b H H')(J:H' b=some (.lst [.int n']))(L:n<=n'):DS K Pt P2 a b ns n' H':=⟨h.g.go s J L,h.t.sb h.g.at_ s,h.s.sb h.g.at_ s⟩
theorem DS.g6 (h:DS K Pt P2 a b ns n H)(ne:P2≠Pt)(x:gM b Pt H H')(hT:gJ Pt jX jY H')(J:H' b=some (.lst [.int n']))(L:n<=n'):DS K Pt P2 a b ns n' H':=⟨gM.g0 x h.g h.t J L,hT,h.s.k2 x h.g.at_ h.t ne⟩
theorem DS.oth {b2:Addr}(h:DS K Pt P2 a b ns n H)(J:H b2=some (.lst [.int n']))(L:0<=n'):DS K Pt P2 a b2 ns n' H:=⟨⟨h.g.lN,h.g.len,J,L⟩,h.t,h.s⟩
end
def OB (b:Addr) (H:Hp) (u:V) (d:D):Prop:=∃f,Own H u d f/\∀c∈f,c≠b
section
variable {b b2:Addr}{H H':Hp}{u:V}{d:D}{l:List V}
theorem OB.kt (h:OB b H u d)(k:Kt b H H')(J:H b=some (.lst l)):OB b H' u d:=let⟨f,h1,h2⟩:=h;⟨f,h1.kt k J h2,h2⟩
theorem OB.same (h:OB b H u d)(s:Same H H'):OB b H' u d:=let⟨f,h1,h2⟩:=h;⟨f,h1.same s,h2⟩
theorem OB.new {f:List Addr}(h:Own H' u d f)(J:∀c∈f,H c=none)(L:H b=some (.lst l)):OB b H' u d:=⟨f,h,λc hc z=>by have:=J c hc;rw[z,L] at this;cases this⟩
theorem OB.oth (h:OB b H u d)(s:Same H H')(J:H b2=none):OB b2 H' u d:=let⟨f,h1,_⟩:=h;⟨f,h1.same s,λc hc z=>by
 rcases Own.alive _ h1 c hc with⟨_,q⟩|⟨_,q⟩ <;> rw[z,J] at q <;> cases q⟩
theorem OB.o (h:OB b H u d):∃f,Own H u d f:=let⟨f,h1,_⟩:=h;⟨f,h1⟩
end
structure LS (H:Hp) (C CB P2 v dx vi gW nl kk kr t:Addr) (xs:List V) (fs:Fs) (ss:List Str) (kp tp ln ls lw:Addr) (s0 s1 w0 w1 us ut:V) (D0 D1 De:D):Prop where
 bo:Bo H C CB P2 v dx vi gW nl kk kr t xs fs ss.reverse
 kp:H kp=some (.tup [.str "record",.ref tp])
 tp:H tp=some (.tup (i4 ss xs fs.names))
 ln:H ln=some (.lst (ss.map V.str))
 ls:H ls=some (.lst [s0,s1])
 lw:H lw=some (.lst [w0,w1])
 s0:∃f,Own H s0 D0 f
 s1:∃f,Own H s1 D1 f
 w0:∃f,Own H w0 D0 f
 w1:∃f,Own H w1 D1 f
 us:∃f,Own H us De f
 ut:∃f,Own H ut De f
section
variable {H H':Hp}{C CB P2 v dx vi gW nl kk kr t:Addr}{xs:List V}{fs:Fs}{ss:List Str}{kp tp ln ls lw:Addr}{s0 s1 w0 w1 us ut:V}{D0 D1 De:D}
theorem LS.kn (h:LS H C CB P2 v dx vi gW nl kk kr t xs fs ss kp tp ln ls lw s0 s1 w0 w1 us ut D0 D1 De)(k:Kn H H')(hT:gJ P2 jF jG H'):LS H' C CB P2 v dx vi gW nl kk kr t xs fs ss kp tp ln ls lw s0 s1 w0 w1 us ut D0 D1 De:=
 ⟨h.bo.kn k hT,k.tu _ _ h.kp,k.tu _ _ h.tp,k.lst h.ln,k.lst h.ls,k.lst h.lw,h.s0.imp λ_ o=>o.kn k,h.s1.imp λ_ o=>o.kn k,h.w0.imp λ_ o=>o.kn k,h.w1.imp λ_ o=>o.kn k,h.us.imp λ_ o=>o.kn k,h.ut.imp λ_ o=>o.kn k⟩
theorem LS.same (h:LS H C CB P2 v dx vi gW nl kk kr t xs fs ss kp tp ln ls lw s0 s1 w0 w1 us ut D0 D1 De)(s:Same H H'):LS H' C CB P2 v dx vi gW nl kk kr t xs fs ss kp tp ln ls lw s0 s1 w0 w1 us ut D0 D1 De:=h.kn (Kn.of s) (h.bo.lam.same s)
theorem LS.g6 (h:LS H C CB P2 v dx vi gW nl kk kr t xs fs ss kp tp ln ls lw s0 s1 w0 w1 us ut D0 D1 De)(k:jd P2 H H')(hT:gJ P2 jF jG H'):LS H' C CB P2 v dx vi gW nl kk kr t xs fs ss kp tp ln ls lw s0 s1 w0 w1 us ut D0 D1 De:=h.kn (Kn.lh k h.bo.lam) hT
theorem LS.part (h:LS H C CB P2 v dx vi gW nl kk kr t xs fs ss kp tp ln ls lw s0 s1 w0 w1 us ut D0 D1 De):j0 H kp tp (i4 ss xs fs.names) (fs.gR ss):=h.bo.r.few ss h.kp h.tp
end
end Pb
namespace PySem
namespace F
theorem Nj:typeLookup (.type "list_reverseiterator") "__len__"=pure none:=by rw[typeLookup_type,builtinLookup_eq_fast];kernel_rfl
theorem Nk:Slot "list_reverseiterator" "__length_hint__" "list_reverseiterator.__length_hint__":=
 .of (owner:="list_reverseiterator") (n:="__length_hint__") (by rw[typeLookup_type,builtinLookup_eq_fast];kernel_rfl) (by decide +kernel) (by decide +kernel) (by decide +kernel)
   (by first|exact .inl (by decide +kernel)|exact .inr (by decide +kernel)) (by rw[isSubtype_type];kernel_rfl)
end F
open PyProof.Rows
section
variable {prog:Program}{w:World}{A:Around}{E:Value->Shared->Prop}{s:Shared}
theorem Nl {I l:Addr}{J:Array Value}{Q:Value->Shared->Prop}(hh:A.handled=none)(am:l≠I)(hn:J.size<=sizeLine)
 (ai:s.heap.IsRevIter I l ((J.size:Int) - 1)) (ht:s.heap.IsList l J) (an:∀b∈[I,l],b<s.heap.objs.size)
 (hQ:∀s' Y c',Moved [s.heap.objs.size,I] (λa b=>b=a) { s with heap:=s.heap.push { cls:=.type "list",data:=.seq #[] } } s'->s'.heap.get? s.heap.objs.size=some { cls:=.type "list",data:=.seq Y c' }->ItemsOf (λi v=>J[J.size - 1 - i]? =some v) Y J.size->Q (.ref s.heap.objs.size) s'):
 wpAny (model prog w) A (call (.type "list") [.ref I]) Q E s:=by
 refine callType_codes (Q₁:=λobj ac=>obj=.ref s.heap.objs.size/\ac={ s with heap:=s.heap.push { cls:=.type "list",data:=.seq #[] } }) F.called_list (F.typeCall_list_1 _) F.entry_list_init (code_list_new _ ⟨rfl,rfl⟩) λobj ac h₁=>?_;obtain⟨rfl,rfl⟩:=h₁;have W:=(Walks.listRev (prog:=prog) (w:=w) (A:=A.in1.in1) hh I l am J).toS;have ae:s.heap.objs.size ∉ [I,l]:=λhm=>Q0o _ (an _ hm);have aj:s.heap.objs.size≠I:=λe=>ae (e ▸ Q02);have U:(s.heap.push { cls:=.type "list",data:=.seq #[] }).get? s.heap.objs.size=some { cls:=.type "list",data:=.seq #[] }:=Q0i _ rfl;refine⟨⟨_,U,rfl⟩,F.args_list_init_2 _ _,?_⟩;have ab:(s.heap.push { cls:=.type "list",data:=.seq #[] }).IsRevIter I l ((J.size:Int) - 1):=ai.at λo e=>Q07 _ e;unfold Builtin.«list.__init__»;dsimp only;rw[if_neg (by decide),if_neg (show ¬[Value.ref I].length > 1 from by show ¬1 > 1;decide)];refine Q01 (wpAny_listItems U rfl ?_);refine Q01 (PyProof.Rows.listUpdate_at U rfl ?_ (by show 0<=sizeLine;decide) (by show 0<=sizeLine+1;decide));refine Q01 (wpAny_letGo ?_);have ag:=Q1k (Obj.mapSeq (λ_=>(#[]:Array Value))) U rfl
 have oth:∀b o,b≠s.heap.objs.size->(s.heap.push { cls:=.type "list",data:=.seq #[] }).get? b=some o->
  ((s.heap.push { cls:=.type "list",data:=.seq #[] }).update s.heap.objs.size (Obj.mapSeq (λ_=>(#[]:Array Value)))).get? b=some o:=
  λb o hb e=>(Q14 _ _ (Ne.symm hb)).trans e
 have L:((s.heap.push { cls:=.type "list",data:=.seq #[] }).update s.heap.objs.size (Obj.mapSeq (λ_=>(#[]:Array Value)))).IsRevIter I l ((J.size:Int) - 1):=ab.at λo e=>oth I o (Ne.symm aj) e;have h1:Builtin.List.listSameRef (.ref s.heap.objs.size) (.ref I)=false:=by simp[Builtin.List.listSameRef,aj]
 have h2:(Value.type "list_reverseiterator" == Value.type "list")=false:=by decide
 have h3:(Value.type "list_reverseiterator" == Value.type "tuple")=false:=by decide
 have ao:0<=J.size/\s.heap.IsRevIter I l ((J.size:Int) - 1 - ((0:Nat):Int))/\s.heap.IsList l J:=⟨Q0d _,by
  have e:(J.size:Int) - 1 - ((0:Nat):Int)=(J.size:Int) - 1:=by omega
  rw[e];exact ai,ht⟩
 unfold Builtin.List.listExtendWith;refine Q01 (wpAny_typeOf L.typeIs ?_);simp only[h1,h2,h3,Bool.or_false,Bool.false_eq_true,if_false];refine Q01 (wpAny_pyIter_revIter L ?_);refine Q01 (wpAny_holding ?_);unfold Builtin.List.listLengthHint;refine Q01 (wpAny_specialOf L.typeIs F.Nj ?_);show wpAny _ _ (specialOf (Value.ref I) (Str.ofString "__length_hint__") >>= _) _ _ _;refine Q01 (wpAny_specialOf L.typeIs F.Nk.lookup ?_)
 (generalize af:("list_reverseiterator.__length_hint__":String)=ak;(fail_if_success (clear af ak));wp_delta;rw[show splitId ak=some ("list_reverseiterator","__length_hint__") from by subst af;decide +kernel];subst af)
 refine Q01 (wpAny_isInstance (b:=true) L.typeIs (by rw[isSubtype_type];kernel_rfl) ?_);rw[if_neg (by decide)];dsimp only;rw[if_pos (by decide +kernel),if_neg (by decide)];refine Q0c ?_;rw[if_neg (by decide)];refine Q0c ⟨plainId_quiet F.plain_extend_loop _,codeAny_extend_loopS W hn _ ae _ J.size 0 _ _ _ rfl (Q0d _) (W.frame 0 s _ s.toks ao (Q00 _) λb hb o e=>oth b o (λh=>ae (h ▸ hb)) (Q07 _ e)) ag (ItemsOf.nil _) λs' Y c' hm ap al=>?_⟩;exact⟨rfl,hQ s' Y c' ⟨λb o hb e=>hm.heap b o hb (oth b o (λh=>hb (by rw[h];exact Q02)) e),hm.gens,hm.drawn,hm.os,hm.toks⟩ ap al⟩
end
end PySem
namespace L2
open PyProof.Rows
theorem FZ:∀{xs:List V}{us:List Value},xs.length=us.length->(∀(i:Nat) (x:V) (u:Value),xs[i]? =some x->us[i]? =some u->RelV x u)->Vals xs us
 |[],[],_,_=>.nil
 |x::xs,u::us,hl,h=>.cons (h 0 x u rfl rfl) (FZ (by simpa using hl) λi y v J L=>h (i+1) y v (by simpa using J) (by simpa using L))
 |[],_::_,hl,_=>by cases hl
 |_::_,[],hl,_=>by cases hl
def Nn (K:W.Frag) (te:TE):TE:=λσ H Q=>te σ H λv H1=>∃a xs,v=.ref a/\gi K H1 a xs/\∀l,H1 l=none->Q (.ref l) (upd H1 l (.lst xs.reverse))
section
variable {X:Cx}{e:Expr}{te:TE}{p p2 pos pos2:Pos}
theorem Np (hc:X.calm=true)(hg:Gl X "list")(hm:X.mg "list"=none)(hb:bootBuiltins "list"=some (.type "list"))(ak:Gl X "reversed")(al:X.mg "reversed"=none)(L:bootBuiltins "reversed"=some (.type "reversed"))(he:PE X e te)
 (hs:starEach [e] X.env=(false,eval e X.env)::starEach [] X.env:=by rfl)
 (af:starEach [.Call (.Name "reversed" p2) [e] [] pos2] X.env=(false,eval (.Call (.Name "reversed" p2) [e] [] pos2) X.env)::starEach [] X.env:=by rfl):
 PE X (.Call (.Name "list" p) [.Call (.Name "reversed" p2) [e] [] pos2] [] pos) (Nn X.K te):=by
 intro pins s σ H Q I h;refine wpAny_Call_Name_kw (lz I hg hm hb ?_ (by decide) (by decide));refine PyProof.Rows.callWith_type1 ?_ af rfl;rw[af];show wpAny _ _ (spliced ((false,eval (.Call (.Name "reversed" p2) [e] [] pos2) X.env)::[])) _ _ s;refine Calls.spliced_cons ?_;refine wpAny_Call_Name_kw (lz I ak al L ?_ (by decide) (by decide));refine PyProof.Rows.callWith_type1 ?_ hs rfl;rw[hs];show wpAny _ _ (spliced ((false,eval e X.env)::[])) _ _ s;refine Calls.spliced_cons (gG (he pins s σ H _ I h) λu s1 zq=>?_);obtain⟨x,H1,I1,r1,q1⟩:=zq;refine Calls.spliced_nil ?_;obtain⟨a,xs,rfl,hq,q⟩:=q1
 cases r1;obtain⟨J,r',pl,hz⟩:=I1.list hq;have Y:=r'.length;have hsz:J.toArray.size=J.length:=Q08;have ag:=pl.isList;refine call_reversed_list ag ?_;refine Calls.spliced_nil ?_;have ho:=id ag;obtain⟨o,ac,hr⟩:=ho;have am:a≠s1.heap.objs.size:=λz=>Q0o _ (z ▸ Q03 ac);have an:(s1.heap.push (revObj a ((J.toArray.size:Int) - 1))).IsList a J.toArray:=⟨o,Q07 _ ac,hr⟩;have ao:(s1.heap.push (revObj a ((J.toArray.size:Int) - 1))).IsRevIter s1.heap.objs.size a ((J.toArray.size:Int) - 1):=⟨_,Q0i _ rfl,rfl,rfl⟩;refine Nl (s:={ s1 with heap:=s1.heap.push (revObj a ((J.toArray.size:Int) - 1)) }) (I1.ok.hd hc) am (by rw[hsz];omega) ao an ?_ ?_
 . intro b ap;rcases List.mem_cons.mp ap with z|z
   . rw[z];exact Q03 (Q0i _ rfl)
   . rw[List.mem_singleton.mp z];exact Q03 (Q07 _ ac)
 . intro s' ae c' U aq aa
   have ab:(s1.heap.push (revObj a ((J.toArray.size:Int) - 1))).objs.size=s1.heap.objs.size+1:=by
    first|rfl|simp[Heap.push]
   have kp:∀b u,s1.heap.get? b=some u->s'.heap.get? b=some u:=λb u ah=>U.heap b u (λz=>by
    have L:=Q03 ah;rcases List.mem_cons.mp z with z|z
    . exact absurd L (Nat.not_lt.mpr (by rw[z];exact Q0g (Q11 _) (Q10 ab.symm)))
    . exact absurd L (Nat.not_lt.mpr (by rw[List.mem_singleton.mp z];exact Q00 _))) (Q07 _ (Q07 _ ah))
   have hv:Vals xs.reverse ae.toList:=by
    refine FZ ?_ λi x u hx hu=>?_
    . rw[Q1h,Y,<-hsz,<-aa.1];exact Array.length_toList.symm
    . have hi:i<xs.length:=by
       have:=(List.getElem?_eq_some_iff.mp hx).1;rw[Q1h] at this;exact this
      have ar:ae[i]? =some u:=by rw[<-hu];simp
      have h1:=aa.2 i u ar;rw[List.getElem?_reverse hi] at hx;obtain⟨u',au,ru⟩:=r'.get hx
      have e1:J.toArray[J.toArray.size - 1 - i]? =some u':=by
       rw[hsz,<-Y];simpa using au
      rw[e1] at h1;injection h1 with h1
      subst h1;exact ru
   obtain⟨h',g',d',ai,av⟩:=s';have eg:g'=s1.gens:=U.gens;have ed:d'=s1.drawn:=U.drawn;have eo:av=s1.os:=U.os;subst eg ed eo;have aj:s1.heap.objs.size<=(s1.heap.push (revObj a ((J.toArray.size:Int) - 1))).objs.size:=by rw[ab];omega
   have I2:Inv X pins σ (upd H1 (s1.heap.push (revObj a ((J.toArray.size:Int) - 1))).objs.size (.lst xs.reverse)) { s1 with heap:=h',toks:=ai }:=
    I1.laid (t':=ai) kp aj (show iO X.prog X.w _ h' _ (.lst xs.reverse) from⟨by rw[Q1h];exact hz,ae.toList,c',hv,by
      have:=aq;simpa using this⟩)
   exact⟨.ref _,_,I2,rfl,q _ (I1.hok.fresh aj)⟩
end
end L2
namespace Pb
open L2 PyProof.Rows
theorem wO (ss:List Str):∀fs:Fs,fs.gR ss.reverse=fs.gR ss
 | .nil=>rfl
 | .cons x k r=>by
   show(if x∈ss.reverse then Fs.cons x k (r.gR ss.reverse) else r.gR ss.reverse)=if x∈ss then Fs.cons x k (r.gR ss) else r.gR ss
   rw[wO ss r];by_cases e:x∈ss
   . rw[if_pos e,if_pos (List.mem_reverse.mpr e)]
   . rw[if_neg e,if_neg λz=>e (List.mem_reverse.mp z)]
theorem Nq (ss:List Str)(xs:List V)(l:List Str):i4 ss.reverse xs l=i4 ss xs l:=by
 unfold i4;simp only[List.mem_reverse]
theorem ki.qS {K:W.Frag}{H H':Hp}{a:Addr}{ns:List Int}(h:ki K H a ns)(s:Same H H'):ki K H' a ns:=by
 rcases h with⟨o,h⟩|h
 . exact .inl ⟨o,s _ _ h⟩
 . exact .inr h
theorem Nr {fs:Fs}{i:Nat}{nm:Str}(h:fs.names[i]? =some nm):(fs.names.take (i+1)).map V.str=(fs.names.take i).map V.str++[.str nm]:=by
 rw[Q0t,h,Q0m];rfl
def wQ (K:W.Frag) (Pt P2:Addr):Sp:=λvs H Q _=>∃(a:Addr) (ns:List Int),vs=[.ref a]/\ki K H a ns/\ns.length<=63/\gJ Pt jX jY H/\gJ P2 jF jG H/\∀H',Q (.bl true) H'
def wR (K:W.Frag):Sp:=λvs H Q E=>sR K 1 vs H Q E\/sR K 0 vs H Q E
section
variable {P:Program}{w:World}{K:W.Frag}{mg:Str->Option Value}{base:Heap}
variable {C CB kI Pt P2:Addr}
theorem Nt:gP XA ["_law_script"] (gC (top 54)):=gT
theorem Nu (bZ:P2≠Pt)(T:Tb mg)(TK:lS K mg C af cd dj dk cP cQ)(BO:mj K mg CB aa ag aj ak bP ah ai)(TO:tR K mg kI cR d0 d1 cS av)(ev:Dn K mg "law" ["_law_script"] (top 54) ez eA)(br:Dn K mg "_law_next" g8 (top 35) bt bu)(bv:d_ P w K mg base f_ (1) bt bu g8 (nL K))(aV:Dn K mg "_law_fields" kU (top 40) aW aX)(aY:d_ P w K mg base f_ (7) aW aX kU (wR K))(bw:Dn K mg "_law_some" sM (top 47) bx bz)(bA:d_ P w K mg base f_ (2) bx bz sM (FW K))(ax:Dn K mg "_law_value" js (top 45) a8 a9)(ay:d_ P w K mg base f_ (139) a8 a9 js (nN K Pt 67))(ab:Dn K mg "_law_seen" sN (top 52) bB bC)(ac:d_ P w K mg base f_ (140) bB bC sN (FX K Pt))(aC:Dm K "__init__" "Take.__init__" sG (gw 33 0) af aD)(aE:d_ P w K mg base f_ (1) af aD sG (E_ K C))(aq:Dm K "__init__" "Boughs.__init__" sJ (gw 28 0) aa ar)(au:d_ P w K mg base f_ (1) aa ar sJ (Fg CB))(aG:Dm K "behind" "Boughs.behind" jI (gw 28 1) ag aH)(aI:d_ P w K mg base f_ (12) ag aH jI (wH C CB P2))(aK:Dm K "grade" "Boughs.grade" kX (gw 28 5) ah aL)(aM:d_ P w K mg base f_ (2) ah aL kX (Fi C CB))(aN:Dm K "keeps" "Boughs.keeps" nK (gw 28 6) ai aO)(aP:d_ P w K mg base f_ (1) ai aO nK (tM))(ba:Dm K "keeps" "Top.keeps" nK (gw 27 4) av bb)(bc:d_ P w K mg base f_ (1) av bb nK (tM))(bD:Dn K mg "_law_back" oH (top 51) bE bF)(bG:d_ P w K mg base f_ (103) bE bF oH (q_ 95))(J:Dn K mg "_law_alike" mW (top 46) bd be)(L:d_ P w K mg base f_ (96) bd be mW (pS 95))(al:Dm K "put" "Boughs.put" kY (gw 28 3) ak aZ)(am:d_ P w K mg base f_ (147) ak aZ kY (Fn 95 15 C CB P2))(a1:Dm K "see" "Boughs.see" jP (gw 28 2) aj a2)(a3:d_ P w K mg base f_ (98) aj a2 jP (qY 95 C CB P2))(bf:Dn K mg "_law_shown" oG (top 50) bg bh)(bi:d_ P w K mg base f_ (96) bg bh oG (q9 95))(bL:Dn K mg "_law_top" sO (top 53) bM bN)(bO:d_ P w K mg base f_ (98) bM bN sO (FY 95 15)):d_ P w K mg base f_ (150) ez eA ["_law_script"] (wQ K Pt P2):=by
 have cN:=TK.pZ;have dh:=TK.m;have bS:=BO.pZ;have cb:=BO.m;have U:=BO.ct;have aJ:=BO.b;have aQ:=BO.g;have aS:=BO.k;have an:=BO.p;have a4:=BO.s;have di:=TO.ct;have cO:=TO.pZ;have eB:=TO.m;have bj:=TO.k;refine ev.F.ok Nt λvs H Q E h=>?_;obtain⟨a,ns,rfl,hS,fl,hT,eC,q⟩:=h;refine⟨rfl,λfO A outer s nd hr hu=>?_⟩;have fm:=Q1d (Q1y (by decide:3<=64) _) hr.units
 refine⟨_,(gh (gD 1 nd (iJ (a_ c_ b_)))
  (gh (gD 2 nd (gz bv hr br (a_ (pv 0) (a_ (pv 1) b_))))
  (gh (gD 3 nd (gz aY hr aV (a_ (pv 0) (a_ (pv 1) (a_ (gy j7 c_ (gy ia (gy ju (pv 2) c_) c_)) (a_ (gy l5 c_ (gy ia (pv 2) c_)) b_))))))
  (gh (gD 4 nd (iw (a_ gK (a_ (iw (a_ gK (a_ (pv 3) b_))) b_))))
  (gh (DE 5 nd (gz bA hr bw (a_ (pv 0) (a_ (pv 1) (a_ (kP (g:=(je 0)) (tt:=lD) (te:=(iD (kx K) (ik 0) (tC (.int 0)))) (own:=["_law_pair"]) rfl (kB (N:=XA) (sc:=gC (top 54))) (kN (pv 3)) (λ_ _ _ _ _=>(g5 (i:=0) (show(XB:List Str).Nodup by decide +kernel) rfl (Or.inl rfl) (.inr rfl))) (λ_ _ _ _ _=>mP) (λ_ _ _ _ _=>(gp (pv 0) c_))) b_)))))
  (gh (gD 6 nd (iw (a_ gK (a_ (nt rP (by rfl) T.pK boot_tuple (a_ (kP (g:=(je 0)) (tt:=(mJ (iD (uX K false) (iD (kx K) (ik 0) (tC (.int 0))) (ik 6)))) (te:=(ik 0)) (own:=["_law_pair"]) rfl (kB (N:=XA) (sc:=gC (top 54))) (kN (pv 3)) (λ_ _ _ _ _=>(g5 (i:=0) (show(XB:List Str).Nodup by decide +kernel) rfl (Or.inl rfl) (.inr rfl))) (λ_ _ _ _ _=>(rS (gI uY (gp (pv 0) c_) (pv 6) (by with_unfolding_all rfl)))) (λ_ _ _ _ _=>(pv 0))) b_)) b_))))
  (gh (gD 7 nd (iT (pv 1) c_))
  (gh (gD 8 nd (mI gX (gy ia (pv 2) c_) c_ (gE _)))
  (gh (gD 9 nd (iJ (a_ (gz ay hr ax (a_ (pv 0) (a_ (pv 1) (a_ (pv 4) (a_ c_ b_))))) (a_ (gz ac hr ab (a_ (pv 0) (a_ (pv 1) (a_ (gp (pv 4) c_) (a_ (pv 8) b_))))) b_))))
  (gh (gD 10 nd (gz ac hr ab (a_ (pv 0) (a_ (pv 1) (a_ (pv 6) (a_ (pv 8) b_))))))
  (gh (gD 11 nd (iJ (a_ (pv 7) b_)))
  (gh (gD 12 nd (iJ (a_ (gz ay hr ax (a_ (pv 0) (a_ (pv 11) (a_ (pv 4) (a_ c_ b_))))) (a_ (gz ac hr ab (a_ (pv 0) (a_ (pv 11) (a_ (gp (pv 4) c_) (a_ (pv 8) b_))))) b_))))
  (gh (gD 13 nd (gz ac hr ab (a_ (pv 0) (a_ (pv 11) (a_ (pv 6) (a_ (pv 8) b_))))))
  (gh (gD 14 nd (BS bS au (hr.mono (by decide)) rfl cb aq.b .nil i9 (a_ (BS cN aE (hr.mono (by decide)) rfl dh aC.b .nil i9 (a_ (Np rfl rfl T.nI boot_list rfl T.Kh boot_reversed (pv 5)) b_)) b_)))
  (gh (gF (PW.pt (jS (gI (C3 (n:=2) fm) (jH (pv 14) U aJ aI (hr.mono (by decide)) aG.b .nil i9 (a_ (pv 4) b_)) (iw (a_ gK (a_ (pv 6) b_))) (gE _)) (jR (gI mH (uQ (pv 14) U aQ aM (hr.mono (by decide)) aK.b .nil i9) gK (gE _))))) (gm (gv jk)) gH)
  (gh (gF (PW.pt (jS (iG (jH (pv 14) U aS aP (hr.mono (by decide)) aN.b .nil i9 (a_ (gp (gp (pv 3) c_) c_) b_))) (jR (iG (jH (Ff cO rfl eB) di bj bc (hr.mono (by decide)) ba.b .nil i9 (a_ (gp (gp (pv 3) c_) c_) b_)))))) (gm (gv jk)) gH)
  (gh (jo PassesOwn.never rfl (mF (iJ (a_ c_ (a_ c_ (a_ c_ b_))))) (g5 (i:=15) nd rfl iA) (gh (gD 16 nd (gz bG hr bD (a_ (pv 3) (a_ (pv 5) (a_ (iT (pv 12) (pv 15)) (a_ (pv 13) b_))))))
  (gh (gF (i7 (iG (gz L hr J (a_ (pv 4) (a_ (jH (pv 14) U an am (hr.mono (by decide)) al.b .nil i9 (a_ (pv 4) (a_ (iT (pv 9) (pv 15)) (a_ (pv 10) b_)))) (a_ (pv 16) b_)))))) (gm (gv jk)) gH)
  (gh (gD 17 nd (jH (pv 14) U a4 a3 (hr.mono (by decide)) a1.b .nil i9 (a_ (pv 4) (a_ (iT (pv 9) (pv 15)) b_))))
  (gh (gF (i7 (iG (gz L hr J (a_ (iw (a_ gK (a_ (pv 6) b_))) (a_ (pv 17) (a_ (gz bi hr bf (a_ (pv 5) (a_ (iT (pv 12) (pv 15)) b_))) b_)))))) (gm (gv jk)) gH)
  (gm (gF (i7 (iG (gz L hr J (a_ (pv 4) (a_ (jH (pv 14) U an am (hr.mono (by decide)) al.b .nil i9 (a_ (pv 4) (a_ (iT (pv 9) (pv 15)) (a_ (pv 17) b_)))) (a_ (iT (pv 12) (pv 15)) b_)))))) (gm (gv jk)) gH)))))))
  (gh (gF (i7 (iG (gz bO hr bL (a_ (pv 4) (a_ (iT (pv 9) c_) (a_ (gp (iT (pv 12) c_) c_) b_)))))) (gm (gv jk)) gH)
  (gh (gF (PW.pt (jS (i7 (iG (gz L hr J (a_ (pv 4) (a_ (iT (pv 9) c_) (a_ (iT (pv 12) c_) b_)))))) (jR (i7 (iG (gz L hr J (a_ (pv 4) (a_ (iT (pv 9) c_) (a_ (iT (pv 12) c_) b_))))))))) (gm (gv jk)) gH)
  (gm (gv (gz L hr J (a_ (iw (a_ gK (a_ (pv 6) b_))) (a_ (pv 10) (a_ (pv 13) b_))))))))))))))))))))))))),?_⟩
 ac_rfl
 refine ji λN hN=>?_;refine⟨ma,λb hb=>?_⟩;have s0:Same H (upd H b (.lst [.int 0])):=Same.new hb;have W:DS K Pt P2 a b ns 0 (upd H b (.lst [.int 0])):=⟨⟨ki.qS hS s0,fl,gu,by decide⟩,hT.same s0,eC.same s0⟩;generalize upd H b (.lst [.int 0])=H0 at W;clear s0 hS hT eC hb;refine hN _ _ (ji λN hN=>?_);refine⟨_,rfl,_,rfl,a,b,ns,0,rfl,W.g,by decide,λm H1 m0 m1 eE eF=>hN _ _ (ji λN hN=>?_)⟩;replace W:=W.sb eE eF (by decide);clear eE eF;obtain⟨mm,fo⟩:∃mm:Nat,1+m / 2 % 4=(mm:Int):=⟨(1+m / 2 % 4).toNat,by omega⟩;refine⟨_,rfl,_,rfl,_,rfl,_,_,rfl,rfl,⟨by decide,by decide⟩,_,_,rfl,rfl,(by show(0:Int)<4;decide),_,_,rfl,rfl,_,rfl,_,_,rfl,rfl,(by show(0:Int)<2;decide),_,_,rfl,rfl,?_⟩;show wR K [.ref a,.ref b,.int (1+m / 2 % 4),.int (1 - m % 2)] _ _ _;rw[fo];have fP:1<=mm/\mm<=4:=by omega
 have eG:(ck 1:Int)<=42:=by decide
 have eH:(ck 0:Int)<=42:=by decide
 have fin:∀(d:Nat) (t:Addr) (xs:List V) (fs:Fs) (n':Int) (H2:Hp),d<=1->(m % 2=1->d=0)->SB b H1 H2->H2 b=some (.lst [.int n'])->1<=n'->n'<=200->H2 t=some (.tup xs)->FA H2 xs fs->fs.names.Nodup->fs.names.length=mm->fs.dep<=d+1->fs.W->fs.names.Pairwise sle->N [some (.ref a),some (.ref b),some (.int m),some (.ref t),none,none,none,none,none,none,none,none,none,none,none,none,none,none] H2:=λd t xs fs n' H2 fQ d2 b4 aA n1 n2 ht bn ao bT bU a5 ce=>hN _ _ (ji λN hN=>?_)
 . rcases(show m % 2=0\/m % 2=1 by omega) with e|e
   . refine .inl ⟨a,b,ns,0+1,mm,by rw[e];rfl,by omega,W.g,?_,λt xs fs n' H2 b4 aA n1 n2 ht bn ao bT bU a5 ce _=>fin 1 t xs fs n' H2 (by decide) (by omega) b4 aA (by omega) ?_ ht bn ao bT bU a5 ce⟩
     . have:(mm:Int) * ck 1<=4 * 42:=Q25 (by omega) eG (by decide) (by decide);omega
     . have:(mm:Int) * ck 1<=4 * 42:=Q25 (by omega) eG (by decide) (by decide);omega
   . refine .inr ⟨a,b,ns,0+1,mm,by rw[e];rfl,by omega,W.g,?_,λt xs fs n' H2 b4 aA n1 n2 ht bn ao bT bU a5 ce _=>fin 0 t xs fs n' H2 (by decide) (λ_=>rfl) b4 aA (by omega) ?_ ht bn ao bT bU a5 ce⟩
     . have:(mm:Int) * ck 0<=4 * 42:=Q25 (by omega) eH (by decide) (by decide);omega
     . have:(mm:Int) * ck 0<=4 * 42:=Q25 (by omega) eH (by decide) (by decide);omega
 replace W:=W.sb b4 aA (by omega);clear b4 aA;have bH:fs.names.length<=12:=by omega
 have fR:=FA.len fs bn;have eI:fs.dB<=12:=by have:=qF fs;omega
 have eJ:m % 2=1->fs.dB<=1:=λe=>FV a5 (by have:=d2 e;omega);have hW:(Kd.gA fs).W:=by unfold Kd.W;exact⟨ao,bH,a5⟩
 refine⟨_,rfl,iq,λkr eK=>⟨iq,λkk d3=>hN [some (.ref a),some (.ref b),some (.int m),some (.ref t),some (.ref kk),none,none,none,none,none,none,none,none,none,none,none,none,none] _ (ji λN hN=>?_)⟩⟩;have t1:Same H2 (upd H2 kr (.tup [.str "record",.ref t])):=Same.new eK;have e1:=gu (H:=H2) (a:=kr) (o:=.tup [.str "record",.ref t]);generalize upd H2 kr (.tup [.str "record",.ref t])=H3 at t1 e1 d3;have t2:Same H3 (upd H3 kk (.tup [.str "tree",.ref kr])):=Same.new d3;have e2:=gu (H:=H3) (a:=kk) (o:=.tup [.str "tree",.ref kr]);generalize upd H3 kk (.tup [.str "tree",.ref kr])=H4 at t2 e2;have az:=t1.trans t2;replace W:=W.same az;have hK:j0 H4 kr t xs fs:=⟨t2 _ _ e1,az _ _ ht,FA.mono (Tu.of az) fs bn,ao,bH,a5,ce⟩;clear t1 e1 t2 az eK d3 ht bn;refine⟨_,rfl,_,rfl,_,rfl,t,rfl,⟨_,e_.of hK.tu⟩,qQ (sY (e_.of hK.tu)) (λi=>(fs.names.take i).map V.str) (by omega) (λlc cT=>?_) (λi x hx add skip=>?_)⟩
 case refine_2=>
  obtain⟨c,u,nm,k,rfl,fq,hc,hk⟩:=FA.get fs hK.fa hx;exact⟨rfl,yes (i5 ⟨_,rfl,c,_,_,_,rfl,rfl,e_.of hc,rfl,add _ (Nr (by rw[Fs.ky,fq];rfl))⟩)⟩
 rw[Q0z (by omega)];have t5:Same H4 (upd H4 lc (.lst (fs.names.map V.str))):=Same.new cT;have e5:=gu (H:=H4) (a:=lc) (o:=.lst (fs.names.map V.str));have dm:lc≠b:=λz=>by rw[z,W.g.at_] at cT;cases cT
 generalize upd H4 lc (.lst (fs.names.map V.str))=H5 at t5 e5;replace W:=W.same t5;replace hK:=hK.mono (Tu.of t5);replace e2:=t5 _ _ e2;refine⟨a,b,lc,ns,n',fs.names,rfl,W.g,by omega,e5,dm,bH,λln ss H6 d4 eL Y bI bV=>hN [some (.ref a),some (.ref b),some (.int m),some (.ref t),some (.ref kk),some (.ref ln),none,none,none,none,none,none,none,none,none,none,none,none] _ (ji λN hN=>?_)⟩;have k6:=(Kt.sb d4).tu W.g.at_;replace hK:=hK.mono k6;replace e2:=k6 _ _ e2;replace W:=W.sb d4 eL (by omega);clear k6 d4 eL t5 e5 dm cT;have fL:=bI.length_le;refine⟨_,rfl,t,rfl,⟨_,e_.of hK.tu⟩,qQ (sY (e_.of hK.tu)) (λi=>(((xs.zip fs.names).take i).filter λq=>inV (V.str q.2) (ss.map V.str)).map (·.1)) (by omega) (λlq eM=>?_) (λi x hx add skip=>?_)⟩
 case refine_2=>
  obtain⟨c,u,nm,rfl,hc,hz⟩:=ES hK.fa hx;exact⟨rfl,_,rfl,c,_,_,_,rfl,rfl,e_.of hc,rfl,_,rfl,ln,_,rfl,.inl (gi.of Y),rfl,tm,_,rfl,iL (λcc=>⟨_,rfl,add _ (Er hz cc)⟩) (λcc=>skip (Es hz cc))⟩
 rw[Q0z (by rw[Q3i];omega),show(((xs.zip fs.names).filter λq=>inV (V.str q.2) (ss.map V.str)).map (·.1))=i4 ss xs fs.names by unfold i4;simp only[ti]];have t7:Same H6 (upd H6 lq (.lst (i4 ss xs fs.names))):=Same.new eM;have e7:=gu (H:=H6) (a:=lq) (o:=.lst (i4 ss xs fs.names));generalize upd H6 lq (.lst (i4 ss xs fs.names))=H7 at t7 e7;refine⟨lq,_,rfl,.inl ⟨gi.of e7,λtp eN=>⟨iq,λkp d5=>hN [some (.ref a),some (.ref b),some (.int m),some (.ref t),some (.ref kk),some (.ref ln),some (.ref kp),none,none,none,none,none,none,none,none,none,none,none] _ (ji λN hN=>?_)⟩⟩⟩;have t8:Same H7 (upd H7 tp (.tup (i4 ss xs fs.names))):=Same.new eN;have e8:=gu (H:=H7) (a:=tp) (o:=.tup (i4 ss xs fs.names));generalize upd H7 tp (.tup (i4 ss xs fs.names))=H8 at t8 e8 d5;have t9:Same H8 (upd H8 kp (.tup [.str "record",.ref tp])):=Same.new d5;have e9:=gu (H:=H8) (a:=kp) (o:=.tup [.str "record",.ref tp]);generalize upd H8 kp (.tup [.str "record",.ref tp])=H9 at t9 e9;have cf:=t7.trans (t8.trans t9);replace W:=W.same cf;replace hK:=hK.mono (Tu.of cf);replace e2:=cf _ _ e2;replace Y:=cf _ _ Y;replace e8:=t9 _ _ e8;clear t7 e7 t8 t9 cf eM eN d5;have en:(fs.gR ss).names=ss:=by rw[Fs.k7];exact tW bI ao
 have b5:(Kd.gA (fs.gR ss)).W:=by
  unfold Kd.W;exact⟨by rw[Fs.k7];exact ao.filter _,by rw[en];omega,Fs.tq ss a5⟩
 obtain⟨fr,fM⟩:=wN ss fs;have c1:(Kd.gA fs).cB<=1440000:=pG (.gA fs) 2 hW (by simp only[Kd.dep];omega);have c2:(Kd.tree (.gA fs)).cB<=1728000000:=pG (.tree (.gA fs)) 3 (by unfold Kd.W;exact hW) (by simp only[Kd.dep];omega);have c3:(Kd.gA (fs.gR ss)).cB<=1440000:=pG (.gA (fs.gR ss)) 2 b5 (by simp only[Kd.dep];omega);have c4:(Kd.tree (.gA (fs.gR ss))).cB<=1728000000:=pG (.tree (.gA (fs.gR ss))) 3 (by unfold Kd.W;exact b5) (by simp only[Kd.dep];omega);have d6:mu (.tree (.gA fs)) 3<=67:=by simp only[mu,Kd.dep];omega
 have fv:=pP (.tree (.gA fs)) 3;refine⟨_,rfl,b,_,_,_,rfl,rfl,gi.of W.g.at_,iZ (j:=0) rfl,hN [some (.ref a),some (.ref b),some (.int m),some (.ref t),some (.ref kk),some (.ref ln),some (.ref kp),some (.int (n'+1)),none,none,none,none,none,none,none,none,none,none] _ (ji λN hN=>?_)⟩;refine⟨_,rfl,_,_,rfl,rfl,(by show(0:Int)<2;decide),rfl,hN [some (.ref a),some (.ref b),some (.int m),some (.ref t),some (.ref kk),some (.ref ln),some (.ref kp),some (.int (n'+1)),some (.bl (decide (V.int (m % 2)=V.int 1))),none,none,none,none,none,none,none,none,none] _ (ji λN hN=>?_)⟩;generalize d7:decide (V.int (m % 2)=V.int 1)=g
 have hg:g=true->fs.dB<=1:=λz=>eJ (by
  rw[<-d7] at z;injection of_decide_eq_true z)
 have bW:g=true->fs.dep<=1:=λz=>by
  have:m % 2=1:=by
   rw[<-d7] at z;injection of_decide_eq_true z
  have:=d2 this;omega
 clear d7 eJ d2;refine⟨_,rfl,_,rfl,_,rfl,a,b,ns,n'+1,.ref kk,.tree (.gA fs),3,rfl,W.g,W.t,by unfold KA;exact⟨kk,.ref kr,rfl,e2,hK.ka.1⟩,by unfold Kd.W;exact hW,by decide,d6,by omega,λs0 fS f0 cw dn dp dq _ dt=>?_⟩;have v0:=lI ns (.tree (.gA fs)) 3 (n'+1) (by decide);have O0:=OB.new dq dt W.g.at_;have d8:=Kt.g6 cw W.t;have cg:=d8.tu W.g.at_;replace hK:=hK.mono cg;replace e2:=cg _ _ e2;replace e8:=cg _ _ e8;replace e9:=cg _ _ e9;replace Y:=d8.lst bV Y;replace W:=W.g6 bZ cw dp dn v0.1;clear cw dp dn dq dt d8 cg;obtain⟨d9,ea,fT⟩:=FR ns (n'+1) hW;generalize fx:val ns (.tree (.gA fs)) 3 (n'+1)=q0 at *;have w1:=FP ns (.gA fs) g q0.2 (B:=1728000000) (by omega) c2;refine⟨_,rfl,_,rfl,_,rfl,kk,_,_,_,rfl,rfl,e_.of e2,rfl,_,rfl,a,b,ns,q0.2,.ref kr,.gA fs,g,rfl,W.g,W.t,hK.ka.1,hW,by simp only[Kd.dep];omega,λz=>⟨by have:=hg z;simp only[Kd.dB];omega,by have:=bW z;simp only[Kd.dep];omega⟩,by omega,by omega,λs1 cU f1 cx dv dw dz dA=>⟨iq,λls cV=>hN [some (.ref a),some (.ref b),some (.int m),some (.ref t),some (.ref kk),some (.ref ln),some (.ref kp),some (.int (n'+1)),some (.bl g),some (.ref ls),none,none,none,none,none,none,none,none] _ (ji λN hN=>?_)⟩⟩;have O1:=OB.new dz dA W.g.at_;have cW:=Kt.g6 cx W.t;have ci:=cW.tu W.g.at_;replace hK:=hK.mono ci;replace e2:=ci _ _ e2;replace e8:=ci _ _ e8;replace e9:=ci _ _ e9;replace Y:=cW.lst bV Y;replace O0:=O0.kt cW W.g.at_;replace W:=W.g6 bZ cx dv dw w1.1;clear cx dv dw dz dA cW ci;have az:Same cU (upd cU ls (.lst [s0,s1])):=Same.new cV;have ap:=gu (H:=cU) (a:=ls) (o:=.lst [s0,s1]);have dC:ls≠b:=λz=>by rw[z,W.g.at_] at cV;cases cV
 generalize upd cU ls (.lst [s0,s1])=fy at az ap;replace W:=W.same az;replace hK:=hK.mono (Tu.of az);replace e2:=az _ _ e2;replace e8:=az _ _ e8;replace e9:=az _ _ e9;replace Y:=az _ _ Y;replace O0:=O0.same az;replace O1:=O1.same az;clear az cV;obtain⟨eb,eO,fz⟩:=FT ns g q0.2 fs.dB hW (Q00 _) hg eI;generalize fA:sn ns (.gA fs) g q0.2=q1 at *;have w2:=FP ns (.gA (fs.gR ss)) g q1.2 (B:=1728000000) (by omega) c4;have cj:j0 fy kp tp (i4 ss xs fs.names) (fs.gR ss):=hK.few ss e9 e8;refine⟨_,rfl,_,rfl,_,rfl,_,rfl,a,b,ns,q1.2,.ref kp,.gA (fs.gR ss),g,rfl,W.g,W.t,cj.ka.1,b5,by simp only[Kd.dep];omega,λz=>⟨by have:=hg z;simp only[Kd.dB];omega,by have:=bW z;simp only[Kd.dep];omega⟩,by omega,by omega,λus cX f2 cy dD dE dF dG=>hN [some (.ref a),some (.ref b),some (.int m),some (.ref t),some (.ref kk),some (.ref ln),some (.ref kp),some (.int (n'+1)),some (.bl g),some (.ref ls),some (us),none,none,none,none,none,none,none] _ (ji λN hN=>?_)⟩;have O2:=OB.new dF dG W.g.at_;have b6:=Kt.g6 cy W.t;have cm:=b6.tu W.g.at_;replace hK:=hK.mono cm;replace e2:=cm _ _ e2;replace e8:=cm _ _ e8;replace e9:=cm _ _ e9;replace Y:=b6.lst bV Y;replace ap:=b6.lst dC ap;replace O0:=O0.kt b6 W.g.at_;replace O1:=O1.kt b6 W.g.at_;replace W:=W.g6 bZ cy dD dE w2.1;clear cy dD dE dF dG b6 cm cj;obtain⟨eP,cY,fU⟩:=FT ns g q1.2 fs.dB b5 fr hg eI;generalize fB:sn ns (.gA (fs.gR ss)) g q1.2=q2 at *;refine⟨_,rfl,ma,λb2 aA=>hN [some (.ref a),some (.ref b),some (.int m),some (.ref t),some (.ref kk),some (.ref ln),some (.ref kp),some (.int (n'+1)),some (.bl g),some (.ref ls),some (us),some (.ref b2),none,none,none,none,none,none] _ (ji λN hN=>?_)⟩;have aT:Same cX (upd cX b2 (.lst [.int (n'+1)])):=Same.new aA;have ec:=gu (H:=cX) (a:=b2) (o:=.lst [.int (n'+1)]);generalize upd cX b2 (.lst [.int (n'+1)])=fV at aT ec;have bp:ln≠b2:=gB Y aA;have bq:ls≠b2:=gB ap aA;replace O0:=O0.oth aT aA;replace O1:=O1.oth aT aA;replace O2:=O2.oth aT aA;replace W:=(W.same aT).oth ec (by omega);replace hK:=hK.mono (Tu.of aT);replace e2:=aT _ _ e2;replace e8:=aT _ _ e8;replace e9:=aT _ _ e9;replace Y:=aT _ _ Y;replace ap:=aT _ _ ap;clear aT ec aA;refine⟨_,rfl,_,rfl,_,rfl,a,b2,ns,n'+1,.ref kk,.tree (.gA fs),3,rfl,W.g,W.t,by unfold KA;exact⟨kk,.ref kr,rfl,e2,hK.ka.1⟩,by unfold Kd.W;exact hW,by decide,d6,by omega,λw0 fW f0 cz cA dH cC _ dI=>?_⟩;rw[fx] at cA cC;have Q0:=OB.new cC dI W.g.at_;have bQ:=Kt.g6 cz W.t;have cn:=bQ.tu W.g.at_;replace hK:=hK.mono cn;replace e2:=cn _ _ e2;replace e8:=cn _ _ e8;replace e9:=cn _ _ e9;replace Y:=bQ.lst bp Y;replace ap:=bQ.lst bq ap;replace O0:=O0.kt bQ W.g.at_;replace O1:=O1.kt bQ W.g.at_;replace O2:=O2.kt bQ W.g.at_;replace W:=W.g6 bZ cz dH cA v0.1;clear cz dH cA cC dI bQ cn;refine⟨_,rfl,_,rfl,_,rfl,kk,_,_,_,rfl,rfl,e_.of e2,rfl,_,rfl,a,b2,ns,q0.2,.ref kr,.gA fs,g,rfl,W.g,W.t,hK.ka.1,hW,by simp only[Kd.dep];omega,λz=>⟨by have:=hg z;simp only[Kd.dB];omega,by have:=bW z;simp only[Kd.dep];omega⟩,by omega,by omega,λa6 cZ f1 cD dJ cE cF dL=>⟨iq,λlw c5=>hN [some (.ref a),some (.ref b),some (.int m),some (.ref t),some (.ref kk),some (.ref ln),some (.ref kp),some (.int (n'+1)),some (.bl g),some (.ref ls),some (us),some (.ref b2),some (.ref lw),none,none,none,none,none] _ (ji λN hN=>?_)⟩⟩;rw[fA] at cE cF;have Q1:=OB.new cF dL W.g.at_;have bJ:=Kt.g6 cD W.t;have co:=bJ.tu W.g.at_;replace hK:=hK.mono co;replace e2:=co _ _ e2;replace e8:=co _ _ e8;replace e9:=co _ _ e9;replace Y:=bJ.lst bp Y;replace ap:=bJ.lst bq ap;replace O0:=O0.kt bJ W.g.at_;replace O1:=O1.kt bJ W.g.at_;replace O2:=O2.kt bJ W.g.at_;replace Q0:=Q0.kt bJ W.g.at_;replace W:=W.g6 bZ cD dJ cE w1.1;clear cD dJ cE cF dL bJ co;have aB:Same cZ (upd cZ lw (.lst [w0,a6])):=Same.new c5;have cp:=gu (H:=cZ) (a:=lw) (o:=.lst [w0,a6]);have cM:lw≠b2:=λz=>by rw[z,W.g.at_] at c5;cases c5
 generalize upd cZ lw (.lst [w0,a6])=fC at aB cp;replace W:=W.same aB;replace hK:=hK.mono (Tu.of aB);replace e2:=aB _ _ e2;replace e8:=aB _ _ e8;replace e9:=aB _ _ e9;replace Y:=aB _ _ Y;replace ap:=aB _ _ ap;replace O0:=O0.same aB;replace O1:=O1.same aB;replace O2:=O2.same aB;replace Q0:=Q0.same aB;replace Q1:=Q1.same aB;clear aB c5;have cj:j0 fC kp tp (i4 ss xs fs.names) (fs.gR ss):=hK.few ss e9 e8;refine⟨_,rfl,_,rfl,_,rfl,_,rfl,a,b2,ns,q1.2,.ref kp,.gA (fs.gR ss),g,rfl,W.g,W.t,cj.ka.1,b5,by simp only[Kd.dep];omega,λz=>⟨by have:=hg z;simp only[Kd.dB];omega,by have:=bW z;simp only[Kd.dep];omega⟩,by omega,by omega,λut c6 f2 cG dM cH cI ff=>hN [some (.ref a),some (.ref b),some (.int m),some (.ref t),some (.ref kk),some (.ref ln),some (.ref kp),some (.int (n'+1)),some (.bl g),some (.ref ls),some (us),some (.ref b2),some (.ref lw),some (ut),none,none,none,none] _ (ji λN hN=>?_)⟩;rw[fB] at cH cI;have a7:=Kt.g6 cG W.t;have cq:=a7.tu W.g.at_;replace hK:=hK.mono cq;replace e2:=cq _ _ e2;replace e8:=cq _ _ e8;replace e9:=cq _ _ e9;replace Y:=a7.lst bp Y;replace ap:=a7.lst bq ap;replace cp:=a7.lst cM cp;replace O0:=(O0.kt a7 W.g.at_).o;replace O1:=(O1.kt a7 W.g.at_).o;replace O2:=(O2.kt a7 W.g.at_).o;replace Q0:=(Q0.kt a7 W.g.at_).o;replace Q1:=(Q1.kt a7 W.g.at_).o;replace W:=W.g6 bZ cG dM cH w2.1;clear cG dM cH ff a7 cq cj;have dN:=W.s;clear W bV dC bp bq cM v0 w1 w2 c1 c2 c3 c4 d6 fv;refine⟨_,rfl,ln,_,rfl,gi.of Y,λlr eQ=>?_⟩;have ed:Same c6 (upd c6 lr (.lst (ss.map V.str).reverse)):=Same.new eQ;have b7:=gu (H:=c6) (a:=lr) (o:=.lst (ss.map V.str).reverse);generalize upd c6 lr (.lst (ss.map V.str).reverse)=fD at ed b7;rw[<-Q2q] at b7;intro vi gW c7 cJ fX;have dO:lr≠vi:=gB b7 c7;have dP:lr≠gW:=gB b7 cJ;refine⟨vi,lr,gW,ss.reverse,rfl,gu,gi.of (by rw[gj dO,gj dP];exact b7),λnl eR fE bX dQ dR=>⟨rfl,?_⟩⟩;have eS:Same fD eR:=λc o e=>bX c o (gB e c7) (by rw[gj (gB e c7),gj (gB e cJ)];exact e);clear bX fE;intro v dx hv eU fN;refine⟨v,dx,vi,rfl,gu,λeV bY dS=>⟨rfl,hN [some (.ref a),some (.ref b),some (.int m),some (.ref t),some (.ref kk),some (.ref ln),some (.ref kp),some (.int (n'+1)),some (.bl g),some (.ref ls),some (us),some (.ref b2),some (.ref lw),some (ut),some (.ref v),none,none,none] _ (ji λN hN=>?_)⟩⟩;have c8:Same eR eV:=λc o e=>bY c o (gB e hv) (by rw[gj (gB e hv),gj (gB e eU)];exact e);clear bY;have ae:=ed.trans (eS.trans c8);have X:LS eV C CB P2 v dx vi gW nl kk kr t xs fs ss kp tp ln ls lw s0 s1 w0 a6 us ut q0.1 q1.1 q2.1:=⟨⟨dS,⟨c8 _ _ dQ,c8 _ _ dR,(Q3m ss).nodup_iff.mpr (bI.nodup ao),by rw[Q1h];omega⟩,ae _ _ e2,hK.mono (Tu.of ae),λx hx=>bI.subset (List.mem_reverse.mp hx),dN.same ae⟩,ae _ _ e9,ae _ _ e8,ae _ _ Y,ae _ _ ap,ae _ _ cp,O0.imp λ_ o=>o.same ae,O1.imp λ_ o=>o.same ae,Q0.imp λ_ o=>o.same ae,Q1.imp λ_ o=>o.same ae,O2.imp λ_ o=>o.same ae,⟨f2,cI.same ae⟩⟩;clear ed b7 eS c8 ae dQ dR dS dO dP eQ c7 cJ hv eU O0 O1 O2 Q0 Q1 cI dN e2 e8 e9 Y ap cp hK
 have few:∀{H:Hp},FA H xs fs->∀(j:Nat) (x y:V),(i4 ss xs fs.names)[j]? =some x->(i4 ss xs fs.names)[j]? =some y->jq K H 0 x y true:=λ{H} bn j x y ex ey=>by
  rw[ex] at ey
  cases ey;have hx:=Q0x ex;unfold i4 at hx;obtain⟨z,hz,rfl⟩:=List.mem_map.mp hx;obtain⟨i,hi,ei⟩:=Q0y (Q1w (List.mem_filter.mp hz).1).1;obtain⟨c,u,nm,k,e,_⟩:=FA.get fs bn (i:=i) (v:=z.1) (by rw[Q05 hi,ei]);rw[e];exact .ref c
 refine⟨_,rfl,v,dx,_,rfl,X.bo.b,rfl,_,rfl,v,dx,vi,gW,nl,kk,kr,t,xs,fs,ss.reverse,rfl,X.bo,λqk rk t' c9 dU dV eW eX ee=>⟨_,rfl,iq,λtz bR=>?_⟩⟩;replace X:=X.g6 dU dV;rw[Nq] at ee;have b8:Same c9 (upd c9 tz (.tup [.str "tree",.ref kp])):=Same.new bR;have ef:=gu (H:=c9) (a:=tz) (o:=.tup [.str "tree",.ref kp]);generalize upd c9 tz (.tup [.str "tree",.ref kp])=da at b8 ef;replace X:=X.same b8;refine⟨qk,tz,_,_,λ_=>true,rfl,rfl,all2 (wM _) (FN (b8 _ _ eX) X.kp rfl (all2 (wM _) (FN (b8 _ _ ee) X.tp rfl (few X.bo.r.fa)))),.inr ⟨e_.of (b8 _ _ eW),e_.of ef,_,rfl,gY ?_⟩⟩;clear dU dV eW eX ee b8 ef bR;refine⟨_,rfl,v,dx,_,rfl,X.bo.b,rfl,v,dx,vi,gW,nl,ss.reverse,rfl,X.bo.b,X.bo.tk,rfl,_,rfl,mO rfl (hN [some (.ref a),some (.ref b),some (.int m),some (.ref t),some (.ref kk),some (.ref ln),some (.ref kp),some (.int (n'+1)),some (.bl g),some (.ref ls),some (us),some (.ref b2),some (.ref lw),some (ut),some (.ref v),none,none,none] _ (ji λN hN=>?_))⟩;obtain⟨c0,u0,eY,k0,cr,fg,eg,_⟩:=FA.get fs X.bo.r.fa (i:=0) (v:=xs[0]'(by omega)) (Q05 (by omega));have cr:xs[0]? =some (.ref c0):=by rw[Q05 (by omega),cr]
 refine⟨_,rfl,v,dx,_,rfl,X.bo.b,rfl,_,rfl,t,_,_,_,rfl,rfl,e_.of X.bo.r.tu,iZ (j:=0) cr,c0,_,_,_,rfl,rfl,e_.of eg,rfl,.ref v,.str eY,rfl,false,rfl,gY ?_⟩;intro y dy hy eZ fY;have db:Same da (upd (upd da dy (.own y)) y (.ins kI dy [])):=λc o e=>by rw[gj (gB e hy),gj (gB e eZ)];exact e
 have eh:=gu (H:=upd da dy (.own y)) (a:=y) (o:=.ins kI dy []);generalize upd (upd da dy (.own y)) y (.ins kI dy [])=dc at db eh;replace X:=X.same db;refine⟨y,dy,_,rfl,eh,rfl,_,rfl,t,_,_,_,rfl,rfl,e_.of X.bo.r.tu,iZ (j:=0) cr,c0,_,_,_,rfl,rfl,e_.of (db _ _ eg),rfl,.ref y,.str eY,rfl,false,rfl,gY (hN [some (.ref a),some (.ref b),some (.int m),some (.ref t),some (.ref kk),some (.ref ln),some (.ref kp),some (.int (n'+1)),some (.bl g),some (.ref ls),some (us),some (.ref b2),some (.ref lw),some (ut),some (.ref v),none,none,none] _ (ji λN hN=>?_))⟩;clear db eh eg hy eZ cr fg few
 have hE:g_ (iX fs (fs.dB+1)) (eT fs):=by
  obtain⟨b1,fF,b3⟩:=wz a5;unfold eT blk blk;exact Tree.mk ⟨_,rfl,b1,by omega,oK.mpr ⟨by rw[<-sT,b1.names];omega,fF⟩⟩ λi d hd=>(by cases i <;> cases hd)
 have fG:=FU ao bH bI (l:=ss) (List.Perm.refl _);have ej:=FU ao bH bI (l:=ss.reverse) (Q3m ss);have ek:g_ (kH fs (fs.gR ss) (fs.dB+1)) q2.1:=Tree.imp (λt ⟨m,e,hm⟩=>⟨m,e,Na ao hm⟩) eP;have fH:∀x∈fs.names,x∈(fs.gR ss).names↔x∈ss:=λx _=>by rw[en]
 have dd:(Kd.tree (.gA fs)).W:=by unfold Kd.W;exact hW
 have dW:(Kd.tree (.gA (fs.gR ss))).W:=by unfold Kd.W;exact b5
 refine⟨Ki,λlk e0=>?_⟩;have el:Same dc (upd dc lk (.lst [.int 0,.int 1,.int 0])):=Same.new e0;have em:=gu (H:=dc) (a:=lk) (o:=.lst [.int 0,.int 1,.int 0]);generalize upd dc lk (.lst [.int 0,.int 1,.int 0])=fZ at el em;replace X:=X.same el;clear el e0;refine⟨lk,rfl,⟨_,gi.of em⟩,rF (xs:=[.int 0,.int 1,.int 0]) (λi de H'=>∃z1 z2 z3,de=[some (.ref a),some (.ref b),some (.int m),some (.ref t),some (.ref kk),some (.ref ln),some (.ref kp),some (.int (n'+1)),some (.bl g),some (.ref ls),some (us),some (.ref b2),some (.ref lw),some (ut),some (.ref v),z1,z2,z3]/\LS H' C CB P2 v dx vi gW nl kk kr t xs fs ss kp tp ln ls lw s0 s1 w0 a6 us ut q0.1 q1.1 q2.1/\H' lk=some (.lst [.int 0,.int 1,.int 0])) ⟨_,_,_,rfl,X,em⟩ ?_ ?_ ?_⟩
 . intro i de H' _ zq;obtain⟨z1,z2,z3,rfl,_,hl⟩:=zq;exact gi.of hl
 . intro i u de H' hu zq;obtain⟨z1,z2,z3,rfl,X,hl⟩:=zq
   obtain⟨jj,sj,wj,Dj,eu,eo,aw,bm,aU,b9,f3⟩:∃(jj:Int) (sj wj:V) (Dj:D),u=.int jj/\iY [s0,s1] jj=some sj/\iY [w0,a6] jj=some wj/\(∀{H':Hp},LS H' C CB P2 v dx vi gW nl kk kr t xs fs ss kp tp ln ls lw s0 s1 w0 a6 us ut q0.1 q1.1 q2.1->(∃f,Own H' sj Dj f)/\∃f,Own H' wj Dj f)/\g_ (iX fs (fs.dB+1)) Dj/\Dj.Sm/\Dj.dep+2 * fs.dB<=87:=by
    have z0:∃(jj:Int) (sj wj:V) (Dj:D),V.int 0=.int jj/\iY [s0,s1] jj=some sj/\iY [w0,a6] jj=some wj/\(∀{H':Hp},LS H' C CB P2 v dx vi gW nl kk kr t xs fs ss kp tp ln ls lw s0 s1 w0 a6 us ut q0.1 q1.1 q2.1->(∃f,Own H' sj Dj f)/\∃f,Own H' wj Dj f)/\g_ (iX fs (fs.dB+1)) Dj/\Dj.Sm/\Dj.dep+2 * fs.dB<=87:=⟨0,s0,w0,q0.1,rfl,iZ (j:=0) rfl,iZ (j:=0) rfl,λX=>⟨X.s0,X.w0⟩,d9,ea,by omega⟩
    match i,hu with
    |0,hu=>cases hu;exact z0
    |1,hu=>cases hu;exact⟨1,s1,a6,q1.1,rfl,iZ (j:=1) rfl,iZ (j:=1) rfl,λX=>⟨X.s1,X.w1⟩,eb,eO,fz⟩
    |2,hu=>cases hu;exact z0
    |_+3,hu=>cases hu
   subst eu;refine ji λN hN=>?_;obtain⟨fw,hw⟩:=(bm X).2;obtain⟨ft,ht⟩:=X.ut
   have fJ:∃a,wj=.ref a:=by
    obtain⟨_,_,_,_,c,_,_,_,_,_,_,_,_,_,e,_⟩:=nR hw aU;exact⟨c,e⟩
   refine⟨_,rfl,_,rfl,_,rfl,_,rfl,lw,_,_,_,rfl,rfl,gi.of X.lw,aw,_,rfl,t,ln,xs,fs,ss,fs.gR ss,fs.dB+1,wj,Dj,fw,ut,q2.1,ft,rfl,X.bo.r.tu,X.bo.r.fa,ao,bH,a5,by omega,X.ln,fH,.inr ⟨fJ,hw⟩,aU,b9,ht,ek,by omega,cY,hE,λdu f4 fd ep e3 _=>hN [some (.ref a),some (.ref b),some (.int m),some (.ref t),some (.ref kk),some (.ref ln),some (.ref kp),some (.int (n'+1)),some (.bl g),some (.ref ls),some (us),some (.ref b2),some (.ref lw),some (ut),some (.ref v),some (.int jj),some (du),z3] _ (ji λN hN=>?_)⟩;replace X:=X.same ep;replace hl:=ep _ _ hl;clear ep hw ht;obtain⟨fj,hj⟩:=(bm X).1;obtain⟨fu,e4⟩:=X.us;obtain⟨k1,k2⟩:=wy ao bH hE 95 Dj q2.1 aU ek cY (by omega);refine⟨_,rfl,_,rfl,v,dx,_,rfl,X.bo.b,rfl,_,rfl,_,rfl,_,rfl,ls,_,_,_,rfl,rfl,gi.of X.ls,eo,_,rfl,v,dx,vi,gW,nl,kk,kr,t,xs,fs,ss.reverse,sj,Dj,fj,us,q2.1,fu,fs.dB+1,rfl,X.bo,hj,aU,b9,e4,by rw[wO];exact ek,by omega,cY,by omega,by omega,hE,λup f5 f6 cK dX dY=>?_⟩;have cL:=Kn.lh cK X.bo.lam;replace X:=X.g6 cK dX;replace hl:=cL.lst hl;refine⟨_,rfl,.ref kk,up,du,.tree (.gA fs),_,_,_,_,rfl,X.bo.ka.1,dd,dY,e3.kn cL,AL.of k1.fit,by have:=k2.1;omega,k2.2,λf7 eq=>⟨true,rfl,gY (hN [some (.ref a),some (.ref b),some (.int m),some (.ref t),some (.ref kk),some (.ref ln),some (.ref kp),some (.int (n'+1)),some (.bl g),some (.ref ls),some (us),some (.ref b2),some (.ref lw),some (ut),some (.ref v),some (.int jj),some (du),z3] _ (ji λN hN=>?_))⟩⟩;replace X:=X.same eq;replace hl:=eq _ _ hl;clear cK dX dY cL eq hj e4 e3 k1 k2;obtain⟨fj,hj⟩:=(bm X).1;obtain⟨h1,h2,h3⟩:=EZ ej 95 Dj aU b9 (by omega);refine⟨_,rfl,v,dx,_,rfl,X.bo.b,rfl,_,rfl,_,rfl,_,rfl,ls,_,_,_,rfl,rfl,gi.of X.ls,eo,v,dx,vi,gW,nl,kk,kr,t,xs,fs,ss.reverse,sj,Dj,fj,fs.dB+1,rfl,X.bo,hj,aU,by omega,b9,λsh df f8 er bK _=>hN [some (.ref a),some (.ref b),some (.int m),some (.ref t),some (.ref kk),some (.ref ln),some (.ref kp),some (.int (n'+1)),some (.bl g),some (.ref ls),some (us),some (.ref b2),some (.ref lw),some (ut),some (.ref v),some (.int jj),some (du),some (sh)] _ (ji λN hN=>?_)⟩;replace X:=X.same er;replace hl:=er _ _ hl;clear er hj;refine⟨_,rfl,iq,λtz bR=>?_⟩;have cs:Same df (upd df tz (.tup [.str "tree",.ref kp])):=Same.new bR;have et:=gu (H:=df) (a:=tz) (o:=.tup [.str "tree",.ref kp]);generalize upd df tz (.tup [.str "tree",.ref kp])=f9 at cs et;replace X:=X.same cs;replace hl:=cs _ _ hl;replace bK:=bK.same cs;obtain⟨fw,hw⟩:=(bm X).2;refine⟨_,rfl,_,rfl,_,rfl,_,rfl,lw,_,_,_,rfl,rfl,gi.of X.lw,aw,ln,ss,fs,fs.dB+1,wj,Dj,fw,rfl,X.ln,bI.nodup ao,by omega,λx hx=>bI.subset hx,hw,aU,by omega,b9,λsw ga gb cu e6 _=>?_⟩;replace X:=X.same cu;replace hl:=cu _ _ hl;replace bK:=bK.same cu;refine⟨.ref tz,sh,sw,.tree (.gA (fs.gR ss)),_,_,_,_,rfl,by unfold KA;exact⟨tz,.ref kp,rfl,cu _ _ et,X.part.ka.1⟩,dW,bK,e6,E1 ej fG 95 Dj aU (by omega),by omega,h3,λgc dg=>⟨true,rfl,gY (hN [some (.ref a),some (.ref b),some (.int m),some (.ref t),some (.ref kk),some (.ref ln),some (.ref kp),some (.int (n'+1)),some (.bl g),some (.ref ls),some (us),some (.ref b2),some (.ref lw),some (ut),some (.ref v),some (.int jj),some (du),some (sh)] _ ?_)⟩⟩;replace X:=X.same dg;replace hl:=dg _ _ hl;replace bK:=bK.same dg;clear cs et cu dg e6 hw bR;obtain⟨fj,hj⟩:=(bm X).1;obtain⟨k1,k2⟩:=wy ao bH hE 95 Dj (jg ss.reverse 95 Dj) aU h1 h3 (by omega);refine⟨_,rfl,_,rfl,v,dx,_,rfl,X.bo.b,rfl,_,rfl,_,rfl,_,rfl,ls,_,_,_,rfl,rfl,gi.of X.ls,eo,_,rfl,v,dx,vi,gW,nl,kk,kr,t,xs,fs,ss.reverse,sj,Dj,fj,sh,jg ss.reverse 95 Dj,_,fs.dB+1,rfl,X.bo,hj,aU,b9,bK,by rw[wO];exact h1,by omega,h3,by omega,by omega,hE,λup gd ge dZ fh fi=>?_⟩;have fk:=Kn.lh dZ X.bo.lam;replace X:=X.g6 dZ fh;replace hl:=fk.lst hl;obtain⟨fw,hw⟩:=(bm X).2;refine⟨_,rfl,_,rfl,lw,_,_,_,rfl,rfl,gi.of X.lw,aw,.ref kk,up,wj,.tree (.gA fs),_,_,_,_,rfl,X.bo.ka.1,dd,fi,hw,E2 ej 95 Dj aU (by omega),by have:=k2.1;omega,k2.2,λgf fb=>⟨true,rfl,gY ?_⟩⟩;exact⟨_,_,_,rfl,X.same fb,fb _ _ hl⟩
 . intro de H' zq;obtain⟨z1,z2,z3,rfl,X,_⟩:=zq;refine hN [some (.ref a),some (.ref b),some (.int m),some (.ref t),some (.ref kk),some (.ref ln),some (.ref kp),some (.int (n'+1)),some (.bl g),some (.ref ls),some (us),some (.ref b2),some (.ref lw),some (ut),some (.ref v),z1,z2,z3] _ (ji λN hN=>?_);obtain⟨f0,h0⟩:=X.s0;obtain⟨f1,h1⟩:=X.w1;obtain⟨x,y,mq,as,c,ca,l,kvs,ys,g1,g2,eD,fK,_,ew,hc,fc,hM,_⟩:=nR h1 eb
   have fe:Own H' (.ref ca) (.dct mq) (ca::g1):=by
    unfold Own;exact⟨ca,kvs,g1,rfl,fc,rfl,hM⟩
   rw[ew] at X;refine⟨_,rfl,_,rfl,ls,_,_,_,rfl,rfl,gi.of X.ls,iZ (j:=0) rfl,_,rfl,lw,_,_,_,rfl,rfl,gi.of X.lw,iZ (j:=1) rfl,c,_,_,_,rfl,rfl,e_.of hc,rfl,kk,kr,t,xs,fs,fs.dB+1,s0,q0.1,f0,.ref ca,mq,_,rfl,X.bo.k,X.bo.r,h0,d9,ea,by omega,by omega,fe,fK,λH2 s2=>⟨true,rfl,gY (hN [some (.ref a),some (.ref b),some (.int m),some (.ref t),some (.ref kk),some (.ref ln),some (.ref kp),some (.int (n'+1)),some (.bl g),some (.ref ls),some (us),some (.ref b2),some (.ref lw),some (ut),some (.ref v),z1,z2,z3] _ (ji λN hN=>?_))⟩⟩;replace X:=X.same s2;clear h0 h1 s2 fe hM fc hc;obtain⟨f0,h0⟩:=X.s0;obtain⟨f1,h1⟩:=X.w0;refine⟨_,rfl,_,rfl,ls,_,_,_,rfl,rfl,gi.of X.ls,iZ (j:=0) rfl,_,rfl,lw,_,_,_,rfl,rfl,gi.of X.lw,iZ (j:=0) rfl,.ref kk,s0,w0,.tree (.gA fs),q0.1,q0.1,f0,f1,rfl,X.bo.ka.1,dd,h0,h1,AL.of d9.fit,by omega,ea,λH3 s3=>⟨true,rfl,gY ?_⟩⟩;replace X:=X.same s3;clear h0 h1 s3;obtain⟨f0,h0⟩:=X.s1;obtain⟨f1,h1⟩:=X.w1;refine⟨_,rfl,_,rfl,ls,_,_,_,rfl,rfl,gi.of X.ls,iZ (j:=1) rfl,_,rfl,lw,_,_,_,rfl,rfl,gi.of X.lw,iZ (j:=1) rfl,.ref kk,s1,.ref c,.tree (.gA fs),q1.1,q1.1,f0,f1,rfl,X.bo.ka.1,dd,h0,h1,AL.of eb.fit,by omega,eO,λH4 s4=>⟨true,rfl,gY (hN [some (.ref a),some (.ref b),some (.int m),some (.ref t),some (.ref kk),some (.ref ln),some (.ref kp),some (.int (n'+1)),some (.bl g),some (.ref ls),some (us),some (.ref b2),some (.ref lw),some (ut),some (.ref v),z1,z2,z3] _ ?_)⟩⟩;replace X:=X.same s4;clear h0 h1 s4;refine⟨_,rfl,iq,λtz bR=>?_⟩;have t5:Same H4 (upd H4 tz (.tup [.str "tree",.ref kp])):=Same.new bR;have e5:=gu (H:=H4) (a:=tz) (o:=.tup [.str "tree",.ref kp]);generalize upd H4 tz (.tup [.str "tree",.ref kp])=H5 at t5 e5;replace X:=X.same t5;obtain⟨f0,h0⟩:=X.us;obtain⟨f1,h1⟩:=X.ut;exact⟨_,rfl,_,rfl,.ref tz,us,ut,.tree (.gA (fs.gR ss)),q2.1,q2.1,f0,f1,rfl,by unfold KA;exact⟨tz,.ref kp,rfl,e5,X.part.ka.1⟩,dW,h0,h1,AL.of eP.fit,by omega,cY,λH6 _=>q H6⟩
end
end Pb
namespace Pb
open L2
theorem Nv {P:Program}{w:World}{K:W.Frag}{mg:Str->Option Value}{base:Heap}{CX:jL}{k:Nat}{f:Addr}{fd:FuncData}{ps:List Str}{sp J:Sp}(F:d_ P w K mg base CX k f fd ps sp)(G:d_ P w K mg base CX k f fd ps J):d_ P w K mg base CX k f fd ps (λvs H Q E=>sp vs H Q E\/J vs H Q E):=
 ⟨λvs H Q E q=>q.elim (F.len vs H Q E) (G.len vs H Q E),λA outer s H args us vs Q E L U Y hv hs=>hs.elim (F.run A outer s H args us vs Q E L U Y hv) (G.run A outer s H args us vs Q E L U Y hv)⟩
abbrev F2 (K:W.Frag) (x Y:Str) (st:Stmt) (f:Addr):Prop:=∃(oc:Value) (od:Option Addr) (kV L pm:Value) (an:Option Addr) (J ct:Value) (U:Array (Option Value)),K.lookup f=some ⟨oc,od,.func (W.fnOf x Y (j1 st) (jz st) (gC st) .none kV L pm an J ct),U⟩/\W.codeIn K J Y=true/\W.keepIn K (.ref f)=true
abbrev ig (K:W.Frag) (x:Str) (st:Stmt):Prop:=∃f,W.nsIn K mainGlobals x=some (some (.ref f))/\F2 K x x st f
abbrev HB (x U:Str) (ps:List Str) (st:Stmt):Prop:=∀(kV J Y:Value) (an:Option Addr) (L ct:Value) (us:List Value),us.length=ps.length->bindArgs (W.fnOf x U (j1 st) (jz st) (gC st) .none kV J Y an L ct) ⟨us,[]⟩=pure (ps.zip us)
theorem ir {K:W.Frag}{mg:Str->Option Value}{h:Heap}{x:Str}{ps:List Str}{st:Stmt}(X:K.In h)(G:h.Ns mainGlobals mg)(a:ig K x st)(U:HB x x ps st):∃f d,Dn K mg x ps st f d/\∀us:List Value,us.length=ps.length->bindArgs d ⟨us,[]⟩=pure (ps.zip us):=by
 obtain⟨f,a,oc,od,kV,J,Y,an,L,ct,aa,l,c,k⟩:=a;have F:=u4 (st:=st) l c k;exact⟨f,_,⟨F,F.binds U,W.mg_of X G a⟩,U kV J Y an L ct⟩
abbrev ij (K:W.Frag) (C ns:Addr) (x J:Str) (st:Stmt) (f:Addr):Prop:=W.nsIn K ns x=some (some (.ref f))/\F2 K x J st f/\W.isFn K (.ref f)=true/\W.findIn K (.ref C) x=some (some (.ref f))
theorem jJ {K:W.Frag}{C ns:Addr}{x J:Str}{ps:List Str}{st:Stmt}{f:Addr}(a:ij K C ns x J st f)(hb:HB x J ps st):∃d,Dm K x J ps st f d:=by
 obtain⟨_,⟨oc,od,kV,L,pm,an,U,ct,Y,l,c,k⟩,_,_⟩:=a;have F:l7 K x J st f _:=⟨⟨oc,od,kV,L,pm,an,U,ct,Y,rfl,l,c⟩,k⟩;exact⟨_,F,F.binds hb⟩
theorem Nw {K:W.Frag}{x:Str}{st:Stmt}{f:Addr}{Y:Value}{od an:Option Addr}{kV L pm J ct:Value}{U:Array (Option Value)}(a:W.nsIn K mainGlobals x=some (some (.ref f)))(l:K.lookup f=some ⟨Y,od,.func (W.fnOf x x (j1 st) (jz st) (gC st) .none kV L pm an J ct),U⟩)(c:W.codeIn K J x=true)(k:W.keepIn K (.ref f)=true):ig K x st:=⟨f,a,Y,od,kV,L,pm,an,J,ct,U,l,c,k⟩
theorem Ny {K:W.Frag}{C ns:Addr}{x Y:Str}{st:Stmt}{f:Addr}{oc:Value}{od an:Option Addr}{kV L pm J ct:Value}{U:Array (Option Value)}(a:W.nsIn K ns x=some (some (.ref f)))(l:K.lookup f=some ⟨oc,od,.func (W.fnOf x Y (j1 st) (jz st) (gC st) .none kV L pm an J ct),U⟩)(c:W.codeIn K J Y=true)(k:W.keepIn K (.ref f)=true)(h:W.isFn K (.ref f)=true)(g:W.findIn K (.ref C) x=some (some (.ref f))):ij K C ns x Y st f:=⟨a,⟨oc,od,kV,L,pm,an,J,ct,U,l,c,k⟩,h,g⟩
theorem ij.meth {K:W.Frag}{C ns:Addr}{x J:Str}{st:Stmt}{f:Addr}(a:ij K C ns x J st f):Meth K C x f:=by
 obtain⟨_,⟨_,_,_,_,_,_,_,_,_,_,_,k⟩,h1,h2⟩:=a;exact⟨h2,h1,k⟩
abbrev wU (K:W.Frag) (C:Addr):Prop:=W.plainGet K C Str.empty=true/\W.hasDictIn K C=true/\W.plainOver K C=true/\W.findIn K (.ref C) "__setattr__"=some (some (.builtin "object.__setattr__"))/\W.makesIn K C=true/\W.keepIn K (.ref C)=true
theorem len1 {α:Type}{l:List α}(h:l.length=1):∃a,l=[a]:=match l,h with|[a],_=>⟨a,rfl⟩
theorem len2 {α:Type}{l:List α}(h:l.length=2):∃a b,l=[a,b]:=match l,h with|[a,b],_=>⟨a,b,rfl⟩
theorem ng {α:Type}{l:List α}(h:l.length=3):∃a b c,l=[a,b,c]:=match l,h with|[a,b,c],_=>⟨a,b,c,rfl⟩
theorem mw {α:Type}{l:List α}(h:l.length=4):∃a b c d,l=[a,b,c,d]:=match l,h with|[a,b,c,d],_=>⟨a,b,c,d,rfl⟩
theorem F3 {α:Type}{l:List α}(h:l.length=5):∃a b c d e,l=[a,b,c,d,e]:=match l,h with|[a,b,c,d,e],_=>⟨a,b,c,d,e,rfl⟩
theorem all_mk {l:W.OpenLaw}{w:World}{K:W.Frag}{h:Heap}{mg:Str->Option Value}{fa:Addr}(X:K.In h)(G:h.Ns mainGlobals mg)(cw:mg "law"=some (.ref fa))
 (wV:ig K "kind_at" (top 6))
 (wW:ig K "record_of" (top 8))
 (wX:ig K "misfit" (top 10))
 (wY:ig K "record_misfit" (top 11))
 (wZ:ig K "has_just" (top 12))
 (w6:ig K "rows_misfit" (top 13))
 (w_:ig K "is_pair" (top 14))
 (xa:ig K "tree_misfit" (top 15))
 (xb:ig K "either_misfit" (top 16))
 (xc:ig K "empty" (top 17))
 (xf:ig K "empty_record" (top 18))
 (xg:ig K "rank" (top 19))
 (xh:ig K "ask_fit" (top 21))
 (xi:ig K "ask_stands" (top 22))
 (xj:ig K "behind_inner" (top 23))
 (xl:ig K "put_inner" (top 24))
 (xm:ig K "has_each_once" (top 30))
 (xn:ig K "fields_among" (top 31))
 (xo:ig K "part_of" (top 32))
 (xp:ig K "_law_next" (top 35))
 (xq:ig K "_law_number" (top 36))
 (xr:ig K "_law_word" (top 37))
 (xt:ig K "_law_names" (top 38))
 (xu:ig K "_law_plain" (top 39))
 (xv:ig K "_law_fields" (top 40))
 (xw:ig K "_law_rows_kind" (top 41))
 (xx:ig K "_law_kind" (top 42))
 (xy:ig K "_law_rank" (top 43))
 (xA:ig K "_law_value" (top 45))
 (xB:ig K "_law_alike" (top 46))
 (xC:ig K "_law_some" (top 47))
 (xD:ig K "_law_blank" (top 48))
 (xE:ig K "_law_grown" (top 49))
 (xF:ig K "_law_shown" (top 50))
 (xG:ig K "_law_back" (top 51))
 (xH:ig K "_law_seen" (top 52))
 (xI:ig K "_law_top" (top 53))
 (xJ:ig K "law" (top 54))
 {fR:Addr} {cx:Value} {cy b4:Option Addr} {b5 b6 b7 b1 b8:Value} {cz:Array (Option Value)} (aR:W.nsIn K mainGlobals "_law_rows"=some (some (.ref fR))) (lR:K.lookup fR=some ⟨cx,cy,.func (W.fnOf "_law_rows" "_law_rows" (j1 (top 44)) (jz (top 44)) (gC (top 44)) .none b5 b6 b7 b4 b1 b8),cz⟩) (xK:W.codeIn K b1 "_law_rows"=true) (kR:W.keepIn K (.ref fR)=true)
 {fF:Addr} {cA:Value} {cC b9:Option Addr} {ca cb cc b3 cd:Value} {cD:Array (Option Value)} (aF:W.nsIn K mainGlobals "sorted_fields"=some (some (.ref fF))) (lF:K.lookup fF=some ⟨cA,cC,.func (W.fnOf "sorted_fields" "sorted_fields" (j1 (top 7)) (jz (top 7)) (gC (top 7)) .none ca cb cc b9 b3 cd),cD⟩) (xM:W.codeIn K b3 "sorted_fields"=true) (kF:W.keepIn K (.ref fF)=true)
 (zz:∀x∈(["len","isinstance","sorted","all","range","enumerate","zip","int","bool","str","list","tuple","dict","set","min","reversed"]:List Str),W.nsIn K mainGlobals x=some none)
 {aa ap:Addr} {bR:Value} {bS:Option Addr} {bT:Array (Option Value)} {bC:ClassData}
 (xN:W.nsIn K mainGlobals "Take"=some (some (.ref aa))) (F4:K.lookup aa=some ⟨bR,bS,.cls bC,bT⟩) (F5:bC.ns=ap)
 {J U:Addr} {bI:Value} {bJ:Option Addr} {bK:Array (Option Value)} {bq:ClassData}
 (xO:W.nsIn K mainGlobals "Boughs"=some (some (.ref J))) (F6:K.lookup J=some ⟨bI,bJ,.cls bq,bK⟩) (F7:bq.ns=U)
 {ay aU:Addr} {bV:Value} {bW:Option Addr} {bX:Array (Option Value)} {bP:ClassData}
 (xP:W.nsIn K mainGlobals "Top"=some (some (.ref ay))) (F8:K.lookup ay=some ⟨bV,bW,.cls bP,bX⟩) (F9:bP.ns=aU)
 {ao bL:Addr} {bM:Value} {bN:Option Addr} {bO:Array (Option Value)} {br:ClassData}
 (xQ:W.nsIn K mainGlobals "NoView"=some (some (.ref ao))) (F_:K.lookup ao=some ⟨bM,bN,.cls br,bO⟩) (Ga:br.ns=bL)
 {af bE:Addr} {bF:Value} {bG:Option Addr} {bH:Array (Option Value)} {bh:ClassData}
 (xR:W.nsIn K mainGlobals "CantPut"=some (some (.ref af))) (Gb:K.lookup af=some ⟨bF,bG,.cls bh,bH⟩) (Gc:bh.ns=bE)
 {aA:Addr} (tX:ij K aa ap "__init__" "Take.__init__" (gw 33 0) aA)
 {aP:Addr} (tY:ij K aa ap "behind" "Take.behind" (gw 33 1) aP)
 {bi:Addr} (tZ:ij K aa ap "see" "Take.see" (gw 33 2) bi)
 {bj:Addr} (t_:ij K aa ap "put" "Take.put" (gw 33 3) bj)
 {aV:Addr} (ua:ij K aa ap "grade" "Take.grade" (gw 33 4) aV)
 {aW:Addr} (ub:ij K aa ap "keeps" "Take.keeps" (gw 33 5) aW)
 {aw:Addr} (uc:ij K J U "__init__" "Boughs.__init__" (gw 28 0) aw)
 {aB:Addr} (ud:ij K J U "behind" "Boughs.behind" (gw 28 1) aB)
 {aX:Addr} (ue:ij K J U "see" "Boughs.see" (gw 28 2) aX)
 {aY:Addr} (uf:ij K J U "put" "Boughs.put" (gw 28 3) aY)
 {am:Addr} (ug:ij K J U "put_knots" "Boughs.put_knots" (gw 28 4) am)
 {aK:Addr} (uh:ij K J U "grade" "Boughs.grade" (gw 28 5) aK)
 {aL:Addr} (ui:ij K J U "keeps" "Boughs.keeps" (gw 28 6) aL)
 {aZ:Addr} (uj:ij K ay aU "behind" "Top.behind" (gw 27 0) aZ)
 {bt:Addr} (um:ij K ay aU "see" "Top.see" (gw 27 1) bt)
 {bu:Addr} (uq:ij K ay aU "put" "Top.put" (gw 27 2) bu)
 {a7:Addr} (uu:ij K ay aU "grade" "Top.grade" (gw 27 3) a7)
 {a8:Addr} (uv:ij K ay aU "keeps" "Top.keeps" (gw 27 4) a8)
 (xS:W.findIn K (.ref aa) "names"=some none)
 (xT:W.findIn K (.ref J) "inner"=some none)
 (xU:W.findIn K (.ref ay) "__init__"=some (some (.builtin "object.__init__")))
 (xV:W.typeIn K (.ref af)=some (.type "type"))
 (xW:(W.clsIn K af).isSome=true)
 (xX:W.subIn K (.ref af) (.type "BaseException")=some true)
 (xY:W.typeIn K (.ref ao)=some (.type "type"))
 (xZ:(W.clsIn K ao).isSome=true)
 (x6:W.subIn K (.ref ao) (.type "BaseException")=some true)
 (x_:wU K aa) (ya:wU K J) (yb:wU K ay)
 {cR PR:Addr} {cm:Value} {cn:Option Addr} {bY:Array Value} {co:Array (Option Value)} (yc:b1=.ref cR) (Gd:K.lookup cR=some ⟨cm,cn,.fields bY,co⟩) (Ge:bY[11]? =some (.ref PR)) (yd:W.codeHdIn K cR PR=true)
 {cF PF:Addr} {cp:Value} {cq:Option Addr} {bZ:Array Value} {cr:Array (Option Value)} (ye:b3=.ref cF) (Gf:K.lookup cF=some ⟨cp,cq,.fields bZ,cr⟩) (Gg:bZ[11]? =some (.ref PF)) (yf:W.codeHdIn K cF PF=true)
 (yg:PF≠PR)
 :∃fd:FuncData,(∀(s:Shared) (v:Value),BindsTo s fd ⟨[v],[]⟩ [("_law_script",v)])/\∀base:Heap,K.In base->base.Ns mainGlobals mg->BM mg base->d_ l.prog w K mg base f_ 150 fa fd ["_law_script"] (wQ K PR PF):=by
 have zz:=λx hx=>W.mg_none_of X G (zz x hx);have T:Tb mg:=⟨zz _ (by simp),zz _ (by simp),zz _ (by simp),zz _ (by simp),zz _ (by simp),zz _ (by simp),zz _ (by simp),zz _ (by simp),zz _ (by simp),zz _ (by simp),zz _ (by simp),zz _ (by simp),zz _ (by simp),zz _ (by simp),zz _ (by simp),zz _ (by simp)⟩;obtain⟨_,_,aH,_⟩:=ir (ps:=["fields","name"]) X G wV (λ_ _ _ _ _ _ _ h=>by obtain⟨_,_,rfl⟩:=len2 h;rfl);obtain⟨_,_,a9,_⟩:=ir (ps:=["pairs"]) X G wW (λ_ _ _ _ _ _ _ h=>by obtain⟨_,rfl⟩:=len1 h;rfl);obtain⟨_,_,ae,_⟩:=ir (ps:=["kind","value"]) X G wX (λ_ _ _ _ _ _ _ h=>by obtain⟨_,_,rfl⟩:=len2 h;rfl);obtain⟨_,_,Y,_⟩:=ir (ps:=XS) X G wY (λ_ _ _ _ _ _ _ h=>by obtain⟨_,_,rfl⟩:=len2 h;rfl);obtain⟨_,_,aO,_⟩:=ir (ps:=XS) X G wZ (λ_ _ _ _ _ _ _ h=>by obtain⟨_,_,rfl⟩:=len2 h;rfl);obtain⟨_,_,ar,_⟩:=ir (ps:=["kind","rows"]) X G w6 (λ_ _ _ _ _ _ _ h=>by obtain⟨_,_,rfl⟩:=len2 h;rfl);obtain⟨_,_,aI,_⟩:=ir (ps:=["value"]) X G w_ (λ_ _ _ _ _ _ _ h=>by obtain⟨_,rfl⟩:=len1 h;rfl);obtain⟨_,_,au,_⟩:=ir (ps:=["kind","tree"]) X G xa (λ_ _ _ _ _ _ _ h=>by obtain⟨_,_,rfl⟩:=len2 h;rfl);obtain⟨_,_,ag,_⟩:=ir (ps:=["fields","value"]) X G xb (λ_ _ _ _ _ _ _ h=>by obtain⟨_,_,rfl⟩:=len2 h;rfl);obtain⟨_,_,bD,_⟩:=ir (ps:=["kind"]) X G xc (λ_ _ _ _ _ _ _ h=>by obtain⟨_,rfl⟩:=len1 h;rfl);obtain⟨_,_,bp,_⟩:=ir (ps:=["fields"]) X G xf (λ_ _ _ _ _ _ _ h=>by obtain⟨_,rfl⟩:=len1 h;rfl);obtain⟨_,_,bx,_⟩:=ir (ps:=["kind","row"]) X G xg (λ_ _ _ _ _ _ _ h=>by obtain⟨_,_,rfl⟩:=len2 h;rfl);obtain⟨_,_,aq,_⟩:=ir (ps:=["kind","seen"]) X G xh (λ_ _ _ _ _ _ _ h=>by obtain⟨_,_,rfl⟩:=len2 h;rfl);obtain⟨_,_,ah,_⟩:=ir (ps:=["stands"]) X G xi (λ_ _ _ _ _ _ _ h=>by obtain⟨_,rfl⟩:=len1 h;rfl);obtain⟨_,_,aM,_⟩:=ir (ps:=Xm) X G xj (λ_ _ _ _ _ _ _ h=>by obtain⟨_,_,_,rfl⟩:=ng h;rfl);obtain⟨_,_,ba,_⟩:=ir (ps:=Xa) X G xl (λ_ _ _ _ _ _ _ h=>by obtain⟨_,_,_,_,_,rfl⟩:=F3 h;rfl);obtain⟨_,_,aC,_⟩:=ir (ps:=Xh) X G xm (λ_ _ _ _ _ _ _ h=>by obtain⟨_,_,rfl⟩:=len2 h;rfl);obtain⟨_,_,aN,_⟩:=ir (ps:=Xf) X G xn (λ_ _ _ _ _ _ _ h=>by obtain⟨_,_,rfl⟩:=len2 h;rfl);obtain⟨_,_,bv,_⟩:=ir (ps:=["record","names"]) X G xo (λ_ _ _ _ _ _ _ h=>by obtain⟨_,_,rfl⟩:=len2 h;rfl);obtain⟨_,_,L,_⟩:=ir (ps:=XG) X G xp (λ_ _ _ _ _ _ _ h=>by obtain⟨_,_,rfl⟩:=len2 h;rfl);obtain⟨_,_,bw,_⟩:=ir (ps:=XG) X G xq (λ_ _ _ _ _ _ _ h=>by obtain⟨_,_,rfl⟩:=len2 h;rfl);obtain⟨_,_,bz,_⟩:=ir (ps:=XG) X G xr (λ_ _ _ _ _ _ _ h=>by obtain⟨_,_,rfl⟩:=len2 h;rfl);obtain⟨_,_,ai,_⟩:=ir (ps:=Xd) X G xt (λ_ _ _ _ _ _ _ h=>by obtain⟨_,_,_,rfl⟩:=ng h;rfl);obtain⟨_,_,a1,_⟩:=ir (ps:=XG) X G xu (λ_ _ _ _ _ _ _ h=>by obtain⟨_,_,rfl⟩:=len2 h;rfl);obtain⟨_,_,ab,_⟩:=ir (ps:=XI) X G xv (λ_ _ _ _ _ _ _ h=>by obtain⟨_,_,_,_,rfl⟩:=mw h;rfl);obtain⟨_,_,bg,_⟩:=ir (ps:=XI) X G xw (λ_ _ _ _ _ _ _ h=>by obtain⟨_,_,_,_,rfl⟩:=mw h;rfl);obtain⟨_,_,aJ,_⟩:=ir (ps:=Xc) X G xx (λ_ _ _ _ _ _ _ h=>by obtain⟨_,_,_,rfl⟩:=ng h;rfl);obtain⟨_,_,bA,_⟩:=ir (ps:=XX) X G xy (λ_ _ _ _ _ _ _ h=>by obtain⟨_,_,rfl⟩:=len2 h;rfl);obtain⟨_,_,aj,_⟩:=ir (ps:=XM) X G xA (λ_ _ _ _ _ _ _ h=>by obtain⟨_,_,_,_,rfl⟩:=mw h;rfl);obtain⟨_,_,az,_⟩:=ir (ps:=XZ) X G xB (λ_ _ _ _ _ _ _ h=>by obtain⟨_,_,_,rfl⟩:=ng h;rfl);obtain⟨_,_,bb,_⟩:=ir (ps:=XY) X G xC (λ_ _ _ _ _ _ _ h=>by obtain⟨_,_,_,rfl⟩:=ng h;rfl);obtain⟨_,_,a2,_⟩:=ir (ps:=["_law_kind_here"]) X G xD (λ_ _ _ _ _ _ _ h=>by obtain⟨_,rfl⟩:=len1 h;rfl);obtain⟨_,_,a3,_⟩:=ir (ps:=XT) X G xE (λ_ _ _ _ _ _ _ h=>by obtain⟨_,_,_,_,rfl⟩:=mw h;rfl);obtain⟨_,_,a4,_⟩:=ir (ps:=Xi) X G xF (λ_ _ _ _ _ _ _ h=>by obtain⟨_,_,rfl⟩:=len2 h;rfl);obtain⟨_,_,bc,_⟩:=ir (ps:=XQ) X G xG (λ_ _ _ _ _ _ _ h=>by obtain⟨_,_,_,_,rfl⟩:=mw h;rfl);obtain⟨_,_,bd,_⟩:=ir (ps:=XJ) X G xH (λ_ _ _ _ _ _ _ h=>by obtain⟨_,_,_,_,rfl⟩:=mw h;rfl);obtain⟨_,_,bm,_⟩:=ir (ps:=XW) X G xI (λ_ _ _ _ _ _ _ h=>by obtain⟨_,_,_,rfl⟩:=ng h;rfl);obtain⟨_,_,bQ,hB⟩:=ir (ps:=["_law_script"]) X G xJ (λ_ _ _ _ _ _ _ h=>by obtain⟨_,rfl⟩:=len1 h;rfl);subst yc
 have bB:Dn K mg "_law_rows" js (top 44) fR (W.fnOf "_law_rows" "_law_rows" (j1 (top 44)) (jz (top 44)) (gC (top 44)) .none b5 b6 b7 b4 (.ref cR) b8):=by
  have F:=u4 (st:=(top 44)) lR xK kR;exact⟨F,F.binds (λ_ _ _ _ _ _ _ h=>by obtain⟨_,_,_,_,rfl⟩:=mw h;rfl),W.mg_of X G aR⟩
 subst ye
 have aD:Dn K mg "sorted_fields" mY (top 7) fF (W.fnOf "sorted_fields" "sorted_fields" (j1 (top 7)) (jz (top 7)) (gC (top 7)) .none ca cb cc b9 (.ref cF) cd):=by
  have F:=u4 (st:=(top 7)) lF xM kF;exact⟨F,F.binds (λ_ _ _ _ _ _ _ h=>by obtain⟨_,rfl⟩:=len1 h;rfl),W.mg_of X G aF⟩
 obtain⟨_,ax⟩:=jJ (ps:=Xl) tX (λ_ _ _ _ _ _ _ h=>by obtain⟨_,_,rfl⟩:=len2 h;rfl);obtain⟨_,al⟩:=jJ (ps:=XO) tY (λ_ _ _ _ _ _ _ h=>by obtain⟨_,_,rfl⟩:=len2 h;rfl);obtain⟨_,be⟩:=jJ (ps:=XF) tZ (λ_ _ _ _ _ _ _ h=>by obtain⟨_,_,_,rfl⟩:=ng h;rfl);obtain⟨_,bf⟩:=jJ (ps:=XE) t_ (λ_ _ _ _ _ _ _ h=>by obtain⟨_,_,_,_,rfl⟩:=mw h;rfl);obtain⟨_,aQ⟩:=jJ (ps:=["self"]) ua (λ_ _ _ _ _ _ _ h=>by obtain⟨_,rfl⟩:=len1 h;rfl);obtain⟨_,bU⟩:=jJ (ps:=XV) ub (λ_ _ _ _ _ _ _ h=>by obtain⟨_,_,rfl⟩:=len2 h;rfl);obtain⟨_,an⟩:=jJ (ps:=Xn) uc (λ_ _ _ _ _ _ _ h=>by obtain⟨_,_,rfl⟩:=len2 h;rfl);obtain⟨_,ac⟩:=jJ (ps:=XO) ud (λ_ _ _ _ _ _ _ h=>by obtain⟨_,_,rfl⟩:=len2 h;rfl);obtain⟨_,aS⟩:=jJ (ps:=XF) ue (λ_ _ _ _ _ _ _ h=>by obtain⟨_,_,_,rfl⟩:=ng h;rfl);obtain⟨_,aT⟩:=jJ (ps:=XE) uf (λ_ _ _ _ _ _ _ h=>by obtain⟨_,_,_,_,rfl⟩:=mw h;rfl);obtain⟨_,ak⟩:=jJ (ps:=Xb) ug (λ_ _ _ _ _ _ _ h=>by obtain⟨_,_,_,_,_,rfl⟩:=F3 h;rfl);obtain⟨_,aE⟩:=jJ (ps:=["self"]) uh (λ_ _ _ _ _ _ _ h=>by obtain⟨_,rfl⟩:=len1 h;rfl);obtain⟨_,aG⟩:=jJ (ps:=XV) ui (λ_ _ _ _ _ _ _ h=>by obtain⟨_,_,rfl⟩:=len2 h;rfl);obtain⟨_,av⟩:=jJ (ps:=XO) uj (λ_ _ _ _ _ _ _ h=>by obtain⟨_,_,rfl⟩:=len2 h;rfl);obtain⟨_,bn⟩:=jJ (ps:=XF) um (λ_ _ _ _ _ _ _ h=>by obtain⟨_,_,_,rfl⟩:=ng h;rfl);obtain⟨_,bo⟩:=jJ (ps:=XE) uq (λ_ _ _ _ _ _ _ h=>by obtain⟨_,_,_,_,rfl⟩:=mw h;rfl);obtain⟨_,a5⟩:=jJ (ps:=["self"]) uu (λ_ _ _ _ _ _ _ h=>by obtain⟨_,rfl⟩:=len1 h;rfl);obtain⟨_,a6⟩:=jJ (ps:=XV) uv (λ_ _ _ _ _ _ _ h=>by obtain⟨_,_,rfl⟩:=len2 h;rfl);have e:=cw.symm.trans bQ.m
 cases e;refine⟨_,λs v=>.of_eq (hB [v] rfl),λbase X1 _ ce=>?_⟩;have cs:=W.codeHd_of_K X1 yd;have cu:=W.codeHd_of_K X1 yf;obtain⟨t1,t2,t3,t4,t5,t6⟩:=x_;obtain⟨r1,r2,r3,r4,r5,r6⟩:=ya;obtain⟨o1,o2,o3,o4,o5,o6⟩:=yb;have MI:=ij.meth tX;have MB:=ij.meth uc;have TK:lS K mg aa aA aP bi bj aV aW:=⟨⟨t1,t2,t3,t4⟩,xS,⟨t5,MI.1,MI.2,t6⟩,W.mg_of X G xN,ij.meth tY,ij.meth tZ,ij.meth t_,ij.meth ua,ij.meth ub⟩;have BO:mj K mg J aw aB aX aY am aK aL:=⟨⟨r1,r2,r3,r4⟩,xT,⟨r5,MB.1,MB.2,r6⟩,W.mg_of X G xO,ij.meth ud,ij.meth ue,ij.meth uf,ij.meth ug,ij.meth uh,ij.meth ui⟩;have TO:tR K mg ay aZ bt bu a7 a8:=⟨⟨o1,o2,o3,o4⟩,⟨o5,xU,o6⟩,W.mg_of X G xP,ij.meth uj,ij.meth um,ij.meth uq,ij.meth uu,ij.meth uv⟩;have XC:tL K mg "CantPut" af:=⟨W.mg_of X G xR,xV,xW,xX⟩;have XN:tL K mg "NoView" ao:=⟨W.mg_of X G xQ,xY,xZ,x6⟩;have N0:=qK (P:=l.prog) (w:=w) (base:=base) T L;have N:=sP N0;have cf:=DM T ai L N;have Pl:=vJ T a1 L N;have cg:=λd=>kind_all (P:=l.prog) (w:=w) (base:=base) T aJ L a1 ai ab bg d;have F0:=vL 0 T ab ai cf aJ (cg 0);have F1:=vL 1 T ab ai cf aJ (cg 1);have cE:d_ l.prog w K mg base f_ 7 _ _ _ (wR K):=Nv F1 (F0.mono (by decide));have V_:=Ec (P:=l.prog) (w:=w) T aj bB rfl cs ce L bw bz bA;have M:=Em (P:=l.prog) (w:=w) (base:=base) T ae Y aO ar bx au aI ag aH;have AA:=Ex (P:=l.prog) (w:=w) (base:=base) T az 95;have Ka:=Ee (P:=l.prog) (w:=w) (base:=base) T aH;have SF:=LA (P:=l.prog) (w:=w) T aD rfl cu ce;have cG:=LC T a9 aD SF;have AS:=LJ (P:=l.prog) (w:=w) (base:=base) T ah;have EO:=LL (P:=l.prog) (w:=w) (base:=base) (K:=K) T aC aH Ka;have cH:=LN (P:=l.prog) (w:=w) (base:=base) (K:=K) true T aN;have cI:=LP (P:=l.prog) (w:=w) (base:=base) (K:=K) T bv;have EM:=wB (P:=l.prog) (w:=w) (base:=base) T bD bp 8;have BL:=E6 (P:=l.prog) (w:=w) (base:=base) T a2 7;have TI:=Mg (P:=l.prog) (w:=w) (base:=base) T TK ax;have TB:=Mi T TK al ah AS aC EO aN cH a9 cG;have TS:=Ml T TK be bv cI;have TG:=Mn (P:=l.prog) (w:=w) (base:=base) T aQ;have AF:=Mo 15 48 T aq ae (M 15).1;have IP:=Ef (P:=l.prog) (w:=w) (base:=base) T aI;have TT:=E9 15 48 (by decide) T au aI IP ae (M 15).1 95;have HJ:=Eg (P:=l.prog) (w:=w) (base:=base) T aO;have RM:=Eh 0 T Y aO HJ ae (M 0).1;have cJ:=D8 (P:=l.prog) (w:=w) (base:=base) T bx;have WM:=Ej 0 T ar Y RM bx cJ;have cK:=El 0 T ag aI IP aH Ka ae (M 0).1;have MT:=Me 95 15 143 T ae Y RM ar WM au TT ag cK (by decide);have cL:=Mp 95 15 144 T aq ae MT;have TP:=Mr 15 49 T TK bf aq AF al TB (by decide);have BI:=Mx T TK XN aM al TB;have PI:=Mz 15 50 T TK XC ba bf TP;have cM:=MC (P:=l.prog) (w:=w) (base:=base) T BO an;have ci:=ME T BO ac ah AS aM BI;have cN:=MG T TK BO aE aQ TG;have cO:=MJ (P:=l.prog) (w:=w) (base:=base) T aG;have cP:=Fk (P2:=PF) T TK BO be TS aS 95;have cQ:=Fm 15 51 (by decide) T BO ba PI bD EM ak 95;have cS:=MQ 95 15 146 (by decide) T BO (by decide) aT ac ci aq (cL.mono (by decide)) ak (cQ.mono (by decide));have cj:=MS T av ah AS;have cT:=MV (P:=l.prog) (w:=w) (base:=base) T bn;have cU:=MX 15 49 (by decide) T TO bo av cj aq AF;have cV:=MZ (P:=l.prog) (w:=w) (base:=base) T a5;have cW:=M1 (P:=l.prog) (w:=w) (base:=base) T a6;have SH:=Fu (P:=l.prog) (w:=w) (base:=base) T a4 95;have BA:=Fx T a2 BL bc 95;have GR:=M_ T a3 aj (V_ 60) L N0;have SE:=Ng T bd a3 GR aj (V_ 67);have SO:=Nd T bb L N;have cX:=Ni 95 15 96 (by decide) T TO bm az AA av cj bn cT bo (cU.mono (by decide)) a5 cV;exact Nu yg T TK BO TO bQ L N ab cE bb SO aj (V_ 67) bd SE ax TI an cM ac ci aE cN aG cO a6 cW bc BA az AA aT cS aS cP a4 SH bm cX
theorem Nz {K:W.Frag}{x:Str}{f c P:Addr}{oc L:Value}{od U:Option Addr}{fd:FuncData}{sl Y:Array (Option Value)}{J:Array Value}(a:W.nsIn K mainGlobals x=some (some (.ref f)))(l:K.lookup f=some ⟨oc,od,.func fd,sl⟩)(hc:fd.code=.ref c)
 (lc:K.lookup c=some ⟨L,U,.fields J,Y⟩) (hP:J[11]? =some (.ref P)):W.tabIn K x=some (c,P):=by
 unfold W.tabIn;rw[a];dsimp only;rw[l];dsimp only;rw[hc];dsimp only;rw[lc];dsimp only;rw[hP]
def NA (K:W.Frag) (J:List (Addr × Addr)):Sp:=λvs H Q _=>∃(a:Addr) (ns:List Int),vs=[.ref a]/\ki K H a ns/\ns.length<=63/\(∀q∈J,H q.2=some (.iQ #[]))/\∀H',Q (.bl true) H'
theorem ki.ofT {K:W.Frag}{H:Hp}{a:Addr}{ns:List Int}{J:List Addr}(o:rZ J H)(h:gi K H a (ns.map V.int)):ki K H a ns:=by
 rcases h with(h|h)|h
 . rcases o a with z|⟨L,xs,z⟩|⟨_,z⟩ <;> rw[h] at z <;> cases z
 . exact .inl h
 . exact .inr h
theorem walk {l:W.OpenLaw}{q:Program}{loose:List Str}{XP:(Str->Option Value)->Heap->Prop}{YP:World->Heap->Prop}{d:DefRec}{K:Params->W.Frag}(hn:l.most=some 63)(aa:d.params.defaults=[])
 (hY:∀(w:World) (h:Heap),YP w h->(K w.params).In h) (ab:∀w:World,W.noTabs (K w.params)=true) (L:∀y∈(["_law_rows","sorted_fields"]:List Str),∃d',(PyProof.Rows.recsOf q).find? (λe=>e.name == y)=some d')
 (F:∀w:World,∃c Pt U P2:Addr,W.tabIn (K w.params) "_law_rows"=some (c,Pt)/\W.tabIn (K w.params) "sorted_fields"=some (U,P2)/\∀(mg:Str->Option Value) (Y:Addr) (h:Heap),(K w.params).In h->h.Ns mainGlobals mg->mg d.name=some (.ref Y)->
   ∃fd:FuncData,(∀(s:Shared) (u:Value),BindsTo s fd ⟨[u],[]⟩ [("_law_script",u)])/\∀base:Heap,(K w.params).In base->base.Ns mainGlobals mg->BM mg base->d_ l.prog w (K w.params) mg base f_ 150 Y fd ["_law_script"] (wQ (K w.params) Pt P2)):
 W.WalkO q loose XP YP l.row.toRowW d [] (λf vs=>PySem.call f vs):=
 L2.JP (n:=63) (k:=150) (x:="_law_script") (names:=["_law_rows","sorted_fields"]) (sp:=λw J=>NA (K w.params) J) hn (by decide) aa ⟨rfl,by decide,by decide⟩ hY ab (λw=>by
   obtain⟨c,Pt,U,P2,ht,qP,F⟩:=F w;refine⟨[(c,Pt),(U,P2)],λq' hq=>?_,λmg Y h X G hm=>?_⟩
   . simp only[Q0v,Q1s,or_false] at hq;rcases hq with e|e
     . exact⟨"_law_rows",by simp,by rw[e];exact ht⟩
     . exact⟨"sorted_fields",by simp,by rw[e];exact qP⟩
   obtain⟨fd,hb,hF⟩:=F mg Y h X G hm;exact⟨fd,hb,λbase X1 G1 B=>(hF base X1 G1 B).imp λvs H Q E ⟨a,ns,e,hS,hl,hT,q⟩=>⟨a,ns,e,hS,hl,.inl (hT (c,Pt) (by simp)),.inl (hT (U,P2) (by simp)),q⟩⟩)
   L λw J H a ns hl hO ac ae=>⟨a,ns,rfl,ki.ofT hO ae,hl,ac,λ_=>rfl⟩
end Pb
open W PyProof.Rows
set_option maxRecDepth 100000 in
set_option maxHeartbeats 0 in
theorem PySem.Challenge.cw_putback_k56_top_and_boughs_holds : PySem.Challenge.rw_putback_k56_top_and_boughs.Holds := by
 w_on
 refine holds_law Pb.said λsaid=>?_;refine holds_open (q:=Pb.qv) (loose:=[]) (Xt:=λs=>xlAt Pb.qv [] s && recOk (RowW.records (PySem.W.OpenRow.toRowW (PySem.W.OpenLaw.row PySem.Challenge.rw_putback_k56_top_and_boughs))) s) (XP:=XL Pb.qv []) (Yf:=Hook.obs (PySem.W.kmHook Pb.KK Pb.ni Pb.nV [86,483,545])) (Ya:=Hook.val (PySem.W.kmHook Pb.KK Pb.ni Pb.nV [86,483,545])) (YP:=Hook.says (PySem.W.kmHook Pb.KK Pb.ni Pb.nV [86,483,545])) (N:=11013) ?hl (Hook.of (PySem.W.kmHook Pb.KK Pb.ni Pb.nV [86,483,545])) (Hook.keeps (PySem.W.kmHook Pb.KK Pb.ni Pb.nV [86,483,545])) (λs e=>xl_of s (Bool.and_eq_true_iff.mp e).1) XL.keeps (by rfl) (by rfl) (by rfl) (λs e=>recFacts_of (Bool.and_eq_true_iff.mp e).2) (by rfl) (by first|assumption|decide +kernel) (by decide +kernel) ⟨rfl,rfl,rfl,rfl,rfl,by decide +kernel⟩ ?hw ?hc
 case hl=>exact Pb.Gi (by rfl) (by rfl) (λs=>rfl) (by rfl) (List.take_append_drop 27 Pb.uz).symm (λP=>by kernel_rfl) Pb.Gs (Pb.Gj Pb.Gu (Pb.Gk Pb.Gv Pb.Gw Pb.Gx))
 (case hw=>w_witness2)
 k_fill
 refine Pb.walk (l:=PySem.Challenge.rw_putback_k56_top_and_boughs) rfl rfl (λw h Y=>PySem.W.km_in_of Y) (λw=>by kernel_rfl) ?HR ?F
 case HR=>intro y hy;simp only[Q0v,Q1s,or_false] at hy;rcases hy with rfl|rfl <;> exact⟨_,rfl⟩
 case F=>
  intro w
  refine' ⟨_,_,_,_,?ht,?qP,?GG⟩
  case ht|qP=>
   refine' Pb.Nz ?ta ?tl ?tc ?NB ?tP
   (case ta=>k_is);(case tl=>k_is);(case tc=>rfl);(case NB=>k_is);(case tP=>rfl)
  case GG=>
   intro mg fa h KX G hmg
   refine' Pb.all_mk KX G hmg ?wV ?wW ?wX ?wY ?wZ ?w6 ?w_ ?xa ?xb ?xc ?xf ?xg ?xh ?xi ?xj ?xl ?xm ?xn ?xo ?xp ?xq ?xr ?xt ?xu ?xv ?xw ?xx ?xy ?xA ?xB ?xC ?xD ?xE ?xF ?xG ?xH ?xI ?xJ ?aR ?lR ?xK ?kR ?aF ?lF ?xM ?kF ?zz ?xN ?F4 ?F5 ?xO ?F6 ?F7 ?xP ?F8 ?F9 ?xQ ?F_ ?Ga ?xR ?Gb ?Gc ?tX ?tY ?tZ ?t_ ?ua ?ub ?uc ?ud ?ue ?uf ?ug ?uh ?ui ?uj ?um ?uq ?uu ?uv ?xS ?xT ?xU ?xV ?xW ?xX ?xY ?xZ ?x6 ?x_ ?ya ?yb ?yc ?Gd ?Ge ?yd ?ye ?Gf ?Gg ?yf ?yg
   case wV|wW|wX|wY|wZ|w6|w_|xa|xb|xc|xf|xg|xh|xi|xj|xl|xm|xn|xo|xp|xq|xr|xt|xu|xv|xw|xx|xy|xA|xB|xC|xD|xE|xF|xG|xH|xI|xJ=>
    refine' Pb.Nw ?a ?l ?c ?k
    (case a=>k_is);(case l=>k_is);(case c=>k_is);(case k=>k_is)
   (case aR=>k_is);(case lR=>k_is);(case xK=>k_is);(case kR=>k_is)
   (case aF=>k_is);(case lF=>k_is);(case xM=>k_is);(case kF=>k_is)
   case zz=>intro x hx;simp only[Q0v,Q1s,or_false] at hx;rcases hx with rfl|rfl|rfl|rfl|rfl|rfl|rfl|rfl|rfl|rfl|rfl|rfl|rfl|rfl|rfl|rfl <;> k_is
   (case xN=>k_is);(case F4=>k_is);(case F5=>rfl)
   (case xO=>k_is);(case F6=>k_is);(case F7=>rfl)
   (case xP=>k_is);(case F8=>k_is);(case F9=>rfl)
   (case xQ=>k_is);(case F_=>k_is);(case Ga=>rfl)
   (case xR=>k_is);(case Gb=>k_is);(case Gc=>rfl)
   case tX|tY|tZ|t_|ua|ub|uc|ud|ue|uf|ug|uh|ui|uj|um|uq|uu|uv=>
    refine' Pb.Ny ?a ?l ?c ?k ?f ?g
    (case a=>k_is);(case l=>k_is);(case c=>k_is);(case k=>k_is);(case f=>kernel_rfl);(case g=>kernel_rfl)
   case xS|xT|xU|xV|xW|xX|xY|xZ|x6=>kernel_rfl
   case x_|ya|yb=>refine⟨?_,?_,?_,?_,?_,?_⟩ <;> kernel_rfl
   (case yc=>rfl);(case Gd=>k_is);(case Ge=>rfl);(case yd=>kernel_rfl)
   (case ye=>rfl);(case Gf=>k_is);(case Gg=>rfl);(case yf=>kernel_rfl)
   (case yg=>decide)
