import PyProof.Rows.All
import Wide.All
import OpenK.AllK
import Wide.FinOn
import Lean
import PyProof.EqAt
import PyProof.EqKinds
import PyProof.TupleCall
import KE.KSortAsk
import PyProof.NeKinds
import PyProof.StationsW
import PyProof.ExcClass3
import PyProof.Rows.Own
import PyProof.NsDelKeeps
import KE.KIsAll
import PyProof.ExcAttrAll.ValueError
import PyProof.IsiH_list
import PyProof.Rows.FStr
import PyProof.FString4
import PyProof.StrLawsRepr
import PyProof.Rows.StrMeet
import KE.KEqDict
import PyProof.ExcInit
import PyProof.InstStoreFacts
import PyProof.Rows.SetFrom
import PyProof.Draws
import KE.KDictOf
import PyProof.DictUpdate
import PySem.Challenge.RW_putback_k44_each_take_twice
abbrev XA:List PySem.Str:=["_law_kind_here","_law_names_here","_law_source","_law_first","_law_second","_law_firsts","_law_seconds","_law_row","_law_name","_law_inner"]
abbrev XB:List PySem.Str:=["_law_script","_law_at"]
abbrev XD:List PySem.Str:=["_law_a","_law_b","_law_kind_here","_law_found","_law_due_here","_law_name","_law_inner"]
abbrev XE:List PySem.Str:=["_law_kind_here","_law_found","_law_due_here","_law_name","_law_inner"]
abbrev XF:List PySem.Str:=["_law_script","_law_at","_law_m","_law_kind_here","_law_pool_here","_law_source","_law_names_here","_law_fields_here","_law_shown","_law_first","_law_second","_law_view","_law_once","_law_new","_law_twice"]
abbrev XG:List PySem.Str:=["_law_script","_law_at","_law_many","_law_deep"]
abbrev XH:List PySem.Str:=["_law_script","_law_at","_law_kind_here","_law_room"]
abbrev XI:List PySem.Str:=["_law_kind_here","_law_names_here","_law_source","_law_first","_law_second"]
abbrev XJ:List PySem.Str:=["self","kind","source","seen"]
abbrev XM:List PySem.Str:=["self","kind"]
abbrev XO:List PySem.Str:=["_law_script","_law_at","_law_kind_here","_law_pool_here","_law_room","_law_rows_here","_law_one","_law_m","_law_row"]
abbrev XQ:List PySem.Str:=["_law_script","_law_at","_law_kind_here","_law_rows_here"]
abbrev XR:List PySem.Str:=["fields","record"]
abbrev XS:List PySem.Str:=["_law_script","_law_at","_law_kind_here","_law_room","_law_made","_law_name","_law_inner","_law_top","_law_many"]
abbrev XT:List PySem.Str:=["_law_script","_law_at","_law_kind_here","_law_many"]
abbrev XU:List PySem.Str:=["_law_script","_law_at","_law_kind_here","_law_room","_law_rows_here","_law_seen","_law_k","_law_row"]
abbrev XV:List PySem.Str:=["_law_script","_law_at","_law_kind_here","_law_many","_law_lead","_law_pool_here","_law_k","_law_one"]
abbrev XW:List PySem.Str:=["_law_kind_here","_law_found","_law_due_here"]
abbrev XX:List PySem.Str:=["_law_kind_here","_law_source","_law_seen"]
abbrev XY:List PySem.Str:=["_law_kind_here","_law_row"]
abbrev XZ:List PySem.Str:=["ahead","inner","kind","source","seen"]
abbrev Xa:List PySem.Str:=["_law_script","_law_at","_law_deep"]
abbrev Xb:List PySem.Str:=["_law_script","_law_at","_law_many"]
abbrev Xc:List PySem.Str:=["fields","names"]
abbrev Xd:List PySem.Str:=["_law_script","_law_at","_law_kind_here","_law_pool_here","_law_room"]
abbrev Xe:List PySem.Str:=["_law_script","_law_at","_law_many","_law_deep","_law_names_here"]
abbrev Xf:List PySem.Str:=["kind","names"]
abbrev Xg:List PySem.Str:=["kind","rows"]
abbrev Xh:List PySem.Str:=["self","name"]
abbrev Xi:List PySem.Str:=["_law_m","_law_kind_here"]
abbrev Xj:List PySem.Str:=["record","name","value"]
abbrev Xk:List PySem.Str:=["self","names"]
abbrev Xl:List PySem.Str:=["ahead","inner","kind"]
abbrev Xm:List PySem.Str:=["self","inner"]
abbrev Xn:List PySem.Str:=["_law_rows","_law_some","sorted_fields"]
theorem zzx {α:Sort _}{β:α->Sort _}{γ:∀a,β a->Sort _}{δ:∀a b,γ a b->Sort _}{p:∀a b c,δ a b c->Prop}{G:Prop}(h:∃a b c d,p a b c d)(k:∀a b c d,p a b c d->G):G:=let⟨a,b,c,d,e⟩:=h;k a b c d e
theorem zza {A B C D E G:Prop}(h:A/\B/\C/\D/\E)(k:A->B->C->D->E->G):G:=k h.1 h.2.1 h.2.2.1 h.2.2.2.1 h.2.2.2.2
local macro_rules|`(tactic|obtain⟨$s,*⟩:=$t)=>do
 let a:=s.getElems;if a.size<6 then Lean.Macro.throwUnsupported
 let b:=a.extract 4 a.size;let q←(a.extract 0 4).mapM λp=>`(rintroPat|($p:rcasesPatLo));let c←match t with|`($x:ident)=>`(tactic|try clear $x)|_=>`(tactic|skip)
 `(tactic|((first|refine zzx $t ?_|refine zza $t ?_);$c;rintro $q* e;obtain⟨$b,*⟩:=e))
open Nat renaming le_refl→Q0,ne_of_lt→Q08,zero_le→Q0a,le_trans→Q0c,lt_of_lt_of_le→Q0f,lt_irrefl→Q0r,le_of_lt→Q0s,ne_of_gt→Q0t,lt_succ_self→Q1,mul_le_mul_right→Q12,le_succ→Q14,not_lt_zero→Q16,le_of_not_lt→Q1e,lt_of_le_of_lt→Q1l,le_add_right→Q1o,succ_mul→Q1q,le_of_eq→Q1w,add_le_add_left→Q2f,lt_succ_of_lt→Q2k,le_max_left→Q2m,le_max_right→Q2n,mul_left_comm→Q32,add_le_add_right→Q36,mul_le_mul_left→Q37,le_mul_of_pos_right→Q38,sub_succ_lt_self→Q3b,succ_le_succ→Q3c,min_eq_left→Q3h,min_eq_right→Q3i
open PySem renaming wpAny_bind→Q00,wpAny_pure→Q0d,wpAny_mono→Q0n
open List renaming mem_cons_self→Q01,getElem?_eq_getElem→Q03,mem_cons_of_mem→Q04,length_map→Q05,size_toArray→Q06,mem_append_right→Q07,getD_eq_getElem?_getD→Q0b,length_append→Q0e,mem_of_getElem?→Q0g,getElem?_map→Q0h,map_append→Q0i,length_cons→Q0k,take_succ→Q0l,mem_append_left→Q0m,length_take→Q0o,take_length→Q0u,getElem_of_mem→Q0v,map_cons→Q0w,all_eq_true→Q0x,nodup_nil→Q0y,take_of_length_le→Q0z,map_congr_left→Q10,getElem_mem→Q11,mem_cons→Q13,mem_map_of_mem→Q17,length_filter_le→Q19,getElem_inj→Q1a,any_cons→Q1c,find?_cons→Q1d,flatten_append→Q1f,not_mem_nil→Q1h,append_nil→Q1j,length_singleton→Q1k,lookup_cons→Q1m,pairwise_map→Q1p,append_assoc→Q1r,replicate_succ→Q1s,getElem_take→Q1t,any_eq_true→Q1u,getElem?_set_ne→Q1v,length_range→Q1z,foldl_cons→Q2,any_map→Q22,filter_append→Q23,filter_cons→Q24,mem_singleton→Q25,map_map→Q26,filterMap_cons→Q27,getElem?_set_self→Q28,of_mem_zip→Q29,getElem?_append_right→Q2a,length_replicate→Q2b,all_cons→Q2d,getElem_map→Q2g,ext_getElem→Q2h,pairwise_singleton→Q2i,zip_cons_cons→Q2l,getElem?_zip_eq_some→Q2o,getElem?_replicate→Q2q,getElem?_append_left→Q2r,take_sublist→Q2s,length_drop→Q2t,length_nil→Q2v,forIn_cons→Q2w,lt_irrefl→Q30,perm_cons→Q31,mem_nil_iff→Q33,range_succ→Q35,eq_of_mem_replicate→Q39,take_zero→Q3a,length_zip→Q3d,find?_cons_of_pos→Q3e,find?_cons_of_neg→Q3f,find?_append→Q3g,drop_of_length_le→Q3j
open PySem.Heap renaming lt_size→Q02,get?_push_of_some→Q09,get?_push_size→Q0j,get?_update_other→Q15,size_push→Q1b,get?_update_self→Q1x,size_update→Q2j,get?_push_ne→Q2z
open Int renaming emod_nonneg→Q0p,emod_lt_of_pos→Q0q,mul_le_mul_of_nonneg_right→Q18,le_refl→Q1g,natCast_add→Q20,add_mul→Q21,toNat_natCast→Q2c,lt_of_lt_of_le→Q34
open Array renaming length_toList→Q1i,getD_eq_getD_getElem?→Q1n,getElem?_eq_getElem→Q1y,empty_append→Q2p,size_append→Q2y,forIn_toList→Q3
open Option renaming isSome_map→Q2e,getD_none→Q2u,getD_some→Q2x
set_option genSizeOf false
set_option Elab.async false
set_option linter.all false
set_option maxRecDepth 100000
set_option maxHeartbeats 4000000
open PySem
theorem xA:2<=PySem.sizeLine:=by decide
namespace L2
open Spec PyProof.Rows
noncomputable def i_ (s:Stmt):Arguments:=match s with
 | .FunctionDef _ a _ _ _ _ _ _ _ _=>a
 |_=>{ posonlyargs:=[],args:=[],vararg:=none,kwonlyargs:=[],kw_defaults:=[],kwarg:=none,defaults:=[] }
noncomputable def iJ (s:Stmt):List Stmt:=match s with
 | .FunctionDef _ _ b _ _ _ _ _ _ _=>b
 |_=>[]
noncomputable def fM (s:Stmt):Scope:=match s with
 | .FunctionDef _ _ _ _ _ _ sc _ _ _=>sc
 |_=>{ kind:=.function,names:=[],isGenerator:=false,isCoroutine:=false }
end L2
namespace Pb
open L2
noncomputable def top (i:Nat):Stmt:=PySem.Challenge.pw_putback_k44_each_take_twice.main.body.getD i (.Pass ⟨0,0,0,0⟩)
noncomputable def fX (i j:Nat):Stmt:=match top i with
 | .ClassDef _ _ _ body _ _ _ _ _ _ _=>body.getD j (.Pass ⟨0,0,0,0⟩)
 |_=>.Pass ⟨0,0,0,0⟩
end Pb
namespace Pb
open W
noncomputable def treeOf:List Obj->Nat->BT->Option BT
 |[],_,t=>some t
 |o::l,n,t=>match((t.ins n o).get n).isSome with
  |true=>treeOf l (n+1) (t.ins n o)
  |false=>none
theorem xB {life:Life}:∀(l:List Obj) (n:Nat) (t t':BT),treeOf l n t=some t'->absHeap t' (n+l.length) life=⟨(absHeap t n life).objs++l.toArray,life⟩
 |[],n,t,t',h=>by
  cases h;show absHeap t n life=_;have:(absHeap t n life).objs++#[]=(absHeap t n life).objs:=Array.append_empty;rw[this];rfl
 |o::l,n,t,t',h=>by
  unfold treeOf at h
  cases e:((t.ins n o).get n).isSome with
  |false=>rw[e] at h;cases h
  |true=>
   rw[e] at h;have:=xB (life:=life) l (n+1) _ t' h;rw[absHeap_ins e] at this;have J:n+(o::l).length=n+1+l.length:=by rw[Q0k];omega
   rw[J,this];show Heap.mk ((absHeap t n life).objs.push o++l.toArray) life=_;congr 1;apply Array.ext';simp
noncomputable def oX (tb:String->Option Builtin) (p:Program) (w:World) (J:Nat) (L:Option Value):Nat->SharedT->Thread->Option SharedT
 |0,_,_=>none
 |n+1,s,t=>match through t with
  |true=>some s
  |false=>match stepOk J L t with
   |false=>none
   |true=>match stepT (denote tb) p w s t with
    |some (s',t')=>oX tb p w J L n s' t'
    |none=>none
theorem xC {tb:String->Option Builtin}{p:Program}{w:World}{J:Nat}{L:Option Value}:∀{n:Nat}{s s':SharedT}{t:Thread},oX tb p w J L n s t=some s'->topRun tb p w J L n s.abs t=some s'.abs
 |0,_,_,_,h=>by cases h
 |n+1,s,s',t,h=>by
  unfold oX at h;unfold topRun
  cases Y:through t with
  |true=>rw[Y] at h;cases h;rfl
  |false=>
   rw[Y] at h
   cases hk:stepOk J L t with
   |false=>rw[hk] at h;cases h
   |true=>
    rw[hk] at h
    cases U:stepT (denote tb) p w s t with
    |none=>rw[U] at h;cases h
    |some r=>obtain⟨aa,ab⟩:=r;rw[U] at h;rw[stepT_spec U];exact xC h
noncomputable abbrev mF:=@W.Fast.tw10156331382660048174
noncomputable abbrev j_:=@W.Fast.tw11892475500146522536
noncomputable abbrev ka:=@W.Fast.tw14364793385576792824
noncomputable abbrev oY:=@W.Fast.tw6613529449190102663
noncomputable abbrev seenQ:=@W.Fast.tw4187177175401517315
noncomputable def mG (p:Program) (w:World) (J:Nat) (L:Option Value):Nat->SharedT->Thread->Option SharedT
 |0,_,_=>none
 |n+1,s,t=>match through t with
  |true=>some s
  |false=>match oY J L t with
   |false=>none
   |true=>match mF (j_ ka) p w s t with
    |some (s',t')=>mG p w J L n s' t'
    |none=>none
theorem xD {p:Program}{w:World}{J:Nat}{L:Option Value}:∀(n:Nat) (s:SharedT) (t:Thread),mG p w J L n s t=oX treeTable p w J L n s t
 |0,_,_=>rfl
 |n+1,s,t=>by
  unfold mG oX;have U:oY J L t=stepOk J L t:=congrFun (congrFun (congrFun W.Fast.te6613529449190102663.symm _) _) _;have Y:mF (j_ ka) p w s t=stepT (denote treeTable) p w s t:=by rw[show @mF=@stepT from W.Fast.te10156331382660048174.symm,show @j_=@denote from W.Fast.te11892475500146522536.symm,show @ka=@treeTable from W.Fast.te14364793385576792824.symm]
  rw[U,Y];simp only[xD n]
noncomputable def looksAt (p q:Program) (loose:List Str) (Xt:Shared->Bool) {α:Type}(Yf:Shared->α) (g0:Bool) (h₀:Heap) (s:Shared):=
 ((staticsOk (importedModules p.main.body) h₀ s.heap && namesBound p s.heap && gensDone s && laidKept h₀ s.heap),seenQ q loose (importedModules p.main.body) Xt g0 s,Yf s)
noncomputable def xE:List (Nat × Obj)->BT->BT
 |[],t=>t
 |(a,o)::l,t=>xE l (t.ins a o)
noncomputable def tG:Nat->List Obj->BT->BT
 |_,[],t=>t
 |n,o::l,t=>tG (n+1) l (t.ins n o)
noncomputable def oZ (p:Program) (w:World) (J:Nat) (L:Option Value):Nat->SharedT->Thread->Option (Flow × SharedT × Code × Pos)
 |0,_,_=>none
 |n+1,s,t=>match endAt 1 t with
  |some f=>some (f,s,t.code,t.pos)
  |none=>match oY J L t with
   |false=>none
   |true=>match mF (j_ ka) p w s t with
    |some (s',t')=>oZ p w J L n s' t'
    |none=>none
theorem xF (J:Nat)(L:Option Value)(t:Thread):oY J L t=stepOk J L t:=congrFun (congrFun (congrFun W.Fast.te6613529449190102663.symm _) _) _
theorem xG:@j_ ka=denote treeTable:=by rw[show @j_=@denote from W.Fast.te11892475500146522536.symm,show @ka=@treeTable from W.Fast.te14364793385576792824.symm]
theorem xH (p:Program)(w:World)(s:SharedT)(t:Thread):mF (j_ ka) p w s t=stepT (denote treeTable) p w s t:=by rw[show @mF=@stepT from W.Fast.te10156331382660048174.symm,xG]
theorem xI {p:Program}{w:World}{J:Nat}{L:Option Value}:∀(n:Nat) (s:SharedT) (t:Thread),oZ p w J L n s t=segRunT treeTable p w J L 1 n s t
 |0,_,_=>rfl
 |n+1,s,t=>by
  unfold oZ segRunT;rw[xF,xH]
  cases endAt 1 t with
  |some f=>rfl
  |none=>
   cases stepOk J L t with
   |false=>rfl
   |true=>
    cases stepT (denote treeTable) p w s t with
    |none=>rfl
    |some r=>obtain⟨s',t'⟩:=r;exact xI n s' t'
noncomputable def o3 (tb:String->Option Builtin) (p:Program) (w:World) (J:Nat) (L:Option Value):Nat->SharedT->Thread->Option (SharedT × Thread)
 |0,s,t=>some (s,t)
 |n+1,s,t=>match through t with
  |true=>none
  |false=>match stepOk J L t with
   |false=>none
   |true=>match stepT (denote tb) p w s t with
    |some (s',t')=>o3 tb p w J L n s' t'
    |none=>none
theorem xJ {tb:String->Option Builtin}{p:Program}{w:World}{J:Nat}{L:Option Value}:∀{n:Nat}{s s':SharedT}{t t':Thread},o3 tb p w J L n s t=some (s',t')->topGo tb p w J L n s.abs t=some (s'.abs,t')
 |0,s,s',t,t',h=>by
  have h:some (s,t)=some (s',t'):=h
  cases h;rfl
 |n+1,s,s',t,t',h=>by
  unfold o3 at h;unfold topGo
  cases Y:through t with
  |true=>rw[Y] at h;cases h
  |false=>
   rw[Y] at h
   cases hk:stepOk J L t with
   |false=>rw[hk] at h;cases h
   |true=>
    rw[hk] at h
    cases U:stepT (denote tb) p w s t with
    |none=>rw[U] at h;cases h
    |some r=>obtain⟨aa,ab⟩:=r;rw[U] at h;rw[stepT_spec U];exact xJ h
noncomputable def qA (p:Program) (w:World) (J:Nat) (L:Option Value):Nat->SharedT->Thread->Option (SharedT × Thread)
 |0,s,t=>some (s,t)
 |n+1,s,t=>match through t with
  |true=>none
  |false=>match oY J L t with
   |false=>none
   |true=>match mF (j_ ka) p w s t with
    |some (s',t')=>qA p w J L n s' t'
    |none=>none
theorem xK {p:Program}{w:World}{J:Nat}{L:Option Value}:∀(n:Nat) (s:SharedT) (t:Thread),qA p w J L n s t=o3 treeTable p w J L n s t
 |0,_,_=>rfl
 |n+1,s,t=>by
  unfold qA o3;rw[xF,xH];simp only[xK n]
noncomputable def qB (p:Program) (w:World) (J:Nat) (L:Option Value) (env:Env) (c:Code) (q0:Pos) (l:List Stmt) (Y k2 k3:Nat) (s:SharedT):Option (Thread × Code × Code × SharedT × Pos):=
 match qA p w J L Y s (topStub p) with
 |none=>none
 |some (s1,U)=>match oZ p w J L k2 s1 (blockOf (behindTheImports p) env c U.pos [topFrame q0]) with
  |some (.next,s2,c2,p2)=>(match oZ p w J L k3 s2 (piecesOf l env c p2 [topFrame q0]) with
   |some (.next,s3,c3,p3)=>some (U,c2,c3,s3,p3)
   |_=>none)
  |_=>none
theorem FC {p:Program}{w:World}{J:Nat}{L:Option Value}{env:Env}{c:Code}{q0 U Y:Pos}{l rest:List Stmt}{k1 k2 k3 N:Nat}{s s3:SharedT}{r:Shared}(hb:behindTheImports p=l++rest)
 (h:qB p w J L env c q0 l k1 k2 k3 s=some (⟨j_ ka (.body (behindTheImports p) env),c,U,[topFrame q0]⟩,c,c,s3,Y))
 (k:topRun treeTable p w J L N s3.abs (restOf rest env c Y [topFrame q0])=some r):topRun treeTable p w J L (k1+(k2+(k3+N))) s.abs (topStub p)=some r:=by
 unfold qB at h;split at h
 . cases h
 next s1 t1 e1=>
  split at h
  next s2 c2 p2 e2=>
   split at h
   next aa c3 ab e3=>
    cases h;rw[xK] at e1;rw[xI] at e2 e3;have g1:=xJ e1;rw[xG] at g1;have g3:=piece_app (rest:=rest) (segRun_of e3) k;rw[<-hb] at g3;exact go_top g1 (piece_block (segRun_of e2) g3)
   . cases h
  . cases h
noncomputable def tH (P:Params):BT:=(treeOf (boot_heap P).objs.toList 0 .nil).getD .nil
noncomputable def qC (w:World) (os:OsState):SharedT:=⟨tH w.params,(boot_heap w.params).objs.size,(boot_heap w.params).life,#[],boot_drawn,boot_toks,os⟩
theorem FD {p q:Program}{loose:List Str}{Xt:Shared->Bool}{α:Type}{Yf:Shared->α}{Ya:World->α}{N:Nat}{g0:Bool}{env:Env}{c:Code}{q0 U p3:Pos}{l rest:List Stmt}{k1 k2 k3 N4 J:Nat}{L:Option Value}{S3:World->OsState->SharedT}
 (e:opening p=plainProg p.main.scope.names) (hN:Nat.ble 600 N=true) (f:∀s,fenceModules? p s=some s) (ab:N=k1+(k2+(k3+N4))) (hb:behindTheImports p=l++rest)
 (b0:∀P:Params,((boot_heap P).isNs mainGlobals,(treeOf (boot_heap P).objs.toList 0 .nil).isSome,(boot_heap P).objs.size,(boot_heap P).nsMap mainGlobals "__annotations__")=(true,true,J,L))
 (Y:∀w os,qB p w J L env c q0 l k1 k2 k3 (qC w os)=some (⟨j_ ka (.body (behindTheImports p) env),c,U,[topFrame q0]⟩,c,c,S3 w os,p3))
 (aa:∀w os,((mG p w J L N4 (S3 w os) (restOf rest env c p3 [topFrame q0])).map λ(s:SharedT)=>looksAt p q loose Xt Yf g0 (boot_heap w.params) s.abs)=some (true,openGood q loose,Ya w)):LeftO p q loose Xt Yf Ya N g0:=λw=>by
 obtain⟨⟨h,gs,d,k,os⟩,e1,e'⟩:=Option.map_eq_some_iff.mp (boot_open e hN f w);obtain⟨rfl,rfl,rfl,rfl⟩:h=boot_heap w.params/\gs=Array.mk []/\d=boot_drawn/\k=boot_toks:=by simpa using e'
 have ac:=b0 w.params;obtain⟨z,y0,hsz,ae⟩:_/\_/\_/\_:=by simpa only[Prod.mk.injEq] using ac
 obtain⟨T,y⟩:=Option.isSome_iff_exists.mp y0;obtain⟨s,r1,r2⟩:=Option.map_eq_some_iff.mp (aa w os);rw[xD] at r1;have r3:=FC hb (Y w os) (xC r1);rw[<-ab] at r3;have hT:=xB (life:=(boot_heap w.params).life) _ _ _ _ y
 have hS:SharedT.abs (qC w os)=⟨boot_heap w.params,#[],boot_drawn,boot_toks,os⟩:=by
  unfold SharedT.abs qC tH;dsimp only;rw[y];dsimp only[Option.getD];rw[Nat.zero_add,Q1i] at hT;rw[hT];have e0:(absHeap BT.nil 0 (boot_heap w.params).life).objs=#[]:=rfl;rw[e0,Q2p,Array.toArray_toList]
 rw[hS] at r3
 have t:topFrom treeTable p w N ⟨boot_heap w.params,#[],boot_drawn,boot_toks,os⟩=some s.abs:=by
  unfold topFrom;dsimp only;rw[z,hsz,ae,r3];have l1:=congrArg (λz=>z.1) r2;dsimp only[looksAt] at l1;show(match staticsOk (importedModules p.main.body) (boot_heap w.params) s.abs.heap && namesBound p s.abs.heap && gensDone s.abs && laidKept (boot_heap w.params) s.abs.heap with|true=>_|false=>_)=_;rw[l1]
 unfold openEnds;rw[e1];show(topFrom treeTable p w N _).map _=_;rw[t];have l2:=congrArg (λz=>z.2) r2;dsimp only[looksAt] at l2;rw[show @seenQ=@openSeen from W.Fast.te4187177175401517315.symm] at l2;exact congrArg some l2
theorem FE {p q:Program}{loose:List Str}{Xt:Shared->Bool}{α:Type}{Yf:Shared->α}{Ya:World->α}{g0:Bool}{U J:Nat}{L:Option Value}{Y S5:World->OsState->SharedT}{t:Thread}
 (b:∀w os,mG p w J L U (Y w os) t=some (S5 w os)) (l:∀w os,looksAt p q loose Xt Yf g0 (boot_heap w.params) (S5 w os).abs=(true,openGood q loose,Ya w)):
 ∀w os,((mG p w J L U (Y w os) t).map λ(s:SharedT)=>looksAt p q loose Xt Yf g0 (boot_heap w.params) s.abs)=some (true,openGood q loose,Ya w):=λw os=>by
 rw[b];exact congrArg some (l w os)
theorem FF {p q:Program}{loose:List Str}{Xt:Shared->Bool}{α:Type}{Yf:Shared->α}{Ya:World->α}{g0:Bool}{J:World->OsState->SharedT}
 (L:∀w os,(staticsOk (importedModules p.main.body) (boot_heap w.params) (J w os).abs.heap && namesBound p (J w os).abs.heap && gensDone (J w os).abs && laidKept (boot_heap w.params) (J w os).abs.heap)=true)
 (U:∀w os,seenQ q loose (importedModules p.main.body) Xt g0 (J w os).abs=openGood q loose) (Y:∀w os,Yf (J w os).abs=Ya w):
 ∀w os,looksAt p q loose Xt Yf g0 (boot_heap w.params) (J w os).abs=(true,openGood q loose,Ya w):=λw os=>Prod.ext (L w os) (Prod.ext (U w os) (Y w os))
end Pb
namespace Pb
open L2
noncomputable section
noncomputable def hF (x q:Str) (s:Stmt) (m:Str) (n c:Nat):Obj:=.mk (.type "function") none (.func (.mk x q (i_ s) (.stmts (iJ s)) (fM s) 3 [] .none .none .none (.str m n) none (.ref c) .none 0)) #[]
noncomputable def hR (x q:Str) (s:Stmt):Obj:=.mk .none none (.func (.mk x q (i_ s) (.stmts (iJ s)) (fM s) 0 [] .none .none .none .none none .none .none 0)) #[]
noncomputable def hC (x q:Str) (a l n k r e:Nat):Obj:=.mk (.type "code") none (.fields #[.str x a,.str q (a+1),.str (.ofString "/claim/cut.py") (a+2),.int l 0,.int n 0,.int 0 0,.int 0 0,.int k 0,.ref r,.bool true,.int 181 0,.ref (r+1),.none,.ref (r+2),.ref (r+3),.ref (r+4),.int e 0,.int l 0,.str (.ofString "/claim/cut.py") (e+1)]) #[]
noncomputable def FG (x q:Str) (a l n k r e:Nat):Obj:=.mk (.type "code") none (.fields #[.str x a,.str q (a+1),.str (.ofString "/claim/cut.py") (a+2),.int l 0,.int n 0,.int 0 0,.int 0 0,.int k 0,.ref r,.bool true,.int 181 0,.ref (r+1),.none,.none,.none,.ref (r+2),.int e 0,.int l 0,.str (.ofString "/claim/cut.py") (e+1)]) #[]
noncomputable def hK (x:Str) (a l r e:Nat):Obj:=.mk (.type "code") none (.fields #[.str x a,.str x (a+1),.str (.ofString "/claim/cut.py") (a+2),.int l 0,.int 0 0,.int 0 0,.int 0 0,.int 0 0,.ref r,.bool false,.int 181 0,.ref (r+1),.none,.none,.none,.none,.int e 0,.int l 0,.str (.ofString "/claim/cut.py") (e+1)]) #[]
noncomputable def gE (x:Str) (s:Stmt) (m:Str) (n c:Nat):Obj:=hF x x s m n c
noncomputable def gy (x:Str) (s:Stmt):Obj:=hR x x s
noncomputable def gX (x:Str) (a l n k r e:Nat):Obj:=hC x x a l n k r e
noncomputable def kH (x:Str) (a l n k r e:Nat):Obj:=FG x x a l n k r e
noncomputable def tS:Nat->List Str->List Value
 |_,[]=>[]
 |n,x::r=>.str x n::tS (n+1) r
noncomputable def hT (n:Nat) (l:List Str):Obj:=.mk (.type "tuple") none (.seq (tS n l).toArray) #[]
noncomputable def tI:List (Nat × Nat × Nat)->List Value
 |[]=>[]
 |(a,b,c)::r=>.int a 0:: .int b 0:: .ref c::tI r
noncomputable def hI (l:List (Nat × Nat × Nat)):Obj:=.mk .none none (.fields (tI l).toArray) #[]
noncomputable def hE (P:Params) (x:Str) (a:Nat) (v:Value):DictEntry:=.mk (PyData.keyHash P x) (.str x a) v
def hT0:Obj:=hT 0 []
noncomputable def gf:Obj:=.mk .none none (.fields #[]) #[]
noncomputable def lU (a b:Nat) (m:String) (n:Nat):Obj:=.mk (.type "frame") none .plain #[some (.ref a),some (.ref 3),some (.ref b),none,some (.str (.ofString m) n),none,some (.ref 0)]
noncomputable def mH (r:Nat):Obj:=.mk (.type "super") none (.fields #[.ref r,.ref r,.ref r]) #[]
noncomputable def hIs (r:Nat):Obj:=.mk (.type "builtin_function_or_method") none (.fields #[.builtin "object.__init_subclass__",.ref r]) #[]
noncomputable def jT:Obj:=.mk (.type "builtin_function_or_method") none (.fields #[.builtin "type.__prepare__",.type "type"]) #[]
noncomputable def mI (r:Nat):Obj:=.mk (.type "tuple") none (.seq #[.ref r]) #[]
noncomputable def FH:Str:="__main__"
noncomputable def xM:Str:="putback.errors"
noncomputable def tJ:Str:="putback.kinds"
noncomputable def kb:Str:="putback.values"
noncomputable def lh:Str:="putback.views"
noncomputable def lq:Str:="putback.fields"
noncomputable def mJ:Str:="putback.tables"
noncomputable def iE:Str:="law_putback_k44_each_take_twice"
noncomputable def MP (x q:Str) (s:Stmt) (m:Value) (c:Nat):Obj:=.mk (.type "function") none (.func (.mk x q (i_ s) (.stmts (iJ s)) (fM s) 3 [] .none .none .none m none (.ref c) .none 0)) #[]
noncomputable def MQ (x q:Str) (a l n k r f b e:Nat):Obj:=.mk (.type "code") none (.fields #[.str x a,.str q (a+1),.str (.ofString "/claim/cut.py") (a+2),.int l 0,.int n 0,.int 0 0,.int 0 0,.int k 0,.ref r,.bool true,.int f 0,.ref (r+1),.none,.ref (r+2),.ref (r+3),.ref (r+4),.int b 0,.int l 0,.str (.ofString "/claim/cut.py") e]) #[]
noncomputable def MR (P:Params) (x:Str) (a:Nat) (v:Value):DictEntry:=.mk (PyData.keyHash P x) (.str x a) v
noncomputable def FI:Obj:=.mk .none none (.dict #[]) #[]
noncomputable def xN (P:Params):Obj:=.mk (.type "dict") none (.dict #[hE P "__name__" 165 (.str (.ofString "law_putback_k44_each_take_twice") 693),hE P "__doc__" 166 .none,hE P "__package__" 167 .none,hE P "__loader__" 168 (.builtin "__main__.__loader__#opaque"),hE P "__spec__" 169 .none,hE P "__annotations__" 170 (.ref 6),hE P "__builtins__" 171 (.ref 4),hE P "__file__" 173 (.str (.ofString "/claim/cut.py") 172),hE P "__cached__" 174 .none,hE P "_wall" 193 (.ref 21),hE P "ViewError" 213 (.ref 31),hE P "NoKind" 229 (.ref 44),hE P "NoView" 254 (.ref 63),hE P "CantPut" 279 (.ref 82),hE P "kind_at" 290 (.ref 91),hE P "sorted_fields" 300 (.ref 98),hE P "record_of" 307 (.ref 105),hE P "misfit" 318 (.ref 112),hE P "record_misfit" 329 (.ref 119),hE P "has_just" 335 (.ref 124),hE P "rows_misfit" 347 (.ref 131),hE P "is_pair" 354 (.ref 138),hE P "tree_misfit" 365 (.ref 145),hE P "either_misfit" 375 (.ref 152),hE P "empty" 384 (.ref 159),hE P "empty_record" 394 (.ref 166),hE P "rank" 404 (.ref 173),hE P "by_key" 414 (.ref 180),hE P "ask_fit" 425 (.ref 187),hE P "ask_stands" 432 (.ref 194),hE P "behind_inner" 442 (.ref 201),hE P "put_inner" 454 (.ref 208),hE P "View" 516 (.ref 253),hE P "has_each_once" 524 (.ref 262),hE P "fields_among" 530 (.ref 267),hE P "with_field" 540 (.ref 274),hE P "Take" 608 (.ref 326),hE P "Each" 692 (.ref 387),hE P "_law_next" 704 (.ref 396),hE P "_law_number" 714 (.ref 403),hE P "_law_word" 728 (.ref 410),hE P "_law_names" 745 (.ref 417),hE P "_law_plain" 753 (.ref 424),hE P "_law_fields" 759 (.ref 429),hE P "_law_rows_kind" 777 (.ref 436),hE P "_law_kind" 787 (.ref 443),hE P "_law_rank" 795 (.ref 450),hE P "_law_rows" 810 (.ref 457),hE P "_law_value" 816 (.ref 462),hE P "_law_alike" 822 (.ref 467),hE P "_law_pool" 828 (.ref 472),hE P "_law_some" 844 (.ref 479),hE P "_law_kept" 851 (.ref 486),hE P "_law_blank" 861 (.ref 493),hE P "_law_emptied" 876 (.ref 500),hE P "_law_agree" 882 (.ref 505),hE P "_law_due" 895 (.ref 512),hE P "_law_names_taken" 901 (.ref 517),hE P "_law_round" 907 (.ref 522),hE P "law" 916 (.ref 529)] 60) #[]
def xO:Obj:=gX "_wall" 187 1 1 3 15 191
def xP:Obj:=gE "_wall" (top 0) FH 164 20
noncomputable def xQ (P:Params):Obj:=.mk (.type "dict") none (.dict #[hE P "__module__" 203 (.str (.ofString "putback.errors") 194),hE P "__firstlineno__" 207 (.int 5 206),hE P "__static_attributes__" 208 (.ref 29),hE P "__weakref__" 210 (.ref 32),hE P "__doc__" 211 .none] 3) #[]
noncomputable def xR:Obj:=.mk (.type "type") none (.cls (.mk (.ofString "ViewError") [.type "ValueError"] [.ref 31,.type "ValueError",.type "Exception",.type "BaseException",.type "object"] 30 (.ofString "ViewError") true [] [.ref 44,.ref 63,.ref 82] false none false)) #[some (.ref 22),none,some (.str (.ofString "ViewError") 196),some (.str (.ofString "ViewError") 204),some (.builtin "ValueError.__new__"),some (.bool true)]
noncomputable def xS:Obj:=.mk (.type "getset_descriptor") none (.fields #[.str (.ofString "__weakref__") 209,.ref 31,.builtin "ExceptionGroup.__weakref__",.none]) #[]
noncomputable def xT (P:Params):Obj:=.mk (.type "dict") none (.dict #[hE P "__module__" 221 (.str (.ofString "putback.errors") 194),hE P "__firstlineno__" 225 (.int 7 224),hE P "__static_attributes__" 226 (.ref 42),hE P "__doc__" 227 .none] 2) #[]
noncomputable def xU:Obj:=.mk (.type "type") none (.cls (.mk (.ofString "NoKind") [.ref 31] [.ref 44,.ref 31,.type "ValueError",.type "Exception",.type "BaseException",.type "object"] 43 (.ofString "NoKind") true [] [] false none false)) #[some (.ref 35),none,some (.str (.ofString "NoKind") 214),some (.str (.ofString "NoKind") 222),some (.builtin "ValueError.__new__"),some (.bool true)]
def xV:Obj:=hC "__init__" "NoView.__init__" 242 11 2 3 54 247
def xW:Obj:=hF "__init__" "NoView.__init__" (fX 4 0) xM 194 59
noncomputable def xX (P:Params):Obj:=.mk (.type "dict") none (.dict #[hE P "__module__" 237 (.str (.ofString "putback.errors") 194),hE P "__firstlineno__" 241 (.int 9 240),hE P "__init__" 249 (.ref 60),hE P "__static_attributes__" 251 (.ref 61),hE P "__doc__" 252 .none] 2) #[]
noncomputable def xY:Obj:=.mk (.type "type") none (.cls (.mk (.ofString "NoView") [.ref 31] [.ref 63,.ref 31,.type "ValueError",.type "Exception",.type "BaseException",.type "object"] 62 (.ofString "NoView") true [] [] false none false)) #[some (.ref 47),none,some (.str (.ofString "NoView") 230),some (.str (.ofString "NoView") 238),some (.builtin "ValueError.__new__"),some (.bool true)]
def xZ:Obj:=hC "__init__" "CantPut.__init__" 267 15 2 3 73 272
def x6:Obj:=hF "__init__" "CantPut.__init__" (fX 5 0) xM 194 78
noncomputable def x8 (P:Params):Obj:=.mk (.type "dict") none (.dict #[hE P "__module__" 262 (.str (.ofString "putback.errors") 194),hE P "__firstlineno__" 266 (.int 13 265),hE P "__init__" 274 (.ref 79),hE P "__static_attributes__" 276 (.ref 80),hE P "__doc__" 277 .none] 2) #[]
noncomputable def x9:Obj:=.mk (.type "type") none (.cls (.mk (.ofString "CantPut") [.ref 31] [.ref 82,.ref 31,.type "ValueError",.type "Exception",.type "BaseException",.type "object"] 81 (.ofString "CantPut") true [] [] false none false)) #[some (.ref 66),none,some (.str (.ofString "CantPut") 255),some (.str (.ofString "CantPut") 263),some (.builtin "ValueError.__new__"),some (.bool true)]
def x_:Obj:=gX "kind_at" 282 18 2 3 85 288
def ya:Obj:=gE "kind_at" (top 7) tJ 280 90
def yb:Obj:=gX "sorted_fields" 291 23 1 3 92 298
def yc:Obj:=gE "sorted_fields" (top 8) tJ 280 97
def yd:Obj:=gX "record_of" 301 30 1 3 99 305
def ye:Obj:=gE "record_of" (top 9) tJ 280 104
def yf:Obj:=gX "misfit" 310 33 2 3 106 316
def yg:Obj:=gE "misfit" (top 11) kb 308 111
def yh:Obj:=gX "record_misfit" 319 46 2 3 113 327
def yi:Obj:=gE "record_misfit" (top 12) kb 308 118
def yj:Obj:=kH "has_just" 330 54 2 3 120 333
def yk:Obj:=gE "has_just" (top 13) kb 308 123
def yl:Obj:=gX "rows_misfit" 336 56 2 3 125 345
def ym:Obj:=gE "rows_misfit" (top 14) kb 308 130
def yn:Obj:=gX "is_pair" 348 70 1 3 132 352
def yo:Obj:=gE "is_pair" (top 15) kb 308 137
def yp:Obj:=gX "tree_misfit" 355 72 2 3 139 363
def yq:Obj:=gE "tree_misfit" (top 16) kb 308 144
def yr:Obj:=gX "either_misfit" 366 83 2 3 146 373
def yt:Obj:=gE "either_misfit" (top 17) kb 308 151
def yu:Obj:=gX "empty" 376 93 1 3 153 382
def yw:Obj:=gE "empty" (top 18) kb 308 158
def yx:Obj:=gX "empty_record" 385 107 1 3 160 392
def yy:Obj:=gE "empty_record" (top 19) kb 308 165
def yz:Obj:=gX "rank" 395 112 2 3 167 402
def yA:Obj:=gE "rank" (top 20) kb 308 172
def yB:Obj:=gX "by_key" 405 118 2 3 174 412
def yC:Obj:=gE "by_key" (top 21) kb 308 179
def yD:Obj:=gX "ask_fit" 417 124 2 3 181 423
def yE:Obj:=gE "ask_fit" (top 23) lh 415 186
def yF:Obj:=gX "ask_stands" 426 128 1 3 188 430
def yG:Obj:=gE "ask_stands" (top 24) lh 415 193
def yH:Obj:=gX "behind_inner" 433 131 3 3 195 440
def yI:Obj:=gE "behind_inner" (top 25) lh 415 200
def yJ:Obj:=gX "put_inner" 443 136 5 3 202 452
def yK:Obj:=gE "put_inner" (top 26) lh 415 207
def yL:Obj:=hC "behind" "View.behind" 467 143 2 3 216 472
def yM:Obj:=hF "behind" "View.behind" (fX 27 0) lh 415 221
def yN:Obj:=hC "see" "View.see" 475 146 3 3 223 481
def yO:Obj:=hF "see" "View.see" (fX 27 1) lh 415 228
def yP:Obj:=hC "put" "View.put" 484 149 4 3 230 491
def yQ:Obj:=hF "put" "View.put" (fX 27 2) lh 415 235
def yR:Obj:=hC "grade" "View.grade" 494 153 1 3 237 498
def yS:Obj:=hF "grade" "View.grade" (fX 27 3) lh 415 242
def yT:Obj:=hC "keeps" "View.keeps" 501 156 2 3 244 506
def yU:Obj:=hF "keeps" "View.keeps" (fX 27 4) lh 415 249
noncomputable def yV (P:Params):Obj:=.mk (.type "dict") none (.dict #[hE P "__module__" 462 (.str (.ofString "putback.views") 415),hE P "__firstlineno__" 466 (.int 141 465),hE P "behind" 474 (.ref 222),hE P "see" 483 (.ref 229),hE P "put" 493 (.ref 236),hE P "grade" 500 (.ref 243),hE P "keeps" 508 (.ref 250),hE P "__static_attributes__" 509 (.ref 251),hE P "__dict__" 511 (.ref 254),hE P "__weakref__" 513 (.ref 255),hE P "__doc__" 514 .none] 4) #[]
noncomputable def yW:Obj:=.mk (.type "type") none (.cls (.mk (.ofString "View") [.type "object"] [.ref 253,.type "object"] 252 (.ofString "View") true [] [.ref 326,.ref 387] false none false)) #[none,none,some (.str (.ofString "View") 455),some (.str (.ofString "View") 463),some (.builtin "object.__new__"),some (.bool true)]
noncomputable def yX:Obj:=.mk (.type "getset_descriptor") none (.fields #[.str (.ofString "__dict__") 510,.ref 253,.builtin "function.__dict__",.builtin "function.__dict__#set"]) #[]
noncomputable def yY:Obj:=.mk (.type "getset_descriptor") none (.fields #[.str (.ofString "__weakref__") 512,.ref 253,.builtin "ExceptionGroup.__weakref__",.none]) #[]
def yZ:Obj:=kH "has_each_once" 519 159 2 3 258 522
def y7:Obj:=gE "has_each_once" (top 29) lq 517 261
def y8:Obj:=kH "fields_among" 525 163 2 3 263 528
def y9:Obj:=gE "fields_among" (top 30) lq 517 266
def y_:Obj:=gX "with_field" 531 165 3 3 268 538
def za:Obj:=gE "with_field" (top 31) lq 517 273
def zb:Obj:=hC "__init__" "Take.__init__" 553 171 2 3 282 558
def zc:Obj:=hF "__init__" "Take.__init__" (fX 32 0) lq 517 287
def zd:Obj:=hC "behind" "Take.behind" 561 174 2 3 289 566
def ze:Obj:=hF "behind" "Take.behind" (fX 32 1) lq 517 294
def zf:Obj:=hC "see" "Take.see" 569 178 3 3 296 575
def zg:Obj:=hF "see" "Take.see" (fX 32 2) lq 517 301
def zh:Obj:=hC "put" "Take.put" 578 181 4 3 303 586
def zi:Obj:=hF "put" "Take.put" (fX 32 3) lq 517 308
def zj:Obj:=hC "grade" "Take.grade" 589 187 1 3 310 593
def zk:Obj:=hF "grade" "Take.grade" (fX 32 4) lq 517 315
def zl:Obj:=hC "keeps" "Take.keeps" 596 190 2 3 317 601
def zm:Obj:=hF "keeps" "Take.keeps" (fX 32 5) lq 517 322
noncomputable def zo (P:Params):Obj:=.mk (.type "dict") none (.dict #[hE P "__module__" 548 (.str (.ofString "putback.fields") 517),hE P "__firstlineno__" 552 (.int 169 551),hE P "__init__" 560 (.ref 288),hE P "behind" 568 (.ref 295),hE P "see" 577 (.ref 302),hE P "put" 588 (.ref 309),hE P "grade" 595 (.ref 316),hE P "keeps" 603 (.ref 323),hE P "__static_attributes__" 605 (.ref 324),hE P "__doc__" 606 .none] 2) #[]
noncomputable def zp:Obj:=.mk (.type "type") none (.cls (.mk (.ofString "Take") [.ref 253] [.ref 326,.ref 253,.type "object"] 325 (.ofString "Take") true [] [] false none false)) #[some (.ref 275),none,some (.str (.ofString "Take") 541),some (.str (.ofString "Take") 549),some (.builtin "object.__new__"),some (.bool true)]
def zq:Obj:=hC "__init__" "Each.__init__" 623 195 2 3 336 628
def zr:Obj:=hF "__init__" "Each.__init__" (fX 34 0) mJ 609 341
def zt:Obj:=hC "behind" "Each.behind" 631 198 2 3 343 637
def zu:Obj:=hF "behind" "Each.behind" (fX 34 1) mJ 609 348
def zv:Obj:=hC "keeps_order" "Each.keeps_order" 640 204 2 3 350 645
def zw:Obj:=hF "keeps_order" "Each.keeps_order" (fX 34 2) mJ 609 355
def zx:Obj:=hC "see" "Each.see" 648 207 3 3 357 654
def zy:Obj:=hF "see" "Each.see" (fX 34 3) mJ 609 362
def zA:Obj:=hC "put" "Each.put" 657 210 4 3 364 670
def zB:Obj:=hF "put" "Each.put" (fX 34 4) mJ 609 369
def zC:Obj:=hC "grade" "Each.grade" 673 220 1 3 371 677
def zD:Obj:=hF "grade" "Each.grade" (fX 34 5) mJ 609 376
def zE:Obj:=hC "keeps" "Each.keeps" 680 223 2 3 378 685
def zF:Obj:=hF "keeps" "Each.keeps" (fX 34 6) mJ 609 383
noncomputable def zG (P:Params):Obj:=.mk (.type "dict") none (.dict #[hE P "__module__" 618 (.str (.ofString "putback.tables") 609),hE P "__firstlineno__" 622 (.int 193 621),hE P "__init__" 630 (.ref 342),hE P "behind" 639 (.ref 349),hE P "keeps_order" 647 (.ref 356),hE P "see" 656 (.ref 363),hE P "put" 672 (.ref 370),hE P "grade" 679 (.ref 377),hE P "keeps" 687 (.ref 384),hE P "__static_attributes__" 689 (.ref 385),hE P "__doc__" 690 .none] 2) #[]
noncomputable def zH:Obj:=.mk (.type "type") none (.cls (.mk (.ofString "Each") [.ref 253] [.ref 387,.ref 253,.type "object"] 386 (.ofString "Each") true [] [] false none false)) #[some (.ref 329),none,some (.str (.ofString "Each") 611),some (.str (.ofString "Each") 619),some (.builtin "object.__new__"),some (.bool true)]
def zI:Obj:=gX "_law_next" 695 226 2 3 390 702
def zJ:Obj:=gE "_law_next" (top 36) iE 693 395
def zK:Obj:=gX "_law_number" 705 233 2 3 397 712
def zL:Obj:=gE "_law_number" (top 37) iE 693 402
def zM:Obj:=gX "_law_word" 715 241 2 3 404 726
def zN:Obj:=gE "_law_word" (top 38) iE 693 409
def zO:Obj:=gX "_law_names" 729 253 3 3 411 743
def zP:Obj:=gE "_law_names" (top 39) iE 693 416
def zQ:Obj:=gX "_law_plain" 746 267 2 3 418 751
def zR:Obj:=gE "_law_plain" (top 40) iE 693 423
def zS:Obj:=kH "_law_fields" 754 271 4 3 425 757
def zT:Obj:=gE "_law_fields" (top 41) iE 693 428
def zU:Obj:=gX "_law_rows_kind" 760 274 4 3 430 775
def zV:Obj:=gE "_law_rows_kind" (top 42) iE 693 435
def zW:Obj:=gX "_law_kind" 778 289 3 3 437 785
def zX:Obj:=gE "_law_kind" (top 43) iE 693 442
def zY:Obj:=gX "_law_rank" 788 300 2 3 444 793
def zZ:Obj:=gE "_law_rank" (top 44) iE 693 449
def z0:Obj:=gX "_law_rows" 796 304 4 3 451 808
def z6:Obj:=gE "_law_rows" (top 45) iE 693 456
def z7:Obj:=kH "_law_value" 811 313 4 3 458 814
def z8:Obj:=gE "_law_value" (top 46) iE 693 461
def z9:Obj:=kH "_law_alike" 817 331 3 3 463 820
def z_:Obj:=gE "_law_alike" (top 47) iE 693 466
def Aa:Obj:=kH "_law_pool" 823 359 4 3 468 826
def Ab:Obj:=gE "_law_pool" (top 48) iE 693 471
def Ac:Obj:=gX "_law_some" 829 367 5 3 473 842
def Ad:Obj:=gE "_law_some" (top 49) iE 693 478
def Ae:Obj:=gX "_law_kept" 845 378 1 3 480 849
def Af:Obj:=gE "_law_kept" (top 50) iE 693 485
def Ag:Obj:=gX "_law_blank" 852 382 1 3 487 859
def Ah:Obj:=gE "_law_blank" (top 51) iE 693 492
def Ai:Obj:=gX "_law_emptied" 862 397 4 3 494 874
def Aj:Obj:=gE "_law_emptied" (top 52) iE 693 499
def Ak:Obj:=kH "_law_agree" 877 406 5 3 501 880
def Al:Obj:=gE "_law_agree" (top 53) iE 693 504
def Am:Obj:=gX "_law_due" 883 415 3 3 506 893
def An:Obj:=gE "_law_due" (top 54) iE 693 511
def Ao:Obj:=kH "_law_names_taken" 896 425 2 3 513 899
def Ap:Obj:=gE "_law_names_taken" (top 55) iE 693 516
def Aq:Obj:=kH "_law_round" 902 429 2 3 518 905
def Ar:Obj:=gE "_law_round" (top 56) iE 693 521
def As:Obj:=gX "law" 908 448 1 3 523 914
def Au:Obj:=gE "law" (top 57) iE 693 528
noncomputable def FJ (P:Params):Obj:=.mk (.type "dict") none (.dict #[hE P "__name__" 165 (.str (.ofString "putback.fields") 517),hE P "__doc__" 166 .none,hE P "__package__" 167 .none,hE P "__loader__" 168 (.builtin "__main__.__loader__#opaque"),hE P "__spec__" 169 .none,hE P "__annotations__" 170 (.ref 6),hE P "__builtins__" 171 (.ref 4),hE P "__file__" 173 (.str (.ofString "/claim/cut.py") 172),hE P "__cached__" 174 .none,hE P "_wall" 193 (.ref 21),hE P "ViewError" 213 (.ref 31),hE P "NoKind" 229 (.ref 44),hE P "NoView" 254 (.ref 63),hE P "CantPut" 279 (.ref 82),hE P "kind_at" 290 (.ref 91),hE P "sorted_fields" 300 (.ref 98),hE P "record_of" 307 (.ref 105),hE P "misfit" 318 (.ref 112),hE P "record_misfit" 329 (.ref 119),hE P "has_just" 335 (.ref 124),hE P "rows_misfit" 347 (.ref 131),hE P "is_pair" 354 (.ref 138),hE P "tree_misfit" 365 (.ref 145),hE P "either_misfit" 375 (.ref 152),hE P "empty" 384 (.ref 159),hE P "empty_record" 394 (.ref 166),hE P "rank" 404 (.ref 173),hE P "by_key" 414 (.ref 180),hE P "ask_fit" 425 (.ref 187),hE P "ask_stands" 432 (.ref 194),hE P "behind_inner" 442 (.ref 201),hE P "put_inner" 454 (.ref 208),hE P "View" 516 (.ref 253),hE P "has_each_once" 524 (.ref 262)] 34) #[]
noncomputable def FK (P:Params):List Obj:=hT0::hI [(1,0,20),(5,0,27),(7,0,40),(9,0,52),(13,0,71),(18,0,90),(23,0,97),(30,0,104),(33,0,111),(46,0,118),(54,0,123),(56,0,130),(70,0,137),(72,0,144),(83,0,151),(93,0,158),(107,0,165),(112,0,172),(118,0,179),(124,0,186),(128,0,193),(131,0,200),(136,0,207),(141,0,214),(159,0,261)]::hK "<module>" 182 1 11 185::lU 13 3 "__main__" 164::hT0::gf::hT 190 ["k"]::hT0::gy "_wall" (top 0)::xO::xP:: .mk (.type "tuple") none (.seq #[.type "ValueError"]) #[]::jT:: .mk (.type "dict") none (.dict #[hE P "__module__" 203 (.str (.ofString "putback.errors") 194),hE P "__qualname__" 205 (.str (.ofString "ViewError") 204),hE P "__firstlineno__" 207 (.int 5 206),hE P "__static_attributes__" 208 (.ref 29)] 4) #[]::hT0::gf::hK "ViewError" 198 5 25 201::lU 27 24 "putback.errors" 194::hT0::xQ P::xR::xS::mH 31::hIs 31::mI 31::jT:: .mk (.type "dict") none (.dict #[hE P "__module__" 221 (.str (.ofString "putback.errors") 194),hE P "__qualname__" 223 (.str (.ofString "NoKind") 222),hE P "__firstlineno__" 225 (.int 7 224),hE P "__static_attributes__" 226 (.ref 42)] 4) #[]::hT0::gf::hK "NoKind" 216 7 38 219::lU 40 37 "putback.errors" 194::hT0::xT P::xU::mH 44::hIs 44::mI 31::jT:: .mk (.type "dict") none (.dict #[hE P "__module__" 237 (.str (.ofString "putback.errors") 194),hE P "__qualname__" 239 (.str (.ofString "NoView") 238),hE P "__firstlineno__" 241 (.int 9 240),hE P "__init__" 249 (.ref 60),hE P "__static_attributes__" 251 (.ref 61)] 5) #[]::hT0::hI [(11,4,59)]::hK "NoView" 232 9 50 235::lU 52 49 "putback.errors" 194::hT0::gf::hT 245 ["self","way"]::hT0::hR "__init__" "NoView.__init__" (fX 4 0)::xV::xW::hT 250 ["way"]::xX P::xY::mH 63::hIs 63::mI 31::jT:: .mk (.type "dict") none (.dict #[hE P "__module__" 262 (.str (.ofString "putback.errors") 194),hE P "__qualname__" 264 (.str (.ofString "CantPut") 263),hE P "__firstlineno__" 266 (.int 13 265),hE P "__init__" 274 (.ref 79),hE P "__static_attributes__" 276 (.ref 80)] 5) #[]::hT0::hI [(15,4,78)]::hK "CantPut" 257 13 69 260::lU 71 68 "putback.errors" 194::hT0::gf::hT 270 ["self","way"]::hT0::hR "__init__" "CantPut.__init__" (fX 5 0)::xZ::x6::hT 275 ["way"]::x8 P::x9::mH 82::hIs 82::hT0::gf::hT 285 ["fields","name","pair"]::hT0::gy "kind_at" (top 7)::x_::ya::hT0::gf::hT 294 ["pairs","fields","number","name"]::hT0::gy "sorted_fields" (top 8)::yb::yc::hT0::gf::hT 304 ["pairs"]::hT0::gy "record_of" (top 9)::yd::ye::hT0::gf::hT 313 ["kind","value","form"]::hT0::gy "misfit" (top 11)::yf::yg::hT0::gf::hT 322 ["fields","record","name","inner","place"]::hT0::gy "record_misfit" (top 12)::yh::yi::hT0::gf::gy "has_just" (top 13)::yj::yk::hT0::gf::hT 339 ["kind","rows","earlier","number","row","place"]::hT0::gy "rows_misfit" (top 14)::yl::ym::hT0::gf::hT 351 ["value"]::hT0::gy "is_pair" (top 15)::yn::yo::hT0::gf::hT 358 ["kind","tree","place","number","arm"]::hT0::gy "tree_misfit" (top 16)::yp::yq::hT0::gf::hT 369 ["fields","value","inner","place"]::hT0::gy "either_misfit" (top 17)::yr::yt::hT0::gf::hT 379 ["kind","form","first"]::hT0::gy "empty" (top 18)::yu::yw::hT0::gf::hT 388 ["fields","record","name","inner"]::hT0::gy "empty_record" (top 19)::yx::yy::hT0::gf::hT 398 ["kind","row","key","by"]::hT0::gy "rank" (top 20)::yz::yA::hT0::gf::hT 408 ["kind","rows","found","row"]::hT0::gy "by_key" (top 21)::yB::yC::hT0::gf::hT 420 ["kind","seen","place"]::hT0::gy "ask_fit" (top 23)::yD::yE::hT0::gf::hT 429 ["stands"]::hT0::gy "ask_stands" (top 24)::yF::yG::hT0::gf::hT 436 ["ahead","inner","kind","e"]::hT0::gy "behind_inner" (top 25)::yH::yI::hT0::gf::hT 446 ["ahead","inner","kind","source","seen","e"]::hT0::gy "put_inner" (top 26)::yJ::yK::hT0::jT:: .mk (.type "dict") none (.dict #[hE P "__module__" 462 (.str (.ofString "putback.views") 415),hE P "__qualname__" 464 (.str (.ofString "View") 463),hE P "__firstlineno__" 466 (.int 141 465),hE P "behind" 474 (.ref 222),hE P "see" 483 (.ref 229),hE P "put" 493 (.ref 236),hE P "grade" 500 (.ref 243),hE P "keeps" 508 (.ref 250),hE P "__static_attributes__" 509 (.ref 251)] 9) #[]::hT0::hI [(143,4,221),(146,4,228),(149,4,235),(153,4,242),(156,4,249)]::hK "View" 457 141 212 460::lU 214 211 "putback.views" 415::hT0::gf::hT 470 ["self","kind"]::hT0::hR "behind" "View.behind" (fX 27 0)::yL::yM::hT0::gf::hT 478 ["self","kind","source"]::hT0::hR "see" "View.see" (fX 27 1)::yN::yO::hT0::gf::hT 487 ["self","kind","source","seen"]::hT0::hR "put" "View.put" (fX 27 2)::yP::yQ::hT0::gf::hT 497 ["self"]::hT0::hR "grade" "View.grade" (fX 27 3)::yR::yS::hT0::gf::hT 504 ["self","name"]::hT0::hR "keeps" "View.keeps" (fX 27 4)::yT::yU::hT0::yV P:: .mk (.type "type") none (.cls (.mk (.ofString "View") [.type "object"] [.ref 253,.type "object"] 252 (.ofString "View") true [] [] false none false)) #[none,none,some (.str (.ofString "View") 455),some (.str (.ofString "View") 463),some (.builtin "object.__new__"),some (.bool true)]::yX::yY::mH 253::hIs 253::hT0::gf::gy "has_each_once" (top 29)::yZ::y7::[]
noncomputable def endL (P:Params):List Obj:=hT0::gf::gy "fields_among" (top 30)::y8::y9::hT0::gf::hT 534 ["record","name","value","fresh"]::hT0::gy "with_field" (top 31)::y_::za::mI 253::jT:: .mk (.type "dict") none (.dict #[hE P "__module__" 548 (.str (.ofString "putback.fields") 517),hE P "__qualname__" 550 (.str (.ofString "Take") 549),hE P "__firstlineno__" 552 (.int 169 551),hE P "__init__" 560 (.ref 288),hE P "behind" 568 (.ref 295),hE P "see" 577 (.ref 302),hE P "put" 588 (.ref 309),hE P "grade" 595 (.ref 316),hE P "keeps" 603 (.ref 323),hE P "__static_attributes__" 605 (.ref 324)] 10) #[]::hT0::hI [(171,4,287),(174,4,294),(178,4,301),(181,4,308),(187,4,315),(190,4,322)]::hK "Take" 543 169 278 546::lU 280 277 "putback.fields" 517::hT0::gf::hT 556 ["self","names"]::hT0::hR "__init__" "Take.__init__" (fX 32 0)::zb::zc::hT0::gf::hT 564 ["self","kind"]::hT0::hR "behind" "Take.behind" (fX 32 1)::zd::ze::hT0::gf::hT 572 ["self","kind","source"]::hT0::hR "see" "Take.see" (fX 32 2)::zf::zg::hT0::gf::hT 581 ["self","kind","source","seen","fresh"]::hT0::hR "put" "Take.put" (fX 32 3)::zh::zi::hT0::gf::hT 592 ["self"]::hT0::hR "grade" "Take.grade" (fX 32 4)::zj::zk::hT0::gf::hT 599 ["self","name"]::hT0::hR "keeps" "Take.keeps" (fX 32 5)::zl::zm::hT 604 ["names"]::zo P::zp::mH 326::hIs 326::mI 253::jT:: .mk (.type "dict") none (.dict #[hE P "__module__" 618 (.str (.ofString "putback.tables") 609),hE P "__qualname__" 620 (.str (.ofString "Each") 619),hE P "__firstlineno__" 622 (.int 193 621),hE P "__init__" 630 (.ref 342),hE P "behind" 639 (.ref 349),hE P "keeps_order" 647 (.ref 356),hE P "see" 656 (.ref 363),hE P "put" 672 (.ref 370),hE P "grade" 679 (.ref 377),hE P "keeps" 687 (.ref 384),hE P "__static_attributes__" 689 (.ref 385)] 11) #[]::hT0::hI [(195,4,341),(198,4,348),(204,4,355),(207,4,362),(210,4,369),(220,4,376),(223,4,383)]::hK "Each" 613 193 332 616::lU 334 331 "putback.tables" 609::hT0::gf::hT 626 ["self","inner"]::hT0::hR "__init__" "Each.__init__" (fX 34 0)::zq::zr::hT0::gf::hT 634 ["self","kind","shown"]::hT0::hR "behind" "Each.behind" (fX 34 1)::zt::zu::hT0::gf::hT 643 ["self","kind"]::hT0::hR "keeps_order" "Each.keeps_order" (fX 34 2)::zv::zw::hT0::gf::hT 651 ["self","kind","source"]::hT0::hR "see" "Each.see" (fX 34 3)::zx::zy::hT0::gf::hT 660 ["self","kind","source","seen","old_rows","new_rows","number","row","key","old"]::hT0::hR "put" "Each.put" (fX 34 4)::zA::zB::hT0::gf::hT 676 ["self"]::hT0::hR "grade" "Each.grade" (fX 34 5)::zC::zD::hT0::gf::hT 683 ["self","name"]::hT0::hR "keeps" "Each.keeps" (fX 34 6)::zE::zF::hT 688 ["inner"]::zG P::zH::mH 387::hIs 387::hT0::gf::hT 698 ["_law_script","_law_at","_law_cell","_law_m"]::hT0::gy "_law_next" (top 36)::zI::zJ::hT0::gf::hT 708 ["_law_script","_law_at","_law_m","_law_cell"]::hT0::gy "_law_number" (top 37)::zK::zL::hT0::gf::hT 718 ["_law_script","_law_at","_law_signs","_law_m","_law_many","_law_word_here","_law_k","_law_place"]::hT0::gy "_law_word" (top 38)::zM::zN::hT0::gf::hT 732 ["_law_script","_law_at","_law_many","_law_letters","_law_m","_law_step","_law_stem","_law_cut","_law_names_here","_law_k","_law_sign"]::hT0::gy "_law_names" (top 39)::zO::zP::hT0::gf::hT 749 ["_law_script","_law_at"]::hT0::gy "_law_plain" (top 40)::zQ::zR::hT0::gf::gy "_law_fields" (top 41)::zS::zT::hT0::gf::hT 763 ["_law_script","_law_at","_law_many","_law_deep","_law_names_here","_law_m","_law_lead","_law_by","_law_fields_here","_law_k","_law_kind_here","_law_name"]::hT0::gy "_law_rows_kind" (top 42)::zU::zV::hT0::gf::hT 781 ["_law_script","_law_at","_law_deep","_law_m"]::hT0::gy "_law_kind" (top 43)::zW::zX::hT0::gf::hT 791 ["_law_kind_here","_law_row"]::hT0::gy "_law_rank" (top 44)::zY::zZ::hT0::gf::hT 799 ["_law_script","_law_at","_law_kind_here","_law_room","_law_rows_here","_law_seen","_law_k","_law_row"]::hT 807 ["_law_kind_here"]::gy "_law_rows" (top 45)::z0::z6::hT0::gf::gy "_law_value" (top 46)::z7::z8::hT0::gf::gy "_law_alike" (top 47)::z9::z_::hT0::gf::gy "_law_pool" (top 48)::Aa::Ab::hT0::gf::hT 832 ["_law_script","_law_at","_law_kind_here","_law_pool_here","_law_room","_law_rows_here","_law_one","_law_m","_law_row"]::hT 841 ["_law_kind_here"]::gy "_law_some" (top 49)::Ac::Ad::hT0::gf::hT 848 ["_law_kind_here"]::hT0::gy "_law_kept" (top 50)::Ae::Af::hT0::gf::hT 855 ["_law_kind_here","_law_made","_law_name","_law_inner"]::hT0::gy "_law_blank" (top 51)::Ag::Ah::hT0::gf::hT 865 ["_law_script","_law_at","_law_kind_here","_law_rows_here","_law_made","_law_row","_law_new","_law_name","_law_inner"]::hT0::gy "_law_emptied" (top 52)::Ai::Aj::hT0::gf::gy "_law_agree" (top 53)::Ak::Al::hT0::gf::hT 886 ["_law_kind_here","_law_source","_law_seen","_law_made","_law_one","_law_row","_law_old"]::hT0::gy "_law_due" (top 54)::Am::An::hT0::gf::gy "_law_names_taken" (top 55)::Ao::Ap::hT0::gf::gy "_law_round" (top 56)::Aq::Ar::hT0::gf::hT 911 ["_law_script","_law_at","_law_k"]::hT0::gy "law" (top 57)::As::Au::[]
noncomputable def FL (P:Params):List (Nat × Obj):=(nat_lit 3,xN P)::(nat_lit 12,hI [(1,0,20),(5,0,27),(7,0,40),(9,0,52),(13,0,71),(18,0,90),(23,0,97),(30,0,104),(33,0,111),(46,0,118),(54,0,123),(56,0,130),(70,0,137),(72,0,144),(83,0,151),(93,0,158),(107,0,165),(112,0,172),(118,0,179),(124,0,186),(128,0,193),(131,0,200),(136,0,207),(141,0,214),(159,0,261),(163,0,266),(165,0,273),(169,0,280),(193,0,334),(226,0,395),(233,0,402),(241,0,409),(253,0,416),(267,0,423),(271,0,428),(274,0,435),(289,0,442),(300,0,449),(304,0,456),(313,0,461),(331,0,466),(359,0,471),(367,0,478),(378,0,485),(382,0,492),(397,0,499),(406,0,504),(415,0,511),(425,0,516),(429,0,521),(448,0,528)])::(nat_lit 253,yW)::[]
end
noncomputable def KK:PySem.Params->W.Frag:=λP=>(nat_lit 2,FI)::(nat_lit 3,xN P)::(nat_lit 20,xO)::(nat_lit 21,xP)::(nat_lit 30,xQ P)::(nat_lit 31,xR)::(nat_lit 32,xS)::(nat_lit 43,xT P)::(nat_lit 44,xU)::(nat_lit 59,xV)::(nat_lit 60,xW)::(nat_lit 62,xX P)::(nat_lit 63,xY)::(nat_lit 78,xZ)::(nat_lit 79,x6)::(nat_lit 81,x8 P)::(nat_lit 82,x9)::(nat_lit 90,x_)::(nat_lit 91,ya)::(nat_lit 97,yb)::(nat_lit 98,yc)::(nat_lit 104,yd)::(nat_lit 105,ye)::(nat_lit 111,yf)::(nat_lit 112,yg)::(nat_lit 118,yh)::(nat_lit 119,yi)::(nat_lit 123,yj)::(nat_lit 124,yk)::(nat_lit 130,yl)::(nat_lit 131,ym)::(nat_lit 137,yn)::(nat_lit 138,yo)::(nat_lit 144,yp)::(nat_lit 145,yq)::(nat_lit 151,yr)::(nat_lit 152,yt)::(nat_lit 158,yu)::(nat_lit 159,yw)::(nat_lit 165,yx)::(nat_lit 166,yy)::(nat_lit 172,yz)::(nat_lit 173,yA)::(nat_lit 179,yB)::(nat_lit 180,yC)::(nat_lit 186,yD)::(nat_lit 187,yE)::(nat_lit 193,yF)::(nat_lit 194,yG)::(nat_lit 200,yH)::(nat_lit 201,yI)::(nat_lit 207,yJ)::(nat_lit 208,yK)::(nat_lit 221,yL)::(nat_lit 222,yM)::(nat_lit 228,yN)::(nat_lit 229,yO)::(nat_lit 235,yP)::(nat_lit 236,yQ)::(nat_lit 242,yR)::(nat_lit 243,yS)::(nat_lit 249,yT)::(nat_lit 250,yU)::(nat_lit 252,yV P)::(nat_lit 253,yW)::(nat_lit 254,yX)::(nat_lit 255,yY)::(nat_lit 261,yZ)::(nat_lit 262,y7)::(nat_lit 266,y8)::(nat_lit 267,y9)::(nat_lit 273,y_)::(nat_lit 274,za)::(nat_lit 287,zb)::(nat_lit 288,zc)::(nat_lit 294,zd)::(nat_lit 295,ze)::(nat_lit 301,zf)::(nat_lit 302,zg)::(nat_lit 308,zh)::(nat_lit 309,zi)::(nat_lit 315,zj)::(nat_lit 316,zk)::(nat_lit 322,zl)::(nat_lit 323,zm)::(nat_lit 325,zo P)::(nat_lit 326,zp)::(nat_lit 341,zq)::(nat_lit 342,zr)::(nat_lit 348,zt)::(nat_lit 349,zu)::(nat_lit 355,zv)::(nat_lit 356,zw)::(nat_lit 362,zx)::(nat_lit 363,zy)::(nat_lit 369,zA)::(nat_lit 370,zB)::(nat_lit 376,zC)::(nat_lit 377,zD)::(nat_lit 383,zE)::(nat_lit 384,zF)::(nat_lit 386,zG P)::(nat_lit 387,zH)::(nat_lit 395,zI)::(nat_lit 396,zJ)::(nat_lit 402,zK)::(nat_lit 403,zL)::(nat_lit 409,zM)::(nat_lit 410,zN)::(nat_lit 416,zO)::(nat_lit 417,zP)::(nat_lit 423,zQ)::(nat_lit 424,zR)::(nat_lit 428,zS)::(nat_lit 429,zT)::(nat_lit 435,zU)::(nat_lit 436,zV)::(nat_lit 442,zW)::(nat_lit 443,zX)::(nat_lit 449,zY)::(nat_lit 450,zZ)::(nat_lit 456,z0)::(nat_lit 457,z6)::(nat_lit 461,z7)::(nat_lit 462,z8)::(nat_lit 466,z9)::(nat_lit 467,z_)::(nat_lit 471,Aa)::(nat_lit 472,Ab)::(nat_lit 478,Ac)::(nat_lit 479,Ad)::(nat_lit 485,Ae)::(nat_lit 486,Af)::(nat_lit 492,Ag)::(nat_lit 493,Ah)::(nat_lit 499,Ai)::(nat_lit 500,Aj)::(nat_lit 504,Ak)::(nat_lit 505,Al)::(nat_lit 511,Am)::(nat_lit 512,An)::(nat_lit 516,Ao)::(nat_lit 517,Ap)::(nat_lit 521,Aq)::(nat_lit 522,Ar)::(nat_lit 528,As)::(nat_lit 529,Au)::[]
noncomputable def lV:List Nat:=nat_lit 2::nat_lit 3::nat_lit 20::nat_lit 21::nat_lit 30::nat_lit 31::nat_lit 32::nat_lit 43::nat_lit 44::nat_lit 59::nat_lit 60::nat_lit 62::nat_lit 63::nat_lit 78::nat_lit 79::nat_lit 81::nat_lit 82::nat_lit 90::nat_lit 91::nat_lit 97::nat_lit 98::nat_lit 104::nat_lit 105::nat_lit 111::nat_lit 112::nat_lit 118::nat_lit 119::nat_lit 123::nat_lit 124::nat_lit 130::nat_lit 131::nat_lit 137::nat_lit 138::nat_lit 144::nat_lit 145::nat_lit 151::nat_lit 152::nat_lit 158::nat_lit 159::nat_lit 165::nat_lit 166::nat_lit 172::nat_lit 173::nat_lit 179::nat_lit 180::nat_lit 186::nat_lit 187::nat_lit 193::nat_lit 194::nat_lit 200::nat_lit 201::nat_lit 207::nat_lit 208::nat_lit 221::nat_lit 222::nat_lit 228::nat_lit 229::nat_lit 235::nat_lit 236::nat_lit 242::nat_lit 243::nat_lit 249::nat_lit 250::nat_lit 252::nat_lit 253::nat_lit 254::nat_lit 255::nat_lit 261::nat_lit 262::nat_lit 266::nat_lit 267::nat_lit 273::nat_lit 274::nat_lit 287::nat_lit 288::nat_lit 294::nat_lit 295::nat_lit 301::nat_lit 302::nat_lit 308::nat_lit 309::nat_lit 315::nat_lit 316::nat_lit 322::nat_lit 323::nat_lit 325::nat_lit 326::nat_lit 341::nat_lit 342::nat_lit 348::nat_lit 349::nat_lit 355::nat_lit 356::nat_lit 362::nat_lit 363::nat_lit 369::nat_lit 370::nat_lit 376::nat_lit 377::nat_lit 383::nat_lit 384::nat_lit 386::nat_lit 387::nat_lit 395::nat_lit 396::nat_lit 402::nat_lit 403::nat_lit 409::nat_lit 410::nat_lit 416::nat_lit 417::nat_lit 423::nat_lit 424::nat_lit 428::nat_lit 429::nat_lit 435::nat_lit 436::nat_lit 442::nat_lit 443::nat_lit 449::nat_lit 450::nat_lit 456::nat_lit 457::nat_lit 461::nat_lit 462::nat_lit 466::nat_lit 467::nat_lit 471::nat_lit 472::nat_lit 478::nat_lit 479::nat_lit 485::nat_lit 486::nat_lit 492::nat_lit 493::nat_lit 499::nat_lit 500::nat_lit 504::nat_lit 505::nat_lit 511::nat_lit 512::nat_lit 516::nat_lit 517::nat_lit 521::nat_lit 522::nat_lit 528::nat_lit 529::[]
noncomputable def Av (P:PySem.Params):W.BT:=tG 11 (FK P) ((tH P).ins 3 (FJ P))
noncomputable def FN (P:PySem.Params):W.BT:=xE (FL P) (tG 263 (endL P) (Av P))
noncomputable def qv:PySem.Program:={ PySem.Challenge.pw_putback_k44_each_take_twice with main:={ (PySem.Challenge.pw_putback_k44_each_take_twice).main with body:=top 0::top 2::top 3::top 4::top 5::top 7::top 8::top 9::top 11::top 12::top 13::top 14::top 15::top 16::top 17::top 18::top 19::top 20::top 21::top 23::top 24::top 25::top 26::top 27::top 29::top 30::top 31::top 32::top 34::top 36::top 37::top 38::top 39::top 40::top 41::top 42::top 43::top 44::top 45::top 46::top 47::top 48::top 49::top 50::top 51::top 52::top 53::top 54::top 55::top 56::top 57::[] } }
theorem mK (P:PySem.Params):lV=(KK P).map (·.1):=by kernel_rfl
noncomputable def Aw (w:PySem.World) (os:PySem.OsState):W.SharedT:=⟨Av w.params,263,(W.boot_heap w.params).life,#[],W.boot_drawn,525,os⟩
noncomputable def mL (w:PySem.World) (os:PySem.OsState):W.SharedT:=⟨FN w.params,530,(W.boot_heap w.params).life,#[],W.boot_drawn,917,os⟩
noncomputable def tK:List PySem.Stmt:=W.behindTheImports (W.OpenLaw.row PySem.Challenge.rw_putback_k44_each_take_twice).prog
noncomputable def qD:PySem.Env:={ scope:=((W.OpenLaw.row PySem.Challenge.rw_putback_k44_each_take_twice).prog).main.scope,locals:=PySem.mainNs,globals:=PySem.mainNs,cells:=[],code:=.ref 13,frame:=some 14 }
noncomputable def o4:PySem.Code:=.body (W.behindTheImports (W.OpenLaw.row PySem.Challenge.rw_putback_k44_each_take_twice).prog) qD
open W PyProof.Rows in
theorem FO:∀w os,qB (W.OpenLaw.row PySem.Challenge.rw_putback_k44_each_take_twice).prog w 11 (some (.ref 6)) qD o4 ⟨0,0,0,0⟩ (tK.take 30) 12 1 5000 (qC w os)=some (⟨j_ ka (.body (behindTheImports (W.OpenLaw.row PySem.Challenge.rw_putback_k44_each_take_twice).prog) qD),o4,⟨0,0,0,0⟩,[topFrame ⟨0,0,0,0⟩]⟩,o4,o4,Aw w os,⟨159,0,162,94⟩):=by
 intro w os
 kernel_rfl
open W PyProof.Rows in
theorem FP:∀w os,mG (W.OpenLaw.row PySem.Challenge.rw_putback_k44_each_take_twice).prog w 11 (some (.ref 6)) 6000 (Aw w os) (restOf (tK.drop 30) qD o4 ⟨159,0,162,94⟩ [topFrame ⟨0,0,0,0⟩])=some (mL w os):=by
 intro w os
 kernel_rfl
open W PyProof.Rows in
theorem FQ:∀w os,(staticsOk (importedModules ((W.OpenLaw.row PySem.Challenge.rw_putback_k44_each_take_twice).prog).main.body) (boot_heap w.params) (mL w os).abs.heap && namesBound (W.OpenLaw.row PySem.Challenge.rw_putback_k44_each_take_twice).prog (mL w os).abs.heap && gensDone (mL w os).abs && laidKept (boot_heap w.params) (mL w os).abs.heap)=true:=by
 intro w os
 kernel_rfl
open W PyProof.Rows in
theorem FR:∀w os,seenQ qv [] (importedModules ((W.OpenLaw.row PySem.Challenge.rw_putback_k44_each_take_twice).prog).main.body) (λs=>xlAt qv [] s && recOk (RowW.records (W.OpenRow.toRowW (W.OpenLaw.row PySem.Challenge.rw_putback_k44_each_take_twice))) s) true (mL w os).abs=openGood qv []:=by
 intro w os
 kernel_rfl
open W PyProof.Rows in
theorem FT:∀w os,Hook.obs (W.kmHook Pb.KK Pb.lV Pb.mK [93,452,524]) (mL w os).abs=Hook.val (W.kmHook Pb.KK Pb.lV Pb.mK [93,452,524]) w:=by
 intro w os
 kernel_rfl
open W PyProof.Rows in
theorem said:PySem.Challenge.rw_putback_k44_each_take_twice.wellSaid=true:=by
 delta OpenLaw.wellSaid OpenRow.wellSaid OpenRow.partSaid looksOpen
 repeat' (with_reducible refine look_both ?_ ?_)
 all_goals kernel_rfl
end Pb
namespace L2
open Spec PyProof.Rows
noncomputable abbrev Key:=Sum Int Str
noncomputable def mM:Key->Value->Bool
 | .inl k,v=>Value.isInt k v
 | .inr x,v=>Value.isStrOf x v
noncomputable def FU (w:World):Key->Int
 | .inl k=>hashInt k
 | .inr x=>hashStr w x
theorem lr:∀{k:Key}{v:Value},mM k v=true->(∃i t,k=Sum.inl i/\v=Value.int i t)\/(∃x t,k=Sum.inr x/\v=Value.str x t)
 | .inl i,v,h=>by
   obtain⟨t,e⟩:=Value.isInt_shape (k:=i) (v:=v) h;exact .inl ⟨i,t,rfl,e⟩
 | .inr x,v,h=>by
   obtain⟨t,e⟩:=Value.isStrOf_shape (x:=x) (v:=v) h;exact .inr ⟨x,t,rfl,e⟩
theorem FV (i:Int)(t:Tok):mM (.inl i) (.int i t)=true:=by simp[mM,Value.isInt]
theorem Ax (x:Str)(t:Tok):mM (.inr x) (.str x t)=true:=by simp[mM,Value.isStrOf]
theorem FW (a b:Int):decide ((Sum.inl a:Key)=Sum.inl b)=(a == b):=by
 by_cases e:a=b
 . subst e;simp
 . have h:¬(Sum.inl a:Key)=Sum.inl b:=λq=>e (Sum.inl.inj q);rw[decide_eq_false h];exact(beq_eq_false_iff_ne.mpr e).symm
theorem FX (a b:Str):decide ((Sum.inr a:Key)=Sum.inr b)=decide (a=b):=by
 by_cases e:a=b
 . subst e;simp
 . have h:¬(Sum.inr a:Key)=Sum.inr b:=λq=>e (Sum.inr.inj q);rw[decide_eq_false h,decide_eq_false e]
theorem FY (a:Int)(b:Str):decide ((Sum.inl a:Key)=Sum.inr b)=false:=decide_eq_false (λq=>nomatch q)
theorem FZ (a:Str)(b:Int):decide ((Sum.inr a:Key)=Sum.inl b)=false:=decide_eq_false (λq=>nomatch q)
noncomputable def h9 (prog:Program) (w:World):PySem.KeyKind prog w Key where
 is:=mM
 hash:=FU w
 inj:=λv a b Y U=>by
  rcases lr Y with⟨i,t,rfl,rfl⟩|⟨x,t,rfl,rfl⟩
  . rcases lr U with⟨j,u,rfl,e⟩|⟨y,u,rfl,e⟩
    . injection e with J _;rw[J]
    . exact nomatch e
  . rcases lr U with⟨j,u,rfl,e⟩|⟨y,u,rfl,e⟩
    . exact nomatch e
    . injection e with J _;rw[J]
 byValue:=λk v h=>by
  rcases lr h with⟨i,t,rfl,rfl⟩|⟨x,t,rfl,rfl⟩ <;> rfl
 pyHash:=λL h=>by
  rcases lr L with⟨i,t,rfl,rfl⟩|⟨x,t,rfl,rfl⟩
  . exact wpAny_pyHash_int h
  . exact wpAny_pyHash_str h
 eqBool:=λhu L h=>by
  rcases lr hu with⟨i,t,rfl,rfl⟩|⟨x,t,rfl,rfl⟩
  . rcases lr L with⟨j,u,rfl,rfl⟩|⟨y,u,rfl,rfl⟩
    . rw[FW] at h;exact wpAny_eqBool_int h
    . rw[FY] at h;exact SeqAt.EqAt.int_str i t y u _ _ _ _ h
  . rcases lr L with⟨j,u,rfl,rfl⟩|⟨y,u,rfl,rfl⟩
    . rw[FZ] at h;exact SeqAt.EqAt.str_int x t j u _ _ _ _ h
    . rw[FX] at h;exact wpAny_eqBool_str h
 «strs»:=λk x t v h=>by
  rcases lr h with⟨i,u,rfl,e⟩|⟨y,u,rfl,e⟩
  . exact nomatch e
  . injection e with J _
    subst J
    cases v <;> rfl
theorem F0 (prog:Program)(w:World)(i:Int)(t:Tok):(h9 prog w).is (.inl i) (.int i t)=true:=FV i t
theorem F1 (prog:Program)(w:World)(x:Str)(t:Tok):(h9 prog w).is (.inr x) (.str x t)=true:=Ax x t
inductive V where
 |non|bl (b:Bool)|int (i:Int)|str (x:Str)|j3 (b:Array UInt8)|flt (b:UInt64)|ref (a:Addr)|ty (n:String)
 deriving DecidableEq
def RelV:V->Value->Prop
 | .non,u=>u=Value.none
 | .bl b,u=>u=Value.bool b
 | .int i,u=>∃t,u=Value.int i t
 | .str x,u=>∃t,u=Value.str x t
 | .j3 b,u=>∃t,u=Value.bytes b t
 | .flt b,u=>∃t,u=Value.float b t
 | .ref a,u=>u=Value.ref a
 | .ty n,u=>u=Value.type n
abbrev Vals:List V->List Value->Prop:=Paired RelV
theorem Vals.length {xs:List V}{us:List Value}(r:Vals xs us):xs.length=us.length:=Paired.length r
theorem Vals.get:∀{xs:List V}{us:List Value}{i:Nat}{x:V},Vals xs us->xs[i]? =some x->∃u,us[i]? =some u/\RelV x u
 |_,_,_,_,.nil,e=>by simp at e
 |_,_,0,_,.cons r _,e=>by simp at e;subst e;exact⟨_,rfl,r⟩
 |_,_,i+1,x,.cons _ t,e=>by
  obtain⟨u,h1,h2⟩:=Vals.get (i:=i) (x:=x) t (by simpa using e);exact⟨u,by simpa using h1,h2⟩
theorem Vals.set {x:V}{u:Value}(r:RelV x u):∀{xs:List V}{us:List Value}(i:Nat),Vals xs us->Vals (xs.set i x) (us.set i u)
 |_,_,_,.nil=>.nil
 |_,_,0,.cons _ t=>.cons r t
 |_,_,i+1,.cons q t=>.cons q (Vals.set r i t)
theorem Vals.append:∀{xs ys:List V}{us J:List Value},Vals xs us->Vals ys J->Vals (xs++ys) (us++J)
 |_,_,_,_,.nil,s=>s
 |_,_,_,_,.cons r t,s=>.cons r (Vals.append t s)
theorem Vals.take:∀{xs:List V}{us:List Value}(n:Nat),Vals xs us->Vals (xs.take n) (us.take n)
 |_,_,0,_=>.nil
 |_,_,_+1,.nil=>.nil
 |_,_,n+1,.cons r t=>.cons r (Vals.take n t)
theorem Vals.drop:∀{xs:List V}{us:List Value}(n:Nat),Vals xs us->Vals (xs.drop n) (us.drop n)
 |_,_,0,r=>r
 |_,_,_+1,.nil=>.nil
 |_,_,n+1,.cons _ t=>Vals.drop n t
theorem Vals.none_of:∀{xs:List V}{us:List Value}{i:Nat},Vals xs us->xs[i]? =none->us[i]? =none:=λ{xs us i} r e=>by
 have h1:=r.length;have h2:xs.length<=i:=List.getElem?_eq_none_iff.mp e;exact List.getElem?_eq_none_iff.mpr (by omega)
def jg:Option V->Option Value->Prop
 |some v,some u=>RelV v u
 |none,none=>True
 |_,_=>False
def KV {κ:Type}:List (κ × V)->List (κ × Value)->Prop:=Paired λ(p:κ × V) (q:κ × Value)=>p.1=q.1/\RelV p.2 q.2
noncomputable def kV:Key->V
 | .inl i=>.int i
 | .inr x=>.str x
inductive HO where
 |lst (xs:List V)
 |tup (xs:List V)
 |dK (kvs:List (Key × V))|dT (kvs:List (List Key × V))
 |set (S:Int->Bool) (n:Nat)
 |ins (C dx:Addr) (fs:List (Str × V))
 |own (x:Addr)
 |xd (fs:List (Str × V))
 |met (f x:Addr)
 |rng (lo hi:Int)
 |jm (o:Obj) (u:HO)
 |g4 (ps:Array Value)
 |ext (φ:Heap->Prop)
noncomputable abbrev Hp:=Addr->Option HO
noncomputable def upd (H:Hp) (a:Addr) (o:HO):Hp:=λb=>if b=a then some o else H b
theorem fA {H:Hp}{a:Addr}{o:HO}:upd H a o a=some o:=by unfold upd;rw[if_pos rfl]
theorem fk {H:Hp}{a b:Addr}{o:HO}(h:b≠a):upd H a o b=H b:=by unfold upd;rw[if_neg h]
theorem ic {H:Hp}{a b:Addr}{o u:HO}(h:H a=some o)(h':H b=some u)(d:o≠u):a≠b:=by
 intro e;subst e;rw[h] at h';exact d (Option.some.inj h')
theorem fJ {H:Hp}{a b:Addr}{o:HO}(h:H a=some o)(h':H b=none):a≠b:=by
 intro e;subst e;rw[h] at h';cases h'
section
variable (P:Program)(w:World)
def h_ (H:Hp) (h:Heap) (a:Addr):HO->Prop
 | .lst xs=>xs.length<=sizeLine/\∃(J:List Value) (n:Nat),Vals xs J/\h.get? a=some { cls:=.type "list",data:=.seq J.toArray n }
 | .tup xs=>xs.length<=sizeLine/\∃J:List Value,Vals xs J/\IsTup h a J.toArray
 | .dK kvs=>kvs.length<=sizeLine/\(a == sysModules)=false/\∃vs,KV kvs vs/\h.DictOf (h9 P w) a vs
 | .dT kvs=>kvs.length<=sizeLine/\(a == sysModules)=false/\∃xs:List (List Key × Addr × Value),
    Paired (λ(p:List Key × V) (q:List Key × Addr × Value)=>p.1=q.1/\H q.2.1=some (.tup (p.1.map kV))/\RelV p.2 q.2.2) kvs xs/\
    ∃o es U,h.get? a=some o/\o.ExactDict/\o.data=.dict es U/\es.toList=xs.map (entryOfKey (tupleKind (h9 P w)))/\(xs.map (·.1)).Nodup
 | .set S n=>h.SetOf (intKind P w) a S n
 | .ins C dx fs=>H dx=some (.own a)/\fs.length<=1000/\dx≠a/\h.get? a=some (W.instObj C dx)/\
    ∃mA,h.Ns1 dx mA/\(∀f,jg (fs.lookup f) (mA f))/\PySem.Within mA (fs.map (·.1))
 | .own _=>∃o,h.get? a=some o
 | .xd fs=>∃mA,h.Ns1 a mA/\∀f,jg (fs.lookup f) (mA f)
 | .rng lo hi=>∃t u v,h.get? a=some { cls:=.type "range",data:=.fields #[.int lo t,.int hi u,.int 1 v] }
 | .jm o u=>h.get? a=some o/\h_ H h a u
 | .g4 ps=>h.get? a=some { cls:=.none,data:=.fields ps }
 | .met f x=>h.get? a=some (W.methodObj (.ref f) (.ref x))
 | .ext L=>L h/\(∃o,h.get? a=some o)/\∀h1 h2:Heap,L h1->(∀o,h1.get? a=some o->h2.get? a=some o)->L h2
def g8 (H:Hp) (h:Heap):Prop:=∀a o,H a=some o->h_ P w H h a o
end
section
variable {P:Program}{w:World}{H H':Hp}{h h':Heap}{a:Addr}{o:HO}
theorem h_.lt (x:h_ P w H h a o):a<h.objs.size:=by
 cases o with
 |lst xs=>obtain⟨_,_,_,_,e⟩:=x;exact Q02 e
 |tup xs=>obtain⟨_,_,_,p⟩:=x;exact p.lt
 |dK kvs=>obtain⟨_,_,_,_,o,_,_,e,_⟩:=x;exact Q02 e
 |dT kvs=>obtain⟨_,_,_,_,o,_,_,e,_⟩:=x;exact Q02 e
 |set S n=>obtain⟨o,_,_,_,e,_⟩:=x;exact Q02 e
 |ins C dx fs=>obtain⟨_,_,_,e,_⟩:=x;exact Q02 e
 |own y=>obtain⟨_,e⟩:=x;exact Q02 e
 |xd fs=>obtain⟨_,⟨_,_,_,e,_⟩,_⟩:=x;exact Q02 e
 |rng lo hi=>obtain⟨_,_,_,e⟩:=x;exact Q02 e
 |jm J u=>obtain⟨e,_⟩:=x;exact Q02 e
 |g4 ps=>exact Q02 (show h.get? a=some _ from x)
 |met f y=>exact Q02 (show h.get? a=some _ from x)
 |ext L=>obtain⟨_,⟨_,e⟩,_⟩:=x;exact Q02 e
theorem Paired.o5 {α U:Type}{F G:α->U->Prop}:∀{J:List α}{L:List U},Paired F J L->(∀a b,F a b->G a b)->Paired G J L
 |_,_,.nil,_=>.nil
 |_,_,.cons r t,f=>.cons (f _ _ r) (Paired.o5 t f)
theorem h_.stay (x:h_ P w H h a o)(k:∀b u,(b=a\/H b=some (.own a))->h.get? b=some u->h'.get? b=some u)
 (ho:∀b,H b=some (.own a)->H' b=some (.own a)) (ht:∀b xs,H b=some (.tup xs)->H' b=some (.tup xs)):h_ P w H' h' a o:=by
 induction o with
 |lst xs=>obtain⟨z,U,n,r,e⟩:=x;exact⟨z,U,n,r,k _ _ (.inl rfl) e⟩
 |tup xs=>obtain⟨z,U,r,J,e,c⟩:=x;exact⟨z,U,r,J,k _ _ (.inl rfl) e,c⟩
 |dK kvs=>obtain⟨z,y,vs,r,J,es,L,e,c⟩:=x;exact⟨z,y,vs,r,J,es,L,k _ _ (.inl rfl) e,c⟩
 |dT kvs=>
  obtain⟨z,y,xs,r,J,es,L,e,c⟩:=x;exact⟨z,y,xs,Paired.o5 r λp q z=>⟨z.1,ht _ _ z.2.1,z.2.2⟩,J,es,L,k _ _ (.inl rfl) e,c⟩
 |set S n=>obtain⟨J,es,L,t,e,c⟩:=x;exact⟨J,es,L,t,k _ _ (.inl rfl) e,c⟩
 |ins C dx fs=>
  obtain⟨d,z,ne,e,mA,⟨Y,es,L,e2,c⟩,r⟩:=x;exact⟨ho _ d,z,ne,k _ _ (.inl rfl) e,mA,⟨Y,es,L,k _ _ (.inr d) e2,c⟩,r⟩
 |own y=>obtain⟨J,e⟩:=x;exact⟨J,k _ _ (.inl rfl) e⟩
 |xd fs=>obtain⟨mA,⟨Y,es,L,e,c⟩,r⟩:=x;exact⟨mA,⟨Y,es,L,k _ _ (.inl rfl) e,c⟩,r⟩
 |rng lo hi=>obtain⟨t,u,v,e⟩:=x;exact⟨t,u,v,k _ _ (.inl rfl) e⟩
 |jm J u ih=>obtain⟨e,q⟩:=x;exact⟨k _ _ (.inl rfl) e,ih q⟩
 |g4 ps=>
  have e:h.get? a=some { cls:=.none,data:=.fields ps }:=x;show h'.get? a=some { cls:=.none,data:=.fields ps };exact k a _ (.inl rfl) e
 |met f y=>
  have e:h.get? a=some (W.methodObj (.ref f) (.ref y)):=x;show h'.get? a=some (W.methodObj (.ref f) (.ref y));exact k a _ (.inl rfl) e
 |ext φ=>obtain⟨p,⟨o,e⟩,st⟩:=x;exact⟨st _ _ p λo q=>k _ _ (.inl rfl) q,⟨o,k _ _ (.inl rfl) e⟩,st⟩
theorem g8.lt (x:g8 P w H h)(e:H a=some o):a<h.objs.size:=(x a o e).lt
theorem g8.fresh (x:g8 P w H h)(e:h.objs.size<=a):H a=none:=by
 cases q:H a with
 |none=>rfl
 |some u=>exact absurd (Q0f (x.lt q) e) (Q0r _)
theorem g8.kept (x:g8 P w H h)(k:∀b u,h.get? b=some u->h'.get? b=some u):g8 P w H h':=λa o e=>
 (x a o e).stay (λb u _ q=>k b u q) (λ_ q=>q) λ_ _ q=>q
theorem g8.laid (x:g8 P w H h)(k:∀b u,h.get? b=some u->h'.get? b=some u)(hp:h.objs.size<=a)(new:h_ P w (upd H a o) h' a o):g8 P w (upd H a o) h':=λb u e=>by
 have J:=x.fresh hp;by_cases L:b=a
 . subst L;rw[fA] at e;cases e;exact new
 . rw[fk L] at e;exact(x b u e).stay (λc v _ q=>k c v q) (λc q=>by rw[fk (fJ q J)];exact q) λc xs q=>by rw[fk (fJ q J)];exact q
end
def Rd (H:Hp) (a:Addr) (u:HO):Prop:=H a=some u\/∃o,H a=some (.jm o u)
theorem Rd.ok {P:Program}{w:World}{H:Hp}{h:Heap}{a:Addr}{u:HO}(r:Rd H a u)(x:g8 P w H h):h_ P w H h a u:=by
 rcases r with r|⟨o,r⟩
 . exact x a u r
 . obtain⟨_,q⟩:=x a _ r;exact q
def o6:Option HO->Prop
 |some (.lst _)=>True
 |some (.dK _)=>True
 |some (.dT _)=>True
 |some (.set _ _)=>True
 |some (.ins _ _ _)=>True
 |some (.ext _)=>True
 |_=>False
section
variable {P:Program}{w:World}{H:Hp}{h h':Heap}{x e:Addr}{o':HO}
theorem g8.write (ok:g8 P w H h)(mu:o6 (H x))(he:e=x\/H e=some (.own x))(k:∀b u,b≠e->h.get? b=some u->h'.get? b=some u)(aa:∃u,h'.get? e=some u)
 (new:h_ P w (upd H x o') h' x o'):g8 P w (upd H x o') h':=λb u q=>by
 have L:∀c y,H c=some (.own y)->c≠x:=λc y r z=>by subst z;rw[r] at mu;exact mu
 have U:∀c xs,H c=some (.tup xs)->c≠x:=λc xs r z=>by subst z;rw[r] at mu;exact mu
 by_cases Y:b=x
 . subst Y;rw[fA] at q;cases q;exact new
 . rw[fk Y] at q;by_cases J:b=e
   . have q':H b=some (.own x):=by
      rcases he with z|z
      . exact absurd (J.trans z) Y
      . rw[J];exact z
     rw[q] at q';cases q';obtain⟨v,hv⟩:=aa;exact⟨v,by rw[J];exact hv⟩
   . refine(ok b u q).stay (λc v hc r=>k c v ?_ r) (λc r=>by rw[fk (L c b r)];exact r) λc xs r=>by rw[fk (U c xs r)];exact r
     rcases hc with rfl|hc
     . exact J
     . rintro rfl;rcases he with z|z
       . exact L c b hc z
       . rw[hc] at z;cases z;exact Y rfl
end
structure Un (fs ex:List Addr) (H H':Hp) (h h':Heap):Prop where
 keep:∀b o,h.get? b=some o->H b=none->b ∉ fs->b ∉ ex->h'.get? b=some o
 slot:∀b o,h.get? b=some o->H b=none->b∈fs->b ∉ ex->∃sl,h'.get? b=some { o with slots:=sl }
 free:∀b o,h.get? b=some o->H b=none->b ∉ ex->H' b=none
 there:∀b o,h.get? b=some o->b ∉ ex->∃o',h'.get? b=some o'
 tups:∀b xs,H b=some (.tup xs)->H' b=some (.tup xs)
 j4:∀b o u,H b=some (.jm o u)->H' b=some (.jm o u)
 j6:∀b ps,H b=some (.g4 ps)->∃more,H' b=some (.g4 (ps++more))
section
variable {fs fs' ex ex':List Addr}{H H1 H2:Hp}{h h1 h2 h':Heap}{a x e:Addr}{o:HO}
theorem Un.any (u:Un fs ex H H1 h h1){b:Addr}{J:Obj}(q:h.get? b=some J)(n:H b=none)(L:b ∉ ex):∃sl,h1.get? b=some { J with slots:=sl }:=by
 by_cases U:b∈fs
 . exact u.slot b J q n U L
 . exact⟨J.slots,u.keep b J q n U L⟩
theorem Un.kept (k:∀b u,h.get? b=some u->h'.get? b=some u):Un fs ex H H h h':=
 ⟨λb J q _ _ _=>k b J q,λb J q _ _ _=>⟨J.slots,k b J q⟩,λ_ _ _ n _=>n,λb J q _=>⟨J,k b J q⟩,λ_ _ q=>q,λ_ _ _ q=>q,λ_ ps q=>⟨#[],by rw[q];simp⟩⟩
theorem Un.refl:Un fs ex H H h h:=Un.kept λ_ _ q=>q
theorem Un.laid (k:∀b u,h.get? b=some u->h'.get? b=some u)(hp:h.objs.size<=a)(J:H a=none):Un fs ex H (upd H a o) h h' where
 keep:=λb u q _ _ _=>k b u q
 slot:=λb u q _ _ _=>⟨u.slots,k b u q⟩
 free:=λb u q n _=>by rw[fk (Q08 (Q0f (Q02 q) hp))];exact n
 there:=λb u q _=>⟨u,k b u q⟩
 tups:=λb xs q=>by rw[fk (fJ q J)];exact q
 j4:=λb u xs q=>by rw[fk (fJ q J)];exact q
 j6:=λb ps q=>⟨#[],by rw[fk (fJ q J),q];simp⟩
theorem Un.write (mu:o6 (H x))(he:e=x\/H e=some (.own x))(k:∀b u,b≠e->h.get? b=some u->h'.get? b=some u)(U:∃u,h'.get? e=some u):Un fs ex H (upd H x o) h h':=by
 have Y:∀b,H b=none->b≠x:=λb n z=>by subst z;rw[n] at mu;exact mu
 have hb:∀b,H b=none->b≠e:=λb n z=>by
  subst z;rcases he with r|r
  . exact Y b n r
  . rw[n] at r;cases r
 have L:∀b u,H b=some u->¬o6 (some u)->b≠x:=λb u q nm z=>by subst z;rw[q] at mu;exact nm mu
 refine⟨λb u q n _ _=>k b u (hb b n) q,λb u q n _ _=>⟨u.slots,k b u (hb b n) q⟩,λb u q n _=>by rw[fk (Y b n)];exact n,λb u q _=>?_,
  λb xs q=>by rw[fk (L b _ q λz=>z)];exact q,λb u xs q=>by rw[fk (L b _ q λz=>z)];exact q,λb ps q=>⟨#[],by rw[fk (L b _ q λz=>z),q];simp⟩⟩
 by_cases J:b=e
 . subst J;exact U
 . exact⟨u,k b u J q⟩
end
noncomputable def qE (h:Heap) (H:Hp):List Addr:=(List.range h.objs.size).filter λa=>(H a).isSome
noncomputable def kI (h:Heap) (H:Hp):Heap:=W.hideAll h (qE h H)
theorem F2 (h:Heap)(H:Hp):(kI h H).objs.size=h.objs.size:=W.hideAll_size _ _
theorem F3 {h:Heap}{H:Hp}{b:Addr}{o:Obj}(e:h.get? b=some o)(n:H b=none):(kI h H).get? b=some o:=
 W.hideAll_get _ e λJ=>by
   have q:(H b).isSome=true:=(List.mem_filter.mp J).2;rw[n] at q;simp at q
theorem F4 {h:Heap}{H:Hp}{b:Addr}{o:Obj}(e:(kI h H).get? b=some o):h.get? b=some o/\H b=none:=by
 have J:h.get? b=some o:=W.of_hideAll (qE h H) e;refine⟨J,?_⟩
 cases q:H b with
 |none=>rfl
 |some x=>
  have L:b∈qE h H:=List.mem_filter.mpr ⟨List.mem_range.mpr (Q02 J),by simp[q]⟩;have z:(kI h H).get? b=none:=W.hideAll_none (qE h H) L;rw[z] at e;cases e
noncomputable def F5 (g h:Heap) (L:Addr):List (Addr × Obj):=(List.range h.objs.size).filterMap λa=>if a=L\/(g.get? a).isSome=true then none else(h.get? a).map λo=>(a,o)
noncomputable def rest (g h:Heap) (L d:Addr):List (Addr × Obj):=(F5 g h L).filter λp=>decide (p.1≠d)
structure Mod (K:W.Frag) (mg:Str->Option Value) (base:Heap):Prop where
 kJ:K.In base
 glob:base.Ns mainGlobals mg
 blt:∃mb,base.Ns builtinsNs mb/\∀x:Str,x≠"__name__"->mb x=bootBuiltins x
 nolimit:base.NoLimit
structure Cx where
 prog:Program
 w:World
 K:W.Frag
 mg:Str->Option Value
 base:Heap
 A:Around
 N:List Str
 s₀:Shared
 H₀:Hp
 env:Env
 outer:List Env
 stack:List Env
 ex:List Addr
 fn:Str->Bool
 calm:Bool
 pn:List (Addr × Obj)
 xe:Value->Shared->Prop
noncomputable def frs (l:List Env):List Addr:=l.filterMap (·.frame)
noncomputable abbrev Cx.fs (X:Cx):List Addr:=frs X.outer
def qF (sc:Scope) (x:Str):Prop:=sc.names.lookup x=some .local\/sc.names.lookup x=some .cell\/sc.names.lookup x=some .free
def Loc (sc:Scope) (x:Str):Prop:=sc.names.lookup x=some .local\/sc.names.lookup x=some .cell
def Look (env:Env) (h:Heap) (m:Str->Option Value) (x:Str) (u:Value):Prop:=
 (env.kindOf x=some .local/\m x=some u)\/((env.kindOf x=some .cell\/env.kindOf x=some .free)/\∃c,env.cells.lookup x=some c/\h.IsCell c (some u))
structure Cx.Ok (X:Cx):Prop where
 mod:Mod X.K X.mg X.base
 kind:X.env.scope.kind=.function
 glob:X.env.globals=mainGlobals
 blt:X.env.builtins=builtinsNs
 above:X.s₀.heap.objs.size<=X.env.locals
 inj:∀x y c,X.env.cells.lookup x=some c->X.env.cells.lookup y=some c->x=y
 has:∀x,(X.env.kindOf x=some .cell\/X.env.kindOf x=some .free)->∃c,X.env.cells.lookup x=some c
 cab:∀x c,X.fn x=true->X.env.cells.lookup x=some c->X.s₀.heap.objs.size<=c
 hd:X.calm=true->X.A.handled=none
 frames:X.A.frames=some X.stack
 stk:X.stack=X.outer\/(X.stack=X.env::X.outer/\X.env.frame=some X.env.locals)
 o7:∀b∈X.ex,b≠X.env.locals/\∀x c,X.env.cells.lookup x=some c->c≠b
 bs:∀b o,X.base.get? b=some o->X.s₀.heap.get? b=some o/\X.H₀ b=none
 jU:X.base.objs.size<=X.s₀.heap.objs.size
 lW:∀b o,X.base.get? b=some o->b ∉ X.ex
 mN:∀b∈X.ex,b ∉ X.fs
 jn:X.s₀.heap.FunFrames X.base X.outer
 kK:∀b∈X.fs,X.H₀ b=none
structure Inv (X:Cx) (pins:List (Addr × Obj)) (σ:List (Option V)) (H:Hp) (s:Shared):Prop where
 ok:X.Ok
 os:s.os=X.s₀.os
 bare:AllBare s.gens
 base:Un X.fs X.ex X.H₀ H X.s₀.heap s.heap
 loc:∃m,s.heap.Ns X.env.locals m/\∀(i:Nat) (x:Str) (v:V),X.N[i]? =some x->σ[i]? =some (some v)->qF X.env.scope x->∃u,RelV v u/\Look X.env s.heap m x u
 cell:∀x c,X.env.cells.lookup x=some c->∃v,s.heap.IsCell c v
 free:H X.env.locals=none
 ja:∀x c,X.env.cells.lookup x=some c->H c=none
 pin:∀p∈X.pn++pins,s.heap.get? p.1=some p.2/\H p.1=none/\p.1≠X.env.locals/\p.1 ∉ X.fs/\∀v,p.2.data≠ .cell v
 hok:g8 X.prog X.w H s.heap
 len:σ.length=X.N.length
section
variable {X:Cx}{pins:List (Addr × Obj)}{σ:List (Option V)}{H H':Hp}{s:Shared}{h':Heap}
theorem Cx.Ok.F6 (ok:X.Ok){b:Addr}{o:Obj}(e:X.base.get? b=some o):b ∉ X.fs:=λJ=>by
 have:=(ok.jn.mem J).1;rw[e] at this;cases this
theorem Inv.bs (I:Inv X pins σ H s):∀b o,X.base.get? b=some o->s.heap.get? b=some o/\H b=none:=λb o e=>
 ⟨I.base.keep b o (I.ok.bs b o e).1 (I.ok.bs b o e).2 (I.ok.F6 e) (I.ok.lW b o e),I.base.free b o (I.ok.bs b o e).1 (I.ok.bs b o e).2 (I.ok.lW b o e)⟩
theorem Inv.bk (I:Inv X pins σ H s):∀b o,X.base.get? b=some o->s.heap.get? b=some o:=λb o e=>(I.bs b o e).1
theorem Inv.mod (I:Inv X pins σ H s):Mod X.K X.mg X.base:=I.ok.mod
theorem Inv.ir (I:Inv X pins σ H s):X.K.In s.heap:=I.ok.mod.kJ.keeps I.bk
theorem Inv.nolimit (I:Inv X pins σ H s):s.heap.NoLimit:=I.ok.mod.nolimit.keeps I.bk
theorem Inv.lt (I:Inv X pins σ H s):X.env.locals<s.heap.objs.size:=let⟨_,J,_⟩:=I.loc;J.lt
theorem Inv.sz (I:Inv X pins σ H s):X.s₀.heap.objs.size<=s.heap.objs.size:=Q0c I.ok.above (Q0s I.lt)
theorem Inv.nX (I:Inv X pins σ H s){a:Addr}(h:s.heap.objs.size<=a):a ∉ X.fs:=λJ=>by
 obtain⟨_,o,L,_⟩:=I.ok.jn.mem J;exact absurd (Q0f (Q02 L) (Q0c I.sz h)) (Q0r _)
theorem Inv.ke (I:Inv X pins σ H s):∀x c,X.env.cells.lookup x=some c->c≠X.env.locals:=λx c e z=>by
 obtain⟨v,o,U,Y⟩:=I.cell x c e;obtain⟨m,⟨o',es,ep,J,L,_⟩,_⟩:=I.loc;rw[z,J] at U;cases U;rw[L] at Y;cases Y
theorem Inv.jn (I:Inv X pins σ H s):s.heap.FunFrames X.base X.outer:=by
 have all:∀(l:List Env),(∀b∈frs l,b∈X.fs)->X.s₀.heap.FunFrames X.base l->s.heap.FunFrames X.base l:=by
  intro l
  induction l with
  |nil=>intro _ _;trivial
  |cons env r ih=>
   intro hs hl;obtain⟨hk,⟨L,o,J,hn,ho,hd⟩,hr⟩:=hl;have U:L∈X.fs:=hs L (by unfold frs;rw[Q27,J];exact Q01);obtain⟨sl,e⟩:=I.base.slot L o ho (I.ok.kK L U) U λz=>I.ok.mN L z U;exact⟨hk,⟨L,_,J,hn,e,hd⟩,ih (λb Y=>hs b (by unfold frs;rw[Q27,J];exact Q04 _ Y)) hr⟩
 exact all X.outer (λ_ Y=>Y) I.ok.jn
theorem Inv.stack (I:Inv X pins σ H s):s.heap.FunFrames X.base X.stack:=by
 rcases I.ok.stk with e|⟨e,J⟩
 . rw[e];exact I.jn
 . rw[e];obtain⟨m,L,_⟩:=I.loc;refine .cons (by rw[I.ok.kind];decide) J L ?_ I.jn;exact Heap.get?_none_of_le (Q0c I.ok.jU I.ok.above)
theorem Inv.o8 (I:Inv X pins σ H s):∀b∈frs X.stack,b∈X.env.locals::X.fs:=λb J=>by
 rcases I.ok.stk with e|⟨e,L⟩
 . rw[e] at J;exact Q04 _ J
 . rw[e] at J;unfold frs at J;rw[Q27,L] at J;exact J
theorem Inv.qG (I:Inv X pins σ H s):∀b∈frs X.stack,H b=none:=λb J=>by
 rcases List.mem_cons.mp (I.o8 b J) with e|J
 . rw[e];exact I.free
 . obtain⟨_,o,L,_⟩:=I.ok.jn.mem J;exact I.base.free b o L (I.ok.kK b J) λz=>I.ok.mN b z J
theorem Inv.step {g':Array GenState}{t':Nat}{d':Drawn}{ch:List Addr}(I:Inv X pins σ H s)
 (L:∀b∈ch,(b∈X.ex\/X.s₀.heap.objs.size<=b)/\b≠X.env.locals/\(∀x c,X.env.cells.lookup x=some c->c≠b)/\∀p∈X.pn++pins,p.1≠b)
 (keep:∀b o,b≠X.env.locals->b ∉ X.fs->b ∉ ch->s.heap.get? b=some o->H b=none->h'.get? b=some o)
 (slot:∀b o,b≠X.env.locals->b∈X.fs->b ∉ ch->s.heap.get? b=some o->H b=none->∃sl,h'.get? b=some { o with slots:=sl }) (free:∀b o,b ∉ ch->s.heap.get? b=some o->H b=none->H' b=none)
 (there:∀b o,b ∉ ch->s.heap.get? b=some o->∃o',h'.get? b=some o')
 (tups:∀b xs,H b=some (.tup xs)->H' b=some (.tup xs)) (j4:∀b o u,H b=some (.jm o u)->H' b=some (.jm o u)) (j6:∀b ps,H b=some (.g4 ps)->∃ac,H' b=some (.g4 (ps++ac)))
 (ns:∀m,s.heap.Ns X.env.locals m->h'.Ns X.env.locals m) (ae:g8 X.prog X.w H' h') (hg:AllBare g'):
 Inv X pins σ H' { s with heap:=h',gens:=g',drawn:=d',toks:=t' }:=by
 have ab:∀b o,X.s₀.heap.get? b=some o->b≠X.env.locals:=λb o e=>Q08 (Q0f (Q02 e) I.ok.above)
 have aa:∀b o,X.s₀.heap.get? b=some o->b ∉ X.ex->b ∉ ch:=λb o e J hb=>by
  rcases(L b hb).1 with z|z
  . exact J z
  . exact absurd (Q0f (Q02 e) z) (Q0r _)
 have Y:∀x c,X.env.cells.lookup x=some c->∀v,s.heap.IsCell c v->h'.IsCell c v:=λx c e v ⟨o,ho,hd⟩=>by
  have U:c ∉ ch:=λz=>(L c z).2.2.1 x c e rfl;by_cases hc:c∈X.fs
  . obtain⟨sl,q⟩:=slot c o (I.ke x c e) hc U ho (I.ja x c e);exact⟨_,q,hd⟩
  . exact⟨o,keep c o (I.ke x c e) hc U ho (I.ja x c e),hd⟩
 refine⟨I.ok,I.os,hg,⟨λb o e n hb J=>?_,λb o e n hb J=>?_,λb o e n J=>?_,λb o e J=>?_,λb xs e=>tups b xs (I.base.tups b xs e),λb o xs e=>j4 b o xs (I.base.j4 b o xs e),λb ps e=>?_⟩,?_,λx c e=>?_,?_,λx c e=>?_,λp hp=>?_,ae,I.len⟩
 . exact keep b o (ab b o e) hb (aa b o e J) (I.base.keep b o e n hb J) (I.base.free b o e n J)
 . obtain⟨sl,e1⟩:=I.base.slot b o e n hb J;obtain⟨af,e2⟩:=slot b _ (ab b o e) hb (aa b o e J) e1 (I.base.free b o e n J);exact⟨af,e2⟩
 . obtain⟨o',e1⟩:=I.base.there b o e J;exact free b o' (aa b o e J) e1 (I.base.free b o e n J)
 . obtain⟨o',e1⟩:=I.base.there b o e J;exact there b o' (aa b o e J) e1
 . obtain⟨m1,e1⟩:=I.base.j6 b ps e;obtain⟨m2,e2⟩:=j6 b _ e1;exact⟨m1++m2,by rw[e2,Array.append_assoc]⟩
 . obtain⟨m,hn,hl⟩:=I.loc;refine⟨m,ns m hn,λi x v e1 e2 e3=>?_⟩;obtain⟨u,r,l⟩:=hl i x v e1 e2 e3;refine⟨u,r,?_⟩;rcases l with l|⟨k,c,e,z⟩
   . exact .inl l
   . exact .inr ⟨k,c,e,Y x c e _ z⟩
 . obtain⟨v,z⟩:=I.cell x c e;exact⟨v,Y x c e v z⟩
 . obtain⟨m,⟨o,_,_,ho,_⟩,_⟩:=I.loc;exact free _ o (λz=>(L _ z).2.1 rfl) ho I.free
 . obtain⟨v,o,ho,hd⟩:=I.cell x c e;exact free c o (λz=>(L c z).2.2.1 x c e rfl) ho (I.ja x c e)
 . obtain⟨e,n,ne,nf,d⟩:=I.pin p hp;have U:p.1 ∉ ch:=λz=>(L p.1 z).2.2.2 p hp rfl;exact⟨keep p.1 p.2 ne nf U e n,free p.1 p.2 U e n,ne,nf,d⟩
theorem Inv.un {t':Nat}(I:Inv X pins σ H s)(u:Un X.fs [] H H' s.heap h')(U:g8 X.prog X.w H' h'):Inv X pins σ H' { s with heap:=h',toks:=t' }:=by
 obtain⟨m,⟨o,es,ep,ho,r⟩,_⟩:=id I.loc;obtain⟨sl,hL⟩:=u.any ho I.free (by simp)
 exact I.step (g':=s.gens) (d':=s.drawn) (ch:=[]) (λ_ z=>nomatch z) (λb o _ L _ e n=>u.keep b o e n L (by simp)) (λb o _ L _ e n=>u.slot b o e n L (by simp)) (λb o _ e n=>u.free b o e n (by simp)) (λb o _ e=>u.there b o e (by simp)) u.tups u.j4 u.j6 (λm' hm=>by
  obtain⟨o',Y,aa,J,r'⟩:=hm;rw[ho] at J;cases J;exact⟨_,Y,aa,hL,r'⟩) U I.bare
theorem Inv.call {g':Array GenState}{t':Nat}{d':Drawn}{ch:List Addr}(I:Inv X pins σ H s)(u:Un (frs X.stack) ch H H' s.heap h')(Y:g8 X.prog X.w H' h')(hg:AllBare g')
 (J:∀b∈ch,(b∈X.ex\/X.s₀.heap.objs.size<=b)/\b≠X.env.locals/\(∀x c,X.env.cells.lookup x=some c->c≠b)/\∀p∈X.pn++pins,p.1≠b):
 Inv X pins σ H' { s with heap:=h',gens:=g',drawn:=d',toks:=t' }:=by
 obtain⟨m,⟨o,es,ep,ho,r⟩,_⟩:=id I.loc;obtain⟨sl,U⟩:=u.any ho I.free λz=>(J _ z).2.1 rfl
 exact I.step (ch:=ch) J (λb o U hb hc e n=>u.keep b o e n (λz=>(List.mem_cons.mp (I.o8 b z)).elim U hb) hc) (λb o _ _ hc e n=>u.any e n hc) (λb o hc e n=>u.free b o e n hc) (λb o hc e=>u.there b o e hc) u.tups u.j4 u.j6 (λm' hm=>by
  obtain⟨o',aa,ab,L,r'⟩:=hm;rw[ho] at L;cases L;exact⟨_,aa,ab,U,r'⟩) Y hg
theorem Inv.turned {t':Nat}{it:Addr}(I:Inv X pins σ H s)(k:∀b o,b≠it->s.heap.get? b=some o->h'.get? b=some o)(U:H it=none)(L:it≠X.env.locals)
 (h1:it∈X.ex\/X.s₀.heap.objs.size<=it) (h2:∀x c,X.env.cells.lookup x=some c->c≠it) (Y:∀p∈X.pn++pins,p.1≠it):Inv X pins σ H { s with heap:=h',toks:=t' }:=by
 have J:∀b u,H b=some u->b≠it:=λb u e z=>by rw[z,U] at e;cases e
 refine I.step (g':=s.gens) (d':=s.drawn) (ch:=[it]) (λb hb=>?_) (λb o _ _ hc e _=>k b o (λz=>hc (by simp[z])) e) (λb o _ _ hc e _=>⟨o.slots,k b o (λz=>hc (by simp[z])) e⟩) (λ_ _ _ _ n=>n)
  (λb o hc e=>⟨o,k b o (λz=>hc (by simp[z])) e⟩) (λ_ _ e=>e) (λ_ _ _ e=>e) (λb ps e=>⟨#[],by rw[e];simp⟩) (λm hm=>?_) (λb u e=>?_) I.bare
 . have e:b=it:=by simpa using hb
   subst e;exact⟨h1,L,h2,Y⟩
 . obtain⟨o,es,ep,ho,r⟩:=hm;exact⟨o,es,ep,k _ o (Ne.symm L) ho,r⟩
 . refine(I.hok b u e).stay (λc v hc q=>k c v ?_ q) (λ_ q=>q) λ_ _ q=>q;rcases hc with z|z
   . rw[z];exact J b u e
   . exact J c _ z
theorem Inv.tok (I:Inv X pins σ H s)(t:Nat):Inv X pins σ H { s with toks:=t }:=I.un (h':=s.heap) (t':=t) Un.refl I.hok
theorem Inv.kept {t':Nat}(I:Inv X pins σ H s)(k:∀b u,s.heap.get? b=some u->h'.get? b=some u):Inv X pins σ H { s with heap:=h',toks:=t' }:=I.un (Un.kept k) (I.hok.kept k)
theorem Inv.laid {a:Addr}{o:HO}{t':Nat}(I:Inv X pins σ H s)(k:∀b u,s.heap.get? b=some u->h'.get? b=some u)(hp:s.heap.objs.size<=a)(new:h_ X.prog X.w (upd H a o) h' a o):
 Inv X pins σ (upd H a o) { s with heap:=h',toks:=t' }:=I.un (Un.laid k hp (I.hok.fresh hp)) (I.hok.laid k hp new)
theorem Inv.write {x e:Addr}{o:HO}{t':Nat}(I:Inv X pins σ H s)(mu:o6 (H x))(L:e=x\/H e=some (.own x))(k:∀b u,b≠e->s.heap.get? b=some u->h'.get? b=some u)(J:∃u,h'.get? e=some u)
 (new:h_ X.prog X.w (upd H x o) h' x o):Inv X pins σ (upd H x o) { s with heap:=h',toks:=t' }:=I.un (Un.write mu L k J) (I.hok.write mu L k J new)
theorem Inv.weak {J:List (Option V)}(I:Inv X pins σ H s)(hl:J.length=σ.length)(w:∀(i:Nat) v,J[i]? =some (some v)->σ[i]? =some (some v)):Inv X pins J H s:=
 ⟨I.ok,I.os,I.bare,I.base,let⟨m,U,L⟩:=I.loc;⟨m,U,λi x v Y e2 e3=>L i x v Y (w i v e2) e3⟩,I.cell,I.free,I.ja,I.pin,I.hok,hl.trans I.len⟩
theorem Inv.mO {J:List (Addr × Obj)}(I:Inv X pins σ H s)(h:∀p∈J,s.heap.get? p.1=some p.2/\H p.1=none/\p.1≠X.env.locals/\p.1 ∉ X.fs/\∀v,p.2.data≠ .cell v):Inv X J σ H s:=
 ⟨I.ok,I.os,I.bare,I.base,I.loc,I.cell,I.free,I.ja,λp hp=>(List.mem_append.mp hp).elim (λz=>I.pin p (Q0m _ z)) (h p),I.hok,I.len⟩
theorem tL {N:List Str}(J:N.Nodup){i j:Nat}{x:Str}(a:N[i]? =some x)(b:N[j]? =some x):i=j:=by
 obtain⟨h1,L⟩:=List.getElem?_eq_some_iff.mp a;obtain⟨h2,U⟩:=List.getElem?_eq_some_iff.mp b;exact(Q1a J).mp (L.trans U.symm)
theorem F7 {M:Model}{A:Around}{E:Value->Shared->Prop}{i:Nat}{x:Str}{v:V}{u:Value}{Q:Unit->Shared->Prop}(I:Inv X pins σ H s)(hN:X.N.Nodup)(hi:X.N[i]? =some x)(Y:Loc X.env.scope x)(r:RelV v u)
 (h:∀s',Inv X pins (σ.set i (some v)) H s'->(∃a,Heap.SameBut a s.heap s'.heap/\(a=X.env.locals\/X.env.cells.lookup x=some a))->Q () s') (hf:X.fn x=true\/X.env.scope.names.lookup x=some .local:=by first|exact .inl rfl|exact .inr rfl|assumption):wpAny M A (storeName X.env x u) Q E s:=by
 obtain⟨m,hn,hl⟩:=id I.loc;have ah:(X.env.scope.kind == .class || (X.env.scope.kind == .module && X.env.locals != X.env.globals))=false:=by rw[I.ok.kind];rfl
 have ab:i<σ.length:=by rw[I.len];exact(List.getElem?_eq_some_iff.mp hi).1
 have ke:=I.ke
 have U:∀{a:Addr} {h':Heap},(∃o,s.heap.get? a=some o/\H a=none)->Heap.SameBut a s.heap h'->g8 X.prog X.w H h':=λ{a h'} ha J b ob e=>by
  obtain⟨_,_,aa⟩:=ha;refine(I.hok b ob e).stay (λc w' hc q=>(J.2 c ?_).trans q) (λ_ q=>q) λ_ _ q=>q;rintro rfl;rcases hc with rfl|hc
  . rw[aa] at e;cases e
  . rw[aa] at hc;cases hc
 rcases Y with hk|hk
 . refine wpAny_storeName_local hk hn (λh' aj J=>?_) ah;obtain⟨oL,_,_,ak,_⟩:=id hn;refine h _ ⟨I.ok,I.os,I.bare,⟨λb o e n hb Y=>?_,λb o e n hb Y=>?_,I.base.free,λb o e Y=>?_,I.base.tups,I.base.j4,I.base.j6⟩,⟨_,aj,λj y v' L e2 e3=>?_⟩,λy c e=>?_,I.free,I.ja,λp hp=>?_,U ⟨oL,ak,I.free⟩ J,by simpa using I.len⟩ ⟨_,J,.inl rfl⟩
   . exact(J.2 b (Q08 (Q0f (Q02 e) I.ok.above))).trans (I.base.keep b o e n hb Y)
   . obtain⟨sl,L⟩:=I.base.slot b o e n hb Y;exact⟨sl,(J.2 b (Q08 (Q0f (Q02 e) I.ok.above))).trans L⟩
   . obtain⟨o',L⟩:=I.base.there b o e Y;exact⟨o',(J.2 b (Q08 (Q0f (Q02 e) I.ok.above))).trans L⟩
   . by_cases hj:j=i
     . subst hj;rw[hi] at L;cases L;rw[Q28 ab] at e2
       cases e2;exact⟨u,r,.inl ⟨hk,by simp⟩⟩
     . rw[Q1v (Ne.symm hj)] at e2;obtain⟨u',r',q⟩:=hl j y v' L e2 e3;refine⟨u',r',?_⟩;rcases q with⟨k,e⟩|⟨k,c,e,z⟩
       . refine .inl ⟨k,?_⟩;have:y≠x:=λe=>hj (tL hN L (e ▸ hi));simp[this,e]
       . exact .inr ⟨k,c,e,z.sameBut J (ke y c e)⟩
   . obtain⟨w',z⟩:=I.cell y c e;exact⟨w',z.sameBut J (ke y c e)⟩
   . obtain⟨e,n,ne,nf,d⟩:=I.pin p hp;exact⟨(J.2 p.1 ne).trans e,n,ne,nf,d⟩
 . have ac:X.fn x=true:=by
    rcases hf with z|z
    . exact z
    . rw[z] at hk;cases hk
   obtain⟨c,hc⟩:=I.ok.has x (.inl hk);obtain⟨w',z⟩:=I.cell x c hc;refine wpAny_storeName_cell I.ok.kind hk hc z (λh' ae J=>?_);obtain⟨oc,af,ai⟩:=id z;refine h { s with heap:=h' } ⟨I.ok,I.os,I.bare,⟨λb o e n hb Y=>?_,λb o e n hb Y=>?_,I.base.free,λb o e Y=>?_,I.base.tups,I.base.j4,I.base.j6⟩,⟨m,hn.sameBut J (Ne.symm (ke x c hc)),λj y v' L e2 e3=>?_⟩,λy c' e=>?_,I.free,I.ja,λp hp=>?_,U ⟨oc,af,I.ja x c hc⟩ J,by simpa using I.len⟩ ⟨c,J,.inr hc⟩
   . exact(J.2 b (Q08 (Q0f (Q02 e) (I.ok.cab x c ac hc)))).trans (I.base.keep b o e n hb Y)
   . obtain⟨sl,L⟩:=I.base.slot b o e n hb Y;exact⟨sl,(J.2 b (Q08 (Q0f (Q02 e) (I.ok.cab x c ac hc)))).trans L⟩
   . obtain⟨o',L⟩:=I.base.there b o e Y;exact⟨o',(J.2 b (Q08 (Q0f (Q02 e) (I.ok.cab x c ac hc)))).trans L⟩
   . by_cases hj:j=i
     . subst hj;rw[hi] at L;cases L;rw[Q28 ab] at e2
       cases e2;exact⟨u,r,.inr ⟨.inl hk,c,hc,ae⟩⟩
     . rw[Q1v (Ne.symm hj)] at e2;obtain⟨u',r',q⟩:=hl j y v' L e2 e3;refine⟨u',r',?_⟩;rcases q with q|⟨k,c',e,z'⟩
       . exact .inl q
       . refine .inr ⟨k,c',e,z'.sameBut J ?_⟩;rintro rfl;exact hj (tL hN L (I.ok.inj _ _ _ e hc ▸ hi))
   . by_cases ag:c'=c
     . subst ag;exact⟨_,ae⟩
     . obtain⟨w2,z2⟩:=I.cell y c' e;exact⟨w2,z2.sameBut J ag⟩
   . obtain⟨e,n,ne,nf,d⟩:=I.pin p hp;refine⟨(J.2 p.1 ?_).trans e,n,ne,nf,d⟩;intro q;rw[q,af] at e;have q':oc=p.2:=Option.some.inj e;exact d w' (by rw[<-q'];exact ai)
theorem qH {M:Model}{A:Around}{E:Value->Shared->Prop}{i:Nat}{x:Str}{v:V}{u:Value}{Q:Unit->Shared->Prop}(I:Inv X pins σ H s)(J:X.N.Nodup)(hi:X.N[i]? =some x)(L:Loc X.env.scope x)(r:RelV v u)
 (h:∀s',Inv X pins (σ.set i (some v)) H s'->Q () s') (U:X.fn x=true\/X.env.scope.names.lookup x=some .local:=by first|exact .inl rfl|exact .inr rfl|assumption):wpAny M A (storeName X.env x u) Q E s:=
 F7 I J hi L r (λs' Y _=>h s' Y) U
theorem Inv.call' {s':Shared}{ch:List Addr}(I:Inv X pins σ H s)(U:s'.os=s.os)(u:Un (frs X.stack) ch H H' s.heap s'.heap)(J:g8 X.prog X.w H' s'.heap)(Y:AllBare s'.gens)
 (L:∀b∈ch,(b∈X.ex\/X.s₀.heap.objs.size<=b)/\b≠X.env.locals/\(∀x c,X.env.cells.lookup x=some c->c≠b)/\∀p∈X.pn++pins,p.1≠b):Inv X pins σ H' s':=by
 obtain⟨h',g',d',t',o'⟩:=s';have e:o'=s.os:=U;subst e;exact I.call (g':=g') (t':=t') (d':=d') u J Y L
end
noncomputable abbrev XK:=Value->Option Addr->Hp->Prop
noncomputable abbrev St:=List (Option V)
noncomputable abbrev VK:=V->Hp->Prop
noncomputable abbrev TE:=St->Hp->VK->Prop
noncomputable abbrev TT:=St->Hp->(Bool->Hp->Prop)->Prop
noncomputable abbrev TA:=St->Hp->(List V->Hp->Prop)->Prop
structure Ends where
 nx:St->Hp->Prop
 rt:VK
 bk:St->Hp->Prop:=λ_ _=>False
 ct:St->Hp->Prop:=λ_ _=>False
noncomputable abbrev TS:=Ends->St->Hp->Prop
def EP (X:Cx) (pins:List (Addr × Obj)) (σ:St) (Q:VK) (u:Value) (s':Shared):Prop:=∃v H',Inv X pins σ H' s'/\RelV v u/\Q v H'
def TP (X:Cx) (pins:List (Addr × Obj)) (σ:St) (Q:Bool->Hp->Prop) (b:Bool) (s':Shared):Prop:=∃H',Inv X pins σ H' s'/\Q b H'
def AP (X:Cx) (pins:List (Addr × Obj)) (σ:St) (Q:List V->Hp->Prop) (us:List Value) (s':Shared):Prop:=∃vs H',Inv X pins σ H' s'/\Vals vs us/\Q vs H'
def SP (X:Cx) (pins:List (Addr × Obj)) (D:Ends) (f:Flow) (s':Shared):Prop:=
 match f with
 | .next=>∃J H',Inv X pins J H' s'/\D.nx J H'
 | .brk=>∃J H',Inv X pins J H' s'/\D.bk J H'
 | .cont=>∃J H',Inv X pins J H' s'/\D.ct J H'
 | .ret u=>∃v J H',Inv X pins J H' s'/\RelV v u/\D.rt v H'
def PE (X:Cx) (e:Expr) (t:TE):Prop:=
 ∀(pins:List (Addr × Obj)) (s:Shared) (σ:St) (H:Hp) (Q:VK),Inv X pins σ H s->t σ H Q->wpAny (model X.prog X.w) X.A (eval e X.env) (EP X pins σ Q) X.xe s
def PT (X:Cx) (e:Expr) (t:TT):Prop:=
 ∀(pins:List (Addr × Obj)) (s:Shared) (σ:St) (H:Hp) (Q:Bool->Hp->Prop),Inv X pins σ H s->t σ H Q->wpAny (model X.prog X.w) X.A (isTrue e X.env (eval e X.env)) (TP X pins σ Q) X.xe s
def PW (X:Cx) (e:Expr) (t:TT):Prop:=
 ∀(J:Sem Value) (pins:List (Addr × Obj)) (s:Shared) (σ:St) (H:Hp) (Q:Bool->Hp->Prop),Inv X pins σ H s->t σ H Q->wpAny (model X.prog X.w) X.A (isTrue e X.env J) (TP X pins σ Q) X.xe s
theorem PW.pt {X:Cx}{e:Expr}{t:TT}(h:PW X e t):PT X e t:=h _
def PA (X:Cx) (es:List Expr) (t:TA):Prop:=
 ∀(pos:Pos) (pins:List (Addr × Obj)) (s:Shared) (σ:St) (H:Hp) (Q:List V->Hp->Prop),Inv X pins σ H s->t σ H Q->wpAny (model X.prog X.w) X.A (spliced (backTo pos (starEach es X.env))) (AP X pins σ Q) X.xe s
def PS (X:Cx) (st:Stmt) (t:TS):Prop:=
 ∀(pins:List (Addr × Obj)) (s:Shared) (σ:St) (H:Hp) (D:Ends),Inv X pins σ H s->t D σ H->wpAny (model X.prog X.w) X.A (exec st X.env) (SP X pins D) X.xe s
def jo (X:Cx) (st:List Stmt) (t:TS):Prop:=
 ∀(pins:List (Addr × Obj)) (s:Shared) (σ:St) (H:Hp) (D:Ends),Inv X pins σ H s->t D σ H->wpAny (model X.prog X.w) X.A (execs st X.env) (SP X pins D) X.xe s
theorem fQ {α:Type}{t:Sem α}{Q J:α->Shared->Prop}{M:Model}{A:Around}{E:Value->Shared->Prop}{s:Shared}(h:wpAny M A t Q E s)(L:∀a s,Q a s->J a s):wpAny M A t J E s:=Q0n h L λ_ _ x=>x
section
variable {X:Cx}
def gF (i:Nat):TE:=λσ H Q=>∃v,σ[i]? =some (some v)/\Q v H
def tC (v:V):TE:=λ_ H Q=>Q v H
theorem F8 {i:Nat}{x:Str}{pos:Pos}(Y:X.N[i]? =some x)(hv:qF X.env.scope x)(L:(x == ("__debug__":Str))=false:=by decide)(U:(x == ("__classdict__":Str))=false:=by decide):PE X (.Name x pos) (gF i):=by
 intro pins s σ H Q I h;obtain⟨v,e,h⟩:=h;obtain⟨m,hn,hl⟩:=I.loc;obtain⟨u,r,l⟩:=hl i x v Y e hv;have fin:EP X pins σ Q u s:=⟨v,H,I,r,h⟩;rcases l with⟨hk,hm⟩|⟨hk,c,hc,J⟩
 . exact wpAny_Name (wpAny_loadName_local I.ok.kind hk hn hm fin) L
 . rcases hk with hk|hk
   . exact wpAny_Name (wpAny_loadName_cell I.ok.kind hk hc J fin) L
   . exact wpAny_Name (wpAny_loadName_free I.ok.kind hk hc J fin U) L
theorem b_ {i j pos}:PE X (.Constant (.int i) j pos) (tC (.int i)):=λ_ _ _ H _ I h=>wpAny_Constant_int ⟨.int i,H,I.tok _,⟨_,rfl⟩,h⟩
theorem jb {b j pos}:PE X (.Constant (.bool b) j pos) (tC (.bl b)):=λ_ _ _ H _ I h=>Constant_bool ⟨.bl b,H,I,rfl,h⟩
theorem jq {j pos}:PE X (.Constant .none j pos) (tC .non):=λ_ _ _ H _ I h=>Constant_none ⟨.non,H,I,rfl,h⟩
theorem gj {x j pos}:PE X (.Constant (.str x) j pos) (tC (.str x)):=λ_ _ _ H _ I h=>Calls.Constant_str ⟨.str x,H,I.tok _,⟨_,rfl⟩,h⟩
def Gl (X:Cx) (x:Str):Prop:=X.env.kindOf x=some .globalImplicit
theorem tM {E:Value->Shared->Prop}{pins:List (Addr × Obj)}{s:Shared}{σ:St}{H:Hp}{x:Str}{u:Value}{pos:Pos}{Q:Value->Shared->Prop}(I:Inv X pins σ H s)(J:Gl X x)(L:X.mg x=some u)(h:Q u s)
 (U:(x == ("__debug__":Str))=false:=by decide):wpAny (model X.prog X.w) X.A (eval (.Name x pos) X.env) Q E s:=
 Calls.Name_function_global I.ok.kind J (Calls.loadGlobal_global (by rw[I.ok.glob];exact I.mod.glob.keeps I.bk) L h) U
theorem lu {E:Value->Shared->Prop}{pins:List (Addr × Obj)}{s:Shared}{σ:St}{H:Hp}{x:Str}{u:Value}{pos:Pos}{Q:Value->Shared->Prop}(I:Inv X pins σ H s)(J:Gl X x)(L:X.mg x=none)(U:bootBuiltins x=some u)(h:Q u s)
 (Y:x≠"__name__":=by decide) (hd:(x == ("__debug__":Str))=false:=by decide):wpAny (model X.prog X.w) X.A (eval (.Name x pos) X.env) Q E s:=by
 obtain⟨mb,h1,h2⟩:=I.mod.blt;exact Calls.Name_function_global I.ok.kind J (Calls.loadGlobal_builtin (by rw[I.ok.glob];exact I.mod.glob.keeps I.bk) L (by rw[I.ok.blt];exact h1.keeps I.bk) ((h2 x Y).trans U) h) hd
theorem jr {x:Str}{v:V}{u:Value}{pos:Pos}(J:Gl X x)(L:X.mg x=none)(U:bootBuiltins x=some u)(r:RelV v u)(Y:x≠"__name__":=by decide)(hd:(x == ("__debug__":Str))=false:=by decide):PE X (.Name x pos) (tC v):=
 λ_ _ _ H _ I h=>lu I J L U ⟨v,H,I,r,h⟩ Y hd
variable {a b:Expr}{ta tb:TE}{pos:Pos}
def PC (X:Cx) (op:CmpOp) (a b:Expr) (t:TE):Prop:=
 ∀(pins:List (Addr × Obj)) (s:Shared) (σ:St) (H:Hp) (Q:VK),Inv X pins σ H s->t σ H Q->
  wpAny (model X.prog X.w) X.A (eval a X.env) (λv J=>wpAny (model X.prog X.w) X.A (eval b X.env) (λu L=>wpAny (model X.prog X.w) X.A (compareOp op v u) (EP X pins σ Q) X.xe L) X.xe J) X.xe s
def tB (t:TE):TT:=λσ H Q=>t σ H λx H1=>∃c,x=.bl c/\Q c H1
theorem F9 {op:CmpOp}{t:TE}(h:PC X op a b t)(h1:behindInMarks op b=false:=by first|exact J _ (by decide) (by decide)|rfl):PE X (.Compare a [op] [b] pos) t:=λpins s σ H Q I hw=>wpAny_Compare1 (h pins s σ H Q I hw) h1
theorem qI {op:CmpOp}{t:TE}(h:PC X op a b t)(h1:behindInMarks op b=false:=by first|exact J _ (by decide) (by decide)|rfl):PT X (.Compare a [op] [b] pos) (tB t):=by
 intro pins s σ H Q I hw;refine wpAny_isTrue_Compare1 (fQ (h pins s σ H _ I hw) λv s1 h1=>fQ h1 λu s2 h2=>fQ h2 λc s3 zq=>?_) h1;obtain⟨x,H1,L,U,Y⟩:=zq;obtain⟨d,rfl,q⟩:=Y
 cases U;exact wpAny_truthy_bool ⟨H1,L,q⟩
theorem iR {e:Expr}{t:TE}(h:PE X e t)(L:∀J,isTrue e X.env J=(do let v <-J;standAt e.pos;holding [v] (truthy v)):=by intro _;rfl):PT X e (tB t):=by
 intro pins s σ H Q I hw;refine isTrue_plain (fQ (h pins s σ H _ I hw) λv s1 zq=>?_) (L _);obtain⟨x,H1,U,Y,q1⟩:=zq;obtain⟨d,rfl,q⟩:=q1
 cases Y;exact wpAny_truthy_bool ⟨H1,U,q⟩
variable {tA qJ:TT}{rest:List Expr}
def F_ (t u:TT):TT:=λσ H Q=>t σ H λc H1=>if c=true then u σ H1 Q else Q false H1
def Ga (t u:TT):TT:=λσ H Q=>t σ H λc H1=>if c=true then Q true H1 else u σ H1 Q
def Gb (t:TT):TT:=λσ H Q=>t σ H λc H1=>Q (!c) H1
theorem mP (J:PT X a tA):PW X (.BoolOp .And [a] pos) tA:=by
 intro L pins s σ H Q I h;refine isTrue_and (fQ (J pins s σ H Q I h) λc U e=>?_)
 cases c with
 |true=>exact isTrue_and_nil e
 |false=>exact e
theorem kf (J:PT X a tA):PW X (.BoolOp .Or [a] pos) tA:=by
 intro L pins s σ H Q I h;refine isTrue_or (fQ (J pins s σ H Q I h) λc U e=>?_)
 cases c with
 |false=>exact isTrue_or_nil e
 |true=>exact e
theorem lX (U:PT X a tA)(Y:PW X (.BoolOp .And (b::rest) pos) qJ):PW X (.BoolOp .And (a::b::rest) pos) (F_ tA qJ):=by
 intro wh pins s σ H Q I h;refine isTrue_and (fQ (U pins s σ H _ I h) λc s1 ⟨H1,J,L⟩=>?_)
 cases c with
 |true=>exact Y wh pins s1 σ H1 Q J L
 |false=>exact⟨H1,J,L⟩
theorem kg (U:PT X a tA)(Y:PW X (.BoolOp .Or (b::rest) pos) qJ):PW X (.BoolOp .Or (a::b::rest) pos) (Ga tA qJ):=by
 intro wh pins s σ H Q I h;refine isTrue_or (fQ (U pins s σ H _ I h) λc s1 ⟨H1,J,L⟩=>?_)
 cases c with
 |true=>exact⟨H1,J,L⟩
 |false=>exact Y wh pins s1 σ H1 Q J L
theorem i7 (J:PT X a tA):PT X (.UnaryOp .Not a pos) (Gb tA):=by
 intro pins s σ H Q I h;exact isTrue_not (J pins s σ H (λc H1=>Q (!c) H1) I h)
def Gc (ta tb:TE):TE:=λσ H Q=>ta σ H λx H1=>∃c,x=.bl c/\if c=true then tb σ H1 Q else Q (.bl false) H1
def Gd (ta tb:TE):TE:=λσ H Q=>ta σ H λx H1=>∃c,x=.bl c/\if c=true then Q (.bl true) H1 else tb σ H1 Q
def Ge (ta:TE):TE:=λσ H Q=>ta σ H λx H1=>∃c,x=.bl c/\Q (.bl (!c)) H1
theorem lY {op}{t:TE}(h:PE X a t):PE X (.BoolOp op [a] pos) t:=λpins s σ H Q I hw=>BoolOp_one (h pins s σ H Q I hw)
theorem lZ (U:PE X a ta)(Y:PE X (.BoolOp .And (b::rest) pos) tb):PE X (.BoolOp .And (a::b::rest) pos) (Gc ta tb):=by
 intro pins s σ H Q I h;refine BoolOp_and (fQ (U pins s σ H _ I h) λv s1 zq=>?_);obtain⟨x,H1,L,r1,J⟩:=zq;obtain⟨c,rfl,J⟩:=J
 cases r1;refine wpAny_truthy_bool ?_
 cases c with
 |true=>exact Y pins s1 σ H1 Q L J
 |false=>exact⟨.bl false,H1,L,rfl,J⟩
theorem Gf (U:PE X a ta)(Y:PE X (.BoolOp .Or (b::rest) pos) tb):PE X (.BoolOp .Or (a::b::rest) pos) (Gd ta tb):=by
 intro pins s σ H Q I h;refine BoolOp_or (fQ (U pins s σ H _ I h) λv s1 zq=>?_);obtain⟨x,H1,L,r1,J⟩:=zq;obtain⟨c,rfl,J⟩:=J
 cases r1;refine wpAny_truthy_bool ?_
 cases c with
 |false=>exact Y pins s1 σ H1 Q L J
 |true=>exact⟨.bl true,H1,L,rfl,J⟩
theorem Gg (L:PE X a ta):PE X (.UnaryOp .Not a pos) (Ge ta):=by
 intro pins s σ H Q I h;refine UnaryOp_ (fQ (L pins s σ H _ I h) λv s1 zq=>?_);obtain⟨x,H1,U,Y,J⟩:=zq;obtain⟨c,rfl,J⟩:=J
 cases Y;exact not_of (wpAny_truthy_bool ⟨.bl (!c),H1,U,rfl,J⟩)
def Ay (t:TT) (ta tb:TE):TE:=λσ H Q=>t σ H λc H1=>if c=true then ta σ H1 Q else tb σ H1 Q
theorem tN {c:Expr}(hc:PT X c tA)(Y:PE X a ta)(hb:PE X b tb):PE X (.IfExp c a b pos) (Ay tA ta tb):=by
 intro pins s σ H Q I h;refine wpAny_IfExp (fQ (hc pins s σ H _ I h) λd J ⟨H1,L,U⟩=>?_)
 cases d with
 |true=>exact Y pins J σ H1 Q L U
 |false=>exact hb pins J σ H1 Q L U
end
def fv (K:W.Frag) (H:Hp) (a:Addr) (xs:List V):Prop:=
 Rd H a (.lst xs)\/
  ∃(o:Obj) (J:Array Value) (n:Nat),K.lookup a=some o/\o.cls=.type "list"/\o.dict=none/\o.data=.seq J n/\J.size<=sizeLine/\Vals xs J.toList
def d_ (K:W.Frag) (H:Hp) (a:Addr) (xs:List V):Prop:=
 Rd H a (.tup xs)\/
  ∃(o:Obj) (J:Array Value) (n:Nat),K.lookup a=some o/\o.cls=.type "tuple"/\o.data=.seq J n/\J.size<=sizeLine/\Vals xs J.toList
noncomputable def Gh:Value->Option V
 | .none=>some .non
 | .bool b=>some (.bl b)
 | .int i _=>some (.int i)
 | .str x _=>some (.str x)
 | .bytes b _=>some (.j3 b)
 | .float b _=>some (.flt b)
 | .ref a=>some (.ref a)
 | .type n=>some (.ty n)
 |_=>none
theorem RelV.abs {x:V}{u:Value}(r:RelV x u):Gh u=some x:=by
 cases x with
 |non=>cases r;rfl
 |bl _=>cases r;rfl
 |int _=>obtain⟨t,rfl⟩:=r;rfl
 |str _=>obtain⟨t,rfl⟩:=r;rfl
 |j3 _=>obtain⟨t,rfl⟩:=r;rfl
 |flt _=>obtain⟨t,rfl⟩:=r;rfl
 |ref _=>cases r;rfl
 |ty _=>cases r;rfl
theorem RelV.inj {x y:V}{u:Value}(r:RelV x u)(q:RelV y u):x=y:=Option.some.inj (r.abs.symm.trans q.abs)
theorem Vals.inj:∀{xs ys:List V}{us:List Value},Vals xs us->Vals ys us->xs=ys
 |_,_,_,.nil,.nil=>rfl
 |_,_,_,.cons r t,.cons J t'=>by rw[r.inj J,Vals.inj t t']
section
variable {X:Cx}{pins:List (Addr × Obj)}{σ:St}{H:Hp}{s:Shared}{a:Addr}{xs ys:List V}
theorem fv.of {K:W.Frag}(h:H a=some (.lst xs)):fv K H a xs:=.inl (.inl h)
theorem d_.of {K:W.Frag}(h:H a=some (.tup xs)):d_ K H a xs:=.inl (.inl h)
theorem Inv.list (I:Inv X pins σ H s)(h:fv X.K H a xs):∃J:List Value,Vals xs J/\PlainL s.heap a J.toArray/\xs.length<=sizeLine:=by
 rcases h with h|⟨o,J,n,hk,hc,L,U,Y,r⟩
 . obtain⟨z,J,n,r,e⟩:=h.ok I.hok;exact⟨J,r,⟨_,n,e,rfl,rfl,rfl⟩,z⟩
 . refine⟨J.toList,r,⟨o,n,I.ir a o hk,hc,L,by simpa using U⟩,?_⟩;have e:=r.length;simp only[Q1i] at e;omega
theorem Inv.tuple (I:Inv X pins σ H s)(h:d_ X.K H a xs):∃J:List Value,Vals xs J/\IsTup s.heap a J.toArray/\xs.length<=sizeLine:=by
 rcases h with h|⟨o,J,n,hk,hc,L,U,r⟩
 . obtain⟨z,J,r,p⟩:=h.ok I.hok;exact⟨J,r,p,z⟩
 . refine⟨J.toList,r,⟨o,I.ir a o hk,hc,n,by simpa using L⟩,?_⟩;have e:=r.length;simp only[Q1i] at e;omega
theorem Inv.qK (I:Inv X pins σ H s)(h:fv X.K H a xs)(h':fv X.K H a ys):xs=ys:=by
 obtain⟨J,r,⟨o,n,e,_,_,d⟩,_⟩:=I.list h;obtain⟨its',U,⟨o',n',L,_,_,d'⟩,_⟩:=I.list h';rw[e] at L;cases L;rw[d] at d';injection d' with Y _
 have:J=its':=by simpa using congrArg Array.toList Y
 subst this;exact r.inj U
theorem Inv.Gi (I:Inv X pins σ H s)(h:d_ X.K H a xs)(h':d_ X.K H a ys):xs=ys:=by
 obtain⟨J,r,⟨o,e,_,n,d⟩,_⟩:=I.tuple h;obtain⟨its',U,⟨o',L,_,n',d'⟩,_⟩:=I.tuple h';rw[e] at L;cases L;rw[d] at d';injection d' with Y _
 have:J=its':=by simpa using congrArg Array.toList Y
 subst this;exact r.inj U
end
noncomputable abbrev Cx.wish (X:Cx) (E:Value->Shared->Prop):Cx:={ X with xe:=E }
noncomputable abbrev Cx.gg (X:Cx):Cx:=X.wish λ_ _=>False
theorem Cx.Ok.wish {X:Cx}(ok:X.Ok)(E:Value->Shared->Prop):(X.wish E).Ok:=
 ⟨ok.mod,ok.kind,ok.glob,ok.blt,ok.above,ok.inj,ok.has,ok.cab,ok.hd,ok.frames,ok.stk,ok.o7,ok.bs,ok.jU,ok.lW,ok.mN,ok.jn,ok.kK⟩
theorem Cx.Ok.lx {X:Cx}{E:Value->Shared->Prop}(ok:(X.wish E).Ok):X.Ok:=
 ⟨ok.mod,ok.kind,ok.glob,ok.blt,ok.above,ok.inj,ok.has,ok.cab,ok.hd,ok.frames,ok.stk,ok.o7,ok.bs,ok.jU,ok.lW,ok.mN,ok.jn,ok.kK⟩
section
variable {X:Cx}{pins:List (Addr × Obj)}{σ:St}{H:Hp}{s:Shared}{E:Value->Shared->Prop}
theorem Inv.wish (I:Inv X pins σ H s)(E:Value->Shared->Prop):Inv (X.wish E) pins σ H s:=⟨I.ok.wish E,I.os,I.bare,I.base,I.loc,I.cell,I.free,I.ja,I.pin,I.hok,I.len⟩
theorem Inv.lx (I:Inv (X.wish E) pins σ H s):Inv X pins σ H s:=⟨I.ok.lx,I.os,I.bare,I.base,I.loc,I.cell,I.free,I.ja,I.pin,I.hok,I.len⟩
theorem SP.lx {D:Ends}{f:Flow}{s':Shared}(h:SP (X.wish E) pins D f s'):SP X pins D f s':=by
 cases f with
 |next=>obtain⟨J,H',I,q⟩:=h;exact⟨J,H',I.lx,q⟩
 |brk=>obtain⟨J,H',I,q⟩:=h;exact⟨J,H',I.lx,q⟩
 |cont=>obtain⟨J,H',I,q⟩:=h;exact⟨J,H',I.lx,q⟩
 |ret u=>obtain⟨v,J,H',I,r,q⟩:=h;exact⟨v,J,H',I.lx,r,q⟩
theorem jo.gg {st:List Stmt}{t:TS}(h:jo X.gg st t):jo X st t:=λpins s σ H D I hw=>
 Q0n (h pins s σ H D (I.wish _) hw) (λ_ _ q=>q.lx) λ_ _ z=>False.elim z
end
section
variable {X:Cx}{st:Stmt}{rest:List Stmt}{t u:TS}{e:Expr}{te:TE}{pos:Pos}
def Gj:TS:=λD σ H=>D.nx σ H
def tO (t u:TS):TS:=λD σ H=>t { D with nx:=u D } σ H
theorem f9:jo X [] Gj:=λ_ _ σ H _ I h=>wpAny_execs_nil ⟨σ,H,I,h⟩
theorem e_ (h1:PS X st t)(h2:jo X rest u):jo X (st::rest) (tO t u):=by
 intro pins s σ H D I h;refine wpAny_execs_cons (fQ (h1 pins s σ H { D with nx:=u D } I h) λf L q=>?_)
 cases f with
 |next=>
  obtain⟨J,H',U,q⟩:=q;exact h2 pins L J H' D U q
 |ret v=>exact q
 |brk=>exact q
 |cont=>exact q
theorem fx (h1:PS X st t):jo X [st] t:=by
 intro pins s σ H D I h;refine wpAny_execs_cons (fQ (h1 pins s σ H D I h) λf J q=>?_)
 cases f with
 |next=>exact wpAny_execs_nil q
 |ret v=>exact q
 |brk=>exact q
 |cont=>exact q
theorem Inv.quiet {pins:List (Addr × Obj)}{σ:St}{H:Hp}{s:Shared}(I:Inv X pins σ H s):interactive X.env=false:=by simp[interactive,I.ok.kind]
def Gk (te:TE):TS:=λD σ H=>te σ H λ_ H1=>D.nx σ H1
theorem jh (J:PE X e te)(L:swapsWith e none pos.line X.env=pure false:=by rfl):PS X (.Expr e pos) (Gk te):=by
 intro pins s σ H D I h;exact wpAny_Expr_any (fQ (J pins s σ H _ I h) λv s1 ⟨x,H1,U,r1,Y⟩=>⟨σ,H1,U,Y⟩) I.quiet L
def Az (te:TE):TS:=λD σ H=>te σ H D.rt
theorem fE (J:PE X e te):PS X (.Return (some e) pos) (Az te):=by
 intro pins s σ H D I h;exact wpAny_Return_some (fQ (J pins s σ H _ I h) λv s1 ⟨x,H1,L,U,Y⟩=>⟨x,σ,H1,L,U,Y⟩)
def nY (c:TT) (t u:TS):TS:=λD σ H=>c σ H λb H1=>if b=true then t D σ H1 else u D σ H1
theorem f7 {c:Expr}{a b:List Stmt}{tc:TT}(hc:PT X c tc)(Y:jo X a t)(hb:jo X b u):PS X (.If c a b pos) (nY tc t u):=by
 intro pins s σ H D I h;refine wpAny_If (fQ (hc pins s σ H _ I h) λd J ⟨H1,L,U⟩=>?_)
 cases d with
 |true=>exact Y pins J σ H1 D L U
 |false=>exact hb pins J σ H1 D L U
def AB:TS:=λ_ _ _=>False
theorem tQ:PS X st AB:=λ_ _ _ _ _ _ h=>h.elim
theorem tR {J:List Stmt}:jo X J AB:=λ_ _ _ _ _ _ h=>h.elim
end
noncomputable abbrev TG:=V->St->Hp->(St->Hp->Prop)->Prop
noncomputable abbrev mQ:=List V->St->Hp->(St->Hp->Prop)->Prop
def PG (X:Cx) (J:Expr) (t:TG):Prop:=
 ∀(pins:List (Addr × Obj)) (s:Shared) (σ:St) (H:Hp) (v:V) (u:Value) (Q:St->Hp->Prop),Inv X pins σ H s->RelV v u->t v σ H Q->
  wpAny (model X.prog X.w) X.A (assign J X.env u) (λ_ s'=>∃L H',Inv X pins L H' s'/\Q L H') X.xe s
def qL (X:Cx) (L:List Expr) (t:mQ):Prop:=
 ∀(pins:List (Addr × Obj)) (s:Shared) (σ:St) (H:Hp) (vs:List V) (us:List Value) (Q:St->Hp->Prop),Inv X pins σ H s->Vals vs us->t vs σ H Q->
  wpAny (model X.prog X.w) X.A (assignInOrder ((assignEach L X.env).map (·.2)) us) (λ_ s'=>∃J H',Inv X pins J H' s'/\Q J H') X.xe s
noncomputable abbrev tT:=V->V->V->Hp->(Hp->Prop)->Prop
def AD (X:Cx) (t:tT):Prop:=
 ∀(pins:List (Addr × Obj)) (s:Shared) (σ:St) (H:Hp) (o i v:V) (J L u:Value) (Q:Hp->Prop),Inv X pins σ H s->RelV o J->RelV i L->RelV v u->t o i v H Q->
  wpAny (model X.prog X.w) X.A (setItem J L u) (λ_ s'=>∃H',Inv X pins σ H' s'/\Q H') X.xe s
section
variable {X:Cx}{pos:Pos}
def iB (i:Nat):TG:=λv σ H Q=>Q (σ.set i (some v)) H
theorem gu {i:Nat}{x:Str}(J:X.N.Nodup)(hi:X.N[i]? =some x)(L:Loc X.env.scope x)(U:X.fn x=true\/X.env.scope.names.lookup x=some .local:=by first|exact .inl rfl|exact .inr rfl|assumption):PG X (.Name x pos) (iB i):=by
 intro pins s σ H v u Q I r h;exact wpAny_assign_Name (qH I J hi L r (λs' Y=>⟨_,H,Y,h⟩) U)
def qM:mQ:=λvs σ H Q=>vs=[]/\Q σ H
def mR (t:TG) (u:mQ):mQ:=λvs σ H Q=>∃v r,vs=v::r/\t v σ H λJ H'=>u r J H' Q
theorem jC:qL X [] qM:=by
 intro pins s σ H vs us Q I r h;obtain⟨e,h⟩:=h;subst e
 cases r;exact assignInOrder_nil ⟨σ,H,I,h⟩
theorem ie {e:Expr}{es:List Expr}{t:TG}{u:mQ}(h1:PG X e t)(h2:qL X es u)
 (L:(assignEach (e::es) X.env).map (·.2)=assign e X.env::(assignEach es X.env).map (·.2):=by rfl):qL X (e::es) (mR t u):=by
 intro pins s σ H vs us Q I r h;obtain⟨v,vr,U,h⟩:=h;subst U
 cases r with
 |cons r Y=>
  rw[L];refine assignInOrder_cons (fQ (h1 pins s σ H _ _ _ I r h) λ_ s1 zq=>?_);obtain⟨J,H1,I1,q1⟩:=zq;exact h2 pins s1 J H1 _ _ Q I1 Y q1
def qN (K:W.Frag) (n:Nat) (t:mQ):TG:=λv σ H Q=>∃a xs,v=.ref a/\d_ K H a xs/\xs.length=n/\t xs σ H Q
theorem jD {es:List Expr}{k:Nat}{t:mQ}{n:Nat}(hc:X.calm=true)(h:qL X es t)
 (U:(assignEach es X.env).length=n:=by rfl) (J:(assignEach es X.env).findIdx? (·.1)=none:=by rfl):PG X (.Tuple es k pos) (qN X.K n t):=by
 intro pins s σ H v u Q I r hw;obtain⟨a,xs,Y,hq,hl,hw⟩:=hw;subst Y
 cases r;obtain⟨aa,L,ht,hz⟩:=I.tuple hq;refine assign_Tuple_tuple (I.ok.hd hc) ht (by simp[U,<-hl,L.length]) J λh' hx=>?_;have I1:Inv X pins σ H { s with heap:=h' }:=I.kept (t':=s.toks) λb o e=>hx b o (Q08 (Q02 e)) e;exact h pins _ σ H xs _ Q I1 (by simpa using L) hw
def Gm (to J:TE) (t:tT):TG:=λv σ H Q=>to σ H λo H1=>J σ H1 λi H2=>t o i v H2 λL=>Q σ L
theorem Gn {o i:Expr}{to U:TE}{t:tT}(Y:PE X o to)(hi:PE X i U)(hs:AD X t)
 (ha:∀v,assign (.Subscript o i pos) X.env v=(do
   let J <-holding [v] (eval o X.env);let L <-holding [v,J] (eval i X.env)
   standAt pos
   holding [v,J,L] (setItem J L v)
   release [v,J,L] []):=by intro _;rfl):PG X (.Subscript o i pos) (Gm to U t):=by
 intro pins s σ H v u Q I r h;rw[ha];refine Q00 (wpAny_holding (fQ (Y pins s σ H _ I h) λJ s1 zq=>?_));obtain⟨x,H1,I1,r1,q1⟩:=zq;refine Q00 (wpAny_holding (fQ (hi pins s1 σ H1 _ I1 q1) λL s2 zq=>?_));obtain⟨y,H2,I2,r2,q2⟩:=zq;refine Q00 (wpAny_standAt (Q00 (wpAny_holding (fQ (hs pins s2 σ H2 x y v J L u _ I2 r1 r2 r q2) λ_ s3 ⟨H3,I3,q3⟩=>?_))));exact wpAny_release ⟨σ,H3,I3,q3⟩
def o9 (te:TE) (g:TG):TS:=λD σ H=>te σ H λx H1=>g x σ H1 D.nx
theorem AE {tg e:Expr}{te:TE}{g:TG}(J:PE X e te)(L:PG X tg g)(U:swapsWithSole [tg] e pos.line X.env=pure false:=by rfl)(hw:swappedStores [tg] e X.env=pure none:=by rfl)
 (h1:(assignEach [tg] X.env).map (·.2)=[assign tg X.env]:=by rfl):PS X (.Assign [tg] e pos) (o9 te g):=by
 intro pins s σ H D I h;refine wpAny_Assign_stores (fQ (J pins s σ H _ I h) λv Y zq=>?_) U hw;obtain⟨x,H1,I1,r1,q1⟩:=zq;rw[h1];exact fQ (L pins Y σ H1 x v _ I1 r1 q1) λ_ s2 q=>q
theorem AH {i:Nat}{x:Str}{e:Expr}{te:TE}{pos':Pos}(J:X.N.Nodup)(hi:X.N[i]? =some x)(L:Loc X.env.scope x)(U:PE X e te)(Y:swapsWith e (some (.Name x pos')) pos.line X.env=pure false:=by rfl)(hf:X.fn x=true\/X.env.scope.names.lookup x=some .local:=by first|exact .inl rfl|exact .inr rfl|assumption):
 PS X (.Assign [.Name x pos'] e pos) (o9 te (iB i)):=by
 intro pins s σ H D I h;refine wpAny_Assign_Name (fQ (U pins s σ H _ I h) λv s1 zq=>?_) Y;obtain⟨y,H1,I1,r1,q1⟩:=zq;exact qH I1 J hi L r1 (λs2 I2=>⟨_,H1,I2,q1⟩) hf
end
section
variable {X:Cx}{pos:Pos}
end
structure It where
 go:Nat->Hp->Prop
 kL:Nat->Hp->V->Hp->Prop
 stop:Nat->Hp->Prop
def iX (X:Cx) (pins:List (Addr × Obj)) (H:Hp) (b:Addr):Prop:=
 H b=none/\b≠X.env.locals/\b ∉ X.fs/\(b∈X.ex\/X.s₀.heap.objs.size<=b)/\(∀x c,X.env.cells.lookup x=some c->c≠b)/\∀p∈X.pn++pins,p.1≠b
theorem Inv.mS {X:Cx}{pins:List (Addr × Obj)}{σ:St}{H H':Hp}{s:Shared}{b:Addr}(I:Inv X pins σ H s)(J:s.heap.objs.size<=b)(L:H' b=none):iX X pins H' b:=by
 refine⟨L,Q0t (Q0f I.lt J),I.nX J,.inr (Q0c I.sz J),λx c e z=>?_,λp hp z=>?_⟩
 . obtain⟨v,q⟩:=I.cell x c e;exact absurd (Q0f q.lt (by rw[z];exact J)) (Q0r _)
 . exact absurd (Q0f (Q02 (I.pin p hp).1) (by rw[z];exact J)) (Q0r _)
structure Turn (P:Program) (w:World) (K:W.Frag) (tg:Expr) (J:It) (fp:List Addr) (it:Addr) (tn:Nat->Heap->Prop):Prop where
 mem:it∈fp
 obj:∀i h,tn i h->∀b∈fp,∃o,h.get? b=some o/\∀v,o.data≠ .cell v
 keep:∀i h h',tn i h->(∀b∈fp,∀o,h.get? b=some o->h'.get? b=some o)->tn i h'
 item:∀(X:Cx),X.prog=P->X.w=w->X.K=K->X.calm=true->∀(i:Nat) (pins:List (Addr × Obj)) (s:Shared) (σ:St) (H:Hp) (E:Value->Shared->Prop),Inv X pins σ H s->(∀b∈fp,iX X pins H b)->tn i s.heap->J.go i H->
  wpAny (model P w) X.A (pyNext (.ref it)) (λr s1=>∃u,r=some u/\
   wpAny (model P w) X.A (letOwnedTupleGo tg (.ref it) u) (λ_ s2=>∃x H',Inv X pins σ H' s2/\RelV x u/\J.kL i H x H'/\tn (i+1) s2.heap/\∀b∈fp,H' b=none) E s1) E s
 done:∀(X:Cx),X.prog=P->X.w=w->X.K=K->X.calm=true->∀(i:Nat) (pins:List (Addr × Obj)) (s:Shared) (σ:St) (H:Hp) (E:Value->Shared->Prop),Inv X pins σ H s->(∀b∈fp,iX X pins H b)->tn i s.heap->J.stop i H->
  wpAny (model P w) X.A (pyNext (.ref it)) (λr s1=>r=none/\Inv X pins σ H s1) E s
 self:∀(A:Around) (i:Nat) (s:Shared) (Q:Value->Shared->Prop) (E:Value->Shared->Prop),tn i s.heap->Q (.ref it) s->wpAny (model P w) A (pyIter (.ref it)) Q E s
noncomputable abbrev TI:=St->Hp->(It->Hp->Prop)->Prop
def PIE (X:Cx) (pins:List (Addr × Obj)) (σ:St) (tg:Expr) (R:It->Hp->Prop) (L:Value) (U:Shared):Prop:=
 ∃(it:Addr) (fp:List Addr) (Y:Nat->Heap->Prop) (J:It) (H':Hp),L=.ref it/\Inv X pins σ H' U/\Turn X.prog X.w X.K tg J fp it Y/\Y 0 U.heap/\(∀b∈fp,iX X pins H' b)/\R J H'
def PI (X:Cx) (tg iter:Expr) (J:TI):Prop:=
 ∀(pins:List (Addr × Obj)) (s:Shared) (σ:St) (H:Hp) (R:It->Hp->Prop),Inv X pins σ H s->J σ H R->
  wpAny (model X.prog X.w) X.A (eval iter X.env) (λv L=>wpAny (model X.prog X.w) X.A (pyIter v) (PIE X pins σ tg R) X.xe L) X.xe s
theorem tU {M:Model}{A:Around}{E:Value->Shared->Prop}{s:Shared}{tg:Expr}{it:Addr}{u:Value}{o:Obj}{n:String}{vs:Array Value}{Q:Unit->Shared->Prop}(L:s.heap.get? it=some o)(hc:o.cls=.type n)(U:o.data=.fields vs)
 (Y:["enumerate","zip","dict_itemiterator","dict_reverseitemiterator","odict_iterator","itertools.zip_longest","itertools.pairwise"].contains n=false) (J:Q () s):wpAny M A (letOwnedTupleGo tg (.ref it) u) Q E s:=by
 unfold letOwnedTupleGo
 cases tg <;> first
  |exact Q0d J
  |(cases u <;> first
     |exact Q0d J
     |(refine Q00 (wpAny_load L ?_)
       rw[hc,U];show wpAny M A (if(["enumerate","zip","dict_itemiterator","dict_reverseitemiterator","odict_iterator","itertools.zip_longest","itertools.pairwise"].contains n && vs[0]? == some (rawInt _))=true then _ else _) Q E s;rw[if_neg (by intro h;rw[Y,Bool.false_and] at h;cases h)];exact Q0d J))
noncomputable def nZ (K:W.Frag) (a:Addr):It:=
 ⟨λi H=>∃xs x,fv K H a xs/\xs[i]? =some x,λi H x H'=>H'=H/\∀xs,fv K H a xs->xs[i]? =some x,λi H=>∃xs,fv K H a xs/\xs.length<=i⟩
noncomputable def n0 (K:W.Frag) (a:Addr):It:=
 ⟨λi H=>∃xs x,d_ K H a xs/\xs[i]? =some x,λi H x H'=>H'=H/\∀xs,d_ K H a xs->xs[i]? =some x,λi H=>∃xs,d_ K H a xs/\xs.length<=i⟩
noncomputable def mT (lo:Int) (n:Nat):It:=⟨λi _=>i<n,λi H x H'=>H'=H/\x=.int (lo+i),λi _=>n<=i⟩
theorem Gp {P:Program}{w:World}{K:W.Frag}{tg:Expr}(a it:Addr):Turn P w K tg (nZ K a) [it] it (λi h=>h.IsListIter it a i) where
 mem:=by simp
 obj:=λi h st b J=>by
  have e:b=it:=by simpa using J
  subst e;obtain⟨o,e,c,d⟩:=st;exact⟨o,e,λv z=>by rw[d] at z;cases z⟩
 keep:=λi h h' st k=>st.at λo e=>k it (by simp) o e
 item:=by
  intro X hP hw hK hc i pins s σ H E I U st hg;subst hP hw hK;obtain⟨xs,x,Y,hx⟩:=hg;obtain⟨aa,rv,p,hz⟩:=I.list Y;obtain⟨u,hu,ru⟩:=rv.get hx;obtain⟨f0,f1,f2,f3,f4,f5⟩:=U it (by simp);refine wpAny_pyNext_list_item st p.isList (x:=u) (by simpa using hu) λh' L sb=>?_;have I1:Inv X pins σ H { s with heap:=h' }:=I.turned (t':=s.toks) (λb o J e=>(sb.2 b J).trans e) f0 f1 f3 f4 f5;obtain⟨o,e,c,d⟩:=id L;exact⟨u,rfl,tU (s:={ s with heap:=h' }) e c d (by decide) ⟨x,H,I1,ru,⟨rfl,λys hy=>by rw[I.qK hy Y];exact hx⟩,L,λb J=>(U b J).1⟩⟩
 done:=by
  intro X hP hw hK hc i pins s σ H E I U st hg;subst hP hw hK;obtain⟨xs,Y,hx⟩:=hg;obtain⟨aa,rv,p,hz⟩:=I.list Y;obtain⟨f0,f1,f2,f3,f4,f5⟩:=U it (by simp);have hl:=rv.length;exact wpAny_pyNext_list_end (I.ok.hd hc) st p.isList (by simp;omega) λh' eb=>⟨rfl,I.turned (t':=s.toks) (λb o J e=>eb b o J e) f0 f1 f3 f4 f5⟩
 self:=λ_ _ _ _ _ st h=>wpAny_pyIter_listiter st h
theorem Gq {P:Program}{w:World}{K:W.Frag}{tg:Expr}(a it:Addr):Turn P w K tg (n0 K a) [it] it (λi h=>h.IsTupleIter it a i) where
 mem:=by simp
 obj:=λi h st b J=>by
  have e:b=it:=by simpa using J
  subst e;obtain⟨o,e,c,d⟩:=st;exact⟨o,e,λv z=>by rw[d] at z;cases z⟩
 keep:=λi h h' st k=>st.at λo e=>k it (by simp) o e
 item:=by
  intro X hP hw hK hc i pins s σ H E I Y st hg;subst hP hw hK;obtain⟨xs,x,hq,hx⟩:=hg;obtain⟨L,rv,p,hz⟩:=I.tuple hq;obtain⟨u,hu,ru⟩:=rv.get hx;obtain⟨f0,f1,f2,f3,f4,f5⟩:=Y it (by simp);refine wpAny_pyNext_tuple_item st (show s.heap.IsTuple a L.toArray from p) (x:=u) (by simpa using hu) λh' U sb=>?_;have I1:Inv X pins σ H { s with heap:=h' }:=I.turned (t':=s.toks) (λb o J e=>(sb.2 b J).trans e) f0 f1 f3 f4 f5;obtain⟨o,e,c,d⟩:=id U;exact⟨u,rfl,tU (s:={ s with heap:=h' }) e c d (by decide) ⟨x,H,I1,ru,⟨rfl,λys hy=>by rw[I.Gi hy hq];exact hx⟩,U,λb J=>(Y b J).1⟩⟩
 done:=by
  intro X hP hw hK hc i pins s σ H E I Y st hg;subst hP hw hK;obtain⟨xs,hq,hx⟩:=hg;obtain⟨L,rv,p,hz⟩:=I.tuple hq;obtain⟨f0,f1,f2,f3,f4,f5⟩:=Y it (by simp);have hl:=rv.length;exact wpAny_pyNext_tuple_end (I.ok.hd hc) st (show s.heap.IsTuple a L.toArray from p) (by simp;omega) λh' eb=>⟨rfl,I.turned (t':=s.toks) (λb o J e=>eb b o J e) f0 f1 f3 f4 f5⟩
 self:=λ_ _ _ _ _ st h=>wpAny_pyIter_tupleiter st h
theorem Gr {P:Program}{w:World}{K:PySem.W.Frag}{tg:Expr}(it:Addr)(lo:Int)(n:Nat):Turn P w K tg (mT lo n) [it] it (λi h=>IsRangeIter h it (lo+(i:Nat) * 1) ((n:Int) - (i:Nat)) 1) where
 mem:=by simp
 obj:=λi h st b J=>by
  have e:b=it:=by simpa using J
  subst e
  exact⟨_,st,λv z=>by
   have z':Data.fields _=Data.cell v:=z
   cases z'⟩
 keep:=λi h h' st k=>k it (by simp) _ st
 item:=by
  intro X Y hw hK hc i pins s σ H E I U st hg;subst Y hw hK;obtain⟨f0,f1,f2,f3,f4,f5⟩:=U it (by simp);have W:=Walks.range (prog:=X.prog) (w:=X.w) (I.ok.hd hc) it lo 1 n;refine W.item i s _ _ hg st λv h' tk hv L kk=>?_;obtain⟨t,rfl⟩:=hv;have I1:Inv X pins σ H { s with heap:=h',toks:=tk }:=I.turned (λb o J e=>kk b o (by simpa using J) e) f0 f1 f3 f4 f5;refine⟨_,rfl,tU (s:={ s with heap:=h',toks:=tk }) (n:="range_iterator") L rfl rfl (by decide) ⟨.int (lo+i),H,I1,⟨t,?_⟩,⟨rfl,rfl⟩,L,λb J=>(U b J).1⟩⟩;rw[Int.mul_one]
 done:=by
  intro X Y hw hK hc i pins s σ H E I U st hg;subst Y hw hK;obtain⟨f0,f1,f2,f3,f4,f5⟩:=U it (by simp);exact wpAny_pyNext_range_end (I.ok.hd hc) st (by have:n<=i:=hg;omega) λh' eb=>⟨rfl,I.turned (t':=s.toks) (λb o J e=>eb b o J e) f0 f1 f3 f4 f5⟩
 self:=λ_ _ _ _ _ st h=>wpAny_pyIter_rangeiter st h
section
variable {X:Cx}{tg:Expr}
def AI (K:W.Frag) (tl:TE):TI:=λσ H R=>tl σ H λx H1=>∃a,x=.ref a/\(∃xs,fv K H1 a xs)/\R (nZ K a) H1
def AJ (K:W.Frag) (tl:TE):TI:=λσ H R=>tl σ H λx H1=>∃a,x=.ref a/\(∃xs,d_ K H1 a xs)/\R (n0 K a) H1
theorem kh {l:Expr}{tl:TE}(hl:PE X l tl):PI X tg l (AI X.K tl):=by
 intro pins s σ H R I h;refine fQ (hl pins s σ H _ I h) λv J zq=>?_;obtain⟨x,H1,L,U,Y⟩:=zq;obtain⟨a,e,⟨xs,hq⟩,q⟩:=Y;subst e
 cases U;obtain⟨aa,rv,p,hz⟩:=L.list hq;refine wpAny_pyIter_list p.isList ?_;refine⟨J.heap.objs.size,[J.heap.objs.size],_,_,H1,rfl,L.kept (t':=J.toks) λb o e=>Q09 _ e,Gp a _,⟨_,Q0j _ rfl,rfl,rfl⟩,λb hb=>?_,q⟩;have e:b=J.heap.objs.size:=by simpa using hb
 subst e;exact L.mS (Q0 _) (L.hok.fresh (Q0 _))
theorem jE {l:Expr}{tl:TE}(hl:PE X l tl):PI X tg l (AJ X.K tl):=by
 intro pins s σ H R I h;refine fQ (hl pins s σ H _ I h) λv J zq=>?_;obtain⟨x,H1,L,Y,q1⟩:=zq;obtain⟨a,e,⟨xs,hq⟩,q⟩:=q1;subst e
 cases Y;obtain⟨U,rv,p,hz⟩:=L.tuple hq;refine wpAny_pyIter_tuple (show J.heap.IsTuple a U.toArray from p) ?_;refine⟨J.heap.objs.size,[J.heap.objs.size],_,_,H1,rfl,L.kept (t':=J.toks) λb o e=>Q09 _ e,Gq a _,⟨_,Q0j _ rfl,rfl,rfl⟩,λb hb=>?_,q⟩;have e:b=J.heap.objs.size:=by simpa using hb
 subst e;exact L.mS (Q0 _) (L.hok.fresh (Q0 _))
theorem AK {pins:List (Addr × Obj)}{σ:St}{H:Hp}{s:Shared}{R:It->Hp->Prop}{E:Value->Shared->Prop}{lo hi:Int}{t u v:Tok}{tk:Nat}(I:Inv X pins σ H s)(h1: -(2 ^ 62)<=lo)(h2:lo<2 ^ 62)(L: -(2 ^ 62)<=hi)(U:hi<2 ^ 62)
 (q:R (mT lo (hi - lo).toNat) H):wpAny (model X.prog X.w) X.A (pyIter (.ref s.heap.objs.size)) (PIE X pins σ tg R) E { s with heap:=s.heap.push { cls:=.type "range",data:=.fields #[.int lo t,.int hi u,.int 1 v] },toks:=tk }:=by
 refine wpAny_pyIter_range (IsRange.new ..) (small_one h1 h2 L U) ?_;have J:Inv X pins σ H { s with heap:=s.heap.push { cls:=.type "range",data:=.fields #[.int lo t,.int hi u,.int 1 v] },toks:=tk }:=I.kept λb o e=>Q09 _ e
 refine⟨(s.heap.push { cls:=.type "range",data:=.fields #[.int lo t,.int hi u,.int 1 v] }).objs.size,[(s.heap.push { cls:=.type "range",data:=.fields #[.int lo t,.int hi u,.int 1 v] }).objs.size],_,_,H,rfl,
  J.kept (t':=tk) λb o e=>Q09 _ e,Gr _ lo (hi - lo).toNat,?_,λb Y=>?_,q⟩
 . have e1:lo+((0:Nat):Int) * 1=lo:=by simp
   have e2:(((hi - lo).toNat:Nat):Int) - ((0:Nat):Int)=Builtin.Range.rangeSize lo hi 1:=by rw[rangeSize_one];split <;> omega
   show IsRangeIter _ _ (lo+((0:Nat):Int) * 1) ((((hi - lo).toNat:Nat):Int) - ((0:Nat):Int)) 1;rw[e1,e2];exact Q0j _ rfl
 . have e:b=(s.heap.push { cls:=.type "range",data:=.fields #[.int lo t,.int hi u,.int 1 v] }).objs.size:=by simpa using Y
   subst e;exact J.mS (Q0 _) (J.hok.fresh (Q0 _))
def Gs (ta:TA):TI:=λσ H R=>ta σ H λvs H1=>∃j:Int,vs=[.int j]/\ -(2 ^ 62)<=j/\j<2 ^ 62/\R (mT 0 j.toNat) H1
def Gu (ta:TA):TI:=λσ H R=>ta σ H λvs H1=>∃i j:Int,vs=[.int i,.int j]/\(-(2 ^ 62)<=i/\i<2 ^ 62/\ -(2 ^ 62)<=j/\j<2 ^ 62)/\R (mT i (j - i).toNat) H1
theorem mU {a:Expr}{ta:TA}{p pos:Pos}(L:Gl X "range")(U:X.mg "range"=none)(Y:PA X [a] ta)(hs:starEach [a] X.env=[(false,eval a X.env)]:=by rfl):PI X tg (.Call (.Name "range" p) [a] [] pos) (Gs ta):=by
 intro pins s σ H R I h;refine Call_ (lu I L U boot_range (PyProof.Rows.callWith_type1 (fQ (Y pos pins s σ H _ I h) λus s1 zq=>?_) hs rfl));obtain⟨vs,H1,I1,r1,J⟩:=zq;obtain⟨j,e,J,q2,q⟩:=J;subst e
 cases r1 with
 |cons r rr=>
  cases rr;obtain⟨t,rfl⟩:=r;exact call_range_1 (AK I1 (by omega) (by omega) J q2 (by simpa using q))
theorem Gv {a b:Expr}{ta:TA}{p pos:Pos}(Y:Gl X "range")(hm:X.mg "range"=none)(ha:PA X [a,b] ta)(hs:starEach [a,b] X.env=[(false,eval a X.env),(false,eval b X.env)]:=by rfl)(J:starEach [b] X.env=[(false,eval b X.env)]:=by rfl):
 PI X tg (.Call (.Name "range" p) [a,b] [] pos) (Gu ta):=by
 intro pins s σ H R I h;refine Call_ (lu I Y hm boot_range (PyProof.Rows.callWith_type1 (fQ (ha pos pins s σ H _ I h) λus s1 zq=>?_) (by rw[hs,J]) (by rw[J];rfl)));obtain⟨vs,H1,I1,r1,L⟩:=zq;obtain⟨i,j,e,⟨L,q2,q3,q4⟩,q⟩:=L;subst e
 cases r1 with
 |cons r U=>
  cases U with
  |cons r' U=>
   cases U;obtain⟨t,rfl⟩:=r;obtain⟨t',rfl⟩:=r';exact call_range_2 (AK I1 L q2 q3 q4 q)
def Gw (wi:TI) (g:TG) (tb:TS):TS:=λD σ H=>wi σ H λJ H1=>∃W:Nat->Nat->St->Hp->Prop,(∃m,W 0 m σ H1)/\∀i m σ H,W i m σ H->
 (J.stop i H/\D.nx σ H)\/(J.go i H/\∃N:St->Hp->Prop,(∀L H',N L H'->∃Y,Y<m/\W (i+1) Y L H')/\∀x H',J.kL i H x H'->g x σ H' λU H2=>tb { D with nx:=N,ct:=N,bk:=D.nx } U H2)
noncomputable def qO (fp:List Addr) (h:Heap):List (Addr × Obj):=fp.filterMap λb=>(h.get? b).map λo=>(b,o)
theorem o_ {fp:List Addr}{h:Heap}{b:Addr}{o:Obj}(J:b∈fp)(e:h.get? b=some o):(b,o)∈qO fp h:=List.mem_filterMap.mpr ⟨b,J,by rw[e];rfl⟩
theorem Gx {fp:List Addr}{h:Heap}{p:Addr × Obj}(hp:p∈qO fp h):p.1∈fp/\h.get? p.1=some p.2:=by
 obtain⟨b,J,e⟩:=List.mem_filterMap.mp hp
 cases q:h.get? b with
 |none=>rw[q] at e;cases e
 |some o=>
  rw[q] at e;have L:(b,o)=p:=Option.some.inj e;subst L;exact⟨J,q⟩
theorem Inv.pinned {pins:List (Addr × Obj)}{σ:St}{H:Hp}{s:Shared}{fp:List Addr}(I:Inv X pins σ H s)(U:∀b∈fp,iX X pins H b)(Y:∀b∈fp,∃o,s.heap.get? b=some o/\∀v,o.data≠ .cell v):Inv X (pins++qO fp s.heap) σ H s:=
 I.mO λp hp=>(List.mem_append.mp hp).elim (λz=>I.pin p (Q07 _ z)) λz=>by
   obtain⟨J,e⟩:=Gx z;obtain⟨f0,f1,f2,_⟩:=U p.1 J;obtain⟨o,L,d⟩:=Y p.1 J;rw[e] at L;cases L;exact⟨e,f0,f1,f2,d⟩
theorem Inv.ly {pins pl:List (Addr × Obj)}{σ:St}{H:Hp}{s:Shared}(I:Inv X (pins++pl) σ H s):Inv X pins σ H s:=I.mO λp hp=>I.pin p (Q07 _ (Q0m _ hp))
theorem iz {iter:Expr}{body:List Stmt}{wi:TI}{g:TG}{tb:TS}{pos:Pos}(hp:PassesOwn (model X.prog X.w) X.A X.env X.xe)(hc:X.calm=true)(hi:PI X tg iter wi)(hg:PG X tg g)(U:jo X body tb)
 (hs:∀x,foldedSetIterable iter X.env x=pure x:=by intro _;rfl):PS X (.For tg iter body [] pos) (Gw wi g tb):=by
 intro pins s σ H D I h;refine wpAny_For (fQ (hi pins s σ H _ I h) λv s1 h1=>fQ h1 λal s2 h2=>?_) hs;obtain⟨it,fp,tn,J,H2,e,I2,T,ah,f2,W,⟨m0,w0⟩,turn⟩:=h2;subst e;have ac:∀{H':Hp},(∀b∈fp,H' b=none)->∀b∈fp,iX X pins H' b:=λhn b U=>⟨hn b U,(f2 b U).2⟩;refine codeAny_forLoop_any (λn s'=>∃i aa H',Inv X pins aa H' s'/\tn i s'.heap/\(∀b∈fp,H' b=none)/\W i n aa H') ?_ m0 ⟨0,σ,H2,I2,ah,λb U=>(f2 b U).1,w0⟩;intro n s3 zq;obtain⟨i,ab,H3,I3,af,ag,w3⟩:=zq;rcases turn i n ab H3 w3 with⟨stop,qn⟩|⟨go,N,hN,step⟩
 . refine wpAny_passesOwn hp (fQ (T.done X rfl rfl rfl hc i pins s3 ab H3 X.xe I3 (ac ag) af stop) λr s4 ⟨hr,I4⟩=>?_);subst hr;exact wpAny_execs_nil ⟨ab,H3,I4,qn⟩
 . refine wpAny_passesOwn hp (fQ (T.item X rfl rfl rfl hc i pins s3 ab H3 X.xe I3 (ac ag) af go) λr s4 ⟨u,hr,h4⟩=>?_);subst hr;refine wpAny_passesOwn hp (fQ h4 λ_ s5 zq=>?_);obtain⟨x,H5,I5,r5,y5,ae,ai⟩:=zq;have aj:=I5.pinned (ac ai) (T.obj _ _ ae);refine wpAny_passesOwn hp (fQ (hg _ s5 ab H5 x u _ aj r5 (step x H5 y5)) λ_ s6 zq=>?_);obtain⟨ak,H6,I6,q6⟩:=zq;refine wpAny_passesOwn hp (fQ (U _ s6 ak H6 _ I6 q6) λf s7 q7=>?_)
   have again:∀{L:St} {Y:Hp},Inv X (pins++qO fp s5.heap) L Y s7->N L Y->∃m,m<n/\∃i aa H',Inv X pins aa H' s7/\tn i s7.heap/\(∀b∈fp,H' b=none)/\W i m aa H':=λ{L Y} I7 n7=>by
    obtain⟨m',hm,w7⟩:=hN L Y n7;refine⟨m',hm,i+1,L,Y,I7.ly,T.keep _ _ _ ae λb U o e=>(I7.pin (b,o) (Q07 _ (Q07 _ (o_ U e)))).1,λb U=>?_,w7⟩;obtain⟨o,e,d⟩:=T.obj _ _ ae b U;exact(I7.pin (b,o) (Q07 _ (Q07 _ (o_ U e)))).2.1
   cases f with
   |next=>obtain⟨L,Y,I7,n7⟩:=q7;exact again I7 n7
   |cont=>obtain⟨L,Y,I7,n7⟩:=q7;exact again I7 n7
   |brk=>obtain⟨L,Y,I7,q7⟩:=q7;exact⟨L,Y,I7.ly,q7⟩
   |ret v=>obtain⟨x7,L,Y,I7,r7,q7⟩:=q7;exact⟨x7,L,Y,I7.ly,r7,q7⟩
end
theorem n9 {K:PySem.W.Frag}{a:Addr}{xs:List V}{g:TG}{tb:TS}{D:Ends}{σ:St}{H:Hp}(Pv:Nat->St->Hp->Prop)(h0:Pv 0 σ H)(hl:∀i σ H,i<=xs.length->Pv i σ H->fv K H a xs)
 (hs:∀i x σ H,xs[i]? =some x->Pv i σ H->g x σ H λJ H2=>tb { D with nx:=Pv (i+1),ct:=Pv (i+1),bk:=D.nx } J H2) (hd:∀σ H,Pv xs.length σ H->D.nx σ H):
 ∃W:Nat->Nat->St->Hp->Prop,(∃m,W 0 m σ H)/\∀i m σ H,W i m σ H->
  ((nZ K a).stop i H/\D.nx σ H)\/((nZ K a).go i H/\∃N:St->Hp->Prop,(∀L H',N L H'->∃Y,Y<m/\W (i+1) Y L H')/\∀x H',(nZ K a).kL i H x H'->g x σ H' λJ H2=>tb { D with nx:=N,ct:=N,bk:=D.nx } J H2):=by
 refine⟨λi m σ H=>m=xs.length - i/\i<=xs.length/\Pv i σ H,⟨xs.length,by simp,Q0a _,h0⟩,?_⟩;rintro i m σ H ⟨rfl,hi,p⟩;have q:=hl i σ H hi p;by_cases U:i<xs.length
 . refine .inr ⟨⟨xs,xs[i],q,by simp[U]⟩,Pv (i+1),λL H' p'=>⟨xs.length - (i+1),by omega,rfl,U,p'⟩,λx H' y=>?_⟩;obtain⟨e,y⟩:=y;subst e;exact hs i x σ _ (y xs q) p
 . have e:i=xs.length:=by omega
   subst e;exact .inl ⟨⟨xs,q,Q0 _⟩,hd σ H p⟩
theorem l4 {K:PySem.W.Frag}{a:Addr}{xs:List V}{g:TG}{tb:TS}{D:Ends}{σ:St}{H:Hp}(Pv:Nat->St->Hp->Prop)(h0:Pv 0 σ H)(hl:∀i σ H,i<=xs.length->Pv i σ H->d_ K H a xs)
 (hs:∀i x σ H,xs[i]? =some x->Pv i σ H->g x σ H λJ H2=>tb { D with nx:=Pv (i+1),ct:=Pv (i+1),bk:=D.nx } J H2) (hd:∀σ H,Pv xs.length σ H->D.nx σ H):
 ∃W:Nat->Nat->St->Hp->Prop,(∃m,W 0 m σ H)/\∀i m σ H,W i m σ H->
  ((n0 K a).stop i H/\D.nx σ H)\/((n0 K a).go i H/\∃N:St->Hp->Prop,(∀L H',N L H'->∃Y,Y<m/\W (i+1) Y L H')/\∀x H',(n0 K a).kL i H x H'->g x σ H' λJ H2=>tb { D with nx:=N,ct:=N,bk:=D.nx } J H2):=by
 refine⟨λi m σ H=>m=xs.length - i/\i<=xs.length/\Pv i σ H,⟨xs.length,by simp,Q0a _,h0⟩,?_⟩;rintro i m σ H ⟨rfl,hi,p⟩;have q:=hl i σ H hi p;by_cases U:i<xs.length
 . refine .inr ⟨⟨xs,xs[i],q,by simp[U]⟩,Pv (i+1),λL H' p'=>⟨xs.length - (i+1),by omega,rfl,U,p'⟩,λx H' y=>?_⟩;obtain⟨e,y⟩:=y;subst e;exact hs i x σ _ (y xs q) p
 . have e:i=xs.length:=by omega
   subst e;exact .inl ⟨⟨xs,q,Q0 _⟩,hd σ H p⟩
theorem l5 {lo:Int}{n:Nat}{g:TG}{tb:TS}{D:Ends}{σ:St}{H:Hp}(Pv:Nat->St->Hp->Prop)(h0:Pv 0 σ H)
 (hs:∀i σ H,i<n->Pv i σ H->g (.int (lo+i)) σ H λJ H2=>tb { D with nx:=Pv (i+1),ct:=Pv (i+1),bk:=D.nx } J H2) (hd:∀σ H,Pv n σ H->D.nx σ H):
 ∃W:Nat->Nat->St->Hp->Prop,(∃m,W 0 m σ H)/\∀i m σ H,W i m σ H->
  ((mT lo n).stop i H/\D.nx σ H)\/((mT lo n).go i H/\∃N:St->Hp->Prop,(∀L H',N L H'->∃Y,Y<m/\W (i+1) Y L H')/\∀x H',(mT lo n).kL i H x H'->g x σ H' λJ H2=>tb { D with nx:=N,ct:=N,bk:=D.nx } J H2):=by
 refine⟨λi m σ H=>m=n - i/\i<=n/\Pv i σ H,⟨n,by simp,Q0a _,h0⟩,?_⟩;rintro i m σ H ⟨rfl,hi,p⟩;by_cases U:i<n
 . refine .inr ⟨U,Pv (i+1),λL H' p'=>⟨n - (i+1),by omega,rfl,U,p'⟩,λx H' y=>?_⟩;obtain⟨e,y⟩:=y;subst e y;exact hs i σ _ U p
 . have e:i=n:=by omega
   subst e;exact .inl ⟨Q0 _,hd σ H p⟩
noncomputable abbrev R2:=V->V->Hp->VK->Prop
def ip (X:Cx) (f:Value->Value->Sem Value) (r:R2):Prop:=
 ∀(pins:List (Addr × Obj)) (s:Shared) (σ:St) (H:Hp) (x y:V) (v u:Value) (Q:VK),Inv X pins σ H s->RelV x v->RelV y u->r x y H Q->
  wpAny (model X.prog X.w) X.A (f v u) (EP X pins σ Q) X.xe s
def tV (X:Cx) (f:Value->Sem Value) (r:V->Hp->VK->Prop):Prop:=
 ∀(pins:List (Addr × Obj)) (s:Shared) (σ:St) (H:Hp) (x:V) (v:Value) (Q:VK),Inv X pins σ H s->RelV x v->r x H Q->
  wpAny (model X.prog X.w) X.A (f v) (EP X pins σ Q) X.xe s
def jF (X:Cx) (f:Value) (r:List V->Hp->VK->Prop):Prop:=
 ∀(pins:List (Addr × Obj)) (s:Shared) (σ:St) (H:Hp) (xs:List V) (us:List Value) (Q:VK),Inv X pins σ H s->Vals xs us->r xs H Q->
  wpAny (model X.prog X.w) X.A (call f us) (EP X pins σ Q) X.xe s
def gY (r:R2) (ta tb:TE):TE:=λσ H Q=>ta σ H λx H1=>tb σ H1 λy H2=>r x y H2 Q
def Gy (r:V->Hp->VK->Prop) (ta:TE):TE:=λσ H Q=>ta σ H λx H1=>r x H1 Q
def rI (C:Int->Int->Prop) (g:Int->Int->V):R2:=λx y H Q=>∃i j,x=.int i/\y=.int j/\C i j/\Q (g i j) H
def mV (g:Int->Int->V):R2:=λx y H Q=>∃i j,x=.int i/\y=.int j/\Q (g i j) H
def rU (g:Int->V):V->Hp->VK->Prop:=λx H Q=>∃i,x=.int i/\Q (g i) H
section
variable {X:Cx}{a b c:Expr}{ta tb tc:TE}{pos:Pos}
theorem tW (Y:PE X a ta)(hb:PE X b tb){pins:List (Addr × Obj)}{s:Shared}{σ:St}{H:Hp}{R:V->V->Hp->Prop}(I:Inv X pins σ H s)
 (h:ta σ H λx H1=>tb σ H1 λy H2=>R x y H2) {Q:Value->Shared->Prop} {f:Value->Value->Sem Value}
 (hf:∀v u U x y H2,Inv X pins σ H2 U->RelV x v->RelV y u->R x y H2->wpAny (model X.prog X.w) X.A (f v u) Q X.xe U):
 wpAny (model X.prog X.w) X.A (eval a X.env) (λv J=>wpAny (model X.prog X.w) X.A (eval b X.env) (λu L=>wpAny (model X.prog X.w) X.A (f v u) Q X.xe L) X.xe J) X.xe s:=by
 refine fQ (Y pins s σ H _ I h) λv s1 zq=>?_;obtain⟨x,H1,I1,r1,q1⟩:=zq;refine fQ (hb pins s1 σ H1 _ I1 q1) λu U zq=>?_;obtain⟨y,H2,I2,r2,q2⟩:=zq;exact hf v u U x y H2 I2 r1 r2 q2
theorem fH {op:Operator}{r:R2}(J:ip X (binaryOp op) r)(L:PE X a ta)(U:PE X b tb):PE X (.BinOp a op b pos) (gY r ta tb):=by
 intro pins s σ H Q I h;exact wpAny_BinOp (tW L U I h λv u Y x y H2 I2 rx ry q=>J pins Y σ H2 x y v u Q I2 rx ry q)
theorem Gz {op:UnaryOp}{r:V->Hp->VK->Prop}(J:tV X (unaryOp op) r)(L:PE X a ta):PE X (.UnaryOp op a pos) (Gy r ta):=by
 intro pins s σ H Q I h;exact UnaryOp_ (fQ (L pins s σ H _ I h) λv U ⟨x,H1,Y,r1,q1⟩=>J pins U σ H1 x v Q Y r1 q1)
theorem qP {f:Value->Value->Sem Value}{C:Int->Int->Prop}{g:Int->Int->Int}
 (rule:∀(i j:Int) (t u:Tok) (s:Shared) (Q:Value->Shared->Prop) (E:Value->Shared->Prop),C i j->Q (.int (g i j) s.toks) { s with toks:=s.toks+1 }->wpAny (model X.prog X.w) X.A (f (.int i t) (.int j u)) Q E s):
 ip X f (rI C λi j=>.int (g i j)):=by
 intro pins s σ H x y v u Q I J L h;obtain⟨i,j,rfl,rfl,hc,q⟩:=h;obtain⟨t,rfl⟩:=J;obtain⟨t',rfl⟩:=L;exact rule i j t t' s _ _ hc ⟨.int (g i j),H,I.tok _,⟨_,rfl⟩,q⟩
theorem AL {f:Value->Value->Sem Value}{g:Int->Int->Int}
 (rule:∀(i j:Int) (t u:Tok) (s:Shared) (Q:Value->Shared->Prop) (E:Value->Shared->Prop),Q (.int (g i j) s.toks) { s with toks:=s.toks+1 }->wpAny (model X.prog X.w) X.A (f (.int i t) (.int j u)) Q E s):
 ip X f (mV λi j=>.int (g i j)):=by
 intro pins s σ H x y v u Q I J L h;obtain⟨i,j,rfl,rfl,q⟩:=h;obtain⟨t,rfl⟩:=J;obtain⟨t',rfl⟩:=L;exact rule i j t t' s _ _ ⟨.int (g i j),H,I.tok _,⟨_,rfl⟩,q⟩
theorem tX {f:Value->Value->Sem Value}{g:Int->Int->Bool}
 (rule:∀(i j:Int) (t u:Tok) (s:Shared) (Q:Value->Shared->Prop) (E:Value->Shared->Prop),Q (.bool (g i j)) s->wpAny (model X.prog X.w) X.A (f (.int i t) (.int j u)) Q E s):
 ip X f (mV λi j=>.bl (g i j)):=by
 intro pins s σ H x y v u Q I J L h;obtain⟨i,j,rfl,rfl,q⟩:=h;obtain⟨t,rfl⟩:=J;obtain⟨t',rfl⟩:=L;exact rule i j t t' s _ _ ⟨.bl (g i j),H,I,rfl,q⟩
def GA (i j:Int):Prop:=0<j/\j<1073741824
def tY (i j:Int):Prop:=0<=j/\j<=1000000/\i.natAbs<2 ^ 64
def tZ (i j:Int):Prop:=(-(2 ^ 64)<i/\i<2 ^ 64)\/(-(2 ^ 64)<j/\j<2 ^ 64)
theorem tZ.ok {i j:Int}(h:tZ i j):IntMulOk i j:=by
 rcases h with⟨h1,h2⟩|⟨h1,h2⟩
 . exact .of_left (intBits_le_64 h1 h2)
 . exact .of_right (intBits_le_64 h1 h2)
theorem js:ip X (binaryOp .Add) (mV λi j=>.int (i+j)):=AL λ_ _ _ _ _ _ _ q=>add_int q
theorem l7:ip X (binaryOp .Sub) (mV λi j=>.int (i - j)):=AL λ_ _ _ _ _ _ _ q=>sub_int q
theorem lz:ip X (binaryOp .Mult) (rI tZ λi j=>.int (i * j)):=qP λ_ _ _ _ _ _ _ hc q=>mul_int q hc.ok
theorem iF:ip X (binaryOp .FloorDiv) (rI GA λi j=>.int (i / j)):=qP λi j _ _ _ _ _ hc q=>by
 have h1:(0:Int)<j:=hc.1;have h2:j<1073741824:=hc.2;exact floordiv_int (by omega) (by rw[Int.fdiv_eq_ediv_of_nonneg i (by omega)];exact q) (.inl (PyProof.noPylong_small (by omega)))
theorem gN:ip X (binaryOp .Mod) (rI (λ_ j=>0<j) λi j=>.int (i % j)):=qP λi j _ _ _ _ _ hc q=>by
 have h1:(0:Int)<j:=hc;exact mod_int' (by omega) (by rw[Int.fmod_eq_emod_of_nonneg i (by omega)];exact q)
theorem qQ:ip X (binaryOp .Pow) (rI tY λi j=>.int (i ^ j.toNat)):=qP λ_ _ _ _ _ _ _ hc q=>pow_int_small hc.1 hc.2.1 hc.2.2 q
theorem GB {f:Value->Sem Value}{g:Int->Int}
 (rule:∀(i:Int) (t:Tok) (s:Shared) (Q:Value->Shared->Prop) (E:Value->Shared->Prop),Q (.int (g i) s.toks) { s with toks:=s.toks+1 }->wpAny (model X.prog X.w) X.A (f (.int i t)) Q E s):
 tV X f (rU λi=>.int (g i)):=by
 intro pins s σ H x v Q I J h;obtain⟨i,rfl,q⟩:=h;obtain⟨t,rfl⟩:=J;exact rule i t s _ _ ⟨.int (g i),H,I.tok _,⟨_,rfl⟩,q⟩
theorem GC:tV X (unaryOp .USub) (rU λi=>.int (-i)):=GB λ_ _ _ _ _ q=>neg_int q
end
noncomputable def t7:V->V->Bool
 | .non,.non=>true| .non,.int _=>true| .int _,.non=>true| .non,.bl _=>true| .bl _,.non=>true| .non,.str _=>true| .str _,.non=>true
 | .int _,.int _=>true| .bl _,.bl _=>true| .str _,.str _=>true| .j3 _,.j3 _=>true
 | .int _,.str _=>true| .str _,.int _=>true| .bl _,.str _=>true| .str _,.bl _=>true
 |_,_=>false
def mW:R2:=λx y H Q=>t7 x y=true/\Q (.bl (decide (x=y))) H
def GD:R2:=λx y H Q=>t7 x y=true/\Q (.bl (!decide (x=y))) H
theorem AM {i j:Int}:decide (V.int i=V.int j)=(i == j):=by
 rw[Bool.eq_iff_iff];simp
theorem AN {i j:Bool}:decide (V.bl i=V.bl j)=(i == j):=by
 rw[Bool.eq_iff_iff];simp
theorem AO {i j:Str}:decide (V.str i=V.str j)=(i == j):=by
 rw[Bool.eq_iff_iff];simp
theorem AQ {i j:Array UInt8}:decide (V.j3 i=V.j3 j)=(i.toList == j.toList):=by
 rw[Bool.eq_iff_iff]
 cases i
 cases j;simp
section
variable {X:Cx}{a b c:Expr}{ta tb tc:TE}{pos:Pos}
theorem g9 {pins:List (Addr × Obj)}{σ:St}{H:Hp}{s:Shared}{Q:VK}{k J:Bool}(I:Inv X pins σ H s)(q:Q (.bl k) H)(e:k=J):EP X pins σ Q (.bool J) s:=by
 subst e;exact⟨.bl k,H,I,rfl,q⟩
theorem gx:ip X (compareOp .Eq) mW:=by
 intro pins s σ H x y v u Q I U J h;obtain⟨L,q⟩:=h
 cases x with
 |non=>
  cases U
  cases y with
  |non=>cases J;exact PySem.EqNone.eq_none_none (g9 I q (by simp))
  |bl j=>cases J;exact PySem.EqNone.eq_none_bool (g9 I q (by simp))
  |int j=>obtain⟨t',rfl⟩:=J;exact PySem.EqNone.eq_none_int (g9 I q (by simp))
  |str j=>obtain⟨t',rfl⟩:=J;exact PySem.EqNone.eq_none_str (g9 I q (by simp))
  |_=>exact absurd (show false=true from L) Bool.false_ne_true
 |bl i=>
  cases U
  cases y with
  |non=>cases J;exact PySem.EqNone.eq_bool_none (g9 I q (by simp))
  |bl j=>cases J;exact eq_bool (g9 I q AN)
  |str j=>obtain⟨t',rfl⟩:=J;exact PySem.EqMixed.eq_bool_str (g9 I q (by simp))
  |_=>exact absurd (show false=true from L) Bool.false_ne_true
 |int i=>
  obtain⟨t,rfl⟩:=U
  cases y with
  |non=>cases J;exact PySem.EqNone.eq_int_none (g9 I q (by simp))
  |int j=>obtain⟨t',rfl⟩:=J;exact eq_int (g9 I q AM)
  |str j=>obtain⟨t',rfl⟩:=J;exact PySem.EqMixed.eq_int_str (g9 I q (by simp))
  |_=>exact absurd (show false=true from L) Bool.false_ne_true
 |str i=>
  obtain⟨t,rfl⟩:=U
  cases y with
  |non=>cases J;exact PySem.EqNone.eq_str_none (g9 I q (by simp))
  |bl j=>cases J;exact PySem.EqMixed.eq_str_bool (g9 I q (by simp))
  |int j=>obtain⟨t',rfl⟩:=J;exact PySem.EqMixed.eq_str_int (g9 I q (by simp))
  |str j=>obtain⟨t',rfl⟩:=J;exact eq_str (g9 I q AO)
  |_=>exact absurd (show false=true from L) Bool.false_ne_true
 |j3 i=>
  obtain⟨t,rfl⟩:=U
  cases y with
  |j3 j=>obtain⟨t',rfl⟩:=J;exact W.eq_bytes (g9 I q AQ)
  |_=>exact absurd (show false=true from L) Bool.false_ne_true
 |_=>cases y <;> exact absurd (show false=true from L) Bool.false_ne_true
theorem l8:ip X (compareOp .NotEq) GD:=by
 intro pins s σ H x y v u Q I U J h;obtain⟨L,q⟩:=h
 cases x with
 |non=>
  cases U
  cases y with
  |non=>cases J;exact PySem.EqNone.ne_none_none (g9 I q (by simp))
  |bl j=>cases J;exact PySem.EqNone.ne_none_bool (g9 I q (by simp))
  |int j=>obtain⟨t',rfl⟩:=J;exact PySem.EqNone.ne_none_int (g9 I q (by simp))
  |str j=>obtain⟨t',rfl⟩:=J;exact PySem.EqNone.ne_none_str (g9 I q (by simp))
  |_=>exact absurd (show false=true from L) Bool.false_ne_true
 |bl i=>
  cases U
  cases y with
  |non=>cases J;exact PySem.EqNone.ne_bool_none (g9 I q (by simp))
  |bl j=>cases J;exact ne_bool (g9 I q (congrArg not AN))
  |str j=>obtain⟨t',rfl⟩:=J;exact PySem.EqMixed.ne_bool_str (g9 I q (by simp))
  |_=>exact absurd (show false=true from L) Bool.false_ne_true
 |int i=>
  obtain⟨t,rfl⟩:=U
  cases y with
  |non=>cases J;exact PySem.EqNone.ne_int_none (g9 I q (by simp))
  |int j=>obtain⟨t',rfl⟩:=J;exact ne_int (g9 I q (congrArg not AM))
  |str j=>obtain⟨t',rfl⟩:=J;exact PySem.EqMixed.ne_int_str (g9 I q (by simp))
  |_=>exact absurd (show false=true from L) Bool.false_ne_true
 |str i=>
  obtain⟨t,rfl⟩:=U
  cases y with
  |non=>cases J;exact PySem.EqNone.ne_str_none (g9 I q (by simp))
  |bl j=>cases J;exact PySem.EqMixed.ne_str_bool (g9 I q (by simp))
  |int j=>obtain⟨t',rfl⟩:=J;exact PySem.EqMixed.ne_str_int (g9 I q (by simp))
  |str j=>obtain⟨t',rfl⟩:=J;exact ne_str (g9 I q (congrArg not AO))
  |_=>exact absurd (show false=true from L) Bool.false_ne_true
 |j3 i=>
  obtain⟨t,rfl⟩:=U
  cases y with
  |j3 j=>obtain⟨t',rfl⟩:=J;exact W.ne_bytes (g9 I q (congrArg not AQ))
  |_=>exact absurd (show false=true from L) Bool.false_ne_true
 |_=>cases y <;> exact absurd (show false=true from L) Bool.false_ne_true
theorem qR:ip X (compareOp .Lt) (mV λi j=>.bl (decide (i<j))):=tX λ_ _ _ _ _ _ _ q=>lt_int q
theorem AR:ip X (compareOp .LtE) (mV λi j=>.bl (decide (i<=j))):=tX λ_ _ _ _ _ _ _ q=>le_int q
theorem n_:ip X (compareOp .Gt) (mV λi j=>.bl (decide (j<i))):=tX λ_ _ _ _ _ _ _ q=>gt_int q
theorem GF:ip X (compareOp .Is) (λx y H Q=>y=.non/\Q (.bl (decide (x=.non))) H):=by
 intro pins s σ H x y v u Q I J L h;obtain⟨rfl,q⟩:=h
 cases L;refine is_none_gen (g9 I q ?_)
 cases x <;> first
  |(cases J;rfl)
  |(obtain⟨t,rfl⟩:=J;rfl)
theorem mY:ip X (compareOp .IsNot) (λx y H Q=>y=.non/\Q (.bl (!decide (x=.non))) H):=by
 intro pins s σ H x y v u Q I J L h;obtain⟨rfl,q⟩:=h
 cases L;refine isnot_none_gen (g9 I q ?_)
 cases x <;> first
  |(cases J;rfl)
  |(obtain⟨t,rfl⟩:=J;rfl)
theorem fV (b:Expr){op:CmpOp}(h:op≠ .In:=by decide)(h2:op≠ .NotIn:=by decide):behindInMarks op b=false:=by
 have J:(op == CmpOp.In)=false:=by cases op <;> first|rfl|exact absurd rfl h
 have L:(op == CmpOp.NotIn)=false:=by cases op <;> first|rfl|exact absurd rfl h2
 cases b <;> simp[behindInMarks,J,L]
theorem ki {op:CmpOp}{r:R2}(J:ip X (compareOp op) r)(L:PE X a ta)(U:PE X b tb)(Y:behindInMarks op b=false):PE X (.Compare a [op] [b] pos) (gY r ta tb):=by
 intro pins s σ H Q I h;exact wpAny_Compare1 (tW L U I h λv u s2 x y H2 I2 rx ry q=>J pins s2 σ H2 x y v u Q I2 rx ry q) Y
def kM (t:TE):TT:=λσ H Q=>t σ H λx H'=>∃k,x=.bl k/\Q k H'
theorem fY {op:CmpOp}{r:R2}(J:ip X (compareOp op) r)(L:PE X a ta)(U:PE X b tb)(Y:behindInMarks op b=false):PT X (.Compare a [op] [b] pos) (kM (gY r ta tb)):=by
 intro pins s σ H Q I h
 refine wpAny_isTrue_Compare1 (fQ (L pins s σ H _ I h) λv s1 ⟨x,H1,I1,r1,q1⟩=>fQ (U pins s1 σ H1 _ I1 q1) λu s2 ⟨y,H2,I2,r2,q2⟩=>
  fQ (J pins s2 σ H2 x y v u _ I2 r1 r2 q2) λc s3 ⟨z,H3,I3,r3,k,e,q3⟩=>?_) Y
 subst e
 cases r3;exact wpAny_truthy_bool ⟨H3,I3,q3⟩
theorem og:(sizeLine:Nat)<2 ^ 63:=by rw[sizeLine_eq];decide
theorem pd:ip X (binaryOp .Add) (λx y H Q=>∃i j,x=.str i/\y=.str j/\i.length+j.length<=sizeLine/\Q (.str (i++j)) H):=by
 intro pins s σ H x y v u Q I J L h;obtain⟨i,j,rfl,rfl,U,q⟩:=h;obtain⟨t,rfl⟩:=J;obtain⟨t',rfl⟩:=L;exact add_str (λt' tk=>⟨.str (i++j),H,I.tok _,⟨_,rfl⟩,q⟩) U
theorem vals1 {x:V}{us:List Value}(r:Vals [x] us):∃u,us=[u]/\RelV x u:=by
 cases r with
 |cons J L=>cases L;exact⟨_,rfl,J⟩
theorem vals2 {x y:V}{us:List Value}(r:Vals [x,y] us):∃u J,us=[u,J]/\RelV x u/\RelV y J:=by
 cases r with
 |cons L U=>
  cases U with
  |cons Y r4=>cases r4;exact⟨_,_,rfl,L,Y⟩
end
structure mZ (h:Heap) (x dx C:Addr) (mA:Str->Option Value):Prop where
 obj:h.get? x=some (W.instObj C dx)
 ns:h.Ns1 dx mA
 ne:dx≠x
theorem GH {h:Heap}{dx:Addr}{mA:Str->Option Value}(n:h.Ns1 dx mA):∃L,h.get? dx=some L/\∀name,W.lookIn name L=some (mA name):=by
 obtain⟨o,es,ep,U,Y,hk,_,hm⟩:=n;refine⟨o,U,λname=>?_⟩;have e:=hm name;unfold nsFind findBy at e;rw[<-Array.find?_toList] at e;unfold W.lookIn;rw[Y];dsimp only;split
 . rename_i y q;rw[q] at e;exact congrArg some e
 . rename_i q;rw[q] at e
   have a:es.toList.any (·.refKey)=false:=by
    rw[List.any_eq_false];intro y hy;obtain⟨z,t,J⟩:=hk y (Array.mem_toList_iff.mp hy);simp[DictEntry.refKey,J]
   have a':¬es.toList.any (·.refKey)=true:=by rw[a];exact Bool.false_ne_true
   rw[if_neg a'];exact congrArg some e
theorem mZ.look {h:Heap}{x dx C:Addr}{mA:Str->Option Value}(I:mZ h x dx C mA):∃J,W.InstAt h x (W.instObj C dx) C (some J)/\∀name,W.lookIn name J=some (mA name):=
 let⟨J,L,hl⟩:=GH I.ns
 ⟨J,⟨I.obj,rfl,rfl,L⟩,hl⟩
section
variable {prog:Program}{w:World}{A:Around}{E:Value->Shared->Prop}{s:Shared}{K:W.Frag}{x dx C f:Addr}{mA:Str->Option Value}{name:Str}{v:Value}
theorem get_map {L:Bool}{Q:Value->Shared->Prop}(X:K.In s.heap)(I:mZ s.heap x dx C mA)(Y:W.plainGet K C name=true)(hh:W.hasDictIn K C=true)
 (ha:W.findIn K (.ref C) name=some none) (hv:mA name=some v) (U:W.handedIn v=true) (h:Q v { s with toks:=s.toks+1 }):
 wpAny (model prog w) A (getAttr (.ref x) name L) Q E s:=by
 obtain⟨od,J,hl⟩:=I.look;exact W.get_value X J (W.plainGet_of Y).1 (W.findObj_own hh ha rfl (by rw[hl,hv])) U h
theorem GI {pl:Sem Bool}{Q:Value × List Value->Shared->Prop}(X:K.In s.heap)(I:mZ s.heap x dx C mA)(L:W.plainGet K C name=true)
 (U:W.findIn K (.ref C) name=some (some (.ref f))) (Y:W.isFn K (.ref f)=true) (hv:mA name=none) (h:Q (.ref f,[.ref x]) s):
 wpAny (model prog w) A (getMethod (.ref x) name pl) Q E s:=by
 obtain⟨od,J,hl⟩:=I.look;exact W.method_fn X J (W.plainGet_of L).1 (W.plainGet_of L).2 U (beq_iff_eq.mp Y) (by show(W.lookIn name od).map (·.isSome)=some false;rw[hl,hv];rfl) h
theorem GJ {ns:List Str}{Q:Unit->Shared->Prop}(X:K.In s.heap)(I:mZ s.heap x dx C mA)
 (hs:W.findIn K (.ref C) "__setattr__"=some (some (.builtin "object.__setattr__"))) (hp:W.plainOver K C=true) (ht:W.takerIn K C name=some none) (hh:W.hasDictIn K C=true)
 (hw:PySem.Within mA ns) (hsz:ns.length<=sizeLine)
 (h:∀h',mZ h' x dx C (λy=>if y=name then some v else mA y)->Heap.SameBut dx s.heap h'->Q () { s with heap:=h',toks:=s.toks+2 }):
 wpAny (model prog w) A (setAttr (.ref x) name v) Q E s:=by
 obtain⟨od,J,hl⟩:=I.look;refine W.set_plain X J hs (W.osa_open (s:={ s with toks:=s.toks+1 }) (r:=none) X J hp ht λb=>?_);obtain⟨cd,hc,Y⟩:=W.any_some hh;have hx:s.heap.get? x=some ⟨.ref C,some dx,.plain,#[]⟩:=I.obj;refine Q00 (Q0d (Q00 (Q00 (wpAny_loadPart hx (Q00 (W.Looks.here (s:={ s with toks:=s.toks+1 }) (W.looks_clsIn X hc) ?_))))));rw[Y];refine Q0d (a:=some dx) (Q00 (Q0d (Q00 ?_)));refine wpAny_nsSet1 (s:={ s with toks:=s.toks+1 }) I.ns λh' L U=>?_;obtain⟨oD,ae,af,aa,ab,ac⟩:=L.count (PySem.Within.cons name v hw);refine Q00 (wpAny_lookBehind aa (by rw[ab];exact pastItsLine_dict (Q0c ac (by rw[Q0k];omega))) ?_);exact Q0d (h _ ⟨(U.2 _ (Ne.symm I.ne)).trans I.obj,L,I.ne⟩ U)
theorem GK {R:Result->Shared->Prop}{vs:List Value}{J:List (Str × Value)}(X:K.In s.heap)(L:W.makesIn K C=true)
 (hi:W.findIn K (.ref C) "__init__"=some (some (.ref f))) (U:W.typeIn K (.ref f)=some (.type "function"))
 (h:codeAny (model prog w) (A.under (.builtin "type.__call__" ⟨.ref C::vs,J⟩)) (.call (.ref f) ⟨.ref (s.heap.objs.size+1)::vs,J⟩) (W.InitBack (s.heap.objs.size+1) R)
   { s with heap:=(s.heap.push W.emptyDict).push (W.instObj C s.heap.objs.size) }):
 codeAny (model prog w) A (.call (.ref C) ⟨vs,J⟩) R s:=by
 obtain⟨Y,g,d,t,os⟩:=s;exact W.make_core (W.makes_of X L) (W.looks_findIn X hi) (λself=>W.bind_fn X self U) (.inl rfl) h
end
noncomputable def ji (f:Str) (v:V):List (Str × V)->List (Str × V)
 |[]=>[(f,v)]
 |(g,x)::r=>if g=f then(g,v)::r else(g,x)::ji f v r
theorem AU (f g:Str)(v:V):∀fs:List (Str × V),(ji f v fs).lookup g=if g=f then some v else fs.lookup g
 |[]=>by
  show List.lookup g [(f,v)]=_;by_cases h:g=f
  . have J:(g == f)=true:=beq_iff_eq.mpr h;simp only[List.lookup,J,if_pos h]
  . have J:(g == f)=false:=beq_eq_false_iff_ne.mpr h;simp only[List.lookup,J,if_neg h]
 |(k,x)::r=>by
  have L:=AU f g v r;rw[show ji f v ((k,x)::r)=(if k=f then(k,v)::r else(k,x)::ji f v r) from rfl];by_cases hk:k=f
  . rw[if_pos hk];by_cases h:g=k
    . have J:(g == k)=true:=beq_iff_eq.mpr h;simp only[List.lookup,J,if_pos (h.trans hk)]
    . have J:(g == k)=false:=beq_eq_false_iff_ne.mpr h;simp only[List.lookup,J,if_neg (λe:g=f=>h (e.trans hk.symm))]
  . rw[if_neg hk];by_cases h:g=k
    . have J:(g == k)=true:=beq_iff_eq.mpr h;simp only[List.lookup,J,if_neg (λe:g=f=>hk (h.symm.trans e))]
    . have J:(g == k)=false:=beq_eq_false_iff_ne.mpr h;simp only[List.lookup,J];exact L
theorem t8 (f:Str)(v:V):∀fs:List (Str × V),f∈(ji f v fs).map (·.1)/\∀g,g∈fs.map (·.1)->g∈(ji f v fs).map (·.1)
 |[]=>⟨by simp[ji],λg h=>by simp at h⟩
 |(k,x)::r=>by
  obtain⟨J,L⟩:=t8 f v r;rw[show ji f v ((k,x)::r)=(if k=f then(k,v)::r else(k,x)::ji f v r) from rfl];by_cases hk:k=f
  . rw[if_pos hk];subst hk;exact⟨by simp,λg h=>by simpa using h⟩
  . rw[if_neg hk];refine⟨?_,λg h=>?_⟩
    . rw[Q0w];exact Q04 _ J
    . rw[Q0w] at h ⊢;rcases List.mem_cons.mp h with e|e
      . exact List.mem_cons.mpr (.inl e)
      . exact Q04 _ (L g e)
theorem AV (f:Str)(v:V):∀fs:List (Str × V),(ji f v fs).length<=fs.length+1
 |[]=>by simp[ji]
 |(k,x)::r=>by
  have J:=AV f v r;rw[show ji f v ((k,x)::r)=(if k=f then(k,v)::r else(k,x)::ji f v r) from rfl];by_cases hk:k=f
  . rw[if_pos hk,Q0k,Q0k];omega
  . rw[if_neg hk,Q0k,Q0k];omega
theorem jg.some_of {v:V}{o:Option Value}(r:jg (some v) o):∃u,o=some u/\RelV v u:=by
 cases o with
 |none=>exact(show False from r).elim
 |some u=>exact⟨u,rfl,r⟩
theorem jg.none_of {o:Option Value}(r:jg none o):o=none:=by
 cases o with
 |none=>rfl
 |some u=>exact(show False from r).elim
theorem GL {v:V}{u:Value}(r:RelV v u):W.handedIn u=true:=by
 cases v with
 |non=>cases(show u=Value.none from r);rfl
 |bl b=>cases(show u=Value.bool b from r);rfl
 |int i=>obtain⟨t,e⟩:=(show ∃t,u=Value.int i t from r);cases e;rfl
 |str x=>obtain⟨t,e⟩:=(show ∃t,u=Value.str x t from r);cases e;rfl
 |j3 b=>obtain⟨t,e⟩:=(show ∃t,u=Value.bytes b t from r);cases e;rfl
 |flt b=>obtain⟨t,e⟩:=(show ∃t,u=Value.float b t from r);cases e;rfl
 |ref a=>cases(show u=Value.ref a from r);rfl
 |ty n=>cases(show u=Value.type n from r);rfl
section
variable {P:Program}{w:World}{H H':Hp}{h h':Heap}{a C dx:Addr}{fs fs':List (Str × V)}
theorem qS (J:g8 P w H h)(e:H a=some (.ins C dx fs)):∃mA,mZ h a dx C mA/\(∀f,jg (fs.lookup f) (mA f))/\PySem.Within mA (fs.map (·.1))/\fs.length<=1000/\H dx=some (.own a):=by
 obtain⟨d,z,ne,L,mA,n,r,q⟩:=(show h_ P w H h a (.ins C dx fs) from J a _ e);exact⟨mA,⟨L,n,ne⟩,r,q,z,d⟩
end
structure Cls (K:W.Frag) (C:Addr):Prop where
 pg:W.plainGet K C Str.empty=true
 hd:W.hasDictIn K C=true
 po:W.plainOver K C=true
 sa:W.findIn K (.ref C) "__setattr__"=some (some (.builtin "object.__setattr__"))
theorem Cls.get {K:W.Frag}{C:Addr}(c:Cls K C)(f:Str):W.plainGet K C f=true:=c.pg
def l9 (K:W.Frag) (C:Addr) (f:Str):Prop:=W.findIn K (.ref C) f=some none
theorem l9.taker {K:W.Frag}{C:Addr}{f:Str}(n:l9 K C f):W.takerIn K C f=some none:=by
 unfold W.takerIn;rw[show W.findIn K (.ref C) f=some none from n];rfl
structure Meth (K:W.Frag) (C:Addr) (m:Str) (f:Addr):Prop where
 at_:W.findIn K (.ref C) m=some (some (.ref f))
 fn:W.isFn K (.ref f)=true
 kp:W.keepIn K (.ref f)=true
section
variable {X:Cx}{pins:List (Addr × Obj)}{σ:St}{H:Hp}{s:Shared}{a C dx:Addr}{fs:List (Str × V)}{f:Str}{v:V}{A:Around}{E:Value->Shared->Prop}
theorem GN {b:Bool}{Q:Value->Shared->Prop}(I:Inv X pins σ H s)(e:H a=some (.ins C dx fs))(c:Cls X.K C)(n:l9 X.K C f)(l:fs.lookup f=some v)
 (h:∀u s',Inv X pins σ H s'->RelV v u->Q u s'):wpAny (model X.prog X.w) A (getAttr (.ref a) f b) Q E s:=by
 obtain⟨mA,O,r,_,_,_⟩:=qS I.hok e;obtain⟨u,L,J⟩:=jg.some_of (v:=v) (o:=mA f) (by rw[<-l];exact r f);exact get_map I.ir O (c.get f) c.hd n L (GL J) (h u _ (I.tok _) J)
theorem GO {m:Str}{g:Addr}{pl:Sem Bool}{Q:Value × List Value->Shared->Prop}(I:Inv X pins σ H s)(e:H a=some (.ins C dx fs))(c:Cls X.K C)(k:Meth X.K C m g)(l:fs.lookup m=none)
 (h:Q (.ref g,[.ref a]) s):wpAny (model X.prog X.w) A (getMethod (.ref a) m pl) Q E s:=by
 obtain⟨mA,O,r,_,_,_⟩:=qS I.hok e;have J:mA m=none:=jg.none_of (by rw[<-l];exact r m);exact GI I.ir O (c.get m) k.at_ k.fn J h
theorem GP {y:V}{u:Value}{Q:Unit->Shared->Prop}(I:Inv X pins σ H s)(e:H a=some (.ins C dx fs))(c:Cls X.K C)(n:l9 X.K C f)(hl:fs.length<1000)(Y:RelV y u)
 (h:∀s',Inv X pins σ (upd H a (.ins C dx (ji f y fs))) s'->Q () s'):wpAny (model X.prog X.w) A (setAttr (.ref a) f u) Q E s:=by
 obtain⟨mA,O,r,L,_,U⟩:=qS I.hok e;have hz:(fs.map (·.1)).length<=sizeLine:=by rw[Q05,sizeLine_eq];omega
 refine GJ I.ir O c.sa c.po n.taker c.hd L hz λh' J sb=>h _ ?_;have hd:∃o,h'.get? dx=some o:=let⟨o,_,_,e',_⟩:=J.ns;⟨o,e'⟩
 refine I.write (x:=a) (e:=dx) (by rw[e];exact True.intro) (.inr U) (λb q hb z=>(sb.2 b hb).trans z) hd ?_;refine⟨by rw[fk O.ne];exact U,?_,O.ne,J.obj,_,J.ns,λg=>?_,λg hg=>?_⟩
 . have:=AV f y fs;omega
 . show jg ((ji f y fs).lookup g) (if g=f then some u else mA g);rw[AU];by_cases q:g=f
   . rw[if_pos q,if_pos q];exact Y
   . rw[if_neg q,if_neg q];exact r g
 . by_cases q:g=f
   . rw[q];exact(t8 f y fs).1
   . refine(t8 f y fs).2 g (L g λz=>hg ?_);show(if g=f then some u else mA g)=none;rw[if_neg q];exact z
theorem Inv.made (I:Inv X pins σ H s):Inv X pins σ (upd (upd H s.heap.objs.size (.own (s.heap.objs.size+1))) (s.heap.objs.size+1) (.ins C s.heap.objs.size []))
 { s with heap:=(s.heap.push W.emptyDict).push (W.instObj C s.heap.objs.size) }:=by
 have J:(s.heap.push W.emptyDict).get? s.heap.objs.size=some W.emptyDict:=Q0j s.heap rfl
 have L:((s.heap.push W.emptyDict).push (W.instObj C s.heap.objs.size)).get? (s.heap.objs.size+1)=some (W.instObj C s.heap.objs.size):=by
  have:=Q0j (s.heap.push W.emptyDict) (o:=W.instObj C s.heap.objs.size) rfl
  rwa [Q1b] at this
 have U:(s.heap.push W.emptyDict).Ns s.heap.objs.size (λ_=>none):=⟨W.emptyDict,#[],_,J,rfl,(λe Y=>absurd Y (by simp)),λ_=>rfl⟩;have I1:=I.laid (a:=s.heap.objs.size) (o:=.own (s.heap.objs.size+1)) (h':=s.heap.push W.emptyDict) (t':=s.toks) (λb u q=>Q09 _ q) (Q0 _) ⟨_,J⟩;refine I1.laid (a:=s.heap.objs.size+1) (o:=.ins C s.heap.objs.size []) (t':=s.toks) (λb u q=>Q09 _ q) (Q1w (Q1b _ _)) ?_;have ne:s.heap.objs.size≠s.heap.objs.size+1:=Q08 (Q1 _);refine⟨by rw[fk ne,fA],Q0a _,ne,L,λ_=>none,(Heap.Ns1.of_empty U).at λo q=>Q09 _ q,λ_=>True.intro,λy hy=>absurd rfl hy⟩
theorem GQ {prog:Program}{w:World}{env:Env}{e:Expr}{f:Str}{pos:Pos}{s:Shared}{Q:Value->Shared->Prop}(L:attributeBase e f env (eval e env)=eval e env)
 (h:wpAny (model prog w) A (eval e env) (λo J=>wpAny (model prog w) A (getAttr o f true) Q E J) E s):wpAny (model prog w) A (eval (.Attribute e f pos) env) Q E s:=
 Attribute_any_ h (by rw[arm_eval_Attribute,L])
end
def GR (K:W.Frag) (ta:TE) (f:Str):TE:=λσ H Q=>ta σ H λx H1=>∃a C dx fs v,x=.ref a/\H1 a=some (.ins C dx fs)/\Cls K C/\l9 K C f/\fs.lookup f=some v/\Q v H1
def GS (K:W.Frag) (ta tv:TE) (f:Str):TS:=λD σ H=>tv σ H λy H1=>ta σ H1 λx H2=>∃a C dx fs,x=.ref a/\H2 a=some (.ins C dx fs)/\Cls K C/\l9 K C f/\fs.length<1000/\
 D.nx σ (upd H2 a (.ins C dx (ji f y fs)))
section
variable {X:Cx}{o e value:Expr}{f:Str}{pos pos' tpos:Pos}{ta tv:TE}
theorem m4 (J:PE X e ta)(L:attributeBase e f X.env (eval e X.env)=eval e X.env):PE X (.Attribute e f pos) (GR X.K ta f):=by
 intro pins s σ H Q I h;refine GQ L (fQ (J pins s σ H _ I h) λu s1 zq=>?_);obtain⟨x,H1,U,Y,a,C,dx,fs,v,ex,ea,c,n,l,q⟩:=zq;subst ex;obtain rfl:u=Value.ref a:=Y;exact GN U ea c n l λu' s2 I2 ru=>⟨v,H1,I2,ru,q⟩
theorem AW (J:PE X o ta)(L:PE X value tv)(U:swapsWith value (some (.Attribute o f pos')) pos.line X.env=pure false):PS X (.Assign [.Attribute o f pos'] value pos) (GS X.K ta tv f):=by
 intro pins s σ H D I h;refine plainObj_wpAny_Assign_Attribute (fQ (L pins s σ H _ I h) λu Y ⟨y,H1,I1,ry,q⟩=>fQ (J pins Y σ H1 _ I1 q) λov s2 zq=>?_) U;obtain⟨x,H2,I2,rx,a,C,dx,fs,ex,ea,c,n,l,q2⟩:=zq;subst ex;obtain rfl:ov=Value.ref a:=rx;exact GP I2 ea c n l ry λs3 I3=>⟨σ,_,I3,q2⟩
end
section
variable {X:Cx}{pins:List (Addr × Obj)}{σ:St}{H:Hp}{s:Shared}{A:Around}{E:Value->Shared->Prop}{Q:Value->Shared->Prop}{c:Value}{b:Bool}
inductive jV (K:W.Frag) (H:Hp):V->Value->Prop where
 |non:jV K H .non (.type "NoneType")
 |bl (x:Bool):jV K H (.bl x) (.type "bool")
 |int (i:Int):jV K H (.int i) (.type "int")
 |str (x:Str):jV K H (.str x) (.type "str")
 |flt (x:UInt64):jV K H (.flt x) (.type "float")
 |lst {a:Addr} {xs:List V} (e:H a=some (.lst xs)):jV K H (.ref a) (.type "list")
 |jm {a:Addr} {o:Obj} {xs:List V} (e:H a=some (.jm o (.lst xs))):jV K H (.ref a) (.type "list")
 |tup {a:Addr} {xs:List V} (e:H a=some (.tup xs)):jV K H (.ref a) (.type "tuple")
 |dK {a:Addr} {kvs:List (Key × V)} (e:H a=some (.dK kvs)):jV K H (.ref a) (.type "dict")
 |dT {a:Addr} {kvs:List (List Key × V)} (e:H a=some (.dT kvs)):jV K H (.ref a) (.type "dict")
 |ins {a C dx:Addr} {fs:List (Str × V)} (e:H a=some (.ins C dx fs)) (cl:Cls K C) (ha:W.findIn K (.ref C) "__class__"=some (some (.builtin "object.__class__")))
   (hn:W.specialIn K (.builtin "object.__class__") "__get__"=some (some (.builtin "getset_descriptor.__get__"))) (htk:W.takesIn K (.builtin "object.__class__")=some true)
   (hm:W.mroIn K C (.type "object")=some true):jV K H (.ref a) (.ref C)
theorem GU {x:V}{u t:Value}(I:Inv X pins σ H s)(L:RelV x u)(ty:jV X.K H x t)(e:W.kitOne X.K t c=some b)(h:∀tk,Q (.bool b) { s with toks:=tk }):
 wpAny (model X.prog X.w) A (call (.builtin "isinstance") [u,c]) Q E s:=by
 cases ty with
 |non=>cases(show u=Value.none from L);exact W.kia_one W.kitx_none I.ir True.intro e (λz=>nomatch z) h
 |bl y=>cases(show u=Value.bool y from L);exact W.kia_one W.kitx_bool I.ir True.intro e (λz=>nomatch z) h
 |int i=>obtain⟨t,q⟩:=(show ∃t,u=Value.int i t from L);cases q;exact W.kia_one W.kitx_int I.ir True.intro e (λz=>nomatch z) h
 |str y=>obtain⟨t,q⟩:=(show ∃t,u=Value.str y t from L);cases q;exact W.kia_one W.kitx_str I.ir True.intro e (λz=>nomatch z) h
 |flt y=>obtain⟨t,q⟩:=(show ∃t,u=Value.float y t from L);cases q;exact W.kia_one W.kitx_float I.ir True.intro e (λz=>nomatch z) h
 |@lst a xs U=>
  cases(show u=Value.ref a from L);obtain⟨_,_,n,_,h1⟩:=(show h_ X.prog X.w H s.heap a (.lst xs) from I.hok a _ U);exact W.kia_one W.kitx_list I.ir ⟨_,h1,rfl⟩ e (λz=>nomatch z) h
 |@jm a ob xs U=>
  cases(show u=Value.ref a from L);obtain⟨_,_,_,n,_,h1⟩:=(show h_ X.prog X.w H s.heap a (.jm ob (.lst xs)) from I.hok a _ U);exact W.kia_one W.kitx_list I.ir ⟨_,h1,rfl⟩ e (λz=>nomatch z) h
 |@tup a xs U=>
  cases(show u=Value.ref a from L);obtain⟨_,_,_,p⟩:=(show h_ X.prog X.w H s.heap a (.tup xs) from I.hok a _ U);obtain⟨o,h1,h2,_⟩:=p;exact W.kia_one W.kitx_tuple I.ir ⟨o,h1,h2⟩ e (λz=>nomatch z) h
 |@dK a kvs U=>
  cases(show u=Value.ref a from L);obtain⟨_,_,vs,_,p⟩:=(show h_ X.prog X.w H s.heap a (.dK kvs) from I.hok a _ U);obtain⟨o,es,ep,h1,h2,_⟩:=p;exact W.kia_one W.kitx_dict I.ir ⟨o,h1,h2.1⟩ e (λz=>nomatch z) h
 |@dT a kvs U=>
  cases(show u=Value.ref a from L);obtain⟨_,_,xs,_,o,es,ep,h1,h2,_⟩:=(show h_ X.prog X.w H s.heap a (.dT kvs) from I.hok a _ U);exact W.kia_one W.kitx_dict I.ir ⟨o,h1,h2.1⟩ e (λz=>nomatch z) h
 |@ins a C dx fs U cl ha hn Y hm=>
  cases(show u=Value.ref a from L);obtain⟨mA,O,_⟩:=qS I.hok U;obtain⟨od,J,_⟩:=O.look;exact W.kia_one (W.kitx_own (cl.get _) cl.hd ha hn Y hm) I.ir J e (λz=>nomatch z) h
end
structure gP (k:Nat) (A:Around):Prop where
 hd:A.handled=none
 dp:A.depth+3 * k+5<recursionLimit
 un:A.units+16 * k+200<cLine
theorem gP.mono {j k:Nat}{A:Around}(r:gP k A)(h:j<=k):gP j A:=⟨r.hd,by have:=r.dp;omega,by have:=r.un;omega⟩
theorem gP.deeper {k:Nat}{A:Around}(r:gP (k+1) A)(env:Env):gP k (A.deeper env):=
 ⟨r.hd,by have:=r.dp;show A.depth+1+3 * k+5<_;omega,by have:=r.un;show A.units+3+16 * k+200<_;omega⟩
theorem gP.in1 {k:Nat}{A:Around}(r:gP (k+1) A):gP k A.in1:=
 ⟨r.hd,by have:=r.dp;show A.depth+3 * k+5<_;omega,by have:=r.un;show A.units+1+16 * k+200<_;omega⟩
theorem GV {A:Around}{C:Addr}{us:List Value}{J:List (Str × Value)}:(A.under (.builtin "type.__call__" ⟨.ref C::us,J⟩)).depth=A.depth+1:=by
 first|rfl|simp[Around.under,Code.weight,Code.isCreation,Code.isGuard,Code.isCaller,Code.frames,Code.isFrame,guardIds]
theorem GW {A:Around}{C:Addr}{us:List Value}{J:List (Str × Value)}:(A.under (.builtin "type.__call__" ⟨.ref C::us,J⟩)).units=A.units+1:=by
 first|rfl|simp[Around.under,Code.cUnits,Code.frames,Code.isFrame]
theorem gP.make {k:Nat}{A:Around}(r:gP (k+1) A)(C:Addr)(us:List Value)(J:List (Str × Value)):gP k (A.under (.builtin "type.__call__" ⟨.ref C::us,J⟩)):=
 ⟨r.hd,by have:=r.dp;rw[GV];omega,by have:=r.un;rw[GW];omega⟩
theorem gP.depth {k:Nat}{A:Around}(r:gP k A):A.depth<recursionLimit:=by have:=r.dp;omega
theorem gP.units {k:Nat}{A:Around}(r:gP k A):A.units+64<cLine:=by have:=r.un;omega
theorem gP.AX {k:Nat}{A:Around}(r:gP k A):A.units<cLine:=by have:=r.un;omega
def jW:TA:=λ_ H Q=>Q [] H
def iu (ta:TE) (J:TA):TA:=λσ H Q=>ta σ H λx H1=>J σ H1 λxs H2=>Q (x::xs) H2
section
variable {X:Cx}{e:Expr}{es:List Expr}{te:TE}{t:TA}{pos:Pos}
theorem c_:PA X [] jW:=λ_ _ _ _ H Q I h=>Calls.spliced_nil ⟨[],H,I,.nil,h⟩
theorem a_ (J:PE X e te)(L:PA X es t)(U:starEach (e::es) X.env=(false,eval e X.env)::starEach es X.env:=by rfl):PA X (e::es) (iu te t):=by
 intro pos pins s σ H Q I h;rw[U];show wpAny _ _ (spliced ((false,eval e X.env)::backTo pos (starEach es X.env))) _ _ s;refine Calls.spliced_cons (fQ (J pins s σ H _ I h) λu Y zq=>?_);obtain⟨x,H1,I1,r1,q1⟩:=zq;exact fQ (L pos pins Y σ H1 _ I1 q1) λus s2 ⟨xs,H2,I2,r2,q2⟩=>⟨x::xs,H2,I2,.cons r1 r2,q2⟩
def t9 (t:TA):TE:=λσ H Q=>t σ H λxs H1=>xs.length<=sizeLine/\∀p,H1 p=none->Q (.ref p) (upd H1 p (.tup xs))
def GX (t:TA):TE:=λσ H Q=>t σ H λxs H1=>xs.length<=sizeLine/\∀p,H1 p=none->Q (.ref p) (upd H1 p (.lst xs))
theorem ij {U}(h:PA X es t):PE X (.Tuple es U pos) (t9 t):=by
 intro pins s σ H Q I Y;refine wpAny_Tuple_spliced (fQ (h pos pins s σ H _ I Y) λus J ⟨xs,H1,L,r,z,q⟩=>⟨by rw[<-r.length];exact z,?_⟩);have hf:H1 J.heap.objs.size=none:=L.hok.fresh (Q0 _);refine⟨.ref J.heap.objs.size,upd H1 J.heap.objs.size (.tup xs),L.laid (t':=J.toks) (λb u e=>Q09 _ e) (Q0 _) ?_,rfl,q _ hf⟩;exact⟨z,us,r,⟨_,Q0j _ rfl,rfl,_,rfl⟩⟩
theorem iw (h:PA X es t):PE X (.List es pos) (GX t):=by
 intro pins s σ H Q I U;refine wpAny_List_spliced (fQ (h pos pins s σ H _ I U) λus J ⟨xs,H1,L,r,z,q⟩=>⟨by rw[<-r.length];exact z,?_⟩);have Y:H1 J.heap.objs.size=none:=L.hok.fresh (Q0 _);refine⟨.ref J.heap.objs.size,upd H1 J.heap.objs.size (.lst xs),L.laid (t':=J.toks) (λb u e=>Q09 _ e) (Q0 _) ?_,rfl,q _ Y⟩;exact⟨z,us,0,r,Q0j _ rfl⟩
end
noncomputable abbrev Sp:=List V->Hp->VK->XK->Prop
noncomputable abbrev jG:=List Env->Hp->Shared->XK->Value->Shared->Prop
structure m7 (P:Program) (w:World) (K:W.Frag) (mg:Str->Option Value) (base:Heap) (A:Around) (outer:List Env) (s:Shared) (H:Hp):Prop where
 frames:A.frames=some outer
 mod:Mod K mg base
 bs:∀b o,base.get? b=some o->s.heap.get? b=some o/\H b=none
 jU:base.objs.size<=s.heap.objs.size
 jn:s.heap.FunFrames base outer
 kK:∀b∈frs outer,H b=none
 hok:g8 P w H s.heap
 bare:AllBare s.gens
def CE (outer:List Env) (P:Program) (w:World) (H:Hp) (s:Shared) (Q:VK) (u:Value) (s':Shared):Prop:=
 ∃v H',s'.os=s.os/\AllBare s'.gens/\Un (frs outer) [] H H' s.heap s'.heap/\g8 P w H' s'.heap/\RelV v u/\Q v H'
def CR (CX:jG) (outer:List Env) (P:Program) (w:World) (H:Hp) (s:Shared) (Q:VK) (E:XK) (r:Result) (s':Shared):Prop:=
 match r with
 | .ok (.ret u)=>CE outer P w H s Q u s'
 | .ok _=>False
 | .error e=>CX outer H s E e s'
structure fm (P:Program) (w:World) (K:W.Frag) (mg:Str->Option Value) (base:Heap) (CX:jG) (k:Nat) (f:Addr) (fd:FuncData) (ps:List Str) (sp:Sp):Prop where
 len:∀vs H Q E,sp vs H Q E->vs.length=ps.length
 run:∀(A:Around) (outer:List Env) (s:Shared) (H:Hp) (args:Args) (us:List Value) (vs:List V) (Q:VK) (E:XK),gP k A->m7 P w K mg base A outer s H->BindsTo s fd args (ps.zip us)->Vals vs us->sp vs H Q E->
  codeAny (model P w) A (.call (.ref f) args) (CR CX outer P w H s Q E) s
theorem fm.mono {P:Program}{w:World}{K:W.Frag}{mg:Str->Option Value}{base:Heap}{CX:jG}{j k:Nat}{f:Addr}{fd:FuncData}{ps:List Str}{sp:Sp}(F:fm P w K mg base CX j f fd ps sp)(h:j<=k):
 fm P w K mg base CX k f fd ps sp:=⟨F.len,λA outer s H args us vs Q E J=>F.run A outer s H args us vs Q E (J.mono h)⟩
theorem fm.imp {P:Program}{w:World}{K:W.Frag}{mg:Str->Option Value}{base:Heap}{CX:jG}{k:Nat}{f:Addr}{fd:FuncData}{ps:List Str}{sp J:Sp}(F:fm P w K mg base CX k f fd ps sp)
 (h:∀vs H Q E,J vs H Q E->sp vs H Q E):fm P w K mg base CX k f fd ps J:=
 ⟨λvs H Q E q=>F.len vs H Q E (h _ _ _ _ q),λA outer s H args us vs Q E L U Y hv hs=>F.run A outer s H args us vs Q E L U Y hv (h _ _ _ _ hs)⟩
theorem m7.make {P:Program}{w:World}{K:W.Frag}{mg:Str->Option Value}{base:Heap}{A:Around}{outer:List Env}{s:Shared}{H:Hp}(e:m7 P w K mg base A outer s H)(C:Addr)(us:List Value)(J:List (Str × Value)):
 m7 P w K mg base (A.under (.builtin "type.__call__" ⟨.ref C::us,J⟩)) outer s H:=⟨by first|exact e.frames|(simpa[Around.under,Code.envs,Code.isFrame,pushEnvs] using e.frames),e.mod,e.bs,e.jU,e.jn,e.kK,e.hok,e.bare⟩
section
variable {X:Cx}{pins:List (Addr × Obj)}{σ:St}{H:Hp}{s s':Shared}
theorem Inv.env0 (I:Inv X pins σ H s):m7 X.prog X.w X.K X.mg X.base X.A X.stack s H:=
 ⟨I.ok.frames,I.ok.mod,I.bs,Q0c I.ok.jU I.sz,I.stack,I.qG,I.hok,I.bare⟩
theorem Inv.after {Q:VK}{u:Value}(I:Inv X pins σ H s)(h:CE X.stack X.prog X.w H s Q u s'):EP X pins σ Q u s':=by
 obtain⟨v,H',os,J,un,L,r,q⟩:=h;obtain⟨Y,g,d,t,U⟩:=s';obtain rfl:U=s.os:=os;exact⟨v,H',I.call (h':=Y) (g':=g) (d':=d) (t':=t) (ch:=[]) un L J (λb z=>absurd z (by simp)),r,q⟩
end
def lA (sp:Sp) (iK:List V) (E:XK) (t:TA):TE:=λσ H Q=>t σ H λvs H1=>sp (vs++iK) H1 Q E
def GY (C:Addr) (m:Str) (sp:Sp) (iK:List V) (E:XK) (ta:TE) (t:TA):TE:=λσ H Q=>ta σ H λx H1=>∃a dx fs,x=.ref a/\H1 a=some (.ins C dx fs)/\fs.lookup m=none/\
 t σ H1 λvs H2=>sp (x::(vs++iK)) H2 Q E
def GZ (C:Addr) (sp:Sp) (iK:List V) (E:XK) (t:TA):TE:=λσ H Q=>t σ H λvs H1=>∀x dx,H1 x=none->H1 dx=none->dx≠x->
 sp (.ref x::(vs++iK)) (upd (upd H1 dx (.own x)) x (.ins C dx [])) (λv H2=>v=.non/\Q (.ref x) H2) E
def Binds (K:W.Frag) (fd:FuncData) (ps:List Str) (ds:List Value):Prop:=
 ∀(s:Shared) (us:List Value),K.In s.heap->(us++ds).length=ps.length->BindsTo s fd ⟨us,[]⟩ (ps.zip (us++ds))
theorem Binds.all {K:W.Frag}{fd:FuncData}{ps:List Str}(h:∀us:List Value,us.length=ps.length->bindArgs fd ⟨us,[]⟩=pure (ps.zip us)):Binds K fd ps []:=λs us _ hl=>by
 rw[Q1j] at hl ⊢;exact .of_eq (h us hl)
def Passes (CX:jG) (X:Cx) (E:XK):Prop:=∀(pins:List (Addr × Obj)) (σ:St) (H:Hp) (s:Shared) (e:Value) (s':Shared),Inv X pins σ H s->CX X.stack H s E e s'->X.xe e s'
section
variable {X:Cx}{CX:jG}{k:Nat}{f C:Addr}{fd:FuncData}{ps:List Str}{sp:Sp}{iK:List V}{ds:List Value}{E:XK}{x m:Str}{p pos apos:Pos}{e o:Expr}{es:List Expr}{ta:TE}{t:TA}
theorem AY {pins:List (Addr × Obj)}{σ:St}{H:Hp}{s:Shared}{Q:VK}{us:List Value}{vs:List V}(F:fm X.prog X.w X.K X.mg X.base CX k f fd ps sp)(U:gP k X.A)(Y:Binds X.K fd ps ds)(hd:Vals iK ds)(hx:Passes CX X E)
 (I:Inv X pins σ H s) (r:Vals vs us) (h:sp (vs++iK) H Q E):wpAny (model X.prog X.w) X.A (call (.ref f) us) (EP X pins σ Q) X.xe s:=by
 have L:Vals (vs++iK) (us++ds):=r.append hd;have hl:(us++ds).length=ps.length:=by rw[<-L.length];exact F.len _ _ _ _ h
 refine wpAny_call (codeAny_mono (F.run X.A X.stack s H ⟨us,[]⟩ (us++ds) (vs++iK) Q E U I.env0 (Y s us I.ir hl) L h) λr s' J=>?_)
 cases r with
 |error e=>exact hx pins σ H s e s' I J
 |ok fl=>
  cases fl with
  |ret u=>exact I.after J
  |next=>exact False.elim J
  |brk=>exact False.elim J
  |cont=>exact False.elim J
theorem t_ (F:fm X.prog X.w X.K X.mg X.base CX k f fd ps sp)(Y:gP k X.A)(hg:Gl X x)(hm:X.mg x=some (.ref f))(hk:W.keepIn X.K (.ref f)=true)(hb:Binds X.K fd ps ds)(hd:Vals iK ds)(hx:Passes CX X E)
 (ha:PA X (e::es) t) (J:(x == ("__debug__":Str))=false:=by decide) (he:starEach (e::es) X.env=(false,eval e X.env)::starEach es X.env:=by rfl) (L:(backTo pos (starEach es X.env)).any (·.1)=false:=by rfl):
 PE X (.Call (.Name x p) (e::es) [] pos) (lA sp iK E t):=by
 intro pins s σ H Q I h;refine wpAny_Call_Name_kw (tM I hg hm ?_ J);refine W.callWith_K (h₀:=X.base) I.ok.mod.kJ hk (fQ (ha pos pins s σ H _ I h) λus s1 ⟨vs,H1,U,r,q⟩=>⟨U.ir,?_⟩) he L;exact AY F Y hb hd hx U r q
theorem kN {pl:Sem Bool}(he:PE X o ta)(c:Cls X.K C)(U:Meth X.K C m f)(F:fm X.prog X.w X.K X.mg X.base CX k f fd ps sp)(hr:gP k X.A)(hb:Binds X.K fd ps ds)(hd:Vals iK ds)(hx:Passes CX X E)(ha:PA X (e::es) t)
 (J:starEach (e::es) X.env=(false,eval e X.env)::starEach es X.env:=by rfl) (L:(backTo pos (starEach es X.env)).any (·.1)=false:=by rfl)
 (ht:eval (.Call (.Attribute o m apos) (e::es) [] pos) X.env=(do
   let Y <-eval o X.env
   standAt apos.atName
   let(f,first) <-holding [Y] (getMethod Y m pl)
   callWith pos f first (backTo pos (starEach (e::es) X.env)) (backToKw pos (keywordEach [] X.env))):=by rfl):
 PE X (.Call (.Attribute o m apos) (e::es) [] pos) (GY C m sp iK E ta t):=by
 intro pins s σ H Q I h;refine W.methodCall_KW (pl:=pl) (fQ (he pins s σ H _ I h) λu s1 zq=>?_) ht;obtain⟨x,H1,I1,rx,a,dx,fs,ex,ea,l,q⟩:=zq;subst ex;obtain rfl:u=Value.ref a:=rx;refine GO I1 ea c U l ?_;refine W.callWith_K (first:=[.ref a]) (h₀:=X.base) I.ok.mod.kJ U.kp (fQ (ha pos pins s1 σ H1 _ I1 q) λus s2 ⟨vs,H2,I2,r,q2⟩=>⟨I2.ir,?_⟩) J L;exact AY (us:=.ref a::us) (vs:=.ref a::vs) F hr hb hd hx I2 (.cons rfl r) q2
structure Mk (K:W.Frag) (C f:Addr):Prop where
 makes:W.makesIn K C=true
 init:W.findIn K (.ref C) "__init__"=some (some (.ref f))
 fn:W.isFn K (.ref f)=true
 kp:W.keepIn K (.ref C)=true
theorem G3 {pins:List (Addr × Obj)}{σ:St}{H:Hp}{s:Shared}{Q:VK}{us:List Value}{vs:List V}(M:Mk X.K C f)(F:fm X.prog X.w X.K X.mg X.base CX k f fd ps sp)(hr:gP (k+1) X.A)(hb:Binds X.K fd ps ds)(hd:Vals iK ds)
 (hx:Passes CX X E) (I:Inv X pins σ H s) (r:Vals vs us)
 (h:∀x dx,H x=none->H dx=none->dx≠x->sp (.ref x::(vs++iK)) (upd (upd H dx (.own x)) x (.ins C dx [])) (λv H2=>v=.non/\Q (.ref x) H2) E):
 wpAny (model X.prog X.w) X.A (call (.ref C) us) (EP X pins σ Q) X.xe s:=by
 have U:=h (s.heap.objs.size+1) s.heap.objs.size (I.hok.fresh (Q14 _)) (I.hok.fresh (Q0 _)) (Q08 (Q1 _));have L:=Inv.made (C:=C) I;have Y:Vals (V.ref (s.heap.objs.size+1)::(vs++iK)) (Value.ref (s.heap.objs.size+1)::(us++ds)):=.cons rfl (r.append hd)
 have hl:(Value.ref (s.heap.objs.size+1)::us++ds).length=ps.length:=by
  have e:=Y.length;rw[F.len _ _ _ _ U] at e;exact e.symm
 refine wpAny_call (GK (f:=f) I.ir M.makes M.init (beq_iff_eq.mp M.fn) (codeAny_mono (F.run _ X.stack _ _ ⟨Value.ref (s.heap.objs.size+1)::us,[]⟩ (Value.ref (s.heap.objs.size+1)::(us++ds)) _ _ E (hr.make C us [])
  (L.env0.make C us []) (hb _ (Value.ref (s.heap.objs.size+1)::us) L.ir hl) Y U) λr s' J=>?_))
 cases r with
 |error e=>exact hx pins σ _ _ e s' L J
 |ok fl=>
  cases fl with
  |ret u=>
   obtain⟨v,H',I3,rv,ev,q3⟩:=L.after J;subst ev;exact⟨rv,⟨V.ref (s.heap.objs.size+1),H',I3,rfl,q3⟩⟩
  |next=>exact False.elim J
  |brk=>exact False.elim J
  |cont=>exact False.elim J
theorem AZ (M:Mk X.K C f)(F:fm X.prog X.w X.K X.mg X.base CX k f fd ps sp)(Y:gP (k+1) X.A)(hg:Gl X x)(hm:X.mg x=some (.ref C))(hb:Binds X.K fd ps ds)(hd:Vals iK ds)(hx:Passes CX X E)
 (ha:PA X (e::es) t) (J:(x == ("__debug__":Str))=false:=by decide) (he:starEach (e::es) X.env=(false,eval e X.env)::starEach es X.env:=by rfl) (L:(backTo pos (starEach es X.env)).any (·.1)=false:=by rfl):
 PE X (.Call (.Name x p) (e::es) [] pos) (GZ C sp iK E t):=by
 intro pins s σ H Q I h;refine wpAny_Call_Name_kw (tM I hg hm ?_ J);refine W.callWith_K (h₀:=X.base) I.ok.mod.kJ M.kp (fQ (ha pos pins s σ H _ I h) λus s1 ⟨vs,H1,U,r,q⟩=>⟨U.ir,?_⟩) he L;exact G3 M F Y hb hd hx U r q
end
section
variable {X:Cx}{CX:jG}{k:Nat}{f C:Addr}{fd:FuncData}{ps ks:List Str}{sp:Sp}{E:XK}{x m:Str}{p pos apos kpos:Pos}{e o:Expr}{es:List Expr}{kws:List Keyword}{te ta:TE}{t tk:TA}{nm:Option Str}
variable {g:List Value->List Value->List Value}{gV:List V->List V->List V}
end
structure gi (N P:List Str) (sc:Scope):Prop where
 kind:sc.kind=.function
 co:sc.isCoroutine=false
 gen:sc.isGenerator=false
 nd:N.Nodup
 pre:N.take P.length=P
 par:∀x∈P,sc.names.lookup x=some .local\/sc.names.lookup x=some .cell
 G4:∀y∈sc.names,y.2≠ .free
theorem MS {N Q:List Str}{sc:Scope}(h1:sc.kind=.function:=by rfl)(h2:sc.isCoroutine=false:=by rfl)(J:sc.isGenerator=false:=by rfl)(L:N.Nodup:=by decide +kernel)(U:N.take Q.length=Q:=by rfl)(Y:∀x∈Q,sc.names.lookup x=some .local\/sc.names.lookup x=some .cell:=by decide +kernel)(h7:∀y∈sc.names,y.2≠ .free:=by decide +kernel):gi N Q sc:=⟨h1,h2,J,L,U,Y,h7⟩
theorem A0 {kindOf:Str->Option NameKind}{x:Str}:∀{binds:List (Str × Value)}{m:Str->Option Value},(∀v,(x,v) ∉ binds)->bindL kindOf binds m x=m x
 |[],_,_=>rfl
 |(n,v)::r,m,h=>by
  unfold bindL;rw[A0 λw hw=>h w (Q04 _ hw)];split
  . have:x≠n:=by rintro rfl;exact h v Q01
    simp[this]
  . rfl
theorem A1 {kindOf:Str->Option NameKind}{x:Str}:∀{binds:List (Str × Value)}{m:Str->Option Value},(∀v,(x,v) ∉ binds)->bindC kindOf binds m x=m x
 |[],_,_=>rfl
 |(n,v)::r,m,h=>by
  unfold bindC;rw[A1 λw hw=>h w (Q04 _ hw)];split
  . rfl
  . have:x≠n:=by rintro rfl;exact h v Q01
    simp[this]
theorem A2 {kindOf:Str->Option NameKind}{x:Str}{v:Value}:∀{P:List Str}{vs:List Value}{i:Nat}{m:Str->Option Value},P.Nodup->P[i]? =some x->vs[i]? =some v->kindOf x=some .local->
 bindL kindOf (P.zip vs) m x=some v
 |[],_,_,_,_,h,_,_=>by simp at h
 |_::_,[],_,_,_,_,h,_=>by simp at h
 |p::P,w::vs,0,m,nd,h1,h2,hk=>by
  simp at h1 h2;subst h1;subst h2;show bindL kindOf ((p,w)::P.zip vs) m p=_;unfold bindL;rw[A0 λv J=>(List.nodup_cons.mp nd).1 (Q29 J).1,if_pos hk];simp
 |p::P,w::vs,i+1,m,nd,h1,h2,hk=>by
  show bindL kindOf ((p,w)::P.zip vs) m x=_;unfold bindL;exact A2 (i:=i) (List.nodup_cons.mp nd).2 (by simpa using h1) (by simpa using h2) hk
theorem A4 {kindOf:Str->Option NameKind}{x:Str}{v:Value}:∀{P:List Str}{vs:List Value}{i:Nat}{m:Str->Option Value},P.Nodup->P[i]? =some x->vs[i]? =some v->kindOf x≠some .local->
 bindC kindOf (P.zip vs) m x=some v
 |[],_,_,_,_,h,_,_=>by simp at h
 |_::_,[],_,_,_,_,h,_=>by simp at h
 |p::P,w::vs,0,m,nd,h1,h2,hk=>by
  simp at h1 h2;subst h1;subst h2;show bindC kindOf ((p,w)::P.zip vs) m p=_;unfold bindC;rw[A1 λv J=>(List.nodup_cons.mp nd).1 (Q29 J).1,if_neg hk];simp
 |p::P,w::vs,i+1,m,nd,h1,h2,hk=>by
  show bindC kindOf ((p,w)::P.zip vs) m x=_;unfold bindC;exact A4 (i:=i) (List.nodup_cons.mp nd).2 (by simpa using h1) (by simpa using h2) hk
noncomputable def start (N:List Str) (vs:List V):St:=vs.map some++List.replicate (N.length - vs.length) none
noncomputable def gh (CX:jG) (P:Program) (w:World) (K:W.Frag) (mg:Str->Option Value) (base:Heap) (N:List Str) (qual:Str) (scope:Scope) (f:Addr) (L:Value) (A:Around) (outer:List Env) (s:Shared) (H:Hp) (E:XK):Cx where
 prog:=P
 w:=w
 K:=K
 mg:=mg
 base:=base
 A:=A.deeper (envOfC qual scope s.heap.objs.size f L)
 N:=N
 s₀:=s
 H₀:=H
 env:=envOfC qual scope s.heap.objs.size f L
 outer:=outer
 stack:=envOfC qual scope s.heap.objs.size f L::outer
 ex:=[]
 calm:=true
 fn:=λ_=>true
 pn:=[]
 xe:=λe s'=>wpAny (model P w) (A.deeper (envOfC qual scope s.heap.objs.size f L)) (leaving (envOfC qual scope s.heap.objs.size f L) e) (λ_ J=>CX outer H s E e J) (λU J=>CX outer H s E U J) s'
theorem A5 {sc:Scope}{n:Nat}{x:Str}(h:sc.names.lookup x=some .cell):∃c,(cellsFrom n sc.names []).lookup x=some c:=by
 have q:=W.cellsFrom_some sc.names n [] (.inl h);exact Option.isSome_iff_exists.mp q
theorem G5 {CX:jG}{P:Program}{w:World}{K:W.Frag}{mg:Str->Option Value}{base:Heap}{N ps:List Str}{qual:Str}{scope:Scope}{f:Addr}{cd:Value}{A:Around}{outer:List Env}{s s1:Shared}{H:Hp}{E:XK}{us:List Value}{vs:List V}
 (S:gi N ps scope) (hd:A.handled=none) (J:m7 P w K mg base A outer s H) (hl:vs.length=ps.length) (r:Vals vs us)
 (x:InCallC s s.heap.objs.size (bindL (envOfC qual scope s.heap.objs.size f cd).kindOf (ps.zip us) λ_=>none) (cellsFrom (s.heap.objs.size+1) scope.names []) (bindC (envOfC qual scope s.heap.objs.size f cd).kindOf (ps.zip us) λ_=>none) s1):
 Inv (gh CX P w K mg base N qual scope f cd A outer s H E) [] (start N vs) H s1:=by
 have aa:ps.length<=N.length:=by have:=congrArg List.length S.pre;rw[Q0o] at this;omega
 obtain⟨h1,tk,rfl,hk⟩:=x.done;have U:∀b:Addr,b ∉ (gh CX P w K mg base N qual scope f cd A outer s H E).ex:=λb z=>absurd (show b∈([]:List Addr) from z) (by simp)
 refine⟨⟨J.mod,S.kind,rfl,rfl,Q0 _,λy z c h1 h2=>?_,λy L=>?_,λy c _ h=>?_,λ_=>hd,Around.frames_deeper J.frames,.inr ⟨rfl,rfl⟩,λb z=>absurd z (U b),J.bs,J.jU,λb _ _=>U b,λb z=>absurd z (U b),J.jn,J.kK⟩,
  rfl,J.bare,Un.kept hk,⟨_,x.toInCall.ns,λi y v h1 h2 h3=>?_⟩,λy c h=>⟨_,x.cell y c h⟩,J.hok.fresh (Q0 _),λy c h=>?_,λp hp=>absurd (show p∈([]:List (Addr × Obj)) from hp) (by simp),J.hok.kept hk,?_⟩
 . exact name_of_addr x.apart (PySem.mem_of_lookup h1) (PySem.mem_of_lookup h2)
 . have L:scope.names.lookup y=some .cell\/scope.names.lookup y=some .free:=L;rcases L with L|L
   . exact A5 L
   . exact absurd rfl (S.G4 _ (PySem.mem_of_lookup L))
 . exact Q0s (x.above y c (PySem.mem_of_lookup h))
 . have hi:i<vs.length:=by
    unfold start at h2;by_cases hi:i<vs.length
    . exact hi
    . rw[Q2a (by simpa using hi)] at h2;rw[Q2q] at h2;split at h2 <;> cases h2
   have ha:vs[i]? =some v:=by
    unfold start at h2;rw[Q2r (by simpa using hi),Q0h] at h2
    cases e:vs[i]? with
    |none=>rw[e] at h2;cases h2
    |some a=>rw[e] at h2;cases h2;rfl
   obtain⟨u,hu,rv⟩:=r.get ha
   have hp:ps[i]? =some y:=by
    rw[<-S.pre,List.getElem?_take_of_lt (by omega)];exact h1
   have Y:ps.Nodup:=by rw[<-S.pre];exact S.nd.sublist (Q2s _ _)
   refine⟨u,rv,?_⟩;rcases S.par y (Q0g hp) with k|k
   . exact .inl ⟨k,A2 Y hp hu k⟩
   . obtain⟨c,e⟩:=A5 (n:=s.heap.objs.size+1) k;refine .inr ⟨.inl k,c,e,?_⟩;have q:=x.cell y c e;rw[A4 Y hp hu (by show scope.names.lookup y≠_;rw[k];decide)] at q;exact q
 . exact J.hok.fresh (Q0s (x.above y c (PySem.mem_of_lookup h)))
 . unfold start;show _=N.length;rw[Q0e,Q05,Q2b];omega
theorem A6 {CX:jG}{P:Program}{w:World}{K:W.Frag}{mg:Str->Option Value}{base:Heap}{k:Nat}{f:Addr}{name qual:Str}{U:Arguments}{body:List Stmt}{scope:Scope}{dV kV ac pm L ct oc:Value}{an od:Option Addr}
 {af:Array (Option Value)} {N ps:List Str} {sp:Sp} (lk:K.lookup f=some ⟨oc,od,.func (W.fnOf name qual U body scope dV kV ac pm an L ct),af⟩) (ag:W.codeIn K L qual=true) (S:gi N ps scope)
 (len:∀vs H Q E,sp vs H Q E->vs.length=ps.length)
 (aa:∀(A:Around) (outer:List Env) (s:Shared) (H:Hp) (vs:List V) (Q:VK) (E:XK),gP k (A.deeper (envOfC qual scope s.heap.objs.size f L))->sp vs H Q E->
   ∃t,jo (gh CX P w K mg base N qual scope f L A outer s H E) body t/\t { nx:=λ_ H'=>Q .non H',rt:=Q } (start N vs) H):
 fm P w K mg base CX (k+1) f (W.fnOf name qual U body scope dV kV ac pm an L ct) ps sp:=by
 refine⟨len,λA outer s H args us vs Q E hr e0 hb r ae=>?_⟩;have hl:=len _ _ _ _ ae;have KX:K.In s.heap:=e0.mod.kJ.keeps λb o e=>(e0.bs b o e).1;have ah:s.heap.NoLimit:=e0.mod.nolimit.keeps λb o e=>(e0.bs b o e).1
 have ab:∀y∈ps.zip us,scope.names.lookup y.1=some .local\/(scope.names.lookup y.1=some .cell/\((cellsFrom (s.heap.objs.size+1) scope.names []).lookup y.1).isSome=true):=λ⟨n,v⟩ hy=>by
  rcases S.par n (Q29 hy).1 with q|q
  . exact .inl q
  . exact .inr ⟨q,W.cellsFrom_some _ _ _ (.inl q)⟩
 refine codeAny_call_function hr.depth (KX _ _ lk) rfl S.co S.gen rfl (W.codeRec_of KX ag) (hb _ _ _ _ ?_);refine wpAny_newFunctionEnv_cells S.kind ab λenv he s1 x=>?_;subst he;refine⟨ah.keeps x.toInCall.keep,codeAny_func ?_⟩;obtain⟨t,ht,hq⟩:=aa A outer s H vs Q E (hr.deeper _) ae;have I:Inv (gh CX P w K mg base N qual scope f L A outer s H E) [] (start N vs) H s1:=G5 S hr.hd e0 hl r x;refine Q0n (ht [] s1 (start N vs) H _ I hq) (λfl s' hs=>?_) λe s' hs=>hs
 have fin:∀{Y:St} {H':Hp} {v:V} {u:Value},Inv (gh CX P w K mg base N qual scope f L A outer s H E) [] Y H' s'->RelV v u->Q v H'->CE outer P w H s Q u s':=
  λ{Y H' v u} J rv q=>⟨v,H',J.os,J.bare,J.base,J.hok,rv,q⟩
 cases fl with
 |ret u=>
  obtain⟨v,Y,H',J,rv,q⟩:=hs;exact fin J rv q
 |next=>
  obtain⟨Y,H',J,q⟩:=hs;exact fin (v:=V.non) (u:=Value.none) J rfl q
 |brk=>
  obtain⟨_,_,_,q⟩:=hs;exact False.elim q
 |cont=>
  obtain⟨_,_,_,q⟩:=hs;exact False.elim q
section
variable {X:Cx}{x:Str}{p pos:Pos}{e:Expr}{es:List Expr}{t:TA}{id T:String}{r:List V->Hp->VK->Prop}
def A7 (r:List V->Hp->VK->Prop) (t:TA):TE:=λσ H Q=>t σ H λvs H1=>r vs H1 Q
theorem gL (hc:jF X (.builtin id) r)(U:Gl X x)(Y:X.mg x=none)(hv:bootBuiltins x=some (.builtin id))(ha:PA X (e::es) t)(hn:x≠"__name__":=by decide)(J:(x == ("__debug__":Str))=false:=by decide)
 (he:starEach (e::es) X.env=(false,eval e X.env)::starEach es X.env:=by rfl) (L:(backTo pos (starEach es X.env)).any (·.1)=false:=by rfl):PE X (.Call (.Name x p) (e::es) [] pos) (A7 r t):=by
 intro pins s σ H Q I h;refine wpAny_Call_Name_kw (lu I U Y hv ?_ hn J);exact PyProof.Rows.callWith_builtin1 (fQ (ha pos pins s σ H _ I h) λus s1 ⟨vs,H1,I1,r1,q1⟩=>hc pins s1 σ H1 vs us Q I1 r1 q1) he L
theorem kO (hc:jF X (.type T) r)(U:Gl X x)(Y:X.mg x=none)(hv:bootBuiltins x=some (.type T))(ha:PA X (e::es) t)(hn:x≠"__name__":=by decide)(J:(x == ("__debug__":Str))=false:=by decide)
 (he:starEach (e::es) X.env=(false,eval e X.env)::starEach es X.env:=by rfl) (L:(backTo pos (starEach es X.env)).any (·.1)=false:=by rfl):PE X (.Call (.Name x p) (e::es) [] pos) (A7 r t):=by
 intro pins s σ H Q I h;refine wpAny_Call_Name_kw (lu I U Y hv ?_ hn J);exact PyProof.Rows.callWith_type1 (fQ (ha pos pins s σ H _ I h) λus s1 ⟨vs,H1,I1,r1,q1⟩=>hc pins s1 σ H1 vs us Q I1 r1 q1) he L
end
end L2
local macro_rules|`(tactic|ac_rfl)=>`(tactic|try dsimp only[L2.gh,L2.Cx.gg])
namespace HT
open PyProof.Rows
section
open SeqAt
open PySem.AutoSeq1 (wpAny_loadPart')
open MeetsSeq MeetsSeq2 MeetsSeq3
end
section
variable {prog:Program}{w:World}{A:Around}{E:Value->Shared->Prop}{s:Shared}
noncomputable def jc (n d:Nat):Option Int->Nat
 |none=>d
 |some v=>if v<0 then(v+(n:Int)).toNat else min v.toNat n
theorem A8 (n d:Nat):jc n d none=d:=rfl
theorem A9 (n d k:Nat):jc n d (some (k:Int))=min k n:=by
 show(if(k:Int)<0 then((k:Int)+(n:Int)).toNat else min (k:Int).toNat n)=min k n;rw[if_neg (by omega),Q2c]
end
end HT
namespace L2
open Spec PyProof.Rows
noncomputable abbrev TO:=St->Hp->(Option Int->Hp->Prop)->Prop
def PO (X:Cx) (e:Option Expr) (t:TO):Prop:=
 ∀(pins:List (Addr × Obj)) (s:Shared) (σ:St) (H:Hp) (Q:Option Int->Hp->Prop),Inv X pins σ H s->t σ H Q->
  wpAny (model X.prog X.w) X.A (evalPart e X.env) (λu s'=>∃o H',Inv X pins σ H' s'/\IsPart u o/\Q o H') X.xe s
def G6:TO:=λ_ H Q=>Q none H
def G7 (t:TE):TO:=λσ H Q=>t σ H λx H1=>∃i,x=.int i/\Q (some i) H1
section
variable {X:Cx}{e:Expr}{te:TE}{lo hi:Option Expr}{tl th:TO}{pos p2:Pos}
theorem pf:PO X none G6:=by
 intro pins s σ H Q I h;rw[evalPart_none];exact Q0d ⟨none,H,I,.none,h⟩
theorem ph (h:PE X e te):PO X (some e) (G7 te):=by
 intro pins s σ H Q I hw;rw[evalPart_some];refine fQ (h pins s σ H _ I hw) λu Y zq=>?_;obtain⟨x,H1,J,L,U⟩:=zq;obtain⟨i,rfl,q⟩:=U;obtain⟨t,rfl⟩:=L;exact⟨some i,H1,J,.int i t,q⟩
def ua (X:Cx) (r:V->Option Int->Option Int->Hp->VK->Prop):Prop:=
 ∀(pins:List (Addr × Obj)) (s:Shared) (σ:St) (H:Hp) (x:V) (v J L:Value) (lo hi:Option Int) (sl:Addr) (Q:VK),Inv X pins σ H s->RelV x v->s.heap.IsSliceOf sl J L .none->IsPart J lo->IsPart L hi->r x lo hi H Q->
  ∃T id,typeLookup (.type T) "__getitem__"=pure (some (.builtin id))/\s.TypeIs v T/\wpAny (model X.prog X.w) X.A (getItem v (.ref sl)) (EP X pins σ Q) X.xe s
def G8 (r:V->Option Int->Option Int->Hp->VK->Prop) (te:TE) (tl th:TO):TE:=λσ H Q=>te σ H λx H1=>tl σ H1 λl H2=>th σ H2 λu J=>r x l u J Q
theorem pj {r:V->Option Int->Option Int->Hp->VK->Prop}(hr:ua X r)(he:PE X e te)(hl:PO X lo tl)(hu:PO X hi th):PE X (.Subscript e (.Slice lo hi none p2) pos) (G8 r te tl th):=by
 intro pins s σ H Q I h;refine Subscript_ (fQ (he pins s σ H _ I h) λv s1 zq=>?_);obtain⟨x,H1,I1,r1,q1⟩:=zq;refine wpAny_Slice (fQ (hl pins s1 σ H1 _ I1 q1) λL s2 ⟨l,H2,I2,pl,q2⟩=>fQ (hu pins s2 σ H2 _ I2 q2) λU J zq=>?_);obtain⟨u,Y,I3,pu,q3⟩:=zq;rw[evalPart_none];refine Q0d ?_;have I4:Inv X pins σ Y { J with heap:=J.heap.push { cls:=.type "slice",data:=.fields #[L,U,.none] } }:=I3.kept (t':=J.toks) λb ob q=>Q09 _ q;obtain⟨T,id,hT,ht,hg⟩:=hr pins { J with heap:=J.heap.push { cls:=.type "slice",data:=.fields #[L,U,.none] } } σ Y x v L U l u J.heap.objs.size Q I4 r1 (Heap.IsSliceOf.new ..) pl pu q3;show wpAny (model X.prog X.w) X.A (subscriptTail e (.Slice lo hi none p2) v (.ref J.heap.objs.size)) (EP X pins σ Q) X.xe { J with heap:=J.heap.push { cls:=.type "slice",data:=.fields #[L,U,.none] } };exact tail_any (ops:=[.ref J.heap.objs.size,v]) ht hT hg (by with_unfolding_all rfl)
noncomputable def kP (xs:List V) (lo hi:Option Int):List V:=(xs.drop (HT.jc xs.length 0 lo)).take (HT.jc xs.length xs.length hi - HT.jc xs.length 0 lo)
theorem A_ (xs:List V)(lo hi:Option Int):(kP xs lo hi).length<=xs.length:=by
 unfold kP;rw[Q0o,Q2t];omega
end
noncomputable def kQ (n:Nat) (i:Int):Option Nat:=if 0<=i then(if i<n then some i.toNat else none) else if -(n:Int)<=i then some (i+n).toNat else none
noncomputable def iC {α:Type}(xs:List α) (i:Int):Option α:=(kQ xs.length i).bind λj=>xs[j]?
theorem Ba {n:Nat}{i:Int}{j:Nat}(h:kQ n i=some j):seqIndex? i n=some j/\j<n/\ -(n:Int)<=i/\i<n:=by
 unfold kQ at h;by_cases J:0<=i
 . rw[if_pos J] at h;by_cases h1:i<n
   . rw[if_pos h1] at h;have e:i.toNat=j:=Option.some.inj h;exact⟨by rw[seqIndex_of J h1,e],by omega,by omega,h1⟩
   . rw[if_neg h1] at h;cases h
 . rw[if_neg J] at h;by_cases h1: -(n:Int)<=i
   . rw[if_pos h1] at h;have e:(i+n).toNat=j:=Option.some.inj h;exact⟨by rw[seqIndex_neg (by omega) h1,e],by omega,h1,by omega⟩
   . rw[if_neg h1] at h;cases h
theorem ub {α:Type}{xs:List α}{i:Int}{v:α}(h:iC xs i=some v):∃j,seqIndex? i xs.length=some j/\xs[j]? =some v/\j<xs.length/\ -(xs.length:Int)<=i/\i<xs.length:=by
 unfold iC at h
 cases e:kQ xs.length i with
 |none=>rw[e] at h;cases h
 |some j=>
  rw[e] at h;obtain⟨h1,h2,J,L⟩:=Ba e;exact⟨j,h1,h,h2,J,L⟩
theorem jX {α:Type}{xs:List α}{j:Nat}{v:α}(h:xs[j]? =some v):iC xs (j:Int)=some v:=by
 have J:j<xs.length:=(List.getElem?_eq_some_iff.mp h).1
 have e:kQ xs.length (j:Int)=some j:=by
  unfold kQ;rw[if_pos (by omega),if_pos (by omega)];simp
 unfold iC;rw[e];exact h
def uc (b:Expr):Prop:=∀o i,subscripted b false o i=operate [o,i] (getItem o i)
def qT (X:Cx) (r:R2):Prop:=
 ∀(value J:Expr) (pins:List (Addr × Obj)) (s:Shared) (σ:St) (H:Hp) (x y:V) (v u:Value) (Q:VK),Inv X pins σ H s->RelV x v->RelV y u->r x y H Q->
  subscripted J false v u=operate [v,u] (getItem v u)->wpAny (model X.prog X.w) X.A (subscriptTail value J v u) (EP X pins σ Q) X.xe s
def ud (X:Cx) (id:String) (r:V->List V->Hp->VK->Prop):Prop:=
 ∀(pins:List (Addr × Obj)) (s:Shared) (σ:St) (H:Hp) (x:V) (xs:List V) (v:Value) (us:List Value) (Q:VK),Inv X pins σ H s->RelV x v->Vals xs us->r x xs H Q->
  wpAny (model X.prog X.w) X.A (call (.builtin id) (v::us)) (EP X pins σ Q) X.xe s
section
variable {X:Cx}{a b:Expr}{ta tb:TE}{pos:Pos}
theorem m8 {r:R2}(J:qT X r)(L:PE X a ta)(U:PE X b tb)(Y:uc b):PE X (.Subscript a b pos) (gY r ta tb):=by
 intro pins s σ H Q I h;exact Subscript_ (tW L U I h λv u s2 x y H2 I2 rx ry q=>J a b pins s2 σ H2 x y v u Q I2 rx ry q (Y _ _))
def Bb (K:W.Frag):R2:=λx y H Q=>∃p xs i v,x=.ref p/\y=.int i/\fv K H p xs/\iC xs i=some v/\Q v H
def iY (K:W.Frag):R2:=λx y H Q=>∃p xs i v,x=.ref p/\y=.int i/\d_ K H p xs/\iC xs i=some v/\Q v H
def G9:R2:=λx y H Q=>∃z i c,x=.str z/\y=.int i/\z.length<=sizeLine/\iC z.cps.toList i=some c/\Q (.str ⟨#[c]⟩) H
theorem G_:qT X (Bb X.K):=by
 intro value Y pins s σ H x y v u Q I rx ry h hs;obtain⟨p,xs,i,z,rfl,rfl,hq,he,q⟩:=h
 cases rx;obtain⟨t,rfl⟩:=ry;obtain⟨L,r,pl,hz⟩:=I.list hq;obtain⟨j,h1,h2,h3,h4,h5⟩:=ub he;obtain⟨w,ew,U⟩:=r.get h2;have hl:=r.length;have hn:=og;have fin:EP X pins σ Q w s:=⟨z,H,I,U,q⟩;by_cases h0:0<=i
 . have J:i.toNat=j:=by
    rw[seqIndex_of h0 h5] at h1;exact Option.some.inj h1
   exact item_listR pl.isList h0 (by omega) (by rw[J];simpa using ew) fin hs
 . have J:(i+(L.toArray.size:Int)).toNat=j:=by
    rw[seqIndex_neg (by omega) h4] at h1;rw[Q06,<-hl];exact Option.some.inj h1
   exact subscriptTail_builtinR (x:=w) pl.isList.typeIs slot_list_getitem.lookup
    (wpAny_getItem_list_neg (Q:=λr s'=>r=w/\EP X pins σ Q r s') pl.isList (by omega) (by rw[Q06] <;> omega) (by omega) (by rw[J];simpa using ew) ⟨rfl,fin⟩) hs
theorem Ha:qT X (iY X.K):=by
 intro value L pins s σ H x y v u Q I U Y h hs;obtain⟨p,xs,i,z,rfl,rfl,hq,he,q⟩:=h
 cases U;obtain⟨t,rfl⟩:=Y;obtain⟨aa,r,pl,hz⟩:=I.tuple hq;obtain⟨j,h1,h2,h3,h4,h5⟩:=ub he;obtain⟨w,ew,J⟩:=r.get h2;have hl:=r.length;have hn:=og;have fin:EP X pins σ Q w s:=⟨z,H,I,J,q⟩
 exact subscriptTail_builtinR (x:=w) pl.typeIs slot_tuple_getitem.lookup
  (getItem_tuple (j:=j) (Q:=λr s'=>r=w/\EP X pins σ Q r s') pl (by omega) (by omega) (by rw[Q06,<-hl];exact h1) (by simpa using ew) ⟨rfl,fin⟩) hs
theorem pq:qT X G9:=by
 intro value J pins s σ H x y v u Q I L U h Y;obtain⟨z,i,c,rfl,rfl,hz,he,q⟩:=h;obtain⟨t,rfl⟩:=L;obtain⟨t',rfl⟩:=U;obtain⟨j,h1,h2,h3,h4,h5⟩:=ub he;have hl:z.cps.toList.length=z.length:=by simp[Str.length]
 rw[hl] at h1 h4 h5;have hn:=og
 exact tail_any (typeIs_str s z t) slot_str_getitem.lookup (getItem_str (c:=c) (by
  have e1:decide (i< -(2 ^ 63:Int))=false:=decide_eq_false (by omega);have e2:decide (i ≥ 2 ^ 63)=false:=decide_eq_false (by omega);rw[e1,e2,Bool.or_false]) (by rw[h1];simpa using h2) ⟨.str ⟨#[c]⟩,H,I.tok _,⟨_,rfl⟩,q⟩) Y
theorem Hb (J:List Value)(n j:Nat)(u:Value):Obj.mapSeq (·.setIfInBounds j u) { cls:=.type "list",data:=.seq J.toArray n }={ cls:=.type "list",data:=.seq (J.set j u).toArray n }:=by
 simp[Obj.mapSeq]
theorem Inv.lst {pins:List (Addr × Obj)}{σ:St}{H:Hp}{s:Shared}{p:Addr}{xs:List V}(I:Inv X pins σ H s)(h:H p=some (.lst xs)):
 ∃(J:List Value) (n:Nat),Vals xs J/\s.heap.get? p=some { cls:=.type "list",data:=.seq J.toArray n }/\xs.length<=sizeLine:=by
 obtain⟨z,J,n,r,e⟩:=I.hok p _ h;exact⟨J,n,r,e,z⟩
theorem Inv.Hc {pins:List (Addr × Obj)}{σ:St}{H:Hp}{s:Shared}{p:Addr}{xs ys:List V}{J its':List Value}{n n':Nat}{f:Obj->Obj}(I:Inv X pins σ H s)(h:H p=some (.lst xs))
 (U:s.heap.get? p=some { cls:=.type "list",data:=.seq J.toArray n }) (L:f { cls:=.type "list",data:=.seq J.toArray n }={ cls:=.type "list",data:=.seq its'.toArray n' }) (r:Vals ys its') (Y:ys.length<=sizeLine) (t:Nat):
 Inv X pins σ (upd H p (.lst ys)) { s with heap:=s.heap.update p f,toks:=t }:=by
 have e:(s.heap.update p f).get? p=some { cls:=.type "list",data:=.seq its'.toArray n' }:=by
  rw[Q1x f U (by rw[L] <;> rfl),L]
 refine I.write (x:=p) (e:=p) (by rw[h];trivial) (.inl rfl) (λb u hb q=>(Q15 _ _ (Ne.symm hb)).trans q) ⟨_,e⟩ ?_;exact⟨Y,its',n',r,e⟩
def Hd:V->V->V->Hp->(Hp->Prop)->Prop:=λo i v H Q=>∃p xs k j,o=.ref p/\i=.int k/\H p=some (.lst xs)/\kQ xs.length k=some j/\Q (upd H p (.lst (xs.set j v)))
theorem set_list:AD X Hd:=by
 intro pins s σ H o i v ov iv u Q I ro ri rv h;obtain⟨p,xs,k,j,rfl,rfl,hp,hj,q⟩:=h
 cases ro;obtain⟨t,rfl⟩:=ri;obtain⟨J,n,r,L,hz⟩:=I.lst hp;obtain⟨h1,h2,U,Y⟩:=Ba hj;have hl:=r.length;have hn:=og
 have I':Inv X pins σ (upd H p (.lst (xs.set j v))) { s with heap:=s.heap.update p (Obj.mapSeq (·.setIfInBounds j u)) }:=
  I.Hc hp L (Hb J n j u) (r.set rv j) (by rw[List.length_set];exact hz) s.toks
 by_cases h0:0<=k
 . have hk:k.toNat=j:=by
    rw[seqIndex_of h0 Y] at h1;exact Option.some.inj h1
   exact W.ki_setAt L h0 (by omega) (by rw[Q06,<-hl];exact Y) (by rw[hk];exact⟨_,I',q⟩)
 . have hk:(k+(J.toArray.size:Int)).toNat=j:=by
    rw[seqIndex_neg (by omega) U] at h1;rw[Q06,<-hl];exact Option.some.inj h1
   exact W.ki_setBack L (by omega) (by rw[Q06,<-hl];exact U) (by omega) (by rw[hk];exact⟨_,I',q⟩)
theorem He (lo hi:Option Int)(n:Nat):(sliceBounds lo hi none n).1=((HT.jc n 0 lo:Nat):Int)/\(sliceBounds lo hi none n).2.1=((HT.jc n n hi:Nat):Int)/\(sliceBounds lo hi none n).2.2=1:=by
 refine⟨?_,?_,rfl⟩
 . cases lo with
   |none=>simp[sliceBounds,HT.jc]
   |some i=>
    simp only[sliceBounds,HT.jc,Q2u,show(1:Int) > 0 by decide,if_true];by_cases h:i<0
    . simp only[h,if_true] <;> omega
    . simp only[h,if_false] <;> omega
 . cases hi with
   |none=>simp[sliceBounds,HT.jc]
   |some i=>
    simp only[sliceBounds,HT.jc,Q2u,show(1:Int) > 0 by decide,if_true];by_cases h:i<0
    . simp only[h,if_true] <;> omega
    . simp only[h,if_false] <;> omega
theorem Hf (J:List Value)(lo hi:Option Int):slicePick J.toArray lo hi none=((J.drop (HT.jc J.length 0 lo)).take (HT.jc J.length J.length hi - HT.jc J.length 0 lo)).toArray:=by
 obtain⟨h1,h2,L⟩:=He lo hi J.toArray.size;unfold slicePick;rw[h1,h2,L];simp only[sliceRange_one,pick_run,Q06] <;> rfl
def Hg (K:W.Frag):V->Option Int->Option Int->Hp->VK->Prop:=λx lo hi H Q=>∃a xs,x=.ref a/\fv K H a xs/\∀p,H p=none->Q (.ref p) (upd H p (.lst (kP xs lo hi)))
theorem ue:ua X (Hg X.K):=by
 intro pins s σ H x v vl vu lo hi sl Q I U Y pl pu h;obtain⟨a,xs,rfl,hx,q⟩:=h
 cases U;obtain⟨aa,r,L,hz⟩:=I.list hx;have J:=r.length;refine⟨"list",_,slot_list_getitem.lookup,L.isList.typeIs,?_⟩;refine wpAny_getItem_list_slice L.isList Y pl pu .none (by simp) ?_ (by rw[Q06] <;> omega);rw[Hf,<-J];refine⟨.ref s.heap.objs.size,_,I.laid (t':=s.toks) (o:=.lst (kP xs lo hi)) (λb ob q=>Q09 _ q) (Q0 _) ?_,rfl,q _ (I.hok.fresh (Q0 _))⟩;exact⟨Q0c (A_ xs lo hi) hz,_,0,(r.drop (HT.jc xs.length 0 lo)).take (HT.jc xs.length xs.length hi - HT.jc xs.length 0 lo),Q0j _ rfl⟩
noncomputable def km:V->Bool
 | .non=>true
 | .bl _=>true
 | .int _=>true
 | .str _=>true
 |_=>false
noncomputable def kT:V->V->Bool
 | .non,.non=>true
 | .bl a,.bl b=>a == b
 | .bl a,.int b=>(if a then 1 else 0) == b
 | .int a,.bl b=>a == (if b then 1 else 0)
 | .int a,.int b=>a == b
 | .str a,.str b=>a == b
 |_,_=>false
theorem Hh {A:Around}{s:Shared}{y x:V}{u v:Value}(L:RelV y u)(J:RelV x v)(Y:km y=true)(U:km x=true):SeqAt.EqAt A s u v (kT y x):=by
 cases y with
 |non=>
  cases L
  cases x with
  |non=>cases J;exact SeqAt.EqAt.same _
  |bl b=>cases J;exact SeqAt.EqAt.none_bool b
  |int b=>obtain⟨t,rfl⟩:=J;exact SeqAt.EqAt.none_int b t
  |str b=>obtain⟨t,rfl⟩:=J;exact SeqAt.EqAt.none_str b t
  |_=>exact absurd (show false=true from U) Bool.false_ne_true
 |bl a=>
  cases L
  cases x with
  |non=>cases J;exact SeqAt.EqAt.bool_none a
  |bl b=>cases J;exact SeqAt.EqAt.bool_bool a b
  |int b=>obtain⟨t,rfl⟩:=J;exact SeqAt.EqAt.bool_int a b t
  |str b=>obtain⟨t,rfl⟩:=J;exact SeqAt.EqAt.bool_str a b t
  |_=>exact absurd (show false=true from U) Bool.false_ne_true
 |int a=>
  obtain⟨t',rfl⟩:=L
  cases x with
  |non=>cases J;exact SeqAt.EqAt.int_none a t'
  |bl b=>cases J;exact SeqAt.EqAt.int_bool a t' b
  |int b=>obtain⟨t,rfl⟩:=J;exact SeqAt.EqAt.int_int a t' b t
  |str b=>obtain⟨t,rfl⟩:=J;exact SeqAt.EqAt.int_str a t' b t
  |_=>exact absurd (show false=true from U) Bool.false_ne_true
 |str a=>
  obtain⟨t',rfl⟩:=L
  cases x with
  |non=>cases J;exact SeqAt.EqAt.str_none a t'
  |bl b=>cases J;exact SeqAt.EqAt.str_bool a t' b
  |int b=>obtain⟨t,rfl⟩:=J;exact SeqAt.EqAt.str_int a t' b t
  |str b=>obtain⟨t,rfl⟩:=J;exact SeqAt.EqAt.str_str a t' b t
  |_=>exact absurd (show false=true from U) Bool.false_ne_true
 |_=>exact absurd (show false=true from Y) Bool.false_ne_true
noncomputable def jt (x:V) (u:Value):Bool:=match u with
 | .none=>kT .non x
 | .bool b=>kT (.bl b) x
 | .int i _=>kT (.int i) x
 | .str z _=>kT (.str z) x
 |_=>false
theorem Bc {x y:V}{u:Value}(r:RelV y u)(f:km y=true):jt x u=kT y x:=by
 cases y with
 |non=>cases r;rfl
 |bl b=>cases r;rfl
 |int i=>obtain⟨t,rfl⟩:=r;rfl
 |str z=>obtain⟨t,rfl⟩:=r;rfl
 |_=>exact absurd (show false=true from f) Bool.false_ne_true
theorem px {x:V}:∀{xs:List V}{us:List Value},Vals xs us->xs.all km=true->us.any (jt x)=xs.any λy=>kT y x
 |_,_,.nil,_=>rfl
 |y::xs,u::us,.cons r t,f=>by
  rw[Q2d,Bool.and_eq_true] at f;rw[Q1c,Q1c,Bc r f.1,px t f.2]
theorem pz {A:Around}{s:Shared}{x:V}{v:Value}(L:RelV x v)(U:km x=true):∀{xs:List V}{us:List Value},Vals xs us->xs.all km=true->∀u∈us,SeqAt.EqAt A s u v (jt x u)
 |_,_,.nil,_=>λu J=>by cases J
 |y::xs,u::us,.cons r t,f=>λu' J=>by
  rw[Q2d,Bool.and_eq_true] at f;rcases List.mem_cons.mp J with rfl|J
  . rw[Bc r f.1];exact Hh r L f.1 U
  . exact pz L U t f.2 u' J
noncomputable def inV (x:V) (xs:List V):Bool:=xs.any λy=>kT y x
def pA (K:W.Frag) (neg:Bool):R2:=λx y H Q=>∃p xs,y=.ref p/\(fv K H p xs\/d_ K H p xs)/\km x=true/\xs.all km=true/\Q (.bl (if neg then !inV x xs else inV x xs)) H
theorem qU:ip X (compareOp .In) (pA X.K false):=by
 intro pins s σ H x y v u Q I U ry h;obtain⟨p,xs,rfl,L,Y,fs,q⟩:=h
 cases ry;rcases L with L|L
 . obtain⟨J,r,pl,hz⟩:=I.list L;refine SeqAt.in_listAt (jt x) pl.isList (λw hw=>pz U Y r fs w (by simpa using hw)) ⟨.bl _,H,I,rfl,?_⟩;rw[show J.toArray.any (jt x)=J.any (jt x) by simp,px r fs];exact q
 . obtain⟨J,r,pl,hz⟩:=I.tuple L;refine SeqAt.in_tupleAt (jt x) pl (λw hw=>pz U Y r fs w (by simpa using hw)) ⟨.bl _,H,I,rfl,?_⟩;rw[show J.toArray.any (jt x)=J.any (jt x) by simp,px r fs];exact q
theorem pB:ip X (compareOp .NotIn) (pA X.K true):=by
 intro pins s σ H x y v u Q I U ry h;obtain⟨p,xs,rfl,L,Y,fs,q⟩:=h
 cases ry;rcases L with L|L
 . obtain⟨J,r,pl,hz⟩:=I.list L;refine SeqAt.notIn_listAt (jt x) pl.isList (λw hw=>pz U Y r fs w (by simpa using hw)) ⟨.bl _,H,I,rfl,?_⟩;rw[show J.toArray.any (jt x)=J.any (jt x) by simp,px r fs];exact q
 . obtain⟨J,r,pl,hz⟩:=I.tuple L;refine SeqAt.notIn_tupleAt (jt x) pl (λw hw=>pz U Y r fs w (by simpa using hw)) ⟨.bl _,H,I,rfl,?_⟩;rw[show J.toArray.any (jt x)=J.any (jt x) by simp,px r fs];exact q
theorem jj:jF X (.builtin "len") (λxs H Q=>∃p ys,xs=[.ref p]/\(fv X.K H p ys\/d_ X.K H p ys)/\Q (.int ys.length) H):=by
 intro pins s σ H xs us Q I r h;obtain⟨p,ys,rfl,L,q⟩:=h;obtain⟨u,rfl,rx⟩:=vals1 r
 cases rx;have hn:=og;rcases L with L|L
 . obtain⟨Y,U,pl,hz⟩:=I.list L;have J:=U.length;exact Calls.call_len_list pl.isList (by simp only[Q06] <;> omega) ⟨.int ys.length,H,I.tok _,⟨s.toks+1,by rw[Q06,J]⟩,q⟩
 . obtain⟨Y,U,pl,hz⟩:=I.tuple L;have J:=U.length;exact len_tuple pl (by simp only[Q06] <;> omega) ⟨.int ys.length,H,I.tok _,⟨s.toks+1,by rw[Q06,J]⟩,q⟩
theorem Hi:jF X (.builtin "len") (λxs H Q=>∃z,xs=[.str z]/\z.length<=sizeLine/\Q (.int z.length) H):=by
 intro pins s σ H xs us Q I r h;obtain⟨z,rfl,J,q⟩:=h;obtain⟨u,rfl,t,rfl⟩:=vals1 r;have L:=og;exact len_str (by omega) ⟨.int z.length,H,I.tok _,⟨_,rfl⟩,q⟩
theorem Hj:jF X (.type "list") (λxs H Q=>∃p ys,xs=[.ref p]/\(fv X.K H p ys\/d_ X.K H p ys)/\∀l,H l=none->Q (.ref l) (upd H l (.lst ys))):=by
 intro pins s σ H xs us Q I r h;obtain⟨p,ys,rfl,U,q⟩:=h;obtain⟨u,rfl,rx⟩:=vals1 r
 cases rx
 have fin:∀(J:List Value),Vals ys J->ys.length<=sizeLine->∀(h':Heap) (c':Nat),(∀b o',s.heap.get? b=some o'->h'.get? b=some o')->
  h'.get? s.heap.objs.size=some { cls:=.type "list",dict:=none,data:=.seq J.toArray c',slots:=#[] }->EP X pins σ Q (.ref s.heap.objs.size) { s with heap:=h' }:=λJ L Y h' c' kp e=>
  ⟨.ref s.heap.objs.size,_,I.laid (t':=s.toks) kp (Q0 _) (show h_ X.prog X.w _ h' _ (.lst ys) from⟨Y,J,c',L,e⟩),rfl,q _ (I.hok.fresh (Q0 _))⟩
 rcases U with U|U
 . obtain⟨J,L,pl,Y⟩:=I.list U;have aa:=L.length;obtain⟨o,ho,hc,n,hd⟩:=pl.isList;exact call_list_seq p (.inl rfl) ho hc hd (λh' c' kp e=>fin J L Y h' c' kp e) (by simp only[Q06] <;> omega)
 . obtain⟨J,L,pl,Y⟩:=I.tuple U;have aa:=L.length;obtain⟨o,ho,hc,n,hd⟩:=pl;exact call_list_seq p (.inr rfl) ho hc hd (λh' c' kp e=>fin J L Y h' c' kp e) (by simp only[Q06] <;> omega)
theorem qV:jF X (.type "tuple") (λxs H Q=>∃p ys,xs=[.ref p]/\((fv X.K H p ys/\∀l,H l=none->Q (.ref l) (upd H l (.tup ys)))\/(d_ X.K H p ys/\Q (.ref p) H))):=by
 intro pins s σ H xs us Q I r h;obtain⟨p,ys,rfl,h⟩:=h;obtain⟨u,rfl,rx⟩:=vals1 r
 cases rx;rcases h with⟨L,q⟩|⟨L,q⟩
 . obtain⟨J,U,pl,Y⟩:=I.list L;have aa:=U.length;refine call_tuple_list pl.isList (λh' kp=>?_) (by simp only[Q06] <;> omega);have I1:Inv X pins σ H { s with heap:=h' }:=I.kept (t':=s.toks) kp
   have I2:Inv X pins σ (upd H h'.objs.size (.tup ys)) { s with heap:=h'.push { cls:=.type "tuple",data:=.seq J.toArray } }:=
    I1.laid (t':=s.toks) (λb o e=>Q09 _ e) (Q0 _) (show h_ X.prog X.w _ _ _ (.tup ys) from⟨Y,J,U,IsTup.new _ _⟩)
   exact⟨.ref h'.objs.size,_,I2,rfl,q _ (I1.hok.fresh (Q0 _))⟩
 . obtain⟨J,U,pl,Y⟩:=I.tuple L;exact call_tuple_same pl ⟨.ref p,H,I,rfl,q⟩
def Bd (K:W.Frag) (T:String) (x:V) (H:Hp):Prop:=match x with
 | .str _=>T="str"
 | .int _=>T="int"
 | .ref p=>(T="list"/\∃xs,fv K H p xs)\/(T="tuple"/\∃o,K.lookup p=some o/\o.cls=.type "tuple"/\o.dict=none)\/
    (T="dict"/\((∃kvs,H p=some (.dK kvs))\/∃kvs,H p=some (.dT kvs)))\/(T="set"/\∃S n,H p=some (.set S n))
 |_=>False
theorem Hk {pins:List (Addr × Obj)}{σ:St}{H:Hp}{s:Shared}{T:String}{x:V}{v:Value}(I:Inv X pins σ H s)(r:RelV x v)(ty:Bd X.K T x H):
 s.TypeIs v T/\∀a,v=.ref a->∃U,s.heap.get? a=some U/\U.dict=none:=by
 cases x with
 |str z=>
  obtain⟨t,rfl⟩:=r
  cases(show T="str" from ty);exact⟨typeIs_str s z t,λ_ e=>nomatch e⟩
 |int i=>
  obtain⟨t,rfl⟩:=r
  cases(show T="int" from ty);exact⟨typeIs_int s i t,λ_ e=>nomatch e⟩
 |ref p=>
  cases r;rcases ty with⟨rfl,xs,Y⟩|⟨rfl,o,hk,hc,J⟩|⟨rfl,hk⟩|⟨rfl,S,n,hk⟩
  . obtain⟨aa,_,pl,_⟩:=I.list Y;refine⟨pl.isList.typeIs,λa e=>?_⟩
    cases e;obtain⟨o,n,e,c,J,_⟩:=pl;exact⟨o,e,J⟩
  . refine⟨⟨o,I.ir p o hk,hc⟩,λa e=>?_⟩
    cases e;exact⟨o,I.ir _ o hk,J⟩
  . have z:∃o,s.heap.get? p=some o/\o.ExactDict:=by
     rcases hk with⟨kvs,hk⟩|⟨kvs,hk⟩
     . obtain⟨_,_,_,_,o,_,_,e,ex,_⟩:=I.hok p _ hk;exact⟨o,e,ex⟩
     . obtain⟨_,_,_,_,o,_,_,e,ex,_⟩:=I.hok p _ hk;exact⟨o,e,ex⟩
    obtain⟨o,e,ex⟩:=z;refine⟨⟨o,e,ex.1⟩,λa L=>?_⟩
    cases L;exact⟨o,e,ex.2.1⟩
  . obtain⟨o,_,_,_,e,ex,_⟩:=I.hok p _ hk;refine⟨⟨o,e,ex.1⟩,λa L=>?_⟩
    cases L;exact⟨o,e,ex.2.1⟩
 |_=>exact False.elim ty
def Hl (K:W.Frag) (T:String) (r:V->List V->Hp->VK->Prop) (to:TE) (t:TA):TE:=λσ H Q=>to σ H λx H1=>Bd K T x H1/\t σ H1 λxs H2=>r x xs H2 Q
variable {o e:Expr}{es:List Expr}{to:TE}{t:TA}{name:Str}{apos cpos:Pos}{T id:String}{r:V->List V->Hp->VK->Prop}
theorem ko (pa:PlainAttrs T)(slot:Slot T name id)(ab:typeOf (.builtin id)=pure (.type "method_descriptor"))(hm:ud X id r)(ho:PE X o to)(ha:PA X (e::es) t)
 (L:attributeBase o name X.env (eval o X.env)=eval o X.env:=by rfl)
 (aa:((backTo cpos (starEach (e::es) X.env)).all (λx=> !x.1) && (backToKw cpos (keywordEach [] X.env)).all (λx=>x.1.isSome)
   && decide ((e::es).length+([]:List Keyword).length+(if([]:List Keyword).isEmpty then 0 else 1)<30))=true:=by rfl)
 (U:(apos.endLine == cpos.line)=true:=by rfl) (hs:starEach (e::es) X.env=(false,eval e X.env)::starEach es X.env:=by rfl) (J:(backTo cpos (starEach es X.env)).any (·.1)=false:=by rfl):
 PE X (.Call (.Attribute o name apos) (e::es) [] cpos) (Hl X.K T r to t):=by
 intro pins s σ H Q I h;refine wpAny_Call_method_late L aa U rfl (fQ (ho pins s σ H _ I h) λv s1 zq=>?_);obtain⟨x,H1,I1,r1,ty,q1⟩:=zq;obtain⟨h1,h2⟩:=Hk I1 r1 ty;refine⟨T,id,pa,slot,ab,h1,h2,?_⟩;have hA:=ha cpos pins s1 σ H1 _ I1 q1;rw[hs] at hA ⊢;refine Calls.callWith_builtin (by show(false || (backTo cpos (starEach es X.env)).any (·.1))=false;rw[J] <;> rfl) (Calls.evalArgs_plain ?_);exact fQ hA λus s2 ⟨vs,H2,I2,r2,q2⟩=>hm pins s2 σ H2 x vs v us Q I2 r1 r2 q2
/- xs.append(e),list.index on a Y tuple .. ae ud ac of 06m -/
end
def Hm (X:Cx) (id:String) (r:V->List V->Hp->VK->Prop):Prop:=
 ∀(pins:List (Addr × Obj)) (s:Shared) (σ:St) (H:Hp) (x:V) (xs:List V) (v:Value) (us:List Value) (Q:VK),Inv X pins σ H s->RelV x v->Vals xs us->r x xs H Q->
  wpAny (model X.prog X.w) X.A (call (.builtin id) (v::us)) (EP X pins σ Q) X.xe s
theorem Vals.one:∀{x:V}{us:List Value},Vals [x] us->∃u,us=[u]/\RelV x u
 |_,_,.cons r .nil=>⟨_,rfl,r⟩
section
variable {X:Cx}{pins:List (Addr × Obj)}{σ:St}{H:Hp}{s:Shared}{l b:Addr}{xs ys zs:List V}
theorem Inv.Hn {J its':List Value}{n:Nat}{f:Array Value->Array Value}{t':Nat}(I:Inv X pins σ H s)(L:H l=some (.lst xs))
 (e:s.heap.get? l=some { cls:=.type "list",data:=.seq J.toArray n }) (U:f J.toArray=its'.toArray) (Y:Vals ys its') (hz:ys.length<=sizeLine):
 Inv X pins σ (upd H l (.lst ys)) { s with heap:=s.heap.update l (Obj.mapSeq f),toks:=t' }:=by
 have q:=PySem.IsL.update e f;rw[U] at q;refine I.write (x:=l) (e:=l) (by rw[L];exact trivial) (.inl rfl) (λb' u hb hu=>(Q15 s.heap (Obj.mapSeq f) (Ne.symm hb)).trans hu) ⟨_,q⟩ ?_;exact⟨hz,its',_,Y,q⟩
theorem Inv.Ho {J:List Value}{t':Nat}(I:Inv X pins σ H s)(L:Vals ys J)(U:ys.length<=sizeLine):
 Inv X pins σ (upd H s.heap.objs.size (.lst ys)) { s with heap:=s.heap.push { cls:=.type "list",data:=.seq J.toArray },toks:=t' }:=
 I.laid (λ_ _ q=>Q09 _ q) (Q0 _) ⟨U,J,0,L,Q0j _ rfl⟩
theorem Inv.fresh (I:Inv X pins σ H s):H s.heap.objs.size=none:=I.hok.fresh (Q0 _)
theorem Inv.uf (I:Inv X pins σ H s)(L:H l=some (.lst xs)):xs.length<=sizeLine/\∃(J:List Value) (n:Nat),Vals xs J/\xs.length=J.length/\s.heap.get? l=some { cls:=.type "list",data:=.seq J.toArray n }:=by
 obtain⟨z,J,n,r,e⟩:=I.hok l _ L;exact⟨z,J,n,r,r.length,e⟩
end
section
variable {X:Cx}
def Hq:V->List V->Hp->VK->Prop:=λx vs H Q=>∃l xs y,x=.ref l/\vs=[y]/\H l=some (.lst xs)/\xs.length<sizeLine/\Q .non (upd H l (.lst (xs++[y])))
theorem lB:Hm X "list.append" Hq:=by
 intro pins s σ H x vs v us Q I U Y h;obtain⟨l,xs,y,rfl,rfl,L,hz,q⟩:=h
 cases U;obtain⟨u,rfl,ru⟩:=Y.one;obtain⟨z,J,n,r,hl,e⟩:=I.uf L;refine call_meets F.slot_list_append ⟨_,e,rfl⟩ F.entry_list_append (F.args_list_append_2 _ _) (PySem.list_append l J.toArray n u (by rw[Q06];omega)) ⟨e,?_⟩;refine⟨.non,_,I.Hn (its':=J++[u]) L e (by simp) (r.append (.cons ru .nil)) ?_,rfl,q⟩;rw[Q0e,Q1k];omega
def Hr:R2:=λx y H Q=>∃l b xs zs,x=.ref l/\y=.ref b/\H l=some (.lst xs)/\H b=some (.lst zs)/\xs.length+zs.length<=sizeLine/\∀p,H p=none->Q (.ref p) (upd H p (.lst (xs++zs)))
theorem Hs:ip X (binaryOp .Add) Hr:=by
 intro pins s σ H x y v u Q I U Y h;obtain⟨l,b,xs,zs,rfl,rfl,hH,hB,hz,q⟩:=h
 cases U
 cases Y;obtain⟨z,L,n,r,hl,e⟩:=I.uf hH;obtain⟨z2,J,n2,r2,aa,e2⟩:=I.uf hB;refine PySem.P.add_list e e2 ?_ (by rw[Q06,Q06];omega);have ea:L.toArray++J.toArray=(L++J).toArray:=by simp
 rw[ea];exact⟨.ref _,_,I.Ho (t':=s.toks) (r.append r2) (by rw[Q0e];omega),rfl,q _ I.fresh⟩
end
section
variable {prog:Program}{w:World}{A:Around}{E:Value->Shared->Prop}{s:Shared}
end
section
variable {X:Cx}
end
section
variable {κ:Type} [DecidableEq κ]
noncomputable def gH (kvs:List (κ × V)) (k:κ):Option V:=(kvs.find? λkv=>decide (kv.1=k)).map (·.2)
noncomputable def putK (kvs:List (κ × V)) (k:κ) (v:V):List (κ × V):=
 if(kvs.any λkv=>decide (kv.1=k))=true then kvs.map (λkv=>if kv.1=k then(kv.1,v) else kv) else kvs++[(k,v)]
theorem m9 {p:κ × V}{r:List (κ × V)}{k:κ}(e:p.1=k):gH (p::r) k=some p.2:=by simp[gH,Q1d,e]
theorem m_ {p:κ × V}{r:List (κ × V)}{k:κ}(e:¬p.1=k):gH (p::r) k=gH r k:=by simp[gH,Q1d,e]
theorem ng (k:κ):∀kvs:List (κ × V),(kvs.any λkv=>decide (kv.1=k))=(gH kvs k).isSome
 |[]=>rfl
 |p::r=>by
  rw[Q1c];by_cases e:p.1=k
  . simp only[m9 e,decide_eq_true e,Bool.true_or,Option.isSome_some]
  . rw[m_ e,decide_eq_false e,Bool.false_or];exact ng k r
theorem Be (kvs:List (κ × V))(k:κ)(v:V):(putK kvs k v).length<=kvs.length+1:=by
 unfold putK;split
 . rw[Q05];omega
 . rw[Q0e,Q0k,Q2v];omega
theorem jg.pC {o:Option V}{u:Option Value}(r:jg o u):o.isSome=u.isSome:=by
 cases o with
 |none=>cases u with
  |none=>rfl
  |some _=>exact(show False from r).elim
 |some _=>cases u with
  |none=>exact(show False from r).elim
  |some _=>rfl
theorem KV.val {kvs:List (κ × V)}{vs:List (κ × Value)}(r:KV kvs vs)(k:κ):jg (gH kvs k) (valueAt vs k):=by
 unfold KV at r
 induction r with
 |nil=>exact True.intro
 |@cons p q ps J h t U=>
  obtain⟨h1,h2⟩:=h;by_cases e:p.1=k
  . have L:q.1=k:=h1.symm.trans e;have b:valueAt (q::J) k=some q.2:=by simp[valueAt,Q1d,L]
    rw[m9 e,b];exact h2
  . have L:¬q.1=k:=λz=>e (h1.trans z);have b:valueAt (q::J) k=valueAt J k:=by simp[valueAt,Q1d,L]
    rw[m_ e,b];exact U
theorem KV.any {kvs:List (κ × V)}{vs:List (κ × Value)}(r:KV kvs vs)(k:κ):(kvs.any λkv=>decide (kv.1=k))=vs.any λkv=>decide (kv.1=k):=by
 unfold KV at r
 induction r with
 |nil=>rfl
 |cons h t J=>rw[Q1c,Q1c,J,h.1]
theorem KV.repl {kvs:List (κ × V)}{vs:List (κ × Value)}(r:KV kvs vs)(k:κ){y:V}{u:Value}(J:RelV y u):
 KV (kvs.map λkv=>if kv.1=k then(kv.1,y) else kv) (vs.map λkv=>if kv.1=k then(kv.1,u) else kv):=by
 unfold KV at r ⊢
 induction r with
 |nil=>exact .nil
 |@cons p q ps U h t L=>
  rw[Q0w,Q0w];refine .cons ?_ L;obtain⟨h1,h2⟩:=h;by_cases e:p.1=k
  . rw[if_pos e,if_pos (h1.symm.trans e)];exact⟨h1,J⟩
  . rw[if_neg e,if_neg (λz=>e (h1.trans z))];exact⟨h1,h2⟩
theorem KV.put {kvs:List (κ × V)}{vs:List (κ × Value)}(r:KV kvs vs)(k:κ){y:V}{u:Value}(J:RelV y u):KV (putK kvs k y) (stored vs k u):=by
 unfold putK stored;rw[r.any k];by_cases e:(vs.any λkv=>decide (kv.1=k))=true
 . rw[if_pos e,if_pos e];exact r.repl k J
 . rw[if_neg e,if_neg e];exact Paired.snoc r ⟨rfl,J⟩
theorem KV.length {kvs:List (κ × V)}{vs:List (κ × Value)}(r:KV kvs vs):kvs.length=vs.length:=Paired.length r
end
theorem pE {P:Program}{w:World}{k:Key}{u:Value}(r:RelV (kV k) u):(h9 P w).is k u=true:=by
 cases k with
 |inl i=>obtain⟨t,e⟩:=(show ∃t,u=Value.int i t from r);subst e;exact F0 P w i t
 |inr x=>obtain⟨t,e⟩:=(show ∃t,u=Value.str x t from r);subst e;exact F1 P w x t
theorem Bf {P:Program}{w:World}:∀{ks:List Key}{us:List Value},Vals (ks.map kV) us->ItemsAre (h9 P w) ks us
 |[],_,r=>by rw[List.map_nil] at r;cases r;exact .nil
 |k::ks,_,r=>by
  rw[Q0w] at r
  cases r with
  |cons h t=>exact .cons (pE h) (Bf t)
abbrev KT (H:Hp):List (List Key × V)->List (List Key × Addr × Value)->Prop:=Paired λp q=>p.1=q.1/\H q.2.1=some (.tup (p.1.map kV))/\RelV p.2 q.2.2
theorem KT.val {H:Hp}{kvs:List (List Key × V)}{xs:List (List Key × Addr × Value)}(r:KT H kvs xs)(k:List Key):jg (gH kvs k) ((atKey xs k).map (·.2)):=by
 induction r with
 |nil=>exact True.intro
 |@cons p q ps J h t U=>
  obtain⟨h1,_,h2⟩:=h;by_cases e:p.1=k
  . have L:q.1=k:=h1.symm.trans e;have b:atKey (q::J) k=some q.2:=by simp[atKey,Q1d,L]
    rw[m9 e,b];exact h2
  . have L:¬q.1=k:=λz=>e (h1.trans z);have b:atKey (q::J) k=atKey J k:=by simp[atKey,Q1d,L]
    rw[m_ e,b];exact U
theorem KT.repl {H:Hp}{kvs:List (List Key × V)}{xs:List (List Key × Addr × Value)}(r:KT H kvs xs)(k:List Key){y:V}{u:Value}(J:RelV y u):
 KT H (kvs.map λkv=>if kv.1=k then(kv.1,y) else kv) (xs.map (putAt k u)):=by
 induction r with
 |nil=>exact .nil
 |@cons p q ps Y h t L=>
  rw[Q0w,Q0w];refine .cons ?_ L;obtain⟨h1,h2,U⟩:=h;unfold putAt;by_cases e:p.1=k
  . rw[if_pos e,if_pos (h1.symm.trans e)];exact⟨h1,h2,J⟩
  . rw[if_neg e,if_neg (λz=>e (h1.trans z))];exact⟨h1,h2,U⟩
theorem KT.put {H:Hp}{kvs:List (List Key × V)}{xs:List (List Key × Addr × Value)}(r:KT H kvs xs)(k:List Key){b:Addr}{y:V}{u:Value}(L:H b=some (.tup (k.map kV)))(J:RelV y u):
 KT H (putK kvs k y) (storedH xs k b u):=by
 have e:(kvs.any λkv=>decide (kv.1=k))=(atKey xs k).isSome:=by
  rw[ng,(r.val k).pC,Q2e]
 unfold putK storedH;rw[e];by_cases q:(atKey xs k).isSome=true
 . rw[if_pos q,if_pos q];exact r.repl k J
 . rw[if_neg q,if_neg q];exact Paired.snoc r ⟨rfl,L,J⟩
theorem KT.keeps {H H':Hp}{kvs:List (List Key × V)}{xs:List (List Key × Addr × Value)}(r:KT H kvs xs)(J:∀b ys,H b=some (.tup ys)->H' b=some (.tup ys)):KT H' kvs xs:=
 Paired.o5 r λ_ _ z=>⟨z.1,J _ _ z.2.1,z.2.2⟩
section
variable {P:Program}{w:World}{H:Hp}{h:Heap}{a:Addr}
theorem Bg {u:HO}(ok:g8 P w H h)(e:Rd H a u):h_ P w H h a u:=e.ok ok
theorem oh {kvs:List (Key × V)}(ok:g8 P w H h)(e:Rd H a (.dK kvs)):kvs.length<=sizeLine/\(a == sysModules)=false/\∃vs,KV kvs vs/\h.DictOf (h9 P w) a vs:=
 show h_ P w H h a (.dK kvs) from Bg ok e
theorem oi {kvs:List (Key × V)}(ok:g8 P w H h)(e:H a=some (.dK kvs)):kvs.length<=sizeLine/\(a == sysModules)=false/\∃vs,KV kvs vs/\h.DictOf (h9 P w) a vs:=oh ok (.inl e)
theorem pF {ks:List Key}(ok:g8 P w H h)(e:H a=some (.tup (ks.map kV))):(tupleKind (h9 P w)).is h ks a:=by
 obtain⟨_,J,r,o,h1,h2,n,L⟩:=(show h_ P w H h a (.tup (ks.map kV)) from ok a _ e);exact⟨o,J.toArray,n,h1,h2,L,by simpa using Bf r⟩
theorem pG {kvs:List (List Key × V)}(ok:g8 P w H h)(e:Rd H a (.dT kvs)):kvs.length<=sizeLine/\(a == sysModules)=false/\
 ∃xs,KT H kvs xs/\h.DictOfH (tupleKind (h9 P w)) a xs:=by
 obtain⟨z,y,xs,r,o,es,U,h1,h2,Y,h4,h5⟩:=(show h_ P w H h a (.dT kvs) from Bg ok e);refine⟨z,y,xs,r,o,es,U,h1,h2,Y,h4,λx J=>?_,h5⟩
 have all:∀{l:List (List Key × V)} {m:List (List Key × Addr × Value)},KT H l m->∀x∈m,(tupleKind (h9 P w)).is h x.1 x.2.1:=by
  intro l m q
  induction q with
  |nil=>intro x J;exact nomatch J
  |@cons p q ps qs L t ih=>
   intro x J;rcases List.mem_cons.mp J with e|J
   . subst e;exact pF ok (by rw[<-L.1];exact L.2.1)
   . exact ih x J
 exact all r x J
theorem Hu {kvs:List (List Key × V)}(ok:g8 P w H h)(e:H a=some (.dT kvs)):kvs.length<=sizeLine/\(a == sysModules)=false/\
 ∃xs,KT H kvs xs/\h.DictOfH (tupleKind (h9 P w)) a xs:=pG ok (.inl e)
end
def gI (H:Hp) (a:Addr) (y:V) (r:Option V):Prop:=
 (∃kvs k,Rd H a (.dK kvs)/\y=kV k/\r=gH kvs k)\/∃kvs k b,Rd H a (.dT kvs)/\y=.ref b/\H b=some (.tup (k.map kV))/\r=gH kvs k
def ju (H:Hp) (a:Addr) (y v:V) (H':Hp):Prop:=
 (∃kvs k,H a=some (.dK kvs)/\y=kV k/\kvs.length<sizeLine/\H'=upd H a (.dK (putK kvs k v)))\/
 ∃kvs k b,H a=some (.dT kvs)/\y=.ref b/\H b=some (.tup (k.map kV))/\kvs.length<sizeLine/\H'=upd H a (.dT (putK kvs k v))
theorem gI.k {H:Hp}{a:Addr}{kvs:List (Key × V)}{k:Key}(e:H a=some (.dK kvs)):gI H a (kV k) (gH kvs k):=.inl ⟨kvs,k,.inl e,rfl,rfl⟩
theorem ju.k {H:Hp}{a:Addr}{kvs:List (Key × V)}{k:Key}{v:V}(e:H a=some (.dK kvs))(hl:kvs.length<sizeLine):ju H a (kV k) v (upd H a (.dK (putK kvs k v))):=.inl ⟨kvs,k,e,rfl,hl,rfl⟩
section
variable {X:Cx}{pins:List (Addr × Obj)}{σ:St}{H:Hp}{s:Shared}{a:Addr}{y v:V}{u r:Value}{o:Option V}{A:Around}{E:Value->Shared->Prop}
theorem Inv.big (I:Inv X pins σ H s):sysModules<s.heap.objs.size:=by
 have h:mainGlobals<s.heap.objs.size:=(I.mod.glob.keeps I.bk).lt;exact Nat.lt_trans (by decide) h
theorem Hv {Q:Value->Shared->Prop}(hu:A.units+1<cLine)(I:Inv X pins σ H s)(g:gI H a y (some v))(ry:RelV y u)(h:∀U s',Inv X pins σ H s'->RelV v U->Q U s'):
 wpAny (model X.prog X.w) A (getItem (.ref a) u) Q E s:=by
 rcases g with⟨kvs,k,e,Y,l⟩|⟨kvs,k,b,e,Y,eb,l⟩
 . subst Y;obtain⟨z,hd,vs,J,dd⟩:=oh I.hok e;obtain⟨U,hw,L⟩:=jg.some_of (v:=v) (o:=valueAt vs k) (by rw[l];exact J.val k);exact wpAny_getItem_of (pE ry) dd.mapOf hw (h U _ (I.tok _) L)
 . subst Y
   cases(show u=Value.ref b from ry);obtain⟨z,hd,xs,J,dd⟩:=pG I.hok e;obtain⟨U,hw,L⟩:=jg.some_of (v:=v) (o:=(atKey xs k).map (·.2)) (by rw[l];exact J.val k);obtain⟨p,hp,aa⟩:=Option.map_eq_some_iff.mp hw;refine wpAny_getItem_heap (tupleKind_room_in1 hu) (pF I.hok eb) dd hp ?_;rw[aa];exact h U _ (I.tok _) L
theorem Hw {Q:Value->Shared->Prop}(hu:A.units+1<cLine)(I:Inv X pins σ H s)(g:gI H a y o)(Y:RelV y u)(h:∀s',Inv X pins σ H s'->Q (.bool o.isSome) s'):
 wpAny (model X.prog X.w) A (compareOp .In u (.ref a)) Q E s:=by
 rcases g with⟨kvs,k,e,L,l⟩|⟨kvs,k,b,e,L,eb,l⟩
 . subst L;obtain⟨z,U,vs,J,dd⟩:=oh I.hok e;refine wpAny_in_of (pE Y) U dd.mapOf ?_;rw[<-(J.val k).pC,<-l];exact h _ (I.tok _)
 . subst L
   cases(show u=Value.ref b from Y);obtain⟨z,U,xs,J,dd⟩:=pG I.hok e;refine wpAny_in_heap (tupleKind_room_in1 hu) (pF I.hok eb) U dd ?_;have q:=(J.val k).pC;rw[Q2e] at q;rw[<-q,<-l];exact h _ (I.tok _)
theorem Hx {Q:Value->Shared->Prop}(hu:A.units+1<cLine)(I:Inv X pins σ H s)(g:gI H a y o)(Y:RelV y u)(h:∀s',Inv X pins σ H s'->Q (.bool (!o.isSome)) s'):
 wpAny (model X.prog X.w) A (compareOp .NotIn u (.ref a)) Q E s:=by
 rcases g with⟨kvs,k,e,L,l⟩|⟨kvs,k,b,e,L,eb,l⟩
 . subst L;obtain⟨z,U,vs,J,dd⟩:=oh I.hok e;refine wpAny_notIn_of (pE Y) U dd.mapOf ?_;rw[<-(J.val k).pC,<-l];exact h _ (I.tok _)
 . subst L
   cases(show u=Value.ref b from Y);obtain⟨z,U,xs,J,dd⟩:=pG I.hok e;refine wpAny_notIn_heap (tupleKind_room_in1 hu) (pF I.hok eb) U dd ?_;have q:=(J.val k).pC;rw[Q2e] at q;rw[<-q,<-l];exact h _ (I.tok _)
theorem ug {h':Heap}{t':Nat}{J:HO}(I:Inv X pins σ H s)(mu:o6 (H a))(L:Heap.SameBut a s.heap h')(U:∃q,h'.get? a=some q)(new:h_ X.prog X.w (upd H a J) h' a J):
 Inv X pins σ (upd H a J) { s with heap:=h',toks:=t' }:=
 I.write (x:=a) (e:=a) mu (.inl rfl) (λb q Y z=>(L.2 b Y).trans z) U new
theorem Bh {P:Program}{w:World}{H':Hp}{h':Heap}{kvs:List (Key × V)}{vs:List (Key × Value)}(z:kvs.length<=sizeLine)(L:(a == sysModules)=false)(J:KV kvs vs)(dd:h'.DictOf (h9 P w) a vs):
 h_ P w H' h' a (.dK kvs):=⟨z,L,vs,J,dd⟩
theorem Hy {H':Hp}{Q:Unit->Shared->Prop}(hu:A.units+1<cLine)(I:Inv X pins σ H s)(g:ju H a y v H')(ry:RelV y u)(rv:RelV v r)(h:∀s',Inv X pins σ H' s'->Q () s'):
 wpAny (model X.prog X.w) A (setItem (.ref a) u r) Q E s:=by
 rcases g with⟨kvs,k,e,Y,l,eH⟩|⟨kvs,k,b,e,Y,eb,l,eH⟩
 . subst Y eH;obtain⟨z,hd,vs,J,dd⟩:=oi I.hok e;have hz:vs.length<=sizeLine:=by rw[<-J.length];exact z
   have hl:(putK kvs k v).length<=sizeLine:=by have:=Be kvs k v;omega
   refine wpAny_setItem_pairs (hsz:=hz) (pE ry) dd λh' L hs=>h _ ?_;have he:∃q,h'.get? a=some q:=let⟨q,_,_,U,_⟩:=L;⟨q,U⟩
   exact ug I (by rw[e];exact True.intro) hs he (Bh hl hd (J.put k rv) L)
 . subst Y eH
   cases(show u=Value.ref b from ry);obtain⟨z,hd,xs,J,dd⟩:=Hu I.hok e;have hz:xs.length<=sizeLine:=by rw[<-Paired.length J];exact z
   have hl:(putK kvs k v).length<=sizeLine:=by have:=Be kvs k v;omega
   refine wpAny_setItem_heap (hsz:=hz) (tupleKind_room_in1 hu) (pF I.hok eb) dd λh' L hs=>h _ ?_;obtain⟨q,es,ep,U,h2,h3,h4,_,h5⟩:=L;refine ug I (by rw[e];exact True.intro) hs ⟨q,U⟩ ⟨hl,hd,_,(J.put k eb rv).keeps λc ys ec=>?_,q,es,ep,U,h2,h3,h4,h5⟩;rw[fk (ic ec e (λz=>nomatch z))];exact ec
end
section
variable {X:Cx}{pins:List (Addr × Obj)}{σ:St}{H:Hp}{s:Shared}{a:Addr}{kvs:List (Key × V)}{k:Key}{u:Value}{A:Around}{E:Value->Shared->Prop}
theorem Hz {Q:Value->Shared->Prop}(I:Inv X pins σ H s)(e:Rd H a (.dK kvs))(h:∀t s',Inv X pins σ H s'->Q (.int kvs.length t) s'):wpAny (model X.prog X.w) A (call (.builtin "len") [.ref a]) Q E s:=by
 obtain⟨z,L,vs,J,dd⟩:=oh I.hok e;refine call_len_dict L dd (by rw[<-J.length];rw[sizeLine_eq] at z;omega) ?_;rw[<-J.length];exact h _ _ (I.tok _)
end
def Bi (i:Expr):Prop:=∀J L,subscripted i false J L=operate [J,L] (getItem J L)
theorem HA {prog:Program}{w:World}{A:Around}{E:Value->Shared->Prop}{s:Shared}{env:Env}{value J:Expr}{pos:Pos}{T id:String}{Q:Value->Shared->Prop}
 (hl:typeLookup (.type T) "__getitem__"=pure (some (.builtin id))) (hs:Bi J)
 (h:wpAny (model prog w) A (eval value env) (λo Y=>wpAny (model prog w) A (eval J env) (λi L=>L.TypeIs o T/\wpAny (model prog w) A (getItem o i) Q E L) E Y) E s):
 wpAny (model prog w) A (eval (.Subscript value J pos) env) Q E s:=by
 refine Subscript_ (Q0n h (λo Y h₁=>Q0n h₁ (λi L U=>?_) λ_ _ x=>x) λ_ _ x=>x);obtain⟨hT,U⟩:=U;unfold subscriptTail;refine Q00 ?_;rw[getitemInPython_of_ne hT.not_modules];refine Q00 (wpAny_specialOf hT hl ?_)
 have fin:wpAny (model prog w) A (subscripted J false o i) (λr aa=>wpAny (model prog w) A (letTemporaryGo value o r >>= λ_=>pure r) Q E aa) E L:=by
  rw[hs o i];exact wpAny_operating (Q0n U (λr aa ab=>Q00 (wpAny_letTemporaryGo (Q0d ab))) λ_ _ x=>x)
 first
  |exact Q0d (Q00 fin)
  |exact Q00 (Q0d (Q00 fin))
  |exact Q00 fin
theorem HC {X:Cx}{pins:List (Addr × Obj)}{σ:St}{H:Hp}{s:Shared}{a:Addr}{y:V}{o:Option V}(I:Inv X pins σ H s)(g:gI H a y o):s.TypeIs (.ref a) "dict":=by
 rcases g with⟨kvs,k,e,_,_⟩|⟨kvs,k,b,e,_,_,_⟩
 . obtain⟨_,_,vs,_,dd⟩:=oh I.hok e;exact dd.typeIs
 . obtain⟨_,_,xs,_,dd⟩:=pG I.hok e;exact dd.typeIs
def uh (td ty:TE):TE:=λσ H Q=>td σ H λx H1=>ty σ H1 λy H2=>∃a v,x=.ref a/\gI H2 a y (some v)/\Q v H2
def HD (ty td:TE):TE:=λσ H Q=>ty σ H λy H1=>td σ H1 λx H2=>∃a o,x=.ref a/\gI H2 a y o/\Q (.bl o.isSome) H2
def HE (ty td:TE):TE:=λσ H Q=>ty σ H λy H1=>td σ H1 λx H2=>∃a o,x=.ref a/\gI H2 a y o/\Q (.bl (!o.isSome)) H2
def HF (td ty tv:TE):TS:=λD σ H=>tv σ H λv H1=>td σ H1 λx H2=>ty σ H2 λy L=>∃a J,x=.ref a/\ju L a y v J/\D.nx σ J
section
variable {X:Cx}{o i e value:Expr}{pos pos' tpos:Pos}{td ty tv:TE}
theorem iA (U:X.A.units+1<cLine)(Y:PE X o td)(hi:PE X i ty)(hs:Bi i):PE X (.Subscript o i pos) (uh td ty):=by
 intro pins s σ H Q I h;refine HA PySem.F.slot_dict_getitem.lookup hs (fQ (Y pins s σ H _ I h) λu s1 ⟨x,H1,I1,rx,q1⟩=>fQ (hi pins s1 σ H1 _ I1 q1) λiv s2 zq=>?_);obtain⟨y,H2,L,ry,a,v,ex,g,q2⟩:=zq;subst ex;obtain rfl:u=Value.ref a:=rx;exact⟨HC L g,Hv U L g ry λw' s3 I3 J=>⟨v,H2,I3,J,q2⟩⟩
theorem ui (J:X.A.units+1<cLine)(hi:PE X i ty)(L:PE X o td):PC X .In i o (HD ty td):=by
 intro pins s σ H Q I h;refine fQ (hi pins s σ H _ I h) λiv U ⟨y,H1,Y,ry,q1⟩=>fQ (L pins U σ H1 _ Y q1) λu s2 zq=>?_;obtain⟨x,H2,I2,rx,a,ov,ex,g,q2⟩:=zq;subst ex;obtain rfl:u=Value.ref a:=rx;exact Hw J I2 g ry λs3 I3=>⟨.bl ov.isSome,H2,I3,rfl,q2⟩
theorem Bj (J:X.A.units+1<cLine)(hi:PE X i ty)(L:PE X o td):PC X .NotIn i o (HE ty td):=by
 intro pins s σ H Q I h;refine fQ (hi pins s σ H _ I h) λiv U ⟨y,H1,Y,ry,q1⟩=>fQ (L pins U σ H1 _ Y q1) λu s2 zq=>?_;obtain⟨x,H2,I2,rx,a,ov,ex,g,q2⟩:=zq;subst ex;obtain rfl:u=Value.ref a:=rx;exact Hx J I2 g ry λs3 I3=>⟨.bl (!ov.isSome),H2,I3,rfl,q2⟩
theorem kU (J:X.A.units+1<cLine)(L:PE X o td)(hi:PE X i ty)(U:PE X value tv)(Y:swapsWith value (some (.Subscript o i pos')) pos.line X.env=pure false):
 PS X (.Assign [.Subscript o i pos'] value pos) (HF td ty tv):=by
 intro pins s σ H D I h;refine wpAny_Assign_Subscript (fQ (U pins s σ H _ I h) λr s1 ⟨v,H1,I1,rv,q1⟩=>fQ (L pins s1 σ H1 _ I1 q1) λu s2 ⟨x,H2,I2,rx,q2⟩=>fQ (hi pins s2 σ H2 _ I2 q2) λiv s3 zq=>?_) Y;obtain⟨y,H3,I3,ry,a,H4,ex,g,q3⟩:=zq;subst ex;obtain rfl:u=Value.ref a:=rx;exact Hy J I3 g ry rv λs4 I4=>⟨σ,H4,I4,q3⟩
end
theorem HG {P:Program}{w:World}{H:Hp}(h:Heap)(J:sysModules<h.objs.size):h_ P w H (h.push { cls:=.type "dict",data:=.dict #[] }) h.objs.size (.dK []):=
 ⟨Q0a _,beq_eq_false_iff_ne.mpr (Ne.symm (Q08 J)),[],.nil,Heap.DictOf.new h⟩
def HH:TE:=λ_ H Q=>∀p,H p=none->Q (.ref p) (upd H p (.dK []))
section
variable {X:Cx}{pos:Pos}
theorem oj:PE X (.Dict [] [] pos) HH:=λpins s σ H Q I h=>
 wpAny_Dict_empty ⟨.ref s.heap.objs.size,_,I.laid (a:=s.heap.objs.size) (o:=.dK []) (t':=s.toks) (λ_ _ q=>Q09 _ q) (Q0 _) (HG s.heap I.big),rfl,h _ (I.hok.fresh (Q0 _))⟩
end
section
variable {X:Cx}{pins:List (Addr × Obj)}{σ:St}{H:Hp}{s:Shared}{a:Addr}{y d:V}{u r:Value}{o:Option V}{A:Around}{E:Value->Shared->Prop}
end
section
variable {X:Cx}{o e f:Expr}{apos cpos:Pos}{td ty tx:TE}
end
section
variable {X:Cx}{pins:List (Addr × Obj)}{σ:St}{H:Hp}{s:Shared}{a:Addr}{kvs:List (Key × V)}{A:Around}{E:Value->Shared->Prop}
end
section
variable {X:Cx}{pins:List (Addr × Obj)}{σ:St}{H:Hp}{s:Shared}{a:Addr}{y:V}{u:Value}{A:Around}{E:Value->Shared->Prop}
end
end L2
namespace Bk
open W Calls PyProof.Rows
theorem HI {P:Params}{h:Heap}:∀(ns:List Int) (vs:List Value),WellAll P h vs (ns.map WData.int)->IntsAre vs ns:=by
 intro ns
 induction ns with
 |nil=>
  intro vs w;rw[List.map_nil] at w
  cases w;exact .nil
 |cons n ns J=>
  intro vs w;rw[Q0w] at w
  cases w with
  |cons a b=>
   cases a;exact .cons _ _ (J _ b)
theorem HJ {l:OpenLaw}{n:Nat}(hn:l.most=some n){P:Params}{h:Heap}{args:List WData}{J:List Value}
 (L:l.row.toRowW.claim.pre args=true) (aa:WellAll P h J args):
 ∃a vs ns,J=[Value.ref a]/\args=[WData.list (ns.map WData.int)]/\h.get? a=some { cls:=.type "list",data:=.seq vs.toArray }/\IntsAre vs ns/\ns.length<=n:=by
 have ab:WShape.hasAll [] args [.list .int]=true:=(pre_splitW L).1;have hc:l.pre.holds [] { args:=args }=true:=(pre_splitW L).2;obtain⟨d,r,rfl,h1,h2⟩:=hasAllW_cons ab;obtain rfl:=hasAllW_nil h2;obtain⟨xs,rfl,h3⟩:=hasW_list h1;obtain⟨ns,rfl⟩:=items_int h3
 have U:ns.length<=n:=by
  unfold OpenLaw.pre at hc
  have h4:(WTm.not (.lt (.lit (.int (n:Int))) (.len (.arg 0)))).holds [] { args:=[.list (ns.map .int)] }=true:=by
   have h4:=(holds_andW hc).1;rw[hn] at h4;exact h4
  have h5:=condW_of h4 (w_not (w_lt w_lit (w_len_list (w_arg rfl))));rw[Q05] at h5;refine Q1e λq=>?_;have q':(n:Int)<((ns.length:Nat):Int):=by omega
  first
   |(rw[decide_eq_true q'] at h5;exact absurd h5 (by decide))
   |(simp at h5;omega)
 cases aa with
 |cons w1 w2=>
  cases w2
  cases w1 with
  |list ho Y=>exact⟨_,_,ns,rfl,rfl,ho,HI ns _ Y,U⟩
theorem HK (l:OpenLaw)(args:List WData):l.row.toRowW.claim.post args (.bool true) args=true:=
 postW_of (r:=l.row.toRowW) (X:=(true == true))
  (show WShape.has [] (.bool true) .bool=true by first|rfl|decide|simp[WShape.has,WShape.arms,WShape.armsAll])
  (show(WTm.eq .res (.lit (.bool true))).value [] { args:=args,res:=some (.bool true),after:=args }=some (.bool (true == true)) from w_eq_bool (w_res rfl) w_lit) rfl
theorem HL {l:OpenLaw}{n:Nat}{q:Program}{loose:List Str}{XP:(Str->Option Value)->Heap->Prop}{YP:World->Heap->Prop}{d:DefRec}
 (hn:l.most=some n) (ae:d.params.defaults=[])
 (call:∀(w:World) (s₀ J:Shared) (mg mb:Str->Option Value) (fa:Addr) (o:Obj) (pm cd L:Value) (a:Addr) (vs:List Value) (ns:List Int),
   Ground q loose [] XP w s₀ mg mb J.heap->YP w J.heap->
   J.heap.get? fa=some o->o.data=.func (docDef d.name d.params d.body d.scope pm cd L)->J.heap.CodeRec cd d.name->mg d.name=some (.ref fa)->
   J.heap.get? a=some { cls:=.type "list",data:=.seq vs.toArray }->IntsAre vs ns->ns.length<=n->J.gens=#[]->
   codeAny (model l.prog w) callerA (.call (.ref fa) ⟨[.ref a],[]⟩) (λr s'=>r=.ok (.ret (.bool true))/\OldK J.heap s'.heap/\s'.os=J.os/\AllBare s'.gens) J):
 WalkO q loose XP YP l.row.toRowW d [] (λf vs=>PySem.call f vs):=by
 intro w s₀ J mg mb G Y fa o pm cd L dV kV ho hd af hD ag hg args ai as aa aj ak ah al;obtain rfl:dV=.none:=Dflts.none hD ae;obtain rfl:kV=.none:=Dflts.noKw hD;obtain⟨a,vs,ns,rfl,rfl,ab,U,ac⟩:=HJ hn aa ah;refine enter_call (codeAny_mono (call w s₀ J mg mb fa o pm cd L a vs ns G Y ho (fd_plain hd) af ag ab U ac hg) λr s' hq=>?_);obtain⟨rfl,h2,h3,h4⟩:=hq;exact⟨.inl ⟨.bool true,.bool true,[],rfl,λ_=>rfl,.bool true,HK l _,λ_=>⟨List.Pairwise.nil,λ_ hm=>(nomatch hm)⟩⟩,h2,h3,h4⟩
section
variable {prog:Program}{w:World}{A:Around}{E:Value->Shared->Prop}{s:Shared}{K:Frag}
end
end Bk
namespace L2
open Spec PyProof.Rows
theorem Bl:∀{vs:List Value}{ns:List Int},IntsAre vs ns->Vals (ns.map V.int) vs
 |_,_,.nil=>.nil
 |_,_,.cons n t h=>.cons ⟨t,rfl⟩ (Bl h)
abbrev fw:jG:=λ_ _ _ _ _ _=>False
abbrev E0:XK:=λ_ _ _=>False
theorem jv {X:Cx}:Passes fw X E0:=λ_ _ _ _ _ _ _ h=>h.elim
structure kW (K:W.Frag) (x qual:Str) (st:Stmt) (f:Addr) (fd:FuncData):Prop where
 ex:∃(oc:Value) (od:Option Addr) (kV doc pm:Value) (an:Option Addr) (cdv ct:Value) (osl:Array (Option Value)),
  fd=W.fnOf x qual (i_ st) (iJ st) (fM st) .none kV doc pm an cdv ct/\K.lookup f=some ⟨oc,od,.func fd,osl⟩/\W.codeIn K cdv qual=true
 kp:W.keepIn K (.ref f)=true
variable {P:Program}{w:World}{K:W.Frag}{mg:Str->Option Value}{base:Heap}
def FnBody (P:Program) (w:World) (K:W.Frag) (mg:Str->Option Value) (base:Heap) (N ps:List Str) (qual:Str) (st:Stmt) (f:Addr) (k:Nat) (vs:List V) (H:Hp) (Q:VK) (E:XK):Prop:=vs.length=ps.length/\∀(J:Value) (A:Around) (outer:List Env) (s:Shared),N.Nodup->gP k (A.deeper (envOfC qual (fM st) s.heap.objs.size f J))->(A.deeper (envOfC qual (fM st) s.heap.objs.size f J)).units+1<cLine->∃t,jo (gh fw P w K mg base N qual (fM st) f J A outer s H E).gg (iJ st) t/\t { nx:=λ_ H'=>Q .non H',rt:=Q } (start N vs) H
theorem kW.ok {x qual:Str}{st:Stmt}{f:Addr}{fd:FuncData}{N ps:List Str}{k:Nat}{sp:Sp}(F:kW K x qual st f fd)(S:gi N ps (fM st))
 (J:∀(vs:List V) (H:Hp) (Q:VK) (E:XK),sp vs H Q E->FnBody P w K mg base N ps qual st f k vs H Q E):fm P w K mg base fw (k+1) f fd ps sp:=by
 obtain⟨oc,od,kV,aa,pm,an,L,ct,ab,rfl,lk,U⟩:=F.ex;refine A6 lk U S (λvs H Q E h=>(J vs H Q E h).1) λA outer s H vs Q E hr Y=>?_;obtain⟨t,h,q⟩:=(J vs H Q E Y).2 L A outer s S.nd hr (Q1l (Q2f (by decide:1<=64) _) hr.units);exact⟨t,h.gg,q⟩
theorem kW.binds {x qual:Str}{st:Stmt}{f:Addr}{fd:FuncData}{ps:List Str}(F:kW K x qual st f fd)
 (h:∀(kV J U:Value) (Y:Option Addr) (L ct:Value) (us:List Value),us.length=ps.length->bindArgs (W.fnOf x qual (i_ st) (iJ st) (fM st) .none kV J U Y L ct) ⟨us,[]⟩=pure (ps.zip us)):Binds K fd ps []:=by
 obtain⟨oc,od,kV,J,U,Y,L,ct,aa,rfl,lk,ab⟩:=F.ex;exact .all (h kV J U Y L ct)
theorem qW {x qual:Str}{st:Stmt}{f:Addr}{oc:Value}{od Y:Option Addr}{U:Array (Option Value)}{kV L pm J ct:Value}(l:K.lookup f=some ⟨oc,od,.func (W.fnOf x qual (i_ st) (iJ st) (fM st) .none kV L pm Y J ct),U⟩)
 (c:W.codeIn K J qual=true) (k:W.keepIn K (.ref f)=true):kW K x qual st f (W.fnOf x qual (i_ st) (iJ st) (fM st) .none kV L pm Y J ct):=⟨⟨oc,od,kV,L,pm,Y,J,ct,U,rfl,l,c⟩,k⟩
theorem uk {A:Around}{k:Nat}(J:gP k A):A.units+1<cLine:=Q1l (Q2f (by decide:1<=64) _) J.units
theorem g_ {n:Nat}(h:n<=1000):n<sizeLine:=Q1l h (by decide)
section
variable {X:Cx}
theorem pv (i:Nat){x:Str}{pos:Pos}(L:X.N[i]? =some x:=by rfl)(U:qF X.env.scope x:=by first|exact Or.inl rfl|exact Or.inr (Or.inl rfl)|exact Or.inr (Or.inr rfl))(Y:(x == ("__debug__":Str))=false:=by decide)
 (J:(x == ("__classdict__":Str))=false:=by decide):PE X (.Name x pos) (gF i):=F8 L U Y J
end
theorem gR {A B:Prop}(h:B):if false=true then A else B:=by
 rw[if_neg Bool.false_ne_true];exact h
theorem ig {A B:Prop}(h:A):if true=true then A else B:=by
 rw[if_pos rfl];exact h
theorem gO {c A B:Prop} [Decidable c](h1:c->A)(h2:¬c->B):if c then A else B:=by
 by_cases h:c
 . rw[if_pos h];exact h1 h
 . rw[if_neg h];exact h2 h
theorem nh {c A B:Prop} [Decidable c](hc:c)(h:B):if(!decide c)=true then A else B:=by
 rw[decide_eq_true hc];exact gR h
def Same (H H':Hp):Prop:=∀b o,H b=some o->H' b=some o
theorem Same.refl (H:Hp):Same H H:=λ_ _ h=>h
theorem Same.trans {H H1 H2:Hp}(a:Same H H1)(b:Same H1 H2):Same H H2:=λc o h=>b c o (a c o h)
theorem Same.free {H H':Hp}(e:Same H H'){l:Addr}(h:H' l=Option.none):H l=Option.none:=by
 cases q:H l with
 |none=>rfl
 |some o=>
  rw[e l o q] at h
  cases h
section
variable {X:Cx}
theorem Bm:jF X (.builtin "len") (λxs H Q=>∃a kvs,xs=[V.ref a]/\H a=some (.dK kvs)/\Q (.int kvs.length) H):=by
 intro pins s σ H xs us Q I r h;obtain⟨a,kvs,rfl,J,q⟩:=h;obtain⟨u,rfl,L⟩:=vals1 r
 cases L;exact Hz I (.inl J) λt s' U=>⟨.int kvs.length,H,U,⟨t,rfl⟩,q⟩
end
section
variable {κ:Type} [DecidableEq κ]
theorem HM {kvs:List (κ × V)}{k:κ}{v:V}(h:gH kvs k=some v):k∈kvs.map (·.1):=by
 have q:(kvs.any λkv=>decide (kv.1=k))=true:=by
  rw[ng,h]
  all_goals rfl
 obtain⟨p,hp,e⟩:=List.any_eq_true.mp q;exact List.mem_map.mpr ⟨p,hp,of_decide_eq_true e⟩
end
theorem Bo {g:Str->NameKind->NameKind}{x:Str}:∀names:List (Str × NameKind),
 (names.map λy=>(y.1,g y.1 y.2)).lookup x=(names.lookup x).map (g x)
 |[]=>rfl
 |(n,k)::r=>by
  show List.lookup x ((n,g n k)::_)=_;rw[Q1m,Q1m,Bo r]
  cases J:x == n with
  |true=>rw[eq_of_beq J];rfl
  |false=>rfl
noncomputable def kX (env:Env) (n:Str) (k:NameKind):NameKind:=
 if(k == .free && env.scope.kind == .function && env.kindOf n == some .cell)=true then .cell else k
theorem Bp (scope:Scope)(env:Env)(x:Str):
 (relabel scope env).names.lookup x=(scope.names.lookup x).map (kX env x):=by
 rw[<-Bo (g:=kX env) scope.names];show List.lookup x (scope.names.map _)=_;congr 1;apply Q10;rintro⟨n,k⟩ _;show(if _ then _ else _)=(n,kX env n k);unfold kX;split <;> rfl
theorem HN {env:Env}{x:Str}{k:NameKind}(h:kX env x k=.local):k=.local:=by
 unfold kX at h;split at h
 . cases h
 . exact h
theorem HP {env:Env}{x:Str}{k:NameKind}(h:kX env x k=.cell):k=.free\/k=.cell:=by
 unfold kX at h;split at h
 . rename_i c;left;simp only[Bool.and_eq_true] at c;exact eq_of_beq c.1.1
 . exact .inr h
theorem HQ {env:Env}{x:Str}{k:NameKind}(h:kX env x k=.free):k=.free:=by
 unfold kX at h;split at h
 . cases h
 . exact h
theorem um {env:Env}:∀(names:List (Str × NameKind)) (L:List (Str × Addr)),(∀y∈names,y.2=.free->∃c,env.cells.lookup y.1=some c)->
 (∀x c,L.lookup x=some c->env.cells.lookup x=some c)->
 ∃cl:List (Str × Addr),(forIn names L λy cs=>if(y.2 == NameKind.free)=true then(do let a <-cellOf env y.1;pure (ForInStep.yield ((y.1,a)::cs))) else pure (ForInStep.yield cs))=(pure cl:Sem _)/\
  (∀x c,cl.lookup x=some c->env.cells.lookup x=some c)/\(∀x,((x,NameKind.free)∈names\/(L.lookup x).isSome=true)->cl.lookup x=env.cells.lookup x)
 |[],L,_,U=>⟨L,rfl,U,λx J=>by
    rcases J with J|J
    . cases J
    . obtain⟨c,e⟩:=Option.isSome_iff_exists.mp J;rw[e,U x c e]⟩
 |(n,k)::r,L,Y,U=>by
  by_cases hk:k=.free
  . subst hk;obtain⟨c,e⟩:=Y (n,.free) Q01 rfl;have e:env.cells.lookup n=some c:=e
    have aa:∀x d,((n,c)::L).lookup x=some d->env.cells.lookup x=some d:=λx d h=>by
     rw[Q1m] at h
     cases J:x == n with
     |true=>
      rw[J] at h
      cases h;rw[eq_of_beq J];exact e
     |false=>
      rw[J] at h;exact U x d h
    obtain⟨cl,h1,h2,h3⟩:=um r ((n,c)::L) (λy hy=>Y y (Q04 _ hy)) aa;refine⟨cl,?_,h2,λx J=>h3 x ?_⟩
    . rw[Q2w];have ec:cellOf env n=pure c:=by unfold cellOf;rw[e]
      simp only[beq_self_eq_true,if_true,ec,pure_bind];exact h1
    . rcases J with J|J
      . rcases List.mem_cons.mp J with q|q
        . right
          cases q;rw[Q1m,beq_self_eq_true];rfl
        . exact .inl q
      . right;rw[Q1m]
        cases x == n with
        |true=>rfl
        |false=>exact J
  . obtain⟨cl,h1,h2,h3⟩:=um r L (λy hy=>Y y (Q04 _ hy)) U;refine⟨cl,?_,h2,λx J=>h3 x ?_⟩
    . rw[Q2w];have eb:(k == NameKind.free)=false:=by simpa using hk
      simp only[eb,Bool.false_eq_true,if_false,pure_bind];exact h1
    . rcases J with J|J
      . rcases List.mem_cons.mp J with q|q
        . cases q;exact absurd rfl hk
        . exact .inl q
      . exact .inr J
theorem qX {scope:Scope}{env:Env}(J:∀y∈scope.names,y.2=.free->∃c,env.cells.lookup y.1=some c):
 ∃cl:List (Str × Addr),closureFor scope env=pure cl/\(∀x c,cl.lookup x=some c->env.cells.lookup x=some c)/\(∀x,(x,NameKind.free)∈scope.names->cl.lookup x=env.cells.lookup x):=by
 obtain⟨cl,h1,h2,L⟩:=um scope.names [] J (λx c h=>by cases h);refine⟨cl,?_,h2,λx U=>L x (.inl U)⟩;unfold closureFor
 have e:(forIn scope.names ([]:List (Str × Addr)) λy cs=>do
  let mut cs:=cs
  match y with
  |(name,kind)=>if(kind == NameKind.free)=true then cs:=(name,<-cellOf env name)::cs
  pure (ForInStep.yield cs))=(pure cl:Sem _):=by
  rw[<-h1]
 first
  |exact(by simpa using e)
  |(show(forIn scope.names ([]:List (Str × Addr)) _ >>= λcs=>pure cs)=_;rw[bind_pure];exact e)
structure jH (X:Cx) (own:List Str) (scope:Scope):Prop where
 kind:scope.kind=.function
 cell:∀y∈scope.names,y.2≠ .cell
 names:∀y∈scope.names,y.2=.local->scope.names.lookup y.1=some .local
 free:∀y∈scope.names,y.2=.free->X.env.kindOf y.1=some .cell\/X.env.kindOf y.1=some .free
 nd:(own++X.N).Nodup
 outer:∀x∈X.N,scope.names.lookup x≠some .local
noncomputable def iS (X:Cx) (own:List Str) (scope:Scope) (cl:List (Str × Addr)) (C:Addr) (fp:List Addr) (J:Shared) (L:Hp):Cx:=
 { X with N:=own++X.N,s₀:=J,H₀:=L,env:=compEnvC scope cl C X.env,outer:=X.stack,ex:=fp,fn:=λ_=>false,pn:=[],xe:=λ_ _=>False }
def pH (X:Cx) (J:List Expr) (t:TT):Prop:=
 ∀(pins:List (Addr × Obj)) (s:Shared) (σ:St) (H:Hp) (Q:Bool->Hp->Prop),Inv X pins σ H s->t σ H Q->
  wpAny (model X.prog X.w) X.A (forIn J true λc r=>if r=true then do let ok <-isTrue c X.env (eval c X.env);pure (ForInStep.yield ok) else pure (ForInStep.yield r)) (TP X pins σ Q) X.xe s
def kY:TT:=λ_ H Q=>Q true H
theorem l_ {X:Cx}:pH X [] kY:=λpins s σ H Q I h=>wpAny_tests_nil ⟨H,I,h⟩
theorem pI {X:Cx}{c:Expr}{t:TT}(h:PT X c t):pH X [c] t:=λpins s σ H Q I q=>wpAny_tests_one (h pins s σ H Q I q)
def Bq (k:Nat) (wi:TI) (g:TG) (tt:TT) (te:TE):TE:=λσ H Q=>wi σ H λJ H1=>
 ∃W:Nat->Nat->List V->Hp->Prop,(∃m,W 0 m [] H1)/\∀i m ys H,W i m ys H->
  (J.stop i H/\∀p,H p=none->Q (.ref p) (upd H p (.lst ys)))\/
  (J.go i H/\ys.length<sizeLine/\∀x H',J.kL i H x H'->g x (List.replicate k none++σ) H' λL H2=>L.drop k=σ/\
    tt L H2 λb Y=>if b=true then te L Y λy H4=>∃U,U<m/\W (i+1) U (ys++[y]) H4 else ∃U,U<m/\W (i+1) U ys Y)
section
variable {prog:Program}{w:World}{A:Around}{R:Result->Shared->Prop}{s:Shared}
theorem HS {ag J iter:Expr}{ah:List Expr}{scope:Scope}{pos:Pos}{it af:Value}{env:Env}(I:Nat->Shared->Prop)
 (turn:∀n s,I n s->wpAny (model prog w) A (pyNext it) (λr L=>
   match r with
   |none=>R (.ok .next) L
   |some v=>wpAny (model prog w) A (letOwnedTupleGo J it v) (λ_ Y=>wpAny (model prog w) A (assign J env v) (λ_ aa=>
     wpAny (model prog w) A (forIn ah true λc r=>if r=true then do let ok <-isTrue c env (eval c env);pure (ForInStep.yield ok) else pure (ForInStep.yield r)) (λok U=>
      if ok=true then wpAny (model prog w) A (eval ag env) (λx ab=>
       wpAny (model prog w) A (call (.builtin "list.append") [af,x]) (λ_ ac=>∃m,m<n/\I m ac) (λ_ _=>False) ab) (λ_ _=>False) U
      else ∃m,m<n/\I m U) (λ_ _=>False) aa) (λ_ _=>False) Y) (λ_ _=>False) L) (λ_ _=>False) s)
 (n:Nat) (h:I n s):
 codeAny (model prog w) A (.compLoop (.ListComp ag [⟨J,iter,ah,0⟩] scope pos) 0 it af env) R s:=by
 refine codeAny_loop rfl I (λn s hI=>?_) n h;show wpAny _ A ((compTurn _ 0 it af env).onRaise _) _ _ s;refine wpAny_noted ?_;rw[compTurn_list]
 have no:∀{α:Type} {t:Sem α} {Q Q':α->Shared->Prop} {E:Value->Shared->Prop} {s:Shared},wpAny (model prog w) A t Q (λ_ _=>False) s->(∀a s,Q a s->Q' a s)->wpAny (model prog w) A t Q' E s:=
  λh k=>Q0n h k λ_ _ z=>z.elim
 refine Q00 (wpAny_standAt (Q00 (no (turn n s hI) λr L h₁=>?_)))
 cases r with
 |none=>exact Q0d h₁
 |some v=>
  refine Q00 (no h₁ λ_ Y ai=>?_);refine Q00 (no ai λ_ aa aj=>Q00 (no aj λok U ae=>?_))
  cases ok with
  |false=>exact Q0d ⟨rfl,ae⟩
  |true=>
   refine Q00 (Q00 (no ae λx ab ak=>?_));exact Q00 (no ak λ_ ac al=>Q0d (Q0d ⟨rfl,al⟩))
end
noncomputable abbrev jw (us:List Value) (n:Nat):Obj:={ cls:=.type "list",data:=.seq us.toArray n }
section
variable {X:Cx}{own:List Str}{scope:Scope}
theorem jH.cells (S:jH X own scope){pins:List (Addr × Obj)}{σ:St}{H:Hp}{s:Shared}(I:Inv X pins σ H s):
 ∀y∈scope.names,y.2=.free->∃c,X.env.cells.lookup y.1=some c:=λy J L=>I.ok.has y.1 (S.free y J L)
theorem jH.freeOf (S:jH X own scope){x:Str}(h:(relabel scope X.env).names.lookup x=some .cell\/(relabel scope X.env).names.lookup x=some .free):(x,NameKind.free)∈scope.names:=by
 rw[Bp] at h
 cases e:scope.names.lookup x with
 |none=>rw[e] at h;rcases h with h|h <;> cases h
 |some k=>
  rw[e] at h;have J:(x,k)∈scope.names:=PySem.mem_of_lookup e
  have hk:k=.free:=by
   rcases h with h|h
   . rcases HP (Option.some.inj h) with q|q
     . exact q
     . exact absurd q (S.cell _ J)
   . exact HQ (Option.some.inj h)
  rw[<-hk];exact J
theorem jH.HU (S:jH X own scope){x:Str}(J:x∈X.N):(relabel scope X.env).names.lookup x≠some .local:=λh=>by
 rw[Bp] at h
 cases e:scope.names.lookup x with
 |none=>rw[e] at h;cases h
 |some k=>
  rw[e] at h;have:=HN (Option.some.inj h);subst this;exact S.outer x J e
theorem Br {k:Nat}{σ:St}{i:Nat}{v:V}(h:(List.replicate k none++σ)[i]? =some (some v)):k<=i/\σ[i - k]? =some (some v):=by
 by_cases hi:i<k
 . rw[Q2r (by simpa using hi),Q2q] at h;split at h <;> cases h
 . refine⟨Q1e hi,?_⟩;rw[Q2a (by simpa using hi)] at h;simpa using h
theorem Inv.block {pins:List (Addr × Obj)}{σ:St}{H:Hp}{s:Shared}{fp:List Addr}{cl:List (Str × Addr)}{C D:Addr}{h₁:Heap}{m:Str->Option Value}{t':Nat}{us:List Value}{n:Nat}(I:Inv X pins σ H s)(S:jH X own scope)
 (hf:∀b∈fp,iX X pins H b) (af:∀b∈fp,b<s.heap.objs.size)
 (J:∀x c,cl.lookup x=some c->X.env.cells.lookup x=some c) (Y:∀x,(x,NameKind.free)∈scope.names->cl.lookup x=X.env.cells.lookup x)
 (hC:s.heap.objs.size<=C) (hD:s.heap.objs.size<=D) (ag:D≠C) (hn:h₁.Ns C m) (U:∀b o,s.heap.get? b=some o->h₁.get? b=some o) (ae:h₁.get? D=some (jw us n)):
 Inv (iS X own scope cl C fp s H) [(D,jw us n)] (List.replicate own.length none++σ) H { s with heap:=h₁,toks:=t' }:=by
 have ok:=I.ok
 have nX:∀b:Addr,s.heap.objs.size<=b->b ∉ frs X.stack:=λb L z=>by
  rcases List.mem_cons.mp (I.o8 b z) with e|e
  . exact absurd I.lt (by rw[<-e];exact Nat.not_lt.mpr L)
  . exact I.nX L e
 have fresh:∀b:Addr,s.heap.objs.size<=b->H b=none:=λb L=>I.hok.fresh L
 have ak:∀x c,cl.lookup x=some c->c<s.heap.objs.size:=λx c e=>by
  obtain⟨v,q⟩:=I.cell x c (J x c e);exact q.lt
 refine⟨⟨ok.mod,S.kind,ok.glob,ok.blt,hC,λx y c e1 e2=>ok.inj x y c (J x c e1) (J y c e2),λx hx=>?_,λx c hx _=>(nomatch hx),ok.hd,ok.frames,.inl rfl,λb L=>?_,I.bs,Q0c ok.jU I.sz,λb o e L=>?_,λb L z=>?_,I.stack,I.qG⟩,
  rfl,I.bare,Un.kept U,⟨m,hn,λi x v e1 e2 e3=>?_⟩,λx c e=>?_,fresh C hC,λx c e=>?_,λp hp=>?_,I.hok.kept U,?_⟩
 . have hm:=S.freeOf (x:=x) hx;obtain⟨c,e⟩:=ok.has x (S.free _ hm rfl);exact⟨c,by rw[show(iS X own scope cl C fp s H).env.cells=cl from rfl,Y x hm];exact e⟩
 . refine⟨Q08 (Q0f (af b L) hC),λx c e z=>?_⟩;exact(hf b L).2.2.2.2.1 x c (J x c e) z
 . rcases(hf b L).2.2.2.1 with z|z
   . exact ok.lW b o e z
   . exact absurd (Q0f (Q02 e) (Q0c ok.jU z)) (Q0r _)
 . rcases List.mem_cons.mp (I.o8 b z) with q|q
   . exact(hf b L).2.1 q
   . exact(hf b L).2.2.1 q
 . obtain⟨hk,ah⟩:=Br e2
   have aa:X.N[i - own.length]? =some x:=by
    have e1:(own++X.N)[i]? =some x:=e1;rw[Q2a hk] at e1;exact e1
   have ai:x∈X.N:=Q0g aa
   have ab:(relabel scope X.env).names.lookup x=some .cell\/(relabel scope X.env).names.lookup x=some .free:=by
    rcases e3 with q|q
    . exact absurd q (S.HU ai)
    . exact q
   have hm:=S.freeOf ab;have ac:=S.free _ hm rfl;obtain⟨mX,al,aj⟩:=I.loc;obtain⟨u,r,lk⟩:=aj _ x v aa ah (.inr ac);refine⟨u,r,.inr ⟨ab,?_⟩⟩;rcases lk with⟨q,_⟩|⟨_,c,ec,hc⟩
   . rcases ac with z|z
     . rw[z] at q;cases q
     . rw[z] at q;cases q
   . obtain⟨o,ho,hd⟩:=hc;exact⟨c,(Y x hm).trans ec,o,U _ _ ho,hd⟩
 . obtain⟨v,o,ho,hd⟩:=I.cell x c (J x c e);exact⟨v,o,U _ _ ho,hd⟩
 . exact I.ja x c (J x c e)
 . have e:p=(D,jw us n):=by
    have hp:p∈([]++[(D,jw us n)]:List (Addr × Obj)):=hp;simpa using hp
   subst e
   exact⟨ae,fresh D hD,ag,nX D hD,λv z=>by
    have z:Data.seq us.toArray n=Data.cell v:=z
    cases z⟩
 . show _=(own++X.N).length;rw[Q0e,Q0e,Q2b,I.len]
theorem Inv.unblock {pins:List (Addr × Obj)}{σ aa:St}{H H3:Hp}{s s3:Shared}{fp:List Addr}{cl:List (Str × Addr)}{C D:Addr}{h':Heap}{us:List Value}{n:Nat}{ys:List V}{pl:List (Addr × Obj)}(I:Inv X pins σ H s)
 (hf:∀b∈fp,iX X pins H b) (J:Inv (iS X own scope cl C fp s H) pl aa H3 s3) (ab:(D,jw us n)∈pl) (hC:s.heap.objs.size<=C) (hD:s.heap.objs.size<=D) (ac:D≠C)
 (r:Vals ys us) (hz:ys.length<=sizeLine) (hs:Heap.SameBut C s3.heap h'):Inv X pins σ (upd H3 D (.lst ys)) { s3 with heap:=h' }/\H3 D=none:=by
 obtain⟨eD,Y,_,_,_⟩:=J.pin (D,jw us n) (Q07 _ ab);have nC:H3 C=none:=J.free;have kC:∀b o,b≠C->s3.heap.get? b=some o->h'.get? b=some o:=λb o L e=>(hs.2 b L).trans e;refine⟨I.call' (ch:=fp) J.os ⟨λb o e nb L U=>?_,λb o e nb L U=>?_,λb o e nb U=>?_,λb o e U=>?_,λb xs e=>?_,λb o u e=>?_,λb ps e=>?_⟩ (λb o e=>?_) J.bare (λb L=>?_),Y⟩
 . exact kC b o (Q08 (Q0f (Q02 e) hC)) (J.base.keep b o e nb L U)
 . obtain⟨sl,e1⟩:=J.base.slot b o e nb L U;exact⟨sl,kC b _ (Q08 (Q0f (Q02 e) hC)) e1⟩
 . rw[fk (Q08 (Q0f (Q02 e) hD))];exact J.base.free b o e nb U
 . obtain⟨o',e1⟩:=J.base.there b o e U;exact⟨o',kC b _ (Q08 (Q0f (Q02 e) hC)) e1⟩
 . have q:=J.base.tups b xs e;rw[fk (fJ q Y)];exact q
 . have q:=J.base.j4 b o u e;rw[fk (fJ q Y)];exact q
 . obtain⟨mo,q⟩:=J.base.j6 b ps e;exact⟨mo,by rw[fk (fJ q Y)];exact q⟩
 . by_cases L:b=D
   . subst L;rw[fA] at e;cases e;exact⟨hz,us,n,r,kC b _ ac eD⟩
   . rw[fk L] at e;refine(J.hok b o e).stay (λc v hc q=>kC c v ?_ q) (λc q=>by rw[fk (fJ q Y)];exact q) λc xs q=>by rw[fk (fJ q Y)];exact q
     rcases hc with z|z
     . rw[z];exact fJ e nC
     . exact fJ z nC
 . obtain⟨_,f1,_,f3,f4,f5⟩:=hf b L;exact⟨f3,f1,f4,f5⟩
theorem Bt {tg iter aq:Expr}{ar:List Expr}{pos:Pos}{g:TG}{tt:TT}{te:TE}{pins:List (Addr × Obj)}{σ:St}{H2:Hp}{L:Shared}{it:Addr}{fp:List Addr}{tn:Nat->Heap->Prop}{J:It}{cl:List (Str × Addr)}{Fin:List V->Hp->Prop}{W:Nat->Nat->List V->Hp->Prop}{m0:Nat}
 {RR:Value->Addr->Result->Shared->Prop} (hc:X.calm=true) (S:jH X own scope) (ah:∀x c,cl.lookup x=some c->X.env.cells.lookup x=some c) (aG:∀x,(x,NameKind.free)∈scope.names->cl.lookup x=X.env.cells.lookup x)
 (I2:Inv X pins σ H2 L) (T:Turn X.prog X.w X.K tg J fp it tn) (ax:tn 0 L.heap) (f2:∀b∈fp,iX X pins H2 b) (w0:W 0 m0 [] H2)
 (turn:∀i m ys H,W i m ys H->(J.stop i H/\Fin ys H)\/
   (J.go i H/\ys.length<sizeLine/\∀x H',J.kL i H x H'->g x (List.replicate own.length none++σ) H' λau H2=>au.drop own.length=σ/\
     tt au H2 λb H3=>if b=true then te au H3 λy H4=>∃m',m'<m/\W (i+1) m' (ys++[y]) H4 else ∃m',m'<m/\W (i+1) m' ys H3))
 (hg:∀cl C fp ac ae,PG (iS X own scope cl C fp ac ae) tg g) (ht:∀cl C fp ac ae,pH (iS X own scope cl C fp ac ae) ar tt) (he:∀cl C fp ac ae,PE (iS X own scope cl C fp ac ae) aq te)
 (aK:∀(C D:Addr) (s5:Shared) (H5:Hp) (ys:List V) (us:List Value) (k:Nat),L.heap.objs.size<=C->L.heap.objs.size<=D->D≠C->Inv (iS X own scope cl C fp L H2) [(D,jw us k)] (List.replicate own.length none++σ) H5 s5->Vals ys us->ys.length<=sizeLine->Fin ys H5->RR (.ref D) C (.ok .next) s5):
 wpAny (model X.prog X.w) X.A (newList []) (λay af=>wpAny (model X.prog X.w) X.A (newFunctionEnv scope X.env.globals cl [] X.env.qual none .none (some X.env)) (λak aH=>
  codeAny (model X.prog X.w) X.A (.compStart (.ListComp aq [⟨tg,iter,ar,0⟩] scope pos) 0 (.ref it) ay { ak with scope:=relabel scope X.env }) (RR ay ak.locals) aH) X.xe af) X.xe L:=by
 have aj:∀b∈fp,b<L.heap.objs.size:=λb U=>by
  obtain⟨o,e,_⟩:=T.obj _ _ ax b U;exact Q02 e
 refine wpAny_newObj_type (wpAny_newFunctionEnv S.cell (by intro y hy;simp at hy) (λh₁ aa Y=>?_) S.kind);dsimp only at aa Y ⊢;generalize hG:L.heap.push { cls:=.type "list",dict:=none,data:=.seq ([]:List Value).toArray }=G at aa Y ⊢;have az:G.objs.size=L.heap.objs.size+1:=by rw[<-hG,Q1b]
 have hC:L.heap.objs.size<=G.objs.size:=by rw[az];exact Q14 _
 have av:L.heap.objs.size≠G.objs.size:=by rw[az];exact Q08 (Q1 _)
 have aA:∀b o,L.heap.get? b=some o->h₁.get? b=some o:=λb o e=>
  Y.extBut b o (Q08 (Q0f (Q02 e) hC)) (Q09 _ (hG ▸ Q09 _ e))
 have aI:h₁.get? L.heap.objs.size=some (jw [] 0):=Y.extBut _ _ av (Q09 _ (hG ▸ Q0j _ rfl));have I3:=I2.block (cl:=cl) (t':=L.toks+([]:List (Str × Value)).length) S f2 aj ah aG hC (Q0 _) av aa aA aI;have aB:tn 0 h₁:=T.keep _ _ _ ax λb _ o e=>aA b o e;have aL:∀b∈fp,H2 b=none:=λb U=>(f2 b U).1
 have ai:∀{H':Hp} {us:List Value} {n:Nat},(∀b∈fp,H' b=none)->∀b∈fp,iX (iS X own scope cl G.objs.size fp L H2) [(L.heap.objs.size,jw us n)] H' b:=λ{H' us n} hn b U=>by
  refine⟨hn b U,Q08 (Q0f (aj b U) hC),λz=>?_,.inl U,λx c e=>(f2 b U).2.2.2.2.1 x c (ah x c e),λp hp=>?_⟩
  . rcases List.mem_cons.mp (I2.o8 b z) with q|q
    . exact(f2 b U).2.1 q
    . exact(f2 b U).2.2.1 q
  . have hp:p∈([]++[(L.heap.objs.size,jw us n)]:List (Addr × Obj)):=hp;have e:p=(L.heap.objs.size,jw us n):=by simpa using hp
    subst e;exact Q0t (aj b U)
 have al:∀af:Shared,af={ L with heap:=h₁,toks:=L.toks+([]:List (Str × Value)).length }->
  codeAny (model X.prog X.w) X.A (.compLoop (.ListComp aq [⟨tg,iter,ar,0⟩] scope pos) 0 (.ref it) (.ref L.heap.objs.size) (compEnvC scope cl G.objs.size X.env))
   (RR (.ref L.heap.objs.size) G.objs.size) af:=by
  rintro af rfl
  refine HS (λn s'=>∃i ys us k H',Inv (iS X own scope cl G.objs.size fp L H2) [(L.heap.objs.size,jw us k)] (List.replicate own.length none++σ) H' s'/\Vals ys us/\ys.length<=sizeLine/\tn i s'.heap/\(∀b∈fp,H' b=none)/\W i n ys H')
   ?_ m0 ⟨0,[],[],0,H2,I3,.nil,Q0a _,aB,aL,w0⟩
  intro n s4 zq;obtain⟨i,ys,us,k,H4,I4,r4,z4,aC,aD,w4⟩:=zq;rcases turn i n ys H4 w4 with⟨stop,qn⟩|⟨go,aM,step⟩
  . refine fQ (T.done (iS X own scope cl G.objs.size fp L H2) rfl rfl rfl hc i _ s4 _ H4 (λ_ _=>False) I4 (ai aD) aC stop) λr s5 ⟨hr,I5⟩=>?_;subst hr;exact aK G.objs.size L.heap.objs.size s5 H4 ys us k hC (Q0 _) av I5 r4 z4 qn
  . refine fQ (T.item (iS X own scope cl G.objs.size fp L H2) rfl rfl rfl hc i _ s4 _ H4 (λ_ _=>False) I4 (ai aD) aC go) λr s5 ⟨u,hr,h5⟩=>?_;subst hr;refine fQ h5 λ_ s6 zq=>?_;obtain⟨x,H6,I6,r6,y6,ag,aN⟩:=zq;have aO:=I6.pinned (ai aN) (T.obj _ _ ag);refine fQ (hg cl G.objs.size fp L H2 _ s6 _ H6 x u _ aO r6 (step x H6 y6)) λ_ s7 zq=>?_;obtain⟨ab,H7,I7,d7,q7⟩:=zq;refine fQ (ht cl G.objs.size fp L H2 _ s7 ab H7 _ I7 q7) λb s8 ⟨H8,I8,q8⟩=>?_;have am:(List.replicate own.length none++σ).length=ab.length:=by rw[I7.len,<-I6.len]
    have an:∀(j:Nat) v,(List.replicate own.length none++σ)[j]? =some (some v)->ab[j]? =some (some v):=λj v e=>by
     obtain⟨hk,e'⟩:=Br e;rw[<-d7,List.getElem?_drop] at e';rw[<-e'];congr 1;omega
    cases b with
    |false=>
     have q8:∃m',m'<n/\W (i+1) m' ys H8:=q8;obtain⟨m',hm,w8⟩:=q8;refine⟨m',hm,i+1,ys,us,k,H8,I8.ly.weak am an,r4,z4,T.keep _ _ _ ag λb U o e=>?_,λb U=>?_,w8⟩
     . exact(I8.pin (b,o) (Q07 _ (Q07 _ (o_ U e)))).1
     . obtain⟨o,e,d⟩:=T.obj _ _ ag b U;exact(I8.pin (b,o) (Q07 _ (Q07 _ (o_ U e)))).2.1
    |true=>
     have q8:te ab H8 λy H9=>∃m',m'<n/\W (i+1) m' (ys++[y]) H9:=q8;show wpAny _ _ _ _ _ _;refine fQ (he cl G.objs.size fp L H2 _ s8 ab H8 _ I8 q8) λyv s9 zq=>?_;obtain⟨y,H9,I9,r9,m',hm,w9⟩:=zq;obtain⟨eD,nD,aE,aP,_⟩:=I9.pin (L.heap.objs.size,jw us k) (Q07 _ (Q0m _ Q01));have hl:=r4.length;refine append_at (hsz:=by rw[Q06,<-hl];exact z4) eD λaw ao aJ=>?_
     have ap:∀b∈fp,∀o,s6.heap.get? b=some o->s9.heap.get? b=some o/\H9 b=none:=λb U o e=>by
      have q:=I9.pin (b,o) (Q07 _ (Q07 _ (o_ U e)));exact⟨q.1,q.2.1⟩
     have aQ:∀b∈fp,b≠L.heap.objs.size:=λb U=>Q08 (aj b U);have aT:Inv (iS X own scope cl G.objs.size fp L H2) [] ab H9 s9:=I9.mO λp hp=>(nomatch hp)
     have aU:Inv (iS X own scope cl G.objs.size fp L H2) [] ab H9 { s9 with heap:=aw }:=
      aT.turned (t':=s9.toks) (λb o U e=>ao.extBut b o U e) nD aE (.inr (Q0 _)) (λx c e z=>by
        obtain⟨v,q⟩:=I2.cell x c (ah x c e);exact absurd q.lt (by rw[z];exact Q0r _)) λp hp=>(nomatch hp)
     have aV:Inv (iS X own scope cl G.objs.size fp L H2) [(L.heap.objs.size,jw (us++[yv]) (k+1))] ab H9 { s9 with heap:=aw }:=aU.mO λp hp=>by
      have e:p=(L.heap.objs.size,jw (us++[yv]) (k+1)):=by simpa using hp
      subst e
      refine⟨?_,nD,aE,aP,λv z=>by
       have z:Data.seq (us++[yv]).toArray (k+1)=Data.cell v:=z
       cases z⟩
      show aw.get? _=some { cls:=.type "list",data:=.seq (us++[yv]).toArray (k+1) };rw[<-List.push_toArray];exact aJ
     refine⟨m',hm,i+1,ys++[y],us++[yv],k+1,H9,aV.weak am an,r4.append (.cons r9 .nil),by rw[Q0e,Q1k];exact aM,T.keep _ _ _ ag λb U o e=>ao.extBut b o (aQ b U) (ap b U o e).1,λb U=>?_,w9⟩;obtain⟨o,e,d⟩:=T.obj _ _ ag b U;exact(ap b U o e).2
 exact codeAny_compStart_list (al _ rfl) (T.self _ 0 _ _ _ aB (al _ rfl))
theorem ma {tg iter aa:Expr}{ab:List Expr}{pos:Pos}{wi:TI}{g:TG}{tt:TT}{te:TE}(hc:X.calm=true)(S:jH X own scope)(hi:PI X tg iter wi)
 (hg:∀cl C fp L U,PG (iS X own scope cl C fp L U) tg g) (ht:∀cl C fp L U,pH (iS X own scope cl C fp L U) ab tt)
 (he:∀cl C fp L U,PE (iS X own scope cl C fp L U) aa te) (hs:∀x,foldedSetIterable iter X.env x=pure x:=by intro _;rfl):
 PE X (.ListComp aa [⟨tg,iter,ab,0⟩] scope pos) (Bq own.length wi g tt te):=by
 intro pins s σ H Q I h;obtain⟨cl,Y,ac,ae⟩:=qX (S.cells I);rw[eval_ListComp];refine wpAny_comprehension_free (use:=none) rfl hs Y S.kind S.names ?_;refine fQ (hi pins s σ H _ I h) λv s1 h1=>fQ h1 λak s2 h2=>?_;obtain⟨it,fp,tn,J,H2,af,I2,T,ag,f2,W,⟨m0,w0⟩,turn⟩:=h2;subst af;refine Bt (RR:=λah C=>compPost (model X.prog X.w) X.A X.xe none (EP X pins σ Q) ah C) hc S ac ae I2 T ag f2 w0 turn hg ht he ?_;intro C D s5 H5 ys us k hC hD ai I5 r5 z5 fin;obtain⟨m5,n5,_⟩:=id I5.loc;refine⟨m5,n5,λh' aj=>?_⟩;obtain⟨I6,nD⟩:=I2.unblock f2 I5 Q01 hC hD ai r5 z5 aj;exact⟨.ref D,_,I6,rfl,fin _ nD⟩
theorem pJ {i:Nat}{y:Str}{py Y:Pos}{tg iter aa:Expr}{ab:List Expr}{pos:Pos}{wi:TI}{g:TG}{tt:TT}{te:TE}(hN:X.N.Nodup)(hy:X.N[i]? =some y)(hL:Loc X.env.scope y)(hc:X.calm=true)(S:jH X own scope)(hi:PI X tg iter wi)
 (hg:∀cl C fp L U,PG (iS X own scope cl C fp L U) tg g) (ht:∀cl C fp L U,pH (iS X own scope cl C fp L U) ab tt)
 (he:∀cl C fp L U,PE (iS X own scope cl C fp L U) aa te) (hf:X.fn y=true\/X.env.scope.names.lookup y=some .local:=by first|exact .inl rfl|exact .inr rfl|assumption)
 (ak:swapsWith (.ListComp aa [⟨tg,iter,ab,0⟩] scope pos) (some (.Name y py)) Y.line X.env=pure true:=by rfl) (hs:∀x,foldedSetIterable iter X.env x=pure x:=by intro _;rfl):
 PS X (.Assign [.Name y py] (.ListComp aa [⟨tg,iter,ab,0⟩] scope pos) Y) (o9 (Bq own.length wi g tt te) (iB i)):=by
 intro pins s σ H E I h;obtain⟨cl,ac,ah,ai⟩:=qX (S.cells I);rw[exec_Assign_Name_used _ _ _ _ ak];refine Q00 (wpAny_standAt (Q00 ?_));show wpAny _ _ (do let _ <-comprehension _ scope X.env _ (newList []) false (eval iter X.env) (some (assign (.Name y py) X.env))) _ _ s
 refine Q00 (fQ (wpAny_comprehension_free (use:=some (assign (.Name y py) X.env)) (Q:=λ_ s'=>SP X pins E .next s') rfl hs ac S.kind S.names
  (fQ (hi pins s σ H _ I h) λv s1 h1=>fQ h1 λaq s2 h2=>?_)) λ_ s' hq=>Q0d (Q0d hq))
 obtain⟨it,fp,tn,J,H2,al,I2,T,am,f2,W,⟨m0,w0⟩,turn⟩:=h2;subst al;refine Bt (RR:=λan C=>compPost (model X.prog X.w) X.A X.xe (some (assign (.Name y py) X.env)) (λ_ s'=>SP X pins E .next s') an C) hc S ah ai I2 T am f2 w0 turn hg ht he ?_;intro C D s5 H5 ys us k hC hD af I5 r5 z5 fin;obtain⟨m5,n5,_⟩:=id I5.loc;obtain⟨I6,nD⟩:=I2.unblock f2 I5 Q01 hC hD af r5 z5 (Heap.SameBut.refl C s5.heap);obtain⟨oC,es,ep,eC,dC,rC⟩:=id n5;have nC:upd H5 D (.lst ys) C=none:=by rw[fk (Ne.symm af)];exact I5.free
 have ag:C≠X.env.locals:=Q0t (Q0f I2.lt hC)
 have ae:∀x c,X.env.cells.lookup x=some c->c≠C:=λx c e z=>by
  obtain⟨v,q⟩:=I2.cell x c e;exact absurd q.lt (by rw[z];exact Nat.not_lt.mpr hC)
 have aj:∀p∈X.pn++pins,p.1≠C:=λp hp z=>by
  have:=Q02 (I2.pin p hp).1;rw[z] at this;exact absurd this (Nat.not_lt.mpr hC)
 have I7:Inv X (pins++[(C,oC)]) σ (upd H5 D (.lst ys)) s5:=by
  refine I6.mO λp hp=>?_;rcases List.mem_append.mp hp with z|z
  . exact I6.pin p (Q07 _ z)
  . have e:p=(C,oC):=by simpa using z
    subst e
    exact⟨eC,nC,ag,I2.nX hC,λv z=>by
     have z:oC.data=Data.cell v:=z;rw[dC] at z;cases z⟩
 show wpAny _ _ (assign (.Name y py) X.env (.ref D)) _ _ s5;refine wpAny_assign_Name (qH (v:=.ref D) I7 hN hy hL rfl (λs8 I8=>?_) hf);obtain⟨ao,ar,_⟩:=I8.pin (C,oC) (Q07 _ (Q07 _ Q01));refine⟨_,⟨oC,es,ep,ao,dC,rC⟩,λh' ap=>?_⟩
 have I9:Inv X pins (σ.set i (some (.ref D))) (upd H5 D (.lst ys)) { s8 with heap:=h' }:=
  I8.ly.turned (t':=s8.toks) (λb o hb e=>(ap.2 b hb).trans e) nC ag (.inr (Q0c I2.sz hC)) ae aj
 exact⟨_,_,I9,fin _ nD⟩
end
section
variable {X:Cx}
theorem ni {e:Expr}:PE X e (λ_ _ _=>False):=λ_ _ _ _ _ _ h=>h.elim
theorem HV {e:Expr}:PT X e (λ_ _ _=>False):=λ_ _ _ _ _ _ h=>h.elim
theorem jx:jF X (.builtin "isinstance") (λxs H Q=>∃x T t b,xs=[x,.ty T]/\jV X.K H x t/\W.kitOne X.K t (.type T)=some b/\Q (.bl b) H):=by
 intro pins s σ H xs us Q I r h;obtain⟨x,T,t,b,rfl,ty,e,q⟩:=h;obtain⟨u,c,rfl,J,L⟩:=vals2 r
 cases L;exact GU I J ty e λtk=>⟨.bl b,H,I.tok tk,rfl,q⟩
theorem uo:jF X (.builtin "len") (λxs H Q=>(∃a kvs,xs=[V.ref a]/\H a=some (.dK kvs)/\Q (.int kvs.length) H)\/∃p ys,xs=[.ref p]/\(fv X.K H p ys\/d_ X.K H p ys)/\Q (.int ys.length) H):=by
 intro pins s σ H xs us Q I r h;rcases h with h|h
 . exact Bm pins s σ H xs us Q I r h
 . exact jj pins s σ H xs us Q I r h
theorem Bu:∀{ss:List Str}{vs:List Value},Vals (ss.map V.str) vs->StrsAre vs ss
 |[],_,r=>by cases r;exact .nil
 |y::r,_,h=>by
  cases h with
  |cons a b=>
   obtain⟨t,e⟩:=a;subst e;exact .cons y t (Bu b)
theorem Bv:∀{vs:List Value}{ss:List Str},StrsAre vs ss->Vals (ss.map V.str) vs
 |_,_,.nil=>.nil
 |_,_,.cons y t h=>.cons ⟨t,rfl⟩ (Bv h)
theorem HW:jF X (.builtin "sorted") (λxs H Q=>∃a ss,xs=[.ref a]/\fv X.K H a (ss.map V.str)/\ss.length<64/\
 ∀p J,H p=none->J.Perm ss->sortedS J=true->Q (.ref p) (upd H p (.lst (J.map V.str)))):=by
 intro pins s σ H xs us Q I r h;obtain⟨a,ss,rfl,Y,aa,q⟩:=h;obtain⟨u,rfl,ru⟩:=vals1 r
 cases ru;obtain⟨L,U,pl,hz⟩:=I.list Y;have hl:L.length=ss.length:=by rw[<-U.length,Q05]
 refine sorted_strs pl.isList (Bu U) (by omega) λout J h1 h2 h3=>?_;obtain⟨e,he⟩:=sortedAll_at s.heap L out;refine⟨.ref (s.heap.objs.size+1),upd H (s.heap.objs.size+1) (.lst (J.map V.str)),I.laid (t':=s.toks) (λ_ _=>sortedAll_old) (Q14 _) ?_,rfl,q _ J (I.hok.fresh (Q14 _)) h2 h3⟩;refine⟨?_,out.toList,e,Bv h1,he⟩;rw[Q05,h2.length_eq];have:ss.length<=1000:=by omega
 exact Q0s (g_ this)
noncomputable def nj (J:List Value) (i:Nat):Bool:=match J[i]? with
 |some (.bool b)=>b
 |_=>false
theorem HX:∀{bs:List Bool}{J:List Value},Vals (bs.map V.bl) J->(List.range J.length).all (nj J)=bs.all id:=by
 intro bs J r
 have key:∀i,i<bs.length->nj J i=bs.getD i false:=λi hi=>by
  have e:(bs.map V.bl)[i]? =some (.bl bs[i]):=by rw[Q0h,Q03 hi];rfl
  obtain⟨u,U,Y⟩:=r.get e
  cases Y;unfold nj;rw[U,Q0b,Q03 hi];rfl
 have hl:J.length=bs.length:=by rw[<-r.length,Q05]
 rw[hl,Bool.eq_iff_iff,Q0x,Q0x];constructor
 . intro h b hb;obtain⟨i,hi,e⟩:=Q0v hb;have q:=h i (List.mem_range.mpr hi);rw[key i hi,Q0b,Q03 hi,Q2x,e] at q;exact q
 . intro h i hi;have L:=List.mem_range.mp hi;rw[key i L,Q0b,Q03 L,Q2x];exact h _ (Q11 L)
theorem qY (hc:X.calm=true):jF X (.builtin "all") (λxs H Q=>∃(a:Addr) (bs:List Bool),xs=[.ref a]/\fv X.K H a (bs.map V.bl)/\Q (.bl (bs.all id)) H):=by
 intro pins s σ H xs us Q I r h;obtain⟨a,bs,rfl,hq,q⟩:=h;obtain⟨u,rfl,ru⟩:=vals1 r
 cases ru;obtain⟨J,Y,pl,hz⟩:=I.list hq;have aa:a<s.heap.objs.size:=by obtain⟨_,e,_⟩:=pl.isList;exact Q02 e
 refine call_all_walk (wpAny_pyIter_list pl.isList ?_);refine⟨s.heap.objs.size,_,_,_,_,_,nj J,rfl,Walks.list (show X.A.in1.handled=none from I.ok.hd hc) s.heap.objs.size a (Q08 aa) J.toArray,⟨⟨_,Q0j _ rfl,rfl,rfl⟩,pl.isList.push _⟩,λi v s' Q' E' hP hQ=>?_,λh' tk hk=>?_⟩
 . have e:J[i]? =some v:=by simpa using hP
   have hi:i<J.length:=(List.getElem?_eq_some_iff.mp e).1;have hb:i<(bs.map V.bl).length:=by rw[Y.length];exact hi
   obtain⟨w',ew,L⟩:=Y.get (Q03 hb);rw[e] at ew;cases ew;rw[Q2g] at L
   cases L;refine wpAny_truthy_bool ?_;have U:nj J i=bs[i]'(by simpa using hb):=by unfold nj;rw[e]
   rw[U] at hQ;exact hQ
 . have e:(List.range J.toArray.size).all (nj J)=bs.all id:=by rw[Q06];exact HX Y
   rw[e];have ns:H s.heap.objs.size=none:=I.hok.fresh (Q0 _);refine⟨.bl (bs.all id),H,I.kept (h':=h') (t':=tk) λb o U=>hk b o ?_ (Q09 _ U),rfl,q⟩;intro hm;have:b=s.heap.objs.size:=by simpa using hm
   exact absurd (Q02 U) (by rw[this];exact Q0r _)
noncomputable def Ite (K:W.Frag) (a:Addr):It:=
 ⟨λi H=>∃xs x,fv K H a xs/\xs[i]? =some x,
  λi H x H'=>∃p y,H p=none/\x=.ref p/\(∀xs,fv K H a xs->xs[i]? =some y)/\H'=upd H p (.tup [.int i,y]),
  λi H=>∃xs,fv K H a xs/\xs.length<=i⟩
theorem HY {P:Program}{w:World}{K:W.Frag}{ac:List Expr}{k:Nat}{tpos:Pos}{a e it:Addr}(aa:e≠it):
 Turn P w K (.Tuple ac k tpos) (Ite K a) [e,it] e (λi h=>∃L,IsEnum h e it (i:Int) L/\h.IsListIter it a i) where
 mem:=by simp
 obj:=λi h st b J=>by
  obtain⟨L,h1,h2⟩:=st;have J:b=e\/b=it:=by simpa using J
  rcases J with rfl|rfl
  . exact⟨_,h1,λv z=>by
     have z:Data.fields _=Data.cell v:=z
     cases z⟩
  . obtain⟨o,q,c,d⟩:=h2;exact⟨o,q,λv z=>by rw[d] at z;cases z⟩
 keep:=λi h h' st k=>by
  obtain⟨L,h1,h2⟩:=st;exact⟨L,k e (by simp) _ h1,h2.at λo q=>k it (by simp) o q⟩
 item:=by
  intro X hP hw hK hc i pins s σ H E I hf st hg;subst hP hw hK;obtain⟨L,h1,h2⟩:=st;obtain⟨xs,x,hq,hx⟩:=hg;obtain⟨ae,rv,p,hz⟩:=I.list hq;obtain⟨u,hu,ru⟩:=rv.get hx;obtain⟨e0,e1,e2,e3,e4,e5⟩:=hf e (by simp);obtain⟨f0,f1,f2,f3,f4,f5⟩:=hf it (by simp);have Y:H s.heap.objs.size=none:=I.hok.fresh (Q0 _);refine wpAny_pyNext_enum_item h1 h2 p.isList (x:=u) (by simpa using hu) aa λh' q1 q2 q3 q4 q5=>?_;refine⟨_,rfl,wpAny_letOwnedTupleGo_enum (s:={ s with heap:=h',toks:=s.toks+1 }) q1 λU g1 g2=>?_⟩;have af:∀b o,s.heap.get? b=some o->b≠s.heap.objs.size:=λb o q=>Q08 (Q02 q);have kk:∀b o,b≠e->b≠it->s.heap.get? b=some o->U.get? b=some o:=λb o n1 n2 q=>g2.extBut b o n1 (q5 b o n1 n2 q);have pe:s.heap.objs.size≠e:=Q0t (Q02 h1);have tup:U.get? s.heap.objs.size=some { cls:=.type "tuple",data:=.seq #[.int i s.toks,u] }:=g2.extBut _ _ pe q3
  have I1:Inv X pins σ (upd H s.heap.objs.size (.tup [.int i,x])) { s with heap:=U,toks:=s.toks+1 }:=by
   refine I.step (g':=s.gens) (d':=s.drawn) (ch:=[e,it]) (λb J=>?_) (λb o _ _ hc q _=>?_) (λb o _ _ hc q _=>?_) (λb o _ q n=>?_) (λb o hc q=>?_) (λb ys q=>?_) (λb o v q=>?_) (λb ps q=>?_) (λm hm=>?_) (λb o q=>?_) I.bare
   . have J:b=e\/b=it:=by simpa using J
     rcases J with rfl|rfl
     . exact⟨e3,e1,e4,e5⟩
     . exact⟨f3,f1,f4,f5⟩
   . exact kk b o (λz=>hc (by simp[z])) (λz=>hc (by simp[z])) q
   . exact⟨o.slots,kk b o (λz=>hc (by simp[z])) (λz=>hc (by simp[z])) q⟩
   . rw[fk (af b o q)];exact n
   . exact⟨o,kk b o (λz=>hc (by simp[z])) (λz=>hc (by simp[z])) q⟩
   . rw[fk (fJ q Y)];exact q
   . rw[fk (fJ q Y)];exact q
   . exact⟨#[],by rw[fk (fJ q Y),q];simp⟩
   . obtain⟨o,es,ep,ho,r⟩:=hm;exact⟨o,es,ep,kk _ o (Ne.symm e1) (Ne.symm f1) ho,r⟩
   . by_cases J:b=s.heap.objs.size
     . subst J;rw[fA] at q;cases q;refine⟨xA,[.int i s.toks,u],.cons ⟨_,rfl⟩ (.cons ru .nil),?_⟩;exact⟨_,tup,rfl,_,rfl⟩
     . rw[fk J] at q;refine(I.hok b o q).stay (λc v ab z=>kk c v ?_ ?_ z) (λc z=>by rw[fk (fJ z Y)];exact z) λc ys z=>by rw[fk (fJ z Y)];exact z
       . rcases ab with z|z
         . rw[z];exact fJ q e0
         . exact fJ z e0
       . rcases ab with z|z
         . rw[z];exact fJ q f0
         . exact fJ z f0
  refine⟨.ref s.heap.objs.size,_,I1,rfl,⟨s.heap.objs.size,x,Y,rfl,λys hy=>by rw[I.qK hy hq];exact hx,rfl⟩,⟨u,?_,q2.extBut g2.extBut (Ne.symm aa)⟩,λb J=>?_⟩
  . have ei:((i+1:Nat):Int)=(i:Int)+1:=by omega
    show IsEnum U e it ((i+1:Nat):Int) u;rw[ei];exact g1
  . have ag:b=e\/b=it:=by simpa using J
    have ah:b<s.heap.objs.size:=by
     rcases ag with rfl|rfl
     . exact Q02 h1
     . obtain⟨o,q,_⟩:=h2;exact Q02 q
    rw[fk (Q08 ah)];exact(hf b J).1
 done:=by
  intro X hP hw hK hc i pins s σ H E I hf st hg;subst hP hw hK;obtain⟨L,h1,h2⟩:=st;obtain⟨xs,hq,hx⟩:=hg;obtain⟨ae,rv,p,hz⟩:=I.list hq;obtain⟨f0,f1,f2,f3,f4,f5⟩:=hf it (by simp);have hl:=rv.length;exact wpAny_pyNext_enum_end (I.ok.hd hc) h1 h2 p.isList (by simp;omega) λh' eb=>⟨rfl,I.turned (t':=s.toks) (λb o J q=>eb b o J q) f0 f1 f3 f4 f5⟩
 self:=λA i s Q E st q=>by
  obtain⟨L,h1,_⟩:=st;exact wpAny_pyIter_enum h1 q
def HZ (K:W.Frag) (ta:TA):TI:=λσ H R=>ta σ H λvs H1=>∃a,vs=[.ref a]/\(∃xs,fv K H1 a xs)/\R (Ite K a) H1
theorem H0:bootBuiltins "enumerate"=some (.type "enumerate"):=by decide +kernel
theorem uq {a:Expr}{ta:TA}{p pos tpos:Pos}{U:List Expr}{k:Nat}(hg:Gl X "enumerate")(hm:X.mg "enumerate"=none)(ha:PA X [a] ta)(hs:starEach [a] X.env=[(false,eval a X.env)]:=by rfl):
 PI X (.Tuple U k tpos) (.Call (.Name "enumerate" p) [a] [] pos) (HZ X.K ta):=by
 intro pins s σ H R I h;refine Call_ (lu I hg hm H0 (PyProof.Rows.callWith_type1 (fQ (ha pos pins s σ H _ I h) λus J zq=>?_) hs rfl));obtain⟨vs,H1,Y,r1,q1⟩:=zq;obtain⟨l,e,⟨xs,hq⟩,q⟩:=q1;subst e;obtain⟨u,rfl,ru⟩:=vals1 r1
 cases ru;obtain⟨aa,rv,pl,hz⟩:=Y.list hq;refine call_enumerate_list pl.isList λh' q1 q2 q3 q4=>?_;refine wpAny_pyIter_enum q1 ?_;have I2:Inv X pins σ H1 { J with heap:=h' }:=Y.kept (t':=J.toks) q4;refine⟨J.heap.objs.size+1,[J.heap.objs.size+1,J.heap.objs.size],_,_,H1,rfl,I2,HY (Q0t (Q1 _)),⟨.none,q1,q2⟩,λb L=>?_,q⟩
 have L:J.heap.objs.size<=b:=by
  have L:b=J.heap.objs.size+1\/b=J.heap.objs.size:=by simpa using L
  rcases L with z|z
  . rw[z];exact Q14 _
  . rw[z];exact Q0 _
 exact Y.mS L (Y.hok.fresh L)
theorem boot_zip:bootBuiltins "zip"=some (.type "zip"):=by decide +kernel
theorem H_:ip X (binaryOp .Mult) (λx y H Q=>∃z i,x=.str z/\y=.int i/\MulOk z i/\Q (.str (Txt.mul z i)) H):=by
 intro pins s σ H x y v u Q I J L h;obtain⟨z,i,rfl,rfl,ok,q⟩:=h;obtain⟨t,rfl⟩:=J;obtain⟨t',rfl⟩:=L;exact SB.mul ok λU k=>⟨.str (Txt.mul z i),H,I.tok k,⟨_,rfl⟩,q⟩
theorem Bw {v:Value}{o:Option Int}(h:IsPart v o):(v=.none/\o=none)\/∃i t,v=.int i t/\o=some i:=by
 cases h with
 |none=>exact .inl ⟨rfl,rfl⟩
 |int i t=>exact .inr ⟨i,t,rfl,rfl⟩
theorem Bx:ua X (λx lo hi H Q=>∃z,x=.str z/\z.length<=sizeLine/\Q (.str (Txt.slice z lo hi)) H):=by
 intro pins s σ H x v vl vu lo hi sl Q I rx hs pl pu h;obtain⟨z,rfl,hz,q⟩:=h;obtain⟨t,rfl⟩:=rx
 have fin:∀{lo hi:Option Int} (q:Q (.str (Txt.slice z lo hi)) H),(Txt.slice z lo hi).length<=sizeLine/\∀t' k,EP X pins σ Q (.str (Txt.slice z lo hi) t') { s with toks:=k }:=
  λq=>⟨Q0c (Txt.slice_le z _ _) hz,λt' k=>⟨.str _,H,I.tok k,⟨t',rfl⟩,q⟩⟩
 refine⟨"str",_,F.slot_str_getitem.lookup,typeIs_str _ _ _,?_⟩;obtain⟨o,J,hc,L⟩:=hs;rcases Bw pl with⟨U,rfl⟩|⟨i,Y,U,rfl⟩ <;> rcases Bw pu with⟨e2,rfl⟩|⟨j,tj,e2,rfl⟩ <;> subst U <;> subst e2
 . exact wpAny_getItem_str_slice (l:=none) (u:=none) (st:=none) ⟨o,J,hc,L⟩ rfl (post_val_or_str (fin q))
 . exact wpAny_getItem_str_slice (l:=none) (u:=some (j,tj)) (st:=none) ⟨o,J,hc,L⟩ rfl (post_val_or_str (fin q))
 . exact wpAny_getItem_str_slice (l:=some (i,Y)) (u:=none) (st:=none) ⟨o,J,hc,L⟩ rfl (post_val_or_str (fin q))
 . exact wpAny_getItem_str_slice (l:=some (i,Y)) (u:=some (j,tj)) (st:=none) ⟨o,J,hc,L⟩ rfl (post_val_or_str (fin q))
end
theorem yes {σ:St}{H:Hp}{Q:Bool->Hp->Prop}(h:Q true H):kY σ H Q:=h
section
variable {K:W.Frag}{σ:St}{H:Hp}{Q:VK}{D:Ends}
theorem kZ {i:Nat}{a b:Str}{T U:TS}(h:σ[i]? =some (some (.str a)))(J:decide (V.str a=V.str b)=true)(q:T D σ H):nY (kM (gY mW (gF i) (tC (.str b)))) T U D σ H:=
 ⟨_,h,rfl,_,rfl,by rw[J];exact ig q⟩
theorem h6 {i:Nat}{a b:Str}{T U:TS}(h:σ[i]? =some (some (.str a)))(J:decide (V.str a=V.str b)=false)(q:U D σ H):nY (kM (gY mW (gF i) (tC (.str b)))) T U D σ H:=
 ⟨_,h,rfl,_,rfl,by rw[J];exact gR q⟩
theorem jy {i:Nat}{p:Addr}{xs:List V}{a b:Str}{T U:TS}(h:σ[i]? =some (some (.ref p)))(h2:H p=some (.tup xs))(J:xs[0]? =some (.str a))(L:decide (V.str a=V.str b)=true)(q:T D σ H):
 nY (kM (gY mW (gY (iY K) (gF i) (tC (.int 0))) (tC (.str b)))) T U D σ H:=
 ⟨_,h,p,xs,0,.str a,rfl,rfl,d_.of h2,jX (j:=0) J,rfl,_,rfl,by rw[L];exact ig q⟩
theorem gC {i:Nat}{p:Addr}{xs:List V}{a b:Str}{T U:TS}(h:σ[i]? =some (some (.ref p)))(h2:H p=some (.tup xs))(J:xs[0]? =some (.str a))(L:decide (V.str a=V.str b)=false)(q:U D σ H):
 nY (kM (gY mW (gY (iY K) (gF i) (tC (.int 0))) (tC (.str b)))) T U D σ H:=
 ⟨_,h,p,xs,0,.str a,rfl,rfl,d_.of h2,jX (j:=0) J,rfl,_,rfl,by rw[L];exact gR q⟩
end
end L2
namespace L2
noncomputable def ur (own N:List Str) (scope sc:Scope):Bool:=
 scope.names.all (λy=>decide (y.2≠ .cell)) && scope.names.all (λy=>decide (y.2=.local->scope.names.lookup y.1=some .local)) &&
 scope.names.all (λy=>decide (y.2=.free->sc.names.lookup y.1=some .cell\/sc.names.lookup y.1=some .free)) && decide (own++N).Nodup && N.all λx=>decide (scope.names.lookup x≠some .local)
theorem jH.of {X:Cx}{own N:List Str}{scope sc:Scope}(J:X.env.scope=sc)(L:X.N=N)(k:scope.kind=.function)(c:ur own N scope sc=true):jH X own scope:=by
 unfold ur at c;simp only[Bool.and_eq_true,Q0x,decide_eq_true_eq] at c;obtain⟨⟨⟨⟨U,Y⟩,c3⟩,c4⟩,c5⟩:=c;exact⟨k,U,Y,λy hy hf=>by rw[show X.env.kindOf y.1=X.env.scope.names.lookup y.1 from rfl,J];exact c3 y hy hf,by rw[L];exact c4,by rw[L];exact c5⟩
end L2
namespace lC
open W PyProof.Rows
noncomputable def gv {α:Type}(f:Nat->Nat->Bool):KasT α->α
 | .ret a=>a
 | .ask i j k=>gv f (k (f i j))
theorem om {α J:Type}(f:Nat->Nat->Bool)(g:α->KasT J):∀t:KasT α,gv f (t.bind g)=gv f (g (gv f t))
 | .ret _=>rfl
 | .ask i j k=>om f g (k (f i j))
def Bn {α:Type}(n:Nat) (R:α->Prop):KasT α->Prop
 | .ret a=>R a
 | .ask i j k=>i<n/\j<n/\∀b,Bn n R (k b)
theorem Bn.bind {α J:Type}{n:Nat}{R:α->Prop}{S:J->Prop}{g:α->KasT J}:∀{t:KasT α},Bn n R t->(∀a,R a->Bn n S (g a))->Bn n S (t.bind g)
 | .ret a,h,k=>k a h
 | .ask i j q,h,k=>⟨h.1,h.2.1,λb=>Bn.bind (h.2.2 b) k⟩
theorem By {α:Type}{n:Nat}{R:α->Prop}{f:Nat->Nat->Bool}{J:Nat->Nat->(Bool->Shared->Prop)->Shared->Prop}{Q:α->Shared->Prop}{s:Shared}
 (h:∀i j (C:Bool->Shared->Prop),i<n->j<n->C (f i j) s->J i j C s):∀{t:KasT α},Bn n R t->Q (gv f t) s->t.kasWp J Q s
 | .ret a,_,q=>q
 | .ask i j k,b,q=>h i j _ b.1 b.2.1 (By h (b.2.2 (f i j)) q)
def Lt (n:Nat) (p:Array Nat):Prop:=0<n/\∀x∈p,x<n
theorem Lt.at {n:Nat}{p:Array Nat}(h:Lt n p)(i:Nat):p.getD i 0<n:=by
 rw[Q1n]
 cases e:p[i]? with
 |none=>exact h.1
 |some x=>exact h.2 x (Array.mem_of_getElem? e)
theorem Lt.perm {n:Nat}{p q:Array Nat}(h:Lt n p)(hp:q.Perm p):Lt n q:=⟨h.1,λx J=>h.2 x (hp.mem_iff.mp J)⟩
theorem lD (p:Array Nat)(i j:Nat):(kas_rev p i j).Perm p:=mirror_perm _ _ _ _
theorem Ia (p:Array Nat)(i j:Nat):(kas_rev p i j).size=p.size:=mirror_size _ _ _ _
theorem uv {n:Nat}{p:Array Nat}(h:Lt n p):∀f m,Bn n (λ_=>True) (kas_asc p f m)
 |0,_=>trivial
 |f+1,m=>⟨h.at _,h.at _,λb=>by
   cases b with
   |true=>exact trivial
   |false=>exact uv h f (m+1)⟩
theorem qZ {n:Nat}:∀f (p:Array Nat) m q,Lt n p->Bn n (λr:Array Nat × Nat × Nat=>Lt n r.1) (kas_desc f p m q)
 |0,_,_,_,h=>h
 |f+1,p,m,q,h=>⟨h.at _,h.at _,λb=>by
   cases b with
   |true=>
    show Bn n _ (if q > 0 then kas_desc f (kas_rev p (m - (q+1)) m) (m+1) 0 else kas_desc f p (m+1) 0);split
    . exact qZ f _ _ _ (h.perm (lD _ _ _))
    . exact qZ f _ _ _ h
   |false=>
    refine⟨h.at _,h.at _,λd=>?_⟩
    cases d with
    |true=>exact h
    |false=>exact qZ f _ _ _ h⟩
theorem Bz {n m r:Nat}{p:Array Nat}(h:Lt n p):Bn n (λq:Nat × Array Nat=>Lt n q.2) (kas_tail3 m r p):=
 (uv (h.perm (lD _ _ _)) _ _).bind λ_ _=>h.perm (lD _ _ _)
theorem BA {n m r:Nat}{p:Array Nat}(h:Lt n p):Bn n (λq:Nat × Array Nat=>Lt n q.2) (kas_descPart m r p):=by
 refine(qZ _ _ _ _ h).bind λa J=>?_;split
 . exact Bz (J.perm (lD _ _ _))
 . exact Bz J
theorem Ib {n r:Nat}{p:Array Nat}(h:Lt n p):Bn n (λq:Nat × Array Nat=>Lt n q.2) (kas_count r p):=by
 refine(uv h _ _).bind λa _=>?_;split
 . exact h
 split
 . refine⟨h.at _,h.at _,λb=>?_⟩
   cases b with
   |true=>exact h
   |false=>exact BA (h.perm (lD _ _ _))
 . exact BA h
theorem uw {n k:Nat}{p:Array Nat}(h:Lt n p):∀f l r,Bn n (λ_=>True) (kas_place p k f l r)
 |0,_,_=>trivial
 |f+1,l,r=>by
  unfold kas_place;split
  . exact trivial
  . refine⟨h.at _,h.at _,λb=>?_⟩
    cases b with
    |true=>exact uw h f _ _
    |false=>exact uw h f _ _
theorem BB {n:Nat}:∀f (p:Array Nat) k,Lt n p->Bn n (λ_=>True) (kas_bin f p k)
 |0,_,_,_=>trivial
 |f+1,p,k,h=>(uw h _ _ _).bind λl _=>BB f _ _ (h.perm (bubble_perm _ _ _))
theorem Ic {n:Nat}(J:0<n):Bn n (λ_=>True) (kas_sort n):=by
 have h:Lt n (List.toArray (List.range n)):=⟨J,λx L=>by simpa using L⟩;refine(Ib h).bind λr U=>?_;split
 . exact BB _ _ _ U
 . exact trivial
section
variable {O:KeyOrd}(key:Nat->O.α)
noncomputable def gz:Nat->Nat->Bool:=λi j=>O.blt (key i) (key j)
noncomputable def Kp (p:Array Nat) (i:Nat):O.α:=key (p.getD i 0)
def jI (p:Array Nat) (k:Nat):Prop:=∀i j,i<=j->j<k->O.kle (Kp key p i) (Kp key p j)
def j7 (p:Array Nat) (k:Nat):Prop:=∀i j,i<=j->j<k->O.kle (Kp key p j) (Kp key p i)
variable {key}
theorem jI.succ {p:Array Nat}{n:Nat}(h:jI key p n)(h1:1<=n)(e:O.kle (Kp key p (n - 1)) (Kp key p n)):jI key p (n+1):=by
 intro i j J U;by_cases L:j<n
 . exact h i j J L
 . have:j=n:=by omega
   subst this;by_cases hi:i=j
   . subst hi;exact KeyOrd.kle_refl _
   . exact KeyOrd.kle_trans (h i (j - 1) (by omega) (by omega)) e
theorem j7.succ {p:Array Nat}{n:Nat}(h:j7 key p n)(h1:1<=n)(e:O.kle (Kp key p n) (Kp key p (n - 1))):j7 key p (n+1):=by
 intro i j J U;by_cases L:j<n
 . exact h i j J L
 . have:j=n:=by omega
   subst this;by_cases hi:i=j
   . subst hi;exact KeyOrd.kle_refl _
   . exact KeyOrd.kle_trans e (h i (j - 1) (by omega) (by omega))
theorem pK {p q:Array Nat}{i j:Nat}(h:p[i]? =q[j]?):Kp key p i=Kp key q j:=by
 unfold Kp;rw[Q1n,Q1n,h]
theorem ux {p:Array Nat}{i j:Nat}(J:j<=p.size)(k:Nat):Kp key (kas_rev p i j) k=if i<=k/\k<j then Kp key p (i+j - 1 - k) else Kp key p k:=by
 have e:=getElem?_mirror_all (i:=i) J k;by_cases h1:i<=k/\k<j
 . rw[if_pos h1] at e ⊢;exact pK e
 . rw[if_neg h1] at e ⊢;exact pK e
theorem uy {p:Array Nat}{i j:Nat}(L:j<=p.size)(J:∀k,i<=k->k<j->Kp key p k=Kp key p (j - 1))(k:Nat):Kp key (kas_rev p i j) k=Kp key p k:=by
 rw[ux L];split
 . rw[J _ (by omega) (by omega),J k (by omega) (by omega)]
 . rfl
theorem Ie {p:Array Nat}{src d:Nat}(J:src<p.size)(L:d<=src)(k:Nat):
 Kp key (bubble p src d) k=if k=src - d then Kp key p src else if src - d<k/\k<=src then Kp key p (k - 1) else Kp key p k:=by
 have e:=getElem?_bubble J d L k;by_cases h1:k=src - d
 . rw[if_pos h1] at e ⊢;exact pK e
 . rw[if_neg h1] at e ⊢;by_cases h2:src - d<k/\k<=src
   . rw[if_pos h2] at e ⊢;exact pK e
   . rw[if_neg h2] at e ⊢;exact pK e
theorem j7.congr {p q:Array Nat}{n:Nat}(h:j7 key p n)(e:∀k,Kp key q k=Kp key p k):j7 key q n:=λi j a b=>by
 rw[e,e];exact h i j a b
theorem uz {p:Array Nat}:∀f n,1<=n->jI key p n->n<=gv (gz key) (kas_asc p f n)/\gv (gz key) (kas_asc p f n)<=n+f/\jI key p (gv (gz key) (kas_asc p f n))/\
 (gv (gz key) (kas_asc p f n)<n+f->O.klt (Kp key p (gv (gz key) (kas_asc p f n))) (Kp key p (gv (gz key) (kas_asc p f n) - 1)))
 |0,n,_,h=>⟨Q0 _,Q0 _,h,λz=>absurd z (Q0r _)⟩
 |f+1,n,h1,h=>by
  have e:gv (gz key) (kas_asc p (f+1) n)=gv (gz key) (if O.blt (Kp key p n) (Kp key p (n - 1))=true then .ret n else kas_asc p f (n+1)):=rfl;rw[e]
  cases c:O.blt (Kp key p n) (Kp key p (n - 1)) with
  |true=>
   rw[if_pos rfl];exact⟨Q0 _,Q1o _ _,h,λ_=>c⟩
  |false=>
   rw[if_neg (by simp)];obtain⟨U,Y,J,L⟩:=uz f (n+1) (by omega) (h.succ h1 c);exact⟨by omega,by omega,J,λz=>L (by omega)⟩
structure DI (O:KeyOrd) (key:Nat->O.α) (p₀:Array Nat) (p:Array Nat) (n q:Nat):Prop where
 perm:p.Perm p₀
 non:j7 key p n
 one:q+1<=n
 size:n<=p.size
 eq:∀k,n - (q+1)<=k->k<n->Kp key p k=Kp key p (n - 1)
theorem q9 {J:Array Nat}:∀f (p:Array Nat) n q,DI O key J p n q->n+f<=J.size->
 ∃L n' U,gv (gz key) (kas_desc f p n q)=(L,n',U)/\DI O key J L n' U/\n'<=n+f
 |0,p,n,q,d,_=>⟨p,n,q,rfl,d,Q0 _⟩
 |f+1,p,n,q,d,hs=>by
  have hsz:p.size=J.size:=d.perm.size_eq
  have e:gv (gz key) (kas_desc (f+1) p n q)=gv (gz key) (if O.blt (Kp key p n) (Kp key p (n - 1))=true then(if q > 0 then kas_desc f (kas_rev p (n - (q+1)) n) (n+1) 0 else kas_desc f p (n+1) 0)
   else .ask (p.getD (n - 1) 0) (p.getD n 0) λd=>if d=true then .ret (p,n,q) else kas_desc f p (n+1) (q+1)):=rfl
  rw[e];have one:=d.one
  cases c:O.blt (Kp key p n) (Kp key p (n - 1)) with
  |true=>
   rw[if_pos rfl];have cl:O.kle (Kp key p n) (Kp key p (n - 1)):=KeyOrd.kle_of_klt c;by_cases hq:q > 0
   . rw[if_pos hq];have ek:∀k,Kp key (kas_rev p (n - (q+1)) n) k=Kp key p k:=uy d.size d.eq
     have d':DI O key J (kas_rev p (n - (q+1)) n) (n+1) 0:=⟨(lD _ _ _).trans d.perm,(d.non.succ (by omega) cl).congr ek,by omega,by rw[Ia];omega,λk h1 h2=>by
      have:k=n:=by omega
      subst this;rfl⟩
     obtain⟨L,n',U,Y,r2,r3⟩:=q9 f _ _ _ d' (by omega);exact⟨L,n',U,Y,r2,by omega⟩
   . rw[if_neg hq]
     have d':DI O key J p (n+1) 0:=⟨d.perm,d.non.succ (by omega) cl,by omega,by omega,λk h1 h2=>by
      have:k=n:=by omega
      subst this;rfl⟩
     obtain⟨L,n',U,Y,r2,r3⟩:=q9 f _ _ _ d' (by omega);exact⟨L,n',U,Y,r2,by omega⟩
  |false=>
   rw[if_neg (by simp)];have e2:gv (gz key) (.ask (p.getD (n - 1) 0) (p.getD n 0) λd=>if d=true then .ret (p,n,q) else kas_desc f p (n+1) (q+1))=gv (gz key) (if O.blt (Kp key p (n - 1)) (Kp key p n)=true then .ret (p,n,q) else kas_desc f p (n+1) (q+1)):=rfl;rw[e2]
   cases c2:O.blt (Kp key p (n - 1)) (Kp key p n) with
   |true=>
    rw[if_pos rfl];exact⟨p,n,q,rfl,d,by omega⟩
   |false=>
    rw[if_neg (by simp)];have ee:Kp key p n=Kp key p (n - 1):=O.total _ _ c c2
    have d':DI O key J p (n+1) (q+1):=⟨d.perm,d.non.succ (by omega) (by rw[ee];exact KeyOrd.kle_refl _),by omega,by omega,λk h1 h2=>by
     show Kp key p k=Kp key p n;by_cases hk:k=n
     . rw[hk]
     . rw[ee];exact d.eq k (by omega) (by omega)⟩
    obtain⟨L,n',U,Y,r2,r3⟩:=q9 f _ _ _ d' (by omega);exact⟨L,n',U,Y,r2,by omega⟩
def pL (O:KeyOrd) (key:Nat->O.α) (J:Array Nat) (nrem:Nat) (r:Nat × Array Nat):Prop:=r.2.Perm J/\1<=r.1/\r.1<=nrem/\jI key r.2 r.1
theorem BC {J p:Array Nat}{n nrem:Nat}(hp:p.Perm J)(h1:1<=n)(hn:n<=nrem)(hs:nrem<=J.size)(h:j7 key p n):pL O key J nrem (gv (gz key) (kas_tail3 n nrem p)):=by
 have hsz:p.size=J.size:=hp.size_eq;unfold kas_tail3;rw[om]
 have L:jI key (kas_rev p 0 n) n:=λi j Y hj=>by
  rw[ux (by omega),ux (by omega),if_pos (by omega),if_pos (by omega)];exact h _ _ (by omega) (by omega)
 obtain⟨a1,a2,U,_⟩:=uz (key:=key) (p:=kas_rev p 0 n) (nrem - n) n h1 L;exact⟨(lD _ _ _).trans hp,by show 1<=gv _ _;omega,by show gv _ _<=nrem;omega,U⟩
theorem BD {J p:Array Nat}{n nrem:Nat}(hp:p.Perm J)(h1:1<=n)(hn:n+1<=nrem)(hs:nrem<=J.size)(h:j7 key p (n+1)):pL O key J nrem (gv (gz key) (kas_descPart n nrem p)):=by
 have hsz:p.size=J.size:=hp.size_eq;unfold kas_descPart;rw[om]
 have d:DI O key J p (n+1) 0:=⟨hp,h,by omega,by omega,λk h1 h2=>by
  have:k=n:=by omega
  subst this;rfl⟩
 obtain⟨U,n',Y,r1,L,r3⟩:=q9 (key:=key) (nrem - (n+1)) p (n+1) 0 d (by omega);rw[r1];have o:=L.one;have sz:=L.size;have aa:U.size=J.size:=L.perm.size_eq;by_cases hq:Y > 0
 . show pL O key J nrem (gv (gz key) (if Y > 0 then kas_tail3 n' nrem (kas_rev U (n' - (Y+1)) n') else kas_tail3 n' nrem U));rw[if_pos hq];exact BC ((lD _ _ _).trans L.perm) (by omega) (by omega) hs (L.non.congr (uy L.size L.eq))
 . show pL O key J nrem (gv (gz key) (if Y > 0 then kas_tail3 n' nrem (kas_rev U (n' - (Y+1)) n') else kas_tail3 n' nrem U));rw[if_neg hq];exact BC L.perm (by omega) (by omega) hs L.non
theorem Ig {p:Array Nat}{nrem:Nat}(h1:1<=nrem)(hs:nrem<=p.size):pL O key p nrem (gv (gz key) (kas_count nrem p)):=by
 unfold kas_count;rw[om]
 obtain⟨J,a2,U,a4⟩:=uz (key:=key) (p:=p) (nrem - 1) 1 (Q0 _) (λi j L hj=>by
  have Y:i=0:=by omega
  have e2:j=0:=by omega
  subst Y;subst e2;exact KeyOrd.kle_refl _)
 generalize gv (gz key) (kas_asc p (nrem - 1) 1)=n at *;by_cases hn:n=nrem
 . rw[if_pos (by simpa using hn)];exact⟨Array.Perm.refl _,J,by show n<=nrem;omega,U⟩
 . rw[if_neg (by simpa using hn)];have cl:O.klt (Kp key p n) (Kp key p (n - 1)):=a4 (by omega);by_cases hg:n > 1
   . rw[if_pos hg]
     have e:gv (gz key) (.ask (p.getD 0 0) (p.getD (n - 1) 0) λc=>if c=true then .ret (n,p) else kas_descPart n nrem (kas_rev p 0 n))=
      gv (gz key) (if O.blt (Kp key p 0) (Kp key p (n - 1))=true then .ret (n,p) else kas_descPart n nrem (kas_rev p 0 n)):=rfl
     rw[e]
     cases c:O.blt (Kp key p 0) (Kp key p (n - 1)) with
     |true=>
      rw[if_pos rfl];exact⟨Array.Perm.refl _,J,by show n<=nrem;omega,U⟩
     |false=>
      rw[if_neg (by simp)]
      have all:∀k,0<=k->k<n->Kp key p k=Kp key p (n - 1):=λk _ hk=>by
       have c':O.kle (Kp key p (n - 1)) (Kp key p 0):=c;exact KeyOrd.kle_antisymm (U k (n - 1) (by omega) (by omega)) (KeyOrd.kle_trans c' (U 0 k (by omega) hk))
      have ek:∀k,Kp key (kas_rev p 0 n) k=Kp key p k:=uy (by omega) all;refine BD (lD _ _ _) J (by omega) hs (j7.congr (j7.succ (n:=n) (λi j L hj=>?_) J (KeyOrd.kle_of_klt cl)) ek);rw[all i (by omega) (by omega),all j (by omega) (by omega)];exact KeyOrd.kle_refl _
   . rw[if_neg hg];have:n=1:=by omega
     subst this;refine BD (Array.Perm.refl _) J (by omega) hs (j7.succ (n:=1) (λi j L hj=>?_) J (KeyOrd.kle_of_klt cl));have Y:i=0:=by omega
     have e2:j=0:=by omega
     subst Y;subst e2;exact KeyOrd.kle_refl _
theorem uA {p:Array Nat}{k:Nat}(h:jI key p k):∀f l r,l<=r->r<=k->r - l<=f->(∀i,i<l->O.kle (Kp key p i) (Kp key p k))->(∀i,r<=i->i<k->O.klt (Kp key p k) (Kp key p i))->
 ∃m,gv (gz key) (kas_place p k f l r)=m/\m<=k/\(∀i,i<m->O.kle (Kp key p i) (Kp key p k))/\(∀i,m<=i->i<k->O.klt (Kp key p k) (Kp key p i))
 |0,l,r,h1,h2,Y,J,L=>⟨l,rfl,by omega,J,λi a b=>L i (by omega) b⟩
 |f+1,l,r,h1,h2,Y,J,L=>by
  by_cases U:l ≥ r
  . refine⟨l,?_,by omega,J,λi a b=>L i (by omega) b⟩;unfold kas_place;rw[if_pos U];rfl
  . have e:gv (gz key) (kas_place p k (f+1) l r)=gv (gz key) (if O.blt (Kp key p k) (Kp key p ((l+r) / 2))=true then kas_place p k f l ((l+r) / 2) else kas_place p k f ((l+r) / 2+1) r):=by
     show gv (gz key) (if l ≥ r then .ret l else _)=_;rw[if_neg U];rfl
    rw[e]
    cases c:O.blt (Kp key p k) (Kp key p ((l+r) / 2)) with
    |true=>
     rw[if_pos rfl];exact uA h f _ _ (by omega) (by omega) (by omega) J λi a b=>KeyOrd.klt_of_klt_of_kle (show O.klt _ _ from c) (h _ _ a b)
    |false=>
     rw[if_neg (by simp)];exact uA h f _ _ (by omega) h2 (by omega) (λi a=>KeyOrd.kle_trans (h i ((l+r) / 2) (by omega) (by omega)) (show O.kle _ _ from c)) L
theorem BE:∀f (p:Array Nat) k,jI key p k->k+f<=p.size->(gv (gz key) (kas_bin f p k)).Perm p/\jI key (gv (gz key) (kas_bin f p k)) (k+f)
 |0,p,k,h,_=>⟨Array.Perm.refl _,h⟩
 |f+1,p,k,h,hs=>by
  have e:gv (gz key) (kas_bin (f+1) p k)=gv (gz key) (kas_bin f (bubble p k (k - gv (gz key) (kas_place p k k 0 k))) (k+1)):=by
   show gv (gz key) ((kas_place p k k 0 k).bind λl=>kas_bin f (bubble p k (k - l)) (k+1))=_;rw[om]
  rw[e];obtain⟨m,em,m1,m2,m3⟩:=uA h k 0 k (Q0a _) (Q0 _) (Q0 _) (λi z=>absurd z (Q16 _)) (λi a b=>absurd a (by omega));rw[em];have L:=λi=>Ie (key:=key) (p:=p) (src:=k) (d:=k - m) (by omega) (by omega) i;have hm:k - (k - m)=m:=by omega
  rw[hm] at L
  have hS:jI key (bubble p k (k - m)) (k+1):=by
   intro i j U hj;rw[L i,L j];by_cases Y:i=m
   . rw[if_pos Y];by_cases J:j=m
     . rw[if_pos J];exact KeyOrd.kle_refl _
     . rw[if_neg J,if_pos (by omega)];exact KeyOrd.kle_of_klt (m3 _ (by omega) (by omega))
   . rw[if_neg Y];by_cases li:m<i/\i<=k
     . rw[if_pos li,if_neg (by omega),if_pos (by omega)];exact h _ _ (by omega) (by omega)
     . rw[if_neg li];by_cases J:j=m
       . rw[if_pos J];exact m2 i (by omega)
       . rw[if_neg J];by_cases lj:m<j/\j<=k
         . rw[if_pos lj];exact h _ _ (by omega) (by omega)
         . rw[if_neg lj];exact h _ _ U (by omega)
  obtain⟨b1,b2⟩:=BE f (bubble p k (k - m)) (k+1) hS (by rw[bubble_size];omega);exact⟨b1.trans (bubble_perm _ _ _),by rw[show k+(f+1)=k+1+f by omega];exact b2⟩
theorem Ih {n:Nat}(hn:1<=n):(gv (gz key) (kas_sort n)).toList.Perm (List.range n)/\((gv (gz key) (kas_sort n)).toList.map key).Pairwise O.kle:=by
 have hz:(List.toArray (List.range n)).size=n:=by simp
 obtain⟨J,c2,c3,c4⟩:=Ig (key:=key) (p:=List.toArray (List.range n)) (nrem:=n) hn (by omega)
 have main:(gv (gz key) (kas_sort n)).Perm (List.toArray (List.range n))/\jI key (gv (gz key) (kas_sort n)) n:=by
  unfold kas_sort;rw[om];generalize gv (gz key) (kas_count n (List.toArray (List.range n)))=r at *;obtain⟨m,p⟩:=r;have hsz:p.size=n:=by rw[J.size_eq,hz]
  by_cases hm:m<n
  . show(gv (gz key) (if m<n then kas_bin (n - max m 1) p (max m 1) else .ret p)).Perm _/\jI key (gv (gz key) (if m<n then kas_bin (n - max m 1) p (max m 1) else .ret p)) n;rw[if_pos hm];have c2:1<=m:=c2;have em:max m 1=m:=by omega
    rw[em];obtain⟨b1,b2⟩:=BE (key:=key) (n - m) p m c4 (by omega);exact⟨b1.trans J,by rw[show n=m+(n - m) by omega];rw[show m+(n - m) - m=n - m by omega];exact b2⟩
  . show(gv (gz key) (if m<n then kas_bin (n - max m 1) p (max m 1) else .ret p)).Perm _/\jI key (gv (gz key) (if m<n then kas_bin (n - max m 1) p (max m 1) else .ret p)) n;rw[if_neg hm];have c3:m<=n:=c3;have:m=n:=by omega
    subst this;exact⟨J,c4⟩
 refine⟨Array.perm_iff_toList_perm.mp main.1,?_⟩;have hsz:(gv (gz key) (kas_sort n)).size=n:=by rw[main.1.size_eq,hz]
 rw[Q1p,List.pairwise_iff_getElem];intro i j hi hj L;have U:i<(gv (gz key) (kas_sort n)).size:=by simpa using hi
 have Y:j<(gv (gz key) (kas_sort n)).size:=by simpa using hj
 have q:=main.2 i j (Q0s L) (by omega);unfold Kp at q;rw[Q1n,Q1n,Q1y U,Q1y Y] at q;simpa using q
end
end lC
namespace L2
open Spec PyProof.Rows
def oo (c':Addr) (qual:Str):Heap->Prop:=λh=>h.CodeRec (.ref c') qual
def lE (P:Addr) (pos:Pos) (qual:Str) (c':Addr) (H:Hp):Prop:=H P=some (.g4 #[rawInt pos.line,rawInt pos.col,.ref c'])/\H c'=some (.ext (oo c' qual))
def fT (P:Addr) (pos:Pos) (qual:Str) (H:Hp):Prop:=H P=some (.g4 #[])\/∃c',lE P pos qual c' H
theorem lE.mono {P:Addr}{pos:Pos}{qual:Str}{c':Addr}{H H':Hp}(h:lE P pos qual c' H)(k:∀b o,(b=P\/b=c')->H b=some o->H' b=some o):lE P pos qual c' H':=⟨k _ _ (.inl rfl) h.1,k _ _ (.inr rfl) h.2⟩
def BM (mg:Str->Option Value) (base:Heap):Prop:=
 ∃J o,mg "__builtins__"=some (.ref J)/\J≠builtinsNs/\J≠mainGlobals/\base.get? J=some o/\o.cls=.type "module"/\o.dict=some builtinsNs/\o.data=.plain
def Ii (P:Addr) (pos:Pos) (qual:Str) (ps:Array Value) (H:Hp):Prop:=H P=some (.g4 ps)/\TriplesOk ps.toList/\(codeAmong pos ps.toList=none\/∃c',codeAmong pos ps.toList=some (.ref c')/\H c'=some (.ext (oo c' qual)))
def Ij (P:Addr) (pos:Pos) (qual:Str) (ps:Array Value) (c':Addr) (H:Hp):Prop:=((codeAmong pos ps.toList=none/\H P=some (.g4 (ps++#[rawInt pos.line,rawInt pos.col,.ref c'])))\/(codeAmong pos ps.toList=some (.ref c')/\H P=some (.g4 ps)))/\H c'=some (.ext (oo c' qual))
section
variable {X:Cx}{pins:List (Addr × Obj)}{σ:St}{H:Hp}{s:Shared}
theorem Inv.BF (I:Inv X pins σ H s){P b:Addr}{o:HO}{u:Obj}(e:H P=some o)(J:X.base.get? b=some u):b≠P:=λz=>by
 have:=(I.bs b u J).2;rw[z,e] at this;cases this
theorem Inv.BG (I:Inv X pins σ H s)(B:BM X.mg X.base){P:Addr}{o:HO}(e:H P=some o):s.heap.BuiltinsAt X.mg P:=by
 obtain⟨J,L,Y,b2,b3,U,b5⟩:=B;exact⟨J,L,Y,b2,b3,I.BF e U,(I.bs J L U).1,b5⟩
theorem Inv.adopt {b:Addr}{o:HO}{h':Heap}{t':Nat}(I:Inv X pins σ H s)(f:iX X pins H b)(k:∀c u,c≠b->s.heap.get? c=some u->h'.get? c=some u)(new:h_ X.prog X.w (upd H b o) h' b o):
 Inv X pins σ (upd H b o) { s with heap:=h',toks:=t' }:=by
 obtain⟨Y,U,f2,f3,f4,f5⟩:=f;have J:∀c u,H c=some u->c≠b:=λc u e=>fJ e Y
 refine I.step (g':=s.gens) (d':=s.drawn) (ch:=[b]) (λc hc=>?_) (λc u _ _ hc e _=>k c u (λz=>hc (by simp[z])) e) (λc u _ _ hc e _=>⟨u.slots,k c u (λz=>hc (by simp[z])) e⟩) (λc u hc e n=>?_)
  (λc u hc e=>⟨u,k c u (λz=>hc (by simp[z])) e⟩) (λc xs e=>?_) (λc L u e=>?_) (λc ps e=>⟨#[],?_⟩) (λm hm=>?_) (λc u e=>?_) I.bare
 . have e:c=b:=by simpa using hc
   subst e;exact⟨f3,U,f4,f5⟩
 . rw[fk (λz=>hc (by simp[z]))];exact n
 . rw[fk (J _ _ e)];exact e
 . rw[fk (J _ _ e)];exact e
 . rw[fk (J _ _ e),e];simp
 . obtain⟨L,es,ep,ho,r⟩:=hm;exact⟨L,es,ep,k _ L (Ne.symm U) ho,r⟩
 . by_cases hc:c=b
   . subst hc;rw[fA] at e;cases e;exact new
   . rw[fk hc] at e;refine(I.hok c u e).stay (λd v hd q=>k d v ?_ q) (λd q=>by rw[fk (J _ _ q)];exact q) λd xs q=>by rw[fk (J _ _ q)];exact q
     rcases hd with z|z
     . rw[z];exact hc
     . exact J _ _ z
theorem Inv.own {b:Addr}{h':Heap}{t':Nat}(I:Inv X pins σ H s)(f:iX X pins H b)(J:Heap.SameBut b s.heap h'):Inv X pins σ H { s with heap:=h',toks:=t' }:=
 I.turned (t':=t') (λc u hc e=>(J.2 c hc).trans e) f.1 f.2.1 f.2.2.2.1 f.2.2.2.2.1 f.2.2.2.2.2
theorem BH {lG:Array Value}{name qual:Str}{L:Arguments}{body:Expr}{scope:Scope}{pos:Pos}{U:Nat}{cl:List (Str × Addr)}{c P:Addr}{Q:Value->Shared->Prop}{E:Value->Shared->Prop}(I:Inv X pins σ H s)(aa:X.env.code=.ref c)(C:W.CodeHd X.base c P)
 (B:BM X.mg X.base) (T:Ii P pos qual lG H) (ac:closureFor scope X.env=pure cl)
 (h:∀(f c':Addr) (pm Y:Value) (H':Hp) (s':Shared),Inv X (pins++[(f,W.kla_obj name qual L body scope cl pm c' Y)]) σ H' s'->Ij P pos qual lG c' H'->(∀b o,b≠P->H b=some o->H' b=some o)->Q (.ref f) s'):
 wpAny (model X.prog X.w) X.A (makeFunction name qual L (.expr body) scope X.env [] [] [] pos U) Q E s:=by
 have hg:s.heap.Ns mainGlobals X.mg:=I.mod.glob.keeps I.bk;have C':=C.keeps I.bk
 have ae:∀{H':Hp} {s':Shared} {f:Addr} {o:Obj},Inv X pins σ H' s'->s'.heap.get? f=some o->H' f=none->s.heap.objs.size<=f->(∀v,o.data≠ .cell v)->Inv X (pins++[(f,o)]) σ H' s':=λ{H' s' f o} J e n hz d=>
  J.mO λp hp=>(List.mem_append.mp hp).elim (λz=>J.pin p (Q07 _ z)) λz=>by
    have:p=(f,o):=by simpa using z
    subst this;exact⟨e,n,Q0t (Q0f I.lt hz),I.nX hz,d⟩
 obtain⟨e,af,ag|⟨c',e1,e2⟩⟩:=T
 . have hP:s.heap.get? P=some (W.tabObj lG):=I.hok P _ e;have ah:P<s.heap.objs.size:=Q02 hP
   have am:mainGlobals≠P:=by
    obtain⟨o,es,ep,eo,_⟩:=I.mod.glob;exact I.BF e eo
   refine W.kla_makeFunction (mg:=X.mg) ac I.ok.glob hg aa C' hP af ag am (I.BG B e) λc' Y h' tk hx ab ai al aj=>?_;have ak:c'≠P:=Q0t (Q0f ah ab);have an:H c'=none:=I.hok.fresh ab
   have nP:∀b u,H b=some u->u≠ .g4 lG->b≠P:=λb u q d z=>by
    rw[z,e] at q;exact d (Option.some.inj q).symm
   have nC:∀b u,H b=some u->b≠c':=λb u q=>fJ q an;have kk:∀(ob:Obj) b u,b≠P->s.heap.get? b=some u->(h'.push ob).get? b=some u:=λob b u hb q=>Q09 _ (hx b u hb q)
   have I1:Inv X pins σ (upd (upd H P (.g4 (lG++#[rawInt pos.line,rawInt pos.col,.ref c']))) c' (.ext (oo c' qual))) { s with heap:=h'.push (W.kla_obj name qual L body scope cl ((X.mg "__name__").getD .none) c' Y),toks:=tk }:=by
    refine I.step (g':=s.gens) (d':=s.drawn) (ch:=[]) (λ_ z=>nomatch z) (λb o _ _ _ q n=>kk _ b o (λz=>by rw[z,e] at n;cases n) q) (λb o _ _ _ q n=>⟨o.slots,kk _ b o (λz=>by rw[z,e] at n;cases n) q⟩)
     (λb o _ q n=>?_) (λb o _ q=>?_) (λb xs q=>?_) (λb o u q=>?_) (λb ps q=>?_) (λm hm=>?_) (λb o q=>?_) I.bare
    . have b1:b≠P:=λz=>by rw[z,e] at n;cases n
      have b2:b≠c':=Q08 (Q0f (Q02 q) ab);rw[fk b2,fk b1];exact n
    . by_cases hb:b=P
      . subst hb;exact⟨_,Q09 _ aj⟩
      . exact⟨o,kk _ b o hb q⟩
    . rw[fk (nC _ _ q),fk (nP _ _ q (by intro z;cases z))];exact q
    . rw[fk (nC _ _ q),fk (nP _ _ q (by intro z;cases z))];exact q
    . by_cases hb:b=P
      . subst hb;rw[e] at q;cases q;exact⟨_,by rw[fk (Ne.symm ak),fA]⟩
      . exact⟨#[],by rw[fk (nC _ _ q),fk hb,q];simp⟩
    . obtain⟨o,es,ep,ho,r⟩:=hm;exact⟨o,es,ep,kk _ _ o (λz=>by have:=I.free;rw[z,e] at this;cases this) ho,r⟩
    . by_cases hb:b=c'
      . subst hb;rw[fA] at q;cases q;obtain⟨aq,oc,vs,t,z1,z2,z3,z4⟩:=al
        cases z1;refine⟨⟨_,oc,vs,t,rfl,Q09 _ z2,z3,z4⟩,⟨oc,Q09 _ z2⟩,λh1 h2 y hy=>?_⟩;obtain⟨ar,ao,ap,t',y1,y2,y3,y4⟩:=y
        cases y1;exact⟨_,ao,ap,t',rfl,hy _ y2,y3,y4⟩
      . rw[fk hb] at q;by_cases hp:b=P
        . subst hp;rw[fA] at q;cases q;show(h'.push _).get? b=some { cls:=.none,data:=.fields _ };exact Q09 _ aj
        . rw[fk hp] at q;refine(I.hok b o q).stay (λd v hd y=>kk _ d v ?_ y) (λd y=>by rw[fk (nC _ _ y),fk (nP _ _ y (by intro z;cases z))];exact y) λd xs y=>by rw[fk (nC _ _ y),fk (nP _ _ y (by intro z;cases z))];exact y
          rcases hd with z|z
          . rw[z];exact hp
          . exact nP _ _ z (by intro z;cases z)
   have fz:s.heap.objs.size<=h'.objs.size:=Q0s (Q1l ab ai)
   have fn:upd (upd H P (.g4 (lG++#[rawInt pos.line,rawInt pos.col,.ref c']))) c' (.ext (oo c' qual)) h'.objs.size=none:=by
    rw[fk (Q0t ai),fk (Q0t (Q0f ah fz))];exact I.hok.fresh fz
   refine h h'.objs.size c' ((X.mg "__name__").getD .none) Y _ _ (ae I1 (Q0j _ rfl) fn fz (by intro v z;cases z)) ⟨.inl ⟨ag,by rw[fk (Ne.symm ak),fA]⟩,fA⟩ λb o hb q=>?_;rw[fk (nC _ _ q),fk hb];exact q
 . have hP:s.heap.get? P=some (W.tabObj lG):=I.hok P _ e;refine W.kla_makeFunctionHit (mg:=X.mg) (cv:=.ref c') ac I.ok.glob hg aa C' hP af e1 (I.BG B e) λY h' tk hk hsz=>?_;exact h h'.objs.size c' ((X.mg "__name__").getD .none) Y H _ (ae (I.kept λb u q=>Q09 _ (hk b u q)) (Q0j _ rfl) (I.hok.fresh hsz) hsz (by intro v z;cases z)) ⟨.inr ⟨e1,e⟩,e2⟩ λb o _ q=>q
theorem BJ {name qual:Str}{aa:Arguments}{body:Expr}{scope:Scope}{pos:Pos}{Y:Nat}{cl:List (Str × Addr)}{c P:Addr}{Q:Value->Shared->Prop}{E:Value->Shared->Prop}(I:Inv X pins σ H s)(ac:X.env.code=.ref c)(C:W.CodeHd X.base c P)
 (B:BM X.mg X.base) (T:fT P pos qual H) (ae:closureFor scope X.env=pure cl)
 (h:∀(f c':Addr) (pm ab:Value) (H':Hp) (s':Shared),Inv X (pins++[(f,W.kla_obj name qual aa body scope cl pm c' ab)]) σ H' s'->lE P pos qual c' H'->(∀b o,b≠P->H b=some o->H' b=some o)->Q (.ref f) s'):
 wpAny (model X.prog X.w) X.A (makeFunction name qual aa (.expr body) scope X.env [] [] [] pos Y) Q E s:=by
 rcases T with e|⟨U,e,ec⟩
 . refine BH (lG:=#[]) I ac C B ⟨e,by simp[TriplesOk],.inl rfl⟩ ae λf c' pm ab H' s' J L m=>h f c' pm ab H' s' J ?_ m;obtain⟨z|z,y⟩:=L
   . exact⟨z.2,y⟩
   . cases z.1
 . refine BH (lG:=#[rawInt pos.line,rawInt pos.col,.ref U]) I ac C B ⟨e,by simp[TriplesOk,rawInt],.inr ⟨U,by simp[codeAmong,rawInt],ec⟩⟩ ae λf c' pm ab H' s' J L m=>h f c' pm ab H' s' J ?_ m;have hc:codeAmong pos [rawInt pos.line,rawInt pos.col,.ref U]=some (.ref U):=by simp[codeAmong,rawInt]
   obtain⟨z|z,y⟩:=L
   . exact absurd (hc.symm.trans z.1) (by intro z;cases z)
   . have:U=c':=by
      have:=hc.symm.trans z.1
      cases this;rfl
     subst this;exact⟨z.2,y⟩
structure lH (X:Cx) (x:Str) (N':List Str) (scope:Scope):Prop where
 kind:scope.kind=.function
 co:scope.isCoroutine=false
 gen:scope.isGenerator=false
 cell:∀y∈scope.names,y.2≠ .cell
 loc:scope.names.lookup x=some .local
 free:∀y∈scope.names,y.2=.free->X.env.kindOf y.1=some .cell\/X.env.kindOf y.1=some .free
 len:N'.length=X.N.length
 outer:∀(i:Nat) (y:Str),N'[i]? =some y->scope.names.lookup y=none\/(X.N[i]? =some y/\scope.names.lookup y≠some .local)
noncomputable def nq (scope:Scope):List Str->List Str->Bool
 |[],[]=>true
 |y::r,z::q=>(decide (scope.names.lookup y=none) || (decide (z=y) && decide (scope.names.lookup y≠some .local))) && nq scope r q
 |_,_=>false
theorem BN {scope:Scope}:∀{N' N:List Str},nq scope N' N=true->N'.length=N.length
 |[],[],_=>rfl
 |y::r,z::q,h=>by
  simp only[nq,Bool.and_eq_true] at h;rw[Q0k,Q0k,BN h.2]
theorem BO {scope:Scope}:∀{N' N:List Str},nq scope N' N=true->∀(i:Nat) (y:Str),N'[i]? =some y->scope.names.lookup y=none\/(N[i]? =some y/\scope.names.lookup y≠some .local)
 |[],[],_,i,y,e=>by simp at e
 |w::r,z::q,h,0,y,e=>by
  simp only[nq,Bool.and_eq_true,Bool.or_eq_true,decide_eq_true_eq] at h;have e:some w=some y:=e
  cases e;rcases h.1 with h1|⟨h1,h2⟩
  . exact .inl h1
  . subst h1;exact .inr ⟨rfl,h2⟩
 |w::r,z::q,h,i+1,y,e=>by
  simp only[nq,Bool.and_eq_true] at h;have:=BO h.2 i y (by simpa using e);simpa using this
noncomputable def BP (x:Str) (N' N:List Str) (scope sc:Scope):Bool:=
 scope.names.all (λy=>decide (y.2≠ .cell)) && decide (scope.names.lookup x=some .local) && scope.names.all (λy=>decide (y.2=.free->sc.names.lookup y.1=some .cell\/sc.names.lookup y.1=some .free)) && nq scope N' N
theorem lH.of {x:Str}{N' N:List Str}{scope sc:Scope}(J:X.env.scope=sc)(L:X.N=N)(k:scope.kind=.function)(Y:scope.isCoroutine=false)(c2:scope.isGenerator=false)(c:BP x N' N scope sc=true):lH X x N' scope:=by
 unfold BP at c;simp only[Bool.and_eq_true,Q0x,decide_eq_true_eq] at c;obtain⟨⟨⟨a1,a2⟩,a3⟩,U⟩:=c;exact⟨k,Y,c2,a1,a2,λy hy hf=>by rw[show X.env.kindOf y.1=X.env.scope.names.lookup y.1 from rfl,J];exact a3 y hy hf,by rw[L];exact BN U,by rw[L];exact BO U⟩
noncomputable abbrev q_ (qual:Str) (scope:Scope) (cl:List (Str × Addr)) (f c':Addr) (s:Shared):Env:=W.envX qual scope s.heap.objs.size f (.ref c') cl
noncomputable def pM (X:Cx) (x:Str) (N':List Str) (scope:Scope) (cl:List (Str × Addr)) (qual:Str) (f c':Addr) (s:Shared) (H:Hp):Cx:=
 { X with A:=X.A.in1.in1.deeper (q_ qual scope cl f c' s),N:=x::N',s₀:=s,H₀:=H,env:=q_ qual scope cl f c' s,outer:=X.stack,stack:=q_ qual scope cl f c' s::X.stack,ex:=[],fn:=λ_=>false,pn:=[],calm:=true,xe:=λ_ _=>False }
theorem Inv.lam {x:Str}{N':List Str}{scope:Scope}{cl:List (Str × Addr)}{qual:Str}{f c':Addr}{v:V}{u:Value}{h₁:Heap}{t':Nat}(I:Inv X pins σ H s)(S:lH X x N' scope)(hd:X.A.handled=none)
 (J:∀y c,cl.lookup y=some c->X.env.cells.lookup y=some c) (ab:∀y,(y,NameKind.free)∈scope.names->cl.lookup y=X.env.cells.lookup y) (r:RelV v u)
 (hn:h₁.Ns s.heap.objs.size (λy=>([(x,u)]:List (Str × Value)).reverse.lookup y)) (aa:∀b o,s.heap.get? b=some o->h₁.get? b=some o):
 Inv (pM X x N' scope cl qual f c' s H) [] (some v::σ) H { s with heap:=h₁,toks:=t' }:=by
 have ok:=I.ok
 have L:∀y,(scope.names.lookup y=some .cell\/scope.names.lookup y=some .free)->(y,NameKind.free)∈scope.names:=λy Y=>by
  rcases Y with Y|Y
  . exact absurd rfl (S.cell _ (PySem.mem_of_lookup Y))
  . exact PySem.mem_of_lookup Y
 refine⟨⟨ok.mod,S.kind,rfl,rfl,Q0 _,λy z c U e2=>ok.inj y z c (J y c U) (J z c e2),λy Y=>?_,λy c Y _=>(nomatch Y),λ_=>hd,Around.frames_deeper (show X.A.in1.in1.frames=some X.stack from ok.frames),.inr ⟨rfl,rfl⟩,λb hb=>absurd (show b∈([]:List Addr) from hb) (by simp),I.bs,Q0c ok.jU I.sz,
  λb o _ hb=>absurd (show b∈([]:List Addr) from hb) (by simp),λb hb=>absurd (show b∈([]:List Addr) from hb) (by simp),I.stack,I.qG⟩,
  rfl,I.bare,Un.kept aa,⟨_,hn,λi y v' U e2 e3=>?_⟩,λy c e=>?_,I.hok.fresh (Q0 _),λy c e=>I.ja y c (J y c e),λp hp=>absurd (show p∈([]:List (Addr × Obj)) from hp) (by simp),I.hok.kept aa,?_⟩
 . have hm:=L y Y;obtain⟨c,e⟩:=ok.has y (S.free _ hm rfl);exact⟨c,by rw[show(pM X x N' scope cl qual f c' s H).env.cells=cl from rfl,ab y hm];exact e⟩
 . cases i with
   |zero=>
    have U:some x=some y:=U
    cases U;have e2:some (some v)=some (some v'):=e2
    cases e2;exact⟨u,r,.inl ⟨S.loc,by simp⟩⟩
   |succ i=>
    have U:N'[i]? =some y:=by
     have U:(x::N')[i+1]? =some y:=U;simpa using U
    have e2:σ[i]? =some (some v'):=by simpa using e2
    have ho:X.N[i]? =some y/\scope.names.lookup y≠some .local:=by
     have e3:scope.names.lookup y=some .local\/scope.names.lookup y=some .cell\/scope.names.lookup y=some .free:=e3;rcases S.outer i y U with q|q
     . rw[q] at e3;rcases e3 with z|z|z <;> cases z
     . exact q
    have ae:scope.names.lookup y=some .cell\/scope.names.lookup y=some .free:=by
     rcases e3 with q|q
     . exact absurd q ho.2
     . exact q
    have hm:=L y ae;have af:=S.free _ hm rfl;obtain⟨mX,ah,ag⟩:=I.loc;obtain⟨u',r',lk⟩:=ag i y v' ho.1 e2 (.inr af);refine⟨u',r',.inr ⟨ae,?_⟩⟩;rcases lk with⟨q,_⟩|⟨_,c,ec,hc⟩
    . rcases af with z|z
      . rw[z] at q;cases q
      . rw[z] at q;cases q
    . obtain⟨o,ho,ac⟩:=hc;exact⟨c,(ab y hm).trans ec,o,aa _ _ ho,ac⟩
 . obtain⟨w',o,ho,ac⟩:=I.cell y c (J y c e);exact⟨w',o,aa _ _ ho,ac⟩
 . show _=(x::N').length;rw[Q0k,Q0k,I.len,S.len]
theorem BQ {x:Str}{N':List Str}{name qual:Str}{L:Arguments}{body:Expr}{scope:Scope}{cl:List (Str × Addr)}{f c':Addr}{pm U:Value}{v:V}{u:Value}{te:TE}{Q:VK}{E:Value->Shared->Prop}(I:Inv X pins σ H s)(S:lH X x N' scope)(hd:X.A.handled=none)(aa:X.A.depth<recursionLimit)
 (ab:∀y c,cl.lookup y=some c->X.env.cells.lookup y=some c) (ac:∀y,(y,NameKind.free)∈scope.names->cl.lookup y=X.env.cells.lookup y) (hf:(f,W.kla_obj name qual L body scope cl pm c' U)∈pins) (hc:H c'=some (.ext (oo c' qual)))
 (hb:∀u:Value,bindArgs (W.kla_fn name qual L body scope cl pm (.ref c') U) ⟨[u],[]⟩=pure [(x,u)]) (r:RelV v u) (he:∀(s:Shared) (H:Hp),PE (pM X x N' scope cl qual f c' s H) body te) (h:te (some v::σ) H Q):
 wpAny (model X.prog X.w) X.A.in1.in1 (call (.ref f) [u]) (EP X pins σ Q) E s:=by
 obtain⟨p1,p2,p3,p4,p5⟩:=I.pin _ (Q07 _ hf);refine wpAny_call (W.kla_callFunE aa p1 rfl S.co S.gen rfl (I.hok c' _ hc).1 ?_);rw[hb];refine Q0d (wpAny_newFunctionEnv S.cell (λy hy=>?_) (λh₁ ae af=>?_) S.kind)
 . have e:y=(x,u):=by simpa using hy
   subst e;exact S.loc
 have Y:∀b o,s.heap.get? b=some o->h₁.get? b=some o:=λb o e=>af.extBut b o (Q08 (Q02 e)) (Q09 _ e);refine⟨I.nolimit.keeps Y,?_⟩;show codeAny _ _ (.expr body (q_ qual scope cl f c' s)) _ _;have J:=I.lam (t':=s.toks+([(x,u)]:List (Str × Value)).length) (qual:=qual) (f:=f) (c':=c') S hd ab ac r ae Y;refine W.kla_codeExpr (Q0n (he s H [] _ _ H Q J h) (λu' s' hq=>?_) λe s' hF=>hF.elim);obtain⟨v',H',J',rv,q⟩:=hq;exact I.after ⟨v',H',J'.os,J'.bare,J'.base,J'.hok,rv,q⟩
end
section
variable {X:Cx}{pins:List (Addr × Obj)}{σ:St}{H:Hp}{s:Shared}
def Asks (prog:Program) (w:World) (A:Around) (s:Shared) (us:List Value) {O:KeyOrd}(key:Nat->O.α):Prop:=
 2<=us.length->wpAny (model prog w) A (keyKind' us.toArray) (λκ s'=>s'=s/\∀(i j:Nat) (C:Bool->Shared->Prop),i<us.length->j<us.length->C (O.blt (key i) (key j)) s->W.kas_ask prog w A κ us i j C s) (λ_ _=>False) s
theorem BR {xs:List V}{vs:List Value}(r:Vals xs vs):∀p:List Nat,Vals (p.map λi=>xs.getD i .non) (p.map λi=>vs.getD i Value.none)
 |[]=>.nil
 |i::p=>by
  refine .cons ?_ (BR r p);show RelV (xs.getD i .non) (vs.getD i Value.none);rw[Q0b,Q0b]
  cases e:xs[i]? with
  |none=>
   rw[r.none_of e];exact rfl
  |some x=>
   obtain⟨u,J,L⟩:=r.get e;rw[J];exact L
theorem BS {α:Type}(a0:α)(l:List α):((List.range l.length).map λi=>l.getD i a0)=l:=by
 apply Q2h
 . simp
 . intro i h1 h2;simp[h2]
theorem Ik {us vs:List Value}(hl:us.length=vs.length):((List.toArray us).zip (List.toArray vs)).map (·.2)=List.toArray vs:=by
 apply Array.toList_inj.mp;rw[Array.toList_map,ksk_zip];show List.map Prod.snd (us.zip vs)=vs;exact List.map_snd_zip (by omega)
theorem Il {α:Type}{R:α->α->Prop}(key:Nat->α){n:Nat}(h:n<2):((List.range n).map key).Pairwise R:=by
 have:n=0\/n=1:=by omega
 rcases this with rfl|rfl
 . exact List.Pairwise.nil
 . exact Q2i _ _
noncomputable abbrev lo (xs:List Value) (n:Nat):Obj:=seqObj "list" (List.toArray xs) n
theorem BU {E:Value->Shared->Prop}{kS D:Addr}{us:List Value}{e U:Nat}{st:SortSt}{out:List Value}{outV:List V}{P:PySem.Fin->Shared->Prop}{A:Around}(I:Inv X (pins++[(kS,lo us e),(D,lo [] U)]) σ H s)(fK:iX X pins H kS)(fD:iX X pins H D)(aa:kS≠D)(ac:us.length<64)(ho:out.length<64)
 (L:(arrOf st).map (·.2)=List.toArray out) (hf:failedOf st=none) (rv:Vals outV out)
 (h:∀s',Inv X pins σ (upd H D (.lst outV)) s'->P (.done (.ret .none)) s'):wpAny (model X.prog X.w) A (ksk_tail D false U (.ref kS) st) P E s:=by
 have nk:=(I.pin (kS,lo us e) (Q07 _ (Q07 _ (Q01)))).1;have nD:=(I.pin (D,lo [] U) (Q07 _ (Q07 _ (Q04 _ Q01)))).1;have s1:=Heap.SameBut.update s.heap kS (Obj.mapSeq λ_=>(#[]:Array Value));have J:(s.heap.update kS (Obj.mapSeq λ_=>(#[]:Array Value))).get? D=some (lo [] U):=(s1.2 D aa.symm).trans nD;have s2:=Heap.SameBut.update (s.heap.update kS (Obj.mapSeq λ_=>(#[]:Array Value))) D (Obj.mapSeq λ_=>List.toArray out);obtain⟨Y,ab⟩:∃Y,((s.heap.update kS (Obj.mapSeq λ_=>(#[]:Array Value))).update D (Obj.mapSeq λ_=>List.toArray out)).get? D=some (lo out Y):=⟨_,get?_update_seq J λ_=>List.toArray out⟩;have I1:Inv X pins σ H { s with heap:=s.heap.update kS (Obj.mapSeq λ_=>(#[]:Array Value)) }:=I.ly.own (t':=s.toks) fK s1
 have I2:Inv X pins σ (upd H D (.lst outV)) { s with heap:=(s.heap.update kS (Obj.mapSeq λ_=>(#[]:Array Value))).update D (Obj.mapSeq λ_=>List.toArray out) }:=
  I1.adopt (t':=s.toks) fD (λc u hc q=>(s2.2 c hc).trans q) ⟨by rw[rv.length];exact Q0s (g_ (by omega)),out,Y,rv,ab⟩
 unfold ksk_tail
 try dsimp only
 rw[L];refine Q00 (listUpdate_at nk rfl ?_ (by rw[Q06,sizeLine_eq];omega) (Q0a _));refine Q00 (wpAny_letGo ?_);refine Q00 (seqEpoch_at J rfl ?_);refine Q00 (listUpdate_at J rfl ?_ (Q0a _) (by show(List.toArray out).size<=_;rw[Q06,sizeLine_eq];omega));rw[hf];simp only[bne_self_eq_false,Bool.false_eq_true,if_false];exact Q0d (h _ I2)
theorem Im {E:Value->Shared->Prop}{kS D:Addr}{us vs:List Value}{xs:List V}{e e1:Nat}{P:PySem.Fin->Shared->Prop}{A:Around}{O:KeyOrd}{key:Nat->O.α}(I:Inv X (pins++[(kS,lo us e),(D,lo [] e1)]) σ H s)(fK:iX X pins H kS)(fD:iX X pins H D)(ab:kS≠D)
 (hl:us.length=vs.length) (Y:vs.length<64) (rv:Vals xs vs) (ask:Asks X.prog X.w A s us key)
 (h:∀(p:List Nat),p.Perm (List.range vs.length)->(p.map key).Pairwise O.kle->∀s',Inv X pins σ (upd H D (.lst (p.map λi=>xs.getD i .non))) s'->P (.done (.ret .none)) s'):
 wpAny (model X.prog X.w) A (ksk_end D false (List.toArray vs) e1 (.ref kS) (List.toArray us)) P E s:=by
 unfold ksk_end
 try dsimp only
 simp only[Bool.false_eq_true,if_false];by_cases h2:vs.toArray.size<2
 . rw[if_pos h2,if_pos h2];have aa:vs.length<2:=by simpa using h2
   refine Q00 (Q0d ?_);rw[StateT.run_pure];refine Q00 (Q0d ?_)
   try dsimp only
   have ac:xs.length=vs.length:=rv.length
   have ez:((List.range vs.length).map λi=>xs.getD i .non)=xs:=by
    rw[<-ac];exact BS _ xs
   refine BU (out:=vs) (outV:=xs) (st:=SortSt.mk' general' ((List.toArray us).zip (List.toArray vs)) #[] 7 none) I fK fD ab (by omega) Y (Ik hl) rfl rv λs' J=>?_;have q:=h (List.range vs.length) (List.Perm.refl _) (Il key aa) s';rw[ez] at q;exact q J
 . rw[if_neg h2,if_neg h2];have aa:2<=vs.length:=by simpa using h2
   refine Q00 (Q0n (ask (by omega)) (λκ s' hk=>?_) λ_ _ hF=>hF.elim);obtain⟨rfl,hk⟩:=hk;obtain⟨k1,k2⟩:=lC.Ih (key:=key) (n:=vs.length) (by omega)
   refine Q00 (Q0n (W.kat_run (κ:=κ) (ks:=us) (vs:=vs) (Q:=λU L=>L=s'/\arrOf U=(lC.gv (lC.gz key) (W.kas_sort vs.length)).map (W.kas_item ((List.toArray us).zip vs.toArray))/\failedOf U=none)
    (G:=λp L=>L=s'/\p=lC.gv (lC.gz key) (W.kas_sort vs.length)) hl aa Y (λp U L _ a2 a3 a4=>⟨a4.1,by rw[a2,a4.2],a3⟩)
    (lC.By (f:=lC.gz key) (λi j C hi hj q=>hk i j C (by omega) (by omega) q) (lC.Ic (by omega)) ⟨rfl,rfl⟩)) ?_ λ_ _ x=>x)
   rintro⟨⟨⟩,U⟩ L ⟨rfl,ae,af⟩
   try dsimp only
   refine BU I fK fD ab (by omega) (by rw[Q05,k1.length_eq,Q1z];exact Y) (W.kat_snds hl ae) af (BR rv _) λs' J=>h _ k1 k2 s' J
theorem Io {prog:Program}{w:World}{A:Around}{E:Value->Shared->Prop}{s:Shared}{l:Addr}{vs:List Value}{Q:List Value->Shared->Prop}(hl:IsTup s.heap l vs.toArray)
 (h:Q vs { s with heap:=(s.heap.push (seqObj "list" #[] 0)).update s.heap.objs.size (Obj.mapSeq (· ++vs.toArray)) }) (hsz:vs.length<=sizeLine):
 wpAny (model prog w) A (collect (.ref l)) Q E s:=by
 obtain⟨o,L,hc,n,U⟩:=id hl;unfold collect;refine Q00 (wpAny_runValue (codeAny_builtin entry_proto_collect' ?_));refine Q00 (wpAny_newList (Q0d ⟨Code.quiet_builtin _ (by decide +kernel),codeAny_builtin entry_list_iadd' ?_⟩));change wpAny _ _ (Builtin.List.listExtendWith (.ref s.heap.objs.size) (.ref l) (.ref s.heap.objs.size)) _ _ { s with heap:=s.heap.push (seqObj "list" #[] 0) };unfold Builtin.List.listExtendWith;have J:(s.heap.push (seqObj "list" #[] 0)).get? l=some o:=Q09 _ L;refine Q00 (wpAny_typeOf (T:="tuple") ⟨o,J,hc⟩ ?_);have Y:(Value.type "tuple" == Value.type "tuple")=true:=by rfl
 rw[if_pos (by rw[Y];simp)];refine Q00 (listItems_at J U ?_);refine Q00 (listItems_at (xs:=#[]) (n:=0) (Q0j _ rfl) rfl ?_);rw[if_neg (by simp)];refine Q00 (listUpdate_at (xs:=#[]) (n:=0) (Q0j _ rfl) rfl ?_ (Q0a _) (by show(#[]++vs.toArray).size<=sizeLine+1;simp only[Q2y,Q06,Q2v];omega));refine Q0d ?_;refine Q00 (wpAny_load (get?_update_seq (Q0j _ rfl) _) ?_);change wpAny _ _ (pure ((#[]:Array Value)++vs.toArray).toList) Q E _;rw[show((#[]:Array Value)++vs.toArray).toList=vs by simp];exact Q0d h
theorem Iq {E:Value->Shared->Prop}{f a:Addr}{xs:List V}{Q:VK}{W:List V->Hp->Prop}(I:Inv X pins σ H s)(hq:fv X.K H a xs\/d_ X.K H a xs)(ar:xs.length<64)(w0:W [] H)
 (turn:∀(pl:List (Addr × Obj)) (s':Shared) (H':Hp) (ks:List V) (y:V) (u:Value),Inv X (pins++pl) σ H' s'->W ks H'->xs[ks.length]? =some y->RelV y u->
   wpAny (model X.prog X.w) X.A.in1.in1 (call (.ref f) [u]) (EP X (pins++pl) σ λk aa=>W (ks++[k]) aa) (λ_ _=>False) s')
 (fin:∀(pl:List (Addr × Obj)) (s':Shared) (H':Hp) (ks:List V) (us:List Value),Inv X (pins++pl) σ H' s'->W ks H'->ks.length=xs.length->Vals ks us->∃(O:KeyOrd) (key:Nat->O.α),Asks X.prog X.w X.A.in1.in1 s' us key/\
   ∀p:List Nat,p.Perm (List.range xs.length)->(p.map key).Pairwise O.kle->∀D,H' D=none->Q (.ref D) (upd H' D (.lst (p.map λi=>xs.getD i .non)))):
 wpAny (model X.prog X.w) X.A (call (.builtin "sorted") [.ref a] [(Str.ofString "key",.ref f)]) (EP X pins σ Q) E s:=by
 obtain⟨vs,rv,al⟩:∃vs,Vals xs vs/\∀{A:Around} {E:Value->Shared->Prop} {Q:List Value->Shared->Prop},Q vs { s with heap:=(s.heap.push (seqObj "list" #[] 0)).update s.heap.objs.size (Obj.mapSeq (· ++vs.toArray)) }->vs.length<=sizeLine->wpAny (model X.prog X.w) A (collect (.ref a)) Q E s:=by
  rcases hq with hq|hq
  . obtain⟨vs,rv,pl,hz⟩:=I.list hq;exact⟨vs,rv,λh1 h2=>collect_list pl.isList h1 h2⟩
  . obtain⟨vs,rv,pl,hz⟩:=I.tuple hq;exact⟨vs,rv,λh1 h2=>Io pl h1 h2⟩
 have hl:xs.length=vs.length:=rv.length;refine call_function_entry_kw kind_sorted plain_sorted entry_sorted (ksk_s1 _ _) ?_;unfold Builtin.«sorted»;refine Q00 (m:=checkCount "sorted" 1 1 _) (Q0d ?_);refine Q00 (al ?_ (by rw[sizeLine_eq];omega));refine Q00 (wpAny_newList ?_ (by rw[sizeLine_eq];omega))
 have hsz:((s.heap.push (seqObj "list" #[] 0)).update s.heap.objs.size (Obj.mapSeq (· ++vs.toArray))).objs.size=s.heap.objs.size+1:=by
  rw[Q2j,size_push']
 have U:(((s.heap.push (seqObj "list" #[] 0)).update s.heap.objs.size (Obj.mapSeq (· ++vs.toArray))).push (seqObj "list" vs.toArray 0)).get? (s.heap.objs.size+1)=some (seqObj "list" vs.toArray 0):=by
  rw[<-hsz];exact Q0j _ rfl
 have keep:∀b o,s.heap.get? b=some o->(((s.heap.push (seqObj "list" #[] 0)).update s.heap.objs.size (Obj.mapSeq (· ++vs.toArray))).push (seqObj "list" vs.toArray 0)).get? b=some o:=λb o q=>by
  have ac:b<s.heap.objs.size:=Q02 q;rw[Q2z _ _ _ (by rw[hsz];exact Q08 (Q2k ac)),Heap.get?_update_ne _ _ _ _ (Q08 ac),Q2z _ _ _ (Q08 ac)];exact q
 show wpAny _ _ _ _ _ { s with heap:=((s.heap.push (seqObj "list" #[] 0)).update s.heap.objs.size (Obj.mapSeq (· ++vs.toArray))).push (seqObj "list" vs.toArray 0) };rw[hsz];generalize hG:((s.heap.push (seqObj "list" #[] 0)).update s.heap.objs.size (Obj.mapSeq (· ++vs.toArray))).push (seqObj "list" vs.toArray 0)=G at U keep ⊢;have am:G.objs.size=s.heap.objs.size+2:=by rw[<-hG,size_push',hsz]
 have I1:Inv X pins σ H { s with heap:=G }:=I.kept (t':=s.toks) keep;refine Q00 (wpAny_holding (wpAny_call_entry_kw slot_list_sort ⟨_,U,rfl⟩ entry_list_sort ?body (ksk_l1 _ _)))
 case body=>
  show wpAny (model X.prog X.w) X.A.in1.in1 (Builtin.«list.sort» ⟨[.ref (s.heap.objs.size+1)],[(Str.ofString "key",.ref f)]⟩) _ _ _;rw[ksk_t1];unfold ksk_tree;generalize hD:s.heap.objs.size+1=D at U ⊢;have af:s.heap.objs.size<=D:=by omega
  have s1:=Heap.SameBut.update G D (Obj.mapSeq λ_=>(#[]:Array Value));obtain⟨e1,ag⟩:∃e1,(G.update D (Obj.mapSeq λ_=>(#[]:Array Value))).get? D=some (lo [] e1):=⟨_,get?_update_seq U λ_=>#[]⟩;refine Q00 (listItems_at U rfl ?_);refine Q00 (listUpdate_at U rfl ?_ (by rw[Q06,sizeLine_eq];omega) (Q0a _));refine Q00 (seqEpoch_at ag rfl ?_);refine Q00 (wpAny_newTuple ?_ (by show vs.length<=_;rw[sizeLine_eq];omega));refine Q00 (wpAny_newList ?_ (Q0a _));refine wpAny_holding ?_;show wpAny (model X.prog X.w) X.A.in1.in1 _ _ _ { s with heap:=((G.update D (Obj.mapSeq λ_=>(#[]:Array Value))).push (seqObj "tuple" vs.toArray 0)).push (seqObj "list" #[] 0) };generalize ah:((G.update D (Obj.mapSeq λ_=>(#[]:Array Value))).push (seqObj "tuple" vs.toArray 0)).objs.size=kS;have aq:kS=s.heap.objs.size+3:=by rw[<-ah,size_push',Q2j,am]
  have ai:kS≠D:=by omega
  have L:iX X pins H D:=I.mS af (I.hok.fresh af);have ab:iX X pins H kS:=I.mS (by omega) (I.hok.fresh (by omega))
  have ae:∀b o,b≠D->G.get? b=some o->(((G.update D (Obj.mapSeq λ_=>(#[]:Array Value))).push (seqObj "tuple" vs.toArray 0)).push (seqObj "list" #[] 0)).get? b=some o:=λb o hb q=>
   Q09 _ (Q09 _ ((s1.2 b hb).trans q))
  have I2:Inv X pins σ H { s with heap:=((G.update D (Obj.mapSeq λ_=>(#[]:Array Value))).push (seqObj "tuple" vs.toArray 0)).push (seqObj "list" #[] 0) }:=
   Inv.turned (s:={ s with heap:=G }) (t':=s.toks) (it:=D) I1 ae L.1 L.2.1 L.2.2.2.1 L.2.2.2.2.1 L.2.2.2.2.2
  have hK:(((G.update D (Obj.mapSeq λ_=>(#[]:Array Value))).push (seqObj "tuple" vs.toArray 0)).push (seqObj "list" #[] 0)).get? kS=some (lo [] 0):=by rw[<-ah];exact Q0j _ rfl
  have aj:(((G.update D (Obj.mapSeq λ_=>(#[]:Array Value))).push (seqObj "tuple" vs.toArray 0)).push (seqObj "list" #[] 0)).get? D=some (lo [] e1):=Q09 _ (Q09 _ ag);generalize ((G.update D (Obj.mapSeq λ_=>(#[]:Array Value))).push (seqObj "tuple" vs.toArray 0)).push (seqObj "list" #[] 0)=G2 at I2 hK aj ⊢
  have pinned:∀{H':Hp} {s':Shared} {us:List Value} {e:Nat},Inv X pins σ H' s'->s'.heap.get? kS=some (lo us e)->s'.heap.get? D=some (lo [] e1)->H' kS=none->H' D=none->Inv X (pins++[(kS,lo us e),(D,lo [] e1)]) σ H' s':=λ{H' s' us e} J k1 k2 n1 n2=>
   J.mO λp hp=>(List.mem_append.mp hp).elim (λz=>J.pin p (Q07 _ z)) λz=>by
     have z:p=(kS,lo us e)\/p=(D,lo [] e1):=by simpa using z
     rcases z with rfl|rfl
     . exact⟨k1,n1,ab.2.1,ab.2.2.1,by intro v z;cases z⟩
     . exact⟨k2,n2,L.2.1,L.2.2.1,by intro v z;cases z⟩
  have own:∀{H':Hp} {b:Addr},(b=kS\/b=D)->H' b=none->iX X pins H' b:=λ{H' b} hb n=>by
   rcases hb with rfl|rfl
   . exact⟨n,ab.2⟩
   . exact⟨n,L.2⟩
  unfold ksk_rest;refine Q00 (wpAny_rule ?_)
  first
   |rw[List.forIn_toArray]
   |(rw[<-Q3];simp only[List.toList_toArray])
   |rw[<-Q3]
  refine Q00 (ksk_fold (λi s'=>∃ks us e H',Inv X (pins++[(kS,lo us e),(D,lo [] e1)]) σ H' s'/\Vals ks us/\ks.length=i/\i<=vs.length/\W ks H') vs 0 _
   ⟨[],[],0,H,pinned I2 hK aj ab.1 L.1,.nil,rfl,Q0a _,w0⟩ (λj x s' hx hJ=>?_) λs' hJ=>?_)
  . obtain⟨ks,us,e,H',J,rk,hi,an,wk⟩:=hJ;have hi:ks.length=j:=by omega
    have hj:j<vs.length:=(List.getElem?_eq_some_iff.mp hx).1;have ak:j<xs.length:=by omega
    obtain⟨u,hu,ru⟩:=rv.get (Q03 ak);rw[hx] at hu;cases hu;refine Q00 (wpAny_attempt (Q0n (turn _ s' H' ks (xs[j]) x J wk (by rw[hi];exact Q03 ak) ru) (λk Y hk=>?_) λ_ _ hF=>hF.elim));obtain⟨kv,aa,J',ao,w'⟩:=hk;have pk:=J'.pin (kS,lo us e) (Q07 _ (Q07 _ (Q01)));have pD:=J'.pin (D,lo [] e1) (Q07 _ (Q07 _ (Q04 _ Q01)));have au:us.length=ks.length:=rk.length.symm;have s2:=Heap.SameBut.update Y.heap kS (Obj.mapSeq (·.push k));have ea:(List.toArray us).push k=List.toArray (us++[k]):=by simp
    obtain⟨c2,ap⟩:∃c2,(Y.heap.update kS (Obj.mapSeq (·.push k))).get? kS=some (lo (us++[k]) c2):=⟨_,by show _=some (seqObj "list" (List.toArray (us++[k])) _);rw[<-ea];exact get?_update_seq pk.1 (·.push k)⟩
    try dsimp only
    refine Q00 (listUpdate_at pk.1 rfl ?_ (by rw[Q06,sizeLine_eq];omega) (Q0c (Q1w (Array.size_push ..)) (by rw[Q06,sizeLine_eq];omega)));have J2:Inv X pins σ aa { Y with heap:=Y.heap.update kS (Obj.mapSeq (·.push k)) }:=J'.ly.own (t':=Y.toks) (own (.inl rfl) pk.2.1) s2;refine Q0d ⟨rfl,ks++[kv],us++[k],c2,aa,pinned J2 ap ((s2.2 D ai.symm).trans pD.1) pk.2.1 pD.2.1,rk.append (.cons ao .nil),by rw[Q0e,Q1k];omega,by omega,w'⟩
  . obtain⟨ks,us,e,H',J,rk,hi,an,wk⟩:=hJ;have hi:ks.length=vs.length:=by omega
    have pk:=J.pin (kS,lo us e) (Q07 _ (Q07 _ (Q01)));have pD:=J.pin (D,lo [] e1) (Q07 _ (Q07 _ (Q04 _ Q01)))
    try dsimp only
    refine Q00 (listItems_at pk.1 rfl ?_);obtain⟨O,key,ask,q⟩:=fin _ s' H' ks us J wk (by omega) rk;refine Im J (own (.inl rfl) pk.2.1) (own (.inr rfl) pD.2.1) ai (by rw[<-rk.length];exact hi) (by omega) rv ask λp p1 p2 Y J'=>?_;exact⟨_,rfl,Q0d ⟨_,rfl,.ref D,_,J',rfl,q p (by rw[hl];exact p1) p2 D pD.2.1⟩⟩
theorem BV {E:Value->Shared->Prop}{f a:Addr}{xs:List V}{Q:VK}{W:List V->Hp->Prop}(I:Inv X pins σ H s)(U:fv X.K H a xs)(J:xs.length<64)(Y:W [] H)
 (turn:∀(pl:List (Addr × Obj)) (s':Shared) (H':Hp) (ks:List V) (y:V) (u:Value),Inv X (pins++pl) σ H' s'->W ks H'->xs[ks.length]? =some y->RelV y u->
   wpAny (model X.prog X.w) X.A.in1.in1 (call (.ref f) [u]) (EP X (pins++pl) σ λk L=>W (ks++[k]) L) (λ_ _=>False) s')
 (fin:∀(pl:List (Addr × Obj)) (s':Shared) (H':Hp) (ks:List V) (us:List Value),Inv X (pins++pl) σ H' s'->W ks H'->ks.length=xs.length->Vals ks us->∃(O:KeyOrd) (key:Nat->O.α),Asks X.prog X.w X.A.in1.in1 s' us key/\
   ∀p:List Nat,p.Perm (List.range xs.length)->(p.map key).Pairwise O.kle->∀D,H' D=none->Q (.ref D) (upd H' D (.lst (p.map λi=>xs.getD i .non)))):
 wpAny (model X.prog X.w) X.A (call (.builtin "sorted") [.ref a] [(Str.ofString "key",.ref f)]) (EP X pins σ Q) E s:=Iq I (.inl U) J Y turn fin
end
noncomputable def jd:Key->Key->Bool
 | .inl i,.inl j=>decide (i<j)
 | .inl _,.inr _=>true
 | .inr _,.inl _=>false
 | .inr x,.inr y=>decide (x.cps.toList<y.cps.toList)
theorem Ir (a:Key):jd a a=false:=by
 cases a with
 |inl i=>simp[jd]
 |inr x=>simpa[jd] using Q30 x.cps.toList
theorem Iu {a b c:Key}(h1:jd a b=true)(h2:jd b c=true):jd a c=true:=by
 cases a <;> cases b <;> cases c <;> simp only[jd,decide_eq_true_eq,Bool.false_eq_true] at * <;> first|omega|exact List.lt_trans h1 h2
theorem Iv {x y:Str}(h:x.cps.toList=y.cps.toList):x=y:=by
 cases x;cases y;simp only[Str.mk.injEq];exact Array.toList_inj.mp h
theorem Iw (a b:Key):jd a b=true\/a=b\/jd b a=true:=by
 cases a with
 |inl i=>
  cases b with
  |inl j=>
   simp only[jd,decide_eq_true_eq];rcases Int.lt_trichotomy i j with h|h|h
   . exact .inl h
   . exact .inr (.inl (by rw[h]))
   . exact .inr (.inr h)
  |inr y=>exact .inl rfl
 |inr x=>
  cases b with
  |inl j=>exact .inr (.inr rfl)
  |inr y=>
   simp only[jd,decide_eq_true_eq];by_cases h1:x.cps.toList<y.cps.toList
   . exact .inl h1
   . by_cases h2:y.cps.toList<x.cps.toList
     . exact .inr (.inr h2)
     . exact .inr (.inl (by rw[Iv (List.le_antisymm (List.not_lt.mp h2) (List.not_lt.mp h1))]))
theorem Iy {a b:Key}(h:jd a b=true):a≠b:=λe=>by
 rw[e,Ir] at h;cases h
noncomputable def gU:List Key->List Key->Bool
 |[],[]=>false
 |[],_::_=>true
 |_::_,[]=>false
 |x::xs,y::ys=>if x=y then gU xs ys else jd x y
theorem ra:∀a:List Key,gU a a=false
 |[]=>rfl
 |x::xs=>by
  show(if x=x then gU xs xs else jd x x)=false;rw[if_pos rfl];exact ra xs
theorem oq (x y:Key)(xs ys:List Key):gU (x::xs) (y::ys)=if x=y then gU xs ys else jd x y:=rfl
theorem ot:∀(a b c:List Key),gU a b=true->gU b c=true->gU a c=true
 |[],[],_,h,_=>by cases h
 |[],_::_,[],_,h=>by cases h
 |[],_::_,_::_,_,_=>rfl
 |_::_,[],_,h,_=>by cases h
 |_::_,_::_,[],_,h=>by cases h
 |x::xs,y::ys,z::zs,h1,h2=>by
  rw[oq] at *;by_cases L:x=y
  . subst L;rw[if_pos rfl] at h1;by_cases J:x=z
    . rw[if_pos J] at h2 ⊢;exact ot xs ys zs h1 h2
    . rw[if_neg J] at h2 ⊢;exact h2
  . rw[if_neg L] at h1;by_cases J:y=z
    . subst J;rw[if_neg L];exact h1
    . rw[if_neg J] at h2;have q:=Iu h1 h2;rw[if_neg (Iy q)];exact q
theorem pN:∀a b:List Key,gU a b=true\/a=b\/gU b a=true
 |[],[]=>.inr (.inl rfl)
 |[],_::_=>.inl rfl
 |_::_,[]=>.inr (.inr rfl)
 |x::xs,y::ys=>by
  rw[oq,oq];by_cases e:x=y
  . subst e;rw[if_pos rfl,if_pos rfl];rcases pN xs ys with h|h|h
    . exact .inl h
    . exact .inr (.inl (by rw[h]))
    . exact .inr (.inr h)
  . rw[if_neg e,if_neg (λz=>e z.symm)];rcases Iw x y with h|h|h
    . exact .inl h
    . exact absurd h e
    . exact .inr (.inr h)
@[reducible] noncomputable def ou:KeyOrd where
  α:=List Key
  blt:=gU
  irrefl:=ra
  trans:=ot
  negTrans a b c h:=by
   rcases pN a b with q|q|q
   . exact .inl q
   . exact .inr (by rw[<-q];exact h)
   . exact .inr (ot b a c q h)
  total a b h1 h2:=by
   rcases pN a b with q|q|q
   . rw[h1] at q;cases q
   . exact q
   . rw[h2] at q;cases q
def kq (a b:List Key):Prop:=gU b a=false
noncomputable def g6:Key->Bool
 | .inl _=>true
 | .inr _=>false
def BW (J:List (List Key)):Prop:=∃L:List Bool,L≠[]/\∀U∈J,U.map g6=L
def nr (H:Hp):List V->List (List Key)->Prop:=Paired λk J=>∃p,k=.ref p/\H p=some (.tup (J.map kV))
section
variable {X:Cx}{pins:List (Addr × Obj)}{σ:St}{H:Hp}{s:Shared}
theorem nt {k:Key}{u:Value}(r:RelV (kV k) u):(∃i t,k=.inl i/\u=.int i t)\/∃x t,k=.inr x/\u=.str x t:=by
 cases k with
 |inl i=>
  obtain⟨t,rfl⟩:=r;exact .inl ⟨i,t,rfl,rfl⟩
 |inr x=>
  obtain⟨t,rfl⟩:=r;exact .inr ⟨x,t,rfl,rfl⟩
theorem uB {prog:Program}{w:World}{A:Around}{C:Bool->Shared->Prop}:∀(U Y:List Key) (J L:List Value) (i:Nat),Vals (U.map kV) J->Vals (Y.map kV) L->U.map g6=Y.map g6->C (gU U Y) s->
 W.KatLex prog w A true false C (J.zip L) i s
 |[],[],J,L,i,r1,r2,_,q=>by
  cases r1;cases r2;exact W.kat_nil q
 |[],_::_,_,_,_,_,_,h,_=>by cases h
 |_::_,[],_,_,_,_,_,h,_=>by cases h
 |x::xs,y::ys,J,L,i,r1,r2,h,q=>by
  cases r1 with
  |cons a1 b1=>
  cases r2 with
  |cons a2 b2=>
  have h1:g6 x=g6 y:=(List.cons.inj h).1;have h2:xs.map g6=ys.map g6:=(List.cons.inj h).2;rw[oq] at q;rcases nt a1 with⟨m,t,rfl,rfl⟩|⟨m,t,rfl,rfl⟩ <;> rcases nt a2 with⟨n,t',rfl,rfl⟩|⟨n,t',rfl,rfl⟩
  . refine W.kat_cons (wpAny_eqBool_int ?_);by_cases e:m=n
    . subst e;rw[if_pos rfl] at q;rw[beq_self_eq_true];exact W.kat_yes (uB xs ys _ _ (i+1) b1 b2 h2 q)
    . rw[if_neg (λz=>e (Sum.inl.inj z))] at q;rw[beq_false_of_ne e];refine W.kat_no ?_
      cases hi:(i == 0) with
      |true=>exact oneLt_int q
      |false=>exact W.kat_one _ _ (lt_int q)
  . cases h1
  . cases h1
  . refine W.kat_cons (wpAny_eqBool_str ?_);by_cases e:m=n
    . subst e;rw[if_pos rfl] at q;rw[decide_eq_true rfl];exact W.kat_yes (uB xs ys _ _ (i+1) b1 b2 h2 q)
    . rw[if_neg (λz=>e (Sum.inr.inj z))] at q;rw[decide_eq_false e];refine W.kat_no ?_
      cases hi:(i == 0) with
      |true=>exact oneLt_str q
      |false=>exact W.kat_one _ _ (lt_str q)
theorem BX {ks:List V}{us:List Value}{J:List (List Key)}(I:Inv X pins σ H s)(r:Vals ks us)(hk:nr H ks J){i:Nat}(hi:i<us.length):
 ∃p L,us.getD i Value.none=.ref p/\IsTup s.heap p (List.toArray L)/\Vals ((J.getD i []).map kV) L/\J.getD i []∈J:=by
 have hl:=r.length;have aa:ks.length=J.length:=Paired.length hk;have e1:ks[i]? =some (ks[i]'(by omega)):=Q03 (by omega);obtain⟨u,hu,U⟩:=r.get e1;have Y:J.getD i []=J[i]'(by omega):=by rw[Q0b,Q03 (by omega)];rfl
 have key:∀(ks:List V) (J:List (List Key)),nr H ks J->∀i (h1:i<ks.length) (h2:i<J.length),∃p,ks[i]=.ref p/\H p=some (.tup (J[i].map kV)):=by
  intro ks J hk
  induction hk with
  |nil=>intro i h1;simp at h1
  |cons a b ih=>
   intro i h1 h2
   cases i with
   |zero=>exact a
   |succ i=>simpa using ih i (by simpa using h1) (by simpa using h2)
 obtain⟨p,hp,hH⟩:=key ks J hk i (by omega) (by omega);rw[hp] at U
 cases U;obtain⟨L,rv,tp,_⟩:=I.tuple (d_.of hH);refine⟨p,L,by rw[Q0b,hu];rfl,tp,by rw[Y];exact rv,by rw[Y];exact Q11 _⟩
theorem BY (I:Inv X pins σ H s){t:Bool}:∀{ks:List V}{us:List Value}{J:List (List Key)},Vals ks us->nr H ks J->(∀L∈J,∃k r,L=k::r/\g6 k=t)->
 ∃fs,W.KatTups s.heap us fs/\fs.length=us.length/\∀v∈fs,(t=true/\∃i tk,v=.int i tk)\/(t=false/\∃x tk,v=.str x tk)
 |_,_,_,.nil,.nil,_=>⟨[],W.KatTups.nil,rfl,λv U=>nomatch U⟩
 |_,_,_,.cons a r,.cons b q,h=>by
  obtain⟨p,rfl,hp⟩:=b
  cases a;obtain⟨fs,Y,f2,f3⟩:=BY I r q λL hm=>h L (Q04 _ hm);obtain⟨k,rr,rfl,hk⟩:=h _ Q01;obtain⟨aa,rv,⟨o,ho,hc,n,hd⟩,_⟩:=I.tuple (d_.of hp)
  cases rv with
  |cons a1 b1=>
   refine⟨_::fs,W.KatTups.cons ho hc hd (by simp;rfl) Y,by rw[Q0k,Q0k,f2],λv U=>?_⟩;rcases List.mem_cons.mp U with e|e
   . subst e;rcases nt a1 with⟨i,tk,rfl,rfl⟩|⟨x,tk,rfl,rfl⟩
     . exact .inl ⟨hk.symm,i,tk,rfl⟩
     . exact .inr ⟨hk.symm,x,tk,rfl⟩
   . exact f3 v e
theorem Iz {A:Around}{ks:List V}{us:List Value}{J:List (List Key)}(I:Inv X pins σ H s)(r:Vals ks us)(hk:nr H ks J)(aa:BW J):Asks X.prog X.w A s us (O:=ou) (λi=>J.getD i []):=by
 intro h2;obtain⟨ts,ab,L⟩:=aa
 obtain⟨t,tr,rfl⟩:∃t tr,ts=t::tr:=by
  cases ts with
  |nil=>exact absurd rfl ab
  |cons t tr=>exact⟨t,tr,rfl⟩
 have hh:∀kl∈J,∃k r,kl=k::r/\g6 k=t:=λkl hm=>by
  have e:=L kl hm
  cases kl with
  |nil=>cases e
  |cons k r=>exact⟨k,r,rfl,(List.cons.inj e).1⟩
 obtain⟨fs,f1,f2,f3⟩:=BY I r hk hh
 have fin:∀(i j:Nat) (C:Bool->Shared->Prop),i<us.length->j<us.length->C (gU (J.getD i []) (J.getD j [])) s->W.kas_ask X.prog X.w A (tuples' true) us i j C s:=by
  intro i j C hi hj q;unfold W.kas_ask;obtain⟨p,U,e1,⟨o,ho,hc,n,hd⟩,rv,m1⟩:=BX I r hk hi;obtain⟨p',its',ac,⟨o',ae,ag,n',af⟩,Y,m2⟩:=BX I r hk hj;rw[e1,ac];have ht:(J.getD i []).map g6=(J.getD j []).map g6:=(L _ m1).trans (L _ m2).symm
  have hl:U.length=its'.length:=by
   have:=congrArg List.length ht;rw[Q05,Q05] at this;rw[<-rv.length,<-Y.length,Q05,Q05,this]
  refine W.kat_lt ho hd ae af ?_;have ef:decide ((List.toArray U).size<(List.toArray its').size)=false:=by rw[Q06,Q06,hl];simp
  rw[ef];exact uB _ _ _ _ 0 rv Y ht q
 cases t with
 |true=>
  refine W.kat_kind (T:=.type "int") f1 (by omega) (λv hv=>?_) rfl ⟨rfl,fin⟩;rcases f3 v hv with⟨_,i,tk,rfl⟩|⟨z,_⟩
  . exact W.Looks.of_pure rfl
  . cases z
 |false=>
  refine W.kat_kind (T:=.type "str") f1 (by omega) (λv hv=>?_) rfl ⟨rfl,fin⟩;rcases f3 v hv with⟨z,_⟩|⟨_,x,tk,rfl⟩
  . cases z
  . exact W.Looks.of_pure rfl
end
def rb (K:PySem.W.Frag) (P:Addr) (U:Pos) (qual:Str) (te:TE) (σ:St) (Q:VK):VK:=λx H1=>∃a xs,x=.ref a/\fv K H1 a xs/\xs.length<64/\fT P U qual H1/\
 ∀c' H2,lE P U qual c' H2->(∀b o,b≠P->H1 b=some o->H2 b=some o)->
 ∃W:List V->Hp->Prop,W [] H2/\(∀ks J,W ks J->lE P U qual c' J)/\(∀ks J y,W ks J->xs[ks.length]? =some y->te (some y::σ) J λk Y=>W (ks++[k]) Y)/\
 ∀ks J,W ks J->ks.length=xs.length->∃L,nr J ks L/\BW L/\∀p:List Nat,p.Perm (List.range xs.length)->(p.map λi=>L.getD i []).Pairwise kq->∀D,J D=none->Q (.ref D) (upd J D (.lst (p.map λi=>xs.getD i .non)))
def IA (K:W.Frag) (P:Addr) (J:Pos) (qual:Str) (tl te:TE):TE:=λσ H Q=>tl σ H (rb K P J qual te σ Q)
section
variable {X:Cx}
theorem BZ {x:Str}{N':List Str}{l body:Expr}{L:Arguments}{scope:Scope}{lp kp p pos:Pos}{qual:Str}{c P:Addr}{tl te:TE}{k:Nat}(hg:Gl X "sorted")(hm:X.mg "sorted"=none)(hv:bootBuiltins "sorted"=some (.builtin "sorted"))(hr:gP k X.A)(hq:X.env.qual++"<lambda>"=qual)(Y:X.env.code=.ref c)(C:PySem.W.CodeHd X.base c P)
 (B:BM X.mg X.base) (S:lH X x N' scope) (ab:defaultsOf L X.env=([],[])) (hb:∀(cl:List (Str × Addr)) (pm:Value) (c':Addr) (U u:Value),bindArgs (PySem.W.kla_fn "<lambda>" qual L body scope cl pm (.ref c') U) ⟨[u],[]⟩=pure [(x,u)])
 (hl:PE X l tl) (he:∀(cl:List (Str × Addr)) (f c':Addr) (s:Shared) (H:Hp),PE (pM X x N' scope cl qual f c' s H) body te) (hs:starEach [l] X.env=[(false,eval l X.env)]:=by rfl):
 PE X (.Call (.Name "sorted" p) [l] [⟨some "key",.Lambda L body scope lp,kp⟩] pos) (IA X.K P lp qual tl te):=by
 intro pins s σ H Q I h;refine wpAny_Call_Name_kw (lu I hg hm hv ?_);have ha:PA X [l] (iu tl jW):=a_ hl c_ (by rw[hs];rfl);refine callWith_kw (fQ (ha pos pins s σ H (λvs H1=>match vs with|[x]=>rb X.K P lp qual te σ Q x H1|_=>False) I h) λus s1 zq=>?_) (by rw[hs];rfl) (by rw[hs];rfl);obtain⟨vs,H1,I1,r1,q1⟩:=zq
 obtain⟨x',rfl⟩:∃x',vs=[x']:=by
  match vs,q1 with
  |[x'],_=>exact⟨x',rfl⟩
 have q1:rb X.K P lp qual te σ Q x' H1:=q1;obtain⟨a,xs,rfl,ag,ah,T,cont⟩:=q1;obtain⟨u,rfl,ru⟩:=vals1 r1
 cases ru;show wpAny _ _ (evalAll [do let v <-eval (.Lambda L body scope lp) X.env;standAt pos;pure v]) _ _ s1;obtain⟨cl,aa,ac,ae⟩:=qX (scope:=scope) (env:=X.env) λy hy hf=>I1.ok.has y.1 (S.free y hy hf);refine wpAny_evalAll_cons (Q00 (PySem.W.kla_eval ab ?_));rw[hq];refine BJ I1 Y C B T aa λf c' pm U H2 s2 I2 ai mono=>?_;refine Q00 (wpAny_standAt (Q0d (wpAny_evalAll_nil ?_)));show wpAny _ _ (call (.builtin "sorted") [.ref a] [(Str.ofString "key",.ref f)]) _ _ s2;obtain⟨W,w0,wL,wt,wf⟩:=cont c' H2 ai mono
 have aj:∃ps,H1 P=some (.g4 ps):=by
  rcases T with e|⟨al,e,_⟩
  . exact⟨_,e⟩
  . exact⟨_,e⟩
 have ak:fv X.K H2 a xs:=by
  obtain⟨ps,hP⟩:=aj;rcases ag with(z|⟨o,z⟩)|z
  . exact .inl (.inl (mono a _ (ic z hP (by intro z;cases z)) z))
  . exact .inl (.inr ⟨o,mono a _ (ic z hP (by intro z;cases z)) z⟩)
  . exact .inr z
 refine fQ (BV (Q:=Q) (W:=W) I2 ak ah w0 (λpl s' H' ks y u J wk hy ry=>?_) λpl s' H' ks us J wk af rk=>?_) λr s' ⟨v,H',J,rv,q⟩=>⟨v,H',J.ly,rv,q⟩
 . exact BQ J S hr.hd hr.depth ac ae (Q0m _ (Q07 _ Q01)) (wL ks H' wk).2 (hb cl pm c' U) ry (he cl f c') (wt ks H' y wk hy)
 . obtain⟨am,k1,k2,k3⟩:=wf ks H' wk af;exact⟨ou,_,Iz J rk k1 k2,λp p1 p2 D hD=>k3 p p1 p2 D hD⟩
end
noncomputable def B0 (K:W.Frag) (a b:Addr):It:=
 ⟨λi H=>∃xs ys x y,fv K H a xs/\fv K H b ys/\xs[i]? =some x/\ys[i]? =some y,
  λi H v H'=>∃p x y,H p=none/\v=.ref p/\(∀xs,fv K H a xs->xs[i]? =some x)/\(∀ys,fv K H b ys->ys[i]? =some y)/\H'=upd H p (.tup [x,y]),
  λi H=>∃xs ys,fv K H a xs/\fv K H b ys/\(xs.length<=i\/ys.length<=i)⟩
theorem IB {P:Program}{w:World}{K:W.Frag}{ai:List Expr}{k:Nat}{tpos:Pos}{z TI TO J L l1 l2:Addr}(D:ZipApart z TI TO J L l1 l2):
 Turn P w K (.Tuple ai k tpos) (B0 K l1 l2) [z,TI,TO,J,L] z (λi h=>∃oa ob,IsZip h z TI TO .none/\IsPair h TI (.ref J) (.ref L)/\IsPair h TO oa ob/\h.IsListIter J l1 i/\h.IsListIter L l2 i) where
 mem:=by simp
 obj:=λi h st b U=>by
  obtain⟨oa,ob,h1,h2,h3,h4,h5⟩:=st;have U:b=z\/b=TI\/b=TO\/b=J\/b=L:=by simpa using U
  rcases U with rfl|rfl|rfl|rfl|rfl
  . exact⟨_,h1,λv y=>by
     have y:Data.fields _=Data.cell v:=y
     cases y⟩
  . exact⟨_,h2,λv y=>by
     have y:Data.seq _ _=Data.cell v:=y
     cases y⟩
  . exact⟨_,h3,λv y=>by
     have y:Data.seq _ _=Data.cell v:=y
     cases y⟩
  . obtain⟨o,q,c,d⟩:=h4;exact⟨o,q,λv y=>by rw[d] at y;cases y⟩
  . obtain⟨o,q,c,d⟩:=h5;exact⟨o,q,λv y=>by rw[d] at y;cases y⟩
 keep:=λi h h' st k=>by
  obtain⟨oa,ob,h1,h2,h3,h4,h5⟩:=st;exact⟨oa,ob,k z (by simp) _ h1,k TI (by simp) _ h2,k TO (by simp) _ h3,h4.at λo q=>k J (by simp) o q,h5.at λo q=>k L (by simp) o q⟩
 item:=by
  intro X hP hw hK hc i pins s σ H E I Y st hg;subst hP hw hK;obtain⟨oa,ob,h1,h2,h3,h4,h5⟩:=st;obtain⟨xs,ys,x,y,aa,ab,hx,hy⟩:=hg;obtain⟨aj,ae,p1,am⟩:=I.list aa;obtain⟨ak,af,p2,an⟩:=I.list ab;obtain⟨u1,ao,ap⟩:=ae.get hx;obtain⟨u2,aq,ar⟩:=af.get hy;have fr:H s.heap.objs.size=none:=I.hok.fresh (Q0 _);refine wpAny_pyNext_zip_item D h1 h2 h3 h4 h5 p1.isList p2.isList (x:=u1) (y:=u2) (by simpa using ao) (by simpa using aq) λh' q1 q2 q3 q4 q5 q6 q7=>?_;refine⟨_,rfl,wpAny_letOwnedTupleGo_zip (s:={ s with heap:=h' }) q1 λac g1 g2=>?_⟩
  have au:∀b∈[z,TI,TO,J,L],b<s.heap.objs.size:=λb U=>by
   have U:b=z\/b=TI\/b=TO\/b=J\/b=L:=by simpa using U
   rcases U with rfl|rfl|rfl|rfl|rfl
   . exact Q02 h1
   . exact Q02 h2
   . exact Q02 h3
   . obtain⟨o,q,_⟩:=h4;exact Q02 q
   . obtain⟨o,q,_⟩:=h5;exact Q02 q
  have av:∀b o,s.heap.get? b=some o->b≠s.heap.objs.size:=λb o q=>Q08 (Q02 q);have kk:∀b o,b≠z->b≠TO->b≠J->b≠L->s.heap.get? b=some o->ac.get? b=some o:=λb o n1 n2 n3 n4 q=>g2.extBut b o n1 (q7 b o n1 n2 n3 n4 q);have kn:∀b o,b ∉ [z,TO,J,L]->s.heap.get? b=some o->ac.get? b=some o:=λb o n q=>kk b o (λy=>n (by simp[y])) (λy=>n (by simp[y])) (λy=>n (by simp[y])) (λy=>n (by simp[y])) q;have tup:ac.get? s.heap.objs.size=some { cls:=.type "tuple",data:=.seq #[u1,u2] }:=g2.extBut _ _ (Q0t (Q02 h1)) q5
  have I1:Inv X pins σ (upd H s.heap.objs.size (.tup [x,y])) { s with heap:=ac }:=by
   refine I.step (g':=s.gens) (d':=s.drawn) (t':=s.toks) (ch:=[z,TO,J,L]) (λb U=>?_) (λb o _ _ hc q _=>kn b o hc q) (λb o _ _ hc q _=>⟨o.slots,kn b o hc q⟩) (λb o _ q n=>?_) (λb o hc q=>⟨o,kn b o hc q⟩) (λb ws q=>?_) (λb o v q=>?_) (λb ps q=>?_) (λm hm=>?_) (λb o q=>?_) I.bare
   . have ag:b∈[z,TI,TO,J,L]:=by
      have U:b=z\/b=TO\/b=J\/b=L:=by simpa using U
      rcases U with rfl|rfl|rfl|rfl <;> simp
     obtain⟨f0,f1,f2,f3,f4,f5⟩:=Y b ag;exact⟨f3,f1,f4,f5⟩
   . rw[fk (av b o q)];exact n
   . rw[fk (fJ q fr)];exact q
   . rw[fk (fJ q fr)];exact q
   . exact⟨#[],by rw[fk (fJ q fr),q];simp⟩
   . obtain⟨o,es,ep,ho,r⟩:=hm;exact⟨o,es,ep,kk _ o (Ne.symm (Y z (by simp)).2.1) (Ne.symm (Y TO (by simp)).2.1) (Ne.symm (Y J (by simp)).2.1) (Ne.symm (Y L (by simp)).2.1) ho,r⟩
   . by_cases U:b=s.heap.objs.size
     . subst U;rw[fA] at q;cases q;exact⟨xA,[u1,u2],.cons ap (.cons ar .nil),⟨_,tup,rfl,_,rfl⟩⟩
     . rw[fk U] at q
       have nn:∀c v,H c=some v->c ∉ [z,TO,J,L]:=λc v e hm=>by
        have aw:c∈[z,TI,TO,J,L]:=by
         have hm:c=z\/c=TO\/c=J\/c=L:=by simpa using hm
         rcases hm with rfl|rfl|rfl|rfl <;> simp
        have:=(Y c aw).1;rw[e] at this;cases this
       refine(I.hok b o q).stay (λc v ah y=>kn c v ?_ y) (λc y=>by rw[fk (fJ y fr)];exact y) λc ws y=>by rw[fk (fJ y fr)];exact y
       rcases ah with y|y
       . rw[y];exact nn b o q
       . exact nn c _ y
  refine⟨.ref s.heap.objs.size,_,I1,rfl,⟨s.heap.objs.size,x,y,fr,rfl,λws hw=>by rw[I.qK hw aa];exact hx,λws hw=>by rw[I.qK hw ab];exact hy,rfl⟩,⟨u1,u2,g1,?_,?_,?_,?_⟩,λb U=>?_⟩
  . exact kk TI _ D.TIz D.TITO D.TIi1 D.TIi2 h2
  . exact g2.extBut _ _ D.TOz q2
  . exact q3.at λo q=>g2.extBut _ _ D.i1z q
  . exact q4.at λo q=>g2.extBut _ _ D.i2z q
  . rw[fk (Q08 (au b U))];exact(Y b U).1
 done:=by
  intro X hP hw hK hc i pins s σ H E I Y st hg;subst hP hw hK;obtain⟨oa,ob,h1,h2,h3,h4,h5⟩:=st;obtain⟨xs,ys,aa,ab,al⟩:=hg;obtain⟨aj,ae,p1,am⟩:=I.list aa;obtain⟨ak,af,p2,an⟩:=I.list ab;have e1:=ae.length;have e2:=af.length
  refine wpAny_pyNext_zip_end (I.ok.hd hc) D h1 h2 h3 h4 h5 p1.isList p2.isList (by
   rcases al with q|q
   . exact .inl (by simp;omega)
   . exact .inr (by simp;omega)) λh' hk=>⟨rfl,?_⟩
  refine I.step (g':=s.gens) (d':=s.drawn) (t':=s.toks) (ch:=[z,TO,J,L]) (λb U=>?_) (λb o _ _ hc q _=>?_) (λb o _ _ hc q _=>?_) (λb o _ q n=>n) (λb o hc q=>?_) (λb ys q=>q) (λb o v q=>q) (λb ps q=>⟨#[],by rw[q];simp⟩) (λm hm=>?_) (λb o q=>?_) I.bare
  . have ag:b∈[z,TI,TO,J,L]:=by
     have U:b=z\/b=TO\/b=J\/b=L:=by simpa using U
     rcases U with rfl|rfl|rfl|rfl <;> simp
    obtain⟨f0,f1,f2,f3,f4,f5⟩:=Y b ag;exact⟨f3,f1,f4,f5⟩
  . exact hk b o (λy=>hc (by simp[y])) (λy=>hc (by simp[y])) (λy=>hc (by simp[y])) (λy=>hc (by simp[y])) q
  . exact⟨o.slots,hk b o (λy=>hc (by simp[y])) (λy=>hc (by simp[y])) (λy=>hc (by simp[y])) (λy=>hc (by simp[y])) q⟩
  . exact⟨o,hk b o (λy=>hc (by simp[y])) (λy=>hc (by simp[y])) (λy=>hc (by simp[y])) (λy=>hc (by simp[y])) q⟩
  . obtain⟨o,es,ep,ho,r⟩:=hm;exact⟨o,es,ep,hk _ o (Ne.symm (Y z (by simp)).2.1) (Ne.symm (Y TO (by simp)).2.1) (Ne.symm (Y J (by simp)).2.1) (Ne.symm (Y L (by simp)).2.1) ho,r⟩
  . have nn:∀c v,H c=some v->∀y∈[z,TI,TO,J,L],c≠y:=λc v e y hy=>fJ e (Y y hy).1;refine(I.hok b o q).stay (λc v ah y=>hk c v ?_ ?_ ?_ ?_ y) (λ_ y=>y) λ_ _ y=>y <;> (rcases ah with y|y)
    all_goals first
     |(rw[y];exact nn b o q _ (by simp))
     |exact nn c _ y _ (by simp)
 self:=λA i s Q E st q=>by
  obtain⟨oa,ob,h1,_⟩:=st;exact wpAny_pyIter_zip h1 q
def IC (K:W.Frag) (ta:TA):TI:=λσ H R=>ta σ H λvs H1=>∃a b,vs=[.ref a,.ref b]/\(∃xs,fv K H1 a xs)/\(∃ys,fv K H1 b ys)/\R (B0 K a b) H1
section
variable {X:Cx}
theorem B4 {aa:List Expr}{k:Nat}{tpos:Pos}{a b:Expr}{ta:TA}{p pos:Pos}(hg:Gl X "zip")(hm:X.mg "zip"=none)(ha:PA X [a,b] ta)(hs:starEach [a,b] X.env=[(false,eval a X.env),(false,eval b X.env)]:=by rfl)
 (Y:starEach [b] X.env=[(false,eval b X.env)]:=by rfl):PI X (.Tuple aa k tpos) (.Call (.Name "zip" p) [a,b] [] pos) (IC X.K ta):=by
 intro pins s σ H R I h;refine Call_ (lu I hg hm boot_zip (PyProof.Rows.callWith_type1 (fQ (ha pos pins s σ H _ I h) λus J zq=>?_) (by rw[hs,Y]) (by rw[Y];rfl)));obtain⟨vs,H1,U,r1,q1⟩:=zq;obtain⟨l1,l2,e,⟨xs,ab⟩,⟨ys,ac⟩,q⟩:=q1;subst e;obtain⟨u1,u2,rfl,ae,af⟩:=vals2 r1
 cases ae
 cases af;obtain⟨ag,ai,p1,aj⟩:=U.list ab;obtain⟨ah,ak,p2,al⟩:=U.list ac;have a1:l1<J.heap.objs.size:=by obtain⟨_,e,_⟩:=p1.isList;exact Q02 e
 have a2:l2<J.heap.objs.size:=by obtain⟨_,e,_⟩:=p2.isList;exact Q02 e
 refine call_zip_2 p1.isList p2.isList λh' q1 q2 q3 q4 q5 q6 q7=>?_;refine wpAny_pyIter_zip q1 ?_;have I2:Inv X pins σ H1 { J with heap:=h' }:=U.kept (t':=J.toks) q7
 have Dz:ZipApart (J.heap.objs.size+4) (J.heap.objs.size+2) (J.heap.objs.size+3) J.heap.objs.size (J.heap.objs.size+1) l1 l2:=by
  have b1:@LT.lt Nat _ l1 J.heap.objs.size:=a1;have b2:@LT.lt Nat _ l2 J.heap.objs.size:=a2;constructor <;> (intro z;have z':(_:Nat)=_:=z;omega)
 refine⟨J.heap.objs.size+4,[J.heap.objs.size+4,J.heap.objs.size+2,J.heap.objs.size+3,J.heap.objs.size,J.heap.objs.size+1],_,_,H1,rfl,I2,IB Dz,⟨.none,.none,q1,q2,q3,q4,q5⟩,λb L=>?_,q⟩
 have L:J.heap.objs.size<=b:=by
  have L:b=J.heap.objs.size+4\/b=J.heap.objs.size+2\/b=J.heap.objs.size+3\/b=J.heap.objs.size\/b=J.heap.objs.size+1:=by simpa using L
  rcases L with z|z|z|z|z <;> rw[z]
  . exact Q1o _ _
  . exact Q1o _ _
  . exact Q1o _ _
  . exact Q0 _
  . exact Q1o _ _
 exact U.mS L (U.hok.fresh L)
end
end L2
namespace HT
open PyProof.Rows L2
section
open SeqAt
open PySem.AutoSeq1 (wpAny_loadPart')
open MeetsSeq MeetsSeq2 MeetsSeq3
inductive KeysAre:List Value->List Key->Prop
 |nil:KeysAre [] []
 |cons {u:Value} {k:Key} {us:List Value} {ks:List Key}:RelV (kV k) u->KeysAre us ks->KeysAre (u::us) (k::ks)
theorem KeysAre.of:∀{ks:List Key}{us:List Value},Vals (ks.map kV) us->KeysAre us ks
 |[],_,r=>by cases r;exact .nil
 |k::ks,_,r=>by
  cases r with
  |cons a b=>exact .cons a (KeysAre.of b)
theorem KeysAre.length:∀{us:List Value}{ks:List Key},KeysAre us ks->us.length=ks.length
 |_,_,.nil=>rfl
 |_,_,.cons _ h=>by rw[Q0k,Q0k,h.length]
theorem ID (A:Around)(s:Shared){k j:Key}{u v:Value}(r:RelV (kV k) u)(q:RelV (kV j) v)(J:g6 k=g6 j):∃e,SeqAt.EqAt A s u v e/\(e=true↔k=j):=by
 rcases nt r with⟨m,t,rfl,rfl⟩|⟨m,t,rfl,rfl⟩ <;> rcases nt q with⟨n,t',rfl,rfl⟩|⟨n,t',rfl,rfl⟩
 . exact⟨m == n,SeqAt.EqAt.int_int m t n t',by simp⟩
 . cases J
 . cases J
 . exact⟨m == n,SeqAt.EqAt.str_str m t n t',by simp⟩
theorem IE (A:Around)(s:Shared){k j:Key}{u v:Value}(r:RelV (kV k) u)(q:RelV (kV j) v)(J:g6 k=g6 j)(prog:Program)(w:World)(E:Value->Shared->Prop)(Q:Value->Shared->Prop)(h:Q (.bool (!jd j k)) s):
 wpAny (model prog w) A (richCompare .LtE u v) Q E s:=by
 rcases nt r with⟨m,t,rfl,rfl⟩|⟨m,t,rfl,rfl⟩ <;> rcases nt q with⟨n,t',rfl,rfl⟩|⟨n,t',rfl,rfl⟩
 . have e:(!jd (.inl n) (.inl m))=decide (m<=n):=by
    show(!decide (n<m))=decide (m<=n);rw[<-decide_not];exact decide_eq_decide.mpr Int.not_lt
   rw[e] at h;exact(PyProof.Rows.le_int h:wpAny (model prog w) A (compareOp .LtE (.int m t) (.int n t')) Q E s)
 . cases J
 . cases J
 . exact(PySem.P.le_str h:wpAny (model prog w) A (compareOp .LtE (.str m t) (.str n t')) Q E s)
theorem IF (l b:Addr)(L J:Array Value)(n n2:Nat)(dd dd2:Option Addr)(sl sl2:Array (Option Value))(ns ms:List Key)(hi:KeysAre L.toList ns)(hj:KeysAre J.toList ms)(ht:ns.map g6=ms.map g6):
 Meets (Builtin.«tuple.__le__» ⟨[.ref l,.ref b],[]⟩)
  (λ_ R s=>s.heap.get? l=some { cls:=.type "tuple",dict:=dd,data:=.seq L n,slots:=sl }/\s.heap.get? b=some { cls:=.type "tuple",dict:=dd2,data:=.seq J n2,slots:=sl2 }/\
    R (.ok (.ret (.bool (!gU ms ns)))) s):=
 .of_wp λprog w A R s h=>by
   obtain⟨hp,g,d,tk,os⟩:=s;obtain⟨hl,hb,h⟩:=h;have f2:=AutoSeq1.sub_tuple_tuple;have z1:L.size=ns.length:=by rw[<-hi.length];simp
   have z2:J.size=ms.length:=by rw[<-hj.length];simp
   have z3:ns.length=ms.length:=by have:=congrArg List.length ht;simpa using this
   wp_walk using wpAny_loadPart' hl,wpAny_loadPart' hb,wpAny_forIn_list _ (λrest b s'=>b.1=none/\s'=⟨hp,g,d,tk,os⟩/\∃(vs ws:List Value) (Y aa:List Key),rest=vs.zip ws/\
    KeysAre vs Y/\KeysAre ws aa/\Y.map g6=aa.map g6/\R (.ok (.ret (.bool (!gU aa Y)))) ⟨hp,g,d,tk,os⟩) _
   case turn=>
    rintro⟨y,x⟩ rest b s' ⟨ae,rfl,vs,ws,Y,aa,hz,af,ab,U,hR⟩
    cases af with
    |nil=>rw[List.zip_nil_left] at hz;cases hz
    |cons a ah=>
     cases ab with
     |nil=>rw[List.zip_nil_right] at hz;cases hz
     |cons c ai=>
      rw[Q2l] at hz;injection hz with aj ag
      injection aj with hy hx
      subst hy hx;rw[oq] at hR;have t1:=(List.cons.inj U).1;have t2:=(List.cons.inj U).2;obtain⟨e,he,ac⟩:=ID A.in1 ⟨hp,g,d,tk,os⟩ a c t1;refine Q00 (he prog w _ _ ?_)
      cases e with
      |true=>
       rw[if_pos (ac.mp rfl).symm] at hR
       wp_walk
       exact⟨rfl,rfl,_,_,_,_,ag,ah,ai,t2,hR⟩
      |false=>
       rw[if_neg (λq=>absurd (ac.mpr q.symm) Bool.false_ne_true)] at hR;have ak:=IE A.in1 ⟨hp,g,d,tk,os⟩ a c t1 prog w
       wp_walk using ak
       exact⟨_,rfl,by simpa using hR⟩
   case fin=>
    rintro⟨b1,b2⟩ s' ⟨ae,rfl,vs,ws,Y,aa,hz,af,ab,U,hR⟩;simp only at ae;subst ae
    have hv:(!gU aa Y)=decide (L.size<=J.size):=by
     cases af with
     |nil=>
      cases ab with
      |nil=>exact(decide_eq_true (by omega)).symm
      |cons c hw=>cases U
     |cons a hv=>
      cases ab with
      |nil=>cases U
      |cons c hw=>
       rw[Q2l] at hz
       cases hz
    rw[hv] at hR
    wp_walk
    exact⟨_,rfl,by simpa[Builtin.Tuple.tupleCompareSizes] using hR⟩
   case h=>
    exact⟨rfl,rfl,L.toList,J.toList,ns,ms,rfl,hi,hj,ht,h⟩
end
section
variable {prog:Program}{w:World}{A:Around}{E:Value->Shared->Prop}{s:Shared}
theorem IG {l b:Addr}{L J:Array Value}{ns U:List Key}{Q:Value->Shared->Prop}(hl:IsTup s.heap l L)(hb:IsTup s.heap b J)(hi:KeysAre L.toList ns)(hj:KeysAre J.toList U)(ht:ns.map g6=U.map g6)
 (hu:A.units<cLine) (h:Q (.bool (!gU U ns)) s):wpAny (model prog w) A (compareOp .LtE (.ref l) (.ref b)) Q E s:=by
 obtain⟨⟨cls,dd,data,sl⟩,ho,hc,n,hd⟩:=id hl;obtain⟨⟨ac,dd2,data2,sl2⟩,Y,aa,n2,ab⟩:=id hb;simp only at hc hd aa ab;subst hc hd aa ab
 exact richCompare_meets_room (op:=.LtE) ⟨_,ho,rfl⟩ ⟨_,Y,rfl⟩ PySem.F.slot_tuple_le PySem.F.entry_tuple_le (PySem.F.args_tuple_le_2 _ _) (IF l b L J n n2 dd dd2 sl sl2 ns U hi hj ht)
  ⟨ho,Y,show Value.bool (!gU U ns)≠Value.notImplemented/\Q (.bool (!gU U ns)) s from⟨(λx=>nomatch x),h⟩⟩ hu
end
end HT
namespace L2
open Spec PyProof.Rows
section
variable {X:Cx}
def IH (K:W.Frag):R2:=λx y H Q=>∃a b ns J,x=.ref a/\y=.ref b/\d_ K H a (ns.map kV)/\d_ K H b (J.map kV)/\ns.map g6=J.map g6/\Q (.bl (!gU J ns)) H
theorem II (L:X.A.units<cLine):ip X (compareOp .LtE) (IH X.K):=by
 intro pins s σ H x y v u Q I U Y h;obtain⟨a,b,ns,ms,rfl,rfl,ha,hb,ht,q⟩:=h
 cases U
 cases Y;obtain⟨aa,r1,p1,_⟩:=I.tuple ha;obtain⟨J,r2,p2,_⟩:=I.tuple hb;exact HT.IG p1 p2 (by simpa using HT.KeysAre.of r1) (by simpa using HT.KeysAre.of r2) ht L ⟨.bl (!gU ms ns),H,I,rfl,q⟩
end
section
variable {X:Cx}{pins:List (Addr × Obj)}{σ:St}{H:Hp}{s:Shared}
theorem Vals.at:∀{xs:List V}{us:List Value},Vals xs us->∀(j:Nat) (h:j<us.length),∃x,xs[j]? =some x/\RelV x us[j]
 |_,_,.nil,j,h=>absurd h (by simp)
 |_,_,.cons a r,0,h=>⟨_,rfl,a⟩
 |_,_,.cons a r,j+1,h=>by
  obtain⟨x,h1,h2⟩:=Vals.at r j (by simpa using h);exact⟨x,by simpa using h1,h2⟩
end
def IJ (e:Addr) (l:List Env) (h h':Heap):Prop:=
 (∀b o,b ∉ frs l->b≠e->h.get? b=some o->h'.get? b=some o)/\∀b o,b≠e->h.get? b=some o->∃sl,h'.get? b=some { o with slots:=sl }
theorem uC {f:Array Value->Array Value}{o:Obj}{vs:Array Value}(h:o.data=.fields vs):Obj.mapFields f o={ o with data:=.fields (f vs) }:=by
 obtain⟨c,d,J,sl⟩:=o;have h:J=.fields vs:=h;subst h;rfl
section
variable {M:Model}{A:Around}{E:Value->Shared->Prop}{s:Shared}
theorem IK {base:Heap}{env:Env}{outer:List Env}{L e:Addr}{J:Obj}{vs:Array Value}{U:Value}{ae:Bool}{Q:Unit->Shared->Prop}
 (af:A.frames=some (env::outer)) (hl:s.heap.FunFrames base (env::outer)) (hf:env.frame=some L) (he:s.heap.get? e=some J) (hd:J.data=.fields vs) (hsz:1<vs.size)
 (h:∀(h':Heap) (T:Addr),s.heap.objs.size<=T->IJ e (env::outer) s.heap h'->h'.get? e=some { J with data:=.fields (vs.setIfInBounds 1 (.ref T)) }->(∃oT ts,h'.get? T=some oT/\oT.data=.fields ts/\ts[3]? =some (rawInt L))->Q () { s with heap:=h' }):
 wpAny M A (do let a <-frameOf env;let pl <-entryPlaceOf L ae;let b <-EntryCells.newEntry U a .none (rawInt L) .none pl;setField (.ref e) 1 b) Q E s:=by
 have ag:e ∉ (env::outer).filterMap (·.frame):=λz=>by
  obtain⟨_,o,ho,hn⟩:=hl.mem z;rw[he] at ho
  cases ho;exact hn vs hd
 refine Q00 (wpAny_frameOf_fun af hl hf λh1 x1=>?_);refine Q00 (wpAny_entryPlaceOf λpl ab=>?_);unfold EntryCells.newEntry newFields;refine Q00 (wpAny_newObj_type ?_ (ab.sizeOk5 _ _ _ _ _));have e1:h1.get? e=some J:=(x1.2.1 e ag).trans he;generalize ac:({ cls:=.type "traceback",dict:=none,data:=.fields ([U,.ref L,.none,rawInt L,.none]++(if pl.isEmpty then List.replicate 6 Value.none else pl)).toArray }:Obj)=ob;have e2:(h1.push ob).get? e=some J:=Q09 ob e1;have ah:h1.objs.size≠e:=Q0t (Q02 e1);have aa:({ J with data:=.fields (vs.setIfInBounds 1 (.ref h1.objs.size)) }:Obj).isFreed=false:=Obj.isFreed_of_fields rfl;have em:Obj.mapFields (·.setIfInBounds 1 (Value.ref h1.objs.size)) J={ J with data:=.fields (vs.setIfInBounds 1 (.ref h1.objs.size)) }:=uC hd;refine wpAny_setField e2 hd hsz (h _ h1.objs.size (Q1w x1.1.symm) ⟨λb o hb Y ho=>?_,λb o Y ho=>?_⟩ ?_ ?_)
 . rw[Q15 _ _ (Ne.symm Y)];exact Q09 ob ((x1.2.1 b hb).trans ho)
 . obtain⟨sl,hs⟩:=x1.2.2 b o ho;refine⟨sl,?_⟩;rw[Q15 _ _ (Ne.symm Y)];exact Q09 ob hs
 . have:=Q1x (Obj.mapFields (·.setIfInBounds 1 (Value.ref h1.objs.size))) e2 (by rw[em];exact aa);rw[em] at this;exact this
 . refine⟨ob,_,?_,by rw[<-ac],?_⟩
   . rw[Q15 _ _ (Ne.symm ah)];exact Q0j h1 (by rw[<-ac];rfl)
   . first|(simp;done)|(rcases ab with rfl|⟨_,_,_,_,_,_,_,rfl⟩ <;> simp)
structure Tr (h:Heap) (e T:Addr) (cls fl:Value):Prop where
 ex:∃oe vs,h.get? e=some oe/\oe.cls=cls/\oe.dict=none/\oe.data=.fields vs/\vs[1]? =some (.ref T)
 tb:∃oT ts,h.get? T=some oT/\oT.data=.fields ts/\ts[3]? =some fl
 ne:T≠e
end
section
variable {X:Cx}{pins:List (Addr × Obj)}{σ:St}{H:Hp}{s:Shared}
end
section
variable {M:Model}{A:Around}{E:Value->Shared->Prop}{s:Shared}
end
section
variable {X:Cx}{pins:List (Addr × Obj)}{σ:St}{H:Hp}{s:Shared}
end
section
variable {X:Cx}{k:Nat}{f:Addr}{fd:FuncData}{ps:List Str}{sp:Sp}{iK:List V}{ds:List Value}{Ek:XK}{x:Str}{p pos:Pos}{e:Expr}{es:List Expr}{t:TA}{te:TE}
end
end L2
namespace L2
open Spec PyProof.Rows W
theorem IL {M:Model}{A:Around}{E:Value->Shared->Prop}{K:Frag}{s:Shared}{a C D:Addr}{J:Obj}{b:Bool}{Q:Bool->Shared->Prop}(X:K.In s.heap)(h1:typeIn K (.ref D)=some (.type "type"))(h2:(clsIn K D).isSome=true)(Y:subIn K (.ref D) (.type "BaseException")=some true)
 (h4:subIn K (.ref C) (.ref D)=some b) (he:s.heap.get? a=some J) (hc:J.cls=.ref C) (hq:Q b s):wpAny M A (excMatches (.ref a) (.ref D)) Q E s:=by
 obtain⟨h,g,d,t,os⟩:=s;have L1:=looks_typeIn (M:=M) X h1;have L2:Looks M h (isSubtype (.type "type") (.type "tuple")) false:=Looks.of_pure tc_notTuple;have L3:=looks_subIn (M:=M) X Y;have L4:=looks_subIn (M:=M) X h4
 have L5:Looks M h (isType (.ref D)) true:=by
  unfold clsIn at h2;split at h2
  . rename_i c' d' aa ab ho;intro L Q' U s' k q;unfold isType loadHead;exact Q00 (wpAny_loadPart (k _ _ (X _ _ ho)) (Q0d q))
  . cases h2
 have L6:Looks M h (typeOf (.ref a)) (.ref C):=by
  have z:Looks M h (typeOf (.ref a)) J.cls:=(Looks.ld (show h.get? a=some J from he)).andThen .now;rw[hc] at z;exact z
 have L7:Looks M h (isInstance (.ref D) (.type "tuple")) false:=L1.andThen L2
 have L8:Looks M h (isExcClass (.ref D)) true:=λL Q' U s' k q=>by
  unfold isExcClass;exact Q00 (L5 L _ U s' k (L3 L _ U s' k q))
 unfold excMatches;refine Q00 (L7.at ?_)
 repeat (any_goals (first|assumption|with_reducible refine L8.at ?_|with_reducible refine L6.at ?_|with_reducible refine L4.at ?_|wp_step))
 cases b <;> (repeat (any_goals (first|assumption|wp_step)))
end L2
namespace L2
open Spec PyProof.Rows
section
variable {X:Cx}{pins:List (Addr × Obj)}{σ:St}{H:Hp}{s:Shared}
theorem Inv.unbind {M:Model}{A:Around}{E:Value->Shared->Prop}{i:Nat}{x:Str}{pos:Pos}{Q:Unit->Shared->Prop}(I:Inv X pins σ H s)(hN:X.N.Nodup)(hi:X.N[i]? =some x)(hk:X.env.kindOf x=some .local)
 (h:∀s',Inv X pins (σ.set i none) H s'->Q () s'):wpAny M A (do bindName X.env x .none;unbindBehindTheSuite X.env x pos) Q E s:=by
 obtain⟨m,hn,hl⟩:=id I.loc;have aa:(X.env.scope.kind == .class || (X.env.scope.kind == .module && X.env.locals != X.env.globals))=false:=by rw[I.ok.kind];rfl
 have ab:i<σ.length:=by rw[I.len];exact(List.getElem?_eq_some_iff.mp hi).1
 have ke:=I.ke;refine wpAny_nameGoes_keeps hk hn aa λh' v ac L=>?_;obtain⟨oL,_,_,ae,_⟩:=id hn
 have J:g8 X.prog X.w H h':=λb ob e=>by
  refine(I.hok b ob e).stay (λc w' hc q=>(L.2 c ?_).trans q) (λ_ q=>q) λ_ _ q=>q;rintro rfl;rcases hc with rfl|hc
  . rw[I.free] at e;cases e
  . rw[I.free] at hc;cases hc
 refine h _ ⟨I.ok,I.os,I.bare,⟨λb o e n hb Y=>?_,λb o e n hb Y=>?_,I.base.free,λb o e Y=>?_,I.base.tups,I.base.j4,I.base.j6⟩,⟨_,ac,λj y v' U e2 e3=>?_⟩,λy c e=>?_,I.free,I.ja,λp hp=>?_,J,by simpa using I.len⟩
 . exact(L.2 b (Q08 (Q0f (Q02 e) I.ok.above))).trans (I.base.keep b o e n hb Y)
 . obtain⟨sl,U⟩:=I.base.slot b o e n hb Y;exact⟨sl,(L.2 b (Q08 (Q0f (Q02 e) I.ok.above))).trans U⟩
 . obtain⟨o',U⟩:=I.base.there b o e Y;exact⟨o',(L.2 b (Q08 (Q0f (Q02 e) I.ok.above))).trans U⟩
 . by_cases hj:j=i
   . subst hj;rw[Q28 ab] at e2
     cases e2
   . rw[Q1v (Ne.symm hj)] at e2;obtain⟨u',r',q⟩:=hl j y v' U e2 e3;refine⟨u',r',?_⟩;rcases q with⟨k,e⟩|⟨k,c,e,z⟩
     . refine .inl ⟨k,?_⟩;have:y≠x:=λe=>hj (tL hN U (e ▸ hi));simp[this,e]
     . exact .inr ⟨k,c,e,z.sameBut L (ke y c e)⟩
 . obtain⟨w',z⟩:=I.cell y c e;exact⟨w',z.sameBut L (ke y c e)⟩
 . obtain⟨e,n,ne,nf,d⟩:=I.pin p hp;exact⟨(L.2 p.1 ne).trans e,n,ne,nf,d⟩
noncomputable abbrev Cx.marked (X:Cx) (a:Addr):Cx:={ X with A:=X.A.mark (some (.ref a)),calm:=false,xe:=λ_ _=>False }
theorem Inv.marked (I:Inv X pins σ H s)(a:Addr):Inv (X.marked a) pins σ H s:=
 ⟨⟨I.ok.mod,I.ok.kind,I.ok.glob,I.ok.blt,I.ok.above,I.ok.inj,I.ok.has,I.ok.cab,(λz=>by cases z),I.ok.frames,I.ok.stk,I.ok.o7,I.ok.bs,I.ok.jU,I.ok.lW,I.ok.mN,I.ok.jn,I.ok.kK⟩,I.os,I.bare,I.base,I.loc,I.cell,I.free,I.ja,I.pin,I.hok,I.len⟩
theorem Inv.unmarked {a:Addr}(I:Inv (X.marked a) pins σ H s)(ok:X.Ok):Inv X pins σ H s:=⟨ok,I.os,I.bare,I.base,I.loc,I.cell,I.free,I.ja,I.pin,I.hok,I.len⟩
end
def Ends.un (D:Ends) (i:Nat):Ends:={ nx:=λσ H=>D.nx (σ.set i none) H,rt:=D.rt,bk:=λσ H=>D.bk (σ.set i none) H,ct:=λσ H=>D.ct (σ.set i none) H }
end L2
namespace L2
open Spec Calls PyProof.Rows W Builtin Builtin.ObjectAttr Builtin.Getset_descriptor
section
variable {prog:Program}{w:World}{A:Around}{E:Value->Shared->Prop}{K:Frag}{h:Heap}{g:Array GenState}{d:Drawn}{t:Nat}{os:OsState}{a C:Addr}{o:Obj}
end
end L2
namespace L2
open Spec PyProof.Rows
section
variable {X:Cx}{es:List Expr}{n k:Nat}{t:St->Hp->Prop}{pos:Pos}
end
noncomputable def ik (x:Str):List Key:=[Sum.inr x]
theorem B9 (x y:Str):gU (ik x) (ik y)=decide (x.cps.toList<y.cps.toList):=by
 unfold ik;rw[oq];by_cases e:(Sum.inr x:Key)=Sum.inr y
 . rw[if_pos e];have e:=Sum.inr.inj e;subst e;have h:¬x.cps.toList<x.cps.toList:=Q30 _;rw[decide_eq_false h];rfl
 . rw[if_neg e];rfl
theorem uD {ss:List Str}{us:List Value}(r:Vals (ss.map V.str) us){i:Nat}(hi:i<us.length):∃x t,us.getD i Value.none=.str x t/\(ss.map ik).getD i []=ik x:=by
 have hl:=r.length;rw[Q05] at hl;have h1:(ss.map V.str)[i]? =some (V.str (ss[i]'(by omega))):=by rw[Q0h,Q03 (by omega)];rfl
 obtain⟨u,J,t,L⟩:=r.get h1;subst L;refine⟨ss[i]'(by omega),t,by rw[Q0b,J];rfl,?_⟩;rw[Q0b,Q0h,Q03 (by omega)];rfl
theorem IM {prog:Program}{w:World}{s:Shared}{A:Around}{ss:List Str}{us:List Value}(r:Vals (ss.map V.str) us):Asks prog w A s us (O:=ou) (λi=>(ss.map ik).getD i []):=by
 intro h2;refine W.kas_kind (T:=.type "str") h2 (λv L=>?_) rfl rfl ⟨rfl,λi j C hi U q=>?_⟩
 . obtain⟨i,hi,e⟩:=Q0v L;obtain⟨x,t,J,_⟩:=uD r hi;rw[Q0b,Q03 hi] at J;have J:us[i]=.str x t:=J;rw[<-e,J];exact W.Looks.of_pure rfl
 . unfold W.kas_ask;obtain⟨x,t,J,Y⟩:=uD r hi;obtain⟨y,u,e3,e4⟩:=uD r U;rw[J,e3];refine W.kas_lt_str ?_;have q:C (gU ((ss.map ik).getD i []) ((ss.map ik).getD j [])) s:=q;rw[Y,e4,B9] at q;exact q
def uE (K:PySem.W.Frag) (P:Addr) (L:Pos) (qual:Str) (te:TE) (σ:St) (Q:VK):VK:=λx H1=>∃a xs,x=.ref a/\fv K H1 a xs/\xs.length<64/\fT P L qual H1/\
 ∀c' H2,lE P L qual c' H2->(∀b o,b≠P->H1 b=some o->H2 b=some o)->
 ∃W:List V->Hp->Prop,W [] H2/\(∀ks J,W ks J->lE P L qual c' J)/\(∀ks J y,W ks J->xs[ks.length]? =some y->te (some y::σ) J λk U=>W (ks++[k]) U)/\
 ∀ks J,W ks J->ks.length=xs.length->∃ss:List Str,ks=ss.map V.str/\∀p:List Nat,p.Perm (List.range xs.length)->(p.map λi=>(ss.map ik).getD i []).Pairwise kq->∀D,J D=none->Q (.ref D) (upd J D (.lst (p.map λi=>xs.getD i .non)))
def IP (K:W.Frag) (P:Addr) (J:Pos) (qual:Str) (tl te:TE):TE:=λσ H Q=>tl σ H (uE K P J qual te σ Q)
section
variable {X:Cx}
theorem IQ {x:Str}{N':List Str}{l body:Expr}{L:Arguments}{scope:Scope}{lp kp p pos:Pos}{qual:Str}{c P:Addr}{tl te:TE}{k:Nat}(hg:Gl X "sorted")(hm:X.mg "sorted"=none)(hv:bootBuiltins "sorted"=some (.builtin "sorted"))(hr:gP k X.A)(hq:X.env.qual++"<lambda>"=qual)(Y:X.env.code=.ref c)(C:PySem.W.CodeHd X.base c P)
 (B:BM X.mg X.base) (S:lH X x N' scope) (ab:defaultsOf L X.env=([],[])) (hb:∀(cl:List (Str × Addr)) (pm:Value) (c':Addr) (U u:Value),bindArgs (PySem.W.kla_fn "<lambda>" qual L body scope cl pm (.ref c') U) ⟨[u],[]⟩=pure [(x,u)])
 (hl:PE X l tl) (he:∀(cl:List (Str × Addr)) (f c':Addr) (s:Shared) (H:Hp),PE (pM X x N' scope cl qual f c' s H) body te) (hs:starEach [l] X.env=[(false,eval l X.env)]:=by rfl):
 PE X (.Call (.Name "sorted" p) [l] [⟨some "key",.Lambda L body scope lp,kp⟩] pos) (IP X.K P lp qual tl te):=by
 intro pins s σ H Q I h;refine wpAny_Call_Name_kw (lu I hg hm hv ?_);have ha:PA X [l] (iu tl jW):=a_ hl c_ (by rw[hs];rfl);refine callWith_kw (fQ (ha pos pins s σ H (λvs H1=>match vs with|[x]=>uE X.K P lp qual te σ Q x H1|_=>False) I h) λus s1 zq=>?_) (by rw[hs];rfl) (by rw[hs];rfl);obtain⟨vs,H1,I1,r1,q1⟩:=zq
 obtain⟨x',rfl⟩:∃x',vs=[x']:=by
  match vs,q1 with
  |[x'],_=>exact⟨x',rfl⟩
 have q1:uE X.K P lp qual te σ Q x' H1:=q1;obtain⟨a,xs,rfl,ag,ah,T,cont⟩:=q1;obtain⟨u,rfl,ru⟩:=vals1 r1
 cases ru;show wpAny _ _ (evalAll [do let v <-eval (.Lambda L body scope lp) X.env;standAt pos;pure v]) _ _ s1;obtain⟨cl,aa,ac,ae⟩:=qX (scope:=scope) (env:=X.env) λy hy hf=>I1.ok.has y.1 (S.free y hy hf);refine wpAny_evalAll_cons (Q00 (PySem.W.kla_eval ab ?_));rw[hq];refine BJ I1 Y C B T aa λf c' pm U H2 s2 I2 ai mono=>?_;refine Q00 (wpAny_standAt (Q0d (wpAny_evalAll_nil ?_)));show wpAny _ _ (call (.builtin "sorted") [.ref a] [(Str.ofString "key",.ref f)]) _ _ s2;obtain⟨W,w0,wL,wt,wf⟩:=cont c' H2 ai mono
 have aj:∃ps,H1 P=some (.g4 ps):=by
  rcases T with e|⟨al,e,_⟩
  . exact⟨_,e⟩
  . exact⟨_,e⟩
 have ak:fv X.K H2 a xs:=by
  obtain⟨ps,hP⟩:=aj;rcases ag with(z|⟨o,z⟩)|z
  . exact .inl (.inl (mono a _ (ic z hP (by intro z;cases z)) z))
  . exact .inl (.inr ⟨o,mono a _ (ic z hP (by intro z;cases z)) z⟩)
  . exact .inr z
 refine fQ (BV (Q:=Q) (W:=W) I2 ak ah w0 (λpl s' H' ks y u J wk hy ry=>?_) λpl s' H' ks us J wk af rk=>?_) λr s' ⟨v,H',J,rv,q⟩=>⟨v,H',J.ly,rv,q⟩
 . exact BQ J S hr.hd hr.depth ac ae (Q0m _ (Q07 _ Q01)) (wL ks H' wk).2 (hb cl pm c' U) ry (he cl f c') (wt ks H' y wk hy)
 . obtain⟨ss,k1,k3⟩:=wf ks H' wk af;subst k1;exact⟨ou,_,IM rk,λp p1 p2 D hD=>k3 p p1 p2 D hD⟩
end
variable {P:Program}{w:World}{K:W.Frag}{mg:Str->Option Value}{base:Heap}
section
variable {X:Cx}
end
theorem kW.uF {x qual:Str}{st:Stmt}{f c:Addr}{fd:FuncData}{N ps:List Str}{k:Nat}{sp:Sp}(F:kW K x qual st f fd)(hc:fd.code=.ref c)(S:gi N ps (fM st))(len:∀vs H Q E,sp vs H Q E->vs.length=ps.length)
 (J:∀(A:Around) (outer:List Env) (s:Shared) (H:Hp) (vs:List V) (Q:VK) (E:XK),gP k (A.deeper (envOfC qual (fM st) s.heap.objs.size f (.ref c)))->sp vs H Q E->
   ∃t,jo (gh fw P w K mg base N qual (fM st) f (.ref c) A outer s H E).gg (iJ st) t/\t { nx:=λ_ H'=>Q .non H',rt:=Q } (start N vs) H):fm P w K mg base fw (k+1) f fd ps sp:=by
 obtain⟨oc,od,kV,aa,pm,an,L,ct,ab,rfl,lk,U⟩:=F.ex;have hc:L=.ref c:=hc;subst hc;refine A6 lk U S len λA outer s H vs Q E hr Y=>?_;obtain⟨t,h,q⟩:=J A outer s H vs Q E hr Y;exact⟨t,h.gg,q⟩
def rf (J:List Addr) (H:Hp):Prop:=∀b,H b=none\/(∃o xs,H b=some (.jm o (.lst xs)))\/(b∈J/\H b=some (.g4 #[]))
theorem IS {P:Program}{w:World}{K:W.Frag}{mg mb:Str->Option Value}{CX:jG}{k:Nat}{fa a:Addr}{fd:FuncData}{x:Str}{sp:Sp}{J:Shared}{vs:List Value}{ns:List Int}{L:List (Addr × Addr)}
 (KX:K.In J.heap) (hT:W.TabsAt L J.heap) (ar:W.noTabs K=true) (au:BM mg J.heap) (aj:J.heap.Ns mainGlobals mg) (U:J.heap.Ns builtinsNs mb) (av:∀x:Str,x≠"__name__"->mb x=bootBuiltins x) (ao:J.heap.NoLimit) (hg:J.gens=#[])
 (ha:J.heap.get? a=some { cls:=.type "list",data:=.seq vs.toArray }) (hi:IntsAre vs ns) (hl:ns.length<=sizeLine) (hr:gP k callerA)
 (F:∀base:Heap,K.In base->base.Ns mainGlobals mg->BM mg base->fm P w K mg base CX k fa fd [x] sp) (ai:∀(s:Shared) (u:Value),BindsTo s fd ⟨[u],[]⟩ [(x,u)])
 (aw:∀H:Hp,rf (L.map (·.2)) H->(∀q∈L,H q.2=some (.g4 #[]))->fv K H a (ns.map V.int)->sp [.ref a] H (λv _=>v=.bl true) λ_ _ _=>False)
 (ax:∀H e s',CX [] H J (λ_ _ _=>False) e s'->False):
 codeAny (model P w) callerA (.call (.ref fa) ⟨[.ref a],[]⟩) (λr s'=>r=.ok (.ret (.bool true))/\OldK J.heap s'.heap/\s'.os=J.os/\AllBare s'.gens) J:=by
 have rv:=Bl hi;have ap:=hi.length
 have aa:∀b,b∈L.map (·.2)->J.heap.get? b=some (W.tabObj #[]):=λb hm=>by
  obtain⟨q,hq,rfl⟩:=List.mem_map.mp hm;exact(hT q hq).2
 have ak:a ∉ L.map (·.2):=λhm=>by
  have:=aa a hm;rw[ha] at this;cases this
 have ag:∀H:Hp,rf (L.map (·.2)) H->(∀q∈L,H q.2=some (.g4 #[]))->fv K H a (ns.map V.int)->g8 P w H J.heap->(∀b,H b≠none->b=a\/b∈L.map (·.2))->(H a≠none->K.lookup a=none)->
  codeAny (model P w) callerA (.call (.ref fa) ⟨[.ref a],[]⟩) (λr s'=>r=.ok (.ret (.bool true))/\OldK J.heap s'.heap/\s'.os=J.os/\AllBare s'.gens) J:=by
  intro H hO al hS am hA hK;have Y:∀{b:Addr} {o:Obj},J.heap.get? b=some o->H b=none->(kI J.heap H).get? b=some o:=λe n=>F3 e n
  have ac:∀{b:Addr} {o:Obj},J.heap.get? b=some o->(∀us n,o.data≠ .seq us n)->(∀us,o.data≠ .fields us)->H b=none:=λ{b o} e d1 d2=>by
   cases q:H b with
   |none=>rfl
   |some u=>
    rcases hA b (by rw[q];simp) with e'|e'
    . subst e';rw[ha] at e;cases e;exact absurd rfl (d1 _ _)
    . rw[aa b e'] at e;cases e;exact absurd rfl (d2 _)
  have af:∀{b:Addr} {m:Str->Option Value},J.heap.Ns b m->(kI J.heap H).Ns b m:=λ{b m} ⟨o,es,ep,e,d,r⟩=>⟨o,es,ep,Y e (ac e (by rw[d];intro us n z;cases z) (by rw[d];intro us z;cases z)),d,r⟩
  have an:K.In (kI J.heap H):=λb o e=>Y (KX b o e) (by
   cases q:H b with
   |none=>rfl
   |some u=>
    rcases hA b (by rw[q];simp) with e'|e'
    . subst e';rw[hK (by rw[q];simp)] at e;cases e
    . have e2:=KX b o e;rw[aa b e'] at e2;cases e2;have:=List.all_eq_true.mp ar _ (W.mem_of_lookupK e);simp at this)
  have hM:Mod K mg (kI J.heap H):=⟨an,af aj,⟨mb,af U,av⟩,let⟨mc,h1,h2⟩:=ao;⟨mc,af h1,h2⟩⟩
  have ay:BM mg (kI J.heap H):=by
   obtain⟨bm,o,b1,b2,b3,b4,b5,b6,b7⟩:=au;exact⟨bm,o,b1,b2,b3,Y b4 (ac b4 (by rw[b7];intro us n z;cases z) (by rw[b7];intro us z;cases z)),b5,b6,b7⟩
  have e0:m7 P w K mg (kI J.heap H) callerA [] J H:=⟨rfl,hM,λb o e=>F4 e,Q1w (F2 _ _),trivial,λb U=>absurd (show b∈([]:List Addr) from U) (by simp),am,.of_eq hg⟩;refine codeAny_mono ((F _ an (af aj) ay).run callerA [] J H ⟨[.ref a],[]⟩ [.ref a] [.ref a] _ _ hr e0 (ai J (.ref a)) (.cons rfl .nil) (aw H hO al hS)) λr s' h=>?_
  cases r with
  |error e=>exact(ax H e s' h).elim
  |ok fl=>
   cases fl with
   |next=>exact False.elim h
   |brk=>exact False.elim h
   |cont=>exact False.elim h
   |ret u=>
    obtain⟨v,H',os,aq,un,ah,r',q⟩:=h;have q':v=.bl true:=q;subst q';obtain rfl:u=Value.bool true:=r'
    have ae:∀b,b∈L.map (·.2)->∃ps,s'.heap.get? b=some (W.tabObj ps):=λb hm=>by
     obtain⟨q,hq,rfl⟩:=List.mem_map.mp hm;obtain⟨az,e⟩:=un.j6 _ _ (al q hq);exact⟨_,ah _ _ e⟩
    have keep:∀b o,b ∉ L.map (·.2)->J.heap.get? b=some o->s'.heap.get? b=some o:=λb o U e=>by
     cases q:H b with
     |none=>exact un.keep b o e q (by intro z;exact absurd (show b∈([]:List Addr) from z) (by simp)) (by simp)
     |some u=>
      rcases hO b with z|⟨ob,xs,z⟩|⟨z,_⟩
      . rw[q] at z;cases z
      . have z2:=un.j4 b ob _ z;obtain⟨e1,_⟩:=am b _ z;obtain⟨e2,_⟩:=ah b _ z2;rw[e] at e1;cases e1;exact e2
      . exact absurd z U
    refine⟨rfl,⟨λb o e=>?_,λb o e=>?_⟩,os,aq⟩
    . by_cases U:b∈L.map (·.2)
      . obtain⟨ps,hP⟩:=ae b U;have e2:=aa b U;rw[e] at e2;cases e2;obtain⟨q,hq,rfl⟩:=List.mem_map.mp U;exact .inr (.inl ⟨((hT q hq).1.tab (hT q hq).2).isCodeTable,rfl,#[],ps,rfl,by rw[Q2p];exact hP⟩)
      . exact .inl (keep b o U e)
    . by_cases U:b∈L.map (·.2)
      . obtain⟨ps,hP⟩:=ae b U;exact⟨_,hP⟩
      . exact⟨o,keep b o U e⟩
 cases hk:K.lookup a with
 |some o=>
  have e:=KX a o hk;rw[ha] at e
  cases e;refine ag (λb=>if b∈L.map (·.2) then some (.g4 #[]) else none) (λb=>?_) (λq hq=>if_pos (Q17 hq)) (.inr ⟨_,vs.toArray,_,hk,rfl,rfl,rfl,by rw[Q06,ap];exact hl,by simpa using rv⟩) (λb u z=>?_) (λb z=>?_) λz=>absurd (if_neg ak) z
  . by_cases U:b∈L.map (·.2)
    . exact .inr (.inr ⟨U,if_pos U⟩)
    . exact .inl (if_neg U)
  . by_cases U:b∈L.map (·.2)
    . have z':=(if_pos U).symm.trans z
      cases z';exact aa b U
    . have z':=(if_neg U).symm.trans z
      cases z'
  . by_cases U:b∈L.map (·.2)
    . exact .inr U
    . exact absurd (if_neg U) z
 |none=>
  refine ag (λb=>if b∈L.map (·.2) then some (.g4 #[]) else if b=a then some (.jm { cls:=.type "list",data:=.seq vs.toArray } (.lst (ns.map V.int))) else none) (λb=>?_) (λq hq=>if_pos (Q17 hq))
   (.inl (.inr ⟨{ cls:=.type "list",data:=.seq vs.toArray },(if_neg ak).trans (if_pos rfl)⟩)) (λb u z=>?_) (λb z=>?_) λ_=>hk
  . by_cases U:b∈L.map (·.2)
    . exact .inr (.inr ⟨U,if_pos U⟩)
    . by_cases ab:b=a
      . exact .inr (.inl ⟨_,_,(if_neg U).trans (if_pos ab)⟩)
      . exact .inl ((if_neg U).trans (if_neg ab))
  . by_cases U:b∈L.map (·.2)
    . have z':=(if_pos U).symm.trans z
      cases z';exact aa b U
    . have z:=(if_neg U).symm.trans z;by_cases ab:b=a
      . have z':=(if_pos ab).symm.trans z
        cases z';subst ab;exact⟨ha,by rw[Q05];exact hl,vs,_,rv,ha⟩
      . have z':=(if_neg ab).symm.trans z
        cases z'
  . by_cases U:b∈L.map (·.2)
    . exact .inr U
    . by_cases ab:b=a
      . exact .inl ab
      . exact absurd ((if_neg U).trans (if_neg ab)) z
theorem IT {l:W.OpenLaw}{n k:Nat}{q:Program}{loose:List Str}{XP:(Str->Option Value)->Heap->Prop}{YP:World->Heap->Prop}{d:DefRec}{K:Params->W.Frag}{sp:World->List (Addr × Addr)->Sp}{x:Str}{names:List Str}
 (hn:l.most=some n) (ae:n<=sizeLine) (af:d.params.defaults=[]) (hr:gP k callerA)
 (hY:∀(w:World) (h:Heap),YP w h->(K w.params).In h) (ag:∀w:World,W.noTabs (K w.params)=true)
 (tb:∀w:World,∃J:List (Addr × Addr),(∀q'∈J,∃y∈names,W.tabIn (K w.params) y=some q')/\
   (∀(mg:Str->Option Value) (fa:Addr) (h:Heap),(K w.params).In h->h.Ns mainGlobals mg->mg d.name=some (.ref fa)->
   ∃fd:FuncData,(∀(s:Shared) (u:Value),BindsTo s fd ⟨[u],[]⟩ [(x,u)])/\
    ∀base:Heap,(K w.params).In base->base.Ns mainGlobals mg->BM mg base->fm l.prog w (K w.params) mg base fw k fa fd [x] (sp w J)))
 (ab:∀y∈names,∃d',(recsOf q).find? (λe=>e.name == y)=some d')
 (ah:∀(w:World) (J:List (Addr × Addr)) (H:Hp) (a:Addr) (ns:List Int),ns.length<=n->rf (J.map (·.2)) H->(∀q∈J,H q.2=some (.g4 #[]))->fv (K w.params) H a (ns.map V.int)->sp w J [.ref a] H (λv _=>v=.bl true) λ_ _ _=>False):
 W.WalkO q loose XP YP l.row.toRowW d [] (λf vs=>PySem.call f vs):=by
 refine Bk.HL hn af λw s₀ L mg mb fa o pm cd am a vs ns G Y ho hd an ai ac aa U hg=>?_;have KX:=hY w _ Y;obtain⟨J,ht,F⟩:=tb w;obtain⟨fd,hb,hF⟩:=F mg fa _ KX G.T.g ai
 have hT:W.TabsAt J L.heap:=λq' hq=>by
  obtain⟨y,hy,aj⟩:=ht q' hq;obtain⟨d',ak⟩:=ab y hy;exact W.tab_of G.T KX ak aj
 have al:BM mg L.heap:=by
  obtain⟨bm,ob,b1,b2,b3,b4,b5,b6⟩:=G.T.bmain;refine⟨bm,ob,b1,b2,λz=>?_,b3,b4,b5,b6⟩;obtain⟨o',es,ep,e,hd,_⟩:=G.T.g;rw[z,e] at b3;cases b3;rw[hd] at b6;cases b6
 exact IS KX hT (ag w) al G.T.g G.T.b G.T.builtins G.T.nolimit hg ac aa (Q0c U ae) hr hF hb (λH hO hP hS=>ah w J H a ns U hO hP hS) λH e s' h=>h.elim
end L2
namespace Pb
open L2 PyProof.Rows
mutual
inductive Kd where
 |num
 |gG
 |gA (fs:Fs)
 |rows (key by_:Str) (fs:Fs)
 |tree (k:Kd)
 |ia (fs:Fs)
inductive Fs where
 |nil
 |cons (x:Str) (k:Kd) (r:Fs)
end
mutual
inductive D where
 |int (z:Int)
 |str (x:Str)
 |non
 |boo (b:Bool)
 |tup (xs:Ds)
 |lst (xs:Ds)
 |dct (m:Ds)
inductive Ds where
 |nil
 |cons (x:Str) (d:D) (r:Ds)
end
mutual
noncomputable def Kd.dep:Kd->Nat
 | .num=>1
 | .gG=>1
 | .gA fs=>fs.dep+1
 | .rows _ _ fs=>fs.dep+1
 | .tree k=>k.dep+1
 | .ia fs=>fs.dep+1
noncomputable def Fs.dep:Fs->Nat
 | .nil=>0
 | .cons _ k r=>max k.dep r.dep
end
mutual
noncomputable def D.dep:D->Nat
 | .int _=>1
 | .str _=>1
 | .non=>1
 | .boo _=>1
 | .tup xs=>xs.dep+1
 | .lst xs=>xs.dep+1
 | .dct m=>m.dep+1
noncomputable def Ds.dep:Ds->Nat
 | .nil=>0
 | .cons _ d r=>max d.dep r.dep
end
theorem Kd.k6 (k:Kd):1<=k.dep:=by cases k <;> simp[Kd.dep]
theorem D.k6 (d:D):1<=d.dep:=by cases d <;> simp[D.dep]
noncomputable def Fs.names:Fs->List Str
 | .nil=>[]
 | .cons x _ r=>x::r.names
noncomputable def Fs.get:Fs->Str->Option Kd
 | .nil,_=>none
 | .cons y k r,x=>if x=y then some k else r.get x
noncomputable def Fs.at:Fs->Nat->Option (Str × Kd)
 | .nil,_=>none
 | .cons x k _,0=>some (x,k)
 | .cons _ _ r,i+1=>r.at i
noncomputable def Fs.snoc:Fs->Str->Kd->Fs
 | .nil,x,k=>.cons x k .nil
 | .cons y q r,x,k=>.cons y q (r.snoc x k)
noncomputable def Fs.take:Fs->Nat->Fs
 | .nil,_=>.nil
 | .cons _ _ _,0=>.nil
 | .cons x k r,i+1=>.cons x k (r.take i)
theorem Fs.uG:∀(fs:Fs) (x:Str) (k:Kd),(fs.snoc x k).names=fs.names++[x]
 | .nil,_,_=>rfl
 | .cons y q r,x,k=>by
   show y::(r.snoc x k).names=_;rw[Fs.uG r x k];rfl
theorem Fs.uH:∀(fs:Fs) (x:Str) (k:Kd),(fs.snoc x k).dep=max fs.dep k.dep
 | .nil,_,k=>by simp[Fs.snoc,Fs.dep]
 | .cons y q r,x,k=>by
   show max q.dep (r.snoc x k).dep=max (max q.dep r.dep) k.dep;rw[Fs.uH r x k,Nat.max_assoc]
theorem Fs.jJ:∀(fs:Fs) (i:Nat),fs.names[i]? =(fs.at i).map (·.1)
 | .nil,i=>by simp[Fs.names,Fs.at]
 | .cons x k r,0=>by simp[Fs.names,Fs.at]
 | .cons x k r,i+1=>by
   show(x::r.names)[i+1]? =_;rw[List.getElem?_cons_succ,Fs.jJ r i];rfl
theorem Fs.B_:∀{fs:Fs}{i:Nat},i<fs.names.length->∃x k,fs.at i=some (x,k)
 | .nil,i,h=>by simp[Fs.names] at h
 | .cons x k r,0,h=>⟨x,k,rfl⟩
 | .cons x k r,i+1,h=>Fs.B_ (fs:=r) (i:=i) (by simpa[Fs.names] using h)
theorem Fs.jK:∀{fs:Fs}{i:Nat}{x:Str}{k:Kd},fs.at i=some (x,k)->k.dep<=fs.dep
 | .nil,_,_,_,h=>by cases h
 | .cons x k r,0,_,_,h=>by
   cases h;exact Q2m _ _
 | .cons x k r,i+1,_,_,h=>Q0c (Fs.jK (fs:=r) (i:=i) h) (Q2n _ _)
theorem Fs.md:∀{fs:Fs}{i:Nat}{x:Str}{k:Kd},fs.names.Nodup->fs.at i=some (x,k)->fs.get x=some k
 | .nil,_,_,_,_,h=>by cases h
 | .cons y q r,0,x,k,_,h=>by
   cases h;simp[Fs.get]
 | .cons y q r,i+1,x,k,nd,h=>by
   have nd:(y::r.names).Nodup:=nd;obtain⟨J,n2⟩:=List.nodup_cons.mp nd;have h:r.at i=some (x,k):=h;have L:x∈r.names:=Q0g (i:=i) (by rw[Fs.jJ,h];rfl);show(if x=y then some q else r.get x)=some k;rw[if_neg (λe=>J (by rw[<-e];exact L))];exact Fs.md n2 h
theorem Fs.take_succ:∀{fs:Fs}{i:Nat}{x:Str}{k:Kd},fs.at i=some (x,k)->fs.take (i+1)=(fs.take i).snoc x k
 | .nil,_,_,_,h=>by cases h
 | .cons y q r,0,x,k,h=>by
   cases h
   cases r <;> rfl
 | .cons y q r,i+1,x,k,h=>by
   show Fs.cons y q (r.take (i+1))=Fs.cons y q ((r.take i).snoc x k);rw[Fs.take_succ (fs:=r) (i:=i) h]
theorem Fs.take_zero (fs:Fs):fs.take 0=.nil:=by cases fs <;> rfl
theorem Fs.take_all:∀(fs:Fs),fs.take fs.names.length=fs
 | .nil=>rfl
 | .cons x k r=>by
   show Fs.cons x k (r.take r.names.length)=_;rw[Fs.take_all r]
def me:Kd->Prop
 | .num=>True
 | .gG=>True
 |_=>False
def Fs.pl (fs:Fs) (x:Str):Prop:=∃k,fs.get x=some k/\me k
mutual
def Kd.W:Kd->Prop
 | .num=>True
 | .gG=>True
 | .gA fs=>fs.names.Nodup/\fs.names.length<=12/\fs.W
 | .rows key by_ fs=>fs.names.Nodup/\fs.names.length<=12/\fs.W/\fs.pl key/\(by_=""\/fs.pl by_)
 | .tree k=>k.W
 | .ia fs=>fs.names.Nodup/\fs.names.length<=12/\1<=fs.names.length/\fs.W
def Fs.W:Fs->Prop
 | .nil=>True
 | .cons x k r=>k.W/\x≠""/\r.W
end
theorem Fs.kr:∀{fs:Fs}{i:Nat}{x:Str}{k:Kd},fs.W->fs.at i=some (x,k)->k.W
 | .nil,_,_,_,_,h=>by cases h
 | .cons x k r,0,_,_,w,h=>by
   unfold Fs.W at w
   cases h;exact w.1
 | .cons x k r,i+1,_,_,w,h=>by
   unfold Fs.W at w;exact Fs.kr (fs:=r) (i:=i) w.2.2 h
theorem Fs.uI {x:Str}{k:Kd}(hk:k.W)(J:x≠""):∀{fs:Fs},fs.W->(fs.snoc x k).W
 | .nil,_=>by
   show(Fs.cons x k .nil).W;unfold Fs.W;exact⟨hk,J,by unfold Fs.W;trivial⟩
 | .cons y q r,h=>by
   unfold Fs.W at h;show(Fs.cons y q (r.snoc x k)).W;unfold Fs.W;exact⟨h.1,h.2.1,Fs.uI hk J h.2.2⟩
noncomputable def Ds.get:Ds->Str->Option D
 | .nil,_=>none
 | .cons y d r,x=>if x=y then some d else r.get x
noncomputable def keyOf (m:Ds) (x:Str):Key:=match m.get x with
 |some (.int z)=>.inl z
 |some (.str s)=>.inr s
 |_=>.inl 0
noncomputable def rankOf (key by_:Str) (m:Ds):List Key:=if by_="" then [keyOf m key] else [keyOf m by_,keyOf m key]
theorem IU {key by_:Str}{a b:Ds}(h:rankOf key by_ a=rankOf key by_ b):keyOf a key=keyOf b key:=by
 unfold rankOf at h;split at h
 . exact(List.cons.inj h).1
 . exact(List.cons.inj (List.cons.inj h).2).1
def nu (key by_:Str) (a b:Ds):Prop:=gU (rankOf key by_ a) (rankOf key by_ b)=true
def nv (key by_:Str) (a b:Ds):Prop:=kq (rankOf key by_ a) (rankOf key by_ b)
noncomputable def ins (key by_:Str) (m:Ds):List Ds->List Ds
 |[]=>[m]
 |y::q=>if gU (rankOf key by_ y) (rankOf key by_ m)=true then y::ins key by_ m q else m::y::q
noncomputable def iZ (key by_:Str):List Ds->List Ds
 |[]=>[]
 |m::r=>ins key by_ m (iZ key by_ r)
theorem uJ (key by_:Str)(m:Ds):∀l:List Ds,(ins key by_ m l).Perm (m::l)
 |[]=>List.Perm.refl _
 |y::q=>by
  unfold ins;split
  . exact((uJ key by_ m q).cons y).trans (List.Perm.swap m y q)
  . exact List.Perm.refl _
theorem k7 (key by_:Str):∀l:List Ds,(iZ key by_ l).Perm l
 |[]=>List.Perm.refl _
 |m::r=>(uJ key by_ m _).trans ((k7 key by_ r).cons m)
theorem IV {a b:List Key}(h:gU a b=true):kq a b:=KeyOrd.kle_of_klt (O:=ou) h
theorem IW {a b c:List Key}(h1:kq a b)(h2:kq b c):kq a c:=KeyOrd.kle_trans (O:=ou) h1 h2
theorem Ca (key by_:Str)(m:Ds):∀{l:List Ds},l.Pairwise (nv key by_)->(ins key by_ m l).Pairwise (nv key by_)
 |[],_=>Q2i _ _
 |y::q,h=>by
  obtain⟨h1,h2⟩:=List.pairwise_cons.mp h;unfold ins;by_cases c:gU (rankOf key by_ y) (rankOf key by_ m)=true
  . rw[if_pos c];refine List.pairwise_cons.mpr ⟨λz J=>?_,Ca key by_ m h2⟩;rcases List.mem_cons.mp ((uJ key by_ m q).mem_iff.mp J) with e|e
    . rw[e];exact IV c
    . exact h1 z e
  . rw[if_neg c];have c':nv key by_ m y:=by unfold nv kq;simpa using c
    refine List.pairwise_cons.mpr ⟨λz J=>?_,h⟩;rcases List.mem_cons.mp J with e|e
    . rw[e];exact c'
    . exact IW c' (h1 z e)
theorem rg (key by_:Str):∀l:List Ds,(iZ key by_ l).Pairwise (nv key by_)
 |[]=>List.Pairwise.nil
 |m::r=>Ca key by_ m (rg key by_ r)
theorem rh {key by_:Str}{l:List Ds}(h:l.Pairwise (nv key by_))(nd:(l.map λm=>keyOf m key).Nodup):l.Pairwise (nu key by_):=by
 have J:l.Pairwise λa b=>keyOf a key≠keyOf b key:=List.pairwise_map.mp nd;refine(h.and J).imp λ{a b} ⟨h1,h2⟩=>?_;rcases pN (rankOf key by_ a) (rankOf key by_ b) with q|q|q
 . exact q
 . exact absurd (IU q) h2
 . have h1:gU (rankOf key by_ b) (rankOf key by_ a)=false:=h1;rw[h1] at q;cases q
theorem Cb {key by_:Str}:∀{L J:List Ds},L.Perm J->L.Pairwise (nu key by_)->J.Pairwise (nu key by_)->L=J
 |[],J,p,_,_=>by rw[p.nil_eq]
 |a::r,[],p,_,_=>absurd p.length_eq (by simp)
 |a::r,b::q,p,h1,h2=>by
  obtain⟨Y,a2⟩:=List.pairwise_cons.mp h1;obtain⟨b1,b2⟩:=List.pairwise_cons.mp h2
  have e:a=b:=by
   have ha:a∈b::q:=p.mem_iff.mp Q01;have hb:b∈a::r:=p.mem_iff.mpr Q01;rcases List.mem_cons.mp ha with e|e
   . exact e
   . rcases List.mem_cons.mp hb with U|U
     . exact U.symm
     . have z:=ot _ _ _ (Y b U) (b1 a e);rw[ra] at z;cases z
  subst e;rw[Cb ((Q31 a).mp p) a2 b2]
theorem Cc {key by_:Str}{l z:List Ds}(p:z.Perm l)(h:z.Pairwise (nv key by_))(nd:(l.map λm=>keyOf m key).Nodup):z=iZ key by_ l:=
 Cb (p.trans (k7 key by_ l).symm) (rh h ((p.map _).nodup_iff.mpr nd)) (rh (rg key by_ l) (((k7 key by_ l).map _).nodup_iff.mpr nd))
noncomputable def gm:List Ds->Ds
 |[]=>.nil
 |m::r=>.cons "" (.dct m) (gm r)
noncomputable abbrev pairD (a b:D):D:=.tup (.cons "" a (.cons "" b .nil))
mutual
def Tree (P:D->Prop):D->Prop
 | .tup xs=>jL P xs
 |_=>False
def jL (P:D->Prop):Ds->Prop
 | .cons _ t (.cons _ (.lst as) .nil)=>P t/\iL P as
 |_=>False
def iL (P:D->Prop):Ds->Prop
 | .nil=>True
 | .cons _ d r=>Tree P d/\iL P r
end
mutual
def fU:Kd->D->Prop
 | .num,d=>∃z,d=.int z
 | .gG,d=>∃x,d=.str x
 | .gA fs,d=>∃m,d=.dct m/\f6 fs m
 | .rows key by_ fs,d=>∃J:List Ds,d=.lst (gm J)/\(∀m∈J,f6 fs m)/\J.Pairwise (nu key by_)/\(J.map λm=>keyOf m key).Nodup
 | .tree k,d=>Tree (fU k) d
 | .ia fs,d=>∃x v,d=pairD (.str x) v/\iT fs x v
def f6:Fs->Ds->Prop
 | .nil,m=>m=.nil
 | .cons x k r,m=>∃d q,m=.cons x d q/\fU k d/\f6 r q
def iT:Fs->Str->D->Prop
 | .nil,_,_=>False
 | .cons y k r,x,v=>(x=y/\fU k v)\/(x≠y/\iT r x v)
end
theorem Tree.shape {P:D->Prop}:∀{d:D},Tree P d->∃x y t as,d=.tup (.cons x t (.cons y (.lst as) .nil))/\P t/\iL P as
 | .tup (.cons x t (.cons y (.lst as) .nil)),h=>by
   unfold Tree jL at h;exact⟨x,y,t,as,rfl,h.1,h.2⟩
 | .tup .nil,h=>by unfold Tree jL at h;exact h.elim
 | .tup (.cons _ _ .nil),h=>by unfold Tree jL at h;exact h.elim
 | .tup (.cons _ _ (.cons _ (.int _) _)),h=>by unfold Tree jL at h;exact h.elim
 | .tup (.cons _ _ (.cons _ (.str _) _)),h=>by unfold Tree jL at h;exact h.elim
 | .tup (.cons _ _ (.cons _ .non _)),h=>by unfold Tree jL at h;exact h.elim
 | .tup (.cons _ _ (.cons _ (.boo _) _)),h=>by unfold Tree jL at h;exact h.elim
 | .tup (.cons _ _ (.cons _ (.tup _) _)),h=>by unfold Tree jL at h;exact h.elim
 | .tup (.cons _ _ (.cons _ (.dct _) _)),h=>by unfold Tree jL at h;exact h.elim
 | .tup (.cons _ _ (.cons _ (.lst _) (.cons _ _ _))),h=>by unfold Tree jL at h;exact h.elim
 | .int _,h=>by unfold Tree at h;exact h.elim
 | .str _,h=>by unfold Tree at h;exact h.elim
 | .non,h=>by unfold Tree at h;exact h.elim
 | .boo _,h=>by unfold Tree at h;exact h.elim
 | .lst _,h=>by unfold Tree at h;exact h.elim
 | .dct _,h=>by unfold Tree at h;exact h.elim
theorem f6.get:∀{fs:Fs}{m:Ds}{x:Str}{k:Kd},f6 fs m->fs.get x=some k->∃d,m.get x=some d/\fU k d
 | .nil,_,_,_,_,h=>by cases h
 | .cons y q r,m,x,k,f,h=>by
   unfold f6 at f;obtain⟨d,t,rfl,J,L⟩:=f;have h:(if x=y then some q else r.get x)=some k:=h;by_cases e:x=y
   . rw[if_pos e] at h
     cases h;exact⟨d,by show(if x=y then some d else t.get x)=_;rw[if_pos e],J⟩
   . rw[if_neg e] at h;obtain⟨d',U,Y⟩:=f6.get L h;exact⟨d',by show(if x=y then some d else t.get x)=_;rw[if_neg e];exact U,Y⟩
theorem f6.plain {fs:Fs}{m:Ds}{x:Str}(f:f6 fs m)(h:fs.pl x):(m.get x=some (.int 0)\/True)/\((∃z,m.get x=some (.int z)/\keyOf m x=.inl z/\fs.get x=some .num)\/∃s,m.get x=some (.str s)/\keyOf m x=.inr s/\fs.get x=some .gG):=by
 refine⟨.inr trivial,?_⟩;obtain⟨k,h1,h2⟩:=h;obtain⟨d,J,L⟩:=f.get h1
 cases k with
 |num=>
  unfold fU at L;obtain⟨z,rfl⟩:=L;exact .inl ⟨z,J,by unfold keyOf;rw[J],h1⟩
 |gG=>
  unfold fU at L;obtain⟨s,rfl⟩:=L;exact .inr ⟨s,J,by unfold keyOf;rw[J],h1⟩
 |gA _=>exact h2.elim
 |rows _ _ _=>exact h2.elim
 |tree _=>exact h2.elim
 |ia _=>exact h2.elim
theorem Cd:∀{fs:Fs}{x:Str}{v:D},iT fs x v->x∈fs.names
 | .nil,_,_,h=>by unfold iT at h;exact h.elim
 | .cons y k r,x,v,h=>by
   unfold iT at h;rcases h with⟨e,_⟩|⟨_,h⟩
   . rw[e];exact Q01
   . exact Q04 _ (Cd h)
noncomputable def jM:Option Kd->Bool
 |some .num=>true
 |_=>false
theorem f6.tag {fs:Fs}{m:Ds}{x:Str}(f:f6 fs m)(h:fs.pl x):g6 (keyOf m x)=jM (fs.get x):=by
 rcases(f.plain h).2 with⟨z,_,e,g⟩|⟨s,_,e,g⟩ <;> rw[e,g] <;> rfl
theorem IX {fs:Fs}{key by_:Str}{m:Ds}(f:f6 fs m)(h1:fs.pl key)(h2:by_=""\/fs.pl by_):(rankOf key by_ m).map g6=if by_="" then [jM (fs.get key)] else [jM (fs.get by_),jM (fs.get key)]:=by
 unfold rankOf;split
 . show [g6 (keyOf m key)]=_;rw[f.tag h1]
 . rename_i e;rcases h2 with z|z
   . exact absurd z e
   . show [g6 (keyOf m by_),g6 (keyOf m key)]=_;rw[f.tag h1,f.tag z]
noncomputable def cellAt (ns:List Int) (n:Int):Int:=if 0<ns.length then ns.getD (n % (ns.length:Int)).toNat 0 else 0
noncomputable def nx (ns:List Int) (n:Int):Int:=
 ((cellAt ns n % 2147483647+n * n * 7919+11) * 48271 % 2147483647) * ((cellAt ns n % 2147483647+n * n * 7919+11) * 48271 % 2147483647) % 1999999973
theorem uK (ns:List Int)(n:Int):0<=nx ns n:=Q0p _ (by decide)
theorem uL (ns:List Int)(n:Int):nx ns n<1999999973:=Q0q _ (by decide)
noncomputable def num (ns:List Int) (n:Int):Int:=
 if nx ns n % 3=0 then nx ns n / 3 % 7 - 3 else(cellAt ns n % 10 ^ 40+nx ns n * 10 ^ 29) % (2 * 10 ^ 40) - 10 ^ 40
noncomputable def j8:Str:=" !#$&'()*+,-./0123456789:;<=>?@ABCDEFGHIJKLMNOPQRSTUVWXYZ"++"[\\]^_`abcdefghijklmnopqrstuvwxyz{|}~"
noncomputable def ow (m:Int):Nat->Str
 |0=>""
 |k+1=>ow m k++⟨#[(j8.cps.toList.getD ((m / 145+(k:Int) * (k:Int) * (m / 7 % 3)) % 93).toNat 0)]⟩
noncomputable def gG (ns:List Int) (n:Int):Str:=ow (nx ns n) (if nx ns n / 5 % 29=0 then 40 else(nx ns n % 5).toNat)
noncomputable def times (g:Int->D × Int):Nat->Int->Ds × Int
 |0,n=>(.nil,n)
 |m+1,n=>(.cons "" (g n).1 (times g m (g n).2).1,(times g m (g n).2).2)
noncomputable def ib (ns:List Int) (f:Nat->Int->D × Int):Nat->Nat->Int->D × Int
 |0,_,n=>(.int 0,n)
 |fu+1,room,n=>
  (pairD (f (room / 2) n).1 (.lst (times (ib ns f fu (room / 2)) (nx ns ((f (room / 2) n).2+1) % ((room:Int)+1)).toNat ((f (room / 2) n).2+1)).1),
    (times (ib ns f fu (room / 2)) (nx ns ((f (room / 2) n).2+1) % ((room:Int)+1)).toNat ((f (room / 2) n).2+1)).2)
noncomputable def mf (key:Str) (l:List Ds) (k:Key):Bool:=l.any λr=>decide (keyOf r key=k)
noncomputable def gK (g:Int->Ds × Int) (key:Str):Nat->List Ds->Int->List Ds × Int
 |0,J,n=>(J,n)
 |m+1,J,n=>if mf key J (keyOf (g n).1 key)=true then gK g key m J (g n).2 else gK g key m (J++[(g n).1]) (g n).2
mutual
noncomputable def val (ns:List Int):Kd->Nat->Int->D × Int
 | .num,_,n=>(.int (num ns (n+1)),n+1)
 | .gG,_,n=>(.str (gG ns (n+1)),n+1)
 | .gA fs,room,n=>(.dct (f_ ns fs room n).1,(f_ ns fs room n).2)
 | .rows key by_ fs,room,n=>
   (.lst (gm (iZ key by_ (gK (f_ ns fs (room / 2)) key (nx ns (n+1) % ((room:Int)+1)).toNat [] (n+1)).1)),(gK (f_ ns fs (room / 2)) key (nx ns (n+1) % ((room:Int)+1)).toNat [] (n+1)).2)
 | .tree k,room,n=>ib ns (val ns k) 4 room n
 | .ia fs,room,n=>iG ns fs (nx ns (n+1) % (fs.names.length:Int)).toNat room (n+1)
noncomputable def f_ (ns:List Int):Fs->Nat->Int->Ds × Int
 | .nil,_,n=>(.nil,n)
 | .cons x k r,room,n=>(.cons x (val ns k room n).1 (f_ ns r room (val ns k room n).2).1,(f_ ns r room (val ns k room n).2).2)
noncomputable def iG (ns:List Int):Fs->Nat->Nat->Int->D × Int
 | .nil,_,_,n=>(.int 0,n)
 | .cons x k _,0,room,n=>(pairD (.str x) (val ns k room n).1,(val ns k room n).2)
 | .cons _ _ r,i+1,room,n=>iG ns r i room n
end
theorem rj {g:Int->Ds × Int}{key:Str}:∀(m:Nat) (J:List Ds) (n:Int),(J.map λr=>keyOf r key).Nodup->((gK g key m J n).1.map λr=>keyOf r key).Nodup
 |0,_,_,h=>h
 |m+1,J,n,h=>by
  unfold gK;split
  . exact rj m J _ h
  . rename_i c;refine rj m _ _ ?_;rw[Q0i];refine List.nodup_append.mpr ⟨h,by simp,λa L b U=>?_⟩;have:b=keyOf (g n).1 key:=by simpa using U
    rw[this];obtain⟨r,Y,e⟩:=List.mem_map.mp L;exact λe2=>c (List.any_eq_true.mpr ⟨r,Y,decide_eq_true (e.trans e2)⟩)
theorem oy {g:Int->Ds × Int}{key:Str}{R:Ds->Prop}(L:∀n,R (g n).1):∀(m:Nat) (J:List Ds) (n:Int),(∀r∈J,R r)->∀r∈(gK g key m J n).1,R r
 |0,_,_,h=>h
 |m+1,J,n,h=>by
  unfold gK;split
  . exact oy L m J _ h
  . refine oy L m _ _ λr U=>?_;rcases List.mem_append.mp U with q|q
    . exact h r q
    . have:r=(g n).1:=by simpa using q
      rw[this];exact L n
theorem Ce {P:D->Prop}{g:Int->D × Int}(J:∀n,Tree P (g n).1):∀(m:Nat) (n:Int),iL P (times g m n).1
 |0,_=>by unfold times iL;trivial
 |m+1,n=>by
  unfold times iL;exact⟨J n,Ce J m _⟩
theorem Cf {ns:List Int}{P:D->Prop}{f:Nat->Int->D × Int}(J:∀room n,room<8->P (f room n).1):∀(fu room:Nat) (n:Int),room<8->room<2 ^ fu->Tree P (ib ns f (fu+1) room n).1
 |0,room,n,_,h=>by
  have e:room=0:=by simpa using h
  subst e;unfold ib
  have L:(nx ns ((f (0 / 2) n).2+1) % (((0:Nat):Int)+1)).toNat=0:=by
   have:nx ns ((f (0 / 2) n).2+1) % (((0:Nat):Int)+1)=0:=by
    show _ % (1:Int)=0;exact Int.emod_one _
   rw[this];rfl
  rw[L];unfold Tree jL;exact⟨J _ _ (by decide),by unfold times iL;trivial⟩
 |fu+1,room,n,Y,h=>by
  have U:=λm=>Cf (ns:=ns) J fu (room / 2) m (by omega) (by rw[Nat.pow_succ] at h;omega);unfold ib;unfold Tree jL;exact⟨J _ _ (by omega),Ce U _ _⟩
mutual
theorem rm (ns:List Int):∀(k:Kd),k.W->∀(room:Nat) (n:Int),room<8->fU k (val ns k room n).1
 | .num,_,room,n,_=>by unfold val fU;exact⟨_,rfl⟩
 | .gG,_,room,n,_=>by unfold val fU;exact⟨_,rfl⟩
 | .gA fs,w,room,n,h=>by
   unfold Kd.W at w;unfold val fU;exact⟨_,rfl,ny ns fs w.2.2 room n h⟩
 | .rows key by_ fs,w,room,n,h=>by
   unfold Kd.W at w;unfold val fU;have nd:=rj (g:=f_ ns fs (room / 2)) (key:=key) (nx ns (n+1) % ((room:Int)+1)).toNat [] (n+1) Q0y;refine⟨_,rfl,λm J=>?_,?_,?_⟩
   . exact oy (R:=f6 fs) (λn=>ny ns fs w.2.2.1 (room / 2) n (by omega)) _ _ _ (λr L=>absurd L (by simp)) m ((k7 key by_ _).mem_iff.mp J)
   . exact rh (rg key by_ _) (((k7 key by_ _).map _).nodup_iff.mpr nd)
   . exact((k7 key by_ _).map _).nodup_iff.mpr nd
 | .tree k,w,room,n,h=>by
   unfold Kd.W at w;unfold val fU;exact Cf (λroom n h=>rm ns k w room n h) 3 room n h (by simpa using h)
 | .ia fs,w,room,n,h=>by
   unfold Kd.W at w;unfold val fU
   have hl:(nx ns (n+1) % (fs.names.length:Int)).toNat<fs.names.length:=by
    have:=Q0q (nx ns (n+1)) (show(0:Int)<fs.names.length by omega);have:=Q0p (nx ns (n+1)) (show(fs.names.length:Int)≠0 by omega);omega
   exact Cg ns fs w.2.2.2 w.1 _ room _ h hl
theorem ny (ns:List Int):∀(fs:Fs),fs.W->∀(room:Nat) (n:Int),room<8->f6 fs (f_ ns fs room n).1
 | .nil,_,_,_,_=>by unfold f_ f6;rfl
 | .cons x k r,w,room,n,h=>by
   unfold Fs.W at w;unfold f_ f6;exact⟨_,_,rfl,rm ns k w.1 room n h,ny ns r w.2.2 room _ h⟩
theorem Cg (ns:List Int):∀(fs:Fs),fs.W->fs.names.Nodup->∀(i room:Nat) (n:Int),room<8->i<fs.names.length->∃x v,(iG ns fs i room n).1=pairD (.str x) v/\iT fs x v
 | .nil,_,_,i,_,_,_,hi=>by simp[Fs.names] at hi
 | .cons x k r,w,nd,0,room,n,h,hi=>by
   unfold Fs.W at w;unfold iG;exact⟨x,_,rfl,by unfold iT;exact .inl ⟨rfl,rm ns k w.1 room n h⟩⟩
 | .cons x k r,w,nd,i+1,room,n,h,hi=>by
   unfold Fs.W at w;unfold iG;have nd:(x::r.names).Nodup:=nd;obtain⟨J,n2⟩:=List.nodup_cons.mp nd;obtain⟨y,v,e,f⟩:=Cg ns r w.2.2 n2 i room n h (by simpa[Fs.names] using hi);refine⟨y,v,e,?_⟩;unfold iT;exact .inr ⟨λz=>J (by rw[<-z];exact Cd f),f⟩
end
mutual
noncomputable def Kd.dB:Kd->Nat
 | .num=>1
 | .gG=>1
 | .gA fs=>fs.dB+1
 | .rows _ _ fs=>fs.dB+2
 | .tree k=>k.dB+10
 | .ia fs=>fs.dB+2
noncomputable def Fs.dB:Fs->Nat
 | .nil=>0
 | .cons _ k r=>max k.dB r.dB
end
mutual
noncomputable def Kd.cB:Kd->Nat
 | .num=>1
 | .gG=>1
 | .gA fs=>fs.cB
 | .rows _ _ fs=>8 * fs.cB+1
 | .tree k=>(k.cB+1) * 585
 | .ia fs=>fs.cB+1
noncomputable def Fs.cB:Fs->Nat
 | .nil=>0
 | .cons _ k r=>k.cB+r.cB
end
theorem rn:∀{l:List Ds}{n:Nat},(∀m∈l,m.dep<=n)->(gm l).dep<=n+1
 |[],n,_=>by simp[gm,Ds.dep]
 |m::r,n,h=>by
  have h1:=h m Q01;have h2:=rn (l:=r) (n:=n) λx J=>h x (Q04 _ J);simp only[gm,Ds.dep,D.dep];omega
theorem Ci {g:Int->D × Int}{N:Nat}(J:∀n,(g n).1.dep<=N):∀(m:Nat) (n:Int),(times g m n).1.dep<=N
 |0,_=>by simp[times,Ds.dep]
 |m+1,n=>by
  have h1:=J n;have h2:=Ci J m (g n).2;simp only[times,Ds.dep];omega
theorem Cj {ns:List Int}{f:Nat->Int->D × Int}{N:Nat}(h1:1<=N)(J:∀room n,(f room n).1.dep<=N):∀(fu room:Nat) (n:Int),(ib ns f fu room n).1.dep<=N+2 * fu
 |0,_,_=>by simp[ib,D.dep];omega
 |fu+1,room,n=>by
  have a:=J (room / 2) n;have b:=Ci (g:=ib ns f fu (room / 2)) (N:=N+2 * fu) (λn=>Cj h1 J fu (room / 2) n) (nx ns ((f (room / 2) n).2+1) % ((room:Int)+1)).toNat ((f (room / 2) n).2+1);simp only[ib,D.dep,Ds.dep];omega
theorem Kd.IY (k:Kd):1<=k.dB:=by cases k <;> simp[Kd.dB]
mutual
theorem uM (ns:List Int):∀(k:Kd) (room:Nat) (n:Int),(val ns k room n).1.dep<=k.dB
 | .num,_,_=>by simp[val,D.dep,Kd.dB]
 | .gG,_,_=>by simp[val,D.dep,Kd.dB]
 | .gA fs,room,n=>by
   have:=rq ns fs room n;simp only[val,D.dep,Kd.dB];omega
 | .rows key by_ fs,room,n=>by
   have:=rn (l:=iZ key by_ (gK (f_ ns fs (room / 2)) key (nx ns (n+1) % ((room:Int)+1)).toNat [] (n+1)).1) (n:=fs.dB) λm J=>
    oy (R:=λm=>m.dep<=fs.dB) (λn=>rq ns fs (room / 2) n) _ _ _ (λr L=>absurd L (by simp)) m ((k7 key by_ _).mem_iff.mp J)
   simp only[val,D.dep,Kd.dB];omega
 | .tree k,room,n=>by
   have:=Cj (ns:=ns) (f:=val ns k) k.IY (λroom n=>uM ns k room n) 4 room n;simp only[val,Kd.dB];omega
 | .ia fs,room,n=>by
   have:=Ck ns fs (nx ns (n+1) % (fs.names.length:Int)).toNat room (n+1);simp only[val,Kd.dB];omega
theorem rq (ns:List Int):∀(fs:Fs) (room:Nat) (n:Int),(f_ ns fs room n).1.dep<=fs.dB
 | .nil,_,_=>by simp[f_,Ds.dep]
 | .cons x k r,room,n=>by
   have a:=uM ns k room n;have b:=rq ns r room (val ns k room n).2;simp only[f_,Ds.dep,Fs.dB];omega
theorem Ck (ns:List Int):∀(fs:Fs) (i room:Nat) (n:Int),(iG ns fs i room n).1.dep<=fs.dB+2
 | .nil,_,_,_=>by simp[iG,D.dep]
 | .cons x k r,0,room,n=>by
   have a:=uM ns k room n;simp only[iG,D.dep,Ds.dep,Fs.dB];omega
 | .cons x k r,i+1,room,n=>by
   have a:=Ck ns r i room n;simp only[iG,Fs.dB];omega
end
theorem mod_le {a:Int}{room:Nat}(h:room<8):(a % ((room:Int)+1)).toNat<=room:=by
 have:=Q0q a (show(0:Int)<(room:Int)+1 by omega);have:=Q0p a (show((room:Int)+1)≠0 by omega);omega
theorem uN {g:Int->D × Int}{N:Nat}(J:∀n,n<=(g n).2/\(g n).2<=n+N):∀(m:Nat) (n:Int),n<=(times g m n).2/\(times g m n).2<=n+(m * N:Nat)
 |0,n=>by simp[times]
 |m+1,n=>by
  obtain⟨L,U⟩:=J n;obtain⟨Y,b2⟩:=uN J m (g n).2;have e:(m+1) * N=m * N+N:=Q1q m N;simp only[times];rw[e];omega
noncomputable def k8:Nat->Nat
 |0=>0
 |n+1=>8 * k8 n+1
theorem oz {ns:List Int}{f:Nat->Int->D × Int}{N:Nat}(J:∀room n,room<8->n<=(f room n).2/\(f room n).2<=n+N):∀(fu room:Nat) (n:Int),room<8->n<=(ib ns f fu room n).2/\(ib ns f fu room n).2<=n+((N+1) * k8 fu:Nat)
 |0,_,n,_=>by simp[ib,k8]
 |fu+1,room,n,h=>by
  obtain⟨L,U⟩:=J (room / 2) n (by omega);obtain⟨Y,b2⟩:=uN (g:=ib ns f fu (room / 2)) (N:=(N+1) * k8 fu) (λn=>oz J fu (room / 2) n (by omega)) (nx ns ((f (room / 2) n).2+1) % ((room:Int)+1)).toNat ((f (room / 2) n).2+1);have c:=mod_le (a:=nx ns ((f (room / 2) n).2+1)) h;have d:(nx ns ((f (room / 2) n).2+1) % ((room:Int)+1)).toNat * ((N+1) * k8 fu)<=8 * ((N+1) * k8 fu):=Q12 _ (by omega)
  have e:(N+1) * k8 (fu+1)=8 * ((N+1) * k8 fu)+(N+1):=by
   show(N+1) * (8 * k8 fu+1)=_;rw[Nat.mul_add,Q32,Nat.mul_one]
  simp only[ib];rw[e];omega
theorem rz {g:Int->Ds × Int}{key:Str}{N:Nat}(L:∀n,n<=(g n).2/\(g n).2<=n+N):∀(m:Nat) (J:List Ds) (n:Int),n<=(gK g key m J n).2/\(gK g key m J n).2<=n+(m * N:Nat)
 |0,_,n=>by simp[gK]
 |m+1,J,n=>by
  obtain⟨a1,a2⟩:=L n;have e:(m+1) * N=m * N+N:=Q1q m N;unfold gK;rw[e];split
  . obtain⟨U,Y⟩:=rz (key:=key) L m J (g n).2;omega
  . obtain⟨U,Y⟩:=rz (key:=key) L m (J++[(g n).1]) (g n).2;omega
mutual
theorem oA (ns:List Int):∀(k:Kd) (room:Nat) (n:Int),room<8->n<=(val ns k room n).2/\(val ns k room n).2<=n+k.cB
 | .num,_,_,_=>by simp only[val,Kd.cB];omega
 | .gG,_,_,_=>by simp only[val,Kd.cB];omega
 | .gA fs,room,n,h=>by
   have:=oB ns fs room n h;simp only[val,Kd.cB];omega
 | .rows key by_ fs,room,n,h=>by
   obtain⟨J,L⟩:=rz (g:=f_ ns fs (room / 2)) (key:=key) (N:=fs.cB) (λn=>oB ns fs (room / 2) n (by omega)) (nx ns (n+1) % ((room:Int)+1)).toNat [] (n+1);have c:=mod_le (a:=nx ns (n+1)) h;have d:(nx ns (n+1) % ((room:Int)+1)).toNat * fs.cB<=8 * fs.cB:=Q12 _ (by omega);simp only[val,Kd.cB];omega
 | .tree k,room,n,h=>by
   have:=oz (ns:=ns) (f:=val ns k) (N:=k.cB) (λroom n h=>oA ns k room n h) 4 room n h;have e:k8 4=585:=rfl;rw[e] at this;simp only[val,Kd.cB];omega
 | .ia fs,room,n,h=>by
   have:=Cm ns fs (nx ns (n+1) % (fs.names.length:Int)).toNat room (n+1) h;simp only[val,Kd.cB];omega
theorem oB (ns:List Int):∀(fs:Fs) (room:Nat) (n:Int),room<8->n<=(f_ ns fs room n).2/\(f_ ns fs room n).2<=n+fs.cB
 | .nil,_,_,_=>by simp[f_,Fs.cB]
 | .cons x k r,room,n,h=>by
   have a:=oA ns k room n h;have b:=oB ns r room (val ns k room n).2 h;simp only[f_,Fs.cB];omega
theorem Cm (ns:List Int):∀(fs:Fs) (i room:Nat) (n:Int),room<8->n<=(iG ns fs i room n).2/\(iG ns fs i room n).2<=n+fs.cB
 | .nil,_,_,_,_=>by simp[iG,Fs.cB]
 | .cons x k r,0,room,n,h=>by
   have a:=oA ns k room n h;simp only[iG,Fs.cB];omega
 | .cons x k r,i+1,room,n,h=>by
   have a:=Cm ns r i room n h;simp only[iG,Fs.cB];omega
end
noncomputable def CB:Nat->Nat
 |0=>1
 |d+1=>1200 * CB d
theorem oE:∀d,1<=CB d
 |0=>Q0 _
 |d+1=>by have:=oE d;show 1<=1200 * CB d;omega
mutual
theorem Cn:∀(k:Kd) (d:Nat),k.W->k.dep<=d+1->k.cB<=CB d
 | .num,d,_,_=>oE d
 | .gG,d,_,_=>oE d
 | .gA fs,0,_,h=>by
   simp only[Kd.dep] at h
   cases fs with
   |nil=>simp[Kd.cB,Fs.cB]
   |cons x k r=>have:=k.k6;simp only[Fs.dep] at h;omega
 | .gA fs,d+1,w,h=>by
   unfold Kd.W at w;simp only[Kd.dep] at h;have:=pO fs d w.2.2 (by omega);have e:fs.names.length * CB d<=12 * CB d:=Q12 _ w.2.1;show fs.cB<=1200 * CB d;omega
 | .rows key by_ fs,0,w,h=>by
   simp only[Kd.dep] at h
   cases fs with
   |nil=>simp[Kd.cB,Fs.cB,CB]
   |cons x k r=>have:=k.k6;simp only[Fs.dep] at h;omega
 | .rows key by_ fs,d+1,w,h=>by
   unfold Kd.W at w;simp only[Kd.dep] at h;have:=pO fs d w.2.2.1 (by omega);have e:fs.names.length * CB d<=12 * CB d:=Q12 _ w.2.1;have p:=oE d;show 8 * fs.cB+1<=1200 * CB d;omega
 | .tree k,0,w,h=>by
   have:=k.k6;simp only[Kd.dep] at h;omega
 | .tree k,d+1,w,h=>by
   unfold Kd.W at w;simp only[Kd.dep] at h;have:=Cn k d w (by omega);have p:=oE d;show(k.cB+1) * 585<=1200 * CB d;omega
 | .ia fs,0,w,h=>by
   simp only[Kd.dep] at h
   cases fs with
   |nil=>simp[Kd.cB,Fs.cB,CB]
   |cons x k r=>have:=k.k6;simp only[Fs.dep] at h;omega
 | .ia fs,d+1,w,h=>by
   unfold Kd.W at w;simp only[Kd.dep] at h;have:=pO fs d w.2.2.2 (by omega);have e:fs.names.length * CB d<=12 * CB d:=Q12 _ w.2.1;have p:=oE d;show fs.cB+1<=1200 * CB d;omega
theorem pO:∀(fs:Fs) (d:Nat),fs.W->fs.dep<=d+1->fs.cB<=fs.names.length * CB d
 | .nil,d,_,_=>by simp[Fs.cB]
 | .cons x k r,d,w,h=>by
   unfold Fs.W at w;simp only[Fs.dep] at h;have a:=Cn k d w.1 (by omega);have b:=pO r d w.2.2 (by omega);show k.cB+r.cB<=(r.names.length+1) * CB d;rw[Q1q];omega
end
mutual
theorem Co:∀(k:Kd),k.dB+8<=10 * k.dep
 | .num=>by simp[Kd.dB,Kd.dep]
 | .gG=>by simp[Kd.dB,Kd.dep]
 | .gA fs=>by have:=pP fs;simp only[Kd.dB,Kd.dep];omega
 | .rows _ _ fs=>by have:=pP fs;simp only[Kd.dB,Kd.dep];omega
 | .tree k=>by have:=Co k;simp only[Kd.dB,Kd.dep];omega
 | .ia fs=>by have:=pP fs;simp only[Kd.dB,Kd.dep];omega
theorem pP:∀(fs:Fs),fs.dB<=10 * fs.dep - 8
 | .nil=>by simp[Fs.dB]
 | .cons x k r=>by
   have a:=Co k;have b:=pP r;simp only[Fs.dB,Fs.dep];omega
end
end Pb
namespace Pb
open L2
mutual
def KA (H:Hp):V->Kd->Prop
 |v,.num=>∃a,v=.ref a/\H a=some (.tup [.str "number"])
 |v,.gG=>∃a,v=.ref a/\H a=some (.tup [.str "word"])
 |v,.gA fs=>∃a b vs,v=.ref a/\H a=some (.tup [.str "record",.ref b])/\H b=some (.tup vs)/\FA H vs fs
 |v,.rows key by_ fs=>∃a b vs,v=.ref a/\H a=some (.tup [.str "rows",.str key,.str by_,.ref b])/\H b=some (.tup vs)/\FA H vs fs
 |v,.tree k=>∃a u,v=.ref a/\H a=some (.tup [.str "tree",u])/\KA H u k
 |v,.ia fs=>∃a b vs,v=.ref a/\H a=some (.tup [.str "either",.ref b])/\H b=some (.tup vs)/\FA H vs fs
def FA (H:Hp):List V->Fs->Prop
 |vs,.nil=>vs=[]
 |vs,.cons x k r=>∃c u J,vs=.ref c::J/\H c=some (.tup [.str x,u])/\KA H u k/\FA H J r
end
def Tu (H H':Hp):Prop:=∀a xs,H a=some (.tup xs)->H' a=some (.tup xs)
theorem Tu.trans {H H1 H2:Hp}(a:Tu H H1)(b:Tu H1 H2):Tu H H2:=λc xs h=>b c xs (a c xs h)
theorem Tu.of {H H':Hp}(s:Same H H'):Tu H H':=λa xs h=>s a _ h
theorem Tu.wr {H:Hp}{p:Addr}{o:HO}(h:∀xs,H p≠some (.tup xs)):Tu H (upd H p o):=λa xs e=>by
 rw[fk (λz=>h xs (by rw[<-z];exact e))];exact e
mutual
theorem KA.mono {H H':Hp}(t:Tu H H'):∀{v:V}(k:Kd),KA H v k->KA H' v k
 |v,.num,h=>by
  unfold KA at h ⊢;obtain⟨a,e,q⟩:=h;exact⟨a,e,t _ _ q⟩
 |v,.gG,h=>by
  unfold KA at h ⊢;obtain⟨a,e,q⟩:=h;exact⟨a,e,t _ _ q⟩
 |v,.gA fs,h=>by
  unfold KA at h ⊢;obtain⟨a,b,vs,e,J,L,f⟩:=h;exact⟨a,b,vs,e,t _ _ J,t _ _ L,FA.mono t fs f⟩
 |v,.rows key by_ fs,h=>by
  unfold KA at h ⊢;obtain⟨a,b,vs,e,J,L,f⟩:=h;exact⟨a,b,vs,e,t _ _ J,t _ _ L,FA.mono t fs f⟩
 |v,.tree k,h=>by
  unfold KA at h ⊢;obtain⟨a,u,e,q,f⟩:=h;exact⟨a,u,e,t _ _ q,KA.mono t k f⟩
 |v,.ia fs,h=>by
  unfold KA at h ⊢;obtain⟨a,b,vs,e,J,L,f⟩:=h;exact⟨a,b,vs,e,t _ _ J,t _ _ L,FA.mono t fs f⟩
theorem FA.mono {H H':Hp}(t:Tu H H'):∀{vs:List V}(fs:Fs),FA H vs fs->FA H' vs fs
 |vs,.nil,h=>by
  unfold FA at h ⊢;exact h
 |vs,.cons x k r,h=>by
  unfold FA at h ⊢;obtain⟨c,u,J,e,q,f,g⟩:=h;exact⟨c,u,J,e,t _ _ q,KA.mono t k f,FA.mono t r g⟩
end
theorem FA.len {H:Hp}:∀{vs:List V}(fs:Fs),FA H vs fs->vs.length=fs.names.length
 |vs,.nil,h=>by
  unfold FA at h;rw[h];rfl
 |vs,.cons x k r,h=>by
  unfold FA at h;obtain⟨c,u,J,e,_,_,g⟩:=h;rw[e];show J.length+1=r.names.length+1;rw[FA.len r g]
theorem FA.get {H:Hp}:∀{vs:List V}(fs:Fs) {i:Nat}{v:V},FA H vs fs->vs[i]? =some v->∃c u x k,v=.ref c/\fs.at i=some (x,k)/\H c=some (.tup [.str x,u])/\KA H u k
 |vs,.nil,i,v,h,e=>by
  unfold FA at h;rw[h] at e;simp at e
 |vs,.cons x k r,0,v,h,e=>by
  unfold FA at h;obtain⟨c,u,L,J,q,f,_⟩:=h;rw[J] at e;have e:some (V.ref c)=some v:=e
  cases e;exact⟨c,u,x,k,rfl,rfl,q,f⟩
 |vs,.cons x k r,i+1,v,h,e=>by
  unfold FA at h;obtain⟨c,u,L,J,_,_,g⟩:=h;rw[J] at e;exact FA.get r (i:=i) g (by simpa using e)
theorem FA.at {H:Hp}{vs:List V}{fs:Fs}{i:Nat}{x:Str}{k:Kd}(h:FA H vs fs)(e:fs.at i=some (x,k)):∃c u,vs[i]? =some (.ref c)/\H c=some (.tup [.str x,u])/\KA H u k:=by
 have hl:=FA.len fs h
 have hi:i<fs.names.length:=by
  have:fs.names[i]? =some x:=by rw[Fs.jJ,e];rfl
  exact(List.getElem?_eq_some_iff.mp this).1
 have J:vs[i]? =some (vs[i]'(by omega)):=Q03 (by omega);obtain⟨c,u,Y,k',h1,h2,L,U⟩:=FA.get fs h J;rw[e] at h2;cases h2;exact⟨c,u,by rw[J,h1],L,U⟩
theorem FA.snoc {H:Hp}{c:Addr}{u:V}{x:Str}{k:Kd}(hc:H c=some (.tup [.str x,u]))(hk:KA H u k):∀{vs:List V}(fs:Fs),FA H vs fs->FA H (vs++[.ref c]) (fs.snoc x k)
 |vs,.nil,h=>by
  unfold FA at h;subst h;show FA H [.ref c] (.cons x k .nil);unfold FA;exact⟨c,u,[],rfl,hc,hk,by unfold FA;rfl⟩
 |vs,.cons y q r,h=>by
  unfold FA at h;obtain⟨d,w,J,e,h1,h2,L⟩:=h;subst e;show FA H (.ref d::(J++[.ref c])) (.cons y q (r.snoc x k));unfold FA;exact⟨d,w,J++[.ref c],rfl,h1,h2,FA.snoc hc hk r L⟩
mutual
def Own (H:Hp):V->D->List Addr->Prop
 |v,.int z,fp=>v=.int z/\fp=[]
 |v,.str x,fp=>v=.str x/\fp=[]
 |v,.non,fp=>v=.non/\fp=[]
 |v,.boo b,fp=>v=.bl b/\fp=[]
 |v,.tup xs,fp=>∃a vs,v=.ref a/\H a=some (.tup vs)/\fC H vs xs fp
 |v,.lst xs,fp=>∃a vs J,v=.ref a/\H a=some (.lst vs)/\fp=a::J/\fC H vs xs J
 |v,.dct m,fp=>∃a kvs J,v=.ref a/\H a=some (.dK kvs)/\fp=a::J/\fj H kvs m J
def fC (H:Hp):List V->Ds->List Addr->Prop
 |vs,.nil,fp=>vs=[]/\fp=[]
 |vs,.cons _ d r,fp=>∃v q J L,vs=v::q/\fp=J++L/\Own H v d J/\fC H q r L
def fj (H:Hp):List (Key × V)->Ds->List Addr->Prop
 |kvs,.nil,fp=>kvs=[]/\fp=[]
 |kvs,.cons x d r,fp=>∃v q J L,kvs=(Sum.inr x,v)::q/\fp=J++L/\Own H v d J/\fj H q r L
end
mutual
theorem Own.keep {H H':Hp}(t:Tu H H'):∀{v:V}(d:D) {fp:List Addr},(∀a∈fp,∀o,H a=some o->H' a=some o)->Own H v d fp->Own H' v d fp
 |v,.int z,fp,k,h=>by unfold Own at h ⊢;exact h
 |v,.str x,fp,k,h=>by unfold Own at h ⊢;exact h
 |v,.non,fp,k,h=>by unfold Own at h ⊢;exact h
 |v,.boo _,fp,k,h=>by unfold Own at h ⊢;exact h
 |v,.tup xs,fp,k,h=>by
  unfold Own at h ⊢;obtain⟨a,vs,e,q,f⟩:=h;exact⟨a,vs,e,t _ _ q,fC.keep t xs k f⟩
 |v,.lst xs,fp,k,h=>by
  unfold Own at h ⊢;obtain⟨a,vs,J,e,q,rfl,f⟩:=h;exact⟨a,vs,J,e,k a Q01 _ q,rfl,fC.keep t xs (λb L=>k b (Q04 _ L)) f⟩
 |v,.dct m,fp,k,h=>by
  unfold Own at h ⊢;obtain⟨a,vs,J,e,q,rfl,f⟩:=h;exact⟨a,vs,J,e,k a Q01 _ q,rfl,fj.keep t m (λb L=>k b (Q04 _ L)) f⟩
theorem fC.keep {H H':Hp}(t:Tu H H'):∀{vs:List V}(xs:Ds) {fp:List Addr},(∀a∈fp,∀o,H a=some o->H' a=some o)->fC H vs xs fp->fC H' vs xs fp
 |vs,.nil,fp,k,h=>by unfold fC at h ⊢;exact h
 |vs,.cons x d r,fp,k,h=>by
  unfold fC at h ⊢;obtain⟨v,q,L,U,e,rfl,Y,g2⟩:=h;exact⟨v,q,L,U,e,rfl,Own.keep t d (λb J=>k b (Q0m _ J)) Y,fC.keep t r (λb J=>k b (Q07 _ J)) g2⟩
theorem fj.keep {H H':Hp}(t:Tu H H'):∀{kvs:List (Key × V)}(m:Ds) {fp:List Addr},(∀a∈fp,∀o,H a=some o->H' a=some o)->fj H kvs m fp->fj H' kvs m fp
 |kvs,.nil,fp,k,h=>by unfold fj at h ⊢;exact h
 |kvs,.cons x d r,fp,k,h=>by
  unfold fj at h ⊢;obtain⟨v,q,L,U,e,rfl,Y,g2⟩:=h;exact⟨v,q,L,U,e,rfl,Own.keep t d (λb J=>k b (Q0m _ J)) Y,fj.keep t r (λb J=>k b (Q07 _ J)) g2⟩
end
theorem Own.same {H H':Hp}{v:V}{d:D}{fp:List Addr}(s:Same H H')(h:Own H v d fp):Own H' v d fp:=h.keep (Tu.of s) d λa _ o e=>s a o e
theorem fC.same {H H':Hp}{v:List V}{d:Ds}{fp:List Addr}(s:Same H H')(h:fC H v d fp):fC H' v d fp:=h.keep (Tu.of s) d λa _ o e=>s a o e
theorem fj.same {H H':Hp}{v:List (Key × V)}{d:Ds}{fp:List Addr}(s:Same H H')(h:fj H v d fp):fj H' v d fp:=h.keep (Tu.of s) d λa _ o e=>s a o e
def Mu (H:Hp) (a:Addr):Prop:=(∃xs,H a=some (.lst xs))\/∃kvs,H a=some (.dK kvs)
mutual
theorem Own.alive {H:Hp}:∀{v:V}(d:D) {fp:List Addr},Own H v d fp->∀a∈fp,Mu H a
 |v,.int z,fp,h=>by unfold Own at h;rw[h.2];intro a J;exact absurd J (by simp)
 |v,.str x,fp,h=>by unfold Own at h;rw[h.2];intro a J;exact absurd J (by simp)
 |v,.non,fp,h=>by unfold Own at h;rw[h.2];intro a J;exact absurd J (by simp)
 |v,.boo _,fp,h=>by unfold Own at h;rw[h.2];intro a J;exact absurd J (by simp)
 |v,.tup xs,fp,h=>by
  unfold Own at h;obtain⟨a,vs,e,q,f⟩:=h;exact fC.alive xs f
 |v,.lst xs,fp,h=>by
  unfold Own at h;obtain⟨a,vs,U,e,q,rfl,f⟩:=h;intro b L;rcases List.mem_cons.mp L with z|z
  . rw[z];exact .inl ⟨_,q⟩
  . exact fC.alive xs f b z
 |v,.dct m,fp,h=>by
  unfold Own at h;obtain⟨a,vs,U,e,q,rfl,f⟩:=h;intro b L;rcases List.mem_cons.mp L with z|z
  . rw[z];exact .inr ⟨_,q⟩
  . exact fj.alive m f b z
theorem fC.alive {H:Hp}:∀{vs:List V}(xs:Ds) {fp:List Addr},fC H vs xs fp->∀a∈fp,Mu H a
 |vs,.nil,fp,h=>by unfold fC at h;rw[h.2];intro a J;exact absurd J (by simp)
 |vs,.cons x d r,fp,h=>by
  unfold fC at h;obtain⟨v,q,f1,f2,e,rfl,L,U⟩:=h;intro b Y;rcases List.mem_append.mp Y with z|z
  . exact Own.alive d L b z
  . exact fC.alive r U b z
theorem fj.alive {H:Hp}:∀{kvs:List (Key × V)}(m:Ds) {fp:List Addr},fj H kvs m fp->∀a∈fp,Mu H a
 |kvs,.nil,fp,h=>by unfold fj at h;rw[h.2];intro a J;exact absurd J (by simp)
 |kvs,.cons x d r,fp,h=>by
  unfold fj at h;obtain⟨v,q,f1,f2,e,rfl,L,U⟩:=h;intro b Y;rcases List.mem_append.mp Y with z|z
  . exact Own.alive d L b z
  . exact fj.alive r U b z
end
theorem Mu.ex {H:Hp}{a:Addr}(h:Mu H a):∃o,H a=some o:=by
 rcases h with⟨_,h⟩|⟨_,h⟩ <;> exact⟨_,h⟩
theorem Mu.rA {H:Hp}{a:Addr}(h:Mu H a)(xs:List V):H a≠some (.tup xs):=λz=>by
 rcases h with⟨_,h⟩|⟨_,h⟩ <;> rw[h] at z <;> cases z
noncomputable def Ds.len:Ds->Nat
 | .nil=>0
 | .cons _ _ r=>r.len+1
noncomputable def Ds.names:Ds->List Str
 | .nil=>[]
 | .cons x _ r=>x::r.names
noncomputable def Ds.at:Ds->Nat->Option D
 | .nil,_=>none
 | .cons _ d _,0=>some d
 | .cons _ _ r,i+1=>r.at i
noncomputable def Ds.snoc:Ds->Str->D->Ds
 | .nil,x,d=>.cons x d .nil
 | .cons y e r,x,d=>.cons y e (r.snoc x d)
theorem Ds.jK:∀{xs:Ds}{i:Nat}{d:D},xs.at i=some d->d.dep<=xs.dep
 | .nil,_,_,h=>by cases h
 | .cons _ d r,0,_,h=>by cases h;exact Q2m _ _
 | .cons _ d r,i+1,_,h=>Q0c (Ds.jK (xs:=r) (i:=i) h) (Q2n _ _)
theorem Ds.oF:∀{xs:Ds}{x:Str}{d:D},xs.get x=some d->d.dep<=xs.dep
 | .nil,_,_,h=>by cases h
 | .cons y e r,x,d,h=>by
   have h:(if x=y then some e else r.get x)=some d:=h;by_cases c:x=y
   . rw[if_pos c] at h;cases h;exact Q2m _ _
   . rw[if_neg c] at h;exact Q0c (Ds.oF h) (Q2n _ _)
theorem fC.len {H:Hp}:∀{vs:List V}(xs:Ds) {fp:List Addr},fC H vs xs fp->vs.length=xs.len
 |vs,.nil,fp,h=>by unfold fC at h;rw[h.1];rfl
 |vs,.cons x d r,fp,h=>by
  unfold fC at h;obtain⟨v,q,L,U,rfl,rfl,Y,J⟩:=h;show q.length+1=r.len+1;rw[fC.len r J]
theorem fC.get {H:Hp}:∀{vs:List V}(xs:Ds) {fp:List Addr}{i:Nat}{v:V},fC H vs xs fp->vs[i]? =some v->∃d f,xs.at i=some d/\Own H v d f/\∀a∈f,a∈fp
 |vs,.nil,fp,i,v,h,e=>by
  unfold fC at h;rw[h.1] at e;simp at e
 |vs,.cons x d r,fp,0,v,h,e=>by
  unfold fC at h;obtain⟨w,q,L,f2,rfl,rfl,U,Y⟩:=h;have e:some w=some v:=e
  cases e;exact⟨d,L,rfl,U,λa J=>Q0m _ J⟩
 |vs,.cons x d r,fp,i+1,v,h,e=>by
  unfold fC at h;obtain⟨w,q,L,f2,rfl,rfl,U,Y⟩:=h;obtain⟨d',f,h1,h2,h3⟩:=fC.get r (i:=i) Y (by simpa using e);exact⟨d',f,h1,h2,λa J=>Q07 _ (h3 a J)⟩
theorem fC.snoc {H:Hp}{v:V}{d:D}{g:List Addr}{y:Str}(J:Own H v d g):∀{vs:List V}(xs:Ds) {fp:List Addr},fC H vs xs fp->fC H (vs++[v]) (xs.snoc y d) (fp++g)
 |vs,.nil,fp,h=>by
  unfold fC at h;obtain⟨rfl,rfl⟩:=h;show fC H [v] (.cons y d .nil) g;unfold fC;exact⟨v,[],g,[],rfl,by simp,J,by unfold fC;exact⟨rfl,rfl⟩⟩
 |vs,.cons x e r,fp,h=>by
  unfold fC at h;obtain⟨w,q,L,U,rfl,rfl,Y,g2⟩:=h;show fC H (w::(q++[v])) (.cons x e (r.snoc y d)) (L++U++g);unfold fC;exact⟨w,q++[v],L,U++g,rfl,by rw[Q1r],Y,fC.snoc J r g2⟩
theorem fj.snoc {H:Hp}{v:V}{d:D}{g:List Addr}{y:Str}(J:Own H v d g):∀{kvs:List (Key × V)}(xs:Ds) {fp:List Addr},fj H kvs xs fp->fj H (kvs++[(Sum.inr y,v)]) (xs.snoc y d) (fp++g)
 |kvs,.nil,fp,h=>by
  unfold fj at h;obtain⟨rfl,rfl⟩:=h;show fj H [(Sum.inr y,v)] (.cons y d .nil) g;unfold fj;exact⟨v,[],g,[],rfl,by simp,J,by unfold fj;exact⟨rfl,rfl⟩⟩
 |kvs,.cons x e r,fp,h=>by
  unfold fj at h;obtain⟨w,q,L,U,rfl,rfl,Y,g2⟩:=h;show fj H ((Sum.inr x,w)::(q++[(Sum.inr y,v)])) (.cons x e (r.snoc y d)) (L++U++g);unfold fj;exact⟨w,q++[(Sum.inr y,v)],L,U++g,rfl,by rw[Q1r],Y,fj.snoc J r g2⟩
theorem fj.keys {H:Hp}:∀{kvs:List (Key × V)}(m:Ds) {fp:List Addr},fj H kvs m fp->kvs.map (·.1)=m.names.map Sum.inr
 |kvs,.nil,fp,h=>by unfold fj at h;rw[h.1];rfl
 |kvs,.cons x d r,fp,h=>by
  unfold fj at h;obtain⟨v,q,L,U,rfl,rfl,Y,J⟩:=h;show Sum.inr x::q.map (·.1)=Sum.inr x::r.names.map Sum.inr;rw[fj.keys r J]
theorem fj.len {H:Hp}{kvs:List (Key × V)}{m:Ds}{fp:List Addr}(h:fj H kvs m fp):kvs.length=m.names.length:=by
 have:=congrArg List.length (fj.keys m h);simpa using this
theorem fj.val {H:Hp}:∀{kvs:List (Key × V)}(m:Ds) {fp:List Addr}{x:Str}{d:D},fj H kvs m fp->m.get x=some d->∃v f,gH kvs (Sum.inr x)=some v/\Own H v d f/\∀a∈f,a∈fp
 |kvs,.nil,fp,x,d,h,e=>by cases e
 |kvs,.cons y e r,fp,x,d,h,J=>by
  unfold fj at h;obtain⟨v,q,U,f2,rfl,rfl,Y,g2⟩:=h;have J:(if x=y then some e else r.get x)=some d:=J;by_cases c:x=y
  . rw[if_pos c] at J
    cases J;exact⟨v,U,m9 (by rw[c]),Y,λa L=>Q0m _ L⟩
  . rw[if_neg c] at J;obtain⟨w,f,h1,h2,h3⟩:=fj.val r g2 J;exact⟨w,f,by rw[m_ (λz=>c (Sum.inr.inj z).symm)];exact h1,h2,λa L=>Q07 _ (h3 a L)⟩
theorem f6.names:∀{fs:Fs}{m:Ds},f6 fs m->m.names=fs.names
 | .nil,m,h=>by unfold f6 at h;rw[h];rfl
 | .cons x k r,m,h=>by
   unfold f6 at h;obtain⟨d,q,rfl,_,g⟩:=h;show x::q.names=x::r.names;rw[f6.names g]
theorem fj.Cp {H:Hp}{kvs:List (Key × V)}{m:Ds}{fp:List Addr}{x:Str}(h:fj H kvs m fp)(J:x ∉ m.names):gH kvs (Sum.inr x)=none:=by
 cases e:gH kvs (Sum.inr x) with
 |none=>rfl
 |some v=>
  have:=HM e;rw[fj.keys m h] at this;obtain⟨y,L,U⟩:=List.mem_map.mp this
  cases U;exact absurd L J
theorem nz {kvs:List (Key × V)}{k:Key}{v:V}(h:gH kvs k=none):putK kvs k v=kvs++[(k,v)]:=by
 unfold putK;rw[if_neg];rw[ng,h];simp
def Kp (S:Addr->Prop) (H H':Hp):Prop:=∀c o,¬S c->H c=some o->H' c=some o
theorem Kp.refl (S:Addr->Prop)(H:Hp):Kp S H H:=λ_ _ _ h=>h
theorem Kp.trans {S:Addr->Prop}{H H1 H2:Hp}(x:Kp S H H1)(y:Kp S H1 H2):Kp S H H2:=λc o n h=>y c o n (x c o n h)
theorem Kp.of {S:Addr->Prop}{H H':Hp}(s:Same H H'):Kp S H H':=λc o _ h=>s c o h
theorem Kp.wr {S:Addr->Prop}{H:Hp}{b:Addr}{o:HO}(h:S b):Kp S H (upd H b o):=λc u n q=>by
 rw[fk (λz=>n (by rw[z];exact h))];exact q
theorem Kp.tu {S:Addr->Prop}{H H':Hp}(x:Kp S H H')(h:∀a xs,S a->H a≠some (.tup xs)):Tu H H':=λa xs e=>x a _ (λz=>h a xs z e) e
theorem Kp.pQ {S:Addr->Prop}{H H':Hp}{a:Addr}(x:Kp S H H')(J:¬S a)(h:H' a=none):H a=none:=by
 cases e:H a with
 |none=>rfl
 |some o=>rw[x a o J e] at h;cases h
inductive A3 {α β γ:Type} (R:α->β->γ->Prop):List α->List β->List γ->Prop
 |nil:A3 R [] [] []
 |cons {a:α} {b:β} {c:γ} {as:List α} {bs:List β} {cs:List γ}:R a b c->A3 R as bs cs->A3 R (a::as) (b::bs) (c::cs)
theorem A3.imp {α J L:Type}{R S:α->J->L->Prop}(h:∀a b c,R a b c->S a b c):∀{as:List α}{bs:List J}{cs:List L},A3 R as bs cs->A3 S as bs cs
 |_,_,_,.nil=>.nil
 |_,_,_,.cons a r=>.cons (h _ _ _ a) (A3.imp h r)
theorem A3.snoc {α J L:Type}{R:α->J->L->Prop}{a:α}{b:J}{c:L}(h:R a b c):∀{as:List α}{bs:List J}{cs:List L},A3 R as bs cs->A3 R (as++[a]) (bs++[b]) (cs++[c])
 |_,_,_,.nil=>.cons h .nil
 |_,_,_,.cons x r=>.cons x (A3.snoc h r)
theorem A3.len {α J L:Type}{R:α->J->L->Prop}:∀{as:List α}{bs:List J}{cs:List L},A3 R as bs cs->as.length=bs.length/\as.length=cs.length
 |_,_,_,.nil=>⟨rfl,rfl⟩
 |_,_,_,.cons x r=>by
  obtain⟨h1,h2⟩:=A3.len r;simp only[Q0k];omega
theorem A3.at {α J L:Type}{R:α->J->L->Prop}{a0:α}{b0:J}{c0:L}:∀{as:List α}{bs:List J}{cs:List L},A3 R as bs cs->∀i,i<as.length->R (as.getD i a0) (bs.getD i b0) (cs.getD i c0)
 |_,_,_,.nil,i,h=>absurd h (by simp)
 |_,_,_,.cons x r,0,h=>x
 |_,_,_,.cons x r,i+1,h=>by
  have:=A3.at (a0:=a0) (b0:=b0) (c0:=c0) r i (by simpa using h);simpa using this
theorem A3.pick {α J L:Type}{R:α->J->L->Prop}{a0:α}{b0:J}{c0:L}{as:List α}{bs:List J}{cs:List L}(h:A3 R as bs cs):∀p:List Nat,(∀i∈p,i<as.length)->A3 R (p.map λi=>as.getD i a0) (p.map λi=>bs.getD i b0) (p.map λi=>cs.getD i c0)
 |[],_=>.nil
 |i::p,hp=>.cons (h.at i (hp i Q01)) (A3.pick h p λj U=>hp j (Q04 _ U))
theorem IZ {α:Type}(a0:α):∀l:List α,((List.range l.length).map λi=>l.getD i a0)=l:=λl=>by
 apply Q2h
 . simp
 . intro i h1 h2;simp[h2]
theorem rB {α:Type}(a0:α){l:List α}{p:List Nat}(h:p.Perm (List.range l.length)):(p.map λi=>l.getD i a0).Perm l:=by
 have:=h.map (λi=>l.getD i a0)
 rwa [IZ] at this
theorem Cq {α:Type}{J L:List (List α)}(h:J.Perm L):J.flatten.Perm L.flatten:=by
 induction h with
 |nil=>exact List.Perm.refl _
 |cons x _ U=>exact U.append_left x
 |swap x y l=>
  show(y++(x++l.flatten)).Perm (x++(y++l.flatten));rw[<-Q1r,<-Q1r];exact List.perm_append_comm.append_right _
 |trans _ _ a b=>exact a.trans b
abbrev fZ (H:Hp):List V->List Ds->List (List Addr)->Prop:=A3 λv m f=>Own H v (.dct m) f
theorem fZ.own {H:Hp}:∀{vs:List V}{J:List Ds}{fs:List (List Addr)},fZ H vs J fs->fC H vs (gm J) fs.flatten
 |_,_,_,.nil=>by unfold gm fC;exact⟨rfl,rfl⟩
 |_,_,_,.cons h r=>by
  unfold gm fC;exact⟨_,_,_,_,rfl,rfl,h,fZ.own r⟩
theorem fC.rows {H:Hp}:∀{J:List Ds}{vs:List V}{fp:List Addr},fC H vs (gm J) fp->∃fs,fZ H vs J fs/\fp=fs.flatten
 |[],vs,fp,h=>by
  unfold gm fC at h;obtain⟨rfl,rfl⟩:=h;exact⟨[],.nil,rfl⟩
 |m::J,vs,fp,h=>by
  unfold gm fC at h;obtain⟨v,q,L,f2,rfl,rfl,U,Y⟩:=h;obtain⟨fs,h1,rfl⟩:=fC.rows Y;exact⟨L::fs,.cons U h1,rfl⟩
noncomputable def lt (z:Int):Str:=⟨#[97+z.toNat]⟩
theorem rD (z:Int):(lt z).length=1:=rfl
theorem I0:∀j:Nat,j<26->(("abcdefghijklmnopqrstuvwxyz":Str)).cps.toList[j]? =some (97+j):=by decide +kernel
theorem I_:(("abcdefghijklmnopqrstuvwxyz":Str)).cps.toList.length=26:=by decide +kernel
theorem rE {z:Int}(J:0<=z)(h1:z<26):iC (("abcdefghijklmnopqrstuvwxyz":Str)).cps.toList z=some (97+z.toNat):=by
 unfold iC kQ;rw[I_,if_pos J,if_pos (show z<((26:Nat):Int) by omega)];exact I0 z.toNat (by omega)
theorem Ja {z:Int}(J:0<=z)(h1:z<6):iC [V.int 1,.int 3,.int 5,.int 7,.int 9,.int 11] z=some (.int (2 * z+1)):=by
 obtain⟨n,rfl⟩:=Int.eq_ofNat_of_zero_le J;have h:=Int.ofNat_lt.mp h1;clear J h1;revert n
 decide
noncomputable def nameAt (m:Int) (k:Nat):Str:=
 if m / 12168 % 4=0 then Txt.mul (lt (m / 6 % 26)) ((k:Int)+1)
 else Txt.slice (lt (m / 6 % 26)++lt (m / 156 % 26)) none (some (m / 4056 % 3))++lt ((m / 156+(k:Int) * (2 * (m % 6)+1)) % 26)++Txt.slice (lt (m / 6 % 26)++lt (m / 156 % 26)) (some (m / 4056 % 3)) none
theorem foldl_size (a:Array Nat):∀(n:Nat) (b:Array Nat),((List.replicate n a).foldl (· ++ ·) b).size=b.size+n * a.size
 |0,b=>by simp
 |n+1,b=>by
  rw[Q1s,Q2,foldl_size a n,Q2y,Q1q];omega
theorem Cr {x:Str}(J:x.length=1)(k:Nat):(Txt.mul x ((k:Int)+1)).length=k+1:=by
 have L:x.cps.size=1:=J;unfold Txt.mul;rw[if_neg (by omega)];by_cases h:k=0
 . subst h;rw[if_pos (by simp)];exact J
 . rw[if_neg]
   . show((List.replicate ((k:Int)+1).toNat x.cps).foldl (· ++ ·) #[]).size=k+1;rw[foldl_size,L,show((k:Int)+1).toNat=k+1 by omega];simp
   . rw[J];simp;omega
theorem pR (x y:Str):(x++y).cps.toList=x.cps.toList++y.cps.toList:=by
 show(x.cps++y.cps).toList=_;simp
theorem Cs (x y:Str):(x++y).length=x.length+y.length:=by
 show(x.cps++y.cps).size=x.cps.size+y.cps.size;simp
theorem Jb {p q:Str}{z w:Int}(h:p++lt z++q=p++lt w++q):z.toNat=w.toNat:=by
 have e:=congrArg (λs:Str=>s.cps.toList) h;simp only[pR] at e;have e:=List.append_cancel_left (List.append_cancel_right e);have e:[97+z.toNat]=[97+w.toNat]:=e;have e:=List.cons.inj e |>.1;omega
theorem Jc:∀s:Nat,s<6->∀i,i<12->∀j,j<12->(i * (2 * s+1)) % 26=(j * (2 * s+1)) % 26->i=j:=by decide +kernel
theorem Jd {m:Int}{i j:Nat}(Y:0<=m)(hi:i<12)(L:j<12)(h:nameAt m i=nameAt m j):i=j:=by
 unfold nameAt at h;by_cases J:m / 12168 % 4=0
 . rw[if_pos J,if_pos J] at h;have e:=congrArg Str.length h;rw[Cr (rD _),Cr (rD _)] at e;omega
 . rw[if_neg J,if_neg J] at h;have e:=Jb h;obtain⟨s,U⟩:∃s:Nat,m % 6=s:=⟨(m % 6).toNat,by omega⟩;rw[U] at e;have e:((m / 156+(i * (2 * s+1):Nat)) % 26).toNat=((m / 156+(j * (2 * s+1):Nat)) % 26).toNat:=e;generalize m / 156=a at e;exact Jc s (by omega) i hi j L (by omega)
theorem Je {f:Nat->Str}:∀{n:Nat},(∀i j,i<n->j<n->f i=f j->i=j)->((List.range n).map f).Nodup:=by
 intro n h;refine List.pairwise_map.mpr (List.Pairwise.imp_of_mem (λ{a b} L U J=>?_) (List.nodup_range (n:=n)));intro e;exact J (h a b (List.mem_range.mp L) (List.mem_range.mp U) e)
theorem names_nodup {m:Int}{n:Nat}(J:0<=m)(L:n<=12):((List.range n).map (nameAt m)).Nodup:=
 Je λi j hi U e=>Jd J (by omega) (by omega) e
theorem Jf {x:Str}(J:x.length=1){k:Nat}(hk:k<12)(hl:∀n,n<=1000->Builtin.Str.tooLong n=false):MulOk x ((k:Int)+1):=by
 refine⟨?_,λ_ z=>?_,λ_ _=>?_⟩
 . have L:decide (((k:Int)+1)< -(2 ^ 63:Int))=false:=decide_eq_false (by omega);have U:decide (((k:Int)+1) ≥ 2 ^ 63)=false:=decide_eq_false (by omega);rw[L,U];rfl
 . rw[J];clear hl J z;revert k
   decide
 . rw[J];exact hl _ (by omega)
end Pb
namespace Pb
open L2 PyProof.Rows Spec StrLaws Builtin Builtin.Str
theorem foldl_rep (c:Nat):∀(n:Nat) (b:Array Nat),((List.replicate n #[c]).foldl (· ++ ·) b).toList=b.toList++List.replicate n c
 |0,b=>by simp
 |n+1,b=>by
  rw[Q1s,Q2,foldl_rep c n,Array.toList_append,Q1r];rfl
theorem Ct (z:Int)(k:Nat):(Txt.mul (lt z) ((k:Int)+1)).cps.toList=List.replicate (k+1) (97+z.toNat):=by
 unfold Txt.mul;rw[if_neg (by omega)];by_cases h:(((k:Int)+1 == 1) || (lt z).length == 0)=true
 . rw[if_pos h]
   have hk:k=0:=by
    rw[rD] at h;simp at h;omega
   subst hk;rfl
 . rw[if_neg h];have e:((k:Int)+1).toNat=k+1:=by omega
   rw[e];show((List.replicate (k+1) #[97+z.toNat]).foldl (· ++ ·) #[]).toList=_;rw[foldl_rep];rfl
theorem Cu (a b:Int){c:Int}(Y:0<=c)(h1:c<3):∃J L:List Nat,(Txt.slice (lt a++lt b) none (some c)).cps.toList=J/\(Txt.slice (lt a++lt b) (some c) none).cps.toList=L/\J++L=[97+a.toNat,97+b.toNat]:=by
 have U:(lt a++lt b)=⟨#[97+a.toNat,97+b.toNat]⟩:=rfl;rw[U];have:c=0\/c=1\/c=2:=by omega
 rcases this with rfl|rfl|rfl
 . refine⟨[],[97+a.toNat,97+b.toNat],rfl,?_,rfl⟩;have e:strSliceIndices (some 0) none 1 2=[0,1]:=by decide +kernel
   unfold Txt.slice;rw[show(⟨#[97+a.toNat,97+b.toNat]⟩:Str).length=2 from rfl,e];rfl
 . refine⟨[97+a.toNat],[97+b.toNat],rfl,?_,rfl⟩;have e:strSliceIndices (some 1) none 1 2=[1]:=by decide +kernel
   unfold Txt.slice;rw[show(⟨#[97+a.toNat,97+b.toNat]⟩:Str).length=2 from rfl,e];rfl
 . exact⟨[97+a.toNat,97+b.toNat],[],rfl,rfl,rfl⟩
theorem Cv:("":Str).cps.toList=[]:=by decide +kernel
theorem Jg {m:Int}{i:Nat}:nameAt m i≠"":=by
 intro e;unfold nameAt at e;by_cases h:m / 12168 % 4=0
 . rw[if_pos h] at e;have:=congrArg (λx:Str=>x.cps.toList) e;have this:(Txt.mul (lt (m / 6 % 26)) ((i:Int)+1)).cps.toList=("":Str).cps.toList:=this;rw[Ct,Cv] at this;rw[Q1s] at this
   cases this
 . rw[if_neg h] at e;obtain⟨L,p2,U,Y,e3⟩:=Cu (m / 6 % 26) (m / 156 % 26) (c:=m / 4056 % 3) (by omega) (by omega)
   have J:(Txt.slice (lt (m / 6 % 26)++lt (m / 156 % 26)) none (some (m / 4056 % 3))++lt ((m / 156+(i:Int) * (2 * (m % 6)+1)) % 26)++Txt.slice (lt (m / 6 % 26)++lt (m / 156 % 26)) (some (m / 4056 % 3)) none).cps.toList
    =L++[97+((m / 156+(i:Int) * (2 * (m % 6)+1)) % 26).toNat]++p2:=by
    rw[pR,pR,U,Y];rfl
   have iq:L.length+p2.length=2:=by
    have:=congrArg List.length e3;rw[Q0e] at this;exact this
   have:=congrArg (λx:Str=>x.cps.toList.length) e;have this:List.length _=List.length _:=this;rw[J,Cv,Q0e,Q0e,Q1k] at this;have:L.length+1+p2.length=0:=this;omega
theorem Cw:("zyxw":Str).cps.toList=[122,121,120,119]:=by decide +kernel
theorem Jh {m:Int}{i:Nat}:nameAt m i≠"zyxw":=by
 intro e;unfold nameAt at e;by_cases h:m / 12168 % 4=0
 . rw[if_pos h] at e;have:=congrArg (λx:Str=>x.cps.toList) e;have this:(Txt.mul (lt (m / 6 % 26)) ((i:Int)+1)).cps.toList=("zyxw":Str).cps.toList:=this;rw[Ct,Cw,Q1s] at this;injection this with Y J
   cases i with
   |zero=>cases J
   |succ i=>
    rw[Q1s] at J;injection J with e3 _
    omega
 . rw[if_neg h] at e;obtain⟨U,p2,Y,J,e3⟩:=Cu (m / 6 % 26) (m / 156 % 26) (c:=m / 4056 % 3) (by omega) (by omega)
   have L:(Txt.slice (lt (m / 6 % 26)++lt (m / 156 % 26)) none (some (m / 4056 % 3))++lt ((m / 156+(i:Int) * (2 * (m % 6)+1)) % 26)++Txt.slice (lt (m / 6 % 26)++lt (m / 156 % 26)) (some (m / 4056 % 3)) none).cps.toList
    =U++[97+((m / 156+(i:Int) * (2 * (m % 6)+1)) % 26).toNat]++p2:=by
    rw[pR,pR,Y,J];rfl
   have iq:U.length+p2.length=2:=by
    have:=congrArg List.length e3;rw[Q0e] at this;exact this
   have:=congrArg (λx:Str=>x.cps.toList.length) e;have this:List.length _=List.length _:=this;rw[L,Cw,Q0e,Q0e,Q1k] at this;have:U.length+1+p2.length=4:=this;omega
def sle (x y:Str):Prop:=kq (ik x) (ik y)
def slt (x y:Str):Prop:=gU (ik x) (ik y)=true
theorem Cy (x y:Str)(h:slt x y):¬slt y x:=λh2=>by
 have z:=ot _ _ _ h h2;rw[ra] at z
 cases z
theorem Ji {x y:Str}(h:ik x=ik y):x=y:=Sum.inr.inj (List.cons.inj h).1
theorem uO {x y:Str}(h:sle x y):slt x y\/x=y:=by
 rcases pN (ik x) (ik y) with q|q|q
 . exact .inl q
 . exact .inr (Ji q)
 . have h:gU (ik y) (ik x)=false:=h;rw[h] at q;cases q
theorem Jj {x y:Str}(h:slt x y):sle x y:=by
 unfold sle kq
 cases e:gU (ik y) (ik x) with
 |false=>rfl
 |true=>exact absurd e (Cy _ _ h)
theorem Jk {x y z:Str}(h1:sle x y)(h2:sle y z):sle x z:=by
 rcases uO h1 with a|a
 . rcases uO h2 with b|b
   . exact Jj (ot _ _ _ a b)
   . rw[<-b];exact h1
 . rw[a];exact h2
theorem Jl (x y:Str):ltCps x.cps.toList y.cps.toList=gU (ik x) (ik y):=by
 rw[B9];exact ltCps_eq _ _
theorem Cz:∀{ss:List Str},sortedS ss=true->ss.Pairwise sle
 |[],_=>.nil
 |[x],_=>Q2i _ _
 |x::y::r,h=>by
  have h:(!ltCps y.cps.toList x.cps.toList && risingS y r)=true:=h;obtain⟨h1,h2⟩:=Bool.and_eq_true_iff.mp h;have L:(y::r).Pairwise sle:=Cz (ss:=y::r) h2
  have J:sle x y:=by
   rw[Jl] at h1;unfold sle kq
   cases e:gU (ik y) (ik x) with
   |false=>rfl
   |true=>rw[e] at h1;cases h1
  refine .cons (λz U=>?_) L;rcases List.mem_cons.mp U with e|e
  . rw[e];exact J
  . exact Jk J ((List.pairwise_cons.mp L).1 z e)
theorem CA {α:Type}{R:α->α->Prop}(as:∀a b,R a b->¬R b a):∀{L J:List α},L.Perm J->L.Pairwise R->J.Pairwise R->L=J
 |[],J,p,_,_=>by rw[p.nil_eq]
 |a::r,[],p,_,_=>absurd p.length_eq (by simp)
 |a::r,b::q,p,h1,h2=>by
  obtain⟨a1,a2⟩:=List.pairwise_cons.mp h1;obtain⟨b1,b2⟩:=List.pairwise_cons.mp h2
  have Y:a=b:=by
   have ha:a∈b::q:=p.mem_iff.mp Q01;have hb:b∈a::r:=p.mem_iff.mpr Q01;rcases List.mem_cons.mp ha with e|e
   . exact e
   . rcases List.mem_cons.mp hb with U|U
     . exact U.symm
     . exact absurd (a1 b U) (as b a (b1 a e))
  subst Y;rw[CA as ((Q31 a).mp p) a2 b2]
def mh (H:Hp) (u:V) (pl:Bool):Prop:=∃a f rest,u=.ref a/\H a=some (.tup (.str f::rest))/\(pl=true->rest=[]/\(f="number"\/f="word"))/\(pl=false->f≠"number"/\f≠"word")/\∀v∈rest,(∃s,v=.str s)\/∃c,v=.ref c
theorem mh.mono {H H':Hp}(t:Tu H H'){u:V}{pl:Bool}(h:mh H u pl):mh H' u pl:=by
 obtain⟨a,f,rest,e,h1,h2⟩:=h;exact⟨a,f,rest,e,t _ _ h1,h2⟩
theorem mh.of {H:Hp}{u:V}:∀{k:Kd},KA H u k->∃pl,mh H u pl
 | .num,h=>by
   unfold KA at h;obtain⟨a,e,q⟩:=h;exact⟨true,a,_,_,e,q,λ_=>⟨rfl,.inl rfl⟩,(λz=>by cases z),λv J=>nomatch J⟩
 | .gG,h=>by
   unfold KA at h;obtain⟨a,e,q⟩:=h;exact⟨true,a,_,_,e,q,λ_=>⟨rfl,.inr rfl⟩,(λz=>by cases z),λv J=>nomatch J⟩
 | .gA fs,h=>by
   unfold KA at h;obtain⟨a,b,vs,e,q,_⟩:=h;exact⟨false,a,_,_,e,q,(λz=>by cases z),(λ_=>by decide),λv J=>by rw[List.mem_singleton.mp J];exact .inr ⟨_,rfl⟩⟩
 | .rows key by_ fs,h=>by
   unfold KA at h;obtain⟨a,b,vs,e,q,_⟩:=h;refine⟨false,a,_,_,e,q,(λz=>by cases z),(λ_=>by decide),λv J=>?_⟩;simp only[Q13,Q33,or_false] at J;rcases J with z|z|z <;> subst z
   . exact .inl ⟨_,rfl⟩
   . exact .inl ⟨_,rfl⟩
   . exact .inr ⟨_,rfl⟩
 | .tree k,h=>by
   unfold KA at h;obtain⟨a,b,e,q,hk⟩:=h;obtain⟨_,c,_,_,L,_⟩:=mh.of hk;exact⟨false,a,_,_,e,q,(λz=>by cases z),(λ_=>by decide),λv J=>by rw[List.mem_singleton.mp J];exact .inr ⟨c,L⟩⟩
 | .ia fs,h=>by
   unfold KA at h;obtain⟨a,b,vs,e,q,_⟩:=h;exact⟨false,a,_,_,e,q,(λz=>by cases z),(λ_=>by decide),λv J=>by rw[List.mem_singleton.mp J];exact .inr ⟨_,rfl⟩⟩
noncomputable abbrev Qd:=V × Str × Bool
def rF (H:Hp) (q:Qd):Prop:=∃c u,q.1=.ref c/\H c=some (.tup [.str q.2.1,u])/\mh H u q.2.2
def ku (H:Hp) (J:List Qd):Prop:=∀q∈J,rF H q
noncomputable def nms (J:List Qd):List Str:=J.map (·.2.1)
noncomputable def hX (J:List Qd):List V:=J.map (·.1)
theorem rF.mono {H H':Hp}(t:Tu H H'){q:Qd}(h:rF H q):rF H' q:=by
 obtain⟨c,u,e,h1,h2⟩:=h;exact⟨c,u,e,t _ _ h1,h2.mono t⟩
theorem ku.mono {H H':Hp}(t:Tu H H'){J:List Qd}(h:ku H J):ku H' J:=λq L=>(h q L).mono t
theorem ku.of {H:Hp}:∀{ys:List V}{fs:Fs},FA H ys fs->∃J,hX J=ys/\nms J=fs.names/\ku H J
 |ys,.nil,h=>by
  unfold FA at h;subst h;exact⟨[],rfl,rfl,λq L=>nomatch L⟩
 |ys,.cons x k r,h=>by
  unfold FA at h;obtain⟨c,u,vr,rfl,q,hk,U⟩:=h;obtain⟨J,Y,e2,hp⟩:=ku.of U;obtain⟨pl,hs⟩:=mh.of hk;refine⟨(.ref c,x,pl)::J,by show _::hX J=_;rw[Y],by show x::nms J=_;rw[e2];rfl,λq' L=>?_⟩;rcases List.mem_cons.mp L with e|e
  . subst e;exact⟨c,u,rfl,q,hs⟩
  . exact hp q' e
theorem CC {J:List Qd}(h:(nms J).Pairwise sle)(nd:(nms J).Nodup):J.Pairwise λa b=>slt a.2.1 b.2.1:=by
 have h1:=List.pairwise_map.mp h;have h2:J.Pairwise λa b=>a.2.1≠b.2.1:=List.pairwise_map.mp nd;refine(h1.and h2).imp λ{a b} ⟨x,y⟩=>?_;rcases uO x with z|z
 . exact z
 . exact absurd z y
theorem Jm {L J:List Qd}(p:L.Perm J)(h1:(nms L).Pairwise sle)(h2:(nms J).Pairwise sle)(nd:(nms J).Nodup):L=J:=
 CA (λa b=>Cy _ _) p (CC h1 ((p.map _).nodup_iff.mpr nd)) (CC h2 nd)
end Pb
namespace Pb
open L2
theorem boot_isinstance:bootBuiltins "isinstance"=some (.builtin "isinstance"):=by decide +kernel
theorem boot_sorted:bootBuiltins "sorted"=some (.builtin "sorted"):=by decide +kernel
theorem boot_all:bootBuiltins "all"=some (.builtin "all"):=by decide +kernel
theorem boot_int:bootBuiltins "int"=some (.type "int"):=by decide +kernel
theorem boot_bool:bootBuiltins "bool"=some (.type "bool"):=by decide +kernel
theorem boot_str:bootBuiltins "str"=some (.type "str"):=by decide +kernel
theorem boot_list:bootBuiltins "list"=some (.type "list"):=by decide +kernel
theorem boot_tuple:bootBuiltins "tuple"=some (.type "tuple"):=by decide +kernel
theorem boot_dict:bootBuiltins "dict"=some (.type "dict"):=by decide +kernel
structure Tb (mg:Str->Option Value):Prop where
 iM:mg "len"=none
 jz:mg "isinstance"=none
 rG:mg "sorted"=none
 rH:mg "all"=none
 mi:mg "range"=none
 uP:mg "enumerate"=none
 CD:mg "zip"=none
 CF:mg "int"=none
 CG:mg "bool"=none
 uQ:mg "str"=none
 pS:mg "list"=none
 oG:mg "tuple"=none
 oH:mg "dict"=none
 Jn:mg "set"=none
structure Dn (K:W.Frag) (mg:Str->Option Value) (x:Str) (ps:List Str) (st:Stmt) (f:Addr) (fd:FuncData):Prop where
 F:kW K x x st f fd
 b:Binds K fd ps []
 m:mg x=some (.ref f)
theorem fL {X:Cx}{k U:Nat}{f:Addr}{fd:FuncData}{ps:List Str}{sp:Sp}{x:Str}{p pos:Pos}{e:Expr}{es:List Expr}{t:TA}{st:Stmt}(F:fm X.prog X.w X.K X.mg X.base fw k f fd ps sp)(Y:gP U X.A)(D:Dn X.K X.mg x ps st f fd)(ha:PA X (e::es) t)(hg:Gl X x:=by rfl)(J:(x == ("__debug__":Str))=false:=by decide)(he:starEach (e::es) X.env=(false,eval e X.env)::starEach es X.env:=by rfl)(L:(backTo pos (starEach es X.env)).any (·.1)=false:=by rfl)(hk:k<=U:=by first|decide|omega):PE X (.Call (.Name x p) (e::es) [] pos) (lA sp [] E0 t):=t_ F (Y.mono hk) hg D.m D.F.kp D.b .nil jv ha J he L
theorem fN {X:Cx}(i:Nat){x:Str}{e:Expr}{te:TE}{pos J:Pos}(L:X.N.Nodup)(U:PE X e te)(hi:X.N[i]? =some x:=by rfl)(Y:Loc X.env.scope x:=by exact Or.inl rfl)(hs:swapsWith e (some (.Name x J)) pos.line X.env=pure false:=by rfl)(hf:X.fn x=true\/X.env.scope.names.lookup x=some .local:=by first|exact .inl rfl|exact .inr rfl|assumption):PS X (.Assign [.Name x J] e pos) (o9 te (iB i)):=AH L hi Y U hs hf
theorem Jo {X:Cx}(i:Nat){x:Str}{e:Expr}{te:TE}{pos J:Pos}(L:X.N.Nodup)(U:PE X e te)(hi:X.N[i]? =some x:=by rfl)(Y:Loc X.env.scope x:=by exact Or.inr rfl)(hs:swapsWith e (some (.Name x J)) pos.line X.env=pure false:=by rfl)(hf:X.fn x=true\/X.env.scope.names.lookup x=some .local:=by first|exact .inl rfl|exact .inr rfl|assumption):PS X (.Assign [.Name x J] e pos) (o9 te (iB i)):=AH L hi Y U hs hf
theorem pT:0<=sizeLine:=by decide
theorem mj:1<=sizeLine:=by decide
theorem ix:2<=sizeLine:=by decide
theorem MT:3<=sizeLine:=by decide
theorem pU:4<=sizeLine:=by decide
theorem MU:5<=sizeLine:=by decide
theorem Jp:6<=sizeLine:=by decide
theorem fy {X:Cx}{a b:Expr}{ta tb:TE}{pos:Pos}(J:PE X a ta)(L:PE X b tb)(U:uc b:=by exact λ_ _=>rfl):PE X (.Subscript a b pos) (gY (iY X.K) ta tb):=m8 Ha J L U
theorem jA {X:Cx}{a b:Expr}{ta tb:TE}{pos:Pos}(J:PE X a ta)(L:PE X b tb)(U:uc b:=by exact λ_ _=>rfl):PE X (.Subscript a b pos) (gY (Bb X.K) ta tb):=m8 G_ J L U
theorem jY {X:Cx}{own N:List Str}{scope sc:Scope}(J:X.env.scope=sc:=by rfl)(L:X.N=N:=by rfl)(k:scope.kind=.function:=by rfl)(c:ur own N scope sc=true:=by decide +kernel):jH X own scope:=jH.of J L k c
theorem gQ {α:Type}{a:α}{p:Prop}:a=a\/p:=Or.inl rfl
theorem gw {N P:List Str}{sc:Scope}(h:(sc.kind == .function && !sc.isCoroutine && !sc.isGenerator && decide N.Nodup && N.take P.length == P && P.all (λx=>sc.names.lookup x == some .local || sc.names.lookup x == some .cell) && sc.names.all (λy=>y.2 != .free))=true:=by decide +kernel):gi N P sc:=by
 simp only[Bool.and_eq_true,Q0x,Bool.or_eq_true,beq_iff_eq,bne_iff_ne,decide_eq_true_eq,Bool.not_eq_true',ne_eq] at h;obtain⟨⟨⟨⟨⟨⟨h1,h2⟩,J⟩,L⟩,U⟩,Y⟩,h7⟩:=h;exact⟨h1,h2,J,L,U,Y,h7⟩
abbrev gn:List Str:=XB
abbrev i3:List Str:=XH
abbrev je:List Str:=["_law_kind_here"]
abbrev jN:List Str:=XG
abbrev jO:List Str:=["kind","value"]
abbrev jP:List Str:=XM
abbrev jZ:List Str:=Xa
abbrev j9:List Str:=XR
abbrev lI:List Str:=Xb
abbrev lJ:List Str:=Xg
abbrev lK:List Str:=["kind","tree"]
abbrev lL:List Str:=["pairs"]
abbrev ml:List Str:=XJ
abbrev nA:List Str:=XY
abbrev nB:List Str:=["fields","name"]
abbrev nE:List Str:=["value"]
abbrev nF:List Str:=XW
abbrev nG:List Str:=["fields"]
abbrev nH:List Str:=["kind"]
abbrev oI:List Str:=["stands"]
abbrev oJ:List Str:=["kind","seen"]
abbrev pV:List Str:=["kind","row"]
abbrev pW:List Str:=["fields","value"]
abbrev pX:List Str:=Xd
abbrev rJ:List Str:=XT
abbrev rK:List Str:=Xf
abbrev rL:List Str:=Xc
abbrev rM:List Str:=Xk
abbrev rN:List Str:=Xh
abbrev rO:List Str:=Xl
abbrev rP:List Str:=XZ
abbrev rQ:List Str:=Xm
abbrev rR:List Str:=Xj
abbrev rS:List Str:=XX
abbrev rT:List Str:=XI
abbrev rV:List Str:=XQ
abbrev rW:List Str:=Xi
def jQ (K:W.Frag) (H:Hp) (a:Addr) (ns:List Int):Prop:=
 (∃o,H a=some (.jm o (.lst (ns.map V.int))))\/
   ∃(o:Obj) (J:Array Value) (n:Nat),K.lookup a=some o/\o.cls=.type "list"/\o.dict=none/\o.data=.seq J n/\J.size<=sizeLine/\Vals (ns.map V.int) J.toList
theorem jQ.sq {K:W.Frag}{H:Hp}{a:Addr}{ns:List Int}(h:jQ K H a ns):fv K H a (ns.map V.int):=by
 rcases h with⟨o,h⟩|h
 . exact .inl (.inr ⟨o,h⟩)
 . exact .inr h
def SB (b:Addr) (H H':Hp):Prop:=∀c o,c≠b->H c=some o->H' c=some o
theorem SB.trans {b:Addr}{H H1 H2:Hp}(x:SB b H H1)(y:SB b H1 H2):SB b H H2:=λc o n h=>y c o n (x c o n h)
theorem SB.of {b:Addr}{H H':Hp}(s:Same H H'):SB b H H':=λc o _ h=>s c o h
theorem SB.wr {b:Addr}{H:Hp}{o:HO}:SB b H (upd H b o):=λc u n h=>by rw[fk n];exact h
theorem SB.new {b p:Addr}{H:Hp}{o:HO}(h:H p=none):SB b H (upd H p o):=λc u n q=>by rw[fk (fJ q h)];exact q
structure G0 (K:W.Frag) (H:Hp) (a b:Addr) (ns:List Int) (n:Int):Prop where
 kx:jQ K H a ns
 len:ns.length<=63
 at_:H b=some (.lst [.int n])
 pos:0<=n
theorem SB.kx {K:W.Frag}{b:Addr}{H H':Hp}{a:Addr}{ns:List Int}{n:Int}(x:SB b H H')(J:H b=some (.lst [.int n]))(h:jQ K H a ns):jQ K H' a ns:=by
 rcases h with⟨o,h⟩|h
 . exact .inl ⟨o,x a _ (ic h J (by intro z;cases z)) h⟩
 . exact .inr h
theorem SB.tu {b:Addr}{H H':Hp}{n:Int}(x:SB b H H')(J:H b=some (.lst [.int n])):Tu H H':=λc xs h=>x c _ (ic h J (by intro z;cases z)) h
theorem G0.go {K:W.Frag}{H H':Hp}{a b:Addr}{ns:List Int}{n n':Int}(g:G0 K H a b ns n)(x:SB b H H')(h:H' b=some (.lst [.int n']))(J:n<=n'):G0 K H' a b ns n':=
 ⟨x.kx g.at_ g.kx,g.len,h,by have:=g.pos;omega⟩
theorem Same.new {H:Hp}{p:Addr}{o:HO}(h:H p=none):Same H (upd H p o):=λc u q=>by rw[fk (fJ q h)];exact q
theorem int_at {ns:List Int}{z:Int}(J:0<=z)(h1:z<ns.length):iC (ns.map V.int) z=some (.int (ns.getD z.toNat 0)):=by
 obtain⟨j,rfl⟩:∃j:Nat,z=(j:Int):=⟨z.toNat,by omega⟩;rw[Q2c];exact jX (by rw[Q0h,Q0b,Q03 (by omega)];rfl)
def mq (K:W.Frag):Sp:=λvs H Q _=>∃a b ns n,vs=[.ref a,.ref b]/\G0 K H a b ns n/\n<=1000000000000/\
 ∀(H':Hp),SB b H H'->H' b=some (.lst [.int (n+1)])->Q (.int (nx ns (n+1))) H'
def mr (K:W.Frag):Sp:=λvs H Q _=>∃a b ns n,vs=[.ref a,.ref b]/\G0 K H a b ns n/\n<=1000000000000/\
 ∀(r:Int) (H':Hp),0<=r->r<1999999973->SB b H H'->H' b=some (.lst [.int (n+1)])->Q (.int r) H'
theorem rX {P:Program}{w:World}{K:W.Frag}{mg:Str->Option Value}{base:Heap}{CX:jG}{k:Nat}{f:Addr}{fd:FuncData}{ps:List Str}(F:fm P w K mg base CX k f fd ps (mq K)):fm P w K mg base CX k f fd ps (mr K):=
 F.imp λvs H Q E ⟨a,b,ns,n,e,g,J,q⟩=>⟨a,b,ns,n,e,g,J,λH' L h1=>q _ H' (uK _ _) (uL _ _) L h1⟩
def pY (K:W.Frag):Sp:=λvs H Q _=>∃a b ns n,vs=[.ref a,.ref b]/\G0 K H a b ns n/\n<=1000000000000/\
 ∀(v:V) (k:Kd) (H':Hp),SB b H H'->H' b=some (.lst [.int (n+1)])->KA H' v k->k.dep<=1->me k->k.W->Q v H'
def rY (K:W.Frag):Sp:=λvs H Q _=>∃a b ns n,∃m:Nat,vs=[.ref a,.ref b,.int m]/\m<=12/\G0 K H a b ns n/\n<=1000000000000/\
 ∀(p:Addr) (ss:List Str) (H':Hp),SB b H H'->H' b=some (.lst [.int (n+1)])->p≠b->H' p=some (.lst (ss.map V.str))->ss.length=m->ss.Nodup->(∀x∈ss,x≠"")->(ss.Pairwise sle/\∀x∈ss,x≠"zyxw")->Q (.ref p) H'
noncomputable def ck:Nat->Nat
 |0=>2
 |d+1=>3 * ck d+6
def nI (K:W.Frag) (d:Nat):Sp:=λvs H Q _=>∃a b ns n,vs=[.ref a,.ref b,.int d]/\G0 K H a b ns n/\n+ck d<=1000000000000/\
 ∀(v:V) (k:Kd) (n':Int) (H':Hp),SB b H H'->H' b=some (.lst [.int n'])->n<=n'->n'<=n+ck d->KA H' v k->k.dep<=d+1->k.W->Q v H'
def CH (K:W.Frag) (d:Nat):Sp:=λvs H Q _=>∃a b ns n,∃m:Nat,vs=[.ref a,.ref b,.int m,.int d]/\m<=3/\G0 K H a b ns n/\n+1+3 * ck d<=1000000000000/\
 ∀(t:Addr) (xs:List V) (fs:Fs) (n':Int) (H':Hp),SB b H H'->H' b=some (.lst [.int n'])->n<=n'->n'<=n+1+3 * ck d->H' t=some (.tup xs)->FA H' xs fs->fs.names.Nodup->fs.names.length=m->fs.dep<=d+1->fs.W->Q (.ref t) H'
def CI (K:W.Frag) (d:Nat):Sp:=λvs H Q _=>∃a b ns n,∃m:Nat,vs=[.ref a,.ref b,.int m,.int d]/\1<=m/\m<=3/\G0 K H a b ns n/\n+5+3 * ck d<=1000000000000/\
 ∀(v:V) (k:Kd) (n':Int) (H':Hp),SB b H H'->H' b=some (.lst [.int n'])->n<=n'->n'<=n+5+3 * ck d->KA H' v k->k.dep<=d+2->k.W->Q v H'
def CJ (K:W.Frag) (d:Nat):Sp:=λvs H Q _=>∃a b ns n,∃m:Nat,vs=[.ref a,.ref b,.int m,.int d]/\1<=m/\m<=12/\G0 K H a b ns n/\n+2+(m:Int) * (ck d+1)<=1000000000000/\
 ∀(v:V) (key by_:Str) (fs:Fs) (n':Int) (H':Hp),SB b H H'->H' b=some (.lst [.int n'])->n<=n'->n'<=n+2+(m:Int) * (ck d+1)->KA H' v (.rows key by_ fs)->(Kd.rows key by_ fs).dep<=d+2->(Kd.rows key by_ fs).W->fs.names.length=m->(fs.names.Pairwise sle/\by_≠key)->Q v H'
def CK (K:W.Frag):Sp:=λvs H Q _=>∃a b ns n,vs=[.ref a,.ref b]/\G0 K H a b ns n/\n<=1000000000000/\
 ∀(H':Hp),SB b H H'->H' b=some (.lst [.int (n+1)])->Q (.int (num ns (n+1))) H'
def CL (K:W.Frag):Sp:=λvs H Q _=>∃a b ns n,vs=[.ref a,.ref b]/\G0 K H a b ns n/\n<=1000000000000/\
 ∀(H':Hp),SB b H H'->H' b=some (.lst [.int (n+1)])->Q (.str (gG ns (n+1))) H'
variable {P:Program}{w:World}{K:W.Frag}{mg:Str->Option Value}{base:Heap}
theorem Jq:gi ["_law_script","_law_at","_law_cell","_law_m"] XB (fM (top 36)):=gw
theorem pZ (T:Tb mg)(J:Dn K mg "_law_next" gn (top 36) L U):fm P w K mg base fw (1) L U gn (mq K):=by
 refine J.F.ok Jq λvs H Q E h=>?_;obtain⟨a,b,ns,n,rfl,g,hn,q⟩:=h;refine⟨rfl,λaa A outer s nd hr hu=>?_⟩
 refine⟨_,(e_ (AE (fH js (jA (pv 1) b_) b_) (Gn (pv 1) b_ set_list))
  (e_ (fN 2 nd b_)
  (e_ (f7 (fY n_ (gL jj (by rfl) T.iM PySem.boot_len (a_ (pv 0) c_)) b_ (fV _)) (fx (fN 2 nd (jA (pv 0) (fH gN (jA (pv 1) b_) (gL jj (by rfl) T.iM PySem.boot_len (a_ (pv 0) c_)))))) f9)
  (e_ (fN 3 nd (fH gN (fH lz (fH js (fH js (fH gN (pv 2) b_) (fH lz (fH lz (jA (pv 1) b_) (jA (pv 1) b_)) b_)) b_) b_) b_))
  (fx (fE (fH gN (fH lz (pv 3) (pv 3)) b_))))))),?_⟩
 ac_rfl
 have hb:=g.at_;have hp:=g.pos;have hS:fv K (upd H b (.lst [.int (n+1)])) a (ns.map V.int):=(SB.wr.kx hb g.kx).sq;have Y:upd H b (.lst [.int (n+1)]) b=some (.lst [.int (n+1)]):=fA;refine⟨_,rfl,b,_,_,_,rfl,rfl,fv.of hb,rfl,_,_,rfl,rfl,_,rfl,b,_,_,0,rfl,rfl,hb,rfl,?_⟩;refine⟨_,rfl,a,_,rfl,.inl hS,_,_,rfl,rfl,_,rfl,?_⟩;have hl:(ns.map V.int).length=ns.length:=Q05 _;refine gO (λc=>?_) (λc=>?_)
 . have c':(0:Int)<((ns.map V.int).length:Nat):=of_decide_eq_true c;rw[hl] at c';have i0:=Q0p (n+1) (show(ns.length:Int)≠0 by omega);have i1:=Q0q (n+1) c'
   have hz:iC (ns.map V.int) ((n+1) % (((ns.map V.int).length:Nat):Int))=some (.int (cellAt ns (n+1))):=by
    rw[hl,int_at i0 i1];unfold cellAt;rw[if_pos (by omega)]
   refine⟨_,rfl,_,rfl,b,_,_,_,rfl,rfl,fv.of Y,rfl,_,rfl,a,_,rfl,.inl hS,_,_,rfl,rfl,by rw[hl];exact c',a,_,_,_,rfl,rfl,hS,hz,?_⟩
   refine⟨_,rfl,_,_,rfl,rfl,(by show(0:Int)<_;decide),_,rfl,b,_,_,_,rfl,rfl,fv.of Y,rfl,_,rfl,b,_,_,_,rfl,rfl,fv.of Y,rfl,_,_,rfl,rfl,.inl ⟨by omega,by omega⟩,_,_,rfl,rfl,.inr ⟨by decide,by decide⟩,
    _,_,rfl,rfl,_,_,rfl,rfl,_,_,rfl,rfl,.inr ⟨by decide,by decide⟩,_,_,rfl,rfl,(by show(0:Int)<_;decide),?_⟩
   refine⟨_,rfl,_,rfl,_,_,rfl,rfl,.inl ⟨?_,?_⟩,_,_,rfl,rfl,(by show(0:Int)<_;decide),q _ SB.wr Y⟩
   . exact Q34 (by decide) (Q0p _ (by decide))
   . exact Int.lt_trans (Q0q _ (by decide)) (by decide)
 . have c':¬(0:Int)<((ns.map V.int).length:Nat):=λz=>c (decide_eq_true z);rw[hl] at c'
   have hz:cellAt ns (n+1)=0:=by
    unfold cellAt;rw[if_neg (by omega)]
   have q':Q (.int (((0:Int) % 2147483647+(n+1) * (n+1) * 7919+11) * 48271 % 2147483647 * (((0:Int) % 2147483647+(n+1) * (n+1) * 7919+11) * 48271 % 2147483647) % 1999999973)) (upd H b (.lst [.int (n+1)])):=by
    have:=q _ SB.wr Y;unfold nx at this;rw[hz] at this;exact this
   refine⟨_,rfl,_,_,rfl,rfl,(by show(0:Int)<_;decide),_,rfl,b,_,_,_,rfl,rfl,fv.of Y,rfl,_,rfl,b,_,_,_,rfl,rfl,fv.of Y,rfl,_,_,rfl,rfl,.inl ⟨by omega,by omega⟩,_,_,rfl,rfl,.inr ⟨by decide,by decide⟩,
    _,_,rfl,rfl,_,_,rfl,rfl,_,_,rfl,rfl,.inr ⟨by decide,by decide⟩,_,_,rfl,rfl,(by show(0:Int)<_;decide),?_⟩
   refine⟨_,rfl,_,rfl,_,_,rfl,rfl,.inl ⟨?_,?_⟩,_,_,rfl,rfl,(by show(0:Int)<_;decide),q'⟩
   . exact Q34 (by decide) (Q0p _ (by decide))
   . exact Int.lt_trans (Q0q _ (by decide)) (by decide)
theorem Jr:gi XB XB (fM (top 40)):=gw
theorem uR (T:Tb mg)(J:Dn K mg "_law_plain" gn (top 40) L U)(Y:Dn K mg "_law_next" gn (top 36) aa ab)(ac:fm P w K mg base fw (1) aa ab gn (mr K)):fm P w K mg base fw (2) L U gn (pY K):=by
 refine J.F.ok Jr λvs H Q E h=>?_;obtain⟨a,b,ns,n,rfl,g,hn,q⟩:=h;refine⟨rfl,λaf A outer s nd hr hu=>?_⟩
 refine⟨_,(e_ (f7 (fY gx (fH gN (fL ac hr Y (a_ (pv 0) (a_ (pv 1) c_))) b_) b_ (fV _)) (fx (fE (ij (a_ gj c_)))) f9)
  (fx (fE (ij (a_ gj c_))))),?_⟩
 ac_rfl
 refine⟨_,rfl,_,rfl,a,b,ns,n,rfl,g,hn,λr H1 r0 r1 s1 h1=>?_⟩;refine⟨_,_,rfl,rfl,(by show(0:Int)<_;decide),rfl,_,rfl,?_⟩
 have fin:∀(x:Str) (k:Kd),(∀(p:Addr) (H2:Hp),H2 p=some (.tup [.str x])->KA H2 (.ref p) k)->k.dep<=1->me k->k.W->∀p,H1 p=none->Q (.ref p) (upd H1 p (.tup [.str x])):=λx k hk hd hp hw p ae=>
  q _ k _ (s1.trans (SB.new ae)) (by rw[fk (fJ h1 ae)];exact h1) (hk p _ fA) hd hp hw
 refine gO (λc=>?_) (λc=>?_)
 . exact⟨mj,λp hp=>fin _ .num (λp H2 e=>by unfold KA;exact⟨p,rfl,e⟩) (Q0 _) trivial (by unfold Kd.W;trivial) p hp⟩
 . exact⟨mj,λp hp=>fin _ .gG (λp H2 e=>by unfold KA;exact⟨p,rfl,e⟩) (Q0 _) trivial (by unfold Kd.W;trivial) p hp⟩
theorem Js:gi ["_law_script","_law_at","_law_m","_law_cell"] XB (fM (top 37)):=gw
theorem Jt (T:Tb mg)(J:Dn K mg "_law_number" gn (top 37) L U)(Y:Dn K mg "_law_next" gn (top 36) aa ab)(ac:fm P w K mg base fw (1) aa ab gn (mq K)):fm P w K mg base fw (2) L U gn (CK K):=by
 refine J.F.ok Js λvs H Q E h=>?_;obtain⟨a,b,ns,n,rfl,g,hn,q⟩:=h;refine⟨rfl,λaf A outer s nd hr hu=>?_⟩
 refine⟨_,(e_ (fN 2 nd (fL ac hr Y (a_ (pv 0) (a_ (pv 1) c_))))
  (e_ (fN 3 nd b_)
  (e_ (f7 (fY n_ (gL jj (by rfl) T.iM PySem.boot_len (a_ (pv 0) c_)) b_ (fV _)) (fx (fN 3 nd (jA (pv 0) (fH gN (jA (pv 1) b_) (gL jj (by rfl) T.iM PySem.boot_len (a_ (pv 0) c_)))))) f9)
  (e_ (f7 (fY gx (fH gN (pv 2) b_) b_ (fV _)) (fx (fE (fH l7 (fH gN (fH iF (pv 2) b_) b_) b_))) f9)
  (fx (fE (fH l7 (fH gN (fH js (fH gN (pv 3) (fH qQ b_ b_)) (fH lz (pv 2) (fH qQ b_ b_))) (fH lz b_ (fH qQ b_ b_))) (fH qQ b_ b_)))))))),?_⟩
 ac_rfl
 refine⟨_,rfl,_,rfl,a,b,ns,n,rfl,g,hn,λH1 s1 h1=>?_⟩;have g1:=g.go s1 h1 (by omega);have hS:=g1.kx.sq;have r0:=uK ns (n+1);have r1:=uL ns (n+1);have hl:(ns.map V.int).length=ns.length:=Q05 _;have hq:∀e,num ns (n+1)=e->Q (.int e) H1:=λe he=>by rw[<-he];exact q _ s1 h1
 unfold num at hq;refine⟨_,rfl,a,_,rfl,.inl hS,_,_,rfl,rfl,_,rfl,?_⟩;have pw:tY 10 40:=⟨by decide,by decide,by decide⟩;have ae:tY 10 29:=⟨by decide,by decide,by decide⟩;refine gO (λc=>?_) (λc=>?_)
 . have c':(0:Int)<((ns.map V.int).length:Nat):=of_decide_eq_true c;rw[hl] at c';have i0:=Q0p (n+1) (show(ns.length:Int)≠0 by omega);have i1:=Q0q (n+1) c'
   have hz:iC (ns.map V.int) ((n+1) % (((ns.map V.int).length:Nat):Int))=some (.int (cellAt ns (n+1))):=by
    rw[hl,int_at i0 i1];unfold cellAt;rw[if_pos (by omega)]
   refine⟨_,rfl,_,rfl,b,_,_,_,rfl,rfl,fv.of h1,rfl,_,rfl,a,_,rfl,.inl hS,_,_,rfl,rfl,by rw[hl];exact c',a,_,_,_,rfl,rfl,hS,hz,?_⟩;refine⟨_,rfl,_,_,rfl,rfl,(by show(0:Int)<_;decide),rfl,_,rfl,gO (λc2=>?_) (λc2=>?_)⟩
   . have c3:nx ns (n+1) % 3=0:=by
      have:=of_decide_eq_true c2;injection this
     refine⟨_,rfl,_,_,rfl,rfl,⟨by decide,by decide⟩,_,_,rfl,rfl,(by show(0:Int)<_;decide),_,_,rfl,rfl,hq _ (by rw[if_pos c3])⟩
   . have c3:¬nx ns (n+1) % 3=0:=λz=>c2 (decide_eq_true (show V.int (nx ns (n+1) % 3)=V.int 0 by rw[z]));refine⟨_,rfl,_,_,rfl,rfl,pw,_,_,rfl,rfl,(by show(0:Int)<_;decide),_,rfl,_,_,rfl,rfl,ae,_,_,rfl,rfl,.inl ⟨by omega,by omega⟩,_,_,rfl,rfl,_,_,rfl,rfl,pw,_,_,rfl,rfl,.inl ⟨by decide,by decide⟩,_,_,rfl,rfl,(by show(0:Int)<_;decide),_,_,rfl,rfl,pw,_,_,rfl,rfl,hq _ (by rw[if_neg c3];rfl)⟩
 . have c':¬(0:Int)<((ns.map V.int).length:Nat):=λz=>c (decide_eq_true z);rw[hl] at c'
   have hz:cellAt ns (n+1)=0:=by
    unfold cellAt;rw[if_neg (by omega)]
   refine⟨_,rfl,_,_,rfl,rfl,(by show(0:Int)<_;decide),rfl,_,rfl,gO (λc2=>?_) (λc2=>?_)⟩
   . have c3:nx ns (n+1) % 3=0:=by
      have:=of_decide_eq_true c2;injection this
     refine⟨_,rfl,_,_,rfl,rfl,⟨by decide,by decide⟩,_,_,rfl,rfl,(by show(0:Int)<_;decide),_,_,rfl,rfl,hq _ (by rw[if_pos c3])⟩
   . have c3:¬nx ns (n+1) % 3=0:=λz=>c2 (decide_eq_true (show V.int (nx ns (n+1) % 3)=V.int 0 by rw[z]));refine⟨_,rfl,_,_,rfl,rfl,pw,_,_,rfl,rfl,(by show(0:Int)<_;decide),_,rfl,_,_,rfl,rfl,ae,_,_,rfl,rfl,.inl ⟨by omega,by omega⟩,_,_,rfl,rfl,_,_,rfl,rfl,pw,_,_,rfl,rfl,.inl ⟨by decide,by decide⟩,_,_,rfl,rfl,(by show(0:Int)<_;decide),_,_,rfl,rfl,pw,_,_,rfl,rfl,hq _ (by rw[if_neg c3,hz];rfl)⟩
theorem oK:j8.length=93:=by decide +kernel
theorem CM {z:Int}(J:0<=z)(h1:z<93):iC j8.cps.toList z=some (j8.cps.toList.getD z.toNat 0):=by
 have hl:j8.cps.toList.length=93:=by
  have:=oK;rw[Q1i];exact this
 unfold iC kQ;rw[hl,if_pos J,if_pos (show z<((93:Nat):Int) by omega)];show j8.cps.toList[z.toNat]? =_;rw[Q0b,Q03 (by omega)];rfl
theorem uS (m:Int):∀k,(ow m k).length=k
 |0=>rfl
 |k+1=>by
  show(ow m k++_).length=_;rw[Cs,uS m k];rfl
noncomputable def σW (a b:Addr) (m:Int) (k:Int) (w:Str) (y z:Option V):St:=[some (.ref a),some (.ref b),some (.str j8),some (.int m),some (.int k),some (.str w),y,z]
theorem Ju:gi ["_law_script","_law_at","_law_signs","_law_m","_law_many","_law_word_here","_law_k","_law_place"] XB (fM (top 38)):=gw
theorem Jv (T:Tb mg)(J:Dn K mg "_law_word" gn (top 38) L U)(Y:Dn K mg "_law_next" gn (top 36) aa ab)(ac:fm P w K mg base fw (1) aa ab gn (mq K)):fm P w K mg base fw (2) L U gn (CL K):=by
 refine J.F.ok Ju λvs H Q E h=>?_;obtain⟨a,b,ns,n,rfl,g,hn,q⟩:=h;refine⟨rfl,λaf A outer s nd hr hu=>?_⟩
 refine⟨_,(e_ (fN 2 nd gj)
  (e_ (fN 2 nd (fH pd (pv 2) gj))
  (e_ (fN 3 nd (fL ac hr Y (a_ (pv 0) (a_ (pv 1) c_))))
  (e_ (fN 4 nd (fH gN (pv 3) b_))
  (e_ (f7 (fY gx (fH gN (fH iF (pv 3) b_) b_) b_ (fV _)) (fx (fN 4 nd b_)) f9)
  (e_ (fN 5 nd gj)
  (e_ (iz PassesOwn.never rfl (mU rfl T.mi (a_ (pv 4) c_)) (gu (i:=6) nd rfl gQ) (e_ (fN 7 nd (fH js (fH iF (pv 3) b_) (fH lz (fH lz (pv 6) (pv 6)) (fH gN (fH iF (pv 3) b_) b_))))
  (fx (fN 5 nd (fH pd (pv 5) (m8 pq (pv 2) (fH gN (pv 7) (gL Hi (by rfl) T.iM PySem.boot_len (a_ (pv 2) c_))) (λ_ _=>rfl)))))))
  (fx (fE (pv 5)))))))))),?_⟩
 ac_rfl
 have ae:(j8).length<=sizeLine:=by rw[oK];decide
 refine⟨_,rfl,_,_,rfl,rfl,ae,?_⟩;refine⟨_,rfl,_,rfl,a,b,ns,n,rfl,g,hn,λH1 s1 h1=>?_⟩;have r0:=uK ns (n+1);have r1:=uL ns (n+1);have hq:∀e,gG ns (n+1)=e->Q (.str e) H1:=λe he=>by rw[<-he];exact q _ s1 h1
 unfold gG at hq;generalize nx ns (n+1)=m at *;refine⟨_,rfl,_,_,rfl,rfl,(by show(0:Int)<_;decide),?_⟩;refine⟨_,rfl,_,_,rfl,rfl,⟨by decide,by decide⟩,_,_,rfl,rfl,(by show(0:Int)<_;decide),rfl,_,rfl,gO (λc=>?_) (λc=>?_)⟩
 . have c3:m / 5 % 29=0:=by
    have:=of_decide_eq_true c;injection this
   rw[if_pos c3] at hq;refine⟨_,rfl,_,rfl,by decide,by decide,l5 (n:=Int.toNat 40) (λi σ H'=>∃y z,σ=σW a b m 40 (ow m i) y z/\H'=H1) ⟨_,_,rfl,rfl⟩ ?_ ?_⟩
   . rintro i σ H' hi ⟨y,z,rfl,rfl⟩;have hi:i<40:=hi;have e0:(0:Int)+(i:Int)=(i:Int):=by omega
     have l3:0<=(m / 145+((0:Int)+(i:Int)) * ((0:Int)+(i:Int)) * (m / 7 % 3)) % 93/\(m / 145+((0:Int)+(i:Int)) * ((0:Int)+(i:Int)) * (m / 7 % 3)) % 93<93:=⟨Q0p _ (by decide),Q0q _ (by decide)⟩;refine⟨_,rfl,_,_,rfl,rfl,⟨by decide,by decide⟩,_,rfl,_,rfl,_,_,rfl,rfl,.inl ⟨by omega,by omega⟩,_,rfl,_,_,rfl,rfl,⟨by decide,by decide⟩,_,_,rfl,rfl,(by show(0:Int)<_;decide),_,_,rfl,rfl,.inr ⟨by omega,by omega⟩,_,_,rfl,rfl,?_⟩;refine⟨_,rfl,_,rfl,_,rfl,_,rfl,_,rfl,ae,_,_,rfl,rfl,(by show(0:Int)<((j8.length:Nat):Int);rw[oK];decide),j8,_,_,rfl,rfl,ae,(by rw[oK];exact CM l3.1 l3.2),_,_,rfl,rfl,?_,?_⟩
     . rw[uS];show i+1<=sizeLine;exact Q0s (g_ (by omega))
     . rw[e0];exact⟨_,_,rfl,rfl⟩
   . rintro σ H' ⟨y,z,rfl,rfl⟩;exact⟨_,rfl,hq _ rfl⟩
 . have c3:¬m / 5 % 29=0:=λz=>c (decide_eq_true (show V.int (m / 5 % 29)=V.int 0 by rw[z]));rw[if_neg c3] at hq;have h5:0<=m % 5/\m % 5<5:=by omega
   refine⟨_,rfl,_,rfl,by omega,by omega,l5 (n:=Int.toNat (m % 5)) (λi σ H'=>∃y z,σ=σW a b m (m % 5) (ow m i) y z/\H'=H1) ⟨_,_,rfl,rfl⟩ ?_ ?_⟩
   . rintro i σ H' hi ⟨y,z,rfl,rfl⟩;have hi:i<40:=by omega
     have e0:(0:Int)+(i:Int)=(i:Int):=by omega
     have l3:0<=(m / 145+((0:Int)+(i:Int)) * ((0:Int)+(i:Int)) * (m / 7 % 3)) % 93/\(m / 145+((0:Int)+(i:Int)) * ((0:Int)+(i:Int)) * (m / 7 % 3)) % 93<93:=⟨Q0p _ (by decide),Q0q _ (by decide)⟩;refine⟨_,rfl,_,_,rfl,rfl,⟨by decide,by decide⟩,_,rfl,_,rfl,_,_,rfl,rfl,.inl ⟨by omega,by omega⟩,_,rfl,_,_,rfl,rfl,⟨by decide,by decide⟩,_,_,rfl,rfl,(by show(0:Int)<_;decide),_,_,rfl,rfl,.inr ⟨by omega,by omega⟩,_,_,rfl,rfl,?_⟩;refine⟨_,rfl,_,rfl,_,rfl,_,rfl,_,rfl,ae,_,_,rfl,rfl,(by show(0:Int)<((j8.length:Nat):Int);rw[oK];decide),j8,_,_,rfl,rfl,ae,(by rw[oK];exact CM l3.1 l3.2),_,_,rfl,rfl,?_,?_⟩
     . rw[uS];show i+1<=sizeLine;exact Q0s (g_ (by omega))
     . rw[e0];exact⟨_,_,rfl,rfl⟩
   . rintro σ H' ⟨y,z,rfl,rfl⟩;exact⟨_,rfl,hq _ rfl⟩
theorem Jw (n:Nat)(h:n<=1000):Builtin.Str.tooLong n=false:=by
 have:n<=sizeLine:=Q0s (g_ h);unfold Builtin.Str.tooLong;exact decide_eq_false (by omega)
theorem Jx (f:Nat->Str)(i:Nat):((List.range (i+1)).map f).map V.str=((List.range i).map f).map V.str++[V.str (f i)]:=by
 rw[Q35,Q0i,Q0i];rfl
noncomputable abbrev abc:Str:="abcdefghijklmnopqrstuvwxyz"
noncomputable abbrev stemOf (r:Int):Str:=lt (r / 6 % 26)++lt (r / 156 % 26)
noncomputable def σN (a b:Addr) (m:Nat) (r:Int) (p:Addr) (y z:Option V):St:=
 [some (.ref a),some (.ref b),some (.int m),some (.str abc),some (.int r),some (.int (2 * (r % 6)+1)),some (.str (stemOf r)),some (.int (r / 4056 % 3)),some (.ref p),y,z]
theorem Jy:gi ["_law_script","_law_at","_law_many","_law_letters","_law_m","_law_step","_law_stem","_law_cut","_law_names_here","_law_k","_law_sign"] Xb (fM (top 39)):=gw
theorem CN (T:Tb mg)(J:Dn K mg "_law_names" lI (top 39) L U)(aa:Dn K mg "_law_next" gn (top 36) ab ac)(ae:fm P w K mg base fw (1) ab ac gn (mr K)):fm P w K mg base fw (2) L U lI (rY K):=by
 refine J.F.ok Jy λvs H Q E h=>?_;obtain⟨a,b,ns,n,m,rfl,hm,g,hn,q⟩:=h;refine⟨rfl,λan A outer s nd hr hu=>?_⟩
 refine⟨_,(e_ (fN 3 nd gj)
  (e_ (fN 4 nd (fL ae hr aa (a_ (pv 0) (a_ (pv 1) c_))))
  (e_ (fN 5 nd (jA (iw (a_ b_ (a_ b_ (a_ b_ (a_ b_ (a_ b_ (a_ b_ c_))))))) (fH gN (pv 4) b_)))
  (e_ (fN 6 nd (fH pd (m8 pq (pv 3) (fH gN (fH iF (pv 4) b_) b_) (λ_ _=>rfl)) (m8 pq (pv 3) (fH gN (fH iF (pv 4) b_) b_) (λ_ _=>rfl))))
  (e_ (fN 7 nd (fH gN (fH iF (pv 4) b_) b_))
  (e_ (fN 8 nd (iw c_))
  (e_ (iz PassesOwn.never rfl (mU rfl T.mi (a_ (pv 2) c_)) (gu (i:=9) nd rfl gQ) (fx (f7 (fY gx (fH gN (fH iF (pv 4) b_) b_) b_ (fV _)) (fx (jh (ko PySem.F.plainAttrs_list PySem.F.slot_list_append PySem.F.type_list_append lB (pv 8) (a_ (fH H_ (m8 pq (pv 3) (fH gN (fH iF (pv 4) b_) b_) (λ_ _=>rfl)) (fH js (pv 9) b_)) c_)))) (e_ (fN 10 nd (m8 pq (pv 3) (fH gN (fH js (fH iF (pv 4) b_) (fH lz (pv 9) (pv 5))) b_) (λ_ _=>rfl)))
  (fx (jh (ko PySem.F.plainAttrs_list PySem.F.slot_list_append PySem.F.type_list_append lB (pv 8) (a_ (fH pd (fH pd (pj Bx (pv 6) pf (ph (pv 7))) (pv 10)) (pj Bx (pv 6) (ph (pv 7)) pf)) c_))))))))
  (fx (fE (gL HW (by rfl) T.rG boot_sorted (a_ (pv 8) c_))))))))))),?_⟩
 ac_rfl
 refine⟨_,rfl,_,rfl,a,b,ns,n,rfl,g,hn,λr H1 r0 r1 s1 h1=>?_⟩;have hz:(abc).length<=sizeLine:=by decide +kernel
 have m6:0<=r % 6/\r % 6<6:=by omega
 have l1:0<=r / 6 % 26/\r / 6 % 26<26:=by omega
 have l2:0<=r / 156 % 26/\r / 156 % 26<26:=by omega
 refine⟨Jp,λp1 aj=>?_⟩;refine⟨_,rfl,_,_,rfl,rfl,(by show(0:Int)<_;decide),p1,_,_,_,rfl,rfl,fv.of fA,Ja m6.1 m6.2,?_⟩;have s2:SB b H (upd H1 p1 (.lst [.int 1,.int 3,.int 5,.int 7,.int 9,.int 11])):=s1.trans (SB.new aj);have h2:upd H1 p1 (.lst [.int 1,.int 3,.int 5,.int 7,.int 9,.int 11]) b=some (.lst [.int (n+1)]):=by rw[fk (fJ h1 aj)];exact h1
 generalize upd H1 p1 (.lst [.int 1,.int 3,.int 5,.int 7,.int 9,.int 11])=H2 at s2 h2
 refine⟨_,rfl,_,rfl,_,_,rfl,rfl,⟨by decide,by decide⟩,_,_,rfl,rfl,(by show(0:Int)<_;decide),_,_,_,rfl,rfl,hz,rE l1.1 l1.2,_,rfl,_,rfl,_,_,rfl,rfl,⟨by decide,by decide⟩,_,_,rfl,rfl,(by show(0:Int)<_;decide),_,_,_,rfl,rfl,hz,rE l2.1 l2.2,
  _,_,rfl,rfl,ix,?_⟩
 refine⟨_,rfl,_,_,rfl,rfl,⟨by decide,by decide⟩,_,_,rfl,rfl,(by show(0:Int)<_;decide),?_⟩;refine⟨pT,λp hp=>?_⟩;have al:p≠b:=λz=>by rw[z,h2] at hp;cases hp
 have em:Int.toNat (m:Int)=m:=by omega
 refine⟨_,rfl,_,rfl,by omega,by omega,l5 (n:=Int.toNat (m:Int)) (λi σ H'=>∃y z,σ=σN a b m r p y z/\SB b H H'/\H' b=some (.lst [.int (n+1)])/\H' p=some (.lst (((List.range i).map (nameAt r)).map V.str))) ?_ ?_ ?_⟩
 . exact⟨_,_,rfl,s2.trans (SB.new hp),by rw[fk (fJ h2 hp)];exact h2,fA⟩
 . intro i σ H' hi zq;obtain⟨y,z,rfl,sb,ah,ag⟩:=zq;rw[em] at hi
   have af:(((List.range i).map (nameAt r)).map V.str).length<sizeLine:=by
    rw[Q05,Q05,Q1z];exact g_ (by omega)
   have next:∀(v:Str) (y' z':Option V),v=nameAt r i->∃y z,σN a b m r p y' z'=σN a b m r p y z/\SB b H (upd H' p (.lst (((List.range i).map (nameAt r)).map V.str++[V.str v])))/\
    upd H' p (.lst (((List.range i).map (nameAt r)).map V.str++[V.str v])) b=some (.lst [.int (n+1)])/\upd H' p (.lst (((List.range i).map (nameAt r)).map V.str++[V.str v])) p=some (.lst (((List.range (i+1)).map (nameAt r)).map V.str)):=by
    rintro v y' z' rfl;refine⟨y',z',rfl,λc o hc hh=>?_,by rw[fk (Ne.symm al)];exact ah,by rw[fA,Jx]⟩;by_cases e:c=p
    . subst e;have:=s2 c o hc hh;rw[hp] at this;cases this
    . rw[fk e];exact sb c o hc hh
   have e0:(0:Int)+(i:Int)=(i:Int):=by omega
   refine⟨_,rfl,_,_,rfl,rfl,⟨by decide,by decide⟩,_,_,rfl,rfl,(by show(0:Int)<_;decide),rfl,_,rfl,?_⟩;refine gO (λc=>?_) (λc=>?_)
   . have c':r / 12168 % 4=0:=by
      have:=of_decide_eq_true c;injection this
     refine⟨_,rfl,.inl ⟨rfl,_,fv.of ag⟩,_,rfl,_,rfl,_,_,rfl,rfl,⟨by decide,by decide⟩,_,_,rfl,rfl,(by show(0:Int)<_;decide),_,_,_,rfl,rfl,hz,rE l1.1 l1.2,_,rfl,_,_,rfl,rfl,_,_,rfl,rfl,?_,p,_,_,rfl,rfl,ag,af,?_⟩
     . rw[e0];exact Jf (rD _) (by omega) Jw
     . refine next _ _ _ ?_;rw[e0];unfold nameAt;rw[if_pos c'];rfl
   . have c':¬r / 12168 % 4=0:=λz=>c (decide_eq_true (show V.int (r / 12168 % 4)=V.int 0 by rw[z]));have l3:0<=(r / 156+((0:Int)+(i:Int)) * (2 * (r % 6)+1)) % 26/\(r / 156+((0:Int)+(i:Int)) * (2 * (r % 6)+1)) % 26<26:=⟨Q0p _ (by decide),Q0q _ (by decide)⟩;have ls:(stemOf r).length<=sizeLine:=ix;refine⟨_,rfl,_,rfl,_,_,rfl,rfl,⟨by decide,by decide⟩,_,rfl,_,rfl,_,_,rfl,rfl,.inl ⟨by omega,by omega⟩,_,_,rfl,rfl,_,_,rfl,rfl,(by show(0:Int)<_;decide),_,_,_,rfl,rfl,hz,rE l3.1 l3.2,?_⟩;have k1:=Txt.slice_le (stemOf r) none (some (r / 4056 % 3));have k2:=Txt.slice_le (stemOf r) (some (r / 4056 % 3)) none;have k0:(stemOf r).length=2:=rfl;rw[k0] at k1 k2;refine⟨_,rfl,.inl ⟨rfl,_,fv.of ag⟩,_,rfl,_,rfl,_,rfl,_,rfl,ls,_,rfl,_,_,rfl,rfl,?_,_,rfl,_,rfl,_,rfl,_,rfl,ls,_,_,rfl,rfl,?_,p,_,_,rfl,rfl,ag,af,?_⟩
     . show _+1<=sizeLine;exact Q0c (Q36 k1 1) (by decide)
     . rw[Cs];show _+1+_<=sizeLine;exact Q0c (Nat.add_le_add (Q36 k1 1) k2) (by decide)
     . refine next _ _ _ ?_;rw[e0];unfold nameAt;rw[if_neg c'];rfl
 . intro σ H' zq;obtain⟨y,z,rfl,sb,ah,ag⟩:=zq;rw[em] at ag;have af:((List.range m).map (nameAt r)).length=m:=by rw[Q05,Q1z]
   refine⟨_,rfl,p,_,rfl,fv.of ag,by rw[af];omega,λp' am ai Y ak=>?_⟩;refine q p' am _ (sb.trans (SB.new ai)) (by rw[fk (fJ ah ai)];exact ah) (λz=>by rw[z,ah] at ai;cases ai) fA (Y.length_eq.trans af) ?_ ?_ ⟨Cz ak,?_⟩
   . exact Y.nodup_iff.mpr (names_nodup r0 hm)
   . intro x hx;obtain⟨i,hi,rfl⟩:=List.mem_map.mp (Y.mem_iff.mp hx);exact Jg
   . intro x hx;obtain⟨i,hi,rfl⟩:=List.mem_map.mp (Y.mem_iff.mp hx);exact Jh
theorem Jz:gi Xe XG (fM (top 41)):=gw
theorem JA (d:Nat)(T:Tb mg)(J:Dn K mg "_law_fields" jN (top 41) L U)(Y:Dn K mg "_law_names" lI (top 39) aa ab)(ac:fm P w K mg base fw (2) aa ab lI (rY K))(ae:Dn K mg "_law_kind" jZ (top 43) af ag)(ah:fm P w K mg base fw (2 * d+4) af ag jZ (nI K d)):fm P w K mg base fw (2 * d+5) L U jN (CH K d):=by
 refine J.F.ok Jz λvs H Q E h=>?_;obtain⟨a,b,ns,n,m,rfl,hm,g,hn,q⟩:=h;refine⟨rfl,λaD A outer s nd hr hu=>?_⟩
 refine⟨_,(e_ (fN 4 nd (fL ac hr Y (a_ (pv 0) (a_ (pv 1) (a_ (pv 2) c_)))))
  (fx (fE (kO qV (by rfl) T.oG boot_tuple (a_ (ma (g:=(iB 0)) (tt:=kY) (te:=(t9 (iu (gF 0) (iu (lA _ _ _ (iu (gF 1) (iu (gF 2) (iu (gF 4) jW)))) jW)))) (own:=["_law_name"]) rfl (jY (N:=Xe) (sc:=fM (top 41))) (kh (pv 4)) (λ_ _ _ _ _=>(gu (i:=0) (show(["_law_name","_law_script","_law_at","_law_many","_law_deep","_law_names_here"]:List Str).Nodup by decide +kernel) rfl (Or.inl rfl) (.inr rfl))) (λ_ _ _ _ _=>l_) (λ_ _ _ _ _=>(ij (a_ (pv 0) (a_ (fL ah hr ae (a_ (pv 1) (a_ (pv 2) (a_ (pv 4) c_)))) c_))))) c_))))),?_⟩
 ac_rfl
 have aq:n<=1000000000000:=by omega
 refine⟨_,rfl,_,rfl,_,rfl,a,b,ns,n,m,rfl,by omega,g,aq,λp ss H1 s1 h1 ar hp hl au av _=>?_⟩
 refine⟨_,rfl,p,rfl,⟨_,fv.of hp⟩,λi m' ys H'=>m'=ss.length - i/\i<=ss.length/\∃(fs:Fs) (n':Int),SB b H H'/\H' b=some (.lst [.int n'])/\n<=n'/\n'<=n+1+i * ck d/\H' p=some (.lst (ss.map V.str))/\FA H' ys fs/\fs.names=ss.take i/\fs.dep<=d+1/\ys.length=i/\fs.W,
  ⟨_,rfl,Q0a _,.nil,n+1,s1,h1,by omega,by omega,hp,by unfold FA;rfl,by simp[Fs.names],by simp[Fs.dep],rfl,by unfold Fs.W;trivial⟩,?_⟩
 intro i m' ys H' zq;obtain⟨rfl,aC,fs,n',sb,aj,z1,z2,ak,hf,al,aw,hy,hW⟩:=zq;by_cases hi:i<ss.length
 . refine .inr ⟨⟨_,.str ss[i],fv.of ak,by rw[Q0h,Q03 hi];rfl⟩,g_ (by omega),λx ax y=>?_⟩;obtain⟨rfl,y⟩:=y;have hx:=y _ (fv.of ak)
   have ex:x=.str ss[i]:=by
    rw[Q0h,Q03 hi] at hx;exact(Option.some.inj hx).symm
   subst ex;refine⟨rfl,yes (ig ?_)⟩;have ay:(i:Int)<=2:=by omega
   have aE:(i:Int) * ck d<=2 * ck d:=Q18 ay (by omega);refine⟨_,rfl,_,rfl,_,rfl,_,rfl,a,b,ns,n',rfl,g.go sb aj z1,by omega,λv k az H2 s2 h2 y1 y2 hk aG aA=>?_⟩;refine⟨ix,λt ht=>?_⟩;have aB:t≠b:=λz=>by rw[z,h2] at ht;cases ht
   have am:Tu H2 (upd H2 t (.tup [.str ss[i],v])):=Tu.of (λc o h=>by rw[fk (fJ h ht)];exact h);have tu:Tu ax (upd H2 t (.tup [.str ss[i],v])):=(s2.tu aj).trans am;refine⟨_,Nat.sub_lt_sub_left hi (Q1 i),rfl,hi,fs.snoc ss[i] k,az,sb.trans (s2.trans (SB.new ht)),by rw[fk (Ne.symm aB)];exact h2,by omega,?_,?_,FA.snoc fA (KA.mono am k hk) fs (FA.mono tu fs hf),?_,?_,?_,Fs.uI aA (av _ (Q11 _)) hW⟩
   . have e:((i+1:Nat):Int) * ck d=(i:Int) * ck d+ck d:=by
      rw[Q20,Q21];simp
     rw[e];omega
   . have h3:=s2 p _ ar ak;rw[fk (fJ h3 ht)];exact h3
   . rw[Fs.uG,al,Q0l,Q03 hi];rfl
   . rw[Fs.uH];omega
   . rw[Q0e,hy];rfl
 . have ei:i=m:=by omega
   subst ei;refine .inl ⟨⟨_,fv.of ak,by rw[Q05];omega⟩,λp' ai=>?_⟩;have e3:(i:Int) * ck d<=3 * ck d:=Q18 (by omega) (by omega);refine⟨p',ys,rfl,.inl ⟨fv.of fA,λt ht=>?_⟩⟩;have ap:p'≠b:=λz=>by rw[z,aj] at ai;cases ai
   have an:upd H' p' (.lst ys) b=some (.lst [.int n']):=by rw[fk (Ne.symm ap)];exact aj
   have tu:Tu H' (upd (upd H' p' (.lst ys)) t (.tup ys)):=λc xs h=>by
    rw[fk (fJ (show upd H' p' (.lst ys) c=some (.tup xs) by rw[fk (fJ h ai)];exact h) ht),fk (fJ h ai)];exact h
   have ao:ss.take i=ss:=by rw[<-hl,Q0u]
   refine q t ys fs n' _ (sb.trans ((SB.new ai).trans (SB.new ht))) (by rw[fk (fJ an ht)];exact an) z1 (by omega) fA (FA.mono tu fs hf) ?_ ?_ aw hW
   . rw[al,ao];exact au
   . rw[al,ao];exact hl
noncomputable def σR (a b:Addr) (m d:Nat) (p:Addr) (r:Int) (J:Addr) (x y z:Option V):St:=
 [some (.ref a),some (.ref b),some (.int m),some (.int d),some (.ref p),some (.int r),some (.int (r % m)),some (.int (r / m % (m+1))),some (.ref J),x,y,z]
theorem uT {ss:List Str}{z:Int}(J:0<=z)(h1:z<ss.length):∃x:Str,iC (ss.map V.str) z=some (.str x)/\ss[z.toNat]? =some x:=by
 obtain⟨j,rfl⟩:∃j:Nat,z=(j:Int):=⟨z.toNat,by omega⟩;exact⟨ss[j]'(by omega),jX (by rw[Q0h,Q03 (by omega)];rfl),by rw[Q2c];exact Q03 (by omega)⟩
theorem Fs.CO:∀{fs:Fs}{x:Str}{k:Kd}{j:Nat}{y:Str}{q:Kd},fs.at j=some (y,q)->(fs.snoc x k).at j=some (y,q)
 | .nil,_,_,_,_,_,h=>by cases h
 | .cons _ _ _,_,_,0,_,_,h=>h
 | .cons _ _ r,x,k,j+1,y,q,h=>Fs.CO (fs:=r) (j:=j) h
theorem Fs.CP:∀{fs:Fs}{x:Str}{k:Kd},(fs.snoc x k).at fs.names.length=some (x,k)
 | .nil,_,_=>rfl
 | .cons _ _ r,x,k=>Fs.CP (fs:=r)
theorem JB:gi ["_law_script","_law_at","_law_many","_law_deep","_law_names_here","_law_m","_law_lead","_law_by","_law_fields_here","_law_k","_law_kind_here","_law_name"] XG (fM (top 42)):=gw
theorem CQ (d:Nat)(T:Tb mg)(U:Dn K mg "_law_rows_kind" jN (top 42) Y aa)(ae:Dn K mg "_law_names" lI (top 39) af ag)(ah:fm P w K mg base fw (2) af ag lI (rY K))(an:Dn K mg "_law_next" gn (top 36) ao ap)(aq:fm P w K mg base fw (1) ao ap gn (mr K))(ai:Dn K mg "_law_plain" gn (top 40) aj ak)(al:fm P w K mg base fw (2) aj ak gn (pY K))(ar:Dn K mg "_law_kind" jZ (top 43) au av)(aw:fm P w K mg base fw (2 * d+4) au av jZ (nI K d)):
 fm P w K mg base fw (2 * d+5) Y aa jN (CJ K d):=by
 refine U.F.ok JB λvs H Q E h=>?_;obtain⟨a,b,ns,n,m,rfl,bq,hm,g,hn,q⟩:=h;refine⟨rfl,λbr A outer s nd hr hu=>?_⟩;have bt:(0:Int)<=(m:Int) * (ck d+1):=Int.mul_nonneg (by omega) (by omega)
 refine⟨_,(e_ (fN 4 nd (fL ah hr ae (a_ (pv 0) (a_ (pv 1) (a_ (pv 2) c_)))))
  (e_ (fN 5 nd (fL aq hr an (a_ (pv 0) (a_ (pv 1) c_))))
  (e_ (fN 6 nd (fH gN (pv 5) (pv 2)))
  (e_ (fN 7 nd (fH gN (fH iF (pv 5) (pv 2)) (fH js (pv 2) b_)))
  (e_ (fN 8 nd (iw c_))
  (e_ (iz PassesOwn.never rfl (mU rfl T.mi (a_ (pv 2) c_)) (gu (i:=9) nd rfl gQ) (e_ (fN 10 nd (fL aw hr ar (a_ (pv 0) (a_ (pv 1) (a_ (pv 3) c_)))))
  (e_ (f7 (PW.pt (kg (fY gx (pv 9) (pv 6) (fV _)) (kf (fY gx (pv 9) (pv 7) (fV _))))) (fx (fN 10 nd (fL al hr ai (a_ (pv 0) (a_ (pv 1) c_))))) f9)
  (fx (jh (ko PySem.F.plainAttrs_list PySem.F.slot_list_append PySem.F.type_list_append lB (pv 8) (a_ (ij (a_ (jA (pv 4) (pv 9)) (a_ (pv 10) c_))) c_)))))))
  (e_ (fN 11 nd gj)
  (e_ (f7 (PW.pt (lX (fY qR (pv 7) (pv 2) (fV _)) (mP (fY l8 (pv 7) (pv 6) (fV _))))) (fx (fN 11 nd (jA (pv 4) (pv 7)))) f9)
  (fx (fE (ij (a_ gj (a_ (jA (pv 4) (pv 6)) (a_ (pv 11) (a_ (kO qV (by rfl) T.oG boot_tuple (a_ (pv 8) c_)) c_))))))))))))))),?_⟩
 ac_rfl
 refine⟨_,rfl,_,rfl,_,rfl,a,b,ns,n,m,rfl,by omega,g,by omega,λp ss H1 s1 h1 aB hp hl aW aX bc=>?_⟩;refine⟨_,rfl,_,rfl,a,b,ns,n+1,rfl,g.go s1 h1 (by omega),by omega,λr H2 r0 r1 s2 h2=>?_⟩;have aN:H2 p=some (.lst (ss.map V.str)):=s2 p _ aB hp;have aY:SB b H H2:=s1.trans s2;refine⟨_,rfl,_,rfl,_,_,rfl,rfl,by omega,?_⟩;refine⟨_,rfl,_,rfl,_,_,rfl,rfl,⟨by omega,by omega⟩,_,rfl,_,_,rfl,rfl,_,_,rfl,rfl,by omega,?_⟩;refine⟨pT,λJ aC=>?_⟩;have ab:J≠b:=λz=>by rw[z,h2] at aC;cases aC
 have aZ:p≠J:=λz=>by rw[z,aC] at aN;cases aN
 have a9:∀o,H J=some o->False:=λo ho=>by
  have:=aY J o ab ho;rw[aC] at this;cases this
 have em:Int.toNat (m:Int)=m:=by omega
 refine⟨_,rfl,_,rfl,by omega,by omega,l5 (n:=Int.toNat (m:Int)) (λi σ H'=>∃(x y z:Option V) (n':Int) (ys:List V) (fs:Fs),σ=σR a b m d p r J x y z/\SB b H H'/\H' b=some (.lst [.int n'])/\n<=n'/\n'<=n+2+i * (ck d+1)/\
  H' p=some (.lst (ss.map V.str))/\H' J=some (.lst ys)/\FA H' ys fs/\fs.dep<=d+1/\ys.length=i/\fs.W/\fs.names=ss.take i/\∀j:Nat,j<i->((j:Int)=r % m\/(j:Int)=r / m % (m+1))->∃y q,fs.at j=some (y,q)/\me q) ?_ ?_ ?_⟩
 . refine⟨_,_,_,n+1+1,[],.nil,rfl,aY.trans (SB.new aC),by rw[fk (Ne.symm ab)];exact h2,by omega,by omega,by rw[fk aZ];exact aN,fA,by unfold FA;rfl,by simp[Fs.dep],rfl,by unfold Fs.W;trivial,rfl,λj hj=>absurd hj (by omega)⟩
 . intro i σ H' hi zq;obtain⟨x,y,z,n',ys,fs,rfl,sb,az,z1,z2,am,L,aI,bd,hy,hW,aJ,aK⟩:=zq;rw[em] at hi
   have e1:((i+1:Nat):Int) * (ck d+1)=(i:Int) * (ck d+1)+(ck d+1):=by
    rw[Q20,Q21];simp
   have be:((i+1:Nat):Int) * (ck d+1)<=(m:Int) * (ck d+1):=Q18 (by omega) (by omega);rw[e1] at be;have aD:ys.length<sizeLine:=g_ (by omega);have bf:∃q:Str,iC (ss.map V.str) ((0:Int)+(i:Int))=some (.str q)/\ss[((0:Int)+(i:Int)).toNat]? =some q:=uT (by omega) (by omega);obtain⟨nm,aE,ax⟩:=bf
   have ax:ss[i]? =some nm:=by
    rw[show((0:Int)+(i:Int)).toNat=i by omega] at ax;exact ax
   have bg:fs.names.length=i:=by rw[<-FA.len fs aI];exact hy
   have next:∀(x' y' z':Option V) (v:V) (k:Kd) (n2:Int) (H3:Hp) (t:Addr),SB b H' H3->H3 b=some (.lst [.int n2])->n'<=n2->n2<=n'+(ck d+1)->KA H3 v k->k.dep<=d+1->k.W->(((i:Int)=r % m\/(i:Int)=r / m % (m+1))->me k)->H3 t=none->
    ∃(x y z:Option V) (n':Int) (aO:List V) (fs:Fs),σR a b m d p r J x' y' z'=σR a b m d p r J x y z/\SB b H (upd (upd H3 t (.tup [.str nm,v])) J (.lst (ys++[.ref t])))/\(upd (upd H3 t (.tup [.str nm,v])) J (.lst (ys++[.ref t]))) b=some (.lst [.int n'])/\n<=n'/\
     n'<=n+2+((i+1:Nat):Int) * (ck d+1)/\(upd (upd H3 t (.tup [.str nm,v])) J (.lst (ys++[.ref t]))) p=some (.lst (ss.map V.str))/\(upd (upd H3 t (.tup [.str nm,v])) J (.lst (ys++[.ref t]))) J=some (.lst aO)/\
     FA (upd (upd H3 t (.tup [.str nm,v])) J (.lst (ys++[.ref t]))) aO fs/\fs.dep<=d+1/\aO.length=i+1/\fs.W/\fs.names=ss.take (i+1)/\∀j:Nat,j<i+1->((j:Int)=r % m\/(j:Int)=r / m % (m+1))->∃y q,fs.at j=some (y,q)/\me q:=by
    intro x' y' z' v k n2 H3 t s3 h3 w1 w2 hk a1 aP bh ht;have a2:H3 J=some (.lst ys):=s3 J _ ab L;have a3:H3 p=some (.lst (ss.map V.str)):=s3 p _ aB am;have bi:t≠J:=λz=>by rw[z,a2] at ht;cases ht
    have bj:t≠b:=λz=>by rw[z,h3] at ht;cases ht
    have bm:t≠p:=λz=>by rw[z,a3] at ht;cases ht
    have a4:Tu H3 (upd (upd H3 t (.tup [.str nm,v])) J (.lst (ys++[.ref t]))):=λc xs h=>by
     rw[fk (ic h a2 (by intro z;cases z)),fk (fJ h ht)];exact h
    have p0:upd (upd H3 t (.tup [.str nm,v])) J (.lst (ys++[.ref t])) t=some (.tup [.str nm,v]):=by rw[fk bi];exact fA
    refine⟨x',y',z',n2,ys++[.ref t],fs.snoc nm k,rfl,λc o hc hh=>?_,?_,by omega,by rw[e1];omega,?_,fA,FA.snoc p0 (KA.mono a4 k hk) fs (FA.mono ((s3.tu az).trans a4) fs aI),by rw[Fs.uH];omega,by rw[Q0e,hy];rfl,Fs.uI aP (aX _ (Q0g ax)) hW,by rw[Fs.uG,aJ,Q0l,ax];rfl,λj hj aA=>?_⟩
    . have q1:=s3 c o hc (sb c o hc hh);by_cases e:c=J
      . subst e;exact(a9 o hh).elim
      . rw[fk e,fk (fJ q1 ht)];exact q1
    . rw[fk (Ne.symm ab),fk (Ne.symm bj)];exact h3
    . rw[fk aZ,fk (Ne.symm bm)];exact a3
    . by_cases e:j<i
      . obtain⟨y,q,e1,e2⟩:=aK j e aA;exact⟨y,q,Fs.CO e1,e2⟩
      . have:j=i:=by omega
        subst this;exact⟨nm,k,by have:=Fs.CP (fs:=fs) (x:=nm) (k:=k);rwa [bg] at this,bh aA⟩
   refine⟨_,rfl,_,rfl,_,rfl,a,b,ns,n',rfl,g.go sb az z1,by omega,λv k n2 H3 s3 h3 w1 w2 hk a1 aP=>?_⟩;refine⟨_,rfl,_,rfl,rfl,_,rfl,?_⟩;refine gO (λc=>ig ?_) (λcL=>⟨_,rfl,_,rfl,rfl,_,rfl,gO (λc=>?_) (λc=>?_)⟩)
   . refine⟨_,rfl,_,rfl,a,b,ns,n2,rfl,(g.go sb az z1).go s3 h3 w1,by omega,λv' k' H4 s4 h4 aQ ba aG aH=>?_⟩;have ac:=s3.trans s4;refine⟨_,rfl,.inl ⟨rfl,_,fv.of (ac J _ ab L)⟩,_,rfl,_,rfl,p,_,_,_,rfl,rfl,fv.of (ac p _ aB am),aE,_,rfl,ix,λt ht=>?_⟩;refine⟨J,_,_,rfl,rfl,by rw[fk (fJ (ac J _ ab L) ht)];exact ac J _ ab L,aD,?_⟩;exact next _ _ _ v' k' _ H4 t ac h4 (by omega) (by omega) aQ (by omega) aH (λ_=>aG) ht
   . refine⟨_,rfl,_,rfl,a,b,ns,n2,rfl,(g.go sb az z1).go s3 h3 w1,by omega,λv' k' H4 s4 h4 aQ ba aG aH=>?_⟩;have ac:=s3.trans s4;refine⟨_,rfl,.inl ⟨rfl,_,fv.of (ac J _ ab L)⟩,_,rfl,_,rfl,p,_,_,_,rfl,rfl,fv.of (ac p _ aB am),aE,_,rfl,ix,λt ht=>?_⟩;refine⟨J,_,_,rfl,rfl,by rw[fk (fJ (ac J _ ab L) ht)];exact ac J _ ab L,aD,?_⟩;exact next _ _ _ v' k' _ H4 t ac h4 (by omega) (by omega) aQ (by omega) aH (λ_=>aG) ht
   . refine⟨_,rfl,.inl ⟨rfl,_,fv.of (s3 J _ ab L)⟩,_,rfl,_,rfl,p,_,_,_,rfl,rfl,fv.of (s3 p _ aB am),aE,_,rfl,ix,λt ht=>?_⟩;refine⟨J,_,_,rfl,rfl,by rw[fk (fJ (s3 J _ ab L) ht)];exact s3 J _ ab L,aD,?_⟩;refine next _ _ _ v k _ H3 t s3 h3 (by omega) (by omega) hk a1 aP (λaA=>?_) ht
     exact(by
      rcases aA with e|e
      . exact absurd (decide_eq_true (show V.int ((0:Int)+(i:Int))=V.int (r % m) by rw[<-e];congr 1;omega)) cL
      . exact absurd (decide_eq_true (show V.int ((0:Int)+(i:Int))=V.int (r / m % (m+1)) by rw[<-e];congr 1;omega)) c)
 . intro σ H' zq;obtain⟨x,y,z,n',ys,fs,rfl,sb,az,z1,z2,am,L,aI,bd,hy,hW,aJ,aK⟩:=zq;rw[em] at z2 hy aK aJ;have l0:0<=r % (m:Int):=Q0p _ (by omega);have l1:r % (m:Int)<m:=Q0q _ (by omega);have b0:0<=r / (m:Int) % ((m:Int)+1):=Q0p _ (by omega);obtain⟨xk,aT,aU⟩:=uT (ss:=ss) l0 (by omega);have ay:fs.names=ss:=by rw[aJ,<-hl,Q0u]
   have a5:fs.names.Nodup:=by rw[ay];exact aW
   have pl:∀(z:Int) (x:Str),0<=z->z<m->(z=r % m\/z=r / m % (m+1))->ss[z.toNat]? =some x->fs.pl x:=λz x h0 h1 aA hx=>by
    obtain⟨y,q,e1,e2⟩:=aK z.toNat (by omega) (by rw[Int.toNat_of_nonneg h0];exact aA);have a6:=Fs.jJ fs z.toNat;rw[e1,ay,hx] at a6;have e3:some x=some y:=a6
    cases e3;exact⟨q,Fs.md a5 e1,e2⟩
   have bn:fs.pl xk:=pl _ _ l0 l1 (.inl rfl) aU;have aL:fs.names.length<=12:=by rw[ay,hl];omega
   have a7:xk≠"":=aX xk (Q0g aU)
   have fin:∀(nm:Str),(nm=""\/fs.pl nm)->nm≠xk->∀(t:Addr),H' t=none->∀v:Addr,upd H' t (.tup ys) v=none->Q (.ref v) (upd (upd H' t (.tup ys)) v (.tup [.str "rows",.str xk,.str nm,.ref t])):=by
    intro nm bo aV t ht v hv;have bp:v≠t:=λz=>by rw[z,fA] at hv;cases hv
    have tu:Tu H' (upd (upd H' t (.tup ys)) v (.tup [.str "rows",.str xk,.str nm,.ref t])):=λc xs h=>by
     have e:upd H' t (.tup ys) c=some (.tup xs):=by rw[fk (fJ h ht)];exact h
     rw[fk (fJ e hv)];exact e
    have a8:upd H' t (.tup ys) b=some (.lst [.int n']):=by rw[fk (fJ az ht)];exact az
    refine q (.ref v) xk nm fs n' _ (sb.trans ((SB.new ht).trans (SB.new hv))) (by rw[fk (fJ a8 hv)];exact a8) z1 (by omega) ?_ (by simp only[Kd.dep];omega) (by unfold Kd.W;exact⟨a5,aL,hW,bn,bo⟩) (by rw[ay,hl]) ⟨by rw[ay];exact bc.1,aV⟩;unfold KA;exact⟨v,t,ys,rfl,fA,by rw[fk (Ne.symm bp)];exact fA,FA.mono tu fs aI⟩
   refine⟨_,rfl,_,rfl,_,_,rfl,rfl,_,rfl,?_⟩;refine gO (λc=>⟨_,rfl,_,rfl,rfl,_,rfl,gO (λc2=>?_) (λc2=>?_)⟩) (λc=>gR ?_)
   . have c':r / (m:Int) % ((m:Int)+1)<m:=of_decide_eq_true c;obtain⟨nm,bb,aM⟩:=uT (ss:=ss) b0 (by omega)
     have aV:nm≠xk:=λe=>by
      obtain⟨i1,q1⟩:=List.getElem?_eq_some_iff.mp aM;obtain⟨i2,q2⟩:=List.getElem?_eq_some_iff.mp aU;have ei:=(Q1a aW).mp (q1.trans (e.trans q2.symm));have ez:r / (m:Int) % ((m:Int)+1)=r % (m:Int):=by omega
      rw[ez] at c2;simp at c2
     refine⟨_,rfl,_,rfl,p,_,_,_,rfl,rfl,fv.of am,bb,?_⟩;exact⟨_,rfl,_,rfl,p,_,_,_,rfl,rfl,fv.of am,aT,_,rfl,_,rfl,J,ys,rfl,.inl ⟨fv.of L,λt ht=>⟨pU,λv hv=>fin nm (.inr (pl _ _ b0 c' (.inr rfl) aM)) aV t ht v hv⟩⟩⟩
   . exact⟨_,rfl,_,rfl,p,_,_,_,rfl,rfl,fv.of am,aT,_,rfl,_,rfl,J,ys,rfl,.inl ⟨fv.of L,λt ht=>⟨pU,λv hv=>fin _ (.inl rfl) (Ne.symm a7) t ht v hv⟩⟩⟩
   . exact⟨_,rfl,_,rfl,p,_,_,_,rfl,rfl,fv.of am,aT,_,rfl,_,rfl,J,ys,rfl,.inl ⟨fv.of L,λt ht=>⟨pU,λv hv=>fin _ (.inl rfl) (Ne.symm a7) t ht v hv⟩⟩⟩
theorem JC (d:Nat)(T:Tb mg)(J:Dn K mg "_law_rows_kind" jN (top 42) L U)(Y:Dn K mg "_law_names" lI (top 39) aa ab)(ac:fm P w K mg base fw (2) aa ab lI (rY K))(ai:Dn K mg "_law_next" gn (top 36) aj ak)(al:fm P w K mg base fw (1) aj ak gn (mr K))(ae:Dn K mg "_law_plain" gn (top 40) af ag)(ah:fm P w K mg base fw (2) af ag gn (pY K))(am:Dn K mg "_law_kind" jZ (top 43) an ao)(ap:fm P w K mg base fw (2 * d+4) an ao jZ (nI K d)):
 fm P w K mg base fw (2 * d+5) L U jN (CI K d):=(CQ d T J Y ac ai al ae ah am ap).imp λvs H Q E h=>by
 obtain⟨a,b,ns,n,m,e,h1,h3,g,hn,q⟩:=h;have e3:(m:Int) * (ck d+1)<=3 * (ck d+1):=Q18 (by omega) (by omega);exact⟨a,b,ns,n,m,e,h1,by omega,g,by omega,λv key by_ fs n' H' s h0 l1 l2 k kd kw _ _=>q v _ n' H' s h0 l1 (by omega) k kd kw⟩
theorem CS:gi ["_law_script","_law_at","_law_deep","_law_m"] Xa (fM (top 43)):=gw
theorem JD (T:Tb mg)(aa:Dn K mg "_law_kind" jZ (top 43) ab ac)(ae:Dn K mg "_law_next" gn (top 36) af ag)(ah:fm P w K mg base fw (1) af ag gn (mr K))(J:Dn K mg "_law_plain" gn (top 40) L U)(Y:fm P w K mg base fw (2) L U gn (pY K)):fm P w K mg base fw (2 * 0+4) ab ac jZ (nI K 0):=by
 refine aa.F.ok CS λvs H Q E h=>?_;obtain⟨a,b,ns,n,rfl,g,hn,q⟩:=h;refine⟨rfl,λaj A outer s nd hr hu=>?_⟩;have ai:ck 0=2:=rfl;rw[ai] at hn q
 refine⟨_,(e_ (fN 3 nd (fL ah hr ae (a_ (pv 0) (a_ (pv 1) c_))))
  (e_ (f7 (PW.pt (kg (fY AR (pv 2) b_ (fV _)) (kf HV))) (fx (fE (fL Y hr J (a_ (pv 0) (a_ (pv 1) c_))))) f9) tR)),?_⟩
 ac_rfl
 refine⟨_,rfl,_,rfl,a,b,ns,n,rfl,g,by omega,λr H1 r0 r1 s1 h1=>?_⟩;refine⟨_,rfl,_,_,rfl,rfl,_,rfl,?_⟩;refine gO (λc=>ig ?_) (λc=>(c (by decide)).elim);refine⟨_,rfl,_,rfl,a,b,ns,n+1,rfl,g.go s1 h1 (by omega),by omega,λv k H2 s2 h2 hk hd hp hw=>?_⟩;exact q v k (n+1+1) H2 (s1.trans s2) h2 (by omega) (by omega) hk (by omega) hw
theorem JE (d:Nat)(T:Tb mg)(U:Dn K mg "_law_kind" jZ (top 43) Y aa)(am:Dn K mg "_law_next" gn (top 36) an ao)(ap:fm P w K mg base fw (1) an ao gn (mr K))(ai:Dn K mg "_law_plain" gn (top 40) aj ak)(al:fm P w K mg base fw (2) aj ak gn (pY K))(J:Dn K mg "_law_fields" jN (top 41) ag ah)(L:fm P w K mg base fw (2 * d+5) ag ah jN (CH K d))(ab:Dn K mg "_law_rows_kind" jN (top 42) ac ae)(af:fm P w K mg base fw (2 * d+5) ac ae jN (CI K d))
 (aq:fm P w K mg base fw (2 * d+4) Y aa jZ (nI K d)):fm P w K mg base fw (2 * (d+1)+4) Y aa jZ (nI K (d+1)):=by
 refine U.F.ok CS λvs H Q E h=>?_;obtain⟨a,b,ns,n,rfl,g,hn,q⟩:=h;refine⟨rfl,λax A outer s nd hr hu=>?_⟩
 have ar:(ck (d+1):Int)=3 * ck d+6:=by
  have:ck (d+1)=3 * ck d+6:=rfl;omega
 rw[ar] at hn
 refine⟨_,(e_ (fN 3 nd (fL ap hr am (a_ (pv 0) (a_ (pv 1) c_))))
  (e_ (f7 (PW.pt (kg (fY AR (pv 2) b_ (fV _)) (kf (fY qR (fH gN (pv 3) b_) b_ (fV _))))) (fx (fE (fL al hr ai (a_ (pv 0) (a_ (pv 1) c_))))) f9)
  (e_ (f7 (fY qR (fH gN (pv 3) b_) b_ (fV _)) (fx (fE (ij (a_ gj (a_ (fL L hr J (a_ (pv 0) (a_ (pv 1) (a_ (fH gN (fH iF (pv 3) b_) b_) (a_ (fH l7 (pv 2) b_) c_))))) c_))))) f9)
  (e_ (f7 (fY qR (fH gN (pv 3) b_) b_ (fV _)) (fx (fE (fL af hr ab (a_ (pv 0) (a_ (pv 1) (a_ (fH js b_ (fH gN (fH iF (pv 3) b_) b_)) (a_ (fH l7 (pv 2) b_) c_))))))) f9)
  (e_ (f7 (fY gx (fH gN (pv 3) b_) b_ (fV _)) (fx (fE (ij (a_ gj (a_ (fL aq hr U (a_ (pv 0) (a_ (pv 1) (a_ (fH l7 (pv 2) b_) c_)))) c_))))) f9)
  (fx (fE (ij (a_ gj (a_ (fL L hr J (a_ (pv 0) (a_ (pv 1) (a_ (fH js b_ (fH gN (fH iF (pv 3) b_) b_)) (a_ (fH l7 (pv 2) b_) c_))))) c_)))))))))),?_⟩
 ac_rfl
 refine⟨_,rfl,_,rfl,a,b,ns,n,rfl,g,by omega,λr H1 r0 r1 s1 h1=>?_⟩;have g1:=g.go s1 h1 (by omega);have e2:(((d+1:Nat):Int)) - 1=(d:Int):=by omega
 have e0:(if decide ((((d+1:Nat):Int))<=0)=true then True else False)=False:=by
  rw[if_neg (by rw[decide_eq_true_iff];omega)]
 refine⟨_,rfl,_,_,rfl,rfl,_,rfl,gO (λc=>?_) (λc=>?_)⟩
 . exact absurd (of_decide_eq_true c) (by omega)
 refine⟨_,rfl,_,_,rfl,rfl,(by show(0:Int)<_;decide),_,_,rfl,rfl,_,rfl,gO (λc1=>?_) (λc1=>?_)⟩
 . refine⟨_,rfl,_,rfl,a,b,ns,n+1,rfl,g1,by omega,λv k H2 s2 h2 hk hd hp hw=>?_⟩;exact q v k (n+1+1) H2 (s1.trans s2) h2 (by omega) (by rw[ar];omega) hk (by omega) hw
 refine⟨_,rfl,_,_,rfl,rfl,(by show(0:Int)<_;decide),_,_,rfl,rfl,_,rfl,gO (λc2=>?_) (λc2=>?_)⟩
 . obtain⟨m,hm⟩:∃m:Nat,r / 10 % 4=(m:Int):=⟨(r / 10 % 4).toNat,by omega⟩;refine⟨_,rfl,_,rfl,_,rfl,_,_,rfl,rfl,⟨by decide,by decide⟩,_,_,rfl,rfl,(by show(0:Int)<_;decide),_,rfl,_,_,rfl,rfl,a,b,ns,n+1,m,(by show [V.ref a,V.ref b,V.int (r / 10 % 4),V.int (((d+1:Nat):Int) - 1)]=_;rw[hm,e2]),by omega,g1,by omega,λt xs fs n' H2 s2 h2 w1 w2 ht au av hl aw hW=>?_⟩;refine⟨ix,λv hv=>?_⟩;have tu:Tu H2 (upd H2 v (.tup [.str "record",.ref t])):=λc ys h=>by rw[fk (fJ h hv)];exact h
   refine q (.ref v) (.gA fs) n' _ (s1.trans (s2.trans (SB.new hv))) (by rw[fk (fJ h2 hv)];exact h2) (by omega) (by rw[ar];omega) ?_ (by simp only[Kd.dep];omega) (by unfold Kd.W;exact⟨av,by omega,hW⟩);unfold KA;exact⟨v,t,xs,rfl,fA,tu _ _ ht,FA.mono tu fs au⟩
 refine⟨_,rfl,_,_,rfl,rfl,(by show(0:Int)<_;decide),_,_,rfl,rfl,_,rfl,gO (λc3=>?_) (λc3=>?_)⟩
 . obtain⟨m,hm⟩:∃m:Nat,1+r / 10 % 3=(m:Int):=⟨(1+r / 10 % 3).toNat,by omega⟩;refine⟨_,rfl,_,rfl,_,rfl,_,_,rfl,rfl,⟨by decide,by decide⟩,_,_,rfl,rfl,(by show(0:Int)<_;decide),_,_,rfl,rfl,_,rfl,_,_,rfl,rfl,a,b,ns,n+1,m,(by show [V.ref a,V.ref b,V.int (1+r / 10 % 3),V.int (((d+1:Nat):Int) - 1)]=_;rw[hm,e2]),by omega,by omega,g1,by omega,λv k n' H2 s2 h2 w1 w2 hk aw hw=>?_⟩;exact q v k n' H2 (s1.trans s2) h2 (by omega) (by rw[ar];omega) hk (by omega) hw
 refine⟨_,rfl,_,_,rfl,rfl,(by show(0:Int)<_;decide),rfl,_,rfl,gO (λc4=>?_) (λc4=>?_)⟩
 . refine⟨_,rfl,_,rfl,_,rfl,_,_,rfl,rfl,a,b,ns,n+1,(by show [V.ref a,V.ref b,V.int (((d+1:Nat):Int) - 1)]=_;rw[e2]),g1,by omega,λu k n' H2 s2 h2 w1 w2 hk aw hw=>?_⟩;refine⟨ix,λv hv=>?_⟩;have tu:Tu H2 (upd H2 v (.tup [.str "tree",u])):=λc ys h=>by rw[fk (fJ h hv)];exact h
   refine q (.ref v) (.tree k) n' _ (s1.trans (s2.trans (SB.new hv))) (by rw[fk (fJ h2 hv)];exact h2) (by omega) (by rw[ar];omega) ?_ (by simp only[Kd.dep];omega) (by unfold Kd.W;exact hw);unfold KA;exact⟨v,u,rfl,fA,KA.mono tu k hk⟩
 . obtain⟨m,hm⟩:∃m:Nat,1+r / 10 % 3=(m:Int):=⟨(1+r / 10 % 3).toNat,by omega⟩;refine⟨_,rfl,_,rfl,_,rfl,_,_,rfl,rfl,⟨by decide,by decide⟩,_,_,rfl,rfl,(by show(0:Int)<_;decide),_,_,rfl,rfl,_,rfl,_,_,rfl,rfl,a,b,ns,n+1,m,(by show [V.ref a,V.ref b,V.int (1+r / 10 % 3),V.int (((d+1:Nat):Int) - 1)]=_;rw[hm,e2]),by omega,g1,by omega,λt xs fs n' H2 s2 h2 w1 w2 ht au av hl aw hW=>?_⟩;refine⟨ix,λv hv=>?_⟩;have tu:Tu H2 (upd H2 v (.tup [.str "either",.ref t])):=λc ys h=>by rw[fk (fJ h hv)];exact h
   refine q (.ref v) (.ia fs) n' _ (s1.trans (s2.trans (SB.new hv))) (by rw[fk (fJ h2 hv)];exact h2) (by omega) (by rw[ar];omega) ?_ (by simp only[Kd.dep];omega) (by unfold Kd.W;exact⟨av,by omega,by omega,hW⟩);unfold KA;exact⟨v,t,xs,rfl,fA,tu _ _ ht,FA.mono tu fs au⟩
theorem kind_all (T:Tb mg)(U:Dn K mg "_law_kind" jZ (top 43) ac ae)(J:Dn K mg "_law_next" gn (top 36) an ao)(L:Dn K mg "_law_plain" gn (top 40) aj ak)(aa:Dn K mg "_law_names" lI (top 39) al am)(ab:Dn K mg "_law_fields" jN (top 41) ah ai)(Y:Dn K mg "_law_rows_kind" jN (top 42) af ag):∀d:Nat,fm P w K mg base fw (2 * d+4) ac ae jZ (nI K d)
 |0=>JD T U J (rX (pZ T J)) L (uR T L J (rX (pZ T J)))
 |d+1=>by
  have N:=rX (pZ (P:=P) (w:=w) (base:=base) T J);have Pl:=uR T L J N;have Nm:=CN T aa J N;have ih:=kind_all T U J L aa ab Y d;have Fd:=JA d T ab aa Nm U ih;have Rw:=JC d T Y aa Nm J N L Pl U ih;exact JE d T U J N L Pl ab Fd Y Rw ih
theorem CU (ns:List Int)(x:Str)(k:Kd)(room:Nat):∀(fs:Fs) (n:Int),f_ ns (fs.snoc x k) room n=((f_ ns fs room n).1.snoc x (val ns k room (f_ ns fs room n).2).1,(val ns k room (f_ ns fs room n).2).2)
 | .nil,n=>by
   show f_ ns (.cons x k .nil) room n=_;simp only[f_,Ds.snoc]
 | .cons y q r,n=>by
   show f_ ns (.cons y q (r.snoc x k)) room n=_;simp only[f_,Ds.snoc];rw[CU ns x k room r]
theorem CV (g:Int->D × Int):∀(m:Nat) (n:Int),times g (m+1) n=((times g m n).1.snoc "" (g (times g m n).2).1,(g (times g m n).2).2)
 |0,n=>by simp only[times,Ds.snoc]
 |m+1,n=>by
  have J:=CV g m (g n).2;show(Ds.cons "" (g n).1 (times g (m+1) (g n).2).1,(times g (m+1) (g n).2).2)=_;rw[J];simp only[times,Ds.snoc]
theorem uU {g h:Int->D × Int}(e:∀n,g n=h n):∀(m:Nat) (n:Int),times g m n=times h m n
 |0,n=>rfl
 |m+1,n=>by
  simp only[times];rw[e n,uU e m]
theorem mw {ns:List Int}{f:Nat->Int->D × Int}:∀(fu room:Nat) (n:Int),room<2 ^ fu->ib ns f (fu+1) room n=ib ns f (fu+2) room n
 |0,room,n,h=>by
  have e:room=0:=by simpa using h
  subst e
  have J:(nx ns ((f (0 / 2) n).2+1) % (((0:Nat):Int)+1)).toNat=0:=by
   have:nx ns ((f (0 / 2) n).2+1) % (((0:Nat):Int)+1)=0:=by
    show _ % (1:Int)=0;exact Int.emod_one _
   rw[this];rfl
  unfold ib;rw[J];rfl
 |fu+1,room,n,h=>by
  have L:=λm=>mw (ns:=ns) (f:=f) fu (room / 2) m (by rw[Nat.pow_succ] at h;omega);show(pairD (f (room / 2) n).1 (.lst (times (ib ns f (fu+1) (room / 2)) _ _).1),(times (ib ns f (fu+1) (room / 2)) _ _).2)=(pairD (f (room / 2) n).1 (.lst (times (ib ns f (fu+2) (room / 2)) _ _).1),(times (ib ns f (fu+2) (room / 2)) _ _).2);rw[uU L]
theorem JF (ns:List Int)(k:Kd)(room:Nat)(n:Int)(h:room<8):val ns (.tree k) room n=
 (pairD (val ns k (room / 2) n).1 (.lst (times (val ns (.tree k) (room / 2)) (nx ns ((val ns k (room / 2) n).2+1) % ((room:Int)+1)).toNat ((val ns k (room / 2) n).2+1)).1),
   (times (val ns (.tree k) (room / 2)) (nx ns ((val ns k (room / 2) n).2+1) % ((room:Int)+1)).toNat ((val ns k (room / 2) n).2+1)).2):=by
 have e:∀m,val ns (.tree k) (room / 2) m=ib ns (val ns k) 3 (room / 2) m:=λm=>by
  show ib ns (val ns k) 4 (room / 2) m=_;exact(mw 2 (room / 2) m (by show _<4;omega)).symm
 rw[uU e];simp only[val,ib]
theorem uV {g:Int->Ds × Int}{key:Str}:∀(m:Nat) (J:List Ds) (n:Int),gK g key (m+1) J n=
 (if mf key (gK g key m J n).1 (keyOf (g (gK g key m J n).2).1 key)=true then((gK g key m J n).1,(g (gK g key m J n).2).2) else((gK g key m J n).1++[(g (gK g key m J n).2).1],(g (gK g key m J n).2).2))
 |0,J,n=>by
  simp only[gK]
  first
   |rfl
   |(by_cases c:mf key J (keyOf (g n).1 key)=true <;> simp[c])
 |m+1,J,n=>by
  rw[gK];split
  . rename_i c;rw[uV m J]
    conv=>rhs;rw[gK]
    simp only[c,if_true]
  . rename_i c;rw[uV m (J++[(g n).1])]
    conv=>rhs;rw[gK]
    simp only[c,if_false];rfl
noncomputable def mu:Kd->Nat->Nat
 | .rows key by_ fs,room=>(2 * (fs.dep+1)+1) * 8+room
 |k,room=>(2 * k.dep) * 8+room
theorem rZ (k:Kd)(room:Nat):mu k room<=(2 * k.dep+1) * 8+room:=by
 cases k <;> simp only[mu,Kd.dep] <;> omega
theorem uW {k L:Kd}{room J:Nat}(h:k.dep<L.dep)(U:room<8):mu k room<mu L J:=by
 have:=rZ k room
 cases L <;> simp only[mu,Kd.dep] at * <;> omega
noncomputable def gr (room:Nat):Nat:=if room=0 then 1 else if room=1 then 9 else if room<4 then 73 else 585
noncomputable def kc:Kd->Nat->Nat
 | .tree k,room=>(k.cB+1) * gr room
 |k,_=>k.cB
theorem uX (room:Nat):1<=gr room/\gr room<=585:=by
 unfold gr;by_cases J:room=0
 . rw[if_pos J];omega
 . rw[if_neg J];by_cases h1:room=1
   . rw[if_pos h1];omega
   . rw[if_neg h1];by_cases h2:room<4
     . rw[if_pos h2];omega
     . rw[if_neg h2];omega
theorem JG (room:Nat):gr room<=585:=(uX room).2
theorem uY (k:Kd)(room:Nat):kc k room<=k.cB:=by
 cases k with
 |tree k=>exact Q37 _ (JG room)
 |_=>exact Q0 _
theorem JH {room:Nat}(h1:1<=room)(J:room<8):1+room * gr (room / 2)<=gr room:=by
 have h:room=1\/room=2\/room=3\/room=4\/room=5\/room=6\/room=7:=by omega
 rcases h with h|h|h|h|h|h|h <;> subst h <;> decide
theorem JI (ns:List Int)(k:Kd)(room:Nat)(n:Int)(h:room<8):n<=(val ns (.tree k) room n).2/\(val ns (.tree k) room n).2<=n+((k.cB+1) * gr room:Nat):=by
 have J:=λ(room:Nat) (n:Int) (h:room<8)=>oA ns k room n h;have e:val ns (.tree k) room n=ib ns (val ns k) 4 room n:=by simp only[val]
 rw[e];unfold gr;by_cases L:room=0
 . rw[if_pos L,<-mw 2 room n (by omega),<-mw 1 room n (by omega),<-mw 0 room n (by omega)];exact oz (N:=k.cB) J 1 room n h
 . rw[if_neg L];by_cases h1:room=1
   . rw[if_pos h1,<-mw 2 room n (by omega),<-mw 1 room n (by omega)];exact oz (N:=k.cB) J 2 room n h
   . rw[if_neg h1];by_cases h2:room<4
     . rw[if_pos h2,<-mw 2 room n (by omega)];exact oz (N:=k.cB) J 3 room n h
     . rw[if_neg h2];exact oz (N:=k.cB) J 4 room n h
theorem CY (ns:List Int):∀(fs:Fs) (i room:Nat) (n:Int) (x:Str) (k:Kd),fs.at i=some (x,k)->iG ns fs i room n=(pairD (.str x) (val ns k room n).1,(val ns k room n).2)
 | .nil,i,_,_,_,_,h=>by cases h
 | .cons y q r,0,room,n,x,k,h=>by
   cases h;simp only[iG]
 | .cons y q r,i+1,room,n,x,k,h=>by
   simp only[iG];exact CY ns r i room n x k h
theorem Fs.CZ:∀{fs:Fs}{i:Nat}{x:Str}{k:Kd},fs.at i=some (x,k)->k.cB<=fs.cB
 | .nil,_,_,_,h=>by cases h
 | .cons y q r,0,x,k,h=>by
   cases h;simp only[Fs.cB];omega
 | .cons y q r,i+1,x,k,h=>by
   have:=Fs.CZ (fs:=r) (i:=i) h;simp only[Fs.cB];omega
theorem Fs.C0:∀{fs:Fs}{i:Nat}{x:Str}{k:Kd},fs.at i=some (x,k)->(fs.take i).cB+k.cB<=fs.cB
 | .nil,_,_,_,h=>by cases h
 | .cons y q r,0,x,k,h=>by
   cases h;simp only[Fs.take,Fs.cB];omega
 | .cons y q r,i+1,x,k,h=>by
   have:=Fs.C0 (fs:=r) (i:=i) h;simp only[Fs.take,Fs.cB];omega
theorem Fs.uZ:∀(fs:Fs) (i:Nat),(fs.take i).names=fs.names.take i
 | .nil,i=>by simp[Fs.take,Fs.names]
 | .cons x k r,0=>by simp[Fs.take,Fs.names]
 | .cons x k r,i+1=>by
   show x::(r.take i).names=x::r.names.take i;rw[Fs.uZ r i]
theorem Fs.JJ {fs:Fs}{i:Nat}{x:Str}{k:Kd}(nd:fs.names.Nodup)(h:fs.at i=some (x,k)):x ∉ (fs.take i).names:=by
 rw[Fs.uZ];intro J;obtain⟨j,L,e⟩:=Q0v J;have U:fs.names[i]? =some x:=by rw[Fs.jJ,h];rfl
 obtain⟨hi,Y⟩:=List.getElem?_eq_some_iff.mp U;rw[Q0o] at L;rw[Q1t] at e;have:=(Q1a nd).mp (e.trans Y.symm);omega
theorem r8 (ns:List Int)(room:Nat):∀(fs:Fs) (n:Int),(f_ ns fs room n).1.names=fs.names
 | .nil,n=>by simp[f_,Ds.names,Fs.names]
 | .cons x k r,n=>by
   simp only[f_,Ds.names,Fs.names];rw[r8 ns room r]
theorem fj.key {H:Hp}{kvs:List (Key × V)}{m:Ds}{fp:List Addr}{fs:Fs}{x:Str}(h:fj H kvs m fp)(f:f6 fs m)(hp:fs.pl x):gH kvs (Sum.inr x)=some (kV (keyOf m x)):=by
 rcases(f.plain hp).2 with⟨z,J,L,_⟩|⟨s,J,L,_⟩
 . obtain⟨v,g,h1,h2,_⟩:=fj.val m h J;unfold Own at h2;rw[h1,L,h2.1];rfl
 . obtain⟨v,g,h1,h2,_⟩:=fj.val m h J;unfold Own at h2;rw[h1,L,h2.1];rfl
def kz (fs:Fs) (m:Ds):Prop:=∀x k,fs.get x=some k->∃e,m.get x=some e/\fU k e
def mx (fs:Fs) (m:Ds):Prop:=m.names.length=fs.names.length/\kz fs m
theorem f6.p {fs:Fs}{m:Ds}(f:f6 fs m):kz fs m:=λ_ _ h=>f.get h
theorem f6.u {fs:Fs}{m:Ds}(f:f6 fs m):mx fs m:=⟨by rw[f.names],f.p⟩
theorem kz.plain {fs:Fs}{m:Ds}{x:Str}(f:kz fs m)(h:fs.pl x):(∃z,m.get x=some (.int z)/\keyOf m x=.inl z/\fs.get x=some .num)\/∃s,m.get x=some (.str s)/\keyOf m x=.inr s/\fs.get x=some .gG:=by
 obtain⟨k,h1,h2⟩:=h;obtain⟨d,J,L⟩:=f _ _ h1
 cases k with
 |num=>
  unfold fU at L;obtain⟨z,rfl⟩:=L;exact .inl ⟨z,J,by unfold keyOf;rw[J],h1⟩
 |gG=>
  unfold fU at L;obtain⟨s,rfl⟩:=L;exact .inr ⟨s,J,by unfold keyOf;rw[J],h1⟩
 |_=>exact h2.elim
theorem kz.tag {fs:Fs}{m:Ds}{x:Str}(f:kz fs m)(h:fs.pl x):g6 (keyOf m x)=jM (fs.get x):=by
 rcases f.plain h with⟨z,_,e,g⟩|⟨s,_,e,g⟩ <;> rw[e,g] <;> rfl
theorem u0 {fs:Fs}{key by_:Str}{m:Ds}(f:kz fs m)(h1:fs.pl key)(h2:by_=""\/fs.pl by_):(rankOf key by_ m).map g6=if by_="" then [jM (fs.get key)] else [jM (fs.get by_),jM (fs.get key)]:=by
 unfold rankOf;split
 . show [g6 (keyOf m key)]=_;rw[f.tag h1]
 . rename_i e;show [g6 (keyOf m by_),g6 (keyOf m key)]=_;rw[f.tag h1,f.tag (h2.resolve_left e)]
theorem fj.nJ {H:Hp}{kvs:List (Key × V)}{m:Ds}{fp:List Addr}{fs:Fs}{x:Str}(h:fj H kvs m fp)(f:kz fs m)(hp:fs.pl x):gH kvs (Sum.inr x)=some (kV (keyOf m x)):=by
 rcases f.plain hp with⟨z,J,L,_⟩|⟨s,J,L,_⟩
 . obtain⟨v,g,h1,h2,_⟩:=fj.val m h J;unfold Own at h2;rw[h1,L,h2.1];rfl
 . obtain⟨v,g,h1,h2,_⟩:=fj.val m h J;unfold Own at h2;rw[h1,L,h2.1];rfl
theorem oM {H:Hp}{x:V}{m:Ds}{f:List Addr}{fs:Fs}{key:Str}(U:Own H x (.dct m) f)(hF:kz fs m)(hk:fs.pl key):∃J,x=.ref J/\∀H',Same H H'->gI H' J (.str key) (some (kV (keyOf m key))):=by
 unfold Own at U;obtain⟨J,kvs,fq,rfl,L,_,Y⟩:=U;refine⟨J,rfl,λH' s=>?_⟩;have:=gI.k (k:=Sum.inr key) (s _ _ L);rw[Y.nJ hF hk] at this;exact this
def my (k:Kd) (d:D):Prop:=match k with
 | .gA fs=>∃m,d=.dct m/\mx fs m
 | .rows key by_ fs=>∃J:List Ds,d=.lst (gm J)/\(∀m∈J,mx fs m)/\J.Pairwise (nu key by_)/\(J.map λm=>keyOf m key).Nodup
 |k=>fU k d
theorem my.of {k:Kd}{d:D}(h:fU k d):my k d:=by
 cases k with
 |gA fs=>
  unfold fU at h;obtain⟨m,e,hF⟩:=h;exact⟨m,e,hF.u⟩
 |rows key by_ fs=>
  unfold fU at h;obtain⟨J,e,hF,h1,h2⟩:=h;exact⟨J,e,λm L=>(hF m L).u,h1,h2⟩
 |_=>exact h
abbrev gp (b P:Addr):Hp->Hp->Prop:=Kp (λc=>c=b\/c=P)
theorem _root_.L2.fT.tab {P:Addr}{J:Pos}{L:Str}{H:Hp}(h:fT P J L H):∃ps,H P=some (.g4 ps):=by
 rcases h with e|⟨c,e,_⟩ <;> exact⟨_,e⟩
theorem _root_.L2.fT.keep {P:Addr}{J:Pos}{L:Str}{H H':Hp}(h:fT P J L H)(k:∀c o,(∀xs,o≠ .lst xs)->H c=some o->H' c=some o):fT P J L H':=by
 rcases h with e|⟨c,e,f⟩
 . exact .inl (k _ _ (by intro xs z;cases z) e)
 . exact .inr ⟨c,k _ _ (by intro xs z;cases z) e,k _ _ (by intro xs z;cases z) f⟩
theorem _root_.L2.fT.same {P:Addr}{J:Pos}{L:Str}{H H':Hp}(h:fT P J L H)(s:Same H H'):fT P J L H':=h.keep λc o _ e=>s c o e
theorem _root_.L2.fT.sb {P b:Addr}{J:Pos}{L:Str}{H H':Hp}{l:List V}(h:fT P J L H)(U:H b=some (.lst l))(s:SB b H H'):fT P J L H':=
 h.keep λc o Y e=>s c o (ic e U (Y l)) e
theorem _root_.L2.fT.wr {P p:Addr}{J:Pos}{L:Str}{H:Hp}{o:HO}(h:fT P J L H)(hp:Mu H p):fT P J L (upd H p o):=by
 have key:∀c u,(∀xs,u≠ .lst xs)->(∀kv,u≠ .dK kv)->H c=some u->upd H p o c=some u:=λc u h1 h2 e=>by
  rw[fk];· exact e
  intro z;subst z;rcases hp with⟨xs,q⟩|⟨kv,q⟩
  . rw[e] at q;exact h1 xs (Option.some.inj q)
  . rw[e] at q;exact h2 kv (Option.some.inj q)
 rcases h with e|⟨c,e,f⟩
 . exact .inl (key _ _ (by intro xs z;cases z) (by intro xs z;cases z) e)
 . exact .inr ⟨c,key _ _ (by intro xs z;cases z) (by intro xs z;cases z) e,key _ _ (by intro xs z;cases z) (by intro xs z;cases z) f⟩
theorem SB.gD {b P:Addr}{H H':Hp}(s:SB b H H'):gp b P H H':=λc o n e=>s c o (λz=>n (.inl z)) e
theorem gp.at {b P c:Addr}{H H':Hp}{n:Int}{J:Pos}{L:Str}{o:HO}(x:gp b P H H')(U:H b=some (.lst [.int n]))(hT:fT P J L H)(h1:o≠ .lst [.int n])(h2:∀ps,o≠ .g4 ps)(e:H c=some o):H' c=some o:=by
 obtain⟨ps,Y⟩:=hT.tab;refine x c o (λz=>?_) e;rcases z with z|z
 . exact ic e U h1 z
 . exact ic e Y (h2 ps) z
theorem gp.tu {b P:Addr}{H H':Hp}{n:Int}{J:Pos}{L:Str}(x:gp b P H H')(U:H b=some (.lst [.int n]))(hT:fT P J L H):Tu H H':=λa xs e=>x.at U hT (by intro z;cases z) (by intro ps z;cases z) e
theorem gp.g0 {K:W.Frag}{a b P:Addr}{H H':Hp}{ns:List Int}{n n':Int}{J:Pos}{L:Str}(x:gp b P H H')(g:G0 K H a b ns n)(hT:fT P J L H)(h:H' b=some (.lst [.int n']))(U:n<=n'):G0 K H' a b ns n':=by
 refine⟨?_,g.len,h,by have:=g.pos;omega⟩;rcases g.kx with⟨o,e⟩|e
 . exact .inl ⟨o,x.at g.at_ hT (by intro z;cases z) (by intro ps z;cases z) e⟩
 . exact .inr e
theorem Own.gD {b P:Addr}{H₀ H H':Hp}{v:V}{d:D}{fp:List Addr}{n:Int}{L:Pos}{U:Str}(h:Own H v d fp)(x:gp b P H H')(Y:H b=some (.lst [.int n]))(hT:fT P L U H)(J:∃o,H₀ b=some o)(fr:∀c∈fp,H₀ c=none):Own H' v d fp:=by
 refine h.keep (x.tu Y hT) d λc hc o e=>x c o (λz=>?_) e;rcases z with z|z
 . obtain⟨o',e'⟩:=J;have:=fr c hc;rw[z,e'] at this;cases this
 . obtain⟨ps,hP⟩:=hT.tab;rcases Own.alive d h c hc with⟨xs,q⟩|⟨xs,q⟩ <;> rw[z,hP] at q <;> cases q
def oN:Sp:=λvs H Q _=>∃p r b key by_ fs kvs m fp,vs=[.ref p,.ref r]/\H p=some (.tup [.str "rows",.str key,.str by_,.ref b])/\H r=some (.dK kvs)/\fj H kvs m fp/\kz fs m/\fs.pl key/\(by_=""\/fs.pl by_)/\
 ∀q,H q=none->Q (.ref q) (upd H q (.tup ((rankOf key by_ m).map kV)))
noncomputable def C1 (st:Stmt):Pos:=match(iJ st).getLast? with
 |some (.Return (some (.Call _ _ [⟨_,.Lambda _ _ _ J,_⟩] _)) _)=>J
 |_=>⟨0,0,0,0⟩
noncomputable abbrev iN:Pos:=C1 (top 45)
noncomputable abbrev iO:Str:=("_law_rows":Str)++".<locals>."++"<lambda>"
def nK (K:W.Frag) (P:Addr) (N:Nat):Sp:=λvs H Q _=>∃a b ns n kv k,∃room:Nat,vs=[.ref a,.ref b,kv,.int room]/\G0 K H a b ns n/\fT P iN iO H/\KA H kv k/\k.W/\room<8/\mu k room<=N/\n+kc k room<=1000000000000/\
 ∀(v:V) (H':Hp) (fp:List Addr),gp b P H H'->H' b=some (.lst [.int (val ns k room n).2])->fT P iN iO H'->Own H' v (val ns k room n).1 fp->fp.Nodup->(∀c∈fp,H c=none)->Q v H'
def C2 (K:W.Frag) (P:Addr) (N:Nat):Sp:=λvs H Q _=>∃a b ns n kv key by_ fs,∃room:Nat,vs=[.ref a,.ref b,kv,.int room]/\G0 K H a b ns n/\fT P iN iO H/\KA H kv (.rows key by_ fs)/\(Kd.rows key by_ fs).W/\room<8/\mu (.rows key by_ fs) room<=N+1/\n+(Kd.rows key by_ fs).cB<=1000000000000/\
 ∀(v:V) (H':Hp) (fp:List Addr),gp b P H H'->H' b=some (.lst [.int (val ns (.rows key by_ fs) room n).2])->fT P iN iO H'->Own H' v (val ns (.rows key by_ fs) room n).1 fp->fp.Nodup->(∀c∈fp,H c=none)->Q v H'
theorem JK:gi XY XY (fM (top 44)):=gw
theorem C3 (T:Tb mg)(J:Dn K mg "_law_rank" nA (top 44) L U):fm P w K mg base fw (1) L U nA (oN):=by
 refine J.F.ok JK λvs H Q E h=>?_;obtain⟨p,r,b,key,by_,fs,kvs,m,fp,rfl,hp,hR,hO,hF,hk,aa,q⟩:=h;refine⟨rfl,λac A outer s nd hr Y=>?_⟩
 refine⟨_,(e_ (f7 (fY gx (fy (pv 0) b_) gj (fV _)) (fx (fE (ij (a_ (iA Y (pv 1) (fy (pv 0) b_) (λ_ _=>rfl)) c_)))) f9)
  (fx (fE (ij (a_ (iA Y (pv 1) (fy (pv 0) b_) (λ_ _=>rfl)) (a_ (iA Y (pv 1) (fy (pv 0) b_) (λ_ _=>rfl)) c_)))))),?_⟩
 ac_rfl
 have gk:gI H r (.str key) (some (kV (keyOf m key))):=by have:=gI.k (k:=Sum.inr key) hR;rw[hO.nJ hF hk] at this;exact this
 refine⟨_,rfl,p,_,_,_,rfl,rfl,d_.of hp,rfl,rfl,_,rfl,gO (λc=>?_) (λc=>?_)⟩
 . have c':by_="":=by
    have:=of_decide_eq_true c;injection this
   refine⟨_,rfl,_,rfl,p,_,_,_,rfl,rfl,d_.of hp,rfl,r,_,rfl,gk,mj,λt ht=>?_⟩;have:=q t ht;unfold rankOf at this;rw[if_pos c'] at this;exact this
 . have c':¬by_="":=λz=>c (decide_eq_true (show V.str by_=V.str "" by rw[z]));have ab:fs.pl by_:=aa.resolve_left c';have gb:gI H r (.str by_) (some (kV (keyOf m by_))):=by have:=gI.k (k:=Sum.inr by_) hR;rw[hO.nJ hF ab] at this;exact this
   refine⟨_,rfl,_,rfl,p,_,_,_,rfl,rfl,d_.of hp,rfl,r,_,rfl,gb,_,rfl,_,rfl,p,_,_,_,rfl,rfl,d_.of hp,rfl,r,_,rfl,gk,ix,λt ht=>?_⟩;have:=q t ht;unfold rankOf at this;rw[if_neg c'] at this;exact this
theorem JL:gi ["kind","row","key","by"] ["kind","row"] (fM (top 20)):=gw
theorem JM (T:Tb mg)(J:Dn K mg "rank" pV (top 20) L U):fm P w K mg base fw (1) L U pV (oN):=by
 refine J.F.ok JL λvs H Q E h=>?_;obtain⟨p,r,b,key,by_,fs,kvs,m,fp,rfl,hp,hR,hO,hF,hk,aa,q⟩:=h;refine⟨rfl,λac A outer s nd hr Y=>?_⟩
 refine⟨_,(e_ (fN 2 nd (fy (pv 0) b_))
  (e_ (fN 3 nd (fy (pv 0) b_))
  (e_ (f7 (fY gx (pv 3) gj (fV _)) (fx (fE (ij (a_ (iA Y (pv 1) (pv 2) (λ_ _=>rfl)) c_)))) f9)
  (fx (fE (ij (a_ (iA Y (pv 1) (pv 3) (λ_ _=>rfl)) (a_ (iA Y (pv 1) (pv 2) (λ_ _=>rfl)) c_)))))))),?_⟩
 ac_rfl
 have gk:gI H r (.str key) (some (kV (keyOf m key))):=by have:=gI.k (k:=Sum.inr key) hR;rw[hO.nJ hF hk] at this;exact this
 refine⟨_,rfl,p,_,_,_,rfl,rfl,d_.of hp,rfl,?_⟩;refine⟨_,rfl,p,_,_,_,rfl,rfl,d_.of hp,rfl,?_⟩;refine⟨_,rfl,rfl,_,rfl,gO (λc=>?_) (λc=>?_)⟩
 . have c':by_="":=by
    have:=of_decide_eq_true c;injection this
   refine⟨_,rfl,_,rfl,r,_,rfl,gk,mj,λt ht=>?_⟩;have:=q t ht;unfold rankOf at this;rw[if_pos c'] at this;exact this
 . have c':¬by_="":=λz=>c (decide_eq_true (show V.str by_=V.str "" by rw[z]));have ab:fs.pl by_:=aa.resolve_left c';have gb:gI H r (.str by_) (some (kV (keyOf m by_))):=by have:=gI.k (k:=Sum.inr by_) hR;rw[hO.nJ hF ab] at this;exact this
   refine⟨_,rfl,_,rfl,r,_,rfl,gb,_,rfl,_,rfl,r,_,rfl,gk,ix,λt ht=>?_⟩;have:=q t ht;unfold rankOf at this;rw[if_neg c'] at this;exact this
noncomputable def σV (a b J:Addr) (room:Nat) (L ps:Addr) (x y:Option V):St:=[some (.ref a),some (.ref b),some (.ref J),some (.int room),some (.ref L),some (.ref ps),x,y]
theorem u3 {α J:Type}{F:α->J->Prop}{a:α}{b:J}:∀{as:List α}{bs:List J},Paired F as bs->F a b->Paired F (as++[a]) (bs++[b])
 |_,_,.nil,h=>.cons h .nil
 |_,_,.cons x r,h=>.cons x (u3 r h)
theorem C4 {L:List (Key × V)}{J:List Ds}{key:Str}(h:L.map (·.1)=J.map λr=>keyOf r key)(k:Key):(gH L k).isSome=mf key J k:=by
 rw[<-ng];unfold mf;have e:∀(l:List Ds),(l.any λr=>decide (keyOf r key=k))=((l.map λr=>keyOf r key).any λx=>decide (x=k)):=λl=>by rw[Q22];rfl
 rw[e,<-h,Q22];rfl
theorem fZ.gD {b P:Addr}{H₀ H H':Hp}{n:Int}{lp:Pos}{ql:Str}(x:gp b P H H')(U:H b=some (.lst [.int n]))(hT:fT P lp ql H)(J:∃o,H₀ b=some o):
 ∀{vs:List V} {Y:List Ds} {L:List (List Addr)},fZ H vs Y L->(∀c∈L.flatten,H₀ c=none)->fZ H' vs Y L
 |_,_,_,.nil,_=>.nil
 |_,_,_,.cons h r,fr=>.cons (h.gD x U hT J λc hc=>fr c (Q0m _ hc)) (fZ.gD x U hT J r λc hc=>fr c (Q07 _ hc))
theorem fZ.keep {H H':Hp}(t:Tu H H'):∀{vs:List V}{L:List Ds}{J:List (List Addr)},fZ H vs L J->(∀c∈J.flatten,∀o,H c=some o->H' c=some o)->fZ H' vs L J
 |_,_,_,.nil,_=>.nil
 |_,_,_,.cons h r,k=>.cons (h.keep t _ λc hc=>k c (Q0m _ hc)) (fZ.keep t r λc hc=>k c (Q07 _ hc))
theorem fZ.mu {H:Hp}{vs:List V}{L:List Ds}{J:List (List Addr)}(h:fZ H vs L J):∀c∈J.flatten,Mu H c:=fC.alive _ h.own
theorem C5:gi XU XH (fM (top 45)):=gw
theorem JN {Pt c:Addr}(N:Nat)(T:Tb mg)(ai:Dn K mg "_law_rows" i3 (top 45) aj Y)(ba:Y.code=.ref c)(bz:W.CodeHd base c Pt)(bA:BM mg base)(ak:Dn K mg "_law_next" gn (top 36) al am)(an:fm P w K mg base fw (1) al am gn (mq K))(L:Dn K mg "_law_rank" nA (top 44) ao ap)(aq:fm P w K mg base fw (1) ao ap nA (oN))(ac:Dn K mg "_law_value" i3 (top 46) ae af)(ag:fm P w K mg base fw (2 * N+5) ae af i3 (nK K Pt N)):
 fm P w K mg base fw (2 * N+6) aj Y i3 (C2 K Pt N):=by
 refine ai.F.uF ba C5 (λvs H Q E h=>?_) (λA outer s H vs Q E hr h=>?_)
 . obtain⟨a,b,ns,n,kv,key,by_,fs,room,rfl,_⟩:=h;rfl
 obtain⟨a,b,ns,n,kv,key,by_,fs,room,rfl,g,hT,hk,hW,b2,bB,hn,q⟩:=h;have nd:=C5.nd;have hu:=uk hr;unfold KA at hk;obtain⟨pk,pb,xs,rfl,aX,bC,bD⟩:=hk;have b3:=hW;unfold Kd.W at hW;obtain⟨bE,bF,aY,aG,bd⟩:=hW
 refine⟨_,(e_ (fN 4 nd (iw c_))
  (e_ (fN 5 nd oj)
  (e_ (iz PassesOwn.never rfl (mU rfl T.mi (a_ (fH gN (fL an hr ak (a_ (pv 0) (a_ (pv 1) c_))) (fH js (pv 3) b_)) c_)) (gu (i:=6) nd rfl gQ) (e_ (fN 7 nd (fL ag hr ac (a_ (pv 0) (a_ (pv 1) (a_ (ij (a_ gj (a_ (fy (pv 2) b_) c_))) (a_ (fH iF (pv 3) b_) c_))))))
  (fx (f7 (qI (Bj hu (iA hu (pv 7) (fy (pv 2) b_) (λ_ _=>rfl)) (pv 5)) (by with_unfolding_all rfl)) (e_ (kU hu (pv 5) (iA hu (pv 7) (fy (pv 2) b_) (λ_ _=>rfl)) jb rfl)
  (fx (jh (ko PySem.F.plainAttrs_list PySem.F.slot_list_append PySem.F.type_list_append lB (pv 4) (a_ (pv 7) c_))))) f9))))
  (fx (fE (BZ (x:="_law_row") (N':=["","","_law_kind_here","","","","",""]) rfl T.rG boot_sorted hr rfl rfl bz bA (lH.of (N:=XU) (sc:=fM (top 45)) rfl rfl rfl rfl rfl (by decide +kernel)) rfl (λ_ _ _ _ _=>rfl) (pv 4) (λ_ _ _ _ _=>(t_ aq (gP.deeper (k:=1) (gP.in1 (k:=2) (gP.in1 (k:=3) (hr.mono (by omega)))) _) rfl L.m L.F.kp L.b .nil jv (a_ (pv 3) (a_ (pv 0) c_)))))))))),?_⟩
 ac_rfl
 have bG:(Kd.rows key by_ fs).cB=8 * fs.cB+1:=rfl;rw[bG] at hn;have hb:=g.at_;obtain⟨b4,hP⟩:=hT.tab;refine⟨pT,λpr aM=>?_⟩;intro ps az
 have aH:H ps=none:=by
  by_cases e:ps=pr
  . rw[e,fA] at az;cases az
  . rwa [fk e] at az
 have aZ:ps≠pr:=λe=>by rw[e,fA] at az;cases az
 have s0:Same H (upd (upd H pr (.lst [])) ps (.dK [])):=(Same.new aM).trans (Same.new az);have hT0:=hT.same s0;have g0:G0 K (upd (upd H pr (.lst [])) ps (.dK [])) a b ns n:=⟨(SB.of s0).kx hb g.kx,g.len,s0 _ _ hb,g.pos⟩;refine⟨_,rfl,_,rfl,a,b,ns,n,rfl,g0,by omega,λH1 s1 h1=>?_⟩;refine⟨_,rfl,_,_,rfl,rfl,_,_,rfl,rfl,by omega,?_⟩;have b5:=Q0p (nx ns (n+1)) (show((room:Int)+1)≠0 by omega);have b6:=Q0q (nx ns (n+1)) (show(0:Int)<(room:Int)+1 by omega);have a1:b≠pr:=fJ hb aM;have a2:b≠ps:=fJ hb aH;have jT:Pt≠pr:=fJ hP aM;have bH:Pt≠ps:=fJ hP aH;have bI:H1 pr=some (.lst []):=s1 pr _ (Ne.symm a1) (by rw[fk (Ne.symm aZ)];exact fA);have bJ:H1 ps=some (.dK []):=s1 ps _ (Ne.symm a2) fA;have bK:fT Pt iN iO H1:=hT0.sb (s0 _ _ hb) s1;have k1:gp b Pt H H1:=λc o nc e=>s1 c o (λz=>nc (.inl z)) (s0 c o e);have cnt:=λm=>oB ns fs (room / 2) m (by omega)
 refine⟨_,rfl,by omega,by omega,l5 (n:=Int.toNat (nx ns (n+1) % ((room:Int)+1))) (λi σ H'=>∃x y vs fl sk,σ=σV a b pk room pr ps x y/\gp b Pt H H'/\H' b=some (.lst [.int (gK (f_ ns fs (room / 2)) key i [] (n+1)).2])/\fT Pt iN iO H'/\
  H' pr=some (.lst vs)/\H' ps=some (.dK sk)/\fZ H' vs (gK (f_ ns fs (room / 2)) key i [] (n+1)).1 fl/\fl.flatten.Nodup/\(∀c∈fl.flatten,H c=none/\c≠pr/\c≠ps)/\sk.map (·.1)=((gK (f_ ns fs (room / 2)) key i [] (n+1)).1.map λr=>keyOf r key)/\vs.length<=i) ?_ ?_ ?_⟩
 . exact⟨_,_,[],[],[],rfl,k1,h1,bK,bI,bJ,.nil,Q0y,λc hc=>absurd hc (by simp),rfl,Q0 _⟩
 . intro i σ H' hi zq;obtain⟨x,y,vs,fl,sk,rfl,kp,aC,aA,aN,a3,aa,aO,au,aD,bL⟩:=zq;have b7:i<8:=by omega
   obtain⟨c1,c2⟩:=rz (key:=key) cnt i [] (n+1);have c3:i * fs.cB<=7 * fs.cB:=Q12 _ (by omega);have aE:Tu H H':=kp.tu hb hT;refine⟨_,rfl,_,rfl,_,rfl,pk,_,_,_,rfl,rfl,d_.of (aE _ _ aX),rfl,ix,λt ht=>?_⟩;have st:Same H' (upd H' t (.tup [.str "record",.ref pb])):=Same.new ht;have e2:((room / 2:Nat):Int)=(room:Int) / 2:=by omega
   have bM:KA (upd H' t (.tup [.str "record",.ref pb])) (.ref t) (.gA fs):=by
    unfold KA;exact⟨t,pb,xs,rfl,fA,st _ _ (aE _ _ bC),FA.mono (aE.trans (Tu.of st)) fs bD⟩
   have b8:=g.pos;refine⟨_,rfl,_,_,rfl,rfl,⟨by decide,by decide⟩,a,b,ns,(gK (f_ ns fs (room / 2)) key i [] (n+1)).2,.ref t,.gA fs,room / 2,(by rw[e2];rfl),gp.g0 (kp.trans (Kp.of st)) g hT (st _ _ aC) (by omega),aA.same st,bM,(by unfold Kd.W;exact⟨bE,bF,aY⟩),by omega,(by simp only[mu,Kd.dep] at bB ⊢;omega),(by simp only[kc,Kd.cB];omega),?_⟩;intro v H2 fp gD aB be aw br aU;have ev:val ns (.gA fs) (room / 2) (gK (f_ ns fs (room / 2)) key i [] (n+1)).2=(.dct (f_ ns fs (room / 2) (gK (f_ ns fs (room / 2)) key i [] (n+1)).2).1,(f_ ns fs (room / 2) (gK (f_ ns fs (room / 2)) key i [] (n+1)).2).2):=by simp only[val]
   rw[ev] at aB aw;have bt:=ny ns fs aY (room / 2) (gK (f_ ns fs (room / 2)) key i [] (n+1)).2 (by omega);have succ:=uV (g:=f_ ns fs (room / 2)) (key:=key) i [] (n+1);generalize gK (f_ ns fs (room / 2)) key (i+1) [] (n+1)=b9 at succ ⊢;generalize gK (f_ ns fs (room / 2)) key i [] (n+1)=J at *;generalize f_ ns fs (room / 2) J.2=ab at *;have ar:gp b Pt H' H2:=(Kp.of st).trans gD;have bN:∃o,H b=some o:=⟨_,hb⟩;have bf:H2 pr=some (.lst vs):=ar pr _ (λz=>z.elim (Ne.symm a1) (Ne.symm jT)) aN;have aP:H2 ps=some (.dK sk):=ar ps _ (λz=>z.elim (Ne.symm a2) (Ne.symm bH)) a3;have U:fZ H2 vs J.1 fl:=fZ.gD ar aC aA bN aa λc hc=>(au c hc).1;have bb:=aw;unfold Own at aw;obtain⟨rr,kvs,fq,rfl,a4,ca,a5⟩:=aw;have ax:H2 pk=some (.tup [.str "rows",.str key,.str by_,.ref pb]):=gp.at (kp.trans ar) hb hT (by intro z;cases z) (by intro ps z;cases z) aX;have gk:gI H2 rr (.str key) (some (kV (keyOf ab.1 key))):=by have:=gI.k (k:=Sum.inr key) a4;rw[a5.key bt aG] at this;exact this
   have gs:gI H2 ps (kV (keyOf ab.1 key)) (gH sk (keyOf ab.1 key)):=gI.k aP;have sv:=C4 aD (keyOf ab.1 key);have aJ:gp b Pt H H2:=kp.trans ar;refine⟨_,rfl,_,rfl,pk,_,_,_,rfl,rfl,d_.of ax,rfl,rr,_,rfl,gk,_,rfl,ps,_,rfl,gs,_,rfl,?_⟩
   cases ec:mf key J.1 (keyOf ab.1 key) with
   |true=>
    rw[ec] at sv;rw[ec,if_pos rfl] at succ;rw[sv];subst succ;exact gR ⟨_,_,vs,fl,sk,rfl,aJ,aB,be,bf,aP,U,aO,au,aD,by omega⟩
   |false=>
    rw[ec] at sv;rw[ec,if_neg (by simp)] at succ;rw[sv];subst succ;refine ig ?_
    have bO:gH sk (keyOf ab.1 key)=none:=by
     cases z:gH sk (keyOf ab.1 key) with
     |none=>rfl
     |some o=>rw[z] at sv;cases sv
    have bu:sk.length<sizeLine:=by
     have e1:sk.length=(J.1.map λr=>keyOf r key).length:=by rw[<-aD,Q05]
     rw[Q05] at e1;have cb:=(A3.len U).1;exact g_ (by omega)
    refine⟨_,rfl,_,rfl,_,rfl,pk,_,_,_,rfl,rfl,d_.of ax,rfl,rr,_,rfl,gk,ps,_,rfl,ju.k aP bu,?_⟩;rw[nz bO];have bg:Mu H2 ps:=.inr ⟨_,aP⟩;have bP:Tu H2 (upd H2 ps (.dK (sk++[(keyOf ab.1 key,.bl true)]))):=Tu.wr λys z=>bg.rA ys z;have a6:upd H2 ps (.dK (sk++[(keyOf ab.1 key,.bl true)])) pr=some (.lst vs):=by rw[fk (Ne.symm aZ)];exact bf
    refine⟨_,rfl,.inl ⟨rfl,_,fv.of a6⟩,_,rfl,pr,_,_,rfl,rfl,a6,g_ (by omega),?_⟩;have bh:Mu (upd H2 ps (.dK (sk++[(keyOf ab.1 key,.bl true)]))) pr:=.inl ⟨_,a6⟩;have bi:Tu H2 (upd (upd H2 ps (.dK (sk++[(keyOf ab.1 key,.bl true)]))) pr (.lst (vs++[.ref rr]))):=bP.trans (Tu.wr λys z=>bh.rA ys z)
    have aI:∀c∈fp,H c=none/\c≠pr/\c≠ps:=λc hc=>by
     have z:=aU c hc;have z':H' c=none:=st.free z;have nb:c≠b:=λe=>by rw[e,aC] at z';cases z'
     obtain⟨bj,a7⟩:=aA.tab;have nP:c≠Pt:=λe=>by rw[e,a7] at z';cases z'
     refine⟨kp.pQ (λe=>e.elim nb nP) z',λe=>?_,λe=>?_⟩
     . rw[e,aN] at z';cases z'
     . rw[e,a3] at z';cases z'
    have ah:∀c,c≠pr->c≠ps->upd (upd H2 ps (.dK (sk++[(keyOf ab.1 key,.bl true)]))) pr (.lst (vs++[.ref rr])) c=H2 c:=λc n1 n2=>by rw[fk n1,fk n2]
    refine⟨_,_,vs++[.ref rr],fl++[fp],_,rfl,λc o nc e=>?_,by rw[ah b a1 a2];exact aB,(be.wr bg).wr bh,fA,by rw[fk aZ];exact fA,?_,?_,?_,?_,by rw[Q0e];show vs.length+1<=i+1;omega⟩
    . rw[ah c (fJ e aM) (fJ e aH)];exact aJ c o nc e
    . refine A3.snoc ?_ (fZ.keep bi U λc hc o e=>by rw[ah c (au c hc).2.1 (au c hc).2.2];exact e);exact bb.keep bi _ λc hc o e=>by rw[ah c (aI c hc).2.1 (aI c hc).2.2];exact e
    . rw[Q1f];refine List.nodup_append.mpr ⟨aO,by simpa using br,λc hc d hd=>?_⟩;have bQ:d∈fp:=by simpa using hd
      intro e;subst e;obtain⟨o,eo⟩:=(fZ.mu aa c hc).ex;have:=st.free (aU c bQ);rw[eo] at this;cases this
    . intro c hc;rw[Q1f] at hc;rcases List.mem_append.mp hc with z|z
      . exact au c z
      . exact aI c (by simpa using z)
    . rw[Q0i,Q0i,aD];rfl
 . intro σ H' zq;obtain⟨x,y,vs,fl,sk,rfl,kp,aC,aA,aN,a3,aa,aO,au,aD,bL⟩:=zq;have bR:val ns (.rows key by_ fs) room n=(.lst (gm (iZ key by_ (gK (f_ ns fs (room / 2)) key (nx ns (n+1) % ((room:Int)+1)).toNat [] (n+1)).1)),(gK (f_ ns fs (room / 2)) key (nx ns (n+1) % ((room:Int)+1)).toNat [] (n+1)).2):=by simp only[val]
   rw[bR] at q;have aK:∀m∈(gK (f_ ns fs (room / 2)) key (nx ns (n+1) % ((room:Int)+1)).toNat [] (n+1)).1,f6 fs m:=oy (R:=f6 fs) (λn=>ny ns fs aY (room / 2) n (by omega)) _ _ _ (λr hr=>absurd hr (by simp));have bS:=rj (g:=f_ ns fs (room / 2)) (key:=key) (nx ns (n+1) % ((room:Int)+1)).toNat [] (n+1) Q0y;generalize gK (f_ ns fs (room / 2)) key (nx ns (n+1) % ((room:Int)+1)).toNat [] (n+1)=J at *;obtain⟨aV,bv⟩:=A3.len aa;refine⟨_,rfl,pr,vs,rfl,fv.of aN,by omega,aA,λc' H2 a8 mono=>?_⟩;have aE:Tu H H':=kp.tu hb hT
   have np:∀cc o,(∀ps,o≠ .g4 ps)->H' cc=some o->H2 cc=some o:=λcc o ho e=>by
    obtain⟨bj,a7⟩:=aA.tab;exact mono cc o (ic e a7 (ho bj)) e
   have bm:Tu H' H2:=λcc ys e=>np cc _ (by intro ps z;cases z) e
   have U:fZ H2 vs J.1 fl:=fZ.keep bm aa λcc hc o e=>np cc o (by
    intro ps z;rcases fZ.mu aa cc hc with⟨_,q⟩|⟨_,q⟩ <;> rw[e] at q <;> rw[z] at q <;> cases q) e
   have ax:H2 pk=some (.tup [.str "rows",.str key,.str by_,.ref pb]):=bm _ _ (aE _ _ aX);refine⟨λks H3=>Same H2 H3/\ks.length<=vs.length/\nr H3 ks ((J.1.map (rankOf key by_)).take ks.length),⟨Same.refl _,Q0a _,.nil⟩,λks H3 hw=>a8.mono λcc o _ e=>hw.1 _ _ e,?_,?_⟩
   . rintro ks H3 yv ⟨s3,bT,aQ⟩ hy;have bn:ks.length<vs.length:=(List.getElem?_eq_some_iff.mp hy).1;have aW:=A3.at (a0:=V.non) (b0:=Ds.nil) (c0:=[]) U ks.length bn;have ey:vs.getD ks.length .non=yv:=by rw[Q0b,hy];rfl
     rw[ey] at aW
     have bw:J.1.getD ks.length .nil∈J.1:=by
      rw[Q0b,Q03 (by omega)];exact Q11 _
     have aL:=Own.same s3 aW;unfold Own at aL;obtain⟨rr,kvs,fq,rfl,a4,_,a5⟩:=aL;refine⟨_,rfl,_,rfl,pk,rr,pb,key,by_,fs,kvs,_,fq,rfl,s3 _ _ ax,a4,a5,(aK _ bw).p,aG,bd,λt ht=>⟨s3.trans (Same.new ht),by rw[Q0e];exact bn,?_⟩⟩
     have et:(J.1.map (rankOf key by_)).take (ks++[V.ref t]).length=(J.1.map (rankOf key by_)).take ks.length++[rankOf key by_ (J.1.getD ks.length .nil)]:=by
      rw[Q0e];show List.take (ks.length+1) _=_;rw[Q0l,Q0h,Q0b,Q03 (by omega)];rfl
     rw[et];refine u3 (Paired.o5 aQ λk kl z=>?_) ⟨t,rfl,fA⟩;obtain⟨pp,e,hh⟩:=z;exact⟨pp,e,by rw[fk (fJ hh ht)];exact hh⟩
   . rintro ks H3 ⟨s3,bT,aQ⟩ bx
     have bU:(J.1.map (rankOf key by_)).take ks.length=J.1.map (rankOf key by_):=by
      rw[bx,aV,Q0z (by rw[Q05];exact Q0 _)]
     rw[bU] at aQ;refine⟨_,aQ,⟨if by_="" then [jM (fs.get key)] else [jM (fs.get by_),jM (fs.get key)],by split <;> simp,λkl bV=>?_⟩,λp hp hs D hD=>?_⟩
     . obtain⟨m,hm,rfl⟩:=List.mem_map.mp bV;exact IX (aK m hm) aG bd
     have a9:∀i∈p,i<vs.length:=λi hi=>by
      have:=hp.mem_iff.mp hi;simpa using this
     have bW:p.Perm (List.range J.1.length):=by rw[<-aV];exact hp
     have hz:(p.map λi=>J.1.getD i .nil)=iZ key by_ J.1:=by
      refine Cc (rB _ bW) ?_ bS;rw[Q1p] at hs ⊢;refine List.Pairwise.imp_of_mem (λ{i j} hi hj h=>?_) hs;have bX:=a9 i hi;have bY:=a9 j hj
      have ge:∀i,i<vs.length->(J.1.map (rankOf key by_)).getD i []=rankOf key by_ (J.1.getD i .nil):=λi hi=>by
       rw[Q0b,Q0b,Q0h,Q03 (by omega)];rfl
      rw[ge i bX,ge j bY] at h;exact h
     have ay:fZ H3 vs J.1 fl:=fZ.keep (Tu.of s3) U λcc _ o e=>s3 cc o e;have sD:Same H3 (upd H3 D (.lst (p.map λi=>vs.getD i .non))):=Same.new hD;have aT:fZ (upd H3 D (.lst (p.map λi=>vs.getD i .non))) vs J.1 fl:=fZ.keep (Tu.of sD) ay λcc _ o e=>sD cc o e;have bc:=A3.pick (a0:=V.non) (b0:=Ds.nil) (c0:=[]) aT p a9;have bZ:(p.map λi=>fl.getD i []).Perm fl:=rB _ (by rw[<-bv];exact hp);have av:=Cq bZ;have aB:H2 b=some (.lst [.int J.2]):=np b _ (by intro ps z;cases z) aC;have bo:D≠b:=λe=>by rw[e,s3 _ _ aB] at hD;cases hD
     have bp:D≠Pt:=λe=>by rw[e,s3 _ _ a8.1] at hD;cases hD
     have bq:=s3.free hD
     have b1:H' D=none:=by
      cases e:H' D with
      |none=>rfl
      |some o=>rw[mono D o bp e] at bq;cases bq
     refine q (.ref D) _ (D::(p.map λi=>fl.getD i []).flatten) (λcc o nc e=>?_) (by rw[fk (Ne.symm bo)];exact s3 _ _ aB) (.inr ⟨c',a8.mono λcc o _ e=>sD _ _ (s3 _ _ e)⟩) ?_ ?_ ?_
     . have e1:=kp cc o nc e;exact sD _ _ (s3 _ _ (mono cc o (λz=>nc (.inr z)) e1))
     . unfold Own;exact⟨D,_,_,rfl,fA,rfl,by rw[<-hz];exact fZ.own bc⟩
     . refine List.nodup_cons.mpr ⟨λhm=>?_,av.nodup_iff.mpr aO⟩;obtain⟨o,eo⟩:=(fZ.mu ay D (av.mem_iff.mp hm)).ex;rw[hD] at eo;cases eo
     . intro cc hc;rcases List.mem_cons.mp hc with z|z
       . rw[z];exact kp.pQ (λe=>e.elim bo bp) b1
       . exact(au cc (av.mem_iff.mp z)).1
theorem JO (k:Kd)(room:Nat):16<=mu k room:=by
 have:=k.k6
 cases k <;> simp only[mu,Kd.dep] at * <;> omega
noncomputable def σU (a b:Addr) (kv:V) (room:Nat) (J L U Y x5:Option V):St:=[some (.ref a),some (.ref b),some kv,some (.int room),J,L,U,Y,x5]
theorem fj.gD {b P:Addr}{H₀ H H':Hp}{v:List (Key × V)}{d:Ds}{fp:List Addr}{n:Int}{L:Pos}{U:Str}(h:fj H v d fp)(x:gp b P H H')(Y:H b=some (.lst [.int n]))(hT:fT P L U H)(J:∃o,H₀ b=some o)(fr:∀c∈fp,H₀ c=none):fj H' v d fp:=by
 refine h.keep (gp.tu x Y hT) d λc hc o e=>x c o (λz=>?_) e;rcases z with z|z
 . obtain⟨o',e'⟩:=J;have:=fr c hc;rw[z,e'] at this;cases this
 . obtain⟨ps,hP⟩:=hT.tab;rcases fj.alive d h c hc with⟨xs,q⟩|⟨xs,q⟩ <;> rw[z,hP] at q <;> cases q
theorem fC.gD {b P:Addr}{H₀ H H':Hp}{v:List V}{d:Ds}{fp:List Addr}{n:Int}{L:Pos}{U:Str}(h:fC H v d fp)(x:gp b P H H')(Y:H b=some (.lst [.int n]))(hT:fT P L U H)(J:∃o,H₀ b=some o)(fr:∀c∈fp,H₀ c=none):fC H' v d fp:=by
 refine h.keep (gp.tu x Y hT) d λc hc o e=>x c o (λz=>?_) e;rcases z with z|z
 . obtain⟨o',e'⟩:=J;have:=fr c hc;rw[z,e'] at this;cases this
 . obtain⟨ps,hP⟩:=hT.tab;rcases fC.alive d h c hc with⟨xs,q⟩|⟨xs,q⟩ <;> rw[z,hP] at q <;> cases q
theorem gp.fresh {b P c:Addr}{H H':Hp}{n:Int}{J:Pos}{L:Str}(x:gp b P H H')(U:H' b=some (.lst [.int n]))(hT:fT P J L H')(h:H' c=none):H c=none:=by
 obtain⟨ps,Y⟩:=hT.tab;exact x.pQ (λe=>e.elim (λz=>by rw[z,U] at h;cases h) λz=>by rw[z,Y] at h;cases h) h
theorem C6:gi XS XH (fM (top 46)):=gw
theorem JP {Pt:Addr}(T:Tb mg)(J:Dn K mg "_law_value" i3 (top 46) L U):fm P w K mg base fw (2 * 0+5) L U i3 (nK K Pt 0):=by
 refine J.F.ok C6 λvs H Q E h=>?_;obtain⟨a,b,ns,n,kv,k,room,rfl,g,hT,hk,hW,aa,Y,_⟩:=h;refine⟨rfl,λab A outer s nd hr hu=>?_⟩;exact absurd Y (by have:=JO k room;omega)
theorem JQ {Pt:Addr}(N:Nat)(T:Tb mg)(J:Dn K mg "_law_value" i3 (top 46) ab ac)(U:fm P w K mg base fw (2 * N+5) ab ac i3 (nK K Pt N))(ap:Dn K mg "_law_rows" i3 (top 45) aq ar)(au:fm P w K mg base fw (2 * N+6) aq ar i3 (C2 K Pt N))(ae:Dn K mg "_law_next" gn (top 36) av aw)(af:fm P w K mg base fw (1) av aw gn (mq K))(al:Dn K mg "_law_number" gn (top 37) am an)(ao:fm P w K mg base fw (2) am an gn (CK K))(ax:Dn K mg "_law_word" gn (top 38) ay az)(aA:fm P w K mg base fw (2) ay az gn (CL K)):
 fm P w K mg base fw (2 * (N+1)+5) ab ac i3 (nK K Pt (N+1)):=by
 refine J.F.ok C6 λvs H Q E h=>?_;obtain⟨a,b,ns,n,kv,k,room,rfl,g,hT,hk,hW,aa,aZ,hn,q⟩:=h;refine⟨rfl,λbC A outer s nd hr hu=>?_⟩
 refine⟨_,(e_ (f7 (fY gx (fy (pv 2) b_) gj (fV _)) (fx (fE (fL ao hr al (a_ (pv 0) (a_ (pv 1) c_))))) f9)
  (e_ (f7 (fY gx (fy (pv 2) b_) gj (fV _)) (fx (fE (fL aA hr ax (a_ (pv 0) (a_ (pv 1) c_))))) f9)
  (e_ (f7 (fY gx (fy (pv 2) b_) gj (fV _)) (e_ (fN 4 nd oj)
  (e_ (iz PassesOwn.never rfl (jE (fy (pv 2) b_)) (jD rfl (ie (gu (i:=5) nd rfl gQ) (ie (gu (i:=6) nd rfl gQ) jC))) (fx (kU hu (pv 4) (pv 5) (fL U hr J (a_ (pv 0) (a_ (pv 1) (a_ (pv 6) (a_ (pv 3) c_))))) rfl)))
  (fx (fE (pv 4))))) f9)
  (e_ (f7 (fY gx (fy (pv 2) b_) gj (fV _)) (fx (fE (fL au hr ap (a_ (pv 0) (a_ (pv 1) (a_ (pv 2) (a_ (pv 3) c_))))))) f9)
  (e_ (f7 (fY gx (fy (pv 2) b_) gj (fV _)) (e_ (fN 7 nd (fL U hr J (a_ (pv 0) (a_ (pv 1) (a_ (fy (pv 2) b_) (a_ (fH iF (pv 3) b_) c_))))))
  (e_ (fN 8 nd (fH gN (fL af hr ae (a_ (pv 0) (a_ (pv 1) c_))) (fH js (pv 3) b_)))
  (fx (fE (ij (a_ (pv 7) (a_ (ma (g:=(iB 0)) (tt:=kY) (te:=(lA _ _ _ (iu (gF 1) (iu (gF 2) (iu (gF 3) (iu (gY _ (gF 4) (tC (.int 2))) jW)))))) (own:=["_law_k"]) rfl (jY (N:=XS) (sc:=fM (top 46))) (mU rfl T.mi (a_ (pv 8) c_)) (λ_ _ _ _ _=>(gu (i:=0) (show(["_law_k","_law_script","_law_at","_law_kind_here","_law_room","_law_made","_law_name","_law_inner","_law_top","_law_many"]:List Str).Nodup by decide +kernel) rfl (Or.inl rfl) (.inr rfl))) (λ_ _ _ _ _=>l_) (λ_ _ _ _ _=>(fL U hr J (a_ (pv 1) (a_ (pv 2) (a_ (pv 3) (a_ (fH iF (pv 4) b_) c_))))))) c_))))))) f9)
  (e_ (AE (fy (fy (pv 2) b_) (fH gN (fL af hr ae (a_ (pv 0) (a_ (pv 1) c_))) (gL jj (by rfl) T.iM PySem.boot_len (a_ (fy (pv 2) b_) c_)))) (jD rfl (ie (gu (i:=5) nd rfl gQ) (ie (gu (i:=6) nd rfl gQ) jC))))
  (fx (fE (ij (a_ (pv 5) (a_ (fL U hr J (a_ (pv 0) (a_ (pv 1) (a_ (pv 6) (a_ (pv 3) c_))))) c_))))))))))),?_⟩
 ac_rfl
 have hb:=g.at_;have bD:=g.pos;have aT:∃o,H b=some o:=⟨_,hb⟩;obtain⟨bE,hP⟩:=hT.tab;have e2:((room / 2:Nat):Int)=(room:Int) / 2:=by omega
 cases k with
 |num=>
  unfold KA at hk;obtain⟨c,rfl,hc⟩:=hk;simp only[kc,Kd.cB] at hn;refine jy rfl hc rfl (by decide +kernel) ?_;refine⟨_,rfl,_,rfl,a,b,ns,n,rfl,g,by omega,λH1 s1 h1=>?_⟩;have ev:val ns .num room n=(.int (num ns (n+1)),n+1):=by simp only[val]
  rw[ev] at q;exact q _ H1 [] (SB.gD s1) h1 (hT.sb hb s1) (by unfold Own;exact⟨rfl,rfl⟩) Q0y λc hc=>absurd hc (by simp)
 |gG=>
  unfold KA at hk;obtain⟨c,rfl,hc⟩:=hk;simp only[kc,Kd.cB] at hn;refine gC rfl hc rfl (by decide +kernel) ?_;refine jy rfl hc rfl (by decide +kernel) ?_;refine⟨_,rfl,_,rfl,a,b,ns,n,rfl,g,by omega,λH1 s1 h1=>?_⟩;have ev:val ns .gG room n=(.str (gG ns (n+1)),n+1):=by simp only[val]
  rw[ev] at q;exact q _ H1 [] (SB.gD s1) h1 (hT.sb hb s1) (by unfold Own;exact⟨rfl,rfl⟩) Q0y λc hc=>absurd hc (by simp)
 |gA fs=>
  unfold KA at hk;obtain⟨pk,pb,xs,rfl,Y,aD,aE⟩:=hk;unfold Kd.W at hW;obtain⟨a5,bf,aU⟩:=hW;refine gC rfl Y rfl (by decide +kernel) ?_;refine gC rfl Y rfl (by decide +kernel) ?_;refine jy rfl Y rfl (by decide +kernel) ?_;intro p hp;have a6:b≠p:=fJ hb hp;have bg:Pt≠p:=fJ hP hp;have s0:Same H (upd H p (.dK [])):=Same.new hp;have bh:val ns (.gA fs) room n=(.dct (f_ ns fs room n).1,(f_ ns fs room n).2):=by simp only[val]
  rw[bh] at q;simp only[kc,Kd.cB] at hn
  refine⟨_,rfl,pk,_,_,_,rfl,rfl,d_.of (s0 _ _ Y),rfl,pb,rfl,⟨_,d_.of (s0 _ _ aD)⟩,l4 (xs:=xs) (λi σ H'=>∃x2 x3 x4 x5 kvs fq,σ=σU a b (.ref pk) room (some (.ref p)) x2 x3 x4 x5/\gp b Pt H H'/\H' b=some (.lst [.int (f_ ns (fs.take i) room n).2])/\fT Pt iN iO H'/\
   H' p=some (.dK kvs)/\fj H' kvs (f_ ns (fs.take i) room n).1 fq/\fq.Nodup/\∀c∈fq,H c=none/\c≠p) ?_ ?_ ?_ ?_⟩
  . rw[Fs.take_zero];refine⟨_,_,_,_,[],[],rfl,Kp.of s0,by simp only[f_];exact s0 _ _ hb,hT.same s0,fA,?_,Q0y,λc hc=>absurd hc (by simp)⟩;simp only[f_];unfold fj;exact⟨rfl,rfl⟩
  . intro i σ H' _ zq;obtain⟨x2,x3,x4,x5,kvs,fq,rfl,kp,_⟩:=zq;exact d_.of (gp.tu kp hb hT _ _ aD)
  . intro i v σ H' hv zq;obtain⟨x2,x3,x4,x5,kvs,fq,rfl,kp,ag,ah,aK,hO,aG,ai⟩:=zq;have a7:=gp.tu kp hb hT;obtain⟨c,u,nm,k,rfl,aj,hc,hk⟩:=FA.get fs aE hv;have cn:=oB ns (fs.take i) room n aa;have cb:=Fs.C0 aj;refine⟨c,_,rfl,d_.of (a7 _ _ hc),rfl,_,_,rfl,_,_,rfl,rfl,?_⟩;refine⟨_,rfl,_,rfl,_,rfl,_,rfl,a,b,ns,(f_ ns (fs.take i) room n).2,u,k,room,rfl,gp.g0 kp g hT ag cn.1,ah,KA.mono a7 k hk,Fs.kr aU aj,aa,?_,by have:=uY k room;omega,?_⟩
    . have:mu k room<mu (.gA fs) room:=uW (by have:=Fs.jK aj;simp only[Kd.dep];omega) aa;omega
    intro v2 H2 fp gD aH aI aB aC ak;have a8:H2 p=some (.dK kvs):=gD p _ (λz=>z.elim (Ne.symm a6) (Ne.symm bg)) aK;have bi:=fj.gD hO gD ag ah aT λc hc=>(ai c hc).1;have bj:nm ∉ (f_ ns (fs.take i) room n).1.names:=by rw[r8];exact Fs.JJ a5 aj
    have bm:kvs.length<sizeLine:=by
     rw[fj.len hO,r8];have:(fs.take i).names.length<=fs.names.length:=by rw[Fs.uZ,Q0o];omega
     exact g_ (by omega)
    refine⟨_,rfl,_,rfl,p,_,rfl,ju.k (k:=Sum.inr nm) a8 bm,?_⟩;rw[nz (fj.Cp hO bj)];have a9:Mu H2 p:=.inr ⟨_,a8⟩;have ba:Tu H2 (upd H2 p (.dK (kvs++[(Sum.inr nm,v2)]))):=Tu.wr λys z=>a9.rA ys z
    have aO:∀c∈fp,H c=none/\c≠p:=λc hc=>by
     have z:=ak c hc;exact⟨gp.fresh kp ag ah z,λe=>by rw[e,aK] at z;cases z⟩
    have sn:=CU ns nm k room (fs.take i) n;rw[Fs.take_succ aj,sn];refine⟨_,_,_,_,_,fq++fp,rfl,λc o nc e=>?_,by rw[fk a6];exact aH,aI.wr a9,fA,?_,?_,?_⟩
    . rw[fk (fJ e hp)];exact gD c o nc (kp c o nc e)
    . exact fj.snoc (aB.keep ba _ λc hc o e=>by rw[fk (aO c hc).2];exact e) _ (bi.keep ba _ λc hc o e=>by rw[fk (ai c hc).2];exact e)
    . refine List.nodup_append.mpr ⟨aG,aC,λc hc d hd=>?_⟩;intro e;subst e;obtain⟨o,eo⟩:=(fj.alive _ hO c hc).ex;rw[ak c hd] at eo;cases eo
    . intro c hc;rcases List.mem_append.mp hc with z|z
      . exact ai c z
      . exact aO c z
  . intro σ H' zq;obtain⟨x2,x3,x4,x5,kvs,fq,rfl,kp,ag,ah,aK,hO,aG,ai⟩:=zq;rw[FA.len fs aE,Fs.take_all] at ag hO;refine⟨_,rfl,q (.ref p) H' (p::fq) kp ag ah ?_ ?_ ?_⟩
    . unfold Own;exact⟨p,kvs,fq,rfl,aK,rfl,hO⟩
    . exact List.nodup_cons.mpr ⟨λhm=>(ai p hm).2 rfl,aG⟩
    . intro c hc;rcases List.mem_cons.mp hc with z|z
      . rw[z];exact hp
      . exact(ai c z).1
 |rows key by_ fs=>
  have aV:=hk;unfold KA at hk;obtain⟨pk,pb,xs,rfl,Y,aD,aE⟩:=hk;simp only[kc] at hn;refine gC rfl Y rfl (by decide +kernel) ?_;refine gC rfl Y rfl (by decide +kernel) ?_;refine gC rfl Y rfl (by decide +kernel) ?_;refine jy rfl Y rfl (by decide +kernel) ?_;exact⟨_,rfl,_,rfl,_,rfl,_,rfl,a,b,ns,n,_,key,by_,fs,room,rfl,g,hT,aV,hW,aa,aZ,hn,q⟩
 |tree k=>
  have aV:=hk;unfold KA at hk;obtain⟨pk,u,rfl,Y,bn⟩:=hk;unfold Kd.W at hW;refine gC rfl Y rfl (by decide +kernel) ?_;refine gC rfl Y rfl (by decide +kernel) ?_;refine gC rfl Y rfl (by decide +kernel) ?_;refine gC rfl Y rfl (by decide +kernel) ?_;refine jy rfl Y rfl (by decide +kernel) ?_;have ev:=JF ns k room n aa;rw[ev] at q;simp only[kc,Kd.cB] at hn;have bF:k.cB+1<=(k.cB+1) * gr room:=Q38 _ (uX room).1
  have m1:mu k (room / 2)<=N:=by
   have:mu k (room / 2)<mu (.tree k) room:=uW (by simp only[Kd.dep];omega) (by omega);omega
  refine⟨_,rfl,_,rfl,_,rfl,pk,_,_,_,rfl,rfl,d_.of Y,rfl,_,rfl,_,_,rfl,rfl,⟨by decide,by decide⟩,a,b,ns,n,u,k,room / 2,(by rw[e2];rfl),g,hT,bn,hW,by omega,m1,by have:=uY k (room / 2);have:k.cB+1<=(k.cB+1) * gr room:=Q38 _ (uX room).1;omega,?_⟩;intro vt Ht aL aW aM bb bo bp aX;have ct:=oA ns k (room / 2) n (by omega);generalize bG:val ns k (room / 2) n=L at *;refine⟨_,rfl,_,rfl,a,b,ns,L.2,rfl,gp.g0 aW g hT aM ct.1,by omega,λH1 s1 h1=>?_⟩;have g1:G0 K H1 a b ns (L.2+1):=(gp.g0 aW g hT aM ct.1).go s1 h1 (by omega);have aY:=bb.sb aM s1;have k1:gp b Pt H H1:=aW.trans (SB.gD s1);have aP:Own H1 vt L.1 aL:=bo.gD (SB.gD s1) aM bb aT aX;refine⟨_,rfl,_,_,rfl,rfl,_,_,rfl,rfl,by omega,?_⟩;have bq:=Q0p (nx ns (L.2+1)) (show((room:Int)+1)≠0 by omega);have br:=Q0q (nx ns (L.2+1)) (show(0:Int)<(room:Int)+1 by omega);have bt:=λm=>JI ns k (room / 2) m (by omega);have bd:=λi=>uN (g:=val ns (.tree k) (room / 2)) (N:=(k.cB+1) * gr (room / 2)) bt i (L.2+1)
  refine⟨_,rfl,_,rfl,_,rfl,by omega,by omega,λi m ys H'=>m=(nx ns (L.2+1) % ((room:Int)+1)).toNat - i/\i<=(nx ns (L.2+1) % ((room:Int)+1)).toNat/\ys.length=i/\∃fq,gp b Pt H1 H'/\H' b=some (.lst [.int (times (val ns (.tree k) (room / 2)) i (L.2+1)).2])/\fT Pt iN iO H'/\
   fC H' ys (times (val ns (.tree k) (room / 2)) i (L.2+1)).1 fq/\fq.Nodup/\∀c∈fq,H1 c=none,⟨(nx ns (L.2+1) % ((room:Int)+1)).toNat,rfl,Q0a _,rfl,[],Kp.refl _ _,h1,aY,?_,Q0y,λc hc=>absurd hc (by simp)⟩,?_⟩
  . simp only[times];unfold fC;exact⟨rfl,rfl⟩
  intro i m ys H' zq;obtain⟨rfl,bB,bu,fq,kp,ag,ah,hO,aG,ai⟩:=zq;by_cases hi:i<(nx ns (L.2+1) % ((room:Int)+1)).toNat
  . refine .inr ⟨hi,g_ (by omega),λx bv y=>?_⟩;obtain⟨rfl,rfl⟩:=y;refine⟨rfl,yes (ig ?_)⟩;have bw:1<=room:=by omega
    have bH:=bd i
    have bx:(times (val ns (.tree k) (room / 2)) i (L.2+1)).2+((k.cB+1) * gr (room / 2):Nat)<=1000000000000:=by
     have a1:=Q37 (k.cB+1) (JH bw aa);have a2:(k.cB+1) * (1+room * gr (room / 2))=(k.cB+1)+room * ((k.cB+1) * gr (room / 2)):=by rw[Nat.mul_add,Nat.mul_one,Q32]
     have a3:(i+1) * ((k.cB+1) * gr (room / 2))<=room * ((k.cB+1) * gr (room / 2)):=Q12 _ (by omega);have a4:(i+1) * ((k.cB+1) * gr (room / 2))=i * ((k.cB+1) * gr (room / 2))+(k.cB+1) * gr (room / 2):=Q1q _ _;omega
    have kA:gp b Pt H bv:=k1.trans kp;refine⟨_,rfl,_,rfl,_,rfl,_,rfl,_,_,rfl,rfl,⟨by decide,by decide⟩,a,b,ns,(times (val ns (.tree k) (room / 2)) i (L.2+1)).2,.ref pk,.tree k,room / 2,(by rw[e2];rfl),gp.g0 kA g hT ag (by omega),ah,KA.mono (gp.tu kA hb hT) _ aV,(by unfold Kd.W;exact hW),by omega,(by simp only[mu] at aZ ⊢;omega),bx,?_⟩;intro v2 H2 fp gD aH aI aB aC ak;have sn:=CV (val ns (.tree k) (room / 2)) i (L.2+1);refine⟨(nx ns (L.2+1) % ((room:Int)+1)).toNat - (i+1),by omega,rfl,hi,by rw[Q0e,bu];rfl,fq++fp,kp.trans gD,by rw[sn];exact aH,aI,?_,?_,?_⟩
    . rw[sn];exact fC.snoc aB _ (fC.gD hO gD ag ah ⟨_,h1⟩ ai)
    . refine List.nodup_append.mpr ⟨aG,aC,λc hc d hd=>?_⟩;intro e;subst e;obtain⟨o,eo⟩:=(fC.alive _ hO c hc).ex;rw[ak c hd] at eo;cases eo
    . intro c hc;rcases List.mem_append.mp hc with z|z
      . exact ai c z
      . exact gp.fresh kp ag ah (ak c z)
  . have ei:i=(nx ns (L.2+1) % ((room:Int)+1)).toNat:=by omega
    subst ei;refine .inl ⟨Q0 _,λpl aN=>⟨ix,λt ht=>?_⟩⟩;have sl:Same H' (upd H' pl (.lst ys)):=Same.new aN;have st:Same (upd H' pl (.lst ys)) (upd (upd H' pl (.lst ys)) t (.tup [vt,.ref pl])):=Same.new ht;have sa:=sl.trans st;have aQ:Own H' vt L.1 aL:=aP.gD kp h1 aY aT aX;have kA:gp b Pt H H':=k1.trans kp;refine q (.ref t) _ (aL++(pl::fq)) (kA.trans (Kp.of sa)) (sa _ _ ag) (ah.same sa) ?_ ?_ ?_
    . unfold Own;refine⟨t,_,rfl,fA,?_⟩;unfold fC;refine⟨vt,[.ref pl],aL,pl::fq,rfl,rfl,Own.same sa aQ,?_⟩;unfold fC;refine⟨.ref pl,[],pl::fq,[],rfl,by simp,?_,by unfold fC;exact⟨rfl,rfl⟩⟩;unfold Own;exact⟨pl,ys,fq,rfl,st _ _ fA,rfl,fC.same sa hO⟩
    . refine List.nodup_append.mpr ⟨bp,List.nodup_cons.mpr ⟨λhm=>?_,aG⟩,λc hc d hd=>?_⟩
      . obtain⟨o,eo⟩:=(fC.alive _ hO pl hm).ex;rw[aN] at eo;cases eo
      . intro e;subst e;rcases List.mem_cons.mp hd with z|z
        . obtain⟨o,eo⟩:=(Own.alive _ aQ c hc).ex;rw[z,aN] at eo;cases eo
        . obtain⟨o,eo⟩:=(Own.alive _ aP c hc).ex;rw[ai c z] at eo;cases eo
    . intro c hc;rcases List.mem_append.mp hc with z|z
      . exact aX c z
      . rcases List.mem_cons.mp z with y|y
        . rw[y];exact gp.fresh kA ag ah aN
        . exact gp.fresh k1 h1 aY (ai c y)
 |ia fs=>
  unfold KA at hk;obtain⟨pk,pb,xs,rfl,Y,aD,aE⟩:=hk;unfold Kd.W at hW;obtain⟨a5,bf,bI,aU⟩:=hW;refine gC rfl Y rfl (by decide +kernel) ?_;refine gC rfl Y rfl (by decide +kernel) ?_;refine gC rfl Y rfl (by decide +kernel) ?_;refine gC rfl Y rfl (by decide +kernel) ?_;refine gC rfl Y rfl (by decide +kernel) ?_;simp only[kc,Kd.cB] at hn;refine⟨_,rfl,pk,_,_,_,rfl,rfl,d_.of Y,rfl,_,rfl,_,rfl,a,b,ns,n,rfl,g,by omega,λH1 s1 h1=>?_⟩;have aJ:=s1.tu hb;have bc:(xs.length:Int)=(fs.names.length:Int):=by rw[FA.len fs aE]
  have bq:=Q0p (nx ns (n+1)) (show((fs.names.length:Int))≠0 by omega);have br:=Q0q (nx ns (n+1)) (show(0:Int)<(fs.names.length:Int) by omega);obtain⟨nm,k,aj⟩:=Fs.B_ (fs:=fs) (i:=(nx ns (n+1) % (fs.names.length:Int)).toNat) (by omega);obtain⟨c,u,bz,hc,hk⟩:=FA.at aE aj
  have bA:iC xs (nx ns (n+1) % ((xs.length:Nat):Int))=some (.ref c):=by
   have e:nx ns (n+1) % ((xs.length:Nat):Int)=(((nx ns (n+1) % (fs.names.length:Int)).toNat:Nat):Int):=by rw[bc];omega
   rw[e];exact jX bz
  refine⟨_,rfl,pk,_,_,_,rfl,rfl,d_.of (aJ _ _ Y),rfl,pb,_,rfl,.inr (d_.of (aJ _ _ aD)),_,_,rfl,rfl,by rw[bc];omega,pb,_,_,_,rfl,rfl,d_.of (aJ _ _ aD),bA,?_⟩;refine⟨c,_,rfl,d_.of (aJ _ _ hc),rfl,_,_,rfl,_,_,rfl,rfl,?_⟩
  have ev:val ns (.ia fs) room n=(pairD (.str nm) (val ns k room (n+1)).1,(val ns k room (n+1)).2):=by
   show iG ns fs (nx ns (n+1) % (fs.names.length:Int)).toNat room (n+1)=_;exact CY ns fs _ room (n+1) nm k aj
  rw[ev] at q;have cb:=Fs.CZ aj;refine⟨_,rfl,_,rfl,_,rfl,_,rfl,_,rfl,a,b,ns,n+1,u,k,room,rfl,g.go s1 h1 (by omega),hT.sb hb s1,KA.mono aJ k hk,Fs.kr aU aj,aa,?_,by have:=uY k room;omega,?_⟩
  . have:mu k room<mu (.ia fs) room:=uW (by have:=Fs.jK aj;simp only[Kd.dep];omega) aa;omega
  intro v2 H2 fp gD aH aI aB aC ak;have be:gp b Pt H H2:=(SB.gD s1).trans gD;refine⟨ix,λt ht=>?_⟩;have st:Same H2 (upd H2 t (.tup [.str nm,v2])):=Same.new ht;refine q (.ref t) _ fp (be.trans (Kp.of st)) (st _ _ aH) (aI.same st) ?_ aC λc hc=>gp.fresh (SB.gD s1) h1 (hT.sb hb s1) (ak c hc);unfold Own;refine⟨t,_,rfl,fA,?_⟩;unfold fC;refine⟨.str nm,[v2],[],fp,rfl,rfl,by unfold Own;exact⟨rfl,rfl⟩,?_⟩;unfold fC;exact⟨v2,[],fp,[],rfl,by simp,Own.same st aB,by unfold fC;exact⟨rfl,rfl⟩⟩
theorem C7 {Pt c:Addr}{af:Addr}{ag:FuncData}(T:Tb mg)(L:Dn K mg "_law_value" i3 (top 46) ac ae)(Y:Dn K mg "_law_rows" i3 (top 45) al ah)(ai:ah.code=.ref c)(aq:W.CodeHd base c Pt)(ar:BM mg base)(J:Dn K mg "_law_next" gn (top 36) am an)(U:Dn K mg "_law_number" gn (top 37) aj ak)(aa:Dn K mg "_law_word" gn (top 38) ao ap)(ab:Dn K mg "_law_rank" nA (top 44) af ag):∀N:Nat,fm P w K mg base fw (2 * N+5) ac ae i3 (nK K Pt N)
 |0=>JP T L
 |N+1=>by
  have ih:=C7 T L Y ai aq ar J U aa ab N;have Nx:=pZ (P:=P) (w:=w) (base:=base) T J;have R:=JN N T Y ai aq ar J Nx ab (C3 T ab) L ih;exact JQ N T L ih Y R J Nx U (Jt T U J Nx) aa (Jv T aa J Nx)
mutual
def D.Sm:D->Prop
 | .int _=>True
 | .str _=>True
 | .non=>True
 | .boo _=>True
 | .tup xs=>xs.len<=100/\xs.Sm
 | .lst xs=>xs.len<=100/\xs.Sm
 | .dct m=>m.len<=100/\m.Sm
def Ds.Sm:Ds->Prop
 | .nil=>True
 | .cons _ d r=>d.Sm/\r.Sm
end
theorem Ds.r_:∀{xs:Ds}{i:Nat}{d:D},xs.Sm->xs.at i=some d->d.Sm
 | .nil,_,_,_,h=>by cases h
 | .cons _ d r,0,_,w,h=>by unfold Ds.Sm at w;cases h;exact w.1
 | .cons _ d r,i+1,_,w,h=>by unfold Ds.Sm at w;exact Ds.r_ (xs:=r) (i:=i) w.2 h
theorem Ds.p8:∀{xs:Ds}{x:Str}{d:D},xs.Sm->xs.get x=some d->d.Sm
 | .nil,_,_,_,h=>by cases h
 | .cons y e r,x,d,w,h=>by
   unfold Ds.Sm at w;have h:(if x=y then some e else r.get x)=some d:=h;by_cases c:x=y
   . rw[if_pos c] at h;cases h;exact w.1
   . rw[if_neg c] at h;exact Ds.p8 w.2 h
theorem lM:∀(m:Ds),m.names.length=m.len
 | .nil=>rfl
 | .cons _ _ r=>by show r.names.length+1=r.len+1;rw[lM r]
theorem p9:∀l:List Ds,(gm l).len=l.length
 |[]=>rfl
 |m::r=>by show(gm r).len+1=r.length+1;rw[p9 r]
theorem sd:∀{l:List Ds},(∀m∈l,(D.dct m).Sm)->(gm l).Sm
 |[],_=>by unfold gm Ds.Sm;trivial
 |m::r,h=>by
  unfold gm Ds.Sm;exact⟨h m Q01,sd λx J=>h x (Q04 _ J)⟩
theorem u4:∀{l:List Ds},(gm l).Sm->∀m∈l,(D.dct m).Sm
 |[],_,m,J=>absurd J (by simp)
 |x::r,h,m,J=>by
  unfold gm Ds.Sm at h;rcases List.mem_cons.mp J with e|e
  . rw[e];exact h.1
  . exact u4 h.2 m e
theorem u6:∀{l:List Ds},∀m∈l,m.dep+1<=(gm l).dep
 |[],m,J=>absurd J (by simp)
 |x::r,m,J=>by
  simp only[gm,Ds.dep,D.dep];rcases List.mem_cons.mp J with e|e
  . rw[e];omega
  . have:=u6 (l:=r) m e;omega
theorem C8 (g:Int->D × Int):∀(m:Nat) (n:Int),(times g m n).1.len=m
 |0,_=>rfl
 |m+1,n=>by show(times g m (g n).2).1.len+1=m+1;rw[C8 g m]
theorem C9 {g:Int->D × Int}(J:∀n,(g n).1.Sm):∀(m:Nat) (n:Int),(times g m n).1.Sm
 |0,_=>by unfold times Ds.Sm;trivial
 |m+1,n=>by
  unfold times Ds.Sm;exact⟨J n,C9 J m _⟩
theorem C_ {a b:D}(h1:a.Sm)(h2:b.Sm):(pairD a b).Sm:=by
 unfold D.Sm;exact⟨by show 2<=100;decide,by unfold Ds.Sm;exact⟨h1,by unfold Ds.Sm;exact⟨h2,by unfold Ds.Sm;trivial⟩⟩⟩
theorem Dd {ns:List Int}{f:Nat->Int->D × Int}(J:∀room n,room<8->(f room n).1.Sm):∀(fu room:Nat) (n:Int),room<8->(ib ns f fu room n).1.Sm
 |0,_,_,_=>by unfold ib D.Sm;trivial
 |fu+1,room,n,h=>by
  unfold ib;refine C_ (J _ _ (by omega)) ?_;unfold D.Sm;refine⟨?_,C9 (λn=>Dd J fu (room / 2) n (by omega)) _ _⟩;rw[C8];have:=mod_le (a:=nx ns ((f (room / 2) n).2+1)) h;omega
theorem u7 {g:Int->Ds × Int}{key:Str}:∀(m:Nat) (J:List Ds) (n:Int),(gK g key m J n).1.length<=J.length+m
 |0,J,n=>by simp[gK]
 |m+1,J,n=>by
  unfold gK;split
  . have:=u7 (g:=g) (key:=key) m J (g n).2;omega
  . have:=u7 (g:=g) (key:=key) m (J++[(g n).1]) (g n).2;rw[Q0e] at this;have e:[(g n).1].length=1:=rfl;omega
mutual
theorem u9 (ns:List Int):∀(k:Kd),k.W->∀(room:Nat) (n:Int),room<8->(val ns k room n).1.Sm
 | .num,_,_,_,_=>by unfold val D.Sm;trivial
 | .gG,_,_,_,_=>by unfold val D.Sm;trivial
 | .gA fs,w,room,n,h=>by
   unfold Kd.W at w;unfold val;exact se ns fs w.2.2 room n h w.2.1
 | .rows key by_ fs,w,room,n,h=>by
   unfold Kd.W at w;unfold val D.Sm;refine⟨?_,sd λm J=>?_⟩
   . rw[p9,(k7 key by_ _).length_eq];have:=u7 (g:=f_ ns fs (room / 2)) (key:=key) (nx ns (n+1) % ((room:Int)+1)).toNat [] (n+1);have e:=mod_le (a:=nx ns (n+1)) h;have U:([]:List Ds).length=0:=rfl;omega
   . exact oy (R:=λm=>(D.dct m).Sm) (λn=>se ns fs w.2.2.1 (room / 2) n (by omega) w.2.1) _ _ _ (λr L=>absurd L (by simp)) m ((k7 key by_ _).mem_iff.mp J)
 | .tree k,w,room,n,h=>by
   unfold Kd.W at w;unfold val;exact Dd (λroom n h=>u9 ns k w room n h) 4 room n h
 | .ia fs,w,room,n,h=>by
   unfold Kd.W at w;unfold val;exact De ns fs w.2.2.2 _ room _ h
theorem se (ns:List Int):∀(fs:Fs),fs.W->∀(room:Nat) (n:Int),room<8->fs.names.length<=12->(D.dct (f_ ns fs room n).1).Sm
 | .nil,_,_,_,_,_=>by
   unfold f_ D.Sm;exact⟨by show 0<=100;omega,by unfold Ds.Sm;trivial⟩
 | .cons x k r,w,room,n,h,hl=>by
   unfold Fs.W at w;have hl:r.names.length+1<=12:=hl;have a:=u9 ns k w.1 room n h;have b:=se ns r w.2.2 room (val ns k room n).2 h (by omega);unfold D.Sm at b;unfold f_ D.Sm;refine⟨?_,by unfold Ds.Sm;exact⟨a,b.2⟩⟩;show(f_ ns r room (val ns k room n).2).1.len+1<=100;rw[<-lM,r8];omega
theorem De (ns:List Int):∀(fs:Fs),fs.W->∀(i room:Nat) (n:Int),room<8->(iG ns fs i room n).1.Sm
 | .nil,_,_,_,_,_=>by unfold iG D.Sm;trivial
 | .cons x k r,w,0,room,n,h=>by
   unfold Fs.W at w;unfold iG;exact C_ (by unfold D.Sm;trivial) (u9 ns k w.1 room n h)
 | .cons x k r,w,i+1,room,n,h=>by
   unfold Fs.W at w;unfold iG;exact De ns r w.2.2 i room n h
end
theorem iL.at {P:D->Prop}:∀{xs:Ds}{i:Nat}{d:D},iL P xs->xs.at i=some d->Tree P d
 | .nil,_,_,_,h=>by cases h
 | .cons _ d r,0,_,w,h=>by unfold iL at w;cases h;exact w.1
 | .cons _ d r,i+1,_,w,h=>by unfold iL at w;exact iL.at (xs:=r) (i:=i) w.2 h
theorem Own.pair {H:Hp}{v:V}{x y:Str}{a b:D}{fp:List Addr}(h:Own H v (.tup (.cons x a (.cons y b .nil))) fp):∃c J L U Y,v=.ref c/\H c=some (.tup [J,L])/\fp=U++Y/\Own H J a U/\Own H L b Y:=by
 unfold Own at h;obtain⟨c,vs,rfl,hc,h⟩:=h;unfold fC at h;obtain⟨J,q,U,Y,rfl,rfl,g1,h⟩:=h;unfold fC at h;obtain⟨L,q2,g,f3,rfl,rfl,g2,h⟩:=h;unfold fC at h;obtain⟨rfl,rfl⟩:=h;exact⟨c,J,L,U,g,rfl,hc,by simp,g1,g2⟩
theorem Fs.get_mem:∀{fs:Fs}{x:Str}{k:Kd},fs.get x=some k->x∈fs.names
 | .nil,_,_,h=>by cases h
 | .cons y q r,x,k,h=>by
   have h:(if x=y then some q else r.get x)=some k:=h;by_cases e:x=y
   . rw[e];exact Q01
   . rw[if_neg e] at h;exact Q04 _ (Fs.get_mem h)
theorem sg:∀{fs:Fs}{x:Str}{v:D},iT fs x v->∃k,fs.get x=some k/\fU k v
 | .nil,_,_,h=>by unfold iT at h;exact h.elim
 | .cons y k r,x,v,h=>by
   unfold iT at h;rcases h with⟨e,f⟩|⟨e,h⟩
   . exact⟨k,by show(if x=y then some k else r.get x)=_;rw[if_pos e],f⟩
   . obtain⟨J,L,U⟩:=sg h;exact⟨J,by show(if x=y then some k else r.get x)=_;rw[if_neg e];exact L,U⟩
theorem Fs.si:∀{fs:Fs}{x:Str}{k:Kd},fs.W->fs.get x=some k->k.W
 | .nil,_,_,_,h=>by cases h
 | .cons y q r,x,k,w,h=>by
   unfold Fs.W at w;have h:(if x=y then some q else r.get x)=some k:=h;by_cases e:x=y
   . rw[if_pos e] at h;cases h;exact w.1
   . rw[if_neg e] at h;exact Fs.si w.2.2 h
theorem u_ {K:PySem.W.Frag}{a:Addr}{xs:List V}{g:TG}{tb:TS}{D:Ends}{σ:St}{H:Hp}(Pv:Nat->St->Hp->Prop)(h0:Pv 0 σ H)(hl:∀i σ H,i<=xs.length->Pv i σ H->fv K H a xs)
 (hs:∀(i:Nat) y σ H p,xs[i]? =some y->Pv i σ H->H p=none->g (.ref p) σ (upd H p (.tup [.int i,y])) λJ H2=>tb { D with nx:=Pv (i+1),ct:=Pv (i+1),bk:=D.nx } J H2) (hd:∀σ H,Pv xs.length σ H->D.nx σ H):
 ∃W:Nat->Nat->St->Hp->Prop,(∃m,W 0 m σ H)/\∀i m σ H,W i m σ H->
  ((Ite K a).stop i H/\D.nx σ H)\/((Ite K a).go i H/\∃N:St->Hp->Prop,(∀L H',N L H'->∃Y,Y<m/\W (i+1) Y L H')/\∀x H',(Ite K a).kL i H x H'->g x σ H' λJ H2=>tb { D with nx:=N,ct:=N,bk:=D.nx } J H2):=by
 refine⟨λi m σ H=>m=xs.length - i/\i<=xs.length/\Pv i σ H,⟨xs.length,by simp,Q0a _,h0⟩,?_⟩;rintro i m σ H ⟨rfl,hi,p⟩;by_cases U:i<xs.length
 . refine .inr ⟨⟨xs,xs[i],hl i σ H hi p,by simp[U]⟩,Pv (i+1),λL H' p'=>⟨xs.length - (i+1),by omega,rfl,U,p'⟩,λx H' y=>?_⟩;obtain⟨q,y,hq,rfl,hy,rfl⟩:=y;exact hs i y σ H q (hy xs (hl i σ H hi p)) p hq
 . have e:i=xs.length:=by omega
   subst e;exact .inl ⟨⟨xs,hl _ σ H (Q0 _) p,Q0 _⟩,hd σ H p⟩
def vc:Sp:=λvs H Q _=>∃b x xs fs k,vs=[.ref b,.str x]/\H b=some (.tup xs)/\FA H xs fs/\fs.names.Nodup/\fs.get x=some k/\∀u,KA H u k->u≠ .non->Q u H
def vd:Sp:=λvs H Q _=>∃a x y,vs=[.ref a]/\H a=some (.tup [x,y])/\Q (.bl true) H
def Df:Sp:=λvs H Q _=>∃b a xs kvs fs m fp,vs=[.ref b,.ref a]/\H b=some (.tup xs)/\FA H xs fs/\fs.names.Nodup/\fs.names.length<=12/\H a=some (.dK kvs)/\fj H kvs m fp/\mx fs m/\∀H',Same H H'->Q (.bl true) H'
def nL (n:Nat):Sp:=λvs H Q _=>∃kv v k d fp,vs=[kv,v]/\KA H kv k/\k.W/\Own H v d fp/\my k d/\d.dep<=n/\d.Sm/\∀H',Same H H'->Q .non H'
def ve (n:Nat):Sp:=λvs H Q _=>∃b a xs kvs fs m fp,vs=[.ref b,.ref a]/\H b=some (.tup xs)/\FA H xs fs/\fs.names.Nodup/\fs.names.length<=12/\fs.W/\H a=some (.dK kvs)/\fj H kvs m fp/\mx fs m/\m.dep<=n/\m.Sm/\∀H',Same H H'->Q .non H'
def Dg (n:Nat):Sp:=λvs H Q _=>∃L U a xs key by_ fs ys J Y,vs=[.ref L,.ref a]/\H L=some (.tup [.str "rows",.str key,.str by_,.ref U])/\H U=some (.tup xs)/\FA H xs fs/\(Kd.rows key by_ fs).W/\H a=some (.lst ys)/\fZ H ys J Y/\(∀m∈J,mx fs m)/\J.Pairwise (nu key by_)/\(J.map λm=>keyOf m key).Nodup/\(∀m∈J,m.dep<=n)/\(∀m∈J,m.Sm)/\ys.length<=100/\∀H',Same H H'->Q .non H'
def p_ (n:Nat):Sp:=λvs H Q _=>∃a u v k d fp,vs=[.ref a,v]/\H a=some (.tup [.str "tree",u])/\KA H u k/\k.W/\Own H v d fp/\Tree (fU k) d/\d.dep<=n/\d.Sm/\∀H',Same H H'->Q .non H'
def Dh (n:Nat):Sp:=λvs H Q _=>∃b t x v xs fs d fp,vs=[.ref b,.ref t]/\H b=some (.tup xs)/\FA H xs fs/\fs.names.Nodup/\fs.W/\H t=some (.tup [.str x,v])/\Own H v d fp/\iT fs x d/\d.dep<=n/\d.Sm/\∀H',Same H H'->Q .non H'
theorem KA.JR {H:Hp}:∀{u:V}{k:Kd},KA H u k->u≠ .non
 |_,.num,h=>by unfold KA at h;obtain⟨a,rfl,_⟩:=h;intro z;cases z
 |_,.gG,h=>by unfold KA at h;obtain⟨a,rfl,_⟩:=h;intro z;cases z
 |_,.gA _,h=>by unfold KA at h;obtain⟨a,b,vs,rfl,_⟩:=h;intro z;cases z
 |_,.rows _ _ _,h=>by unfold KA at h;obtain⟨a,b,vs,rfl,_⟩:=h;intro z;cases z
 |_,.tree _,h=>by unfold KA at h;obtain⟨a,b,rfl,_⟩:=h;intro z;cases z
 |_,.ia _,h=>by unfold KA at h;obtain⟨a,b,vs,rfl,_⟩:=h;intro z;cases z
theorem JS:gi ["fields","name","pair"] ["fields","name"] (fM (top 7)):=gw
theorem Di (T:Tb mg)(J:Dn K mg "kind_at" nB (top 7) L U):fm P w K mg base fw (1) L U nB (vc):=by
 refine J.F.ok JS λvs H Q E h=>?_;obtain⟨b,x,xs,fs,k,rfl,hb,ab,ae,Y,q⟩:=h;refine⟨rfl,λag A outer s nd hr hu=>?_⟩
 refine⟨_,(e_ (iz PassesOwn.never rfl (jE (pv 0)) (gu (i:=2) nd rfl gQ) (fx (f7 (fY gx (fy (pv 2) b_) (pv 1) (fV _)) (fx (fE (fy (pv 2) b_))) f9)))
  (fx (fE jq))),?_⟩
 ac_rfl
 refine⟨_,rfl,b,rfl,⟨_,d_.of hb⟩,l4 (xs:=xs) (λi σ H'=>H'=H/\(∃z,σ=[some (.ref b),some (.str x),z])/\∀j,j<i->fs.names[j]? ≠some x) ⟨rfl,⟨_,rfl⟩,λj hj=>absurd hj (by omega)⟩ ?_ ?_ ?_⟩
 . rintro i σ H' _ ⟨rfl,_⟩;exact d_.of hb
 . rintro i v σ H' hv ⟨rfl,⟨z,rfl⟩,aa⟩;obtain⟨c,u,nm,k',rfl,ac,hc,hk⟩:=FA.get fs ab hv;have af:fs.names[i]? =some nm:=by rw[Fs.jJ,ac];rfl
   refine⟨_,rfl,c,_,_,_,rfl,rfl,d_.of hc,rfl,_,rfl,rfl,_,rfl,gO (λcc=>?_) (λcc=>?_)⟩
   . have e:nm=x:=by
      have:=of_decide_eq_true cc;injection this
     subst e;have ek:=Fs.md ae ac;rw[Y] at ek
     cases ek;exact⟨_,rfl,c,_,_,_,rfl,rfl,d_.of hc,rfl,q u hk hk.JR⟩
   . refine⟨rfl,⟨_,rfl⟩,λj hj=>?_⟩;by_cases e:j<i
     . exact aa j e
     . have:j=i:=by omega
       subst this;rw[af];intro z
       cases z;exact cc (decide_eq_true rfl)
 . rintro σ H' ⟨rfl,_,aa⟩;obtain⟨j,hj,e⟩:=Q0v (Fs.get_mem Y);exact absurd (by rw[Q03 hj,e]) (aa j (by rw[FA.len fs ab];exact hj))
theorem JT:gi ["value"] ["value"] (fM (top 15)):=gw
theorem JU (T:Tb mg)(J:Dn K mg "is_pair" nE (top 15) L U):fm P w K mg base fw (1) L U nE (vd):=by
 refine J.F.ok JT λvs H Q E h=>?_;obtain⟨a,x,y,rfl,Y,q⟩:=h;refine⟨rfl,λaa A outer s nd hr hu=>?_⟩;refine⟨_,(fx (fE (lZ (gL jx (by rfl) T.jz boot_isinstance (a_ (pv 0) (a_ (jr (v:=.ty "tuple") rfl T.oG boot_tuple rfl) c_))) (lY (ki gx (gL jj (by rfl) T.iM PySem.boot_len (a_ (pv 0) c_)) b_ (fV _)))))),?_⟩
 ac_rfl
 refine⟨_,rfl,_,_,_,true,rfl,.tup Y,rfl,true,rfl,ig ?_⟩;exact⟨_,rfl,a,_,rfl,.inr (d_.of Y),rfl,q⟩
theorem JV:gi XR XR (fM (top 13)):=gw
theorem JW (T:Tb mg)(J:Dn K mg "has_just" j9 (top 13) L U):fm P w K mg base fw (1) L U j9 (Df):=by
 refine J.F.ok JV λvs H Q E h=>?_;obtain⟨b,a,xs,kvs,fs,m,fp,rfl,hb,Y,ac,hx,ha,hO,hF,q⟩:=h;refine⟨rfl,λaf A outer s nd hr hu=>?_⟩;refine⟨_,(fx (fE (lZ (ki gx (gL Bm (by rfl) T.iM PySem.boot_len (a_ (pv 1) c_)) (gL jj (by rfl) T.iM PySem.boot_len (a_ (pv 0) c_)) (fV _)) (lY (gL (qY rfl) (by rfl) T.rH boot_all (a_ (ma (g:=(qN K 2 (mR (iB 0) (mR (iB 1) qM)))) (tt:=kY) (te:=_) (own:=["name","inner"]) rfl (jY (N:=XR) (sc:=fM (top 13))) (jE (pv 0)) (λ_ _ _ _ _=>(jD rfl (ie (gu (i:=0) (show(["name","inner","fields","record"]:List Str).Nodup by decide +kernel) rfl (Or.inl rfl) (.inr rfl)) (ie (gu (i:=1) (show(["name","inner","fields","record"]:List Str).Nodup by decide +kernel) rfl (Or.inl rfl) (.inr rfl)) jC)))) (λ_ _ _ _ _=>l_) (λ_ _ _ _ _=>(F9 (ui hu (pv 0) (pv 3)) (by with_unfolding_all rfl)))) c_)))))),?_⟩
 ac_rfl
 have e1:kvs.length=xs.length:=by rw[fj.len hO,FA.len fs Y,hF.1]
 have ag:xs.length<=12:=by rw[FA.len fs Y];exact hx
 refine⟨_,rfl,a,_,rfl,ha,_,rfl,b,_,rfl,.inr (d_.of hb),rfl,_,rfl,?_⟩;rw[decide_eq_true (show V.int (kvs.length:Nat)=V.int (xs.length:Nat) by rw[e1])];refine ig ?_;refine⟨_,rfl,b,rfl,⟨_,d_.of hb⟩,λi m ys H'=>H'=H/\m=xs.length - i/\i<=xs.length/\ys=(List.replicate i true).map V.bl,⟨xs.length,rfl,by simp,Q0a _,rfl⟩,?_⟩;rintro i m ys H' ⟨rfl,rfl,hi,rfl⟩;by_cases aa:i<xs.length
 . refine .inr ⟨⟨xs,xs[i],d_.of hb,by simp[aa]⟩,by rw[Q05,Q2b];exact g_ (by omega),λx H' y=>?_⟩;obtain⟨rfl,y⟩:=y;have hv:=y xs (d_.of hb);obtain⟨c,u,nm,k,rfl,ae,hc,hk⟩:=FA.get fs Y hv;obtain⟨d,hd,_⟩:=hF.2 _ _ (Fs.md ac ae);obtain⟨v,f,ab,_⟩:=fj.val _ hO hd;refine⟨c,_,rfl,d_.of hc,rfl,_,_,rfl,_,_,rfl,rfl,rfl,yes (ig ?_)⟩;refine⟨_,rfl,_,rfl,a,_,rfl,gI.k (k:=Sum.inr nm) ha,?_⟩;rw[ab];refine⟨xs.length - (i+1),by omega,rfl,rfl,aa,?_⟩;rw[List.replicate_succ',Q0i];rfl
 . refine .inl ⟨⟨xs,d_.of hb,Q1e aa⟩,λp hp=>⟨p,List.replicate i true,rfl,fv.of fA,?_⟩⟩
   have e:(List.replicate i true).all id=true:=by
    rw[Q0x];intro z hz;rw[Q39 hz];rfl
   rw[e];exact q _ (Same.new hp)
theorem JX:gi ["fields","record","name","inner","place"] XR (fM (top 12)):=gw
theorem JY (n:Nat)(T:Tb mg)(J:Dn K mg "record_misfit" j9 (top 12) L U)(Y:Dn K mg "has_just" j9 (top 13) aa ab)(ac:fm P w K mg base fw (1) aa ab j9 (Df))(ae:Dn K mg "misfit" jO (top 11) af ag)(ah:fm P w K mg base fw (4 * n+3) af ag jO (nL n)):fm P w K mg base fw (4 * n+4) L U j9 (ve n):=by
 refine J.F.ok JX λvs H Q E h=>?_;obtain⟨b,a,xs,kvs,fs,m,fp,rfl,hb,ai,aj,hx,ao,ha,hO,hF,ap,aq,q⟩:=h;refine⟨rfl,λar A outer s nd hr hu=>?_⟩
 refine⟨_,(e_ (f7 (PW.pt (kg (i7 (iR (gL jx (by rfl) T.jz boot_isinstance (a_ (pv 1) (a_ (jr (v:=.ty "dict") rfl T.oH boot_dict rfl) c_))))) (kf (i7 (iR (fL ac hr Y (a_ (pv 0) (a_ (pv 1) c_)))))))) (fx (fE (iw c_))) f9)
  (e_ (iz PassesOwn.never rfl (jE (pv 0)) (jD rfl (ie (gu (i:=2) nd rfl gQ) (ie (gu (i:=3) nd rfl gQ) jC))) (e_ (fN 4 nd (fL ah hr ae (a_ (pv 3) (a_ (iA hu (pv 1) (pv 2) (λ_ _=>rfl)) c_))))
  (fx (f7 (fY mY (pv 4) jq (fV _)) (fx (fE ni)) f9))))
  (fx (fE jq)))),?_⟩
 ac_rfl
 refine⟨_,rfl,_,_,_,true,rfl,.dK ha,rfl,true,rfl,gR ?_⟩;refine⟨_,rfl,_,rfl,b,a,xs,kvs,fs,m,fp,rfl,hb,ai,aj,hx,ha,hO,hF,λH1 s1=>⟨true,rfl,gR ?_⟩⟩;refine⟨_,rfl,b,rfl,⟨_,d_.of (s1 _ _ hb)⟩,l4 (xs:=xs) (λi σ H'=>Same H H'/\∃x y z,σ=[some (.ref b),some (.ref a),x,y,z]) ⟨s1,_,_,_,rfl⟩ ?_ ?_ ?_⟩
 . rintro i σ H' _ ⟨s2,_⟩;exact d_.of (s2 _ _ hb)
 . rintro i v σ H' hv ⟨s2,x,y,z,rfl⟩;obtain⟨c,u,nm,k,rfl,ak,hc,hk⟩:=FA.get fs ai hv;obtain⟨d,hd,al⟩:=hF.2 _ _ (Fs.md aj ak);obtain⟨e,f,am,an,_⟩:=fj.val _ hO hd;refine⟨c,_,rfl,d_.of (s2 _ _ hc),rfl,_,_,rfl,_,_,rfl,rfl,?_⟩;refine⟨_,rfl,_,rfl,_,rfl,a,e,rfl,(by have:=gI.k (k:=Sum.inr nm) (s2 _ _ ha);rw[am] at this;exact this),u,e,k,d,f,rfl,KA.mono (Tu.of s2) k hk,Fs.kr ao ak,Own.same s2 an,my.of al,Q0c (Ds.oF hd) ap,Ds.p8 aq hd,λH3 s3=>?_⟩;refine⟨_,rfl,rfl,_,rfl,?_⟩;rw[decide_eq_true rfl];refine gR ?_;exact⟨s2.trans s3,_,_,_,rfl⟩
 . rintro σ H' ⟨s2,_⟩;exact q _ s2
theorem JZ:gi ["kind","rows","earlier","number","row","place"] Xg (fM (top 14)):=gw
theorem J0 (n:Nat)(T:Tb mg)(aa:Dn K mg "rows_misfit" lJ (top 14) ab ac)(J:Dn K mg "record_misfit" j9 (top 12) L U)(Y:fm P w K mg base fw (4 * n+4) L U j9 (ve n))(aj:Dn K mg "rank" pV (top 20) au av)(ak:fm P w K mg base fw (1) au av pV (oN)):fm P w K mg base fw (4 * n+5) ab ac lJ (Dg n):=by
 refine aa.F.ok JZ λvs H Q E h=>?_;obtain⟨pk,pb,a,xs,key,by_,fs,ys,rs,fl,rfl,ai,aI,aJ,hW,ha,an,ae,az,aK,aL,aM,a1,q⟩:=h;refine⟨rfl,λa4 A outer s nd hr hu=>?_⟩;have aN:=hr.AX;unfold Kd.W at hW;obtain⟨aO,aP,aQ,ah,ap⟩:=hW
 refine⟨_,(e_ (f7 (i7 (iR (gL jx (by rfl) T.jz boot_isinstance (a_ (pv 1) (a_ (jr (v:=.ty "list") rfl T.pS boot_list rfl) c_))))) (fx (fE (iw c_))) f9)
  (e_ (fN 2 nd oj)
  (e_ (iz PassesOwn.never rfl (uq rfl T.uP (a_ (pv 1) c_)) (jD rfl (ie (gu (i:=3) nd rfl gQ) (ie (gu (i:=4) nd rfl gQ) jC))) (e_ (fN 5 nd (fL Y hr J (a_ (fy (pv 0) b_) (a_ (pv 4) c_))))
  (e_ (f7 (fY mY (pv 5) jq (fV _)) (fx (fE ni)) f9)
  (e_ (f7 (PW.pt (lX (fY n_ (pv 3) b_ (fV _)) (mP (fY (II aN) (fL ak hr aj (a_ (pv 0) (a_ (pv 4) c_))) (fL ak hr aj (a_ (pv 0) (a_ (jA (pv 1) (fH l7 (pv 3) b_)) c_))) (fV _))))) (fx (fE ni)) f9)
  (e_ (f7 (qI (ui hu (iA hu (pv 4) (fy (pv 0) b_) (λ_ _=>rfl)) (pv 2)) (by with_unfolding_all rfl)) (fx (fE ni)) f9)
  (fx (kU hu (pv 2) (iA hu (pv 4) (fy (pv 0) b_) (λ_ _=>rfl)) jb rfl)))))))
  (fx (fE jq))))),?_⟩
 ac_rfl
 refine⟨_,rfl,_,_,_,true,rfl,.lst ha,rfl,true,rfl,gR ?_⟩;intro p hp;have s0:Same H (upd H p (.dK [])):=Same.new hp;obtain⟨a2,a3⟩:=A3.len an;refine⟨_,rfl,a,rfl,⟨_,fv.of (s0 _ _ ha)⟩,u_ (xs:=ys) (λi σ H'=>∃x y z ek,σ=[some (.ref pk),some (.ref a),some (.ref p),x,y,z]/\Same H H'/\H' p=some (.dK ek)/\ek.map (·.1)=(rs.take i).map λm=>keyOf m key) ⟨_,_,_,[],rfl,s0,fA,rfl⟩ ?_ ?_ ?_⟩
 . intro i σ H' _ zq;obtain⟨x,y,z,ek,rfl,s2,_⟩:=zq;exact fv.of (s2 _ _ ha)
 . rintro i yv σ H' t hy ⟨x,y,z,ek,rfl,s2,aT,ax⟩ ht;have hi:i<ys.length:=(List.getElem?_eq_some_iff.mp hy).1;have st:Same H' (upd H' t (.tup [.int i,yv])):=Same.new ht;have s3:=s2.trans st
   have row:∀j,j<ys.length->∃rr kvs fq,ys[j]? =some (.ref rr)/\H rr=some (.dK kvs)/\fj H kvs (rs.getD j .nil) fq/\rs.getD j .nil∈rs:=λj hj=>by
    have h:=A3.at (a0:=V.non) (b0:=Ds.nil) (c0:=[]) an j hj;unfold Own at h;obtain⟨rr,kvs,fq,e,al,_,am⟩:=h;refine⟨rr,kvs,fq,?_,al,am,?_⟩
    . rw[<-e,Q0b,Q03 hj];rfl
    . rw[Q0b,Q03 (by omega)];exact Q11 _
   obtain⟨rr,kvs,fq,aA,al,am,af⟩:=row i hi;rw[hy] at aA
   cases aA;have aB:upd H' t (.tup [.int i,.ref rr]) p=some (.dK ek):=st _ _ aT
   have gk:∀H4,Same H H4->gI H4 rr (.str key) (some (kV (keyOf (rs.getD i .nil) key))):=λH4 s4=>by
    have:=gI.k (k:=Sum.inr key) (s4 _ _ al);rw[am.nJ (ae _ af).2 ah] at this;exact this
   refine⟨t,_,rfl,d_.of fA,rfl,_,_,rfl,_,_,rfl,rfl,?_⟩;refine⟨_,rfl,pk,_,_,_,rfl,rfl,d_.of (s3 _ _ ai),rfl,_,rfl,pb,rr,xs,kvs,fs,_,fq,rfl,s3 _ _ aI,FA.mono (Tu.of s3) fs aJ,aO,aP,aQ,s3 _ _ al,fj.same s3 am,ae _ af,aL _ af,aM _ af,λH4 s4=>?_⟩;have ag:=s3.trans s4;refine⟨_,rfl,rfl,_,rfl,?_⟩;rw[decide_eq_true rfl];refine gR ?_
   have aq:gH ek (keyOf (rs.getD i .nil) key)=none:=by
    have sv:=C4 ax (keyOf (rs.getD i .nil) key)
    have:mf key (rs.take i) (keyOf (rs.getD i .nil) key)=false:=by
     cases z:mf key (rs.take i) (keyOf (rs.getD i .nil) key) with
     |false=>rfl
     |true=>
      obtain⟨m,hm,e⟩:=List.any_eq_true.mp z;have e:=of_decide_eq_true e;obtain⟨j,hj,ej⟩:=Q0v hm;rw[Q0o] at hj;rw[Q1t] at ej;have aC:i<rs.length:=by omega
      have e2:rs.getD i .nil=rs[i]:=by rw[Q0b,Q03 aC];rfl
      have:=List.pairwise_iff_getElem.mp (List.pairwise_map.mp aK) j i (by omega) aC (by omega);rw[ej,<-e2] at this;exact absurd e this
    rw[this] at sv
    cases z:gH ek (keyOf (rs.getD i .nil) key) with
    |none=>rfl
    |some o=>rw[z] at sv;cases sv
   have fin:∀H5,Same (upd H' t (.tup [.int i,.ref rr])) H5->∀(DD:Ends),DD.nx=(λσ H'=>∃x y z ek,σ=[some (.ref pk),some (.ref a),some (.ref p),x,y,z]/\Same H H'/\H' p=some (.dK ek)/\ek.map (·.1)=(rs.take (i+1)).map λm=>keyOf m key)->∀z':Option V,
    DD.nx [some (.ref pk),some (.ref a),some (.ref p),some (.int i),some (.ref rr),z'] (upd H5 p (.dK (ek++[(keyOf (rs.getD i .nil) key,.bl true)]))):=λH5 s5 DD aU z'=>by
    rw[aU];refine⟨_,_,_,_,rfl,λc o e=>?_,fA,?_⟩
    . rw[fk (fJ e hp)];exact s5 _ _ (s3 _ _ e)
    . rw[Q0i,ax,Q0l,Q0i];congr 1;rw[Q03 (by omega),Q0b,Q03 (by omega)];rfl
   have aw:ek.length<sizeLine:=by
    have e1:=congrArg List.length ax;rw[Q05,Q05,Q0o] at e1;have:=hr.AX;exact g_ (by omega)
   refine⟨_,rfl,_,_,rfl,rfl,_,rfl,gO (λc=>?_) (λc=>gR ?_)⟩
   . have a5:0<i:=by
      have:(0:Int)<(i:Int):=of_decide_eq_true c;omega
     obtain⟨rp,aV,aW,aG,aX,aH,ao⟩:=row (i - 1) (by omega);refine⟨_,rfl,_,rfl,pk,rr,pb,key,by_,fs,kvs,_,fq,rfl,ag _ _ ai,ag _ _ al,fj.same ag am,(ae _ af).2,ah,ap,λt1 ht1=>?_⟩;have ay:Same H4 (upd H4 t1 (.tup ((rankOf key by_ (rs.getD i .nil)).map kV))):=Same.new ht1;have s5:=ag.trans ay
     have aY:iC ys ((i:Int) - 1)=some (.ref rp):=by
      have e:(i:Int) - 1=((i - 1:Nat):Int):=by omega
      rw[e];exact jX aG
     refine⟨_,rfl,_,rfl,_,rfl,_,_,rfl,rfl,a,_,_,_,rfl,rfl,fv.of (s5 _ _ ha),aY,pk,rp,pb,key,by_,fs,aV,_,aW,rfl,s5 _ _ ai,s5 _ _ aX,fj.same s5 aH,(ae _ ao).2,ah,ap,λt2 k9=>?_⟩;have ar:Same (upd H4 t1 (.tup ((rankOf key by_ (rs.getD i .nil)).map kV))) (upd (upd H4 t1 (.tup ((rankOf key by_ (rs.getD i .nil)).map kV))) t2 (.tup ((rankOf key by_ (rs.getD (i - 1) .nil)).map kV))):=Same.new k9;have s6:=s5.trans ar
     have aZ:gU (rankOf key by_ (rs.getD (i - 1) .nil)) (rankOf key by_ (rs.getD i .nil))=true:=by
      have ge:∀j (h:j<rs.length),rs.getD j .nil=rs[j]:=λj h=>by rw[Q0b,Q03 h];rfl
      rw[ge (i - 1) (by omega),ge i (by omega)];exact List.pairwise_iff_getElem.mp az (i - 1) i (by omega) (by omega) (by omega)
     refine⟨t1,t2,_,_,rfl,rfl,d_.of (ar _ _ fA),d_.of fA,(u0 (ae _ af).2 ah ap).trans (u0 (ae _ ao).2 ah ap).symm,_,rfl,?_⟩;rw[aZ];refine gR ?_;have aD:=ar _ _ (ay _ _ (s4 _ _ aB));refine⟨_,rfl,_,rfl,pk,_,_,_,rfl,rfl,d_.of (s6 _ _ ai),rfl,rr,_,rfl,gk _ s6,_,rfl,p,_,rfl,gI.k aD,_,rfl,?_⟩;rw[aq];refine gR ?_;refine⟨_,rfl,_,rfl,_,rfl,pk,_,_,_,rfl,rfl,d_.of (s6 _ _ ai),rfl,rr,_,rfl,gk _ s6,p,_,rfl,ju.k aD aw,?_⟩;rw[nz aq];exact fin _ (s4.trans (ay.trans ar)) _ rfl _
   . have aE:=s4 _ _ aB;refine⟨_,rfl,_,rfl,pk,_,_,_,rfl,rfl,d_.of (ag _ _ ai),rfl,rr,_,rfl,gk _ ag,_,rfl,p,_,rfl,gI.k aE,_,rfl,?_⟩;rw[aq];refine gR ?_;refine⟨_,rfl,_,rfl,_,rfl,pk,_,_,_,rfl,rfl,d_.of (ag _ _ ai),rfl,rr,_,rfl,gk _ ag,p,_,rfl,ju.k aE aw,?_⟩;rw[nz aq];exact fin _ s4 _ rfl _
 . intro σ H' zq;obtain⟨x,y,z,ek,rfl,s2,_⟩:=zq;exact q _ s2
theorem Dj:gi ["kind","tree","place","number","arm"] ["kind","tree"] (fM (top 16)):=gw
theorem J1 (T:Tb mg)(J:Dn K mg "tree_misfit" lK (top 16) L U):fm P w K mg base fw (4 * 0+2) L U lK (p_ 0):=by
 refine J.F.ok Dj λvs H Q E h=>?_;obtain⟨a,u,v,k,d,fp,rfl,_,_,_,_,_,Y,_⟩:=h;refine⟨rfl,λaa A outer s nd hr hu=>?_⟩;exact absurd Y (by have:=d.k6;omega)
theorem J3 (n:Nat)(T:Tb mg)(J:Dn K mg "tree_misfit" lK (top 16) L U)(Y:fm P w K mg base fw (4 * n+2) L U lK (p_ n))(aa:Dn K mg "is_pair" nE (top 15) ab ac)(ae:fm P w K mg base fw (1) ab ac nE (vd))(af:Dn K mg "misfit" jO (top 11) ag ah)(ai:fm P w K mg base fw (4 * n+3) ag ah jO (nL n)):fm P w K mg base fw (4 * (n+1)+2) L U lK (p_ (n+1)):=by
 refine J.F.ok Dj λvs H Q E h=>?_;obtain⟨a,u,v,k,d,fp,rfl,ha,hk,hW,hO,mI,ap,al,q⟩:=h;refine⟨rfl,λaz A outer s nd hr hu=>?_⟩;obtain⟨x,y,t,as,rfl,aq,ar⟩:=mI.shape;obtain⟨c,v1,v2,f1,f2,rfl,hc,rfl,au,am⟩:=hO.pair;unfold Own at am;obtain⟨pl,ys,fq,rfl,aj,rfl,av⟩:=am;simp only[D.dep,Ds.dep] at ap;unfold D.Sm Ds.Sm at al;obtain⟨_,aw,an⟩:=al;unfold Ds.Sm at an;have ao:=an.1;unfold D.Sm at ao
 refine⟨_,(e_ (f7 (PW.pt (kg (i7 (iR (fL ae hr aa (a_ (pv 1) c_)))) (kf (i7 (iR (gL jx (by rfl) T.jz boot_isinstance (a_ (fy (pv 1) b_) (a_ (jr (v:=.ty "list") rfl T.pS boot_list rfl) c_)))))))) (fx (fE (iw c_))) f9)
  (e_ (fN 2 nd (fL ai hr af (a_ (fy (pv 0) b_) (a_ (fy (pv 1) b_) c_))))
  (e_ (f7 (fY mY (pv 2) jq (fV _)) (fx (fE ni)) f9)
  (e_ (iz PassesOwn.never rfl (uq rfl T.uP (a_ (fy (pv 1) b_) c_)) (jD rfl (ie (gu (i:=3) nd rfl gQ) (ie (gu (i:=4) nd rfl gQ) jC))) (e_ (fN 2 nd (fL Y hr J (a_ (pv 0) (a_ (pv 4) c_))))
  (fx (f7 (fY mY (pv 2) jq (fV _)) (fx (fE ni)) f9))))
  (fx (fE jq)))))),?_⟩
 ac_rfl
 refine⟨_,rfl,c,v1,.ref pl,rfl,hc,true,rfl,gR ?_⟩;refine⟨_,rfl,c,_,_,_,rfl,rfl,d_.of hc,rfl,_,_,_,true,rfl,.lst aj,rfl,true,rfl,gR ?_⟩;refine⟨_,rfl,a,_,_,_,rfl,rfl,d_.of ha,rfl,_,rfl,c,_,_,_,rfl,rfl,d_.of hc,rfl,u,v1,k,t,f1,rfl,hk,hW,au,my.of aq,by omega,aw,λH1 s1=>?_⟩;refine⟨_,rfl,rfl,_,rfl,?_⟩;rw[decide_eq_true rfl];refine gR ?_;refine⟨_,rfl,c,_,_,_,rfl,rfl,d_.of (s1 _ _ hc),rfl,pl,rfl,⟨_,fv.of (s1 _ _ aj)⟩,u_ (xs:=ys) (λi σ H'=>Same H H'/\∃x y z,σ=[some (.ref a),some (.ref c),x,y,z]) ⟨s1,_,_,_,rfl⟩ ?_ ?_ ?_⟩
 . rintro i σ H' _ ⟨s2,_⟩;exact fv.of (s2 _ _ aj)
 . rintro i yv σ H' tt hy ⟨s2,x,y,z,rfl⟩ ax;have st:Same H' (upd H' tt (.tup [.int i,yv])):=Same.new ax;have s3:=s2.trans st;obtain⟨d',f,ak,ay,_⟩:=fC.get _ av hy;have aA:=Ds.jK ak;refine⟨tt,_,rfl,d_.of fA,rfl,_,_,rfl,_,_,rfl,rfl,?_⟩;refine⟨_,rfl,_,rfl,a,u,yv,k,d',f,rfl,s3 _ _ ha,KA.mono (Tu.of s3) k hk,hW,Own.same s3 ay,iL.at ar ak,by omega,Ds.r_ ao.2 ak,λH4 s4=>?_⟩;refine⟨_,rfl,rfl,_,rfl,?_⟩;rw[decide_eq_true rfl];refine gR ?_;exact⟨s3.trans s4,_,_,_,rfl⟩
 . rintro σ H' ⟨s2,_⟩;exact q _ s2
theorem J4:gi ["fields","value","inner","place"] ["fields","value"] (fM (top 17)):=gw
theorem J5 (n:Nat)(T:Tb mg)(J:Dn K mg "either_misfit" pW (top 17) L U)(Y:Dn K mg "is_pair" nE (top 15) aa ab)(ac:fm P w K mg base fw (1) aa ab nE (vd))(ae:Dn K mg "kind_at" nB (top 7) af ag)(ah:fm P w K mg base fw (1) af ag nB (vc))(ai:Dn K mg "misfit" jO (top 11) aj ak)(al:fm P w K mg base fw (4 * n+3) aj ak jO (nL n)):fm P w K mg base fw (4 * n+4) L U pW (Dh n):=by
 refine J.F.ok J4 λvs H Q E h=>?_;obtain⟨b,t,x,v,xs,fs,d,fp,rfl,hb,ao,ap,aq,ht,hO,hE,ar,au,q⟩:=h;refine⟨rfl,λaw A outer s nd hr hu=>?_⟩
 refine⟨_,(e_ (f7 (i7 (iR (fL ac hr Y (a_ (pv 1) c_)))) (fx (fE (iw c_))) f9)
  (e_ (fN 2 nd (fL ah hr ae (a_ (pv 0) (a_ (fy (pv 1) b_) c_))))
  (e_ (f7 (fY GF (pv 2) jq (fV _)) (fx (fE (iw c_))) f9)
  (e_ (fN 3 nd (fL al hr ai (a_ (pv 2) (a_ (fy (pv 1) b_) c_))))
  (e_ (f7 (fY mY (pv 3) jq (fV _)) (fx (fE ni)) f9)
  (fx (fE jq))))))),?_⟩
 ac_rfl
 obtain⟨k,am,an⟩:=sg hE;refine⟨_,rfl,t,_,_,rfl,ht,true,rfl,gR ?_⟩;refine⟨_,rfl,_,rfl,t,_,_,_,rfl,rfl,d_.of ht,rfl,b,x,xs,fs,k,rfl,hb,ao,ap,am,λu hu av=>?_⟩;refine⟨_,rfl,rfl,_,rfl,?_⟩;rw[decide_eq_false av];refine gR ?_;refine⟨_,rfl,_,rfl,t,_,_,_,rfl,rfl,d_.of ht,rfl,u,v,k,d,fp,rfl,hu,Fs.si aq am,hO,my.of an,ar,au,λH1 s1=>?_⟩;refine⟨_,rfl,rfl,_,rfl,?_⟩;rw[decide_eq_true rfl];refine gR ?_;exact q _ s1
theorem Dk:gi ["kind","value","form"] ["kind","value"] (fM (top 11)):=gw
theorem J6 (T:Tb mg)(J:Dn K mg "misfit" jO (top 11) L U):fm P w K mg base fw (4 * 0+3) L U jO (nL 0):=by
 refine J.F.ok Dk λvs H Q E h=>?_;obtain⟨kv,v,k,d,fp,rfl,_,_,_,_,Y,_⟩:=h;refine⟨rfl,λaa A outer s nd hr hu=>?_⟩;exact absurd Y (by have:=d.k6;omega)
theorem J7 (n:Nat)(T:Tb mg)(ao:Dn K mg "misfit" jO (top 11) ap aq)(J:Dn K mg "record_misfit" j9 (top 12) L U)(Y:fm P w K mg base fw (4 * n+4) L U j9 (ve n))(af:Dn K mg "rows_misfit" lJ (top 14) ag ah)(ai:fm P w K mg base fw (4 * n+5) ag ah lJ (Dg n))(aj:Dn K mg "tree_misfit" lK (top 16) ak al)(am:fm P w K mg base fw (4 * (n+1)+2) ak al lK (p_ (n+1)))(aa:Dn K mg "either_misfit" pW (top 17) ab ac)(ae:fm P w K mg base fw (4 * n+4) ab ac pW (Dh n)):
 fm P w K mg base fw (4 * (n+1)+3) ap aq jO (nL (n+1)):=by
 refine ao.F.ok Dk λvs H Q E h=>?_;obtain⟨kv,v,k,d,fp,rfl,hk,hW,hO,hF,av,an,q⟩:=h;refine⟨rfl,λaC A outer s nd hr hu=>?_⟩
 refine⟨_,(e_ (fN 2 nd (fy (pv 0) b_))
  (e_ (f7 (fY gx (pv 2) gj (fV _)) (fx (fE (tN (PW.pt (lX (iR (gL jx (by rfl) T.jz boot_isinstance (a_ (pv 1) (a_ (jr (v:=.ty "int") rfl T.CF boot_int rfl) c_)))) (mP (i7 (iR (gL jx (by rfl) T.jz boot_isinstance (a_ (pv 1) (a_ (jr (v:=.ty "bool") rfl T.CG boot_bool rfl) c_)))))))) jq (iw c_)))) f9)
  (e_ (f7 (fY gx (pv 2) gj (fV _)) (fx (fE (tN (iR (gL jx (by rfl) T.jz boot_isinstance (a_ (pv 1) (a_ (jr (v:=.ty "str") rfl T.uQ boot_str rfl) c_)))) jq (iw c_)))) f9)
  (e_ (f7 (fY gx (pv 2) gj (fV _)) (fx (fE (fL Y hr J (a_ (fy (pv 0) b_) (a_ (pv 1) c_))))) f9)
  (e_ (f7 (fY gx (pv 2) gj (fV _)) (fx (fE (fL ai hr af (a_ (pv 0) (a_ (pv 1) c_))))) f9)
  (e_ (f7 (fY gx (pv 2) gj (fV _)) (fx (fE (fL am hr aj (a_ (pv 0) (a_ (pv 1) c_))))) f9)
  (fx (fE (fL ae hr aa (a_ (fy (pv 0) b_) (a_ (pv 1) c_))))))))))),?_⟩
 ac_rfl
 cases k with
 |num=>
  unfold KA at hk;obtain⟨a,rfl,ha⟩:=hk;change fU _ _ at hF;unfold fU at hF;obtain⟨z,rfl⟩:=hF;unfold Own at hO;obtain⟨rfl,rfl⟩:=hO;refine⟨_,rfl,a,_,_,_,rfl,rfl,d_.of ha,rfl,?_⟩;refine kZ rfl (by decide +kernel) ?_;refine⟨_,rfl,_,_,_,true,rfl,.int z,rfl,true,rfl,ig ?_⟩;refine⟨_,rfl,_,_,_,false,rfl,.int z,rfl,false,rfl,ig ?_⟩;exact q _ (Same.refl _)
 |gG=>
  unfold KA at hk;obtain⟨a,rfl,ha⟩:=hk;change fU _ _ at hF;unfold fU at hF;obtain⟨z,rfl⟩:=hF;unfold Own at hO;obtain⟨rfl,rfl⟩:=hO;refine⟨_,rfl,a,_,_,_,rfl,rfl,d_.of ha,rfl,?_⟩;refine h6 rfl (by decide +kernel) ?_;refine kZ rfl (by decide +kernel) ?_;refine⟨_,rfl,_,_,_,true,rfl,.str z,rfl,true,rfl,ig ?_⟩;exact q _ (Same.refl _)
 |gA fs=>
  unfold KA at hk;obtain⟨a,b,xs,rfl,ha,hb,ar⟩:=hk;obtain⟨m,rfl,hF⟩:=hF;unfold Own at hO;obtain⟨c,kvs,fq,rfl,hc,rfl,hO⟩:=hO;unfold Kd.W at hW;unfold D.Sm at an;simp only[D.dep] at av;refine⟨_,rfl,a,_,_,_,rfl,rfl,d_.of ha,rfl,?_⟩;refine h6 rfl (by decide +kernel) ?_;refine h6 rfl (by decide +kernel) ?_;refine kZ rfl (by decide +kernel) ?_;exact⟨_,rfl,a,_,_,_,rfl,rfl,d_.of ha,rfl,_,rfl,b,c,xs,kvs,fs,m,fq,rfl,hb,ar,hW.1,hW.2.1,hW.2.2,hc,hO,hF,by omega,an.2,q⟩
 |rows key by_ fs=>
  unfold KA at hk;obtain⟨a,b,xs,rfl,ha,hb,ar⟩:=hk;obtain⟨rs,rfl,az,aw,aA⟩:=hF;unfold Own at hO;obtain⟨c,ys,fq,rfl,hc,rfl,hO⟩:=hO;obtain⟨fl,au,rfl⟩:=fC.rows hO;unfold D.Sm at an;simp only[D.dep] at av;refine⟨_,rfl,a,_,_,_,rfl,rfl,d_.of ha,rfl,?_⟩;refine h6 rfl (by decide +kernel) ?_;refine h6 rfl (by decide +kernel) ?_;refine h6 rfl (by decide +kernel) ?_;refine kZ rfl (by decide +kernel) ?_;refine⟨_,rfl,_,rfl,a,b,c,xs,key,by_,fs,ys,rs,fl,rfl,ha,hb,ar,hW,hc,au,az,aw,aA,λm hm=>?_,λm hm=>?_,?_,q⟩
  . have:=u6 m hm;omega
  . have:=u4 an.2 m hm;unfold D.Sm at this;exact this.2
  . have h1:=(A3.len au).1;have h2:=an.1;rw[p9] at h2;omega
 |tree k=>
  unfold KA at hk;obtain⟨a,u,rfl,ha,hu⟩:=hk;change fU _ _ at hF;unfold fU at hF;unfold Kd.W at hW;refine⟨_,rfl,a,_,_,_,rfl,rfl,d_.of ha,rfl,?_⟩;refine h6 rfl (by decide +kernel) ?_;refine h6 rfl (by decide +kernel) ?_;refine h6 rfl (by decide +kernel) ?_;refine h6 rfl (by decide +kernel) ?_;refine kZ rfl (by decide +kernel) ?_;exact⟨_,rfl,_,rfl,a,u,v,k,d,fp,rfl,ha,hu,hW,hO,hF,av,an,q⟩
 |ia fs=>
  unfold KA at hk;obtain⟨a,b,xs,rfl,ha,hb,ar⟩:=hk;change fU _ _ at hF;unfold fU at hF;obtain⟨x,v',rfl,hE⟩:=hF;obtain⟨c,v1,v2,f1,f2,rfl,hc,rfl,ax,aB⟩:=hO.pair;unfold Own at ax;obtain⟨rfl,rfl⟩:=ax;unfold Kd.W at hW;simp only[D.dep,Ds.dep] at av;unfold D.Sm Ds.Sm at an;obtain⟨_,aD,ay⟩:=an;unfold Ds.Sm at ay;refine⟨_,rfl,a,_,_,_,rfl,rfl,d_.of ha,rfl,?_⟩;refine h6 rfl (by decide +kernel) ?_;refine h6 rfl (by decide +kernel) ?_;refine h6 rfl (by decide +kernel) ?_;refine h6 rfl (by decide +kernel) ?_;refine h6 rfl (by decide +kernel) ?_;exact⟨_,rfl,a,_,_,_,rfl,rfl,d_.of ha,rfl,_,rfl,b,c,x,v2,xs,fs,v',f2,rfl,hb,ar,hW.1,hW.2.2.2,hc,aB,hE,by omega,ay.1,q⟩
theorem Dl (T:Tb mg)(Y:Dn K mg "misfit" jO (top 11) ai aj)(J:Dn K mg "record_misfit" j9 (top 12) ak al)(ac:Dn K mg "has_just" j9 (top 13) aq ar)(aa:Dn K mg "rows_misfit" lJ (top 14) ao ap)(ah:Dn K mg "rank" pV (top 20) az aA)(L:Dn K mg "tree_misfit" lK (top 16) af ag)(ab:Dn K mg "is_pair" nE (top 15) au av)(U:Dn K mg "either_misfit" pW (top 17) am an)(ae:Dn K mg "kind_at" nB (top 7) aw ax):∀n:Nat,fm P w K mg base fw (4 * n+3) ai aj jO (nL n)/\fm P w K mg base fw (4 * n+2) af ag lK (p_ n)
 |0=>⟨J6 T Y,J1 T L⟩
 |n+1=>by
  obtain⟨M,Tr⟩:=Dl T Y J ac aa ah L ab U ae n;have Ip:=JU (P:=P) (w:=w) (base:=base) T ab;have R:=JY n T J ac (JW T ac) Y M;have Ro:=J0 n T aa J R ah (JM T ah);have ay:=J3 n T L Tr ab Ip Y M;have Ei:=J5 n T U ab Ip ae (Di T ae) Y M;exact⟨J7 n T Y J R aa Ro L ay U Ei,ay⟩
noncomputable def Ds.at2:Ds->Nat->Option (Str × D)
 | .nil,_=>none
 | .cons x d _,0=>some (x,d)
 | .cons _ _ r,i+1=>r.at2 i
theorem Ds.sj:∀{m:Ds}{i:Nat}{x:Str}{d:D},m.at2 i=some (x,d)->m.at i=some d
 | .nil,_,_,_,h=>by cases h
 | .cons y e r,0,x,d,h=>by cases h;rfl
 | .cons _ _ r,i+1,x,d,h=>Ds.sj (m:=r) (i:=i) h
theorem f6.at2:∀{fs:Fs}{m:Ds}{i:Nat}{x:Str}{k:Kd},f6 fs m->fs.at i=some (x,k)->∃d,m.at2 i=some (x,d)/\fU k d
 | .nil,_,_,_,_,_,h=>by cases h
 | .cons y q r,m,0,x,k,f,h=>by
   unfold f6 at f;obtain⟨d,t,rfl,J,L⟩:=f
   cases h;exact⟨d,rfl,J⟩
 | .cons y q r,m,i+1,x,k,f,h=>by
   unfold f6 at f;obtain⟨d,t,rfl,J,L⟩:=f;exact f6.at2 (fs:=r) (i:=i) L h
theorem Ds.sr:∀{m:Ds}{i:Nat}{x:Str}{d:D},m.names.Nodup->m.at2 i=some (x,d)->m.get x=some d
 | .nil,_,_,_,_,h=>by cases h
 | .cons y e r,0,x,d,_,h=>by
   cases h;simp[Ds.get]
 | .cons y e r,i+1,x,d,nd,h=>by
   have nd:(y::r.names).Nodup:=nd;obtain⟨L,n2⟩:=List.nodup_cons.mp nd;have h:r.at2 i=some (x,d):=h;have J:=Ds.sr n2 h
   have U:x∈r.names:=by
    have key:∀{r:Ds} {i:Nat},r.at2 i=some (x,d)->x∈r.names:=by
     intro r
     induction r using Ds.rec (motive_1:=λ_=>True) with
     |int _=>trivial
     |str _=>trivial
     |non=>trivial
     |boo _=>trivial
     |tup _ _=>trivial
     |lst _ _=>trivial
     |dct _ _=>trivial
     |nil=>intro i h;cases h
     |cons y e r _ J=>
      intro i h
      cases i with
      |zero=>cases h;exact Q01
      |succ i=>exact Q04 _ (J h)
    exact key h
   show(if x=y then some e else r.get x)=some d;rw[if_neg (λe=>L (by rw[<-e];exact U))];exact J
theorem qa:∀{l:List Ds}{i:Nat}{d:D},(gm l).at i=some d->∃m∈l,d=.dct m
 |[],_,_,h=>by cases h
 |m::r,0,_,h=>by cases h;exact⟨m,Q01,rfl⟩
 |m::r,i+1,d,h=>by
  obtain⟨J,h1,h2⟩:=qa (l:=r) (i:=i) h;exact⟨J,Q04 _ h1,h2⟩
noncomputable def Ds.upd:Ds->Str->D->Ds
 | .nil,_,_=>.nil
 | .cons y d r,x,e=>.cons y (if y=x then e else d) (r.upd x e)
theorem Ds.vf:∀(m:Ds) (x:Str) (e:D),(m.upd x e).names=m.names
 | .nil,_,_=>rfl
 | .cons y d r,x,e=>by
   show y::(r.upd x e).names=_;rw[Ds.vf r x e];rfl
theorem Ds.oO {x z:Str}(h:z≠x)(e:D):∀(m:Ds),(m.upd x e).get z=m.get z
 | .nil=>rfl
 | .cons y d r=>by
   show(if z=y then some (if y=x then e else d) else(r.upd x e).get z)=(if z=y then some d else r.get z);by_cases c:z=y
   . rw[if_pos c,if_pos c,if_neg (λq=>h (c.trans q))]
   . rw[if_neg c,if_neg c,Ds.oO h e r]
theorem Ds.Dr {x:Str}(e:D):∀{m:Ds},x∈m.names->(m.upd x e).get x=some e
 | .nil,h=>by simp[Ds.names] at h
 | .cons y d r,h=>by
   show(if x=y then some (if y=x then e else d) else(r.upd x e).get x)=some e;by_cases c:x=y
   . rw[if_pos c,if_pos c.symm]
   . rw[if_neg c];rcases List.mem_cons.mp (show x∈y::r.names from h) with q|q
     . exact absurd q c
     . exact Ds.Dr e q
theorem Ds.lN:∀{xs:Ds}{i:Nat}{d:D},xs.at i=some d->i<xs.len
 | .nil,_,_,h=>by cases h
 | .cons x d r,0,_,_=>by show 0<r.len+1;omega
 | .cons x d r,i+1,_,h=>by
   have:=Ds.lN (xs:=r) (i:=i) h;show i+1<r.len+1;omega
end Pb
namespace L2
open Spec PyProof.Rows
structure oP (A:Around) (s:Shared) (a b:Addr) (n:Nat) (e:Nat->Bool):Prop where
 na:(a == sysModules)=false
 nb:(b == sysModules)=false
 ex:∃oa ob ea eb pa pb,s.heap.get? a=some oa/\s.heap.get? b=some ob/\oa.ExactDict/\ob.ExactDict/\oa.data=.dict ea pa/\ob.data=.dict eb pb/\
  ea.size=eb.size/\ea.size=n/\(eb.all λe=>isExactStrKey e.key)=true/\
  ∀(i:Nat) (h:i<ea.size) (h':i<eb.size),∃x t,ea[i].key=.str x t/\eb.findIdx? (λe=>e.key.isStr x)=some i/\SeqAt.EqAt A s ea[i].val eb[i].val (e i)
theorem J8 {n:Nat}{e:Nat->Bool}(h:∀j,j<n->e j=true):(List.range n).all e=true:=List.all_eq_true.mpr λj J=>h j (List.mem_range.mp J)
theorem J9 {n i:Nat}{e:Nat->Bool}(hi:i<n)(h:e i=false):(List.range n).all e=false:=by
 cases z:(List.range n).all e with
 |false=>rfl
 |true=>
  have:=List.all_eq_true.mp z i (List.mem_range.mpr hi);rw[h] at this;cases this
theorem Dt {prog:Program}{w:World}{A:Around}{E:Value->Shared->Prop}{s:Shared}{nm:String}{a b:Addr}{n:Nat}{e:Nat->Bool}{Q:Bool->Shared->Prop}(h:oP A s a b n e)(q:Q ((List.range n).all e) s):
 wpAny (model prog w) A (Builtin.Dict.samePairs nm a b) Q E s:=by
 obtain⟨na,nb,oa,ob,J,U,pa,pb,ha,hb,xa,xb,da,db,hsz,hn,ac,ab⟩:=h;obtain⟨ca,fa,ta,la⟩:=oa;obtain⟨cb,fb,tb,lb⟩:=ob;have da:ta=.dict J pa:=da;have db:tb=.dict U pb:=db;subst da;subst db;subst hn;unfold Builtin.Dict.samePairs Builtin.Dict.showsAll;simp only[na,nb,Std.Legacy.Range.forIn_eq_forIn_range']
 wp_walk
 refine wpAny_forIn_list _ (λrest b s'=>s'=s/\b=(none,())/\∃i,i+rest.length=J.size/\rest=List.range' i rest.length/\∀j,j<i->e j=true) _ ?_ ?_ _ _ ⟨rfl,rfl,0,?_,?_,λj Y=>absurd Y (Q16 _)⟩
 . intro i rest _ _ zq;obtain⟨rfl,rfl,j,Y,hr,L⟩:=zq;rw[Q0k] at Y hr;rw[List.range'_succ] at hr;obtain⟨rfl,hr⟩:=List.cons.inj hr;have h1:i<J.size:=by omega
   have h2:i<U.size:=by omega
   obtain⟨x,t,hk,hf,he⟩:=ab i h1 h2;have g1:J[i]? =some J[i]:=Q1y h1;have g2:U[i]? =some U[i]:=Q1y h2;generalize J[i]=e1 at g1 hk he;obtain⟨hh,kk,vv⟩:=e1;have hk:kk=.str x t:=hk;subst hk;generalize U[i]=e2 at g2 he
   wp_walk
   rw[g1];refine Q00 (wpAny_holding ?_);refine Q00 (KTD.kt_dictFind_strs hb rfl ac ?_);rw[hf]
   wp_walk
   rw[g2];refine wpAny_holding ?_;refine he _ _ _ _ ?_
   cases aa:e i with
   |true=>
    wp_walk
    exact⟨rfl,rfl,i+1,by omega,hr,λj Y=>by
     by_cases z:j=i
     . rw[z];exact aa
     . exact L j (by omega)⟩
   |false=>
    rw[J9 h1 aa] at q
    wp_walk
    exact q
 . intro _ _ zq;obtain⟨rfl,rfl,i,hi,_,L⟩:=zq;rw[J8 λj Y=>L j (by simp at hi;omega)] at q
   wp_walk
   exact q
 . show 0+(List.range' 0 [:J.size].size).length=J.size;rw[List.length_range'];simp[Std.Legacy.Range.size]
 . rw[List.length_range']
theorem J_ (a b:Addr)(n:Nat)(e:Nat->Bool):Meets (Builtin.«dict.__eq__» { pos:=[.ref a,.ref b] }) (λA R s=>oP A.in1 s a b n e/\R (.ok (.ret (.bool ((List.range n).all e)))) s):=by
 rintro prog w A R s ⟨h,q⟩;obtain⟨oa,ob,ea,eb,pa,pb,U,Y,xa,xb,da,db,hsz,hn,aa,L⟩:=h.ex;have ta:s.TypeIs (.ref a) "dict":=⟨_,U,xa.1⟩;have tb:s.TypeIs (.ref b) "dict":=⟨_,Y,xb.1⟩;unfold Builtin.«dict.__eq__»;refine Q00 ?_;unfold Builtin.Dict.dictSlotArgs
 wp_walk
 rw[show isSubtype (Value.type "dict") (Value.type "dict")=pure true from by rfl];generalize J:Builtin.Dict.samePairs=SP
 wp_walk
 subst J;refine Dt h ?_
 wp_walk
 rw[show((List.range n).all e == true)=(List.range n).all e by cases(List.range n).all e <;> rfl];exact q
theorem Kb (a b:Addr)(n:Nat)(e:Nat->Bool):Meets (Builtin.«dict.__ne__» { pos:=[.ref a,.ref b] }) (λA R s=>oP A.in1 s a b n e/\R (.ok (.ret (.bool (!(List.range n).all e)))) s):=by
 rintro prog w A R s ⟨h,q⟩;obtain⟨oa,ob,ea,eb,pa,pb,U,Y,xa,xb,da,db,hsz,hn,aa,L⟩:=h.ex;have ta:s.TypeIs (.ref a) "dict":=⟨_,U,xa.1⟩;have tb:s.TypeIs (.ref b) "dict":=⟨_,Y,xb.1⟩;unfold Builtin.«dict.__ne__»;refine Q00 ?_;unfold Builtin.Dict.dictSlotArgs
 wp_walk
 rw[show isSubtype (Value.type "dict") (Value.type "dict")=pure true from by rfl];generalize J:Builtin.Dict.samePairs=SP
 wp_walk
 subst J;refine Dt h ?_
 wp_walk
 rw[show((List.range n).all e == false)= !(List.range n).all e by cases(List.range n).all e <;> rfl];exact q
theorem Kc {A:Around}{s:Shared}{a b:Addr}{n:Nat}{e:Nat->Bool}(h:oP A.in1 s a b n e)(J:A.units<cLine):SeqAt.RcAt A s (.ref a) (.ref b) ((List.range n).all e):=by
 intro prog w E Q q;obtain⟨oa,ob,ea,eb,pa,pb,L,U,Y,xb,_⟩:=h.ex;exact richCompare_meets_room (T:="dict") ⟨_,L,Y.1⟩ ⟨_,U,xb.1⟩ F.slot_dict_eq F.entry_dict_eq (F.args_dict_eq_2 _ _) (J_ a b n e) ⟨h,show _/\_ from⟨λz=>Value.noConfusion z,q⟩⟩ J
theorem Ke {A:Around}{s:Shared}{a b:Addr}{n:Nat}{e:Nat->Bool}(h:oP A.in1 s a b n e)(J:A.units<cLine):SeqAt.RcNeAt A s (.ref a) (.ref b) (!(List.range n).all e):=by
 intro prog w E Q q;obtain⟨oa,ob,ea,eb,pa,pb,L,U,Y,xb,_⟩:=h.ex;exact richCompare_meets_room (T:="dict") ⟨_,L,Y.1⟩ ⟨_,U,xb.1⟩ F.slot_dict_ne F.entry_dict_ne (F.args_dict_ne_2 _ _) (Kb a b n e) ⟨h,show _/\_ from⟨λz=>Value.noConfusion z,q⟩⟩ J
noncomputable abbrev su (J:Array Value) (n:Nat) (dd:Option Addr) (sl:Array (Option Value)):Obj:={ cls:=.type "tuple",dict:=dd,data:=.seq J n,slots:=sl }
section
variable {l b:Addr}{u v u' v':Value}{n n2:Nat}{dd dd2:Option Addr}{sl sl2:Array (Option Value)}
theorem Kf:Meets (Builtin.«tuple.__eq__» ⟨[.ref l,.ref b],[]⟩) (λA R s=>s.heap.get? l=some (su #[u,v] n dd sl)/\s.heap.get? b=some (su #[u',v'] n2 dd2 sl2)/\SeqAt.EqAt A.in1 s u u' false/\R (.ok (.ret (.bool false))) s):=
 .of_wp λprog w A R Y U=>by
   obtain⟨hp,g,d,tk,os⟩:=Y;obtain⟨hl,hb,he,hR⟩:=U;have ft:=AutoSeq1.sub_tuple_tuple
   wp_walk using wpAny_loadPart' hl,wpAny_loadPart' hb,wpAny_forIn_list _ (λrest c J=>c.1=none/\J=⟨hp,g,d,tk,os⟩/\rest=[(u,u'),(v,v')]) _
   case turn=>
    rintro⟨y,x⟩ rest c J ⟨_,rfl,L⟩;injection L with z1 _
    cases z1;refine Q00 (he prog w _ _ ?_)
    wp_walk
    exact⟨_,rfl,hR⟩
   case fin=>
    rintro c J ⟨_,_,L⟩
    cases L
   case h=>exact⟨rfl,rfl,rfl⟩
theorem Kg:Meets (Builtin.«tuple.__ne__» ⟨[.ref l,.ref b],[]⟩) (λA R s=>s.heap.get? l=some (su #[u,v] n dd sl)/\s.heap.get? b=some (su #[u',v'] n2 dd2 sl2)/\SeqAt.EqAt A.in1 s u u' false/\R (.ok (.ret (.bool true))) s):=
 .of_wp λprog w A R Y U=>by
   obtain⟨hp,g,d,tk,os⟩:=Y;obtain⟨hl,hb,he,hR⟩:=U;have ft:=AutoSeq1.sub_tuple_tuple
   wp_walk using wpAny_loadPart' hl,wpAny_loadPart' hb,wpAny_forIn_list _ (λrest c J=>c.1=none/\J=⟨hp,g,d,tk,os⟩/\rest=[(u,u'),(v,v')]) _
   case turn=>
    rintro⟨y,x⟩ rest c J ⟨_,rfl,L⟩;injection L with z1 _
    cases z1;refine Q00 (he prog w _ _ ?_)
    wp_walk
    exact⟨_,rfl,hR⟩
   case fin=>
    rintro c J ⟨_,_,L⟩
    cases L
   case h=>exact⟨rfl,rfl,rfl⟩
end
section
variable {A:Around}{s:Shared}{l b:Addr}{u v u' v':Value}
theorem Kh (hl:s.heap.IsTuple l #[u,v])(hb:s.heap.IsTuple b #[u',v'])(hu:A.units<cLine)(he:SeqAt.EqAt A.in1 s u u' false):SeqAt.RcAt A s (.ref l) (.ref b) false:=by
 intro prog w E Q q;obtain⟨⟨c1,d1,t1,s1⟩,g1,J,n1,L⟩:=hl;obtain⟨⟨c2,d2,t2,s2⟩,g2,U,n2,Y⟩:=hb;have J:c1=_:=J;have U:c2=_:=U;have L:t1=_:=L;have Y:t2=_:=Y;subst J U L Y;exact richCompare_meets_room (T:="tuple") ⟨_,g1,rfl⟩ ⟨_,g2,rfl⟩ F.slot_tuple_eq F.entry_tuple_eq (F.args_tuple_eq_2 _ _) Kf ⟨g1,g2,he,show _/\_ from⟨λz=>Value.noConfusion z,q⟩⟩ hu
theorem Ki (hl:s.heap.IsTuple l #[u,v])(hb:s.heap.IsTuple b #[u',v'])(hu:A.units<cLine)(he:SeqAt.EqAt A.in1 s u u' false):SeqAt.RcNeAt A s (.ref l) (.ref b) true:=by
 intro prog w E Q q;obtain⟨⟨c1,d1,t1,s1⟩,g1,J,n1,L⟩:=hl;obtain⟨⟨c2,d2,t2,s2⟩,g2,U,n2,Y⟩:=hb;have J:c1=_:=J;have U:c2=_:=U;have L:t1=_:=L;have Y:t2=_:=Y;subst J U L Y;exact richCompare_meets_room (T:="tuple") ⟨_,g1,rfl⟩ ⟨_,g2,rfl⟩ F.slot_tuple_ne F.entry_tuple_ne (F.args_tuple_ne_2 _ _) Kg ⟨g1,g2,he,show _/\_ from⟨λz=>Value.noConfusion z,q⟩⟩ hu
end
theorem vg {prog:Program}{w:World}:∀{es:List DictEntry}{vs:List (Key × Value)}{kvs:List (Key × V)}{xs:List Str},Pairs (h9 prog w) es vs->KV kvs vs->kvs.map (·.1)=xs.map Sum.inr->
 es.length=xs.length/\∀(i:Nat) (h:i<es.length),∃x t v,xs[i]? =some x/\es[i].key=.str x t/\kvs[i]? =some (Sum.inr x,v)/\RelV v es[i].val
 |_,_,kvs,xs,.nil,kv,J=>by
  cases kv
  have:xs=[]:=by cases xs with
   |nil=>rfl
   |cons _ _=>cases J
  subst this;exact⟨rfl,λi h=>absurd h (by simp)⟩
 |_,_,kvs,xs,.cons (e:=e) (kv:=L) h1 h2 r,kv,J=>by
  cases kv with
  |cons hp hr=>
   rename_i p ps;obtain⟨e1,e2⟩:=hp
   cases xs with
   |nil=>cases J
   |cons x q=>
    have J:p.1::ps.map (·.1)=Sum.inr x::q.map Sum.inr:=J;obtain⟨Y,e4⟩:=List.cons.inj J;obtain⟨l,U⟩:=vg r hr e4;have hk:mM L.1 e.key=true:=h1;rw[<-e1,Y] at hk;have hk:Value.isStrOf x e.key=true:=hk
    obtain⟨t,ht⟩:∃t,e.key=.str x t:=by
     cases hz:e.key with
     |str y tok=>
      rw[hz] at hk;have hk:(y == x)=true:=hk;exact⟨tok,by rw[eq_of_beq hk]⟩
     |_=>rw[hz] at hk;cases hk
    refine⟨by simp[l],λi h=>?_⟩
    cases i with
    |zero=>
     refine⟨x,t,p.2,rfl,ht,?_,?_⟩
     . show some p=some (Sum.inr x,p.2);rw[<-Y]
     . show RelV p.2 e.val;rw[h2];exact e2
    |succ i=>exact U i (by simpa using h)
theorem Du:∀{J:List (Key × V)}{L:List (Key × Value)},KV J L->J.map (·.1)=L.map (·.1)
 |_,_,.nil=>rfl
 |_,_,.cons h r=>by simp[h.1,Du r]
inductive DB (K:W.Frag) (H:Hp):Nat->V->V->Bool->Prop
 |ref {n:Nat} (a:Addr):DB K H n (.ref a) (.ref a) true
 |int {n:Nat} (a b:Int):DB K H n (.int a) (.int b) (a == b)
 |str {n:Nat} (a b:Str):DB K H n (.str a) (.str b) (a == b)
 |len {n:Nat} {a b:Addr} {xs ys:List V} (ne:a≠b) (ha:fv K H a xs) (hb:fv K H b ys) (hl:xs.length≠ys.length):DB K H n (.ref a) (.ref b) false
 |fst {n:Nat} {a b:Addr} {x y:Str} {u v:V} (ne:a≠b) (ha:d_ K H a [.str x,u]) (hb:d_ K H b [.str y,v]) (hl:x≠y):DB K H n (.ref a) (.ref b) false
 |lst {n:Nat} {a b:Addr} {xs ys:List V} {e:Nat->Bool} (ne:a≠b) (ha:fv K H a xs) (hb:fv K H b ys) (hl:xs.length=ys.length) (he:∀(j:Nat) (x y:V),xs[j]? =some x->ys[j]? =some y->DB K H n x y (e j)):DB K H (n+1) (.ref a) (.ref b) ((List.range xs.length).all e)
 |tup {n:Nat} {a b:Addr} {xs ys:List V} {e:Nat->Bool} (ne:a≠b) (ha:d_ K H a xs) (hb:d_ K H b ys) (hl:xs.length=ys.length) (he:∀(j:Nat) (x y:V),xs[j]? =some x->ys[j]? =some y->DB K H n x y (e j)):DB K H (n+1) (.ref a) (.ref b) ((List.range xs.length).all e)
 |dct {n:Nat} {a b:Addr} {ks ls:List (Key × V)} {xs:List Str} {e:Nat->Bool} (ne:a≠b) (ha:H a=some (.dK ks)) (hb:H b=some (.dK ls)) (h1:ks.map (·.1)=xs.map Sum.inr) (h2:ls.map (·.1)=xs.map Sum.inr) (he:∀(j:Nat) (k k':Key) (x y:V),ks[j]? =some (k,x)->ls[j]? =some (k',y)->DB K H n x y (e j)):DB K H (n+1) (.ref a) (.ref b) ((List.range xs.length).all e)
section
variable {X:Cx}{pins:List (Addr × Obj)}{σ:St}{H:Hp}{s:Shared}
theorem Dv (I:Inv X pins σ H s){A:Around}{a b:Addr}{ks ls:List (Key × V)}{xs:List Str}{e:Nat->Bool}(ha:H a=some (.dK ks))(hb:H b=some (.dK ls))(h1:ks.map (·.1)=xs.map Sum.inr)(h2:ls.map (·.1)=xs.map Sum.inr)
 (he:∀(j:Nat) (k k':Key) (x y:V) (u v:Value),ks[j]? =some (k,x)->ls[j]? =some (k',y)->RelV x u->RelV y v->SeqAt.EqAt A s u v (e j)):oP A s a b xs.length e:=by
 obtain⟨_,na,va,ac,oa,ea,pa,ga,xa,da,_,ae,_⟩:=oi I.hok ha;obtain⟨_,nb,vb,L,ob,eb,pb,gb,xb,db,_,af,U⟩:=oi I.hok hb;obtain⟨la,ag⟩:=vg ae ac h1;obtain⟨lb,J⟩:=vg af L h2
 have nd:xs.Nodup:=by
  rw[<-Du L,h2] at U;exact(List.pairwise_map.mp U).imp λh z=>h (by rw[z])
 rw[Q1i] at la lb;refine⟨na,nb,oa,ob,ea,eb,pa,pb,ga,gb,xa,xb,da,db,by omega,by omega,?_,λi i1 i2=>?_⟩
 . rw[Array.all_eq_true];intro i hi;obtain⟨x,t,v,_,e,_⟩:=J i (by simpa using hi);have e:eb[i].key=.str x t:=by simpa using e
   rw[e];rfl
 . obtain⟨x,t,v,hx,e,hk,hr⟩:=ag i (by simpa using i1);obtain⟨x',t',v',Y,e',ah,ai⟩:=J i (by simpa using i2);rw[hx] at Y
   cases Y;have e:ea[i].key=.str x t:=by simpa using e
   have e':eb[i].key=.str x t':=by simpa using e'
   refine⟨x,t,e,?_,he i _ _ v v' _ _ hk ah (by simpa using hr) (by simpa using ai)⟩;rw[Array.findIdx?_eq_some_iff_getElem];refine⟨i2,by rw[e'];simp[Value.isStr],λj hj=>?_⟩;obtain⟨y,ty,_,hy,ey,_⟩:=J j (by simp;omega);have ey:eb[j].key=.str y ty:=by simpa using ey
   rw[ey];intro z;have z:(y == x)=true:=z;have z:=eq_of_beq z;subst z;have aa:j<xs.length:=by omega
   have ab:i<xs.length:=by omega
   have q1:xs[j]=y:=by rw[Q03 aa] at hy;exact Option.some.inj hy
   have q2:xs[i]=y:=by rw[Q03 ab] at hx;exact Option.some.inj hx
   exact List.pairwise_iff_getElem.mp nd j i aa ab hj (by rw[q1,q2])
theorem pairs_at (I:Inv X pins σ H s){a b:Addr}{x y:Str}{u v:V}(ha:d_ X.K H a [.str x,u])(hb:d_ X.K H b [.str y,v])(hl:x≠y):∃Y t2 u1 u2,s.heap.IsTuple a #[.str x Y,u1]/\s.heap.IsTuple b #[.str y t2,u2]/\∀A:Around,SeqAt.EqAt A s (.str x Y) (.str y t2) false:=by
 obtain⟨aa,r1,p1,_⟩:=I.tuple ha;obtain⟨U,r2,p2,_⟩:=I.tuple hb
 obtain⟨L,J,rfl⟩:∃L J,aa=[L,J]:=by
  have:=r1.length
  match aa,this with
  |[L,J],_=>exact⟨L,J,rfl⟩
 obtain⟨j1,j2,rfl⟩:∃L J,U=[L,J]:=by
  have:=r2.length
  match U,this with
  |[L,J],_=>exact⟨L,J,rfl⟩
 cases r1 with
 |cons q1 _=>
  cases r2 with
  |cons q2 _=>
   obtain⟨Y,rfl⟩:=q1;obtain⟨t2,rfl⟩:=q2;refine⟨Y,t2,J,j2,p1,p2,λA=>?_⟩;have:=SeqAt.EqAt.str_str (A:=A) (s:=s) x Y y t2
   rwa [beq_eq_false_iff_ne.mpr hl] at this
theorem DB.vh (I:Inv X pins σ H s){n:Nat}{x y:V}{r:Bool}(h:DB X.K H n x y r):∀(A:Around) (u v:Value),RelV x u->RelV y v->A.units+n+1<cLine->SeqAt.EqAt A s u v r:=by
 induction h with
 |ref a=>
  intro A u v J L hu
  cases J
  cases L;exact SeqAt.EqAt.same _
 |int a b=>
  intro A u v J L hu;obtain⟨t,rfl⟩:=J;obtain⟨t',rfl⟩:=L;exact SeqAt.EqAt.int_int (A:=A) (s:=s) a t b t'
 |str a b=>
  intro A u v J L hu;obtain⟨t,rfl⟩:=J;obtain⟨t',rfl⟩:=L;exact SeqAt.EqAt.str_str (A:=A) (s:=s) a t b t'
 |@len n a b xs ys ne U Y hl=>
  intro A u v J L hu
  cases J
  cases L;obtain⟨ab,r1,p1,_⟩:=I.list U;obtain⟨aa,r2,p2,_⟩:=I.list Y;have l1:=r1.length;have l2:=r2.length;refine .of_refs ne (SeqAt.RcAt.lists_lengths p1.isList p2.isList ?_ (by omega));rw[Q06,Q06];simp;omega
 |@fst n a b x y u v ne U Y hl=>
  intro A u' v' J L hu
  cases J
  cases L;obtain⟨t1,t2,u1,u2,p1,p2,he⟩:=pairs_at I U Y hl;exact .of_refs ne (Kh p1 p2 (by omega) (he _))
 |@lst n a b xs ys e ne U Y hl he ih=>
  intro A u v J L hu
  cases J
  cases L;obtain⟨ab,r1,p1,_⟩:=I.list U;obtain⟨aa,r2,p2,_⟩:=I.list Y;have l1:=r1.length;have l2:=r2.length;refine .of_refs ne ?_
  have:=SeqAt.RcAt.lists (A:=A) (s:=s) (e:=e) p1.isList p2.isList (by rw[Q06,Q06];omega) (by omega) λj h1 h2=>by
   obtain⟨x',e1,q1⟩:=Vals.at r1 j (by simpa using h1);obtain⟨y',e2,q2⟩:=Vals.at r2 j (by simpa using h2);refine ih j x' y' e1 e2 _ _ _ (by simpa using q1) (by simpa using q2) ?_;show A.units+1+n+1<cLine;omega
  rwa [Q06,<-l1] at this
 |@tup n a b xs ys e ne U Y hl he ih=>
  intro A u v J L hu
  cases J
  cases L;obtain⟨ab,r1,p1,_⟩:=I.tuple U;obtain⟨aa,r2,p2,_⟩:=I.tuple Y;have l1:=r1.length;have l2:=r2.length;refine .of_refs ne ?_
  have:=SeqAt.RcAt.tuples (A:=A) (s:=s) (e:=e) p1 p2 (by omega) λj h1 h2=>by
   obtain⟨x',e1,q1⟩:=Vals.at r1 j (by simpa using h1);obtain⟨y',e2,q2⟩:=Vals.at r2 j (by simpa using h2);refine ih j x' y' e1 e2 _ _ _ (by simpa using q1) (by simpa using q2) ?_;show A.units+1+n+1<cLine;omega
  rw[Q06,Q06,<-l1,<-l2,<-hl,Nat.min_self,beq_self_eq_true,Bool.and_true] at this;exact this
 |@dct n a b ks ls xs e ne U Y h1 h2 he ih=>
  intro A u v J L hu
  cases J
  cases L;refine .of_refs ne (Kc (Dv I U Y h1 h2 λj k k' x y u v hx hy r1 r2=>ih j k k' x y hx hy _ u v r1 r2 ?_) (by omega));show A.units+1+n+1<cLine;omega
def Kj (K:W.Frag) (n:Nat):R2:=λx y H Q=>∃r,DB K H n x y r/\(∀a,x=.ref a->y≠ .ref a)/\Q (.bl (!r)) H
theorem Kk {n:Nat}(hu:X.A.units+n+2<cLine):ip X (compareOp .NotEq) (Kj X.K n):=by
 intro pins s σ H x y v u Q I rx ry h;obtain⟨r,h,ac,q⟩:=h
 have fin:SeqAt.RcNeAt X.A s v u (!r):=by
  cases h with
  |ref a=>exact absurd rfl (ac a rfl)
  |int a b=>
   obtain⟨t,rfl⟩:=rx;obtain⟨t',rfl⟩:=ry;exact SeqAt.RcNeAt.int_int (A:=X.A) (s:=s) a t b t'
  |str a b=>
   obtain⟨t,rfl⟩:=rx;obtain⟨t',rfl⟩:=ry;exact SeqAt.RcNeAt.str_str (A:=X.A) (s:=s) a t b t'
  |@len _ a b xs ys ne J L hl=>
   cases rx
   cases ry;obtain⟨ab,U,p1,_⟩:=I.list J;obtain⟨aa,Y,p2,_⟩:=I.list L;have l1:=U.length;have l2:=Y.length;refine SeqAt.RcNeAt.lists_lengths p1.isList p2.isList ?_ (by omega);rw[Q06,Q06];simp;omega
  |@fst _ a b x y u v ne J L hl=>
   cases rx
   cases ry;obtain⟨t1,t2,u1,u2,p1,p2,he⟩:=pairs_at I J L hl;exact Ki p1 p2 (by omega) (he _)
  |@lst n a b xs ys e ne J L hl he=>
   cases rx
   cases ry;obtain⟨ab,U,p1,_⟩:=I.list J;obtain⟨aa,Y,p2,_⟩:=I.list L;have l1:=U.length;have l2:=Y.length
   have:=SeqAt.RcNeAt.lists (A:=X.A) (s:=s) (e:=e) p1.isList p2.isList (by rw[Q06,Q06];omega) (by omega) λj h1 h2=>by
    obtain⟨x',e1,q1⟩:=Vals.at U j (by simpa using h1);obtain⟨y',e2,q2⟩:=Vals.at Y j (by simpa using h2);refine(he j x' y' e1 e2).vh I _ _ _ (by simpa using q1) (by simpa using q2) ?_;show X.A.units+1+n+1<cLine;omega
   rwa [Q06,<-l1] at this
  |@tup n a b xs ys e ne J L hl he=>
   cases rx
   cases ry;obtain⟨ab,U,p1,_⟩:=I.tuple J;obtain⟨aa,Y,p2,_⟩:=I.tuple L;have l1:=U.length;have l2:=Y.length
   have:=SeqAt.RcNeAt.tuples (A:=X.A) (s:=s) (e:=e) p1 p2 (by omega) λj h1 h2=>by
    obtain⟨x',e1,q1⟩:=Vals.at U j (by simpa using h1);obtain⟨y',e2,q2⟩:=Vals.at Y j (by simpa using h2);refine(he j x' y' e1 e2).vh I _ _ _ (by simpa using q1) (by simpa using q2) ?_;show X.A.units+1+n+1<cLine;omega
   rw[Q06,Q06,<-l1,<-l2,<-hl,Nat.min_self,beq_self_eq_true,Bool.and_true] at this;exact this
  |@dct n a b ks ls xs e ne J L h1 h2 he=>
   cases rx
   cases ry;refine Ke (Dv I J L h1 h2 λj k k' x y u v hx hy U Y=>(he j k k' x y hx hy).vh I _ u v U Y ?_) (by omega);show X.A.units+1+n+1<cLine;omega
 exact W.cmp_ofNotEq (fin _ _ _ _ ⟨.bl _,H,I,rfl,q⟩)
end
end L2
namespace Pb
open L2
mutual
noncomputable def D.nl:D->D
 | .tup xs=>.tup xs.gB
 | .lst xs=>.lst xs.gB
 | .dct m=>.dct m.gZ
 |d=>d
noncomputable def Ds.gB:Ds->Ds
 | .nil=>.nil
 | .cons _ d r=>.cons "" d.nl r.gB
noncomputable def Ds.gZ:Ds->Ds
 | .nil=>.nil
 | .cons x d r=>.cons x d.nl r.gZ
end
theorem nM:∀xs:Ds,xs.gB.len=xs.len
 | .nil=>by unfold Ds.gB;rfl
 | .cons _ d r=>by unfold Ds.gB;show r.gB.len+1=r.len+1;rw[nM r]
theorem qc:∀{xs ys:Ds},xs.len=ys.len->(xs.gB=ys.gB↔∀i a b,xs.at i=some a->ys.at i=some b->a.nl=b.nl)
 | .nil,.nil,_=>⟨λ_ i a b h=>(by cases h),λ_=>rfl⟩
 | .nil,.cons _ _ _,h=>by cases h
 | .cons _ _ _,.nil,h=>by cases h
 | .cons x d r,.cons y e q,h=>by
   have h:r.len=q.len:=Nat.succ.inj h;have U:=qc h;unfold Ds.gB;constructor
   . intro z;injection z with _ Y z2
     intro i a b J L
     cases i with
     |zero=>cases J;cases L;exact Y
     |succ i=>exact U.mp z2 i a b J L
   . intro z;rw[z 0 d e rfl rfl,U.mpr λi a b J L=>z (i+1) a b J L]
theorem sx:∀{xs ys:Ds},xs.names=ys.names->(xs.gZ=ys.gZ↔∀i a b,xs.at i=some a->ys.at i=some b->a.nl=b.nl)
 | .nil,.nil,_=>⟨λ_ i a b h=>(by cases h),λ_=>rfl⟩
 | .nil,.cons _ _ _,h=>by cases h
 | .cons _ _ _,.nil,h=>by cases h
 | .cons x d r,.cons y e q,h=>by
   have Y:x::r.names=y::q.names:=h;obtain⟨rfl,h2⟩:=List.cons.inj Y;have U:=sx h2;unfold Ds.gZ;constructor
   . intro z;injection z with _ z1 z2
     intro i a b J L
     cases i with
     |zero=>cases J;cases L;exact z1
     |succ i=>exact U.mp z2 i a b J L
   . intro z;rw[z 0 d e rfl rfl,U.mpr λi a b J L=>z (i+1) a b J L]
theorem fj.nms {H:Hp}:∀{m:Ds}{kvs:List (Key × V)}{fp:List Addr},fj H kvs m fp->kvs.map (·.1)=m.names.map Sum.inr
 | .nil,_,_,h=>by unfold fj at h;rw[h.1];rfl
 | .cons x d r,_,_,h=>by
   unfold fj at h;obtain⟨v,q,J,L,rfl,rfl,_,h⟩:=h;show Sum.inr x::q.map (·.1)=Sum.inr x::r.names.map Sum.inr;rw[fj.nms h]
theorem fj.at {H:Hp}:∀{m:Ds}{kvs:List (Key × V)}{fp:List Addr}{i:Nat}{k:Key}{v:V},fj H kvs m fp->kvs[i]? =some (k,v)->∃d f,m.at i=some d/\Own H v d f
 | .nil,_,_,i,_,_,h,e=>by unfold fj at h;rw[h.1] at e;simp at e
 | .cons x d r,_,_,i,k,v,h,e=>by
   unfold fj at h;obtain⟨v',q,J,U,rfl,rfl,L,h⟩:=h
   cases i with
   |zero=>cases e;exact⟨d,J,rfl,L⟩
   |succ i=>exact fj.at (m:=r) h (by simpa using e)
theorem Own.inj {H:Hp}:∀(n:Nat) {v:V}{d e:D}{f g:List Addr},d.dep<=n->Own H v d f->Own H v e g->d.nl=e.nl
 |0,_,d,_,_,_,h,_,_=>absurd h (by have:=d.k6;omega)
 |n+1,v,d,e,f,g,hn,h1,h2=>by
  cases d with
  |int z=>
   unfold Own at h1
   cases e <;> unfold Own at h2 <;> rw[h1.1] at h2
   case int=>cases h2.1;rfl
   all_goals first|(obtain⟨_,_,_,e,_⟩:=h2;cases e;done)|(obtain⟨_,_,e,_⟩:=h2;cases e;done)|(cases h2.1;done)
  |str z=>
   unfold Own at h1
   cases e <;> unfold Own at h2 <;> rw[h1.1] at h2
   case str=>cases h2.1;rfl
   all_goals first|(obtain⟨_,_,_,e,_⟩:=h2;cases e;done)|(obtain⟨_,_,e,_⟩:=h2;cases e;done)|(cases h2.1;done)
  |non=>
   unfold Own at h1
   cases e <;> unfold Own at h2 <;> rw[h1.1] at h2
   all_goals first|rfl|(obtain⟨_,_,_,e,_⟩:=h2;cases e;done)|(obtain⟨_,_,e,_⟩:=h2;cases e;done)|(cases h2.1;done)
  |boo z=>
   unfold Own at h1
   cases e <;> unfold Own at h2 <;> rw[h1.1] at h2
   case boo=>cases h2.1;rfl
   all_goals first|(obtain⟨_,_,_,e,_⟩:=h2;cases e;done)|(obtain⟨_,_,e,_⟩:=h2;cases e;done)|(cases h2.1;done)
  |tup xs=>
   unfold Own at h1;obtain⟨a,vs,rfl,U,hl⟩:=h1;simp only[D.dep] at hn
   cases e with
   |tup ys=>
    unfold Own at h2;obtain⟨a',aa,ea,J,L⟩:=h2
    cases ea;rw[U] at J
    cases J;show D.tup xs.gB=.tup ys.gB;rw[(qc ((fC.len _ hl).symm.trans (fC.len _ L))).mpr λi a b h1 h2=>?_];have hi:i<vs.length:=by rw[fC.len _ hl];exact Ds.lN h1
    obtain⟨d1,g1,Y,o1,_⟩:=fC.get _ hl (Q03 hi);obtain⟨d2,g2,q2,o2,_⟩:=fC.get _ L (Q03 hi);rw[h1] at Y;cases Y;rw[h2] at q2;cases q2;exact Own.inj n (by have:=Ds.jK h1;omega) o1 o2
   |lst ys=>unfold Own at h2;obtain⟨_,_,_,e,h,_⟩:=h2;cases e;rw[U] at h;cases h
   |dct ys=>unfold Own at h2;obtain⟨_,_,_,e,h,_⟩:=h2;cases e;rw[U] at h;cases h
   |_=>unfold Own at h2;cases h2.1
  |lst xs=>
   unfold Own at h1;obtain⟨a,vs,fq,rfl,U,rfl,hl⟩:=h1;simp only[D.dep] at hn
   cases e with
   |lst ys=>
    unfold Own at h2;obtain⟨a',aa,ab,ea,J,_,L⟩:=h2
    cases ea;rw[U] at J
    cases J;show D.lst xs.gB=.lst ys.gB;rw[(qc ((fC.len _ hl).symm.trans (fC.len _ L))).mpr λi a b h1 h2=>?_];have hi:i<vs.length:=by rw[fC.len _ hl];exact Ds.lN h1
    obtain⟨d1,g1,Y,o1,_⟩:=fC.get _ hl (Q03 hi);obtain⟨d2,g2,q2,o2,_⟩:=fC.get _ L (Q03 hi);rw[h1] at Y;cases Y;rw[h2] at q2;cases q2;exact Own.inj n (by have:=Ds.jK h1;omega) o1 o2
   |tup ys=>unfold Own at h2;obtain⟨_,_,e,h,_⟩:=h2;cases e;rw[U] at h;cases h
   |dct ys=>unfold Own at h2;obtain⟨_,_,_,e,h,_⟩:=h2;cases e;rw[U] at h;cases h
   |_=>unfold Own at h2;cases h2.1
  |dct xs=>
   unfold Own at h1;obtain⟨a,vs,fq,rfl,U,rfl,hl⟩:=h1;simp only[D.dep] at hn
   cases e with
   |dct ys=>
    unfold Own at h2;obtain⟨a',aa,ab,ea,J,_,L⟩:=h2
    cases ea;rw[U] at J
    cases J
    have en:xs.names=ys.names:=by
     have:=(fj.nms hl).symm.trans (fj.nms L);exact(List.map_inj_right λa b h=>Sum.inr.inj h).mp this
    show D.dct xs.gZ=.dct ys.gZ;rw[(sx en).mpr λi a b h1 h2=>?_];have hi:i<vs.length:=by rw[fj.len hl,lM];exact Ds.lN h1
    obtain⟨d1,g1,Y,o1⟩:=fj.at hl (i:=i) (k:=vs[i].1) (v:=vs[i].2) (Q03 hi);obtain⟨d2,g2,q2,o2⟩:=fj.at L (i:=i) (k:=vs[i].1) (v:=vs[i].2) (Q03 hi);rw[h1] at Y;cases Y;rw[h2] at q2;cases q2;exact Own.inj n (by have:=Ds.jK h1;omega) o1 o2
   |lst ys=>unfold Own at h2;obtain⟨_,_,_,e,h,_⟩:=h2;cases e;rw[U] at h;cases h
   |tup ys=>unfold Own at h2;obtain⟨_,_,e,h,_⟩:=h2;cases e;rw[U] at h;cases h
   |_=>unfold Own at h2;cases h2.1
theorem Dw {n:Nat}{e:Nat->Bool}{P:Nat->Prop}(h:∀j,j<n->(e j=true↔P j)):((List.range n).all e=true↔∀j,j<n->P j):=by
 rw[Q0x];exact⟨λz j J=>(h j J).mp (z j (List.mem_range.mpr J)),λz j J=>(h j (List.mem_range.mp J)).mpr (z j (List.mem_range.mp J))⟩
section
variable {K:W.Frag}{H:Hp}
def Dq (K:W.Frag) (H:Hp) (n:Nat) (v w:V) (a b:D):Prop:=∃r,DB K H n v w r/\(r=true↔a.nl=b.nl)
open Classical in
theorem Dx {n:Nat}{vs ws:List V}{xs ys:Ds}{f g:List Addr}(h1:fC H vs xs f)(h2:fC H ws ys g)(hl:xs.len=ys.len)
 (hd:∀i a b v w f g,xs.at i=some a->ys.at i=some b->Own H v a f->Own H w b g->Dq K H n v w a b):
 ∃e:Nat->Bool,(∀j x y,vs[j]? =some x->ws[j]? =some y->DB K H n x y (e j))/\((List.range vs.length).all e=true↔xs.gB=ys.gB):=by
 refine⟨λj=>decide (∀a b,xs.at j=some a->ys.at j=some b->a.nl=b.nl),λj x y hx hy=>?_,?_⟩
 . obtain⟨a,fa,L,oa,_⟩:=fC.get _ h1 hx;obtain⟨b,fb,U,ob,_⟩:=fC.get _ h2 hy;obtain⟨r,hr,hi⟩:=hd j a b x y fa fb L U oa ob
   have:decide (∀a b,xs.at j=some a->ys.at j=some b->a.nl=b.nl)=r:=by
    cases r with
    |true=>exact decide_eq_true λa' b' e1 e2=>by rw[L] at e1;rw[U] at e2;cases e1;cases e2;exact hi.mp rfl
    |false=>exact decide_eq_false λz=>by have:=hi.mpr (z a b L U);cases this
   show DB K H n x y (decide _);rw[this];exact hr
 . rw[Dw (P:=λj=>∀a b,xs.at j=some a->ys.at j=some b->a.nl=b.nl) λj _=>decide_eq_true_iff,qc hl];refine⟨λz i a b J Y=>z i ?_ a b J Y,λz j _ a b J Y=>z j a b J Y⟩;rw[fC.len _ h1];exact Ds.lN J
open Classical in
theorem Kl {n:Nat}{ks ls:List (Key × V)}{xs ys:Ds}{f g:List Addr}(h1:fj H ks xs f)(h2:fj H ls ys g)(hl:xs.names=ys.names)
 (hd:∀i a b v w f g,xs.at i=some a->ys.at i=some b->Own H v a f->Own H w b g->Dq K H n v w a b):
 ∃e:Nat->Bool,(∀(j:Nat) (k k':Key) (x y:V),ks[j]? =some (k,x)->ls[j]? =some (k',y)->DB K H n x y (e j))/\((List.range xs.names.length).all e=true↔xs.gZ=ys.gZ):=by
 refine⟨λj=>decide (∀a b,xs.at j=some a->ys.at j=some b->a.nl=b.nl),λj k k' x y hx hy=>?_,?_⟩
 . obtain⟨a,fa,L,oa⟩:=fj.at h1 hx;obtain⟨b,fb,U,ob⟩:=fj.at h2 hy;obtain⟨r,hr,hi⟩:=hd j a b x y fa fb L U oa ob
   have:decide (∀a b,xs.at j=some a->ys.at j=some b->a.nl=b.nl)=r:=by
    cases r with
    |true=>exact decide_eq_true λa' b' e1 e2=>by rw[L] at e1;rw[U] at e2;cases e1;cases e2;exact hi.mp rfl
    |false=>exact decide_eq_false λz=>by have:=hi.mpr (z a b L U);cases this
   show DB K H n x y (decide _);rw[this];exact hr
 . rw[Dw (P:=λj=>∀a b,xs.at j=some a->ys.at j=some b->a.nl=b.nl) λj _=>decide_eq_true_iff,sx hl];refine⟨λz i a b J Y=>z i ?_ a b J Y,λz j _ a b J Y=>z j a b J Y⟩;rw[lM];exact Ds.lN J
theorem vj {n:Nat}{a:Addr}{d e:D}{f g:List Addr}(h1:Own H (.ref a) d f)(h2:Own H (.ref a) e g):Dq K H n (.ref a) (.ref a) d e:=⟨true,.ref a,λ_=>Own.inj _ (Q0 _) h1 h2,λ_=>rfl⟩
theorem Dy {n:Nat}{v w:V}{xs ys:Ds}{f g:List Addr}(h1:Own H v (.lst xs) f)(h2:Own H w (.lst ys) g)
 (hd:∀i a b v w f g,xs.at i=some a->ys.at i=some b->Own H v a f->Own H w b g->Dq K H n v w a b):Dq K H (n+1) v w (.lst xs) (.lst ys):=by
 have o1:=h1;have o2:=h2;unfold Own at h1 h2;obtain⟨a,vs,fq,rfl,U,rfl,hl⟩:=h1;obtain⟨b,ws,gq,rfl,Y,rfl,L⟩:=h2;by_cases ne:a=b
 . subst ne;exact vj o1 o2
 by_cases J:xs.len=ys.len
 . obtain⟨e,h1,h2⟩:=Dx hl L J hd;refine⟨_,.lst ne (.of U) (.of Y) (by rw[fC.len _ hl,fC.len _ L,J]) h1,h2.trans ?_⟩;show _↔D.lst xs.gB=.lst ys.gB;exact⟨λz=>by rw[z],λz=>by injection z⟩
 . refine⟨false,.len ne (.of U) (.of Y) (by rw[fC.len _ hl,fC.len _ L];exact J),λz=>(by cases z),λz=>?_⟩;have z:D.lst xs.gB=.lst ys.gB:=z;injection z with z
   exact absurd (by rw[<-nM xs,z,nM]) J
theorem DA {n:Nat}{v w:V}{xs ys:Ds}{f g:List Addr}(h1:Own H v (.tup xs) f)(h2:Own H w (.tup ys) g)(J:xs.len=ys.len)
 (U:∀i a b v w f g,xs.at i=some a->ys.at i=some b->Own H v a f->Own H w b g->Dq K H n v w a b):Dq K H (n+1) v w (.tup xs) (.tup ys):=by
 have Y:=h1;have o2:=h2;unfold Own at h1 h2;obtain⟨a,vs,rfl,ha,hl⟩:=h1;obtain⟨b,ws,rfl,hb,L⟩:=h2;by_cases ne:a=b
 . subst ne;exact vj Y o2
 obtain⟨e,h1,h2⟩:=Dx hl L J U;refine⟨_,.tup ne (.of ha) (.of hb) (by rw[fC.len _ hl,fC.len _ L,J]) h1,h2.trans ?_⟩;show _↔D.tup xs.gB=.tup ys.gB;exact⟨λz=>by rw[z],λz=>by injection z⟩
theorem Km {n:Nat}{v w:V}{xs ys:Ds}{f g:List Addr}(h1:Own H v (.dct xs) f)(h2:Own H w (.dct ys) g)(J:xs.names=ys.names)
 (U:∀i a b v w f g,xs.at i=some a->ys.at i=some b->Own H v a f->Own H w b g->Dq K H n v w a b):Dq K H (n+1) v w (.dct xs) (.dct ys):=by
 have Y:=h1;have o2:=h2;unfold Own at h1 h2;obtain⟨a,vs,fq,rfl,ha,rfl,hl⟩:=h1;obtain⟨b,ws,gq,rfl,hb,rfl,L⟩:=h2;by_cases ne:a=b
 . subst ne;exact vj Y o2
 obtain⟨e,h1,h2⟩:=Kl hl L J U;refine⟨_,.dct ne ha hb (fj.nms hl) (by rw[fj.nms L,J]) h1,h2.trans ?_⟩;show _↔D.dct xs.gZ=.dct ys.gZ;exact⟨λz=>by rw[z],λz=>by injection z⟩
theorem f6.qd:∀{fs:Fs}{m U:Ds}{i:Nat}{a b:D},f6 fs m->f6 fs U->m.at i=some a->U.at i=some b->∃k,fU k a/\fU k b
 | .nil,_,_,i,_,_,h1,h2,J,L=>by unfold f6 at h1;subst h1;cases J
 | .cons x k r,_,_,i,_,_,h1,h2,J,L=>by
   unfold f6 at h1 h2;obtain⟨d1,q1,rfl,Y,g1⟩:=h1;obtain⟨d2,q2,rfl,f2,g2⟩:=h2
   cases i with
   |zero=>cases J;cases L;exact⟨k,Y,f2⟩
   |succ i=>exact f6.qd (i:=i) g1 g2 J L
theorem iT.qd:∀{fs:Fs}{x:Str}{a b:D},iT fs x a->iT fs x b->∃k,fU k a/\fU k b
 | .nil,_,_,_,h1,_=>by unfold iT at h1;exact h1.elim
 | .cons y k r,x,_,_,h1,h2=>by
   unfold iT at h1 h2;rcases h1 with⟨J,L⟩|⟨J,L⟩
   . rcases h2 with⟨_,U⟩|⟨Y,_⟩
     . exact⟨k,L,U⟩
     . exact absurd J Y
   . rcases h2 with⟨Y,_⟩|⟨_,U⟩
     . exact absurd Y J
     . exact iT.qd L U
theorem Ko:∀(n:Nat) {k:Kd}{v w:V}{d e:D}{f g:List Addr},d.dep<=n->Own H v d f->Own H w e g->fU k d->fU k e->Dq K H n v w d e:=by
 intro n
 induction n using Nat.strongRecOn with
 |_ n ih=>
  intro k v w d e f g hn h1 h2 L U
  cases k with
  |num=>
   unfold fU at L U;obtain⟨x,rfl⟩:=L;obtain⟨y,rfl⟩:=U;unfold Own at h1 h2;rw[h1.1,h2.1];exact⟨_,.int x y,by rw[beq_iff_eq];exact⟨λz=>by rw[z],λz=>by injection z⟩⟩
  |gG=>
   unfold fU at L U;obtain⟨x,rfl⟩:=L;obtain⟨y,rfl⟩:=U;unfold Own at h1 h2;rw[h1.1,h2.1];exact⟨_,.str x y,by rw[beq_iff_eq];exact⟨λz=>by rw[z],λz=>by injection z⟩⟩
  |gA fs=>
   unfold fU at L U;obtain⟨x,rfl,L⟩:=L;obtain⟨y,rfl,U⟩:=U;simp only[D.dep] at hn;obtain⟨n,rfl⟩:∃m,n=m+1:=⟨n - 1,by omega⟩;refine Km h1 h2 (by rw[L.names,U.names]) λi a b v w f g J Y oa ob=>?_;obtain⟨k,k1,k2⟩:=L.qd U J Y;exact ih n (by omega) (by have:=Ds.jK J;omega) oa ob k1 k2
  |rows key by_ fs=>
   unfold fU at L U;obtain⟨x,rfl,L,_⟩:=L;obtain⟨y,rfl,U,_⟩:=U;simp only[D.dep] at hn;obtain⟨n,rfl⟩:∃m,n=m+1:=⟨n - 1,by omega⟩;refine Dy h1 h2 λi a b v w f g J Y oa ob=>?_;obtain⟨m1,q1,rfl⟩:=qa J;obtain⟨m2,q2,rfl⟩:=qa Y;exact ih n (by omega) (k:=.gA fs) (by have:=Ds.jK J;omega) oa ob (by unfold fU;exact⟨_,rfl,L _ q1⟩) (by unfold fU;exact⟨_,rfl,U _ q2⟩)
  |tree k=>
   unfold fU at L U;obtain⟨x,x',t,as,rfl,p1,l1⟩:=L.shape;obtain⟨y,y',u,bs,rfl,p2,l2⟩:=U.shape;simp only[D.dep,Ds.dep] at hn;obtain⟨n,rfl⟩:∃m,n=m+2:=⟨n - 2,by omega⟩;refine DA (n:=n+1) h1 h2 rfl λi a b v w f g J Y oa ob=>?_
   match i,J,Y with
   |0,J,Y=>
    cases J;cases Y;exact ih (n+1) (by omega) (by omega) oa ob p1 p2
   |1,J,Y=>
    cases J;cases Y;refine Dy (n:=n) oa ob λi a b v w f g J Y oa ob=>?_;exact ih n (by omega) (k:=.tree k) (by have:=Ds.jK J;omega) oa ob (by unfold fU;exact l1.at J) (by unfold fU;exact l2.at Y)
   |i+2,J,Y=>cases J
  |ia fs=>
   unfold fU at L U;obtain⟨x,a,rfl,L⟩:=L;obtain⟨y,b,rfl,U⟩:=U;by_cases e:x=y
   . subst e;obtain⟨k,k1,k2⟩:=L.qd U;simp only[pairD,D.dep,Ds.dep] at hn;obtain⟨n,rfl⟩:∃m,n=m+1:=⟨n - 1,by omega⟩;refine DA (n:=n) h1 h2 rfl λi a b v w f g J Y oa ob=>?_
     match i,J,Y with
     |0,J,Y=>
      cases J;cases Y;exact ih n (by omega) (k:=.gG) (by simp only[D.dep];omega) oa ob (by unfold fU;exact⟨_,rfl⟩) (by unfold fU;exact⟨_,rfl⟩)
     |1,J,Y=>
      cases J;cases Y;exact ih n (by omega) (by omega) oa ob k1 k2
     |i+2,J,Y=>cases J
   . obtain⟨c,v1,v2,fa,fb,rfl,hc,_,oa,ob⟩:=Own.pair h1;obtain⟨c',w1,w2,ga,gb,rfl,aa,_,ab,ac⟩:=Own.pair h2;unfold Own at oa ab;rw[oa.1] at hc;rw[ab.1] at aa
     have ne:c≠c':=λz=>by
      subst z;rw[hc] at aa;injection aa with z
      injection z with z
      injection z with z _
      injection z with z
      exact e z
     refine⟨false,.fst ne (.of hc) (.of aa) e,λz=>(by cases z),λz=>?_⟩;have z:D.tup (.cons "" (.str x) (.cons "" a.nl .nil))=.tup (.cons "" (.str y) (.cons "" b.nl .nil)):=z;injection z with z
     injection z with _ z _
     injection z with z
     exact absurd z e
end
theorem Ds.vk (x:Str)(e:D):∀m:Ds,(m.upd x e).dep<=max m.dep e.dep
 | .nil=>Q0a _
 | .cons y d r=>by
   have:=Ds.vk x e r;show max (if y=x then e else d).dep (r.upd x e).dep<=max (max d.dep r.dep) e.dep;split <;> omega
theorem Fs.vm:∀{fs:Fs}{x:Str}{k:Kd},fs.get x=some k->x∈fs.names
 | .cons y q r,x,k,h=>by
   unfold Fs.get at h;by_cases e:x=y
   . rw[e];exact Q01
   . rw[if_neg e] at h;exact Q04 _ (Fs.vm h)
noncomputable def kD:Key->D
 | .inl z=>.int z
 | .inr s=>.str s
def jk:Option Kd->Key->Prop
 |some .num,.inl _=>True
 |some .gG,.inr _=>True
 |_,_=>False
theorem jk.fit {o:Option Kd}{p:Key}(h:jk o p):∃k,o=some k/\me k/\fU k (kD p):=by
 unfold jk at h;split at h
 . exact⟨.num,rfl,trivial,by unfold fU kD;exact⟨_,rfl⟩⟩
 . exact⟨.gG,rfl,trivial,by unfold fU kD;exact⟨_,rfl⟩⟩
 . exact h.elim
theorem jk.of {fs:Fs}{m:Ds}{x:Str}(f:f6 fs m)(h:fs.pl x):jk (fs.get x) (keyOf m x):=by
 obtain⟨_,⟨z,_,e,k⟩|⟨s,_,e,k⟩⟩:=f.plain h
 . rw[e,k];exact trivial
 . rw[e,k];exact trivial
theorem Kq (p:Key):(kD p).dep=1:=by cases p <;> rfl
theorem Kr (p:Key):(kD p).Sm:=by cases p <;> (unfold kD D.Sm;trivial)
theorem Ks {m:Ds}{x:Str}{p:Key}(h:x∈m.names):keyOf (m.upd x (kD p)) x=p:=by
 unfold keyOf;rw[Ds.Dr _ h]
 cases p <;> rfl
theorem Ku {m:Ds}{x y:Str}{e:D}(h:y≠x):keyOf (m.upd x e) y=keyOf m y:=by
 unfold keyOf;rw[Ds.oO h]
theorem Ds.DC {x:Str}{e:D}:∀{m:Ds},x ∉ m.names->m.upd x e=m
 | .nil,_=>rfl
 | .cons y d r,h=>by
   show Ds.cons y (if y=x then e else d) (r.upd x e)=_;rw[if_neg (λz=>h (by rw[z];exact Q01)),Ds.DC (m:=r) λz=>h (Q04 _ z)]
theorem f6.upd {x:Str}{k:Kd}{e:D}(L:fU k e):∀{fs:Fs}{m:Ds},fs.names.Nodup->fs.get x=some k->f6 fs m->f6 fs (m.upd x e)
 | .nil,_,_,h,_=>by cases h
 | .cons y q r,m,nd,h,f=>by
   unfold f6 at f;obtain⟨d,m,rfl,U,J⟩:=f;have nd:(y::r.names).Nodup:=nd;obtain⟨Y,n2⟩:=List.nodup_cons.mp nd;unfold Fs.get at h;show f6 _ (.cons y (if y=x then e else d) (m.upd x e));unfold f6;by_cases ex:x=y
   . rw[if_pos ex] at h
     cases h;subst ex;rw[if_pos rfl,Ds.DC (by rw[J.names];exact Y)];exact⟨_,_,rfl,L,J⟩
   . rw[if_neg ex] at h;rw[if_neg (λz=>ex z.symm)];exact⟨_,_,rfl,U,f6.upd L n2 h J⟩
theorem Ds.DE (x:Str)(e:D)(m:Ds):(m.upd x e).len=m.len:=by rw[<-lM,Ds.vf,lM]
theorem Ds.vn {x:Str}{e:D}(J:e.Sm):∀{m:Ds},m.Sm->(m.upd x e).Sm
 | .nil,h=>h
 | .cons y d r,h=>by
   unfold Ds.Sm at h;show Ds.Sm (.cons y (if y=x then e else d) (r.upd x e));unfold Ds.Sm;refine⟨?_,Ds.vn J h.2⟩;split
   . exact J
   . exact h.1
def iD (fs:Fs) (m:Ds):Prop:=f6 fs m/\m.dep<=fs.dB+1/\(D.dct m).Sm
theorem iD.upd {fs:Fs}{m:Ds}{x:Str}{p:Key}(nd:fs.names.Nodup)(h:iD fs m)(hp:jk (fs.get x) p):iD fs (m.upd x (kD p)):=by
 obtain⟨k,e,_,J⟩:=hp.fit;refine⟨h.1.upd J nd e,?_,?_⟩
 . have:=Ds.vk x (kD p) m;have a:=h.2.1;rw[Kq] at this;omega
 . have s:=h.2.2;unfold D.Sm at s ⊢;exact⟨by rw[Ds.DE];exact s.1,Ds.vn (Kr p) s.2⟩
noncomputable def oQ (ns:List Int) (key by_:Str) (fs:Fs) (room:Nat) (q:List Ds × Int) (p:Key):List Ds × Int:=
 if 0<nx ns (q.2+1) % 3 then
  (q.1++[(if by_≠""/\q.1≠[]/\nx ns (q.2+1) / 3 % 2=0 then(f_ ns fs room (q.2+1)).1.upd by_ (kD (keyOf (q.1.getLastD .nil) by_)) else(f_ ns fs room (q.2+1)).1).upd key (kD p)],(f_ ns fs room (q.2+1)).2)
 else(q.1,q.2+1)
noncomputable def iP (ns:List Int) (key by_:Str) (fs:Fs) (room:Nat) (ps:List Key) (n:Int):List Ds × Int:=ps.foldl (oQ ns key by_ fs room) ([],n)
theorem DF {ns:List Int}{key by_:Str}{fs:Fs}{room:Nat}{ps:List Key}{p:Key}{n:Int}:iP ns key by_ fs room (ps++[p]) n=oQ ns key by_ fs room (iP ns key by_ fs room ps n) p:=by
 unfold iP;rw[List.foldl_append];rfl
theorem Kv {ns:List Int}{key by_:Str}{fs:Fs}{room:Nat}{ps:List Key}{p:Key}{n:Int}{i:Nat}(h:ps[i]? =some p):iP ns key by_ fs room (ps.take (i+1)) n=oQ ns key by_ fs room (iP ns key by_ fs room (ps.take i) n) p:=by
 rw[Q0l,h];exact DF
structure qe (fs:Fs) (key:Str) (room:Nat) (ps:List Key) (n:Int) (q:List Ds × Int):Prop where
 ok:∀m∈q.1,iD fs m
 keys:(q.1.map λm=>keyOf m key).Sublist ps
 lo:n<=q.2
 hi:q.2<=n+ps.length * ((fs.cB:Int)+1)
theorem DG {α:Type}{l:List α}{d:α}(h:l≠[]):l.getLastD d∈l:=by
 cases l with
 |nil=>exact absurd rfl h
 |cons a r=>exact List.mem_of_getLast? (by rw[List.getLast?_eq_some_getLast (List.cons_ne_nil a r)];rw[List.getLastD_cons,<-List.getLast_eq_getLastD])
theorem qe.step {ns:List Int}{key by_:Str}{fs:Fs}{room:Nat}{ps:List Key}{n:Int}{q:List Ds × Int}{p:Key}(h:qe fs key room ps n q)(hW:(Kd.rows key by_ fs).W)(Y:room<8)(hp:jk (fs.get key) p):qe fs key room (ps++[p]) n (oQ ns key by_ fs room q p):=by
 unfold Kd.W at hW;obtain⟨J,aa,L,U,ab⟩:=hW;have c:=oB ns fs room (q.2+1) Y
 have e:((ps++[p]).length:Int) * ((fs.cB:Int)+1)=ps.length * ((fs.cB:Int)+1)+(fs.cB+1):=by
  rw[Q0e];show((ps.length+1:Nat):Int) * _=_;rw[Q20,Q21];simp
 have lo:=h.lo;have hi:=h.hi;unfold oQ;split
 . have v0:iD fs (f_ ns fs room (q.2+1)).1:=⟨ny ns fs L room _ Y,Nat.le_succ_of_le (rq ns fs room _),se ns fs L room _ Y aa⟩;generalize f_ ns fs room (q.2+1)=v at *
   have v1:iD fs (if by_≠""/\q.1≠[]/\nx ns (q.2+1) / 3 % 2=0 then v.1.upd by_ (kD (keyOf (q.1.getLastD .nil) by_)) else v.1):=by
    split
    . rename_i hc;exact v0.upd J (jk.of (h.ok _ (DG hc.2.1)).1 (ab.resolve_left hc.1))
    . exact v0
   generalize (if by_≠""/\q.1≠[]/\nx ns (q.2+1) / 3 % 2=0 then v.1.upd by_ (kD (keyOf (q.1.getLastD .nil) by_)) else v.1)=m1 at *
   have hm:key∈m1.names:=by
    rw[v1.1.names];obtain⟨k,e,_⟩:=U;exact Fs.vm e
   refine⟨λm ac=>?_,?_,by show n<=v.2;omega,by show v.2<=_;rw[e];omega⟩
   . rcases List.mem_append.mp ac with z|z
     . exact h.ok m z
     . rw[List.mem_singleton.mp z];exact v1.upd J hp
   . show((q.1++[m1.upd key (kD p)]).map λm=>keyOf m key).Sublist _;rw[Q0i];refine List.Sublist.append h.keys ?_;show [keyOf (m1.upd key (kD p)) key].Sublist [p];rw[Ks hm];exact List.Sublist.refl _
 . exact⟨h.ok,h.keys.trans (List.sublist_append_left _ _),by show n<=q.2+1;omega,by show q.2+1<=_;rw[e];omega⟩
theorem qf {ns:List Int}{key by_:Str}{fs:Fs}{room:Nat}{ps:List Key}{n:Int}(J:(Kd.rows key by_ fs).W)(L:room<8)(hp:∀p∈ps,jk (fs.get key) p):∀i,qe fs key room (ps.take i) n (iP ns key by_ fs room (ps.take i) n)
 |0=>by
  rw[Q3a];exact { ok:=(λm h=>by cases h),keys:=List.Sublist.refl _,lo:=Q1g n,hi:=by show n<=n+((0:Nat):Int) * _;simp }
 |i+1=>by
  have U:=qf J L hp (n:=n) (ns:=ns) i
  cases e:ps[i]? with
  |none=>
   have:ps.take (i+1)=ps.take i:=by rw[Q0l,e];exact Q1j _
   rw[this];exact U
  |some p=>
   have Y:ps.take (i+1)=ps.take i++[p]:=by rw[Q0l,e];rfl
   rw[Y,DF];exact U.step J L (hp p (Q0g e))
abbrev iU (Pt:Addr) (H H':Hp):Prop:=Kp (λc=>c=Pt) H H'
theorem Kw {K:W.Frag}{P:Addr}{lp:Pos}{ql:Str}{j:Nat}{σ:L2.St}{Q:VK}{H:Hp}{pr pk pb:Addr}{vs:List V}{J:List Ds}{fl:List (List Addr)}{key by_:Str}{fs:Fs}(hr:fv K H pr vs)(U:fZ H vs J fl)(hl:vs.length<64)(hT:fT P lp ql H)(ax:σ[j]? =some (some (.ref pk)))
 (ay:H pk=some (.tup [.str "rows",.str key,.str by_,.ref pb])) (aa:∀m∈J,kz fs m) (af:fs.pl key) (al:by_=""\/fs.pl by_) (az:(J.map λm=>keyOf m key).Nodup)
 (q:∀D am an H',iU P H H'->fT P lp ql H'->H D=none->H' D=some (.lst am)->fZ H' am (iZ key by_ J) an->an.Perm fl->Q (.ref D) H'):
 rb K P lp ql (lA oN [] E0 (iu (gF (j+1)) (iu (gF 0) jW))) σ Q (.ref pr) H:=by
 obtain⟨ag,ar⟩:=A3.len U;refine⟨pr,vs,rfl,hr,hl,hT,λc' H2 ai mono=>?_⟩
 have np:∀L o,(∀ps,o≠ .g4 ps)->H L=some o->H2 L=some o:=λL o ho e=>by
  obtain⟨aA,aB⟩:=hT.tab;exact mono L o (ic e aB (ho aA)) e
 have ao:Tu H H2:=λL ys e=>np L _ (by intro ps z;cases z) e
 have Y:fZ H2 vs J fl:=fZ.keep ao U λL hc o e=>np L o (by
  intro ps z;rcases fZ.mu U L hc with⟨_,q⟩|⟨_,q⟩ <;> rw[e] at q <;> rw[z] at q <;> cases q) e
 have au:H2 pk=some (.tup [.str "rows",.str key,.str by_,.ref pb]):=ao _ _ ay;refine⟨λks H3=>Same H2 H3/\ks.length<=vs.length/\nr H3 ks ((J.map (rankOf key by_)).take ks.length),⟨Same.refl _,Q0a _,.nil⟩,λks H3 hw=>ai.mono λL o _ e=>hw.1 _ _ e,?_,?_⟩
 . rintro ks H3 yv ⟨s3,aC,ac⟩ hy;have ap:ks.length<vs.length:=(List.getElem?_eq_some_iff.mp hy).1;have ah:=A3.at (a0:=V.non) (b0:=Ds.nil) (c0:=[]) Y ks.length ap;have ey:vs.getD ks.length .non=yv:=by rw[Q0b,hy];rfl
   rw[ey] at ah
   have av:J.getD ks.length .nil∈J:=by
    rw[Q0b,Q03 (by omega)];exact Q11 _
   have ab:=Own.same s3 ah;unfold Own at ab;obtain⟨rr,kvs,fq,rfl,aD,_,aE⟩:=ab;refine⟨_,ax,_,rfl,pk,rr,pb,key,by_,fs,kvs,_,fq,rfl,s3 _ _ au,aD,aE,aa _ av,af,al,λt ht=>⟨s3.trans (Same.new ht),by rw[Q0e];exact ap,?_⟩⟩
   have et:(J.map (rankOf key by_)).take (ks++[V.ref t]).length=(J.map (rankOf key by_)).take ks.length++[rankOf key by_ (J.getD ks.length .nil)]:=by
    rw[Q0e];show List.take (ks.length+1) _=_;rw[Q0l,Q0h,Q0b,Q03 (by omega)];rfl
   rw[et];refine u3 (Paired.o5 ac λk kl z=>?_) ⟨t,rfl,fA⟩;obtain⟨pp,e,hh⟩:=z;exact⟨pp,e,by rw[fk (fJ hh ht)];exact hh⟩
 . rintro ks H3 ⟨s3,aC,ac⟩ aw
   have aG:(J.map (rankOf key by_)).take ks.length=J.map (rankOf key by_):=by
    rw[aw,ag,Q0z (by rw[Q05];exact Q0 _)]
   rw[aG] at ac;refine⟨_,ac,⟨if by_="" then [jM (fs.get key)] else [jM (fs.get by_),jM (fs.get key)],by split <;> simp,λkl aH=>?_⟩,λp hp hs D hD=>?_⟩
   . obtain⟨m,hm,rfl⟩:=List.mem_map.mp aH;exact u0 (aa m hm) af al
   have aj:∀i∈p,i<vs.length:=λi hi=>by
    have:=hp.mem_iff.mp hi;simpa using this
   have aI:p.Perm (List.range J.length):=by rw[<-ag];exact hp
   have hz:(p.map λi=>J.getD i .nil)=iZ key by_ J:=by
    refine Cc (rB _ aI) ?_ az;rw[Q1p] at hs ⊢;refine List.Pairwise.imp_of_mem (λ{i j} hi hj h=>?_) hs;have aJ:=aj i hi;have aK:=aj j hj
    have ge:∀i,i<vs.length->(J.map (rankOf key by_)).getD i []=rankOf key by_ (J.getD i .nil):=λi hi=>by
     rw[Q0b,Q0b,Q0h,Q03 (by omega)];rfl
    rw[ge i aJ,ge j aK] at h;exact h
   have sD:Same H3 (upd H3 D (.lst (p.map λi=>vs.getD i .non))):=Same.new hD;have ae:fZ (upd H3 D (.lst (p.map λi=>vs.getD i .non))) vs J fl:=fZ.keep (Tu.of (s3.trans sD)) Y λL _ o e=>sD _ _ (s3 L o e);have ak:=A3.pick (a0:=V.non) (b0:=Ds.nil) (c0:=[]) ae p aj;have aL:(p.map λi=>fl.getD i []).Perm fl:=rB _ (by rw[<-ar];exact hp);have aM:D≠P:=λe=>by rw[e,s3 _ _ ai.1] at hD;cases hD
   have aq:=s3.free hD
   have aN:H D=none:=by
    cases e:H D with
    |none=>rfl
    |some o=>rw[mono D o aM e] at aq;cases aq
   exact q D _ _ _ (λL o nc e=>sD _ _ (s3 _ _ (mono L o nc e))) (.inr ⟨c',ai.mono λL o _ e=>sD _ _ (s3 _ _ e)⟩) aN fA (by rw[<-hz];exact ak) aL
noncomputable abbrev nN:Pos:=C1 (top 49)
noncomputable abbrev nO:Str:=("_law_some":Str)++".<locals>."++"<lambda>"
abbrev DH (b P J:Addr):Hp->Hp->Prop:=Kp (λc=>c=b\/c=P\/c=J)
def DJ (K:W.Frag) (Pt Ps:Addr) (N:Nat):Sp:=λvs H Q _=>∃a b ns n L U xs key by_ fs pl,∃ps:List Key,∃room:Nat,vs=[.ref a,.ref b,.ref L,.ref pl,.int room]/\G0 K H a b ns n/\fT Pt iN iO H/\fT Ps nN nO H/\Pt≠Ps/\H L=some (.tup [.str "rows",.str key,.str by_,.ref U])/\H U=some (.tup xs)/\FA H xs fs/\(Kd.rows key by_ fs).W/\
 H pl=some (.lst (ps.map kV))/\pl≠b/\ps.length<=30/\(∀p∈ps,jk (fs.get key) p)/\ps.Nodup/\room<8/\mu (.gA fs) room<=N/\n+ps.length * ((fs.cB:Int)+1)<=1000000000000/\
 ∀D J Y H',DH b Pt Ps H H'->H' b=some (.lst [.int (iP ns key by_ fs room ps n).2])->fT Pt iN iO H'->fT Ps nN nO H'->H' D=some (.lst J)->fZ H' J (iZ key by_ (iP ns key by_ fs room ps n).1) Y->(∀c∈D::Y.flatten,H c=none)->Q (.ref D) H'
variable {P:Program}{w:World}{K:W.Frag}{mg:Str->Option Value}{base:Heap}
theorem vp {H:Hp}{p:Key}:Own H (kV p) (kD p) []:=by
 cases p <;> (unfold kV kD Own;exact⟨rfl,rfl⟩)
theorem Kx {A B:TS}{D:Ends}{σ:L2.St}{H:Hp}(Pv:L2.St->Hp->Prop)(L:∀J H',Pv J H'->B D J H')(U:(∀J H',Pv J H'->B D J H')->A { D with nx:=B D } σ H):tO A B D σ H:=U L
theorem _root_.L2.fT.off {P:Addr}{J:Pos}{L:Str}{H H':Hp}(h:fT P J L H)(k:∀c o,(∀xs,o≠ .lst xs)->(∀kv,o≠ .dK kv)->H c=some o->H' c=some o):fT P J L H':=by
 rcases h with e|⟨c,e,f⟩
 . exact .inl (k _ _ (by intro xs z;cases z) (by intro xs z;cases z) e)
 . exact .inr ⟨c,k _ _ (by intro xs z;cases z) (by intro xs z;cases z) e,k _ _ (by intro xs z;cases z) (by intro xs z;cases z) f⟩
theorem Ky {α:Type}{l:List α}{x:α}(h:l[l.length - 1]? =some x):iC l (-1)=some x:=by
 have hl:=(List.getElem?_eq_some_iff.mp h).1;unfold iC kQ;rw[if_neg (by decide),if_pos (by omega)];show l[((-1:Int)+(l.length:Int)).toNat]? =_;rw[show((-1:Int)+(l.length:Int)).toNat=l.length - 1 by omega];exact h
theorem _root_.L2.fT.kp {P L b:Addr}{lp U:Pos}{ql Y:Str}{H H':Hp}{l:List V}(h:fT P lp ql H)(x:gp b L H H')(hb:H b=some (.lst l))(h':fT L U Y H)(J:L≠P):fT P lp ql H':=by
 obtain⟨ab,aa⟩:=h'.tab;have k:∀c o,c≠L->(∀xs,o≠ .lst xs)->H c=some o->H' c=some o:=λc o hc ho e=>x c o (λz=>z.elim (λz=>by rw[z,hb] at e;cases e;exact ho _ rfl) hc) e;rcases h with e|⟨c,e,f⟩
 . exact .inl (k _ _ (Ne.symm J) (by intro xs z;cases z) e)
 . exact .inr ⟨c,k _ _ (Ne.symm J) (by intro xs z;cases z) e,k _ _ (ic f aa (by intro z;cases z)) (by intro xs z;cases z) f⟩
theorem _root_.L2.fT.lO {P L:Addr}{Y:Pos}{ql:Str}{H H':Hp}{ps:Array Value}(h:fT P Y ql H)(x:iU L H H')(U:H L=some (.g4 ps))(J:L≠P):fT P Y ql H':=by
 rcases h with e|⟨c,e,f⟩
 . exact .inl (x _ _ (Ne.symm J) e)
 . exact .inr ⟨c,x _ _ (Ne.symm J) e,x _ _ (ic f U (by intro z;cases z)) f⟩
theorem fj.DK {H:Hp}{x:Str}{v:V}{e:D}(U:Own H v e []):∀{m:Ds}{kvs:List (Key × V)}{fp:List Addr},fj H kvs m fp->∃J,fj H (kvs.map λkv=>if kv.1=Sum.inr x then(kv.1,v) else kv) (m.upd x e) J/\J.Sublist fp
 | .nil,kvs,fp,h=>by
   unfold fj at h;obtain⟨rfl,rfl⟩:=h;exact⟨[],by unfold Ds.upd fj;exact⟨rfl,rfl⟩,List.Sublist.refl _⟩
 | .cons y d r,kvs,fp,h=>by
   unfold fj at h;obtain⟨u,q,Y,f2,rfl,rfl,ho,hr⟩:=h;obtain⟨L,h3,s3⟩:=fj.DK U hr;show ∃J,fj H ((if(Sum.inr y:Key)=Sum.inr x then(Sum.inr y,v) else(Sum.inr y,u))::q.map _) (.cons y (if y=x then e else d) (r.upd x e)) J/\_;by_cases ex:y=x
   . refine⟨[]++L,?_,s3.trans (List.sublist_append_right _ _)⟩;rw[if_pos ex,if_pos (by rw[ex])];unfold fj;exact⟨_,_,[],L,rfl,rfl,U,h3⟩
   . refine⟨Y++L,?_,List.Sublist.append (List.Sublist.refl _) s3⟩;rw[if_neg ex,if_neg (λz=>ex (Sum.inr.inj z))];unfold fj;exact⟨_,_,Y,L,rfl,rfl,ho,h3⟩
theorem fj.sy {H:Hp}{x:Str}{v:V}{e:D}{m:Ds}{kvs:List (Key × V)}{fp:List Addr}(h:fj H kvs m fp)(L:Own H v e [])(U:x∈m.names):∃J,fj H (putK kvs (Sum.inr x) v) (m.upd x e) J/\J.Sublist fp:=by
 unfold putK;rw[if_pos]
 . exact h.DK L
 . rw[Q1u];have:(Sum.inr x:Key)∈kvs.map (·.1):=by rw[fj.keys m h];exact Q17 U
   obtain⟨kv,h1,h2⟩:=List.mem_map.mp this;exact⟨kv,h1,decide_eq_true h2⟩
theorem vq {kvs:List (Key × V)}{x:Str}{v:V}{m:Ds}{H:Hp}{fp:List Addr}(h:fj H kvs m fp)(J:x∈m.names):(putK kvs (Sum.inr x) v).length=kvs.length:=by
 obtain⟨L,h',_⟩:=h.sy (v:=.non) (e:=.non) (by unfold Own;exact⟨rfl,rfl⟩) J;unfold putK;rw[if_pos]
 . rw[Q05]
 . rw[Q1u];have:(Sum.inr x:Key)∈kvs.map (·.1):=by rw[fj.keys m h];exact Q17 J
   obtain⟨kv,h1,h2⟩:=List.mem_map.mp this;exact⟨kv,h1,decide_eq_true h2⟩
theorem DL:gi XO Xd (fM (top 49)):=gw
theorem Kz {Pt Ps c:Addr}(N:Nat)(T:Tb mg)(an:Dn K mg "_law_some" pX (top 49) ao aa)(ba:aa.code=.ref c)(bE:W.CodeHd base c Ps)(bF:BM mg base)(ap:Dn K mg "_law_next" gn (top 36) aq ar)(au:fm P w K mg base fw (1) aq ar gn (mq K))(L:Dn K mg "_law_rank" nA (top 44) av aw)(ax:fm P w K mg base fw (1) av aw nA (oN))(af:Dn K mg "_law_value" i3 (top 46) ag ah)(ai:fm P w K mg base fw (2 * N+5) ag ah i3 (nK K Pt N)):fm P w K mg base fw (2 * N+8) ao aa pX (DJ K Pt Ps N):=by
 refine an.F.uF ba DL (λvs H Q E h=>?_) (λA outer s H vs Q E hr h=>?_)
 . obtain⟨a,b,ns,n,pk,pb,xs,key,by_,fs,pl,ps,room,rfl,_⟩:=h;rfl
 obtain⟨a,b,ns,n,pk,pb,xs,key,by_,fs,pl,ps,room,rfl,g,hT,hS,bd,a4,bG,bH,hW,a5,bv,cd,bI,bJ,aB,bK,hn,q⟩:=h;have nd:=DL.nd;have hu:=uk hr
 refine⟨_,(e_ (fN 5 nd (iw c_))
  (e_ (iz PassesOwn.never rfl (kh (pv 3)) (gu (i:=6) nd rfl gQ) (e_ (fN 7 nd (fL au hr ap (a_ (pv 0) (a_ (pv 1) c_))))
  (fx (f7 (fY n_ (fH gN (pv 7) b_) b_ (fV _)) (e_ (fN 8 nd (fL ai hr af (a_ (pv 0) (a_ (pv 1) (a_ (ij (a_ gj (a_ (fy (pv 2) b_) c_))) (a_ (pv 4) c_))))))
  (e_ (f7 (PW.pt (lX (fY l8 (fy (pv 2) b_) gj (fV _)) (lX (fY n_ (gL jj (by rfl) T.iM PySem.boot_len (a_ (pv 5) c_)) b_ (fV _)) (mP (fY gx (fH gN (fH iF (pv 7) b_) b_) b_ (fV _)))))) (fx (kU hu (pv 8) (fy (pv 2) b_) (iA hu (jA (pv 5) (Gz GC b_)) (fy (pv 2) b_) (λ_ _=>rfl)) rfl)) f9)
  (e_ (kU hu (pv 8) (fy (pv 2) b_) (pv 6) rfl)
  (fx (jh (ko PySem.F.plainAttrs_list PySem.F.slot_list_append PySem.F.type_list_append lB (pv 5) (a_ (pv 8) c_))))))) f9))))
  (fx (fE (BZ (x:="_law_row") (N':=["","","_law_kind_here","","","","","",""]) rfl T.rG boot_sorted hr rfl rfl bE bF (lH.of (N:=XO) (sc:=fM (top 49)) rfl rfl rfl rfl rfl (by decide +kernel)) rfl (λ_ _ _ _ _=>rfl) (pv 5) (λ_ _ _ _ _=>(t_ ax (gP.deeper (k:=1) (gP.in1 (k:=2) (gP.in1 (k:=3) (hr.mono (by omega)))) _) rfl L.m L.F.kp L.b .nil jv (a_ (pv 3) (a_ (pv 0) c_))))))))),?_⟩
 ac_rfl
 have be:=λi=>qf (ns:=ns) (n:=n) hW aB bI i;have ce:=hW;unfold Kd.W at hW;obtain⟨bL,bM,bf,a1,bg⟩:=hW;have hb:=g.at_;obtain⟨cf,hP⟩:=hT.tab;refine⟨pT,λpr aX=>?_⟩;have s0:Same H (upd H pr (.lst [])):=Same.new aX;have a6:b≠pr:=fJ hb aX;have jT:Pt≠pr:=fJ hP aX;have bh:∃o,H b=some o:=⟨_,hb⟩;refine⟨_,rfl,pl,rfl,⟨_,fv.of (s0 _ _ a5)⟩,n9 (xs:=ps.map kV) (λi σ H'=>∃x y z vs fl,σ=[some (.ref a),some (.ref b),some (.ref pk),some (.ref pl),some (.int room),some (.ref pr),x,y,z]/\gp b Pt H H'/\H' b=some (.lst [.int (iP ns key by_ fs room (ps.take i) n).2])/\fT Pt iN iO H'/\H' pr=some (.lst vs)/\fZ H' vs (iP ns key by_ fs room (ps.take i) n).1 fl/\(∀c∈fl.flatten,H c=none/\c≠pr)/\vs.length<=i) ?_ ?_ ?_ ?_⟩
 . rw[Q3a];exact⟨_,_,_,[],[],rfl,Kp.of s0,s0 _ _ hb,hT.same s0,fA,.nil,λc hc=>absurd hc (by simp),Q0 _⟩
 . intro i σ H' _ zq;obtain⟨x,y,z,vs,fl,rfl,kp,_⟩:=zq;exact fv.of (kp pl _ (λz=>z.elim bv (ic a5 hP (by intro z;cases z))) a5)
 . intro i v σ H' hv zq;obtain⟨x,y,z,vs,fl,rfl,kp,aj,aH,aL,ae,aA,bi⟩:=zq;obtain⟨p,hp,rfl⟩:=Option.map_eq_some_iff.mp (List.getElem?_map.symm.trans hv);have hi:i<ps.length:=(List.getElem?_eq_some_iff.mp hp).1;have so:=be i;have add:=Kv (ns:=ns) (key:=key) (by_:=by_) (fs:=fs) (room:=room) (n:=n) hp;have bN:(ps.take i).length=i:=by rw[Q0o];omega
   have e1:((i+1:Nat):Int) * ((fs.cB:Int)+1)=(i:Int) * ((fs.cB:Int)+1)+(fs.cB+1):=by
    rw[Q20,Q21];simp
   have ca:((i+1:Nat):Int) * ((fs.cB:Int)+1)<=(ps.length:Int) * ((fs.cB:Int)+1):=Q18 (by omega) (by omega);have bO:=so.lo;have bP:=so.hi;rw[bN] at bP;have cg:=g.pos;have bw:=so.ok;generalize iP ns key by_ fs room (ps.take i) n=J at *;generalize iP ns key by_ fs room (ps.take (i+1)) n=ci at *;have bj:Tu H H':=kp.tu hb hT;refine⟨_,rfl,_,rfl,a,b,ns,J.2,rfl,gp.g0 kp g hT aj bO,by omega,λH1 s1 h1=>?_⟩;have aI:gp b Pt H H1:=kp.trans (SB.gD s1);have aY:fT Pt iN iO H1:=aH.sb aj s1;have aM:H1 pr=some (.lst vs):=s1 pr _ (Ne.symm a6) aL;have al:fZ H1 vs J.1 fl:=fZ.gD (SB.gD s1) aj aH bh ae λc hc=>(aA c hc).1;unfold oQ at add;refine⟨_,rfl,_,_,rfl,rfl,(by show(0:Int)<_;decide),_,_,rfl,rfl,_,rfl,gO (λc=>?_) (λc=>?_)⟩
   . have c:0<nx ns (J.2+1) % 3:=of_decide_eq_true c;rw[if_pos c] at add;have a7:Tu H H1:=aI.tu hb hT;refine⟨_,rfl,_,rfl,_,rfl,pk,_,_,_,rfl,rfl,d_.of (a7 _ _ a4),rfl,ix,λt ht=>?_⟩;have st:Same H1 (upd H1 t (.tup [.str "record",.ref pb])):=Same.new ht
     have bQ:KA (upd H1 t (.tup [.str "record",.ref pb])) (.ref t) (.gA fs):=by
      unfold KA;exact⟨t,pb,xs,rfl,fA,st _ _ (a7 _ _ bG),FA.mono (a7.trans (Tu.of st)) fs bH⟩
     refine⟨_,rfl,a,b,ns,J.2+1,.ref t,.gA fs,room,rfl,gp.g0 (aI.trans (Kp.of st)) g hT (st _ _ h1) (by omega),aY.same st,bQ,(by unfold Kd.W;exact⟨bL,bM,bf⟩),aB,bK,(by simp only[kc,Kd.cB];omega),?_⟩;intro v H2 fp gD bm bR aN bx bz;have ev:val ns (.gA fs) room (J.2+1)=(.dct (f_ ns fs room (J.2+1)).1,(f_ ns fs room (J.2+1)).2):=by simp only[val]
     rw[ev] at bm aN;have ay:=ny ns fs bf room (J.2+1) aB;generalize f_ ns fs room (J.2+1)=a8 at *;have aO:gp b Pt H1 H2:=(Kp.of st).trans gD;have aV:gp b Pt H H2:=aI.trans aO;have bS:Tu H H2:=aV.tu hb hT;have az:H2 pr=some (.lst vs):=aO pr _ (λz=>z.elim (Ne.symm a6) (Ne.symm jT)) aM;have Y:fZ H2 vs J.1 fl:=fZ.gD aO h1 aY bh al λc hc=>(aA c hc).1;unfold Own at aN;obtain⟨rr,kvs,fq,rfl,aJ,rfl,aZ⟩:=aN;have aG:=bS _ _ a4
     have ac:∀c∈rr::fq,H c=none/\c≠pr/\H1 c=none:=λc hc=>by
      have z:=st.free (bz c hc);have nb:c≠b:=λe=>by rw[e,h1] at z;cases z
      obtain⟨cj,bT⟩:=aY.tab;have nP:c≠Pt:=λe=>by rw[e,bT] at z;cases z
      exact⟨aI.pQ (λe=>e.elim nb nP) z,(λe=>by rw[e,aM] at z;cases z),z⟩
     have bA:b≠rr:=λe=>by have:=(ac rr Q01).1;rw[<-e,hb] at this;cases this
     have cb:Pt≠rr:=λe=>by have:=(ac rr Q01).1;rw[<-e,hP] at this;cases this
     have aC:pr≠rr:=λe=>(ac rr Q01).2.1 e.symm
     have bU:∀c∈fl.flatten,c≠rr:=λc hc e=>by
      obtain⟨o,eo⟩:=(fZ.mu al c hc).ex;have:=(ac rr Q01).2.2;rw[<-e,eo] at this;cases this
     have bV:rr ∉ fq:=(List.nodup_cons.mp bx).1
     have am:∀{x:Str},fs.pl x->∀{m:Ds},m.names=fs.names->x∈m.names:=λhx m hm=>by
      obtain⟨k,e,_⟩:=hx;rw[hm];exact Fs.vm e
     have bn:∀U:List (Key × V),U.length=kvs.length->U.length<sizeLine:=λU e=>by
      rw[e,fj.len aZ,ay.names];exact g_ (by omega)
     dsimp only[iB]
     refine Kx (A:=nY _ _ _) (λbo H3=>∃U aK,∃m1:Ds,bo=[some (.ref a),some (.ref b),some (.ref pk),some (.ref pl),some (.int room),some (.ref pr),some (kV p),some (.int (nx ns (J.2+1))),some (.ref rr)]/\H3 rr=some (.dK U)/\(∀c,c≠rr->H3 c=H2 c)/\fj H2 U m1 aK/\aK.Sublist fq/\m1.names=fs.names/\U.length=kvs.length/\
      m1=(if by_≠""/\J.1≠[]/\nx ns (J.2+1) / 3 % 2=0 then a8.1.upd by_ (kD (keyOf (J.1.getLastD .nil) by_)) else a8.1)) ?_ (λhB=>?_)
     . intro bo H3 zq;obtain⟨U,aK,m1,rfl,h3,aD,aP,ak,bB,bb,bW⟩:=zq;have bX:Tu H2 H3:=λc xs e=>by rw[aD c (ic e aJ (by intro z;cases z))];exact e
       have bY:=am a1 bB;refine⟨_,rfl,_,rfl,_,rfl,pk,_,_,_,rfl,rfl,d_.of (bX _ _ aG),rfl,rr,_,rfl,ju.k (k:=Sum.inr key) h3 (bn _ bb),?_⟩;have bC:H3 pr=some (.lst vs):=by rw[aD pr aC];exact az
       have a2:upd H3 rr (.dK (putK U (Sum.inr key) (kV p))) pr=some (.lst vs):=by rw[fk aC];exact bC
       refine⟨_,rfl,.inl ⟨rfl,_,fv.of a2⟩,_,rfl,pr,_,_,rfl,rfl,a2,g_ (by omega),?_⟩;obtain⟨a9,bD,aW⟩:=aP.sy (v:=kV p) (e:=kD p) vp bY;have ab:∀c,c≠rr->c≠pr->upd (upd H3 rr (.dK (putK U (Sum.inr key) (kV p)))) pr (.lst (vs++[.ref rr])) c=H2 c:=λc n1 n2=>by rw[fk n2,fk n1,aD c n1]
       have bp:Tu H2 (upd (upd H3 rr (.dK (putK U (Sum.inr key) (kV p)))) pr (.lst (vs++[.ref rr]))):=λc xs e=>by
        rw[ab c (ic e aJ (by intro z;cases z)) (ic e az (by intro z;cases z))];exact e
       rw[add];refine⟨_,_,_,vs++[.ref rr],fl++[rr::a9],rfl,λc o nc e=>?_,by rw[ab b bA a6];exact bm,bR.off (λc o h1 h2 e=>?_),fA,?_,?_,by rw[Q0e];show vs.length+1<=i+1;omega⟩
       . rw[ab c (λz=>by have:=(ac rr Q01).1;rw[<-z,e] at this;cases this) (fJ e aX)];exact aV c o nc e
       . rw[ab c (λz=>by rw[z,aJ] at e;cases e;exact h2 _ rfl) (λz=>by rw[z,az] at e;cases e;exact h1 _ rfl)];exact e
       . refine A3.snoc ?_ (fZ.keep bp Y λc hc o e=>by rw[ab c (bU c hc) (aA c hc).2];exact e);unfold Own;refine⟨rr,_,a9,rfl,by rw[fk (Ne.symm aC)];exact fA,rfl,?_⟩;rw[<-bW]
         exact bD.keep bp _ λc hc o e=>by
          have bq:=ak.subset (aW.subset hc);rw[ab c (λz=>bV (by rw[<-z];exact bq)) (ac c (Q04 _ bq)).2.1];exact e
       . intro c hc;rw[Q1f] at hc;rcases List.mem_append.mp hc with z|z
         . exact aA c z
         . have z:c∈rr::a9:=by simpa using z
           have:c∈rr::fq:=by
            rcases List.mem_cons.mp z with e|e
            . rw[e];exact Q01
            . exact Q04 _ (ak.subset (aW.subset e))
           exact⟨(ac c this).1,(ac c this).2.1⟩
     . have aQ:∀z:¬(by_≠""/\J.1≠[]/\nx ns (J.2+1) / 3 % 2=0),_:=λz=>hB _ _ ⟨kvs,fq,a8.1,rfl,aJ,λ_ _=>rfl,aZ,List.Sublist.refl _,ay.names,rfl,(if_neg z).symm⟩;refine⟨_,rfl,pk,_,_,_,rfl,rfl,d_.of aG,rfl,rfl,_,rfl,gO (λc1=>?_) (λc1=>?_)⟩
       . refine⟨_,rfl,pr,_,rfl,.inl (fv.of az),_,_,rfl,rfl,_,rfl,gO (λc2=>?_) (λc2=>?_)⟩
         . refine⟨_,rfl,_,_,rfl,rfl,⟨by decide,by decide⟩,_,_,rfl,rfl,(by show(0:Int)<2;decide),rfl,_,rfl,gO (λc3=>?_) (λc3=>aQ λz=>c3 (decide_eq_true (show V.int (nx ns (J.2+1) / 3 % 2)=V.int 0 by rw[z.2.2])))⟩;have d1:by_≠"":=λz=>by rw[z] at c1;exact absurd c1 (by decide)
           have d3:nx ns (J.2+1) / 3 % 2=0:=by
            have this:V.int (nx ns (J.2+1) / 3 % 2)=V.int 0:=of_decide_eq_true c3;injection this
           have a3:0<vs.length:=by have:=of_decide_eq_true c2;omega
           obtain⟨aT,cc⟩:=A3.len Y;have aE:=A3.at (a0:=V.non) (b0:=Ds.nil) (c0:=[]) Y (vs.length - 1) (by omega);have hg:vs[vs.length - 1]? =some (vs.getD (vs.length - 1) .non):=by rw[Q0b,Q03 (by omega)];rfl
           have d2:J.1≠[]:=λz=>by rw[z] at aT;rw[aT] at a3;exact absurd a3 (by decide)
           have bZ:J.1.getD (vs.length - 1) .nil=J.1.getLastD .nil:=by
            rw[aT,Q0b,List.getLastD_eq_getLast?,List.getLast?_eq_getElem?]
           have b1:J.1.getLastD .nil∈J.1:=DG d2;rw[bZ] at aE;generalize vs.getD (vs.length - 1) .non=lv at *;unfold Own at aE;obtain⟨rl,cm,cn,rfl,b2,_,b3⟩:=aE;have aU:fs.pl by_:=bg.resolve_left d1;have gl:gI H2 rl (.str by_) (some (kV (keyOf (J.1.getLastD .nil) by_))):=by have:=gI.k (k:=Sum.inr by_) b2;rw[b3.key (bw _ b1).1 aU] at this;exact this
           obtain⟨aK,aP,ak⟩:=aZ.sy (v:=kV (keyOf (J.1.getLastD .nil) by_)) (e:=kD (keyOf (J.1.getLastD .nil) by_)) vp (am aU ay.names);refine⟨_,rfl,_,rfl,pr,_,_,_,rfl,rfl,fv.of az,Ky hg,_,rfl,pk,_,_,_,rfl,rfl,d_.of aG,rfl,rl,_,rfl,gl,_,rfl,_,rfl,pk,_,_,_,rfl,rfl,d_.of aG,rfl,rr,_,rfl,ju.k (k:=Sum.inr by_) aJ (bn _ rfl),?_⟩;exact hB _ _ ⟨_,aK,_,rfl,fA,λc hc=>fk hc,aP,ak,by rw[Ds.vf];exact ay.names,vq aZ (am aU ay.names),(if_pos ⟨d1,d2,d3⟩).symm⟩
         . refine aQ λz=>c2 (decide_eq_true ?_);have:=(A3.len Y).1;have hp:0<J.1.length:=List.length_pos_iff.mpr z.2.1;omega
       . refine aQ λz=>c1 ?_;rw[decide_eq_false (λe=>z.1 (by injection e))];rfl
   . have c:¬0<nx ns (J.2+1) % 3:=λz=>c (decide_eq_true z);rw[if_neg c] at add;rw[add];exact⟨_,_,_,vs,fl,rfl,aI,h1,aY,aM,al,aA,by omega⟩
 . intro σ H' zq;obtain⟨x,y,z,vs,fl,rfl,kp,aj,aH,aL,ae,aA,bi⟩:=zq;rw[Q05] at aj ae bi;have so:=be ps.length;rw[Q0u] at aj ae so;have bj:Tu H H':=kp.tu hb hT;have br:=hS.kp kp hb hT bd;refine⟨_,rfl,Kw (fv.of aL) ae (by omega) br rfl (bj _ _ a4) (λm hm=>(so.ok m hm).1.p) a1 bg (so.keys.nodup bJ) λD b4 b5 H2 gD b6 hD b7 Y bc=>?_⟩;obtain⟨co,bt⟩:=br.tab;have b8:b≠Ps:=ic aj bt (by intro z;cases z);refine q D b4 b5 H2 (λc o nc e=>gD c o (λz=>nc (.inr (.inr z))) (kp c o (λz=>nc (z.elim .inl λz=>.inr (.inl z))) e)) (gD b _ b8 aj) ?_ b6 b7 Y (λc hc=>?_)
   . obtain⟨b9,bu⟩:=aH.tab;exact aH.lO gD bt (Ne.symm bd)
   . rcases List.mem_cons.mp hc with z|z
     . rw[z];obtain⟨b9,bu⟩:=aH.tab;exact kp.pQ (λe=>e.elim (λe=>by rw[e,aj] at hD;cases hD) (λe=>by rw[e,bu] at hD;cases hD)) hD
     . exact(aA c ((Cq bc).mem_iff.mp z)).1
def sC (J:It) (H:Hp) (xs:List V):Prop:=(∀i x,xs[i]? =some x->J.go i H)/\(∀i x H',J.kL i H x H'->H'=H/\xs[i]? =some x)/\J.stop xs.length H
theorem qg {K:W.Frag}{H:Hp}{a:Addr}{xs:List V}(h:d_ K H a xs):sC (n0 K a) H xs:=⟨λ_ _ e=>⟨_,_,h,e⟩,λ_ _ _ y=>⟨y.1,y.2 _ h⟩,_,h,Q0 _⟩
theorem sE {K:W.Frag}{H:Hp}{a:Addr}{xs:List V}(h:fv K H a xs):sC (nZ K a) H xs:=⟨λ_ _ e=>⟨_,_,h,e⟩,λ_ _ _ y=>⟨y.1,y.2 _ h⟩,_,h,Q0 _⟩
def CW (F:Nat->List V) (n:Nat) (H:Hp) (i m:Nat) (ys:List V) (H':Hp):Prop:=m=n - i/\i<=n/\ys=F i/\(F i).length<=i/\H'=H
theorem nQ {J:It}{H:Hp}{xs:List V}{S:List V->Hp->Prop}{C:(Nat->Nat->List V->Hp->Prop)->Nat->Nat->List V->V->Hp->Prop}(hJ:sC J H xs)(F:Nat->List V)(aa:xs.length<=1000)
 (q:S (F xs.length) H) (step:∀i x,xs[i]? =some x->(∀y,F (i+1)=F i++[y]->∃Y,Y<xs.length - i/\CW F xs.length H (i+1) Y (F i++[y]) H)->(F (i+1)=F i->∃Y,Y<xs.length - i/\CW F xs.length H (i+1) Y (F i) H)->C (CW F xs.length H) i (xs.length - i) (F i) x H) (h0:F 0=[]:=by rfl):
 ∃W:Nat->Nat->List V->Hp->Prop,(∃m,W 0 m [] H)/\∀i m ys H',W i m ys H'->(J.stop i H'/\S ys H')\/(J.go i H'/\ys.length<sizeLine/\∀x U,J.kL i H' x U->C W i m ys x U):=by
 refine⟨CW F xs.length H,⟨_,rfl,Q0a _,h0.symm,by rw[h0];exact Q0 0,rfl⟩,?_⟩;rintro i m ys H' ⟨rfl,hi,rfl,hl,rfl⟩;by_cases L:i<xs.length
 . refine .inr ⟨hJ.1 i _ (Q03 L),g_ (by omega),λx U y=>?_⟩;obtain⟨rfl,hx⟩:=hJ.2.1 _ _ _ y;exact step i x hx (λy e=>⟨_,Q3b _ _ L,rfl,L,e.symm,by rw[e,Q0e];exact Q3c hl,rfl⟩) (λe=>⟨_,Q3b _ _ L,rfl,L,e.symm,by rw[e];omega,rfl⟩)
 . cases Nat.le_antisymm hi (Q1e L);exact .inl ⟨hJ.2.2,q⟩
def sG (tu:Bool) (K:W.Frag) (H:Hp) (a:Addr) (xs:List V):Prop:=match tu with|true=>d_ K H a xs|false=>fv K H a xs
def DM (tu:Bool) (K:W.Frag) (tl:TE):TI:=match tu with|true=>AJ K tl|false=>AI K tl
theorem KC (tu:Bool){X:Cx}{tg l:Expr}{tl:TE}(hl:PE X l tl):PI X tg l (DM tu X.K tl):=by
 cases tu
 . exact kh hl
 . exact jE hl
noncomputable def DN (tu:Bool) (xs:List V):HO:=match tu with|true=>.tup xs|false=>.lst xs
theorem sG.of {tu:Bool}{K:W.Frag}{H:Hp}{a:Addr}{xs:List V}(h:H a=some (DN tu xs)):sG tu K H a xs:=by
 cases tu
 . exact fv.of h
 . exact d_.of h
theorem KD {tu:Bool}{K:W.Frag}{tl:TE}{σ:St}{H:Hp}{a:Addr}{xs:List V}{R:It->Hp->Prop}(L:sG tu K H a xs)(h:∀J,sC J H xs->R J H)(U:∀Q:VK,Q (.ref a) H->tl σ H Q):DM tu K tl σ H R:=by
 cases tu
 . exact U _ ⟨a,rfl,⟨_,L⟩,h _ (sE L)⟩
 . exact U _ ⟨a,rfl,⟨_,L⟩,h _ (qg L)⟩
theorem take_add {α:Type}{l:List α}{i:Nat}{x:α}(h:l[i]? =some x):l.take (i+1)=l.take i++[x]:=by
 rw[Q0l,h];rfl
theorem DO {α J:Type}{l:List α}{p:α->Bool}{f:α->J}{i:Nat}{x:α}(h:l[i]? =some x)(c:p x=true):((l.take (i+1)).filter p).map f=((l.take i).filter p).map f++[f x]:=by
 rw[take_add h,Q23,Q24,if_pos c,Q0i];rfl
theorem DP {α J:Type}{l:List α}{p:α->Bool}{f:α->J}{i:Nat}{x:α}(h:l[i]? =some x)(c:¬p x=true):((l.take (i+1)).filter p).map f=((l.take i).filter p).map f:=by
 rw[take_add h,Q23,Q24,if_neg c,List.filter_nil,Q1j]
theorem Fs.qh:∀{fs:Fs}{x:Str}{k:Kd},fs.get x=some k->∃j,fs.at j=some (x,k)
 | .nil,_,_,h=>by cases h
 | .cons y q r,x,k,h=>by
   have h:(if x=y then some q else r.get x)=some k:=h;by_cases e:x=y
   . rw[if_pos e] at h
     cases h;exact⟨0,by rw[e];rfl⟩
   . rw[if_neg e] at h;obtain⟨j,J⟩:=Fs.qh h;exact⟨j+1,J⟩
theorem Fs.DQ {fs:Fs}{i j:Nat}{x:Str}{k J:Kd}(nd:fs.names.Nodup)(h1:fs.at i=some (x,k))(h2:fs.at j=some (x,J)):i=j:=by
 have L:fs.names[i]? =some x:=by rw[Fs.jJ,h1];rfl
 have U:fs.names[j]? =some x:=by rw[Fs.jJ,h2];rfl
 obtain⟨l1,Y⟩:=List.getElem?_eq_some_iff.mp L;obtain⟨l2,q2⟩:=List.getElem?_eq_some_iff.mp U;exact(Q1a nd).mp (Y.trans q2.symm)
theorem DR {y q:Key}:kT (kV y) (kV q)=true↔y=q:=by
 constructor
 . intro h
   cases y <;> cases q
   . exact congrArg Sum.inl (eq_of_beq (α:=Int) h)
   . cases h
   . cases h
   . exact congrArg Sum.inr (eq_of_beq (α:=Str) h)
 . rintro rfl
   cases y
   . exact BEq.rfl (α:=Int)
   . exact BEq.rfl (α:=Str)
theorem qi {q:Key}{ps:List Key}:inV (kV q) (ps.map kV)=true↔q∈ps:=by
 unfold inV;rw[Q22,Q1u];constructor
 . rintro⟨y,J,e⟩;rw[<-DR.mp e];exact J
 . exact λh=>⟨q,h,DR.mpr rfl⟩
theorem sH (q:Key):km (kV q)=true:=by cases q <;> rfl
theorem flat_keys {ps:List Key}:(ps.map kV).all km=true:=by
 rw[List.all_map,Q0x];exact λq _=>sH q
theorem KG {H:Hp}{o:Option Kd}{k:Kd}{d:D}{v:V}{fp:List Addr}(e:o=some k)(hp:me k)(J:fU k d)(L:Own H v d fp):∃q,v=kV q/\d=kD q/\jk o q:=by
 subst e
 cases k with
 |num=>
  unfold fU at J;obtain⟨z,rfl⟩:=J;unfold Own at L;exact⟨.inl z,L.1,rfl,trivial⟩
 |gG=>
  unfold fU at J;obtain⟨z,rfl⟩:=J;unfold Own at L;exact⟨.inr z,L.1,rfl,trivial⟩
 |_=>exact hp.elim
def DS (K:W.Frag) (Pt:Addr) (N:Nat):Sp:=λvs H Q _=>∃a b ns n J L xs key by_ fs,∃m:Nat,vs=[.ref a,.ref b,.ref J,.int m]/\G0 K H a b ns n/\fT Pt iN iO H/\H J=some (.tup [.str "rows",.str key,.str by_,.ref L])/\H L=some (.tup xs)/\FA H xs fs/\(Kd.rows key by_ fs).W/\m<=30/\n+100<=1000000000000/\24<=N/\
 ∀D (ps:List Key) n' H',gp b Pt H H'->H' b=some (.lst [.int n'])->n<=n'->n'<=n+m->fT Pt iN iO H'->H D=none->D≠b->H' D=some (.lst (ps.map kV))->ps.Nodup->ps.length<=m->(∀p∈ps,jk (fs.get key) p)->Q (.ref D) H'
theorem KH:gi XV XT (fM (top 48)):=gw
theorem KI {Pt:Addr}(N:Nat)(T:Tb mg)(aa:Dn K mg "_law_pool" rJ (top 48) ab ac)(J:Dn K mg "_law_value" i3 (top 46) L U)(Y:fm P w K mg base fw (2 * N+5) L U i3 (nK K Pt N)):fm P w K mg base fw (2 * N+6) ab ac rJ (DS K Pt N):=by
 refine aa.F.ok KH λvs H Q E h=>?_;obtain⟨a,b,ns,n,pk,pb,xs,key,by_,fs,m,rfl,g,hT,au,av,an,hW,hm,hn,hN,q⟩:=h;refine⟨rfl,λaN A outer s nd hr hu=>?_⟩
 refine⟨_,(e_ (fN 4 nd (jA (ma (g:=(iB 0)) (tt:=(kM (gY mW (gY (iY K) (gF 0) (tC (.int 0))) (gY (iY K) (gF 3) (tC (.int 1)))))) (te:=(gY (iY K) (gF 0) (tC (.int 1)))) (own:=["_law_pair"]) rfl (jY (N:=XV) (sc:=fM (top 48))) (jE (fy (pv 2) b_)) (λ_ _ _ _ _=>(gu (i:=0) (show(["_law_pair","_law_script","_law_at","_law_kind_here","_law_many","_law_lead","_law_pool_here","_law_k","_law_one"]:List Str).Nodup by decide +kernel) rfl (Or.inl rfl) (.inr rfl))) (λ_ _ _ _ _=>(pI (fY gx (fy (pv 0) b_) (fy (pv 3) b_) (fV _)))) (λ_ _ _ _ _=>(fy (pv 0) b_))) b_))
  (e_ (fN 5 nd (iw c_))
  (e_ (iz PassesOwn.never rfl (mU rfl T.mi (a_ (pv 3) c_)) (gu (i:=6) nd rfl gQ) (e_ (fN 7 nd (fL Y hr J (a_ (pv 0) (a_ (pv 1) (a_ (pv 4) (a_ b_ c_))))))
  (fx (f7 (fY pB (pv 7) (pv 5) (by with_unfolding_all rfl)) (fx (jh (ko PySem.F.plainAttrs_list PySem.F.slot_list_append PySem.F.type_list_append lB (pv 5) (a_ (pv 7) c_)))) f9))))
  (fx (fE (pv 5)))))),?_⟩
 ac_rfl
 unfold Kd.W at hW;obtain⟨aI,aO,aJ,aG,aP⟩:=hW;obtain⟨k,aw,af⟩:=aG;obtain⟨j,hj⟩:=Fs.qh aw;have aK:=FA.len fs an
 have ao:j<xs.length:=by
  rw[aK];have:=Fs.jJ fs j;rw[hj] at this;exact(List.getElem?_eq_some_iff.mp this).1
 obtain⟨cj,uj,aQ,kj,ej,am,ax,ay⟩:=FA.get fs an (Q03 ao);rw[hj] at am
 cases am;refine⟨_,rfl,pk,_,_,_,rfl,rfl,d_.of au,rfl,pb,rfl,⟨_,d_.of av⟩,nQ (qg (d_.of av)) (λi=>if j<i then [uj] else []) (by omega) (λp hp=>?_) (λi z hv add skip=>?_) (if_neg (Q16 _))⟩
 case refine_2=>
  obtain⟨d,w',nm,k',rfl,az,hd,aT⟩:=FA.get _ an hv;refine⟨rfl,_,rfl,d,_,_,_,rfl,rfl,d_.of hd,rfl,_,rfl,pk,_,_,_,rfl,rfl,d_.of au,rfl,rfl,_,rfl,gO (λcc=>?_) (λcc=>skip ?_)⟩
  . have e:nm=key:=by
     have:=of_decide_eq_true cc;injection this
    subst e
    cases Fs.DQ aI az hj;rw[Q03 ao,ej] at hv
    cases hv;rw[ax] at hd
    cases hd;refine⟨_,rfl,cj,_,_,_,rfl,rfl,d_.of ax,rfl,add _ ?_⟩;rw[if_neg (Q0r _),if_pos (Q1 _)];rfl
  . have ne:i≠j:=λe=>by
     subst e;rw[az] at hj
     cases hj;exact cc (decide_eq_true rfl)
    by_cases aA:j<i
    . rw[if_pos aA,if_pos (by omega)]
    . rw[if_neg aA,if_neg (by omega)]
 rw[if_pos ao];have s1:Same H (upd H p (.lst [uj])):=Same.new hp;refine⟨p,_,_,_,rfl,rfl,fv.of fA,jX (j:=0) rfl,?_⟩;generalize upd H p (.lst [uj])=H1 at s1;have hb:=g.at_;have aU:=hT.same s1;refine⟨pT,λpr aB=>?_⟩;have s2:=s1.trans (Same.new aB (o:=.lst []));have ag:H pr=none:=s1.free aB;have ap:b≠pr:=fJ hb ag;have aV:=KA.mono (Tu.of s2) k ay;have aj:=hT.same s2;obtain⟨aW,hP⟩:=hT.tab;have jT:Pt≠pr:=fJ hP ag;have em:Int.toNat (m:Int)=m:=by omega
 refine⟨_,rfl,_,rfl,by omega,by omega,l5 (n:=Int.toNat (m:Int)) (λi σ H'=>∃(x z:Option V) (ps:List Key) (n':Int),σ=[some (.ref a),some (.ref b),some (.ref pk),some (.int m),some uj,some (.ref pr),x,z]/\gp b Pt H H'/\H' b=some (.lst [.int n'])/\n<=n'/\n'<=n+i/\fT Pt iN iO H'/\H' pr=some (.lst (ps.map kV))/\ps.Nodup/\ps.length<=i/\∀p∈ps,jk (fs.get key) p) ?_ ?_ ?_⟩
 . exact⟨_,_,[],n,rfl,Kp.of s2,s2 _ _ hb,Q1g _,by omega,aj,fA,Q0y,Q0 _,λp hp=>nomatch hp⟩
 . intro i σ H' hi zq;obtain⟨x,z,ps,n',rfl,kp,aq,w1,w2,ar,ah,ak,ai,al⟩:=zq;rw[em] at hi;have aC:=Fs.kr aJ hj;have aX:k.dep=1:=by cases k with|num=>rfl|gG=>rfl|_=>exact af.elim
   have aY:kc k 0<=1:=by cases k with|num=>exact Q0 _|gG=>exact Q0 _|_=>exact af.elim
   refine⟨_,rfl,_,rfl,_,rfl,a,b,ns,n',uj,k,0,rfl,gp.g0 kp g hT aq w1,ar,KA.mono (kp.tu hb hT) k ay,aC,by decide,(by have:=rZ k 0;omega),by omega,λv H2 fp gD aD aj aH _ _=>?_⟩;have c2:=oA ns k 0 n' (by decide);have aZ:k.cB<=1:=by cases k with|num=>exact Q0 _|gG=>exact Q0 _|_=>exact af.elim
   obtain⟨qk,rfl,_,aL⟩:=KG aw af (rm ns k aC 0 n' (by decide)) aH;generalize (val ns k 0 n').2=n2 at *;have ae:H2 pr=some (.lst (ps.map kV)):=gD pr _ (λz=>z.elim (Ne.symm ap) (Ne.symm jT)) ah;have aE:=kp.trans gD;refine⟨_,rfl,_,rfl,pr,_,rfl,.inl (fv.of ae),sH _,flat_keys,_,rfl,gO (λcc=>?_) (λcc=>?_)⟩
   . have aM:qk ∉ ps:=λz=>by
      have cc:(!inV (kV qk) (ps.map kV))=true:=cc;rw[qi.mpr z] at cc
      cases cc
     refine⟨_,rfl,.inl ⟨rfl,_,fv.of ae⟩,_,rfl,pr,_,_,rfl,rfl,ae,g_ (by rw[Q05];omega),?_⟩;refine⟨_,_,ps++[qk],n2,rfl,λc o nc e=>?_,by rw[fk ap];exact aD,by omega,by omega,aj.wr (.inl ⟨_,ae⟩),by rw[Q0i];exact fA,?_,by rw[Q0e];show ps.length+1<=i+1;omega,λp hp=>?_⟩
     . rw[fk (fJ e ag)];exact aE c o nc e
     . exact List.nodup_append.mpr ⟨ak,List.nodup_cons.mpr ⟨by simp,Q0y⟩,λa ha b hb e=>by rw[List.mem_singleton.mp hb] at e;rw[e] at ha;exact aM ha⟩
     . rcases List.mem_append.mp hp with z|z
       . exact al p z
       . rw[List.mem_singleton.mp z];exact aL
   . exact⟨_,_,ps,n2,rfl,aE,aD,by omega,by omega,aj,ae,ak,by omega,al⟩
 . intro σ H' zq;obtain⟨x,z,ps,n',rfl,kp,aq,w1,w2,ar,ah,ak,ai,al⟩:=zq;rw[em] at w2 ai;exact⟨_,rfl,q pr ps n' H' kp aq w1 w2 ar ag (Ne.symm ap) ah ak ai al⟩
def jR (k:Kd) (d:D):Prop:=match k with
 | .rows _ _ fs=>∃J:List Ds,d=.lst (gm J)/\∀m∈J,f6 fs m
 |k=>fU k d
theorem jR.of {k:Kd}{d:D}(h:fU k d):jR k d:=by
 cases k with
 |rows key by_ fs=>
  unfold fU at h;obtain⟨J,e,hF,_⟩:=h;exact⟨J,e,hF⟩
 |_=>exact h
theorem f6.nodup {fs:Fs}{m:Ds}(nd:fs.names.Nodup)(f:f6 fs m):m.names.Nodup:=by rw[f.names];exact nd
theorem DT {bs:List Bool}{b:Bool}{P:Nat->Prop}(h:∀j c,bs[j]? =some c->(c=true↔P j))(J:b=true↔P bs.length):∀j c,(bs++[b])[j]? =some c->(c=true↔P j):=λj c e=>by
 rw[List.getElem?_append] at e;split at e
 . exact h j c e
 . rename_i Y;by_cases L:j - bs.length=0
   . have:j=bs.length:=by omega
     subst this;rw[L] at e
     cases e;exact J
   . obtain⟨q,U⟩:∃q,j - bs.length=q+1:=⟨j - bs.length - 1,by omega⟩;rw[U] at e;simp at e
theorem DV {bs:List Bool}{P:Nat->Prop}(h:∀j c,bs[j]? =some c->(c=true↔P j)):(bs.all id=true↔∀j,j<bs.length->P j):=by
 rw[Q0x];constructor
 . intro z j J;exact(h j _ (Q03 J)).mp (z _ (Q11 J))
 . intro z c hc;obtain⟨j,J,rfl⟩:=Q0v hc;exact(h j _ (Q03 J)).mpr (z j J)
def k_ (xs ys:Ds) (j:Nat):Prop:=∀a b,xs.at j=some a->ys.at j=some b->a.nl=b.nl
theorem DW {xs ys:Ds}(hl:xs.len=ys.len):(∀j,j<xs.len->k_ xs ys j)↔xs.gB=ys.gB:=by
 rw[qc hl];exact⟨λz i a b J L=>z i (Ds.lN J) a b J L,λz j _ a b J L=>z j a b J L⟩
theorem DX {xs ys:Ds}(hl:xs.names=ys.names):(∀j,j<xs.len->k_ xs ys j)↔xs.gZ=ys.gZ:=by
 rw[sx hl];exact⟨λz i a b J L=>z i (Ds.lN J) a b J L,λz j _ a b J L=>z j a b J L⟩
theorem k_.one {xs ys:Ds}{j:Nat}{a b:D}{r:Bool}(h1:xs.at j=some a)(h2:ys.at j=some b)(h:r=true↔a.nl=b.nl):r=true↔k_ xs ys j:=by
 rw[h];exact⟨λz U Y J L=>by rw[h1] at J;rw[h2] at L;cases J;cases L;exact z,λz=>z a b h1 h2⟩
theorem vw {c A B:Prop} [Decidable c](hc:¬c)(h:A):if(!decide c)=true then A else B:=by
 rw[decide_eq_false hc];exact h
def oR (n:Nat):Sp:=λvs H Q _=>∃kv L U k d J Y f2,vs=[kv,L,U]/\KA H kv k/\k.W/\Own H L d Y/\Own H U J f2/\jR k d/\jR k J/\d.dep<=n/\d.Sm/\∀r H',Same H H'->(r=true↔d.nl=J.nl)->Q (.bl r) H'
theorem KJ:gi XE XW (fM (top 47)):=gw
theorem KL (n:Nat)(T:Tb mg)(J:Dn K mg "_law_alike" nF (top 47) ab ac)(L:fm P w K mg base fw (n+1) ab ac nF (oR n)):fm P w K mg base fw ((n+1)+1) ab ac nF (oR (n+1)):=by
 refine J.F.ok KJ λvs H Q E h=>?_;obtain⟨kv,v1,v2,k,d,d2,f1,f2,rfl,hk,hW,aj,ak,hF,ah,aA,al,q⟩:=h;refine⟨rfl,λbo A outer s nd hr hu=>?_⟩
 refine⟨_,(e_ (f7 (fY gx (fy (pv 0) b_) gj (fV _)) (fx (fE (lZ (gL jx (by rfl) T.jz boot_isinstance (a_ (pv 1) (a_ (jr (v:=.ty "int") rfl T.CF boot_int rfl) c_))) (lZ (Gg (gL jx (by rfl) T.jz boot_isinstance (a_ (pv 1) (a_ (jr (v:=.ty "bool") rfl T.CG boot_bool rfl) c_)))) (lY (ki gx (pv 1) (pv 2) (fV _))))))) f9)
  (e_ (f7 (fY gx (fy (pv 0) b_) gj (fV _)) (fx (fE (lZ (gL jx (by rfl) T.jz boot_isinstance (a_ (pv 1) (a_ (jr (v:=.ty "str") rfl T.uQ boot_str rfl) c_))) (lY (ki gx (pv 1) (pv 2) (fV _)))))) f9)
  (e_ (f7 (fY gx (fy (pv 0) b_) gj (fV _)) (e_ (f7 (PW.pt (kg (i7 (iR (gL jx (by rfl) T.jz boot_isinstance (a_ (pv 1) (a_ (jr (v:=.ty "dict") rfl T.oH boot_dict rfl) c_))))) (kf (fY l8 (gL uo (by rfl) T.iM PySem.boot_len (a_ (pv 1) c_)) (gL jj (by rfl) T.iM PySem.boot_len (a_ (fy (pv 0) b_) c_)) (fV _))))) (fx (fE jb)) f9)
  (e_ (iz PassesOwn.never rfl (jE (fy (pv 0) b_)) (jD rfl (ie (gu (i:=3) nd rfl gQ) (ie (gu (i:=4) nd rfl gQ) jC))) (fx (f7 (PW.pt (kg (qI (Bj hu (pv 3) (pv 1)) (by with_unfolding_all rfl)) (kf (i7 (iR (fL L hr J (a_ (pv 4) (a_ (iA hu (pv 1) (pv 3) (λ_ _=>rfl)) (a_ (iA hu (pv 2) (pv 3) (λ_ _=>rfl)) c_))))))))) (fx (fE jb)) f9)))
  (fx (fE jb)))) f9)
  (e_ (f7 (fY gx (fy (pv 0) b_) gj (fV _)) (e_ (f7 (PW.pt (kg (i7 (iR (gL jx (by rfl) T.jz boot_isinstance (a_ (pv 1) (a_ (jr (v:=.ty "list") rfl T.pS boot_list rfl) c_))))) (kf (fY l8 (gL uo (by rfl) T.iM PySem.boot_len (a_ (pv 1) c_)) (gL jj (by rfl) T.iM PySem.boot_len (a_ (pv 2) c_)) (fV _))))) (fx (fE jb)) f9)
  (fx (fE (gL (qY rfl) (by rfl) T.rH boot_all (a_ (ma (g:=(qN K 2 (mR (iB 0) (mR (iB 1) qM)))) (tt:=kY) (te:=(lA _ _ _ (iu (t9 (iu (tC (.str "record")) (iu (gY (iY K) (gF 2) (tC (.int 3))) jW))) (iu (gF 0) (iu (gF 1) jW))))) (own:=["_law_a","_law_b"]) rfl (jY (N:=XE) (sc:=fM (top 47))) (B4 rfl T.CD (a_ (pv 1) (a_ (pv 2) c_))) (λ_ _ _ _ _=>(jD rfl (ie (gu (i:=0) (show(XD:List Str).Nodup by decide +kernel) rfl (Or.inl rfl) (.inr rfl)) (ie (gu (i:=1) (show(XD:List Str).Nodup by decide +kernel) rfl (Or.inl rfl) (.inr rfl)) jC)))) (λ_ _ _ _ _=>l_) (λ_ _ _ _ _=>(fL L hr J (a_ (ij (a_ gj (a_ (fy (pv 2) b_) c_))) (a_ (pv 0) (a_ (pv 1) c_)))))) c_))))) f9)
  (e_ (f7 (PW.pt (kg (i7 (iR (gL jx (by rfl) T.jz boot_isinstance (a_ (pv 1) (a_ (jr (v:=.ty "tuple") rfl T.oG boot_tuple rfl) c_))))) (kf (fY l8 (gL uo (by rfl) T.iM PySem.boot_len (a_ (pv 1) c_)) b_ (fV _))))) (fx (fE jb)) f9)
  (e_ (f7 (fY gx (fy (pv 0) b_) gj (fV _)) (e_ (f7 (PW.pt (kg (i7 (iR (gL jx (by rfl) T.jz boot_isinstance (a_ (fy (pv 1) b_) (a_ (jr (v:=.ty "str") rfl T.uQ boot_str rfl) c_))))) (kf (fY l8 (fy (pv 1) b_) (fy (pv 2) b_) (fV _))))) (fx (fE jb)) f9)
  (e_ (pJ (i:=4) nd rfl gQ (g:=(iB 0)) (tt:=(kM (gY mW (gY (iY K) (gF 0) (tC (.int 0))) (gY (iY K) (gF 3) (tC (.int 0)))))) (te:=(gY (iY K) (gF 0) (tC (.int 1)))) (own:=["_law_pair"]) rfl (jY (N:=XE) (sc:=fM (top 47))) (jE (fy (pv 0) b_)) (λ_ _ _ _ _=>(gu (i:=0) (show(["_law_pair","_law_kind_here","_law_found","_law_due_here","_law_name","_law_inner"]:List Str).Nodup by decide +kernel) rfl (Or.inl rfl) (.inr rfl))) (λ_ _ _ _ _=>(pI (fY gx (fy (pv 0) b_) (fy (pv 3) b_) (fV _)))) (λ_ _ _ _ _=>(fy (pv 0) b_)))
  (fx (fE (fL L hr J (a_ (jA (pv 4) b_) (a_ (fy (pv 1) b_) (a_ (fy (pv 2) b_) c_)))))))) f9)
  (e_ (f7 (PW.pt (kg (i7 (iR (gL jx (by rfl) T.jz boot_isinstance (a_ (fy (pv 1) b_) (a_ (jr (v:=.ty "list") rfl T.pS boot_list rfl) c_))))) (kf (fY l8 (gL jj (by rfl) T.iM PySem.boot_len (a_ (fy (pv 1) b_) c_)) (gL jj (by rfl) T.iM PySem.boot_len (a_ (fy (pv 2) b_) c_)) (fV _))))) (fx (fE jb)) f9)
  (e_ (f7 (i7 (iR (fL L hr J (a_ (fy (pv 0) b_) (a_ (fy (pv 1) b_) (a_ (fy (pv 2) b_) c_)))))) (fx (fE jb)) f9)
  (fx (fE (gL (qY rfl) (by rfl) T.rH boot_all (a_ (ma (g:=(qN K 2 (mR (iB 0) (mR (iB 1) qM)))) (tt:=kY) (te:=(lA _ _ _ (iu (gF 2) (iu (gF 0) (iu (gF 1) jW))))) (own:=["_law_a","_law_b"]) rfl (jY (N:=XE) (sc:=fM (top 47))) (B4 rfl T.CD (a_ (fy (pv 1) b_) (a_ (fy (pv 2) b_) c_))) (λ_ _ _ _ _=>(jD rfl (ie (gu (i:=0) (show(XD:List Str).Nodup by decide +kernel) rfl (Or.inl rfl) (.inr rfl)) (ie (gu (i:=1) (show(XD:List Str).Nodup by decide +kernel) rfl (Or.inl rfl) (.inr rfl)) jC)))) (λ_ _ _ _ _=>l_) (λ_ _ _ _ _=>(fL L hr J (a_ (pv 2) (a_ (pv 0) (a_ (pv 1) c_)))))) c_)))))))))))),?_⟩
 ac_rfl
 cases k with
 |num=>
  unfold KA at hk;obtain⟨a,rfl,ha⟩:=hk;unfold jR fU at hF ah;obtain⟨z,rfl⟩:=hF;obtain⟨z2,rfl⟩:=ah;unfold Own at aj ak;obtain⟨rfl,rfl⟩:=aj;obtain⟨rfl,rfl⟩:=ak;refine jy rfl ha rfl (by decide +kernel) ?_;refine⟨_,rfl,_,_,_,true,rfl,.int z,rfl,true,rfl,ig ?_⟩;refine⟨_,rfl,_,_,_,false,rfl,.int z,rfl,false,rfl,true,rfl,ig ?_⟩;refine⟨_,rfl,_,rfl,rfl,?_⟩;exact q _ _ (Same.refl _) (decide_eq_true_iff.trans ⟨λe=>by injection e with e;rw[e],λe=>by injection e with e;rw[e]⟩)
 |gG=>
  unfold KA at hk;obtain⟨a,rfl,ha⟩:=hk;unfold jR fU at hF ah;obtain⟨z,rfl⟩:=hF;obtain⟨z2,rfl⟩:=ah;unfold Own at aj ak;obtain⟨rfl,rfl⟩:=aj;obtain⟨rfl,rfl⟩:=ak;refine gC rfl ha rfl (by decide +kernel) ?_;refine jy rfl ha rfl (by decide +kernel) ?_;refine⟨_,rfl,_,_,_,true,rfl,.str _,rfl,true,rfl,ig ?_⟩;refine⟨_,rfl,_,rfl,rfl,?_⟩;exact q _ _ (Same.refl _) (decide_eq_true_iff.trans ⟨λe=>by injection e with e;rw[e],λe=>by injection e with e;rw[e]⟩)
 |gA fs=>
  unfold KA at hk;obtain⟨a,b,xs,rfl,ha,hb,ai⟩:=hk;unfold jR fU at hF ah;obtain⟨m,rfl,hU⟩:=hF;obtain⟨m2,rfl,aB⟩:=ah;have en:m.names=m2.names:=by rw[hU.names,aB.names]
  unfold Own at aj ak;obtain⟨c1,aO,g1,rfl,U,rfl,am⟩:=aj;obtain⟨c2,bp,g2,rfl,ae,rfl,ap⟩:=ak;unfold Kd.W at hW;unfold D.Sm at al;simp only[D.dep] at aA;have aZ:m.dep<=n:=by omega
  refine gC rfl ha rfl (by decide +kernel) ?_;refine gC rfl ha rfl (by decide +kernel) ?_;refine jy rfl ha rfl (by decide +kernel) ?_;have el:aO.length=xs.length:=by rw[fj.len am,FA.len fs ai,hU.names]
  refine⟨_,rfl,_,_,_,true,rfl,.dK U,rfl,true,rfl,gR ?_⟩;refine⟨_,rfl,.inl ⟨c1,_,rfl,U,_,rfl,a,_,_,_,rfl,rfl,d_.of ha,rfl,b,_,rfl,.inr (d_.of hb),rfl,_,rfl,?_⟩⟩;refine nh (show V.int (aO.length:Nat)=V.int (xs.length:Nat) by rw[el]) ?_;refine⟨_,rfl,a,_,_,_,rfl,rfl,d_.of ha,rfl,b,rfl,⟨_,d_.of hb⟩,l4 (xs:=xs) (λi σ H'=>Same H H'/\(∀j,j<i->k_ m m2 j)/\∃x y,σ=[some (.ref a),some (.ref c1),some (.ref c2),x,y]) ⟨Same.refl _,λj hj=>absurd hj (Q16 _),_,_,rfl⟩ ?_ ?_ ?_⟩
  . rintro i σ H' _ ⟨s2,_⟩;exact d_.of (s2 _ _ hb)
  . rintro i v σ H' hv ⟨s2,hq,x,y,rfl⟩;obtain⟨c,u,nm,k,rfl,aa,hc,hk⟩:=FA.get fs ai hv;obtain⟨d,ht,ax⟩:=hU.at2 aa;obtain⟨d',k9,aM⟩:=aB.at2 aa;have hd:=Ds.sr (hU.nodup hW.1) ht;have a7:=Ds.sr (aB.nodup hW.1) k9;obtain⟨e1,f1,a8,a1,_⟩:=fj.val _ am hd;obtain⟨e2,f2,a9,a2,_⟩:=fj.val _ ap a7;have g1:gI H' c1 (.str nm) (some e1):=by have:=gI.k (k:=Sum.inr nm) (s2 _ _ U);rw[a8] at this;exact this
    have g2:gI H' c2 (.str nm) (some e2):=by have:=gI.k (k:=Sum.inr nm) (s2 _ _ ae);rw[a9] at this;exact this
    refine⟨c,_,rfl,d_.of (s2 _ _ hc),rfl,_,_,rfl,_,_,rfl,rfl,?_⟩;refine⟨_,rfl,_,rfl,c1,_,rfl,g1,false,rfl,gR ?_⟩;refine⟨_,rfl,_,rfl,_,rfl,c1,e1,rfl,g1,_,rfl,_,rfl,c2,e2,rfl,g2,u,e1,e2,k,d,d',f1,f2,rfl,KA.mono (Tu.of s2) k hk,Fs.kr hW.2.2 aa,Own.same s2 a1,Own.same s2 a2,.of ax,.of aM,Q0c (Ds.oF hd) aZ,Ds.p8 al.2 hd,λr H3 s3 hr=>⟨r,rfl,?_⟩⟩;have hr:=k_.one (Ds.sj ht) (Ds.sj k9) hr
    cases r with
    |true=>
     refine gR ⟨s2.trans s3,λj hj=>?_,_,_,rfl⟩;rcases Nat.lt_succ_iff_lt_or_eq.mp hj with h|rfl
     . exact hq j h
     . exact hr.mp rfl
    |false=>
     refine ig (q _ _ (s2.trans s3) ⟨λz=>(by cases z),λz=>?_⟩);have z:D.dct m.gZ=.dct m2.gZ:=z;injection z with z
     have:=(DX en).mpr z i (Ds.lN (Ds.sj ht));exact hr.mpr this
  . rintro σ H' ⟨s2,hq,_⟩;have ll:xs.length=m.len:=by rw[<-lM,hU.names,FA.len fs ai]
    have z:=(DX en).mp λj hj=>hq j (by omega);exact q _ _ s2 ⟨λ_=>(by show D.dct m.gZ=.dct m2.gZ;rw[z]),λ_=>rfl⟩
 |rows key by_ fs=>
  unfold KA at hk;obtain⟨a,b,xs,rfl,ha,hb,ai⟩:=hk;obtain⟨r1,e1,ba⟩:=hF;obtain⟨r2,e2,bb⟩:=ah;obtain⟨x1,aP⟩:∃x,x=gm r1:=⟨_,rfl⟩;obtain⟨x2,aQ⟩:∃x,x=gm r2:=⟨_,rfl⟩;rw[<-aP] at e1;rw[<-aQ] at e2;subst e1;subst e2;unfold Own at aj ak;obtain⟨c1,Y,g1,rfl,U,rfl,am⟩:=aj;obtain⟨c2,af,g2,rfl,ae,rfl,ap⟩:=ak;unfold Kd.W at hW;unfold D.Sm at al;simp only[D.dep] at aA;have an:Y.length=x1.len:=fC.len _ am;have aq:af.length=x2.len:=fC.len _ ap;have a3:=al.1;refine gC rfl ha rfl (by decide +kernel) ?_;refine gC rfl ha rfl (by decide +kernel) ?_;refine gC rfl ha rfl (by decide +kernel) ?_;refine jy rfl ha rfl (by decide +kernel) ?_;refine⟨_,rfl,_,_,_,true,rfl,.lst U,rfl,true,rfl,gR ?_⟩;refine⟨_,rfl,.inr ⟨c1,_,rfl,.inl (fv.of U),_,rfl,c2,_,rfl,.inl (fv.of ae),rfl,_,rfl,?_⟩⟩;by_cases ag:x1.len=x2.len
  case neg=>
   refine vw (λe:V.int (Y.length:Nat)=V.int (af.length:Nat)=>ag (by injection e with e;omega)) (q _ _ (Same.refl _) ⟨λz=>(by cases z),λz=>?_⟩);have z:D.lst x1.gB=.lst x2.gB:=z;injection z with z
   exact absurd (by rw[<-nM x1,z,nM]) ag
  refine nh (show V.int (Y.length:Nat)=V.int (af.length:Nat) by rw[an,aq,ag]) ?_;refine⟨_,rfl,_,rfl,c1,c2,rfl,⟨_,fv.of U⟩,⟨_,fv.of ae⟩,λi m zs H'=>m=Y.length - i/\i<=Y.length/\Same H H'/\∃bs:List Bool,zs=bs.map V.bl/\bs.length=i/\∀j c,bs[j]? =some c->(c=true↔k_ x1 x2 j),⟨Y.length,rfl,Q0a _,Same.refl _,[],rfl,rfl,λj c e=>(by simp at e)⟩,?_⟩;intro i mm zs H' zq;obtain⟨rfl,a4,s2,bs,rfl,ar,av⟩:=zq;by_cases hi:i<Y.length
  . have aC:i<af.length:=by omega
    refine .inr ⟨⟨Y,af,Y[i],af[i],fv.of (s2 _ _ U),fv.of (s2 _ _ ae),Q03 hi,Q03 aC⟩,by rw[Q05,ar];exact g_ (by omega),λx bc y=>?_⟩;obtain⟨p,y1,y2,hp,rfl,e1,e2,rfl⟩:=y;have e1:=e1 _ (fv.of (s2 _ _ U));have e2:=e2 _ (fv.of (s2 _ _ ae));obtain⟨d,fa,aa,aD,_⟩:=fC.get _ am e1;obtain⟨d',fb,ao,aE,_⟩:=fC.get _ ap e2;obtain⟨m1,q1,rfl⟩:=qa (aP ▸ aa);obtain⟨m2,q2,rfl⟩:=qa (aQ ▸ ao);have bd:=Ds.jK aa;have s3:Same H' (upd H' p (.tup [y1,y2])):=Same.new hp;have sa:=s2.trans s3;refine⟨p,_,rfl,d_.of fA,rfl,_,_,rfl,_,_,rfl,rfl,rfl,yes (ig ?_)⟩;refine⟨_,rfl,a,_,_,_,rfl,rfl,d_.of (sa _ _ ha),rfl,ix,λt ht=>?_⟩;have st:Same (upd H' p (.tup [y1,y2])) (upd (upd H' p (.tup [y1,y2])) t (.tup [.str "record",.ref b])):=Same.new ht;have sb:=sa.trans st;refine⟨_,rfl,_,rfl,.ref t,y1,y2,.gA fs,.dct m1,.dct m2,fa,fb,rfl,?_,?_,Own.same sb aD,Own.same sb aE,?_,?_,by omega,Ds.r_ al.2 aa,λr H3 s4 hr=>?_⟩
    . unfold KA;exact⟨t,b,xs,rfl,fA,sb _ _ hb,FA.mono (Tu.of sb) fs ai⟩
    . unfold Kd.W;exact⟨hW.1,hW.2.1,hW.2.2.1⟩
    . unfold jR fU;exact⟨m1,rfl,ba _ q1⟩
    . unfold jR fU;exact⟨m2,rfl,bb _ q2⟩
    . exact⟨Y.length - (i+1),by omega,rfl,hi,sb.trans s4,bs++[r],by rw[Q0i];rfl,by rw[Q0e,ar];rfl,DT av (by rw[ar];exact k_.one aa ao hr)⟩
  . refine .inl ⟨⟨Y,af,fv.of (s2 _ _ U),fv.of (s2 _ _ ae),.inl (Q1e hi)⟩,λp hp=>⟨p,bs,rfl,fv.of fA,q _ _ (s2.trans (Same.new hp)) ((DV av).trans ?_)⟩⟩;rw[show bs.length=x1.len by omega,DW ag];exact⟨λz=>(by show D.lst x1.gB=.lst x2.gB;rw[z]),λz=>by injection z⟩
 |tree k=>
  have be:=hk;unfold KA at hk;obtain⟨a,u,rfl,ha,bf⟩:=hk;unfold jR fU at hF ah;have bg:=hW;unfold Kd.W at hW;obtain⟨x,y,t,as,rfl,bh,ai⟩:=hF.shape;obtain⟨x',y',t',au,rfl,a5,a6⟩:=ah.shape
  have key:(D.tup (.cons x t (.cons y (.lst as) .nil))).nl=(D.tup (.cons x' t' (.cons y' (.lst au) .nil))).nl↔t.nl=t'.nl/\as.gB=au.gB:=by
   show D.tup (.cons "" t.nl (.cons "" (.lst as.gB) .nil))=.tup (.cons "" t'.nl (.cons "" (.lst au.gB) .nil))↔_;exact⟨λz=>by injection z with z;injection z with _ z1 z2;injection z2 with _ z2 _;injection z2 with z2;exact⟨z1,z2⟩,λz=>by rw[z.1,z.2]⟩
  obtain⟨c1,u1,w1,aG,bq,rfl,U,rfl,aH,aT⟩:=aj.pair;obtain⟨c2,u2,w2,aI,br,rfl,ae,rfl,aJ,aU⟩:=ak.pair;unfold Own at aT aU;obtain⟨l1,Y,g1,rfl,an,rfl,am⟩:=aT;obtain⟨l2,af,g2,rfl,aq,rfl,ap⟩:=aU;simp only[D.dep,Ds.dep] at aA;unfold D.Sm Ds.Sm at al;obtain⟨_,aV,aw⟩:=al;unfold Ds.Sm at aw;have aK:=aw.1;unfold D.Sm at aK;have a3:=aK.1;have bi:Y.length=as.len:=fC.len _ am;have bj:af.length=au.len:=fC.len _ ap;refine gC rfl ha rfl (by decide +kernel) ?_;refine gC rfl ha rfl (by decide +kernel) ?_;refine gC rfl ha rfl (by decide +kernel) ?_;refine gC rfl ha rfl (by decide +kernel) ?_;refine⟨_,rfl,_,_,_,true,rfl,.tup U,rfl,true,rfl,gR ?_⟩;refine⟨_,rfl,.inr ⟨c1,_,rfl,.inr (d_.of U),rfl,_,rfl,nh rfl ?_⟩⟩;refine gC rfl ha rfl (by decide +kernel) ?_;refine⟨_,rfl,c1,_,_,_,rfl,rfl,d_.of U,rfl,_,_,_,true,rfl,.lst an,rfl,true,rfl,gR ?_⟩;refine⟨_,rfl,c1,_,_,_,rfl,rfl,d_.of U,rfl,l1,_,rfl,.inl (fv.of an),_,rfl,c2,_,_,_,rfl,rfl,d_.of ae,rfl,l2,_,rfl,.inl (fv.of aq),rfl,_,rfl,?_⟩;by_cases ag:as.len=au.len
  case neg=>
   refine vw (λe:V.int (Y.length:Nat)=V.int (af.length:Nat)=>ag (by injection e with e;omega)) (q _ _ (Same.refl _) ⟨λz=>(by cases z),λz=>?_⟩);exact absurd (by rw[<-nM as,(key.mp z).2,nM]) ag
  refine nh (show V.int (Y.length:Nat)=V.int (af.length:Nat) by rw[bi,bj,ag]) ?_;refine⟨_,rfl,a,_,_,_,rfl,rfl,d_.of ha,rfl,_,rfl,c1,_,_,_,rfl,rfl,d_.of U,rfl,_,rfl,c2,_,_,_,rfl,rfl,d_.of ae,rfl,u,u1,u2,k,t,t',aG,aI,rfl,bf,hW,aH,aJ,.of bh,.of a5,by omega,aV,λr H1 s1 hr=>⟨r,rfl,?_⟩⟩
  cases r with
  |false=>exact ig (q _ _ s1 ⟨λz=>(by cases z),λz=>hr.mpr (key.mp z).1⟩)
  |true=>
  refine gR ?_;refine⟨_,rfl,c1,_,_,_,rfl,rfl,d_.of (s1 _ _ U),rfl,_,rfl,c2,_,_,_,rfl,rfl,d_.of (s1 _ _ ae),rfl,l1,l2,rfl,⟨_,fv.of (s1 _ _ an)⟩,⟨_,fv.of (s1 _ _ aq)⟩,λi m zs H'=>m=Y.length - i/\i<=Y.length/\Same H H'/\∃bs:List Bool,zs=bs.map V.bl/\bs.length=i/\∀j c,bs[j]? =some c->(c=true↔k_ as au j),⟨Y.length,rfl,Q0a _,s1,[],rfl,rfl,λj c e=>(by simp at e)⟩,?_⟩;intro i mm zs H' zq;obtain⟨rfl,a4,s2,bs,rfl,ar,av⟩:=zq;by_cases hi:i<Y.length
  . have aC:i<af.length:=by omega
    refine .inr ⟨⟨Y,af,Y[i],af[i],fv.of (s2 _ _ an),fv.of (s2 _ _ aq),Q03 hi,Q03 aC⟩,by rw[Q05,ar];exact g_ (by omega),λx bc y=>?_⟩;obtain⟨p,x1,x2,hp,rfl,e1,e2,rfl⟩:=y;have e1:=e1 _ (fv.of (s2 _ _ an));have e2:=e2 _ (fv.of (s2 _ _ aq));obtain⟨d,fa,aa,aD,_⟩:=fC.get _ am e1;obtain⟨d',fb,ao,aE,_⟩:=fC.get _ ap e2;have bd:=Ds.jK aa;have s3:Same H' (upd H' p (.tup [x1,x2])):=Same.new hp;have sa:=s2.trans s3;refine⟨p,_,rfl,d_.of fA,rfl,_,_,rfl,_,_,rfl,rfl,rfl,yes (ig ?_)⟩;refine⟨_,rfl,_,rfl,_,rfl,.ref a,x1,x2,.tree k,d,d',fa,fb,rfl,KA.mono (Tu.of sa) _ be,bg,Own.same sa aD,Own.same sa aE,.of (by unfold fU;exact iL.at ai aa),.of (by unfold fU;exact iL.at a6 ao),by omega,Ds.r_ aK.2 aa,λr H3 s4 hr=>?_⟩;exact⟨Y.length - (i+1),by omega,rfl,hi,sa.trans s4,bs++[r],by rw[Q0i];rfl,by rw[Q0e,ar];rfl,DT av (by rw[ar];exact k_.one aa ao hr)⟩
  . refine .inl ⟨⟨Y,af,fv.of (s2 _ _ an),fv.of (s2 _ _ aq),.inl (Q1e hi)⟩,λp hp=>⟨p,bs,rfl,fv.of fA,q _ _ (s2.trans (Same.new hp)) ((DV av).trans ?_)⟩⟩;rw[show bs.length=as.len by omega,DW ag,key];exact⟨λz=>⟨hr.mp rfl,z⟩,λz=>z.2⟩
 |ia fs=>
  unfold KA at hk;obtain⟨a,b,xs,rfl,ha,hb,ai⟩:=hk;unfold jR fU at hF ah;obtain⟨x,v',rfl,hE⟩:=hF;obtain⟨x2,v2,rfl,bm⟩:=ah
  have key:(pairD (.str x) v').nl=(pairD (.str x2) v2).nl↔x=x2/\v'.nl=v2.nl:=by
   show D.tup (.cons "" (.str x) (.cons "" v'.nl .nil))=.tup (.cons "" (.str x2) (.cons "" v2.nl .nil))↔_;exact⟨λz=>by injection z with z;injection z with _ z1 z2;injection z1 with z1;injection z2 with _ z2 _;exact⟨z1,z2⟩,λz=>by rw[z.1,z.2]⟩
  obtain⟨c1,z1,u1,bt,aG,rfl,U,rfl,aW,aH⟩:=aj.pair;obtain⟨c2,z2,u2,bu,aI,rfl,ae,rfl,aX,aJ⟩:=ak.pair;unfold Own at aW aX;obtain⟨rfl,rfl⟩:=aW;obtain⟨rfl,rfl⟩:=aX;unfold Kd.W at hW;simp only[D.dep,Ds.dep] at aA;unfold D.Sm Ds.Sm at al;obtain⟨_,aV,aw⟩:=al;unfold Ds.Sm at aw;obtain⟨k,ay,ax⟩:=sg hE;obtain⟨j,hj⟩:=Fs.qh ay;obtain⟨c,u,aL,hc,bn⟩:=FA.at ai hj;have bv:j<xs.length:=(List.getElem?_eq_some_iff.mp aL).1;have bw:xs.length<=12:=by rw[FA.len fs ai];exact hW.2.1
  refine gC rfl ha rfl (by decide +kernel) ?_;refine gC rfl ha rfl (by decide +kernel) ?_;refine gC rfl ha rfl (by decide +kernel) ?_;refine gC rfl ha rfl (by decide +kernel) ?_;refine⟨_,rfl,_,_,_,true,rfl,.tup U,rfl,true,rfl,gR ?_⟩;refine⟨_,rfl,.inr ⟨c1,_,rfl,.inr (d_.of U),rfl,_,rfl,nh rfl ?_⟩⟩;refine jy rfl ha rfl (by decide +kernel) ?_;refine⟨_,rfl,c1,_,_,_,rfl,rfl,d_.of U,rfl,_,_,_,true,rfl,.str _,rfl,true,rfl,gR ?_⟩;refine⟨_,rfl,c1,_,_,_,rfl,rfl,d_.of U,rfl,_,rfl,c2,_,_,_,rfl,rfl,d_.of ae,rfl,rfl,_,rfl,?_⟩;by_cases hx:x=x2
  case neg=>exact vw (λe:V.str x=V.str x2=>hx (by injection e)) (q _ _ (Same.refl _) ⟨λz=>(by cases z),λz=>absurd (key.mp z).1 hx⟩)
  subst hx;refine nh rfl ?_;obtain⟨k',az,aN⟩:=sg bm;rw[ay] at az
  cases az;refine⟨_,rfl,a,_,_,_,rfl,rfl,d_.of ha,rfl,b,rfl,⟨_,d_.of hb⟩,nQ (qg (d_.of hb)) (λi=>if j<i then [u] else []) (by omega) (λp hp=>?_) (λi z hv add skip=>?_) (if_neg (Q16 _))⟩
  . rw[if_pos (List.getElem?_eq_some_iff.mp aL).1];have s1:Same H (upd H p (.lst [u])):=Same.new hp
    exact⟨_,rfl,p,_,_,_,rfl,rfl,fv.of fA,jX (j:=0) rfl,_,rfl,c1,_,_,_,rfl,rfl,d_.of (s1 _ _ U),rfl,_,rfl,c2,_,_,_,rfl,rfl,d_.of (s1 _ _ ae),rfl,
     u,u1,u2,k,v',v2,aG,aI,rfl,KA.mono (Tu.of s1) k bn,Fs.si hW.2.2.2 ay,Own.same s1 aH,Own.same s1 aJ,.of ax,.of aN,by omega,aw.1,λr H2 s2 hr=>q _ _ (s1.trans s2) (hr.trans ⟨λz=>key.mpr ⟨rfl,z⟩,λz=>(key.mp z).2⟩)⟩
  . obtain⟨d,w',nm,k',rfl,aa,hd,bx⟩:=FA.get _ ai hv;refine⟨rfl,_,rfl,d,_,_,_,rfl,rfl,d_.of hd,rfl,_,rfl,c2,_,_,_,rfl,rfl,d_.of ae,rfl,rfl,_,rfl,gO (λcc=>?_) (λcc=>skip ?_)⟩
    . have e:nm=x:=by
       have:=of_decide_eq_true cc;injection this
      subst e
      cases Fs.DQ hW.1 aa hj;rw[aL] at hv
      cases hv;rw[hc] at hd
      cases hd;refine⟨_,rfl,c,_,_,_,rfl,rfl,d_.of hc,rfl,add _ ?_⟩;rw[if_neg (Q0r _),if_pos (Q1 _)];rfl
    . have ne:i≠j:=λe=>by
       subst e;rw[aa] at hj
       cases hj;exact cc (decide_eq_true rfl)
      by_cases aY:j<i
      . rw[if_pos aY,if_pos (by omega)]
      . rw[if_neg aY,if_neg (by omega)]
theorem DY (T:Tb mg)(J:Dn K mg "_law_alike" nF (top 47) L U):∀n:Nat,fm P w K mg base fw (n+1) L U nF (oR n)
 |0=>by
  have Y:∀vs H Q E,¬oR 0 vs H Q E:=λvs H Q E h=>by
   obtain⟨_,_,_,_,d,_,_,_,_,_,_,_,_,_,_,hd,_⟩:=h;have:=d.k6;omega
  exact⟨λvs H Q E h=>absurd h (Y vs H Q E),λA outer s H args us vs Q E _ _ _ _ h=>absurd h (Y vs H Q E)⟩
 |n+1=>KL n T J (DY T J n)
end Pb
namespace L2
open Spec PyProof.Rows
section
variable {prog:Program}{w:World}{A:Around}{E:Value->Shared->Prop}{hp:Heap}{g:Array GenState}{dr:Drawn}{tk:Nat}{os:OsState}{C fI:Addr}{MV:List Value}{B nid MW:String}
end
end L2
namespace L2
open Spec Calls PyProof.Rows W Builtin Builtin.ObjectAttr
section
variable {prog:Program}{w:World}{A:Around}{E:Value->Shared->Prop}{s:Shared}{K:Frag}{x C:Addr}{ox:Obj}{name:Str}{v:Value}
end
end L2
namespace L2
open Spec Calls PyProof.Rows W Builtin Builtin.ObjectAttr Builtin.Getset_descriptor
section
variable {prog:Program}{w:World}{A:Around}{E:Value->Shared->Prop}{K:Frag}{h:Heap}{g:Array GenState}{d:Drawn}{t:Nat}{os:OsState}{a C dx:Addr}{o:Obj}{vs:Array Value}{mA:Str->Option Value}{name:Str}{v:Value}
end
end L2
namespace L2
open Spec PyProof.Rows
section
variable {M:Model}{A:Around}{E:Value->Shared->Prop}{s:Shared}
structure mz (h:Heap) (e T:Addr) (cls:Value) (dd:Option Addr) (fl:Value):Prop where
 ex:∃oe vs,h.get? e=some oe/\oe.cls=cls/\oe.dict=dd/\oe.data=.fields vs/\vs[1]? =some (.ref T)
 tb:∃oT ts,h.get? T=some oT/\oT.data=.fields ts/\ts[3]? =some fl
 ne:T≠e
theorem DZ {e T:Addr}{cls fl:Value}{dd:Option Addr}{Q:Unit->Shared->Prop}(t:mz s.heap e T cls dd fl)(h:∀h',mz h' e T cls dd .none->(∀b o,b≠T->s.heap.get? b=some o->h'.get? b=some o)->(∃o',h'.get? T=some o')->Q () { s with heap:=h' }):wpAny M A (setFlight (.ref e) none) Q E s:=by
 obtain⟨⟨Y,vs,he,hc,U,hd,h1⟩,⟨oT,ts,hT,J,h3⟩,ne⟩:=t;have em:Obj.mapFields (·.setIfInBounds 3 ((none:Option Addr).elim Value.none λf=>rawInt f)) oT={ oT with data:=.fields (ts.setIfInBounds 3 .none) }:=uC J;have hsz:=(Array.getElem?_eq_some_iff.mp h3).1;unfold setFlight;refine Q00 (wpAny_field he hd h1 ?_);rw[if_pos (show(Value.ref T != Value.none)=true by simp)];have self:=Q1x (Obj.mapFields (·.setIfInBounds 3 ((none:Option Addr).elim Value.none λf=>rawInt f))) hT (by rw[em];exact Obj.isFreed_of_fields rfl);rw[em] at self
 have L:∀b o,b≠T->s.heap.get? b=some o->(s.heap.update T (Obj.mapFields (·.setIfInBounds 3 ((none:Option Addr).elim Value.none λf=>rawInt f)))).get? b=some o:=λb o hb ho=>by
  rw[Q15 _ _ (Ne.symm hb)];exact ho
 exact wpAny_setField hT J hsz (h _ ⟨⟨Y,vs,L e Y (Ne.symm ne) he,hc,U,hd,h1⟩,⟨_,_,self,rfl,by simp[hsz]⟩,ne⟩ L ⟨_,self⟩)
theorem KN {base:Heap}{env:Env}{outer:List Env}{L e T:Addr}{cls:Value}{dd:Option Addr}{Q:Unit->Shared->Prop}(af:A.frames=some (env::outer))(hl:s.heap.FunFrames base (env::outer))(hf:env.frame=some L)(t:mz s.heap e T cls dd .none)
 (h:∀(h':Heap) (T':Addr),s.heap.objs.size<=T'->(∀b o,b ∉ frs (env::outer)->b≠e->b≠T->s.heap.get? b=some o->h'.get? b=some o)->(∀b o,b≠e->b≠T->s.heap.get? b=some o->∃sl,h'.get? b=some { o with slots:=sl })->(∃o,h'.get? T=some o)->mz h' e T' cls dd (rawInt L)->Q () { s with heap:=h' }):
 wpAny M A (noteFrame (.ref e) env) Q E s:=by
 obtain⟨⟨oe,vs,he,hc,ag,hd,h1⟩,⟨oT,ts,hT,U,h3⟩,ne⟩:=t;have hsz:=(Array.getElem?_eq_some_iff.mp h3).1;have em:Obj.mapFields (·.setIfInBounds 3 Value.none) oT={ oT with data:=.fields (ts.setIfInBounds 3 .none) }:=uC U;unfold noteFrame;simp only[hf];refine Q00 (wpAny_field he hd h1 ?_);rw[if_pos (show(Value.ref T != Value.none)=true by simp)];refine Q00 (wpAny_field hT U h3 ?_);rw[if_neg (show ¬(Value.none == rawInt L)=true by simp[rawInt])];refine Q00 (wpAny_setField hT U hsz ?_);have self:=Q1x (Obj.mapFields (·.setIfInBounds 3 Value.none)) hT (by rw[em];exact Obj.isFreed_of_fields rfl);rw[em] at self
 have Y:∀b o,b≠T->s.heap.get? b=some o->(s.heap.update T (Obj.mapFields (·.setIfInBounds 3 Value.none))).get? b=some o:=λb o hb J=>by
  rw[Q15 _ _ (Ne.symm hb)];exact J
 have nT:∀b o,s.heap.get? b=some o->(∀vs,o.data≠ .fields vs)->b≠T:=λb o J hn z=>by
  rw[z,hT] at J
  cases J;exact hn ts U
 have ac:(s.heap.update T (Obj.mapFields (·.setIfInBounds 3 Value.none))).objs.size=s.heap.objs.size:=Q2j _ _ _;refine IK (s:={ s with heap:=s.heap.update T (Obj.mapFields (·.setIfInBounds 3 Value.none)) }) af (hl.of_keeps λb o J hn=>⟨o,Y b o (nT b o J hn) J,rfl⟩) hf (Y e oe (Ne.symm ne) he) hd (Array.getElem?_eq_some_iff.mp h1).1 λh' T' ah hP ai aj=>?_;have ae:s.heap.objs.size<=T':=by rw[<-ac];exact ah
 refine h h' T' ae (λb o hb aa ab J=>hP.1 b o hb aa (Y b o ab J)) (λb o aa ab J=>hP.2 b o aa (Y b o ab J)) ?_ ⟨⟨_,_,ai,hc,ag,rfl,by simp[(Array.getElem?_eq_some_iff.mp h1).1]⟩,aj,?_⟩
 . obtain⟨sl,hs⟩:=hP.2 T _ ne self;exact⟨_,hs⟩
 . have h1:e<s.heap.objs.size:=Q02 he;exact λz=>Q0r e (Q0f h1 (by rw[<-z];exact ae))
end
section
variable {X:Cx}{pins:List (Addr × Obj)}{σ:St}{H:Hp}{s:Shared}
end
def KO (P:Program) (w:World):jG:=λouter H s E e s'=>∃(a T C:Addr) (dd:Option Addr) (H':Hp),e=.ref a/\mz s'.heap a T (.ref C) dd .none/\s.heap.get? a=none/\s.heap.get? T=none/\H' a=none/\H' T=none/\s'.os=s.os/\AllBare s'.gens/\Un (frs outer) [] H H' s.heap s'.heap/\g8 P w H' s'.heap/\E (.ref C) dd H'
section
variable {M:Model}{A:Around}{E:Value->Shared->Prop}{s:Shared}
end
section
variable {X:Cx}{pins:List (Addr × Obj)}{σ:St}{H:Hp}{s:Shared}
end
noncomputable def nR (a C:Addr) (dd:Option Addr):HO:=.ext λh=>∃o,h.get? a=some o/\o.cls=.ref C/\o.dict=dd/\∃vs,o.data=.fields vs
theorem nR.ok {P:Program}{w:World}{H:Hp}{h:Heap}{a C:Addr}{dd:Option Addr}(e:∃o,h.get? a=some o/\o.cls=.ref C/\o.dict=dd/\∃vs,o.data=.fields vs):h_ P w H h a (nR a C dd):=
 ⟨e,let⟨o,h1,_⟩:=e;⟨o,h1⟩,λ_ _ ⟨o,h1,h2⟩ k=>⟨o,k o h1,h2⟩⟩
def vx (X:Cx) (pins:List (Addr × Obj)) (σ:St) (Ek:XK) (e:Value) (s':Shared):Prop:=∃H s,Inv X pins σ H s/\KO X.prog X.w X.stack H s Ek e s'
def D1 (X:Cx) (Ek:XK) (e:Expr) (t:TE):Prop:=
 ∀(pins:List (Addr × Obj)) (s:Shared) (σ:St) (H:Hp) (Q:VK),Inv X pins σ H s->t σ H Q->wpAny (model X.prog X.w) X.A (eval e X.env) (EP X pins σ Q) (vx X pins σ Ek) s
def D2 (X:Cx) (Ek:XK) (st:List Stmt) (t:TS):Prop:=
 ∀(pins:List (Addr × Obj)) (s:Shared) (σ:St) (H:Hp) (D:Ends),Inv X pins σ H s->t D σ H->wpAny (model X.prog X.w) X.A (execs st X.env) (SP X pins D) (vx X pins σ Ek) s
section
variable {X:Cx}{k:Nat}{f:Addr}{fd:FuncData}{ps:List Str}{sp:Sp}{iK:List V}{ds:List Value}{Ek:XK}{x:Str}{p pos:Pos}{e:Expr}{es:List Expr}{t:TA}{te:TE}
theorem D3 (J:D1 X Ek e te):D2 X Ek [.Return (some e) pos] (Az te):=by
 intro pins s σ H D I h;exact wpAny_execs_cons (wpAny_Return_some (Q0n (J pins s σ H _ I h) (λv s1 ⟨x,H1,L,U,Y⟩=>⟨x,σ,H1,L,U,Y⟩) λ_ _ z=>z))
end
theorem KP {X:Cx}{pins:List (Addr × Obj)}{σ:St}{Ek:XK}{e:Value}{s':Shared}{Q:Unit->Shared->Prop}{E:Value->Shared->Prop}(ab:X.stack=X.env::X.outer)(ag:X.env.frame=some X.env.locals)(h:vx X pins σ Ek e s')
 (q:∀(a C T:Addr) (dd:Option Addr) (H':Hp) (h2:Heap),e=.ref a->H' a=none->Ek (.ref C) dd H'->mz h2 a T (.ref C) dd .none->Inv X pins σ (upd H' a (nR a C dd)) { s' with heap:=h2 }->
   (∀L:Heap,mz L a T (.ref C) dd .none->(∀b o,b≠T->h2.get? b=some o->L.get? b=some o)->Inv X pins σ (upd H' a (nR a C dd)) { s' with heap:=L })->Q () { s' with heap:=h2 }):
 wpAny (model X.prog X.w) X.A (noteFrame e X.env) (λ_ s2=>wpAny (model X.prog X.w) X.A (setFlight e none) Q E s2) E s':=by
 obtain⟨H,s,I,a,T,C,dd,H',rfl,t,la,lT,na,nT,os,aa,un,ac,hE⟩:=h;have I':=I.call' (s':=s') (ch:=[]) os un ac aa (λb z=>absurd z (by simp));have ah:X.A.frames=some (X.env::X.outer):=by rw[<-ab];exact I.ok.frames
 have hl:s'.heap.FunFrames X.base (X.env::X.outer):=by rw[<-ab];exact I'.stack
 refine KN ah hl ag t λh1 T1 ai k1 k2 am t1=>?_;refine DZ (s:={ s' with heap:=h1 }) t1 λh2 t2 k3 an=>?_
 have Y:∀b o,s'.heap.get? b=some o->b≠T1:=λb o e z=>by
  have L:=Q02 e;rw[z] at L;exact Q0r _ (Q0f L ai)
 have key:∀L:Heap,mz L a T1 (.ref C) dd .none->(∀b o,b≠T1->h2.get? b=some o->L.get? b=some o)->Inv X pins σ (upd H' a (nR a C dd)) { s' with heap:=L }:=λL t3 k4=>by
  have m1:∀b o,b ∉ frs X.stack->b≠a->b≠T->s'.heap.get? b=some o->L.get? b=some o:=λb o U n1 n2 e=>
   k4 b o (Y b o e) (k3 b o (Y b o e) (k1 b o (by rw[<-ab];exact U) n1 n2 e))
  have m2:∀b o,b≠a->b≠T->s'.heap.get? b=some o->∃sl,L.get? b=some { o with slots:=sl }:=λb o n1 n2 e=>by
   obtain⟨sl,e1⟩:=k2 b o n1 n2 e;exact⟨sl,k4 b _ (Y b o e) (k3 b _ (Y b o e) e1)⟩
  have J:∀b o,s.heap.get? b=some o->b≠a/\b≠T:=λb o e=>⟨(λz=>by rw[z,la] at e;cases e),λz=>by rw[z,lT] at e;cases e⟩;refine I.call' (s':={ s' with heap:=L }) (ch:=[]) os ⟨λb o e n U _=>?_,λb o e n U hx=>?_,λb o e n hx=>?_,λb o e hx=>?_,λb xs e=>?_,λb o u e=>?_,λb ps e=>?_⟩ (λb o e=>?_) aa (λb z=>absurd z (by simp))
  . exact m1 b o U (J b o e).1 (J b o e).2 (un.keep b o e n U (by simp))
  . obtain⟨sl,e1⟩:=un.slot b o e n U hx;obtain⟨ae,e2⟩:=m2 b _ (J b o e).1 (J b o e).2 e1;exact⟨ae,e2⟩
  . rw[fk (J b o e).1];exact un.free b o e n hx
  . obtain⟨o',e1⟩:=un.there b o e hx;obtain⟨ae,e2⟩:=m2 b _ (J b o e).1 (J b o e).2 e1;exact⟨_,e2⟩
  . have:=un.tups b xs e;rw[fk (fJ this na)];exact this
  . have:=un.j4 b o u e;rw[fk (fJ this na)];exact this
  . obtain⟨af,this⟩:=un.j6 b ps e;exact⟨af,by rw[fk (fJ this na)];exact this⟩
  . by_cases U:b=a
    . subst U;rw[fA] at e
      cases e;obtain⟨oe,vs,he,hc,aj,ak,_⟩:=t3.ex;exact nR.ok ⟨oe,he,hc,aj,vs,ak⟩
    . rw[fk U] at e;refine(ac b o e).stay (λc u hc r=>?_) (λc r=>by rw[fk (fJ r na)];exact r) λc xs r=>by rw[fk (fJ r na)];exact r
      have al:∃v,H' c=some v:=by
       rcases hc with z|z
       . exact⟨o,by rw[z];exact e⟩
       . exact⟨_,z⟩
      obtain⟨v,hv⟩:=al;refine m1 c u (λz=>?_) (fJ hv na) (fJ hv nT) r;rw[I'.qG c z] at hv;cases hv
 exact q a C T1 dd H' h2 rfl na hE t2 (key h2 t2 λ_ _ _ e=>e) key
def KQ (Ek:XK) (i:Nat) (tb J:TS):TS:=λD σ H=>tb D σ H/\∀(a C:Addr) (dd:Option Addr) (H':Hp),H' a=none->Ek (.ref C) dd H'->J (D.un i) (σ.set i (some (.ref a))) (upd H' a (nR a C dd))
theorem D4 {X:Cx}{body:List Stmt}{x n:Str}{Dc:Addr}{Ek:XK}{i:Nat}{U:Stmt}{L:List Stmt}{np ab pos:Pos}{tb ts:TS}(ac:X.stack=X.env::X.outer)(ae:X.env.frame=some X.env.locals)
 (hb:D2 X Ek body tb) (hg:Gl X x) (hm:X.mg x=some (.ref Dc)) (h1:W.typeIn X.K (.ref Dc)=some (.type "type")) (h2:(W.clsIn X.K Dc).isSome=true) (h3:W.subIn X.K (.ref Dc) (.type "BaseException")=some true)
 (h4:∀C dd H,Ek (.ref C) dd H->W.subIn X.K (.ref C) (.ref Dc)=some true) (hN:X.N.Nodup) (hi:X.N[i]? =some n) (J:X.env.kindOf n=some .local) (hs:∀a,jo (X.marked a) (U::L) ts) (hd:(x == ("__debug__":Str))=false:=by decide):
 PS X (.Try body [.ExceptHandler (some (.Name x np)) (some n) (U::L) ab] [] [] pos) (KQ Ek i tb ts):=by
 intro pins s σ H D I h;obtain⟨hq,hk⟩:=h;refine wpAny_Try_except (Q0n (hb pins s σ H D I hq) (λf s1 q=>?_) λe s1 z=>?_)
 . cases f with
   |next=>exact wpAny_execs_nil q
   |ret v=>exact q
   |brk=>exact q
   |cont=>exact q
 . refine KP ac ae z λa C T dd H' ag e1 na hE t2 I2 key=>?_;subst e1;have ok:=I2.ok;refine wpAny_handleBy_cons (codeAny_handlers_test ?_) (by intro q;cases q);refine tM (X:=X.marked a) (I2.marked a) hg hm ?_ hd;obtain⟨oe,vs,he,hc,_⟩:=id t2.ex;refine IL I2.ir h1 h2 h3 (h4 C dd H' hE) he hc ?_;simp only[if_true];refine codeAny_handlers_suite_as ?_;refine DZ t2 λaf t3 k3 _=>?_;have I3:=key af t3 k3;refine qH I3 hN hi (.inl J) (show RelV (.ref a) (.ref a) from rfl) (λs4 I4=>?_) (.inr J);refine Q0n (hs a pins s4 _ _ (D.un i) (I4.marked a) (hk a C dd H' na hE)) (λf s5 q=>?_) λ_ _ z=>False.elim z;show wpAny _ _ _ _ _ _
   cases f with
   |next=>
    obtain⟨aa,H5,Y,q⟩:=q;exact(Y.unmarked ok).unbind hN hi J λs6 I6=>⟨_,_,I6,q⟩
   |ret v=>
    obtain⟨y,aa,H5,Y,r,q⟩:=q;exact(Y.unmarked ok).unbind hN hi J λs6 I6=>⟨y,_,_,I6,r,q⟩
   |brk=>
    obtain⟨aa,H5,Y,q⟩:=q;exact(Y.unmarked ok).unbind hN hi J λs6 I6=>⟨_,_,I6,q⟩
   |cont=>
    obtain⟨aa,H5,Y,q⟩:=q;exact(Y.unmarked ok).unbind hN hi J λs6 I6=>⟨_,_,I6,q⟩
section
variable {X:Cx}{pins:List (Addr × Obj)}{σ:St}{H:Hp}{s:Shared}
end
section
variable {X:Cx}
end
section
variable {X:Cx}{k:Nat}{f C:Addr}{fd:FuncData}{ps:List Str}{sp:Sp}{Ek:XK}{m:Str}{p pos apos:Pos}{e o:Expr}{es:List Expr}{t:TA}{te ta:TE}
theorem D5 (J:PE X.gg e te):D1 X Ek e te:=λpins s σ H Q I h=>
 Q0n (J pins s σ H Q (I.wish _) h) (λ_ _ ⟨v,H',L,r,q⟩=>⟨v,H',L.lx,r,q⟩) λ_ _ z=>False.elim z
end
noncomputable def hk (l:List Key) (q:Key):Bool:=l.any λx=>decide (x=q)
noncomputable def stepK (l:List Key) (k:Key):List Key:=if hk l k=true then l else l++[k]
theorem D6 {prog:Program}{w:World}{h:Heap}{a:Addr}{S J:Key->Bool}{n n':Nat}(L:h.SetOf (h9 prog w) a S n)(e:∀k,S k=J k)(U:n=n'):h.SetOf (h9 prog w) a J n':=by
 obtain rfl:S=J:=funext e;subst U;exact L
noncomputable def iH (v:Nat->Key):Nat->List Key
 |0=>[]
 |i+1=>stepK (iH v i) (v i)
theorem D7 (v:Nat->Key):∀i,(iH v i).length<=i
 |0=>Q0 _
 |i+1=>by
  have:=D7 v i;show(stepK (iH v i) (v i)).length<=i+1;unfold stepK;split
  . omega
  . rw[Q0e];exact Q3c this
theorem KR (l m:List Key)(q:Key):hk (l++m) q=(hk l q || hk m q):=List.any_append
theorem KS (l:List Key)(k q:Key):hk (stepK l k) q=(hk l q || decide (q=k)):=by
 unfold stepK;split
 . rename_i h;by_cases e:q=k
   . subst e;rw[h];rfl
   . rw[decide_eq_false e,Bool.or_false]
 . rw[KR]
   have:hk [k] q=decide (q=k):=by
    show(decide (k=q) || false)=_;rw[Bool.or_false];by_cases e:q=k
    . subst e;rfl
    . rw[decide_eq_false e,decide_eq_false λz=>e z.symm]
   rw[this]
theorem KU (l:List Key)(k:Key):(stepK l k).length=if hk l k=true then l.length else l.length+1:=by
 unfold stepK;split
 . rfl
 . rw[Q0e];rfl
theorem KW {l:List Key}{q:Key}:hk l q=true↔q∈l:=by
 unfold hk;rw[Q1u];constructor
 . rintro⟨x,h1,h2⟩;rw[<-of_decide_eq_true h2];exact h1
 . intro h;exact⟨q,h,decide_eq_true rfl⟩
theorem D8 {v:Nat->Key}:∀{i:Nat},((List.range i).map v).Nodup->iH v i=(List.range i).map v
 |0,_=>rfl
 |i+1,h=>by
  rw[Q35,Q0i] at h ⊢;obtain⟨h1,h2,J⟩:=List.nodup_append.mp h;show stepK (iH v i) (v i)=_;rw[D8 h1];unfold stepK;rw[if_neg]
  . rfl
  . intro z;exact J _ (KW.mp z) (v i) (List.mem_singleton.mpr rfl) rfl
section
variable {prog:Program}{w:World}{A:Around}{R:Result->Shared->Prop}{I:Addr}{fp wr:List Addr}{G:Array GenState->Array GenState->Prop}{n:Nat}{Pp:Nat->Value->Prop}{St':Nat->Shared->Prop}
theorem KY (W:WalksS prog w A.in1 I fp wr G n Pp St')(S:Addr)(sf:S ∉ fp)(v:Nat->Key)(hv:∀i u,Pp i u->(h9 prog w).is (v i) u=true/\u.scannable=true)(bd:n+1<scanBound):
 ∀(k i:Nat) (s:Shared),n - i=k->i<=n->St' i s->s.heap.SetOf (h9 prog w) S (λq=>hk (iH v i) q) (iH v i).length->
  (∀s',Moved (S::wr) G s s'->s'.heap.SetOf (h9 prog w) S (λq=>hk (iH v n) q) (iH v n).length->R (.ok (.ret .none)) s')->
  codeAny (model prog w) A (.builtin "set.update.loop" ⟨[.ref S,.ref I],[]⟩) R s:=by
 have sw:S ∉ wr:=λz=>sf (W.sub _ z);have up:∀b∈wr,b∈S::wr:=λb z=>Q04 _ z;intro k
 induction k with
 |zero=>
  intro i s e1 e2 st so fin;obtain rfl:i=n:=by omega
  refine codeAny_builtin PyProof.Rows.F.entry_set_update_loop ?_;rw[Around.under_plainId PyProof.Rows.F.plain_set_update_loop _];show wpAny _ A.in1 (pyNext (.ref I) >>= _) _ _ s;refine Q00 (W.done s _ _ st λs' L=>?_);show wpAny _ A.in1 (ret Value.none) _ _ s';obtain⟨o,es,U,t,Y,J⟩:=so;exact Q0d (fin s' (L.mono up) ⟨o,es,U,t,L.heap S _ sw Y,J⟩)
 |succ k ih=>
  intro i s e1 e2 st so fin;have lt:i<n:=by omega
  refine codeAny_builtin PyProof.Rows.F.entry_set_update_loop ?_;rw[Around.under_plainId PyProof.Rows.F.plain_set_update_loop _];show wpAny _ A.in1 (pyNext (.ref I) >>= _) _ _ s;refine Q00 (W.item i s _ _ lt st λu s' hP aa L=>?_);obtain⟨is,sc⟩:=hv i u hP
  have ab:s'.heap.SetOf (h9 prog w) S (λq=>hk (iH v i) q) (iH v i).length:=by
   obtain⟨o,es,U,tb,Y,J⟩:=so;exact⟨o,es,U,tb,L.heap S _ sw Y,J⟩
  show wpAny _ A.in1 (holding [u] (setAdd S u) >>= _) _ _ s';refine Q00 (wpAny_holding ?_);unfold setAdd;refine wpAny_holding (Q00 ((h9 prog w).pyHash (k:=v i) is ?_));have room:(iH v i).length+1<scanBound:=by have:=D7 v i;omega
  refine wpAny_setAddHashed_of (knd:=h9 prog w) (s:={ s' with toks:=s'.toks+1 }) is sc ab room λh' sb ac=>?_
  have ae:h'.SetOf (h9 prog w) S (λq=>hk (iH v (i+1)) q) (iH v (i+1)).length:=
   D6 ac (λq=>(KS _ _ _).symm) (KU _ _).symm
  refine Q0d ⟨plainId_quiet PyProof.Rows.F.plain_set_update_loop _,ih (i+1) _ (by omega) lt (W.frame _ s' _ _ aa (Q14 _) λb hb o e=>?_) ae λaf ag ah=>?_⟩
  . rw[sb.2 b (λz:b=S=>sf (by rw[<-z];exact hb))];exact e
  . refine fin af (Moved.trans W.gtrans ((L.mono up).then_heap (Q14 _) λb o hb e=>?_) ag) ah;rw[sb.2 b (λz:b=S=>hb (by rw[z];exact Q01))];exact e
end
theorem KZ:LawfulBEq Key where
 eq_of_beq:=by
  intro a b h
  cases a <;> cases b
  . exact congrArg Sum.inl (eq_of_beq (α:=Int) h)
  . cases h
  . cases h
  . exact congrArg Sum.inr (eq_of_beq (α:=Str) h)
 rfl:=by
  intro a
  cases a
  . exact BEq.rfl (α:=Int)
  . exact BEq.rfl (α:=Str)
theorem K0 {prog:Program}{w:World}{A:Around}{E:Value->Shared->Prop}{s:Shared}{l:Addr}{J:Array Value}{v:Nat->Key}{Q:Value->Shared->Prop}(ah:A.handled=none)(il:s.heap.IsList l J)
 (hv:∀(i:Nat) (u:Value),J[i]? =some u->(h9 prog w).is (v i) u=true/\u.scannable=true) (bd:J.size+1<scanBound)
 (q:∀(h':Heap) (tk:Nat),h'.SetOf (h9 prog w) s.heap.objs.size (λk=>hk (iH v J.size) k) (iH v J.size).length->(∀b o,b<s.heap.objs.size->s.heap.get? b=some o->h'.get? b=some o)->Q (.ref s.heap.objs.size) { s with heap:=h',toks:=tk }):
 wpAny (model prog w) A (call (.type "set") [.ref l]) Q E s:=by
 obtain⟨c,tl,ao⟩:=PySem.F.called_set.mro;have made:=PySem.F.called_set.made;have sub:=PySem.F.called_set.sub;refine wpAny_call (codeAny_of_tree ?_);show wpAny _ _ (callAny (.type "set") _) _ _ _;refine Q0d ⟨Code.quiet_builtin _ (by decide +kernel),codeAny_builtin PySem.F.entry_type_call ?_⟩;rw[Around.under_plain (weight_type_call_type "set" [.ref l] []) rfl];have n1:=PySem.F.called_set.notType;have n2:=PySem.F.called_set.canCreate;have ct:=PySem.F.typeCall_set_1 (.ref l)
 repeat (any_goals (first|assumption|wp_step))
 refine codeAny_mono (code_set_new_1 (.ref l) (E:=E) (Q₁:=λob s1=>∃ld:Bool,ob=.ref s.heap.objs.size/\s1={ s with heap:=s.heap.push { cls:=.type "set",dict:=none,data:=.set #[] 0 (.fresh 0 0 ld) } }) λld=>⟨ld,rfl,rfl⟩) λr s1 hr=>?_
 cases r with
 |error e=>exact hr
 |ok fl=>
  cases fl with
  |ret ob=>
   obtain⟨ld,rfl,rfl⟩:=hr;have gS:(s.heap.push { cls:=.type "set",dict:=none,data:=.set #[] 0 (.fresh 0 0 ld) }).get? s.heap.objs.size=some { cls:=.type "set",dict:=none,data:=.set #[] 0 (.fresh 0 0 ld) }:=Q0j _ rfl;have ty:Shared.TypeIs { s with heap:=s.heap.push { cls:=.type "set",dict:=none,data:=.set #[] 0 (.fresh 0 0 ld) } } (.ref s.heap.objs.size) "set":=⟨_,gS,rfl⟩;have li:=PySem.F.called_set.init.lookup;have bi:=PySem.F.called_set.init.bind (.ref s.heap.objs.size)
   repeat (any_goals (first|assumption|wp_step))
   refine codeAny_mono (codeAny_call_builtin (R:=wants (λr s2=>r=.none/\∃h' tk,s2={ s with heap:=h',toks:=tk }/\h'.SetOf (h9 prog w) s.heap.objs.size (λk=>hk (iH v J.size) k) (iH v J.size).length/\
    (∀b o,b<s.heap.objs.size->s.heap.get? b=some o->h'.get? b=some o)) E) PySem.F.called_set.init.plain PySem.F.entry_set_init (check_set_init_1 ty ?_)) λr2 s2 L=>?_
   . obtain⟨ol,Y,U,nl,dl⟩:=il;obtain⟨oc,od,ae,af⟩:=ol;have U:oc=.type "list":=U;have dl:ae=.seq J nl:=dl;subst U;subst dl;have ac:(s.heap.push { cls:=.type "set",dict:=none,data:=.set #[] 0 (.fresh 0 0 ld) }).get? l=some { cls:=.type "list",dict:=od,data:=.seq J nl,slots:=af }:=Q09 _ Y;have ap:=PySem.F.sub_list_set;have sl2:=PySem.F.sub_list_frozenset;have nd:(Value.type "list" == Value.type "dict")=false:=by decide
     have aa:(s.heap.push { cls:=.type "set",dict:=none,data:=.set #[] 0 (.fresh 0 0 ld) }).IsList l J:=⟨_,ac,rfl,nl,rfl⟩;unfold Builtin.«set.__init__» noKeywords Builtin.Frozenset.updateFrom;generalize ag:pyIter=PI
     wp_walk
     subst ag;refine wpAny_pyIter_list aa ?_;refine Q00 (wpAny_runValue ?_);have ab:l<s.heap.objs.size:=Q02 Y;have ai:A.in1.in1.in1.handled=none:=by simp[ah]
     have aj:l≠(s.heap.push { cls:=.type "set",dict:=none,data:=.set #[] 0 (.fresh 0 0 ld) }).objs.size:=by rw[Q1b];exact Q08 (Q2k ab)
     have ak:s.heap.objs.size ∉ [(s.heap.push { cls:=.type "set",dict:=none,data:=.set #[] 0 (.fresh 0 0 ld) }).objs.size,l]:=by
      rw[Q1b];simp only[Q13,Q25,Q1h,or_false,not_or];exact⟨Q08 (Q1 _),Q0t ab⟩
     refine KY ((Walks.list ai _ l aj J).toS) s.heap.objs.size ak v hv bd (J.size - 0) 0 _ (by omega) (Q0a _) ⟨⟨_,Q0j _ rfl,rfl,rfl⟩,(aa.push _)⟩ ?sA ?sB
     case sA=>
      have g2:((s.heap.push { cls:=.type "set",dict:=none,data:=.set #[] 0 (.fresh 0 0 ld) }).push { cls:=.type "list_iterator",data:=.fields #[.ref l,.int 0 0] }).get? s.heap.objs.size=some { cls:=.type "set",dict:=none,data:=.set #[] 0 (.fresh 0 0 ld) }:=Q09 _ gS;haveI:=KZ;refine D6 (Obj.SetObjOf.setOf (knd:=h9 prog w) (setObjOf_fresh ld) g2 (by unfold scanBound;omega)) (λ_=>rfl) rfl
     case sB=>
      intro s' mv so;obtain⟨h',g',d',al,am⟩:=s';have eg:g'=s.gens:=mv.gens;have ed:d'=s.drawn:=mv.drawn;have eo:am=s.os:=mv.os;subst eg;subst ed;subst eo;show wpAny _ _ _ _ _ _;refine Q0d ?_;show wpAny _ _ (ret Value.none) _ _ _;refine Q0d ⟨rfl,h',al,rfl,so,λb o hb e=>?_⟩;have b1:b≠s.heap.objs.size:=Q08 hb;have b2:b≠(s.heap.push { cls:=.type "set",dict:=none,data:=.set #[] 0 (.fresh 0 0 ld) }).objs.size:=by rw[Q1b];exact Q08 (Q2k hb)
      exact mv.heap b o (by simp only[Q13,Q25,Q1h,or_false,not_or];exact⟨b1,b2⟩) (Q09 _ (Q09 _ e))
   . cases r2 with
     |error e=>exact L
     |ok an=>
      cases an with
      |ret r=>
       obtain⟨rfl,h',tk,rfl,so,kp⟩:=L
       repeat (any_goals (first|assumption|wp_step))
       exact q _ _ so kp
      |_=>exact L.elim
  |_=>exact hr.elim
noncomputable def sI (P:Program) (w:World) (a:Addr) (n:Nat):HO:=.ext λh=>∃S,h.SetOf (h9 P w) a S n
section
variable {X:Cx}
theorem K1 (hc:X.calm=true):jF X (.type "set") (λxs H Q=>∃(a:Addr) (ss:List Str),xs=[.ref a]/\fv X.K H a (ss.map V.str)/\ss.length<=60/\∀p,H p=none->Q (.ref p) (upd H p (sI X.prog X.w p (iH (λi=>Sum.inr (ss.getD i "")) ss.length).length))):=by
 intro pins s σ H xs us Q I r h;obtain⟨a,ss,rfl,hq,ae,q⟩:=h;obtain⟨u,rfl,ru⟩:=vals1 r
 cases ru;obtain⟨J,rv,pl,hz⟩:=I.list hq;have hl:J.length=ss.length:=by rw[<-rv.length,Q05]
 have hsz:J.toArray.size=ss.length:=by rw[Q06];exact hl
 refine K0 (v:=λi=>Sum.inr (ss.getD i "")) (I.ok.hd hc) pl.isList (λi u hu=>?_) (by rw[hsz];unfold scanBound;omega) λh' tk so kp=>?_
 . have hi:i<ss.length:=by
    have:=(Array.getElem?_eq_some_iff.mp hu).1;rw[hsz] at this;exact this
   have h1:(ss.map V.str)[i]? =some (V.str (ss.getD i "")):=by
    rw[Q0h,Q0b,Q03 hi];rfl
   obtain⟨u',e1,t,e2⟩:=rv.get h1
   have:u=u':=by
    have U:J.toArray[i]? =some u:=hu;rw[List.getElem?_toArray,e1] at U;exact(Option.some.inj U).symm
   subst this;subst e2;exact⟨Ax _ t,rfl⟩
 . rw[hsz] at so;obtain⟨o,es,ep,t,ho,Y⟩:=so;refine⟨.ref s.heap.objs.size,_,I.laid (h':=h') (t':=tk) (λb u e=>kp b u (Q02 e) e) (Q0 _) ?_,rfl,q _ (I.hok.fresh (Q0 _))⟩;exact⟨⟨_,o,es,ep,t,ho,Y⟩,⟨o,ho⟩,λh1 h2 ⟨S,o',aa,ab,t',ac,L⟩ k=>⟨S,o',aa,ab,t',k _ ac,L⟩⟩
theorem K2:jF X (.builtin "len") (λxs H Q=>∃a n,xs=[.ref a]/\H a=some (sI X.prog X.w a n)/\Q (.int n) H):=by
 intro pins s σ H xs us Q I r h;obtain⟨a,n,rfl,L,q⟩:=h;obtain⟨u,rfl,U⟩:=vals1 r
 cases U;obtain⟨S,o,es,ep,t,Y,hex,hd,aa,J,hb,hf,hn⟩:=(I.hok a _ L).1;refine call_len_set Y hex hd hf (by unfold scanBound at hb;omega) ⟨.int n,H,I.tok _,⟨_,by rw[hn]⟩,q⟩
end
section
variable {prog:Program}{w:World}{A:Around}{E:Value->Shared->Prop}{s:Shared}
end
section
variable {X:Cx}
end
end L2
namespace Pb
open L2
end Pb
namespace L2
open Spec PyProof.Rows
section
variable {X:Cx}
theorem sJ:jF X (.type "dict") (λxs H Q=>∃a kvs,xs=[.ref a]/\H a=some (.dK kvs)/\∀l,H l=none->Q (.ref l) (upd H l (.dK kvs))):=by
 intro pins s σ H xs us Q I r h;obtain⟨a,kvs,rfl,J,q⟩:=h;obtain⟨u,rfl,L⟩:=vals1 r
 cases L;obtain⟨z,U,vs,kv,dd⟩:=oi I.hok J;refine kt_call_dict U dd (by rw[<-kv.length];exact z) λh' Y hs=>?_;have hb:(s.heap.objs.size == sysModules)=false:=beq_eq_false_iff_ne.mpr (Q0t I.big);refine⟨.ref s.heap.objs.size,_,I.laid (a:=s.heap.objs.size) (o:=.dK kvs) (t':=s.toks) (λb o e=>?_) (Q0 _) ⟨z,hb,vs,kv,Y⟩,rfl,q _ (I.hok.fresh (Q0 _))⟩;exact hs.extBut b o (Q08 (Q02 e)) (Q09 _ e)
end
noncomputable def jS (kvs J:List (Key × V)):List (Key × V):=J.foldl (λL kv=>putK L kv.1 kv.2) kvs
theorem KV.puts:∀{J:List (Key × V)}{L:List (Key × Value)},KV J L->∀{kvs:List (Key × V)}{vs:List (Key × Value)},KV kvs vs->KV (jS kvs J) (merged vs L)
 |_,_,.nil,_,_,r=>r
 |_,_,.cons (a:=p) (b:=q) h t,kvs,vs,r=>by
  obtain⟨h1,h2⟩:=h;have:=KV.puts t (r.put p.1 h2);unfold jS merged at this ⊢;rw[Q2,Q2,<-h1];exact this
theorem vq (kvs:List (Key × V))(k:Key)(v:V):(putK kvs k v).length<=kvs.length+1:=by
 unfold putK;split
 . rw[Q05];omega
 . rw[Q0e];exact Q0 _
theorem D9:∀(J kvs:List (Key × V)),(jS kvs J).length<=kvs.length+J.length
 |[],kvs=>Q0 _
 |p::r,kvs=>by
  have:=D9 r (putK kvs p.1 p.2);have h2:=vq kvs p.1 p.2;have e:jS kvs (p::r)=jS (putK kvs p.1 p.2) r:=rfl;rw[e,Q0k];omega
section
variable {X:Cx}
def K3:V->List V->Hp->VK->Prop:=λx vs H Q=>∃a b kvs J,x=.ref a/\vs=[.ref b]/\a≠b/\H a=some (.dK kvs)/\H b=some (.dK J)/\kvs.length+J.length<=sizeLine/\Q .non (upd H a (.dK (jS kvs J)))
theorem D_:ud X "dict.update" K3:=by
 intro pins s σ H x vs v us Q I rx rv h;obtain⟨a,b,kvs,Y,rfl,rfl,ne,hA,hB,hz,q⟩:=h;obtain⟨u,rfl,ru⟩:=vals1 rv
 cases rx
 cases ru;obtain⟨z,hd,wa,L,dd⟩:=oi I.hok hA;obtain⟨z2,aa,wb,J,dd2⟩:=oi I.hok hB;refine call_meetsIn PySem.F.slot_dict_update dd.typeIs PySem.F.entry_dict_update (PySem.F.args_dict_update_2 _ _) (meets_dict_update (h9 X.prog X.w) a b ne aa) ⟨wa,wb,dd,dd2,by rw[<-L.length,<-J.length];exact hz,λh' U _ hs=>?_⟩;have he:∃q,h'.get? a=some q:=let⟨q,_,_,hq,_⟩:=U;⟨q,hq⟩
 exact⟨.non,_,ug (t':=s.toks) I (by rw[hA];exact True.intro) hs he (Bh (Q0c (D9 Y kvs) hz) hd (J.puts L) U),rfl,q⟩
end
end L2
namespace Pb
open L2 PyProof.Rows
noncomputable def K4 (st:Stmt):Pos:=match iJ st with
 | .Assign _ (.Call _ [.Call _ _ [⟨_,.Lambda _ _ _ J,_⟩] _] _ _) _::_=>J
 |_=>⟨0,0,0,0⟩
noncomputable abbrev i4:Pos:=K4 (top 8)
noncomputable abbrev i6:Str:=("sorted_fields":Str)++".<locals>."++"<lambda>"
theorem iU.tu {Pt:Addr}{H H':Hp}{J:Pos}{L:Str}(x:iU Pt H H')(hT:fT Pt J L H):Tu H H':=λc xs h=>by
 obtain⟨ps,U⟩:=hT.tab;exact x c _ (ic h U (by intro z;cases z)) h
def Eb (K:W.Frag) (Pt:Addr):Sp:=λvs H Q E=>∃l J,vs=[.ref l]/\fv K H l (hX J)/\ku H J/\J.length<=13/\fT Pt i4 i6 H/\(nms J).Nodup/\(nms J).Pairwise sle/\
 (∀t H',iU Pt H H'->fT Pt i4 i6 H'->H' t=some (.tup (hX J))->Q (.ref t) H')
def Ec (K:W.Frag) (Pt:Addr):Sp:=λvs H Q E=>∃l J,vs=[.ref l]/\fv K H l (hX J)/\ku H J/\J.length<=13/\fT Pt i4 i6 H/\(nms J).Nodup/\(nms J).Pairwise sle/\
 (∀r t H',iU Pt H H'->fT Pt i4 i6 H'->H' t=some (.tup (hX J))->H' r=some (.tup [.str "record",.ref t])->Q (.ref r) H')
theorem K5 {J:List Qd}{i:Nat}{v:V}(h:(hX J)[i]? =some v):∃q,J[i]? =some q/\q.1=v:=by
 have h:(J.map (·.1))[i]? =some v:=h;rw[Q0h] at h
 cases e:J[i]? with
 |none=>rw[e] at h;cases h
 |some q=>rw[e] at h;exact⟨q,rfl,Option.some.inj h⟩
theorem qj (J:List Qd):(hX J).length=J.length:=Q05 _
theorem sL (J:List Qd):(nms J).length=J.length:=Q05 _
noncomputable def q0:Qd:=(.non,"",false)
theorem K6 (J:List Qd)(p:List Nat):hX (p.map λi=>J.getD i q0)=p.map λi=>(hX J).getD i .non:=by
 unfold hX;rw[Q26];refine Q10 λi _=>?_;show(J.getD i q0).1=_;rw[Q0b,Q0b,Q0h]
 cases J[i]? <;> rfl
theorem K7 (J:List Qd){p:List Nat}(h:p.Perm (List.range J.length)):(p.map λi=>J.getD i q0).Perm J:=by
 have:=h.map λi=>J.getD i q0;rw[BS] at this;exact this
theorem mB {x:Str}{ss:List Str}:inV (.str x) (ss.map V.str)=decide (x∈ss):=by
 unfold inV;rw[Q22];have:∀y:Str,((λy=>kT y (V.str x)) ∘ V.str) y=decide (y=x):=λy=>rfl
 induction ss with
 |nil=>rfl
 |cons y r J=>
  rw[Q1c,J,this];by_cases e:y=x
  . rw[decide_eq_true e,decide_eq_true (show x∈y::r by rw[e];exact Q01)];rfl
  . rw[decide_eq_false e];by_cases h:x∈r
    . rw[decide_eq_true h,decide_eq_true (Q04 _ h)];rfl
    . rw[decide_eq_false h,decide_eq_false λz=>(List.mem_cons.mp z).elim (λz=>e z.symm) h];rfl
theorem nS:∀{ss:List Str},(ss.map V.str).all km=true
 |[]=>rfl
 |x::r=>by rw[Q0w,Q2d,nS];rfl
noncomputable def Fs.gc (ss:List Str):Fs->Fs
 | .nil=>.nil
 | .cons x k r=>if x∈ss then .cons x k (r.gc ss) else r.gc ss
noncomputable def i8 (ss:List Str) (xs:List V) (ns:List Str):List V:=((xs.zip ns).filter λq=>decide (q.2∈ss)).map (·.1)
theorem FA.few {H:Hp}{ss:List Str}:∀{xs:List V}(fs:Fs),FA H xs fs->FA H (i8 ss xs fs.names) (fs.gc ss)
 |xs,.nil,h=>by
  unfold FA at h;subst h;show FA H [] .nil;unfold FA;rfl
 |xs,.cons x k r,h=>by
  unfold FA at h;obtain⟨c,u,L,rfl,h1,h2,U⟩:=h;have J:=FA.few (ss:=ss) r U;show FA H (i8 ss (.ref c::L) (x::r.names)) (if x∈ss then .cons x k (r.gc ss) else r.gc ss);unfold i8;rw[Q2l,Q24];by_cases e:x∈ss
  . rw[if_pos e,if_pos (decide_eq_true e),Q0w];unfold FA;exact⟨c,u,_,rfl,h1,h2,J⟩
  . rw[if_neg e,if_neg (by rw[decide_eq_false e];decide)];exact J
theorem Fs.iQ (ss:List Str):∀fs:Fs,(fs.gc ss).names=fs.names.filter λx=>decide (x∈ss)
 | .nil=>rfl
 | .cons x k r=>by
   show(if x∈ss then Fs.cons x k (r.gc ss) else r.gc ss).names=(x::r.names).filter _;rw[Q24];by_cases e:x∈ss
   . rw[if_pos e,if_pos (decide_eq_true e)];show x::(r.gc ss).names=_;rw[Fs.iQ ss r]
   . rw[if_neg e,if_neg (by rw[decide_eq_false e];decide)];exact Fs.iQ ss r
theorem Fs.lg (ss:List Str):∀{fs:Fs}{x:Str},(fs.gc ss).get x=if x∈ss then fs.get x else none
 | .nil,x=>by
   show none=_;split <;> rfl
 | .cons y k r,x=>by
   have J:=Fs.lg ss (fs:=r) (x:=x);show(if y∈ss then Fs.cons y k (r.gc ss) else r.gc ss).get x=if x∈ss then(if x=y then some k else r.get x) else none
   by_cases e:y∈ss
   . rw[if_pos e];show(if x=y then some k else(r.gc ss).get x)=_;by_cases z:x=y
     . rw[if_pos z,if_pos (by rw[z];exact e),if_pos z]
     . rw[if_neg z,J,if_neg z]
   . rw[if_neg e,J];by_cases z:x∈ss
     . rw[if_pos z,if_pos z,if_neg λq=>e (by rw[<-q];exact z)]
     . rw[if_neg z,if_neg z]
theorem Fs.qm (ss:List Str):∀{fs:Fs},fs.W->(fs.gc ss).W
 | .nil,h=>h
 | .cons y k r,h=>by
   unfold Fs.W at h;show(if y∈ss then Fs.cons y k (r.gc ss) else r.gc ss).W;split
   . unfold Fs.W;exact⟨h.1,h.2.1,Fs.qm ss h.2.2⟩
   . exact Fs.qm ss h.2.2
structure Dm (K:W.Frag) (x qual:Str) (ps:List Str) (st:Stmt) (f:Addr) (fd:FuncData):Prop where
 F:kW K x qual st f fd
 b:Binds K fd ps []
variable {P:Program}{w:World}{K:W.Frag}{mg:Str->Option Value}{base:Heap}
theorem Ed:gi ["pairs","fields","number","name"] ["pairs"] (fM (top 8)):=gw
theorem K8 {Pt c:Addr}(T:Tb mg)(U:Dn K mg "sorted_fields" lL (top 8) Y L)(ae:L.code=.ref c)(ar:W.CodeHd base c Pt)(au:BM mg base):fm P w K mg base fw (8) Y L lL (Eb K Pt):=by
 refine U.F.uF ae Ed (λvs H Q E h=>?_) (λA outer s H vs Q E hr h=>?_)
 . obtain⟨l,J,rfl,_⟩:=h;rfl
 obtain⟨l,J,rfl,hl,hp,az,hT,ag,av,q1⟩:=h;have nd:=Ed.nd;have hu:=uk hr
 refine⟨_,(e_ (fN 1 nd (kO qV (by rfl) T.oG boot_tuple (a_ (IQ (te:=(gY (iY K) (gF 0) (tC (.int 0)))) (x:="pair") (N':=["","","",""]) rfl T.rG boot_sorted hr rfl rfl ar au (lH.of (N:=["pairs","fields","number","name"]) (sc:=fM (top 8)) rfl rfl rfl rfl rfl (by decide +kernel)) rfl (λ_ _ _ _ _=>rfl) (pv 0) (λ_ _ _ _ _=>(fy (pv 0) b_))) c_)))
  (e_ (iz PassesOwn.never rfl (Gv rfl T.mi (a_ b_ (a_ (gL jj (by rfl) T.iM PySem.boot_len (a_ (pv 1) c_)) c_))) (gu (i:=2) nd rfl gQ) (e_ (fN 3 nd (fy (fy (pv 1) (pv 2)) b_))
  (fx (f7 (fY gx (pv 3) (fy (fy (pv 1) (fH l7 (pv 2) b_)) b_) (fV _)) (fx tQ) f9))))
  (fx (fE (pv 1))))),?_⟩
 ac_rfl
 refine⟨_,rfl,l,hX J,rfl,hl,by rw[qj];omega,hT,λc' H2 ah mono=>?_⟩;have gD:iU Pt H H2:=λcc o hc e=>mono cc o hc e;have ai:ku H2 J:=hp.mono (gD.tu hT);refine⟨λks H3=>H3=H2/\ks.length<=J.length/\ks=((nms J).map V.str).take ks.length,⟨rfl,Q0a _,rfl⟩,λks H3 hw=>by rw[hw.1];exact ah,?_,?_⟩
 . rintro ks H3 yv ⟨rfl,aA,aa⟩ hy;obtain⟨qq,hq,rfl⟩:=K5 hy;obtain⟨cc,u,ec,hc,hk⟩:=ai qq (Q0g hq);obtain⟨qv,qn,qb⟩:=qq;have ec:qv=.ref cc:=ec;subst ec;have aw:ks.length<J.length:=(List.getElem?_eq_some_iff.mp hq).1;refine⟨_,rfl,cc,_,_,_,rfl,rfl,d_.of hc,rfl,rfl,by rw[Q0e];exact aw,?_⟩;rw[Q0e];show _=List.take (ks.length+1) _;rw[Q0l,<-aa,Q0h]
   have:(nms J)[ks.length]? =some qn:=by
    show(J.map (·.2.1))[ks.length]? =_;rw[Q0h,hq];rfl
   rw[this];rfl
 . rintro ks H3 ⟨rfl,_,aa⟩ ap
   have aa:ks=(nms J).map V.str:=by
    rw[aa,ap,qj,Q0z (by rw[Q05,sL];exact Q0 _)]
   refine⟨nms J,aa,λp ac hs D hD=>?_⟩;rw[qj] at ac;rw[<-K6];have af:=K7 J ac
   have aq:(nms (p.map λi=>J.getD i q0)).Pairwise sle:=by
    show((p.map λi=>J.getD i q0).map (·.2.1)).Pairwise sle;rw[Q26,Q1p];rw[Q1p] at hs;refine List.Pairwise.imp_of_mem (λ{i j} hi hj h=>?_) hs
    have ge:∀i∈p,((nms J).map ik).getD i []=ik (J.getD i q0).2.1:=λi hi=>by
     have ax:i<J.length:=by
      have:=ac.mem_iff.mp hi;simpa using this
     unfold nms;rw[Q0b,Q0b,Q0h,Q0h,Q03 ax];rfl
    rw[ge i hi,ge j hj] at h;exact h
   have ay:(p.map λi=>J.getD i q0)=J:=Jm af aq av ag;rw[ay];refine⟨D,hX J,rfl,.inl ⟨fv.of fA,λt ht=>?_⟩⟩;have sD:Same H3 (upd H3 D (.lst (hX J))):=Same.new hD;have s5:Same H3 (upd (upd H3 D (.lst (hX J))) t (.tup (hX J))):=sD.trans (Same.new ht);have aj:iU Pt H (upd (upd H3 D (.lst (hX J))) t (.tup (hX J))):=gD.trans (Kp.of s5);have ak:fT Pt i4 i6 (upd (upd H3 D (.lst (hX J))) t (.tup (hX J))):=.inr ⟨c',ah.mono λb o _ e=>s5 _ _ e⟩;have ab:upd (upd H3 D (.lst (hX J))) t (.tup (hX J)) t=some (.tup (hX J)):=fA;have al:ku (upd (upd H3 D (.lst (hX J))) t (.tup (hX J))) J:=ai.mono (Tu.of s5);generalize upd (upd H3 D (.lst (hX J))) t (.tup (hX J))=H5 at aj ak ab al
   have am:∀j,j<J.length->∃cc u,(hX J)[j]? =some (.ref cc)/\H5 cc=some (.tup [.str ((nms J).getD j ""),u]):=λj hj=>by
    obtain⟨cc,u,ec,hc,_⟩:=al J[j] (Q11 hj);refine⟨cc,u,?_,?_⟩
    . show(J.map (·.1))[j]? =_;rw[Q0h,Q03 hj];exact congrArg some ec
    . have e:(nms J).getD j ""=J[j].2.1:=by
       unfold nms;rw[Q0b,Q0h,Q03 hj];rfl
      rw[e];exact hc
   refine⟨_,rfl,t,_,rfl,.inr (d_.of ab),_,_,rfl,⟨by decide,by decide,by omega,by rw[qj];omega⟩,l5 (lo:=1) (n:=(((hX J).length:Int) - 1).toNat) (λk σ H'=>H'=H5/\∃y z,σ=[some (.ref l),some (.ref t),y,z]) ⟨rfl,_,_,rfl⟩ ?_ ?_⟩
   . rintro k σ H' hk ⟨rfl,y,z,rfl⟩;rw[qj] at hk;obtain⟨c1,u1,a1,b1⟩:=am (k+1) (by omega);obtain⟨c2,u2,a2,b2⟩:=am k (by omega)
     have e1:iC (hX J) ((1:Int)+(k:Int))=some (.ref c1):=by
      have:=jX (j:=k+1) a1;rw[show((1:Int)+(k:Int))=((k+1:Nat):Int) by omega];exact this
     have e2:iC (hX J) ((1:Int)+(k:Int) - 1)=some (.ref c2):=by
      have:=jX (j:=k) a2;rw[show((1:Int)+(k:Int) - 1)=((k:Nat):Int) by omega];exact this
     refine⟨_,rfl,_,rfl,t,_,_,_,rfl,rfl,d_.of ab,e1,c1,_,_,_,rfl,rfl,d_.of b1,rfl,?_⟩;refine⟨_,rfl,_,rfl,_,rfl,_,_,rfl,rfl,t,_,_,_,rfl,rfl,d_.of ab,e2,c2,_,_,_,rfl,rfl,d_.of b2,rfl,rfl,_,rfl,gO (λcc=>?_) λcc=>⟨rfl,_,_,rfl⟩⟩
     have e:(nms J).getD (k+1) ""=(nms J).getD k "":=by
      have:=of_decide_eq_true cc;injection this
     have an:k+1<(nms J).length:=by rw[sL];omega
     have ao:k<(nms J).length:=by rw[sL];omega
     rw[Q0b,Q0b,Q03 an,Q03 ao] at e;have e:(nms J)[k+1]=(nms J)[k]:=e;exact absurd e.symm (List.pairwise_iff_getElem.mp ag k (k+1) ao an (by omega))
   . rintro σ H' ⟨rfl,y,z,rfl⟩;exact⟨_,rfl,q1 t _ aj ak ab⟩
theorem K9:gi ["pairs"] ["pairs"] (fM (top 9)):=gw
theorem K_ {Pt:Addr}(T:Tb mg)(aa:Dn K mg "record_of" lL (top 9) ab ac)(J:Dn K mg "sorted_fields" lL (top 8) L U)(Y:fm P w K mg base fw (8) L U lL (Eb K Pt)):fm P w K mg base fw (9) ab ac lL (Ec K Pt):=by
 refine aa.F.ok K9 λvs H Q E h=>?_;obtain⟨l,qs,rfl,hl,hp,ag,hT,ah,ai,q1⟩:=h;refine⟨rfl,λak A outer s nd hr hu=>?_⟩;refine⟨_,(fx (fE (ij (a_ gj (a_ (fL Y hr J (a_ (pv 0) c_)) c_))))),?_⟩
 ac_rfl
 refine⟨_,rfl,l,qs,rfl,hl,hp,ag,hT,ah,ai,λt H' kp aj af=>?_⟩;refine⟨ix,λr ae=>?_⟩;exact q1 r t _ (kp.trans (Kp.of (Same.new ae))) (aj.same (Same.new ae)) (by rw[fk (fJ af ae)];exact af) fA
theorem La (i:Nat):(List.replicate i true).all id=true:=by
 rw[Q0x];intro z J;rw[Q39 J];rfl
abbrev Lb:R2:=λx y H Q=>y=.non/\Q (.bl (!decide (x=.non))) H
theorem Fs.oS:∀{fs:Fs}{x:Str},x∈fs.names->∃k,fs.get x=some k
 | .nil,_,h=>nomatch h
 | .cons y q r,x,h=>by
   by_cases e:x=y
   . exact⟨q,by show(if x=y then some q else r.get x)=_;rw[if_pos e]⟩
   . obtain⟨k,hk⟩:=Fs.oS (fs:=r) (x:=x) ((List.mem_cons.mp h).resolve_left e);exact⟨k,by show(if x=y then some q else r.get x)=_;rw[if_neg e];exact hk⟩
noncomputable def iI (f:Str->V) (ss:List Str):List (Key × V):=ss.map λx=>(Sum.inr x,f x)
theorem Ee (f:Str->V):∀(ss:List Str) (x:Str),gH (iI f ss) (Sum.inr x)=if x∈ss then some (f x) else none
 |[],x=>by
  rw[if_neg (by simp)];rfl
 |y::r,x=>by
  show gH ((Sum.inr y,f y)::iI f r) (Sum.inr x)=_;by_cases e:y=x
  . rw[m9 (by show Sum.inr y=Sum.inr x;rw[e]),if_pos (by rw[e];exact Q01)];show some (f y)=_;rw[e]
  . rw[m_ (λz=>e (Sum.inr.inj z)),Ee f r x];by_cases h:x∈r
    . rw[if_pos h,if_pos (Q04 _ h)]
    . rw[if_neg h,if_neg λz=>(List.mem_cons.mp z).elim (λz=>e z.symm) h]
theorem Lc (ss:List Str):((List.range ss.length).map λi=>(Sum.inr (ss.getD i ""):Key))=ss.map Sum.inr:=by
 refine Q2h (by simp) λi h1 h2=>?_;have hi:i<ss.length:=by simpa using h2
 rw[Q2g,List.getElem_range,Q2g,Q0b,Q03 hi];rfl
theorem fv.vy {K:W.Frag}{H H':Hp}{l:Addr}{xs:List V}(h:fv K H l xs)(s:Same H H'):fv K H' l xs:=by
 rcases h with(h|⟨o,h⟩)|h
 . exact .inl (.inl (s _ _ h))
 . exact .inl (.inr ⟨o,s _ _ h⟩)
 . exact .inr h
def vz:Sp:=λvs H Q _=>vs=[.bl true]/\Q .non H
def Ef (K:W.Frag):Sp:=λvs H Q _=>∃J t l xs fs,∃ss:List Str,vs=[.ref J,.ref l]/\H J=some (.tup [.str "record",.ref t])/\H t=some (.tup xs)/\FA H xs fs/\fs.names.Nodup/\fv K H l (ss.map V.str)/\ss.Nodup/\ss.length<=12/\(∀x∈ss,x∈fs.names)/\∀H',Same H H'->Q (.bl true) H'
def Eg (tu:Bool) (K:W.Frag):Sp:=λvs H Q _=>∃t l xs fs,∃ss:List Str,vs=[.ref t,.ref l]/\H t=some (DN tu xs)/\FA H xs fs/\fs.names.length<=12/\fv K H l (ss.map V.str)/\∀p H',Same H H'->H' p=some (.lst (i8 ss xs fs.names))->H p=none->Q (.ref p) H'
theorem Ld:gi ["stands"] ["stands"] (fM (top 24)):=gw
theorem Le (T:Tb mg)(J:Dn K mg "ask_stands" oI (top 24) L U):fm P w K mg base fw (1) L U oI (vz):=by
 refine J.F.ok Ld λvs H Q E h=>?_;obtain⟨rfl,q⟩:=h;refine⟨rfl,λY A outer s nd hr hu=>?_⟩;refine⟨_,(fx (f7 (i7 (iR (pv 0))) (fx tQ) f9)),?_⟩
 ac_rfl
 exact⟨_,rfl,true,rfl,gR q⟩
theorem Lg:gi Xf Xf (fM (top 29)):=gw
theorem Lh (T:Tb mg)(J:Dn K mg "has_each_once" rK (top 29) L U)(Y:Dn K mg "kind_at" nB (top 7) aa ab)(ac:fm P w K mg base fw (1) aa ab nB (vc)):fm P w K mg base fw (3) L U rK (Ef K):=by
 refine J.F.ok Lg λvs H Q E h=>?_;obtain⟨kk,t,l,xs,fs,ss,rfl,af,ht,ai,aj,hl,ak,ao,al,q⟩:=h;refine⟨rfl,λap A outer s nd hr hu=>?_⟩
 refine⟨_,(e_ (f7 (fY l8 (gL K2 (by rfl) T.iM PySem.boot_len (a_ (kO (K1 rfl) (by rfl) T.Jn boot_set (a_ (pv 1) c_)) c_)) (gL jj (by rfl) T.iM PySem.boot_len (a_ (pv 1) c_)) (fV _)) (fx (fE jb)) f9)
  (fx (fE (lZ (ki gx (fy (pv 0) b_) gj (fV _)) (lY (gL (qY rfl) (by rfl) T.rH boot_all (a_ (ma (g:=(iB 0)) (tt:=kY) (te:=(gY Lb (lA _ _ _ (iu (gY (iY K) (gF 1) (tC (.int 1))) (iu (gF 0) jW))) (tC .non))) (own:=["name"]) rfl (jY (N:=Xf) (sc:=fM (top 29))) (kh (pv 1)) (λ_ _ _ _ _=>(gu (i:=0) (show(["name","kind","names"]:List Str).Nodup by decide +kernel) rfl (Or.inl rfl) (.inr rfl))) (λ_ _ _ _ _=>l_) (λ_ _ _ _ _=>(ki mY (fL ac hr Y (a_ (fy (pv 1) b_) (a_ (pv 0) c_))) jq (fV _)))) c_))))))),?_⟩
 ac_rfl
 refine⟨_,rfl,l,ss,rfl,hl,by omega,λp hp=>?_⟩;have s1:Same H (upd H p (sI P w p (iH (λi=>Sum.inr (ss.getD i "")) ss.length).length)):=Same.new hp
 have am:(iH (λi=>(Sum.inr (ss.getD i ""):Key)) ss.length).length=ss.length:=by
  have hn:((List.range ss.length).map λi=>(Sum.inr (ss.getD i ""):Key)).Nodup:=by
   rw[Lc];exact List.Pairwise.map _ (λa b h z=>h (Sum.inr.inj z)) ak
  rw[D8 hn,Q05,Q1z]
 refine⟨p,_,rfl,fA,?_⟩;have ae:fv K (upd H p (sI P w p (iH (λi=>Sum.inr (ss.getD i "")) ss.length).length)) l (ss.map V.str):=(Pb.fv.vy hl s1);rw[am] at s1 ae ⊢;refine⟨_,rfl,l,_,rfl,.inl ae,rfl,_,rfl,nh (by rw[Q05]) ?_⟩;refine⟨_,rfl,kk,_,_,_,rfl,rfl,d_.of (s1 _ _ af),rfl,rfl,_,rfl,?_⟩;rw[decide_eq_true rfl];refine ig ?_;have ht1:=s1 _ _ ht;have ag:=s1 _ _ af;have ah:=FA.mono (Tu.of s1) fs ai;refine⟨_,rfl,l,rfl,⟨_,ae⟩,nQ (sE ae) (λi=>(List.replicate i true).map V.bl) (by rw[Q05];omega) (λp hp=>⟨p,_,rfl,fv.of fA,?_⟩) (λi x hx add _=>?_)⟩
 . rw[La];exact q _ (s1.trans (Same.new hp))
 . obtain⟨s,hs,rfl⟩:=List.mem_map.mp (Q0g hx);obtain⟨k,hk⟩:=Fs.oS (al _ hs);refine⟨rfl,yes (ig ?_)⟩;refine⟨_,rfl,kk,_,_,_,rfl,rfl,d_.of ag,rfl,_,rfl,t,s,xs,fs,k,rfl,ht1,ah,aj,hk,λu hu an=>⟨rfl,add _ ?_⟩⟩;rw[decide_eq_false an,List.replicate_succ',Q0i];rfl
theorem Li:gi Xc Xc (fM (top 30)):=gw
theorem Eh {H:Hp}{xs:List V}{fs:Fs}{i:Nat}{x:V}(J:FA H xs fs)(U:xs[i]? =some x):∃c u nm,x=.ref c/\H c=some (.tup [.str nm,u])/\(xs.zip fs.names)[i]? =some (.ref c,nm):=by
 obtain⟨c,u,nm,k,rfl,L,hc,hk⟩:=FA.get fs J U;refine⟨c,u,nm,rfl,hc,?_⟩;rw[Q2o,Fs.jJ,L];exact⟨U,rfl⟩
theorem Lj (tu:Bool)(T:Tb mg)(L:Dn K mg "fields_among" rL (top 30) U Y):fm P w K mg base fw (1) U Y rL (Eg tu K):=by
 refine L.F.ok Li λvs H Q E h=>?_;obtain⟨t,l,xs,fs,ss,rfl,ht,aa,ab,hl,q⟩:=h;refine⟨rfl,λac A outer s nd hr hu=>?_⟩;refine⟨_,(fx (fE (ma (g:=(iB 0)) (tt:=(kM (gY (pA K false) (gY (iY K) (gF 0) (tC (.int 0))) (gF 2)))) (te:=(gF 0)) (own:=["pair"]) rfl (jY (N:=Xc) (sc:=fM (top 30))) (KC tu (pv 0)) (λ_ _ _ _ _=>(gu (i:=0) (show(["pair","fields","names"]:List Str).Nodup by decide +kernel) rfl (Or.inl rfl) (.inr rfl))) (λ_ _ _ _ _=>(pI (fY qU (fy (pv 0) b_) (pv 2) (by with_unfolding_all rfl)))) (λ_ _ _ _ _=>(pv 0))))),?_⟩
 ac_rfl
 have ae:=FA.len fs aa;refine KD (sG.of ht) (λJ hJ=>nQ hJ (λi=>(((xs.zip fs.names).take i).filter λq=>inV (V.str q.2) (ss.map V.str)).map (·.1)) (by omega) (λp hp=>?_) (λi x hx add skip=>?_)) (λ_ h=>⟨_,rfl,h⟩)
 . refine q p _ (Same.new hp) ?_ hp;rw[fA,Q0z (by rw[Q3d];omega)];unfold i8;simp only[mB]
 . obtain⟨c,u,nm,rfl,hc,hz⟩:=Eh aa hx;exact⟨rfl,_,rfl,c,_,_,_,rfl,rfl,d_.of hc,rfl,_,rfl,l,_,rfl,.inl hl,rfl,nS,_,rfl,gO (λcc=>⟨_,rfl,add _ (DO hz cc)⟩) (λcc=>skip (DP hz cc))⟩
theorem Ej {α:Type} [DecidableEq α]:∀{l m:List α},l.Nodup->(∀x∈l,x∈m)->l.length<=m.length
 |[],m,_,_=>Q0a _
 |a::r,m,Y,J=>by
  obtain⟨n1,n2⟩:=List.nodup_cons.mp Y;have L:a∈m:=J a Q01
  have:=Ej n2 (m:=m.erase a) λy U=>by
   rw[List.mem_erase_of_ne (show y≠a from λz=>n1 (by rw[<-z];exact U))];exact J y (Q04 _ U)
  rw[List.length_erase_of_mem L] at this;have hp:0<m.length:=List.length_pos_of_mem L;rw[Q0k];omega
noncomputable def gT (J:Str->D):List Str->Ds
 |[]=>.nil
 |x::r=>.cons x (J x) (gT J r)
theorem vA (J:Str->D):∀l:List Str,(gT J l).names=l
 |[]=>rfl
 |x::r=>by show x::(gT J r).names=_;rw[vA J r]
theorem El (J:Str->D):∀l:List Str,(gT J l).len=l.length
 |[]=>rfl
 |x::r=>by show(gT J r).len+1=r.length+1;rw[El J r]
theorem vB (J:Str->D):∀{l:List Str}{x:Str},x∈l->(gT J l).get x=some (J x)
 |y::r,x,h=>by
  show(if x=y then some (J y) else(gT J r).get x)=_;by_cases e:x=y
  . rw[if_pos e,e]
  . rw[if_neg e];exact vB J ((List.mem_cons.mp h).resolve_left e)
theorem Em (J:Str->D){n:Nat}:∀{l:List Str},(∀x∈l,(J x).dep<=n)->(gT J l).dep<=n
 |[],_=>Q0a _
 |x::r,h=>by
  have:=Em J (l:=r) λy L=>h y (Q04 _ L);have:=h x Q01;show max (J x).dep (gT J r).dep<=n;omega
theorem En (J:Str->D):∀{l:List Str},(∀x∈l,(J x).Sm)->(gT J l).Sm
 |[],_=>by unfold gT Ds.Sm;trivial
 |x::r,h=>by
  unfold gT Ds.Sm;exact⟨h x Q01,En J λy L=>h y (Q04 _ L)⟩
theorem vC {L J:Str->D}:∀{l:List Str},(∀x∈l,L x=J x)->gT L l=gT J l
 |[],_=>rfl
 |x::r,h=>by
  show Ds.cons x (L x) (gT L r)=.cons x (J x) (gT J r);rw[h x Q01,vC λy U=>h y (Q04 _ U)]
theorem Eo {H:Hp}{f:Str->V}{U:Str->D}{S:Addr->Prop}:∀{l:List Str},(∀x∈l,∃fp,Own H (f x) (U x) fp/\∀c∈fp,S c)->∃fp,fj H (iI f l) (gT U l) fp/\∀c∈fp,S c
 |[],_=>⟨[],by unfold gT fj;exact⟨rfl,rfl⟩,λc hc=>nomatch hc⟩
 |x::r,h=>by
  obtain⟨J,h1,Y⟩:=h x Q01;obtain⟨L,h2,s2⟩:=Eo (l:=r) λy hy=>h y (Q04 _ hy);refine⟨J++L,?_,λc hc=>(List.mem_append.mp hc).elim (Y c) (s2 c)⟩;unfold gT fj;exact⟨f x,_,J,L,rfl,rfl,h1,h2⟩
theorem Ep {J:Str->D}:∀{fs:Fs},fs.names.Nodup->(∀x k,fs.get x=some k->fU k (J x))->f6 fs (gT J fs.names)
 | .nil,_,_=>by unfold Fs.names gT f6;rfl
 | .cons x k r,nd,h=>by
   have nd:(x::r.names).Nodup:=nd;obtain⟨U,n2⟩:=List.nodup_cons.mp nd;show f6 (.cons x k r) (.cons x (J x) (gT J r.names));unfold f6;refine⟨_,_,rfl,h x k (by show(if x=x then some k else _)=_;rw[if_pos rfl]),Ep n2 λy q L=>h y q ?_⟩;show(if y=x then some k else r.get y)=_;rw[if_neg λz=>U (by rw[<-z];exact Fs.get_mem L)];exact L
theorem Ds.get_name:∀{m:Ds}{x:Str},x∈m.names->∃d,m.get x=some d
 | .cons y d r,x,h=>by
   by_cases e:x=y
   . exact⟨d,by show(if x=y then some d else r.get x)=_;rw[if_pos e]⟩
   . obtain⟨d',h'⟩:=Ds.get_name (m:=r) ((List.mem_cons.mp h).resolve_left e);exact⟨d',by show(if x=y then some d else r.get x)=_;rw[if_neg e];exact h'⟩
theorem Ds.sM:∀{m:Ds}{x:Str}{d:D},m.get x=some d->x∈m.names
 | .nil,_,_,h=>by cases h
 | .cons y e r,x,d,h=>by
   have h:(if x=y then some e else r.get x)=some d:=h;show x∈y::r.names;by_cases c:x=y
   . rw[c];exact Q01
   . rw[if_neg c] at h;exact Q04 _ (Ds.sM h)
theorem fj.Er {H:Hp}:∀{m:Ds}{kvs:List (Key × V)}{fp:List Addr},fj H kvs m fp->m.names.Nodup->kvs=iI (λx=>(gH kvs (Sum.inr x)).getD .non) m.names
 | .nil,kvs,fp,h,_=>by
   unfold fj at h;rw[h.1];rfl
 | .cons y d r,kvs,fp,h,nd=>by
   unfold fj at h;obtain⟨v,q,f1,f2,rfl,rfl,h1,h2⟩:=h;have nd:(y::r.names).Nodup:=nd;obtain⟨J,n2⟩:=List.nodup_cons.mp nd;have L:(gH ((Sum.inr y,v)::q) (Sum.inr y)).getD .non=v:=by rw[m9 (p:=(Sum.inr y,v)) rfl];rfl
   have U:iI (λx=>(gH ((Sum.inr y,v)::q) (Sum.inr x)).getD .non) r.names=iI (λx=>(gH q (Sum.inr x)).getD .non) r.names:=Q10 λx Y=>by
    show((Sum.inr x:Key),(gH ((Sum.inr y,v)::q) (Sum.inr x)).getD .non)=_;rw[m_ (p:=(Sum.inr y,v)) λz=>J (by rw[Sum.inr.inj z];exact Y)]
   show _=(Sum.inr y,(gH ((Sum.inr y,v)::q) (Sum.inr y)).getD .non)::iI (λx=>(gH ((Sum.inr y,v)::q) (Sum.inr x)).getD .non) r.names;rw[L,U,<-fj.Er h2 n2]
theorem fj.iI {H:Hp}{m:Ds}{kvs:List (Key × V)}{fp:List Addr}(h:fj H kvs m fp)(nd:m.names.Nodup):∃f:Str->V,kvs=iI f m.names/\∀x∈m.names,∃d g,m.get x=some d/\Own H (f x) d g/\∀c∈g,c∈fp:=by
 refine⟨_,h.Er nd,λx L=>?_⟩;obtain⟨d,J⟩:=Ds.get_name L;obtain⟨v,g,h1,h2,U⟩:=fj.val m h J;exact⟨d,g,J,by show Own H ((gH kvs (Sum.inr x)).getD .non) d g;rw[h1];exact h2,U⟩
theorem Lk (f:Str->V)(v:V){A:List Str}{x:Str}(h:x∈A):putK (iI f A) (Sum.inr x) v=iI (λz=>if z=x then v else f z) A:=by
 unfold putK;rw[if_pos (by rw[ng,Ee,if_pos h];rfl)];unfold iI;rw[Q26];refine Q10 λz _=>?_;show(if(Sum.inr z:Key)=Sum.inr x then((Sum.inr z:Key),v) else(Sum.inr z,f z))=(Sum.inr z,if z=x then v else f z);by_cases e:z=x
 . rw[if_pos (by rw[e]),if_pos e]
 . rw[if_neg (λq=>e (Sum.inr.inj q)),if_neg e]
theorem Es (g:Str->V){A:List Str}:∀{B:List Str}(f:Str->V),B.Nodup->(∀x∈B,x∈A)->jS (iI f A) (iI g B)=iI (λz=>if z∈B then g z else f z) A
 |[],f,_,_=>by
  show iI f A=_;unfold iI;refine Q10 λz _=>?_;show _=((Sum.inr z:Key),if z∈[] then g z else f z);rw[if_neg (by simp)]
 |x::r,f,nd,h=>by
  obtain⟨L,n2⟩:=List.nodup_cons.mp nd;show jS (putK (iI f A) (Sum.inr x) (g x)) (iI g r)=_;rw[Lk f (g x) (h x Q01),Es g _ n2 λy U=>h y (Q04 _ U)];unfold iI;refine Q10 λz _=>?_;show(Sum.inr z,(if z∈r then g z else if z=x then g x else f z))=((Sum.inr z:Key),if z∈x::r then g z else f z);by_cases e:z=x
  . subst e;rw[if_neg L,if_pos rfl,if_pos Q01]
  . by_cases J:z∈r
    . rw[if_pos J,if_pos (Q04 _ J)]
    . rw[if_neg J,if_neg e,if_neg (λq=>(List.mem_cons.mp q).elim e J)]
noncomputable def nU (fs:Fs) (J L:Ds):Ds:=gT (λx=>((L.get x).or (J.get x)).getD (.int 0)) fs.names
theorem Et {H:Hp}{ks kn:List (Key × V)}{fs:Fs}{L J:Ds}{Y f2:List Addr}(nd:fs.names.Nodup)(h1:fj H ks L Y)(hF:f6 fs L)(h2:fj H kn J f2)(n2:J.names.Nodup)(U:∀x∈J.names,x∈fs.names):
 ∃fp,fj H (jS ks kn) (nU fs L J) fp/\∀c∈fp,c∈Y\/c∈f2:=by
 have en:=hF.names;obtain⟨f,rfl,hf⟩:=h1.iI (by rw[en];exact nd);obtain⟨g,rfl,hg⟩:=h2.iI n2;rw[en] at hf ⊢;rw[Es g f n2 U];refine Eo λx hx=>?_;obtain⟨d1,g1,a1,a2,a3⟩:=hf x hx;by_cases e:x∈J.names
 . obtain⟨d2,g2,b1,b2,b3⟩:=hg x e;exact⟨g2,by rw[if_pos e,b1];exact b2,λc hc=>.inr (b3 c hc)⟩
 . have hn:J.get x=none:=by
    cases z:J.get x with
    |none=>rfl
    |some d=>exact absurd (Ds.sM z) e
   exact⟨g1,by rw[if_neg e,hn,a1];exact a2,λc hc=>.inl (a3 c hc)⟩
theorem Ll (t:D)(as:Ds):(pairD t (.lst as)).dep=max t.dep (as.dep+1)+1:=by
 simp only[pairD,D.dep,Ds.dep];omega
theorem vD {as:Ds}:(D.lst as).Sm↔as.len<=100/\as.Sm:=by
 rw[D.Sm.eq_def]
theorem qo {x:Str}{d:D}{r:Ds}:(Ds.cons x d r).Sm↔d.Sm/\r.Sm:=by
 rw[Ds.Sm.eq_def]
theorem Lm {x y:Str}{t:D}{as:Ds}:(D.tup (.cons x t (.cons y (.lst as) .nil))).Sm↔t.Sm/\as.len<=100/\as.Sm:=by
 rw[D.Sm.eq_def];show(2<=100/\_)↔_;rw[qo,qo,vD];exact⟨λh=>⟨h.2.1,h.2.2.1⟩,λh=>⟨by decide,h.1,h.2,by unfold Ds.Sm;trivial⟩⟩
structure vE (fs:Fs) (r:Nat) (m:Ds):Prop where
 fit:f6 fs m
 dep:m.dep<=r
 sm:(D.dct m).Sm
structure Eu (fs ps:Fs) (r:Nat) (m:Ds):Prop where
 nd:m.names.Nodup
 get:∀x d,m.get x=some d->∃k,fs.get x=some k/\fU k d
 fit:mx ps m
 sub:∀x∈m.names,x∈ps.names
 dep:m.dep<=r
 sm:(D.dct m).Sm
theorem qp {m:Ds}:(D.dct m).Sm↔m.len<=100/\m.Sm:=by
 rw[D.Sm.eq_def]
theorem Ln {fs ps:Fs}{r:Nat}{Y L:Ds}(nd:fs.names.Nodup)(aa:fs.names.length<=12)(h1:vE fs r Y)(h2:Eu fs ps r L):vE fs r (nU fs Y L):=by
 have key:∀x k,fs.get x=some k->fU k (((L.get x).or (Y.get x)).getD (.int 0))/\(((L.get x).or (Y.get x)).getD (.int 0)).dep<=r/\(((L.get x).or (Y.get x)).getD (.int 0)).Sm:=λx k J=>by
  cases e:L.get x with
  |some d=>
   obtain⟨k',U,g2⟩:=h2.get x d e;rw[J] at U
   cases U;exact⟨g2,Q0c (Ds.oF e) h2.dep,Ds.p8 (qp.mp h2.sm).2 e⟩
  |none=>
   obtain⟨d,U,g2⟩:=h1.fit.get J;rw[U];exact⟨g2,Q0c (Ds.oF U) h1.dep,Ds.p8 (qp.mp h1.sm).2 U⟩
 refine⟨Ep nd λx k J=>(key x k J).1,Em _ λx J=>?_,qp.mpr ⟨by unfold nU;rw[El];omega,En _ λx J=>?_⟩⟩
 . obtain⟨k,hk⟩:=Fs.oS J;exact(key x k hk).2.1
 . obtain⟨k,hk⟩:=Fs.oS J;exact(key x k hk).2.2
theorem iL.of {P:D->Prop}:∀{as:Ds},(∀i d,as.at i=some d->Tree P d)->iL P as
 | .nil,_=>by unfold iL;trivial
 | .cons _ d r,h=>by
   unfold iL;exact⟨h 0 d rfl,iL.of λi d' J=>h (i+1) d' J⟩
theorem Tree.mk {P:D->Prop}{x y:Str}{t:D}{as:Ds}(h1:P t)(h2:∀i d,as.at i=some d->Tree P d):Tree P (.tup (.cons x t (.cons y (.lst as) .nil))):=by
 unfold Tree jL;exact⟨h1,iL.of h2⟩
mutual
noncomputable def blk:Kd->D
 | .num=>.int 0
 | .gG=>.str ""
 | .gA fs=>.dct (iV fs)
 | .rows _ _ _=>.lst .nil
 | .tree k=>pairD (blk k) (.lst .nil)
 | .ia fs=>qr fs
noncomputable def iV:Fs->Ds
 | .nil=>.nil
 | .cons x k r=>.cons x (blk k) (iV r)
noncomputable def qr:Fs->D
 | .nil=>.int 0
 | .cons x k _=>pairD (.str x) (blk k)
end
noncomputable def kE (fs:Fs) (x:Str):D:=match fs.get x with
 |some k=>blk k
 |none=>.int 0
theorem sN:∀{fs:Fs},fs.names.Nodup->iV fs=gT (kE fs) fs.names
 | .nil,_=>by unfold iV;rfl
 | .cons x k r,nd=>by
   have nd:(x::r.names).Nodup:=nd;obtain⟨J,n2⟩:=List.nodup_cons.mp nd;unfold iV;show _=Ds.cons x (kE (.cons x k r) x) (gT (kE (.cons x k r)) r.names)
   have L:kE (.cons x k r) x=blk k:=by
    unfold kE;rw[show(Fs.cons x k r).get x=some k by show(if x=x then some k else _)=_;rw[if_pos rfl]]
   rw[L,sN n2];refine congrArg _ (vC λy U=>?_);unfold kE;rw[show(Fs.cons x k r).get y=r.get y by show(if y=x then some k else r.get y)=_;rw[if_neg λz=>J (by rw[<-z];exact U)]]
mutual
theorem qt:∀{k:Kd},k.W->fU k (blk k)/\(blk k).Sm/\(blk k).dep<=k.dB
 | .num,_=>by unfold blk fU D.Sm;exact⟨⟨0,rfl⟩,trivial,Q0 1⟩
 | .gG,_=>by unfold blk fU D.Sm;exact⟨⟨"",rfl⟩,trivial,Q0 1⟩
 | .gA fs,h=>by
   unfold Kd.W at h;obtain⟨h1,h2,J⟩:=qu h.2.2;unfold blk fU;refine⟨⟨_,rfl,h1⟩,qp.mpr ⟨by rw[<-lM,h1.names];omega,h2⟩,?_⟩;simp only[D.dep,Kd.dB];omega
 | .rows key by_ fs,h=>by
   unfold blk fU;refine⟨⟨[],rfl,λm L=>absurd L (by simp),List.Pairwise.nil,Q0y⟩,vD.mpr ⟨Q0a _,by unfold Ds.Sm;trivial⟩,?_⟩;simp only[D.dep,Ds.dep,Kd.dB];omega
 | .tree k,h=>by
   unfold Kd.W at h;obtain⟨h1,h2,J⟩:=qt h;unfold blk fU;refine⟨Tree.mk h1 λi d U=>(by cases i <;> cases U),Lm.mpr ⟨h2,Q0a _,by unfold Ds.Sm;trivial⟩,?_⟩;rw[Ll];simp only[Ds.dep,Kd.dB];omega
 | .ia fs,h=>by
   unfold Kd.W at h;unfold blk fU;obtain⟨x,v,e,h1,h2,J⟩:=Lo h.2.2.2 h.2.2.1;rw[e];refine⟨⟨x,v,rfl,h1⟩,?_,?_⟩
   . rw[D.Sm.eq_def];show 2<=100/\_;rw[qo,qo];exact⟨by decide,by unfold D.Sm;trivial,h2,by unfold Ds.Sm;trivial⟩
   . simp only[pairD,D.dep,Ds.dep,Kd.dB];omega
theorem qu:∀{fs:Fs},fs.W->f6 fs (iV fs)/\(iV fs).Sm/\(iV fs).dep<=fs.dB
 | .nil,_=>by unfold iV f6 Ds.Sm;exact⟨rfl,trivial,Q0 0⟩
 | .cons x k r,h=>by
   unfold Fs.W at h;obtain⟨J,L,a3⟩:=qt h.1;obtain⟨U,Y,b3⟩:=qu h.2.2;unfold iV f6;refine⟨⟨_,_,rfl,J,U⟩,qo.mpr ⟨L,Y⟩,?_⟩;simp only[Ds.dep,Fs.dB];omega
theorem Lo:∀{fs:Fs},fs.W->1<=fs.names.length->∃x v,qr fs=pairD (.str x) v/\iT fs x v/\v.Sm/\v.dep<=fs.dB
 | .nil,_,h=>absurd h (by decide)
 | .cons x k r,h,_=>by
   unfold Fs.W at h;obtain⟨J,L,U⟩:=qt h.1;unfold qr iT;refine⟨x,_,rfl,.inl ⟨rfl,J⟩,L,?_⟩;simp only[Fs.dB];omega
end
structure kG (H:Hp) (S:Addr->Prop) (δ:Str->D) (l:List Str) (p:Addr) (i:Nat) (H':Hp):Prop where
 same:Same H H'
 at_:∃kv fq,H' p=some (.dK kv)/\fj H' kv (gT δ (l.take i)) fq/\∀c∈fq,(H c=none\/S c)/\c≠p
theorem Ew (J:Str->D)(x:Str):∀l:List Str,gT J (l++[x])=(gT J l).snoc x (J x)
 |[]=>rfl
 |y::r=>by show Ds.cons y (J y) (gT J (r++[x]))=.cons y (J y) ((gT J r).snoc x (J x));rw[Ew J x r]
theorem kG.zero {H:Hp}{S:Addr->Prop}{J:Str->D}{l:List Str}{p:Addr}(hp:H p=none):kG H S J l p 0 (upd H p (.dK [])):=
 ⟨Same.new hp,[],[],fA,by show fj _ [] .nil [];unfold fj;exact⟨rfl,rfl⟩,λc hc=>nomatch hc⟩
theorem kG.add {H H' J:Hp}{S:Addr->Prop}{δ:Str->D}{l:List Str}{p:Addr}{i:Nat}{x:Str}{v:V}{fp:List Addr}(h:kG H S δ l p i H')(hp:H p=none)(hx:l[i]? =some x)(nd:l.Nodup)(s:Same H' J)(ho:Own J v (δ x) fp)(hf:∀c∈fp,H' c=none\/(S c/\c≠p)):
 ∃kv,J p=some (.dK kv)/\kv.length<=i/\gH kv (Sum.inr x)=none/\kG H S δ l p (i+1) (upd J p (.dK (kv++[(Sum.inr x,v)]))):=by
 obtain⟨kv,fq,hk,hO,hq⟩:=h.at_;have L:=s _ _ hk
 have ex:x ∉ l.take i:=λz=>by
  obtain⟨j,hj,e⟩:=Q0v z;rw[Q0o] at hj;rw[Q1t] at e;obtain⟨hi,e2⟩:=List.getElem?_eq_some_iff.mp hx;have:=(Q1a nd (h₀:=by omega) (h₁:=hi)).mp (e.trans e2.symm);omega
 have Y:kv.length<=i:=by
  rw[fj.len hO,vA,Q0o];omega
 refine⟨kv,L,Y,fj.Cp hO (by rw[vA];exact ex),⟨λc o e=>by rw[fk (fJ e hp)];exact s _ _ (h.same _ _ e),_,fq++fp,fA,?_,λc hc=>?_⟩⟩
 . have aa:Mu J p:=.inr ⟨_,L⟩;have U:Tu J (upd J p (.dK (kv++[(Sum.inr x,v)]))):=Tu.wr λys z=>aa.rA ys z
   have np:∀c∈fp,c≠p:=λc hc z=>by
    rcases hf c hc with q|q
    . rw[z,hk] at q;cases q
    . exact q.2 z
   rw[Q0l,hx];show fj _ _ (gT δ (l.take i++[x])) _;rw[Ew];exact fj.snoc (ho.keep U _ λc hc o e=>by rw[fk (np c hc)];exact e) _ ((fj.same s hO).keep U _ λc hc o e=>by rw[fk (hq c hc).2];exact e)
 . rcases List.mem_append.mp hc with z|z
   . exact hq c z
   . rcases hf c z with q|q
     . exact⟨.inl (h.same.free q),λe=>by rw[e,hk] at q;cases q⟩
     . exact⟨.inr q.1,q.2⟩
theorem kG.fin {H H':Hp}{S:Addr->Prop}{U:Str->D}{l:List Str}{p:Addr}{i:Nat}(h:kG H S U l p i H')(hp:H p=none)(hi:l.length<=i):Same H H'/\∃fp,Own H' (.ref p) (.dct (gT U l)) fp/\∀c∈fp,H c=none\/S c:=by
 obtain⟨kv,J,hk,L,Y⟩:=h.at_;rw[Q0z hi] at L;refine⟨h.same,p::J,by unfold Own;exact⟨p,kv,J,rfl,hk,rfl,L⟩,λc hc=>?_⟩;rcases List.mem_cons.mp hc with z|z
 . rw[z];exact .inl hp
 . exact(Y c z).1
def qw (n:Nat):Sp:=λvs H Q _=>∃kv k,vs=[kv]/\KA H kv k/\k.W/\k.dep<=n/\∀v H' fp,Same H H'->Own H' v (blk k) fp->(∀c∈fp,H c=none)->Q v H'
def vF (n:Nat):Sp:=λvs H Q _=>∃b xs fs,vs=[.ref b]/\H b=some (.tup xs)/\FA H xs fs/\fs.names.Nodup/\fs.names.length<=12/\fs.W/\fs.dep<=n/\∀v H' fp,Same H H'->Own H' v (.dct (iV fs)) fp->(∀c∈fp,H c=none)->Q v H'
theorem Ex {fs:Fs}{i:Nat}{x:Str}{k:Kd}(nd:fs.names.Nodup)(h:fs.at i=some (x,k)):kE fs x=blk k:=by
 unfold kE;rw[Fs.md nd h]
theorem Ey {H:Hp}(z:Int):Own H (.int z) (.int z) []:=by unfold Own;exact⟨rfl,rfl⟩
theorem sO {H:Hp}(z:Str):Own H (.str z) (.str z) []:=by unfold Own;exact⟨rfl,rfl⟩
theorem sP {H:Hp}{c:Addr}{u v:V}{d e:D}{f g:List Addr}(hc:H c=some (.tup [u,v]))(h1:Own H u d f)(h2:Own H v e g):Own H (.ref c) (pairD d e) (f++(g++[])):=by
 unfold Own;refine⟨c,_,rfl,hc,?_⟩;unfold fC;refine⟨u,_,f,_,rfl,rfl,h1,?_⟩;unfold fC;refine⟨v,_,g,_,rfl,rfl,h2,?_⟩;unfold fC;exact⟨rfl,rfl⟩
theorem sQ {H:Hp}{c:Addr}(hc:H c=some (.lst [])):Own H (.ref c) (.lst .nil) [c]:=by
 unfold Own;exact⟨c,[],[],rfl,hc,rfl,by unfold fC;exact⟨rfl,rfl⟩⟩
theorem Fs.qx:∀{fs:Fs}{i:Nat}{x:Str}{k:Kd},fs.at i=some (x,k)->k.dep<=fs.dep
 | .nil,_,_,_,h=>by cases h
 | .cons y q r,0,_,_,h=>by
   cases h;simp only[Fs.dep];omega
 | .cons y q r,i+1,x,k,h=>by
   have:=Fs.qx (fs:=r) (i:=i) h;simp only[Fs.dep];omega
theorem Lp:gi ["fields","record","name","inner"] ["fields"] (fM (top 19)):=gw
theorem Ez (n:Nat)(T:Tb mg)(J:Dn K mg "empty_record" nG (top 19) L U)(Y:Dn K mg "empty" nH (top 18) aa ab)(ac:fm P w K mg base fw (2 * n+1) aa ab nH (qw n)):fm P w K mg base fw (2 * n+2) L U nG (vF n):=by
 refine J.F.ok Lp λvs H Q E h=>?_;obtain⟨b,xs,fs,rfl,hb,ag,af,hx,ah,ak,q⟩:=h;refine⟨rfl,λal A outer s nd hr hu=>?_⟩;have el:=FA.len fs ag
 refine⟨_,(e_ (fN 1 nd oj)
  (e_ (iz PassesOwn.never rfl (jE (pv 0)) (jD rfl (ie (gu (i:=2) nd rfl gQ) (ie (gu (i:=3) nd rfl gQ) jC))) (fx (kU hu (pv 1) (pv 2) (fL ac hr Y (a_ (pv 3) c_)) rfl)))
  (fx (fE (pv 1))))),?_⟩
 ac_rfl
 intro p hp;refine⟨_,rfl,b,rfl,⟨_,d_.of ((Same.new hp) _ _ hb)⟩,l4 (xs:=xs) (λi σ H'=>∃x y,σ=[some (.ref b),some (.ref p),x,y]/\kG H (λ_=>False) (kE fs) fs.names p i H') ⟨_,_,rfl,kG.zero hp⟩ ?_ ?_ ?_⟩
 . rintro i σ H' _ ⟨x,y,rfl,R⟩;exact d_.of (R.same _ _ hb)
 . rintro i v σ H' hv ⟨x,y,rfl,R⟩;obtain⟨c,u,nm,k,rfl,ae,hc,hk⟩:=FA.get fs ag hv;have s2:=R.same;refine⟨c,_,rfl,d_.of (s2 _ _ hc),rfl,_,_,rfl,_,_,rfl,rfl,?_⟩;refine⟨_,rfl,u,k,rfl,KA.mono (Tu.of s2) k hk,Fs.kr ah ae,by have:=Fs.qx ae;omega,λv2 H3 am s3 ai aj=>?_⟩;have hi:i<fs.names.length:=by rw[<-el];exact(List.getElem?_eq_some_iff.mp hv).1
   obtain⟨kv,h1,h2,h3,R'⟩:=R.add hp (x:=nm) (by rw[Fs.jJ,ae];rfl) af s3 (by rw[Ex af ae];exact ai) λc hc=>.inl (aj c hc);refine⟨_,rfl,_,rfl,p,_,rfl,ju.k (k:=Sum.inr nm) h1 (g_ (by omega)),?_⟩;rw[nz h3];exact⟨_,_,rfl,R'⟩
 . rintro σ H' ⟨x,y,rfl,R⟩;obtain⟨s2,fp,ho,hf⟩:=R.fin hp (by rw[el];exact Q0 _);rw[<-sN af] at ho;exact⟨_,rfl,q _ _ fp s2 ho λc hc=>(hf c hc).resolve_right id⟩
theorem Lq:gi ["kind","form","first"] ["kind"] (fM (top 18)):=gw
theorem Lr (n:Nat)(T:Tb mg)(aa:Dn K mg "empty" nH (top 18) ab ac)(ae:fm P w K mg base fw (2 * n+1) ab ac nH (qw n))(J:Dn K mg "empty_record" nG (top 19) L U)(Y:fm P w K mg base fw (2 * n+2) L U nG (vF n)):fm P w K mg base fw (2 * (n+1)+1) ab ac nH (qw (n+1)):=by
 refine aa.F.ok Lq λvs H Q E h=>?_;obtain⟨kv,k,rfl,hk,hW,ag,q⟩:=h;refine⟨rfl,λai A outer s nd hr hu=>?_⟩
 refine⟨_,(e_ (fN 1 nd (fy (pv 0) b_))
  (e_ (f7 (fY gx (pv 1) gj (fV _)) (fx (fE b_)) f9)
  (e_ (f7 (fY gx (pv 1) gj (fV _)) (fx (fE gj)) f9)
  (e_ (f7 (fY gx (pv 1) gj (fV _)) (fx (fE (fL Y hr J (a_ (fy (pv 0) b_) c_)))) f9)
  (e_ (f7 (fY gx (pv 1) gj (fV _)) (fx (fE (iw c_))) f9)
  (e_ (f7 (fY gx (pv 1) gj (fV _)) (fx (fE (ij (a_ (fL ae hr aa (a_ (fy (pv 0) b_) c_)) (a_ (iw c_) c_))))) f9)
  (e_ (fN 2 nd (fy (fy (pv 0) b_) b_))
  (fx (fE (ij (a_ (fy (pv 2) b_) (a_ (fL ae hr aa (a_ (fy (pv 2) b_) c_)) c_)))))))))))),?_⟩
 ac_rfl
 cases k with
 |num=>
  unfold KA at hk;obtain⟨a,rfl,ha⟩:=hk;refine⟨_,rfl,a,_,_,_,rfl,rfl,d_.of ha,rfl,?_⟩;refine kZ rfl (by decide +kernel) ?_;exact q _ _ [] (Same.refl _) (by unfold blk;exact Ey 0) λc hc=>nomatch hc
 |gG=>
  unfold KA at hk;obtain⟨a,rfl,ha⟩:=hk;refine⟨_,rfl,a,_,_,_,rfl,rfl,d_.of ha,rfl,?_⟩;refine h6 rfl (by decide +kernel) ?_;refine kZ rfl (by decide +kernel) ?_;exact q _ _ [] (Same.refl _) (by unfold blk;exact sO "") λc hc=>nomatch hc
 |gA fs=>
  unfold KA at hk;obtain⟨a,b,xs,rfl,ha,hb,af⟩:=hk;unfold Kd.W at hW;simp only[Kd.dep] at ag;refine⟨_,rfl,a,_,_,_,rfl,rfl,d_.of ha,rfl,?_⟩;refine h6 rfl (by decide +kernel) ?_;refine h6 rfl (by decide +kernel) ?_;refine kZ rfl (by decide +kernel) ?_;exact⟨_,rfl,a,_,_,_,rfl,rfl,d_.of ha,rfl,b,xs,fs,rfl,hb,af,hW.1,hW.2.1,hW.2.2,by omega,λv H' fp s ho hf=>q v H' fp s (by unfold blk;exact ho) hf⟩
 |rows key by_ fs=>
  unfold KA at hk;obtain⟨a,b,xs,rfl,ha,hb,af⟩:=hk;refine⟨_,rfl,a,_,_,_,rfl,rfl,d_.of ha,rfl,?_⟩;refine h6 rfl (by decide +kernel) ?_;refine h6 rfl (by decide +kernel) ?_;refine h6 rfl (by decide +kernel) ?_;refine kZ rfl (by decide +kernel) ?_;exact⟨Q0a _,λp hp=>q _ _ [p] (Same.new hp) (by unfold blk;exact sQ fA) λc hc=>by rw[List.mem_singleton.mp hc];exact hp⟩
 |tree k=>
  unfold KA at hk;obtain⟨a,u,rfl,ha,hu⟩:=hk;unfold Kd.W at hW;simp only[Kd.dep] at ag;refine⟨_,rfl,a,_,_,_,rfl,rfl,d_.of ha,rfl,?_⟩;refine h6 rfl (by decide +kernel) ?_;refine h6 rfl (by decide +kernel) ?_;refine h6 rfl (by decide +kernel) ?_;refine h6 rfl (by decide +kernel) ?_;refine kZ rfl (by decide +kernel) ?_;refine⟨_,rfl,a,_,_,_,rfl,rfl,d_.of ha,rfl,u,k,rfl,hu,hW,by omega,λv H1 fp s1 ho hf=>⟨Q0a _,λp hp=>⟨ix,λt ht=>?_⟩⟩⟩;have s2:Same H1 (upd H1 p (.lst [])):=Same.new hp;have e2:=fA (H:=H1) (a:=p) (o:=.lst []);generalize upd H1 p (.lst [])=H2 at s2 e2 ht;have s3:Same H2 (upd H2 t (.tup [v,.ref p])):=Same.new ht;refine q _ _ (fp++([p]++[])) (s1.trans (s2.trans s3)) (by unfold blk;exact sP fA (ho.same (s2.trans s3)) (sQ (s3 _ _ e2))) λc hc=>?_;rcases List.mem_append.mp hc with z|z
  . exact hf c z
  . rw[Q1j,Q25] at z;rw[z];exact s1.free hp
 |ia fs=>
  unfold KA at hk;obtain⟨a,b,xs,rfl,ha,hb,af⟩:=hk;unfold Kd.W at hW;simp only[Kd.dep] at ag
  cases fs with
  |nil=>exact absurd hW.2.2.1 (by decide)
  |cons x k r=>
   unfold FA at af;obtain⟨c,u,vr,rfl,hc,hk,_⟩:=af;have ah:=hW.2.2.2;unfold Fs.W at ah;simp only[Fs.dep] at ag;refine⟨_,rfl,a,_,_,_,rfl,rfl,d_.of ha,rfl,?_⟩;refine h6 rfl (by decide +kernel) ?_;refine h6 rfl (by decide +kernel) ?_;refine h6 rfl (by decide +kernel) ?_;refine h6 rfl (by decide +kernel) ?_;refine h6 rfl (by decide +kernel) ?_;refine⟨_,rfl,a,_,_,_,rfl,rfl,d_.of ha,rfl,b,_,_,_,rfl,rfl,d_.of hb,jX (j:=0) rfl,?_⟩;refine⟨_,rfl,c,_,_,_,rfl,rfl,d_.of hc,rfl,_,rfl,c,_,_,_,rfl,rfl,d_.of hc,rfl,u,k,rfl,hk,ah.1,by omega,λv H1 fp s1 ho hf=>⟨ix,λt ht=>?_⟩⟩;have s3:Same H1 (upd H1 t (.tup [.str x,v])):=Same.new ht;refine q _ _ ([]++(fp++[])) (s1.trans s3) (by unfold blk qr;exact sP fA (sO x) (ho.same s3)) λc hc=>hf c (by simpa using hc)
theorem EC {vs:List V}{H:Hp}{Q:VK}{E:XK}:¬qw 0 vs H Q E:=λh=>by
 obtain⟨_,k,_,_,_,J,_⟩:=h
 cases k <;> simp[Kd.dep] at J
theorem vG (T:Tb mg)(L:Dn K mg "empty" nH (top 18) aa ab)(J:Dn K mg "empty_record" nG (top 19) U Y):∀n:Nat,fm P w K mg base fw (2 * n+1) aa ab nH (qw n)
 |0=>⟨λvs H Q E h=>absurd h EC,λA outer s H args us vs Q E _ _ _ _ h=>absurd h EC⟩
 |n+1=>Lr n T L (vG T L J n) J (Ez n T J L (vG T L J n))
def nV (n:Nat):Sp:=λvs H Q _=>∃kv k,vs=[kv]/\KA H kv k/\k.W/\k.dep<=n/\∀v H' fp,Same H H'->Own H' v (blk k) fp->(∀c∈fp,H c=none)->(∀a,v=.ref a->H a=none)->Q v H'
theorem ED {vs:List V}{H:Hp}{Q:VK}{E:XK}:¬nV 0 vs H Q E:=λh=>by
 obtain⟨_,k,_,_,_,J,_⟩:=h
 cases k <;> simp[Kd.dep] at J
theorem Ls:gi ["_law_kind_here","_law_made","_law_name","_law_inner"] ["_law_kind_here"] (fM (top 51)):=gw
theorem Lu (n:Nat)(T:Tb mg)(J:Dn K mg "_law_blank" je (top 51) U Y)(L:fm P w K mg base fw (n+1) U Y je (nV n)):fm P w K mg base fw ((n+1)+1) U Y je (nV (n+1)):=by
 refine J.F.ok Ls λvs H Q E h=>?_;obtain⟨kv,k,rfl,hk,hW,ab,q⟩:=h;refine⟨rfl,λaj A outer s nd hr hu=>?_⟩
 refine⟨_,(e_ (f7 (fY gx (fy (pv 0) b_) gj (fV _)) (fx (fE b_)) f9)
  (e_ (f7 (fY gx (fy (pv 0) b_) gj (fV _)) (fx (fE gj)) f9)
  (e_ (f7 (fY gx (fy (pv 0) b_) gj (fV _)) (fx (fE (iw c_))) f9)
  (e_ (f7 (fY gx (fy (pv 0) b_) gj (fV _)) (fx (fE (ij (a_ (fL L hr J (a_ (fy (pv 0) b_) c_)) (a_ (iw c_) c_))))) f9)
  (e_ (f7 (fY gx (fy (pv 0) b_) gj (fV _)) (fx (fE (ij (a_ (fy (fy (fy (pv 0) b_) b_) b_) (a_ (fL L hr J (a_ (fy (fy (fy (pv 0) b_) b_) b_) c_)) c_))))) f9)
  (e_ (fN 1 nd oj)
  (e_ (iz PassesOwn.never rfl (jE (fy (pv 0) b_)) (jD rfl (ie (gu (i:=2) nd rfl gQ) (ie (gu (i:=3) nd rfl gQ) jC))) (fx (kU hu (pv 1) (pv 2) (fL L hr J (a_ (pv 3) c_)) rfl)))
  (fx (fE (pv 1)))))))))),?_⟩
 ac_rfl
 cases k with
 |num=>
  unfold KA at hk;obtain⟨a,rfl,ha⟩:=hk;refine jy rfl ha rfl (by decide +kernel) ?_;exact q _ _ [] (Same.refl _) (by unfold blk;exact Ey 0) (λc hc=>nomatch hc) λa z=>nomatch z
 |gG=>
  unfold KA at hk;obtain⟨a,rfl,ha⟩:=hk;refine gC rfl ha rfl (by decide +kernel) ?_;refine jy rfl ha rfl (by decide +kernel) ?_;exact q _ _ [] (Same.refl _) (by unfold blk;exact sO "") (λc hc=>nomatch hc) λa z=>nomatch z
 |gA fs=>
  unfold KA at hk;obtain⟨a,b,xs,rfl,ha,hb,aa⟩:=hk;unfold Kd.W at hW;obtain⟨ae,hx,ag⟩:=hW;simp only[Kd.dep] at ab;have el:=FA.len fs aa;refine gC rfl ha rfl (by decide +kernel) ?_;refine gC rfl ha rfl (by decide +kernel) ?_;refine gC rfl ha rfl (by decide +kernel) ?_;refine gC rfl ha rfl (by decide +kernel) ?_;refine gC rfl ha rfl (by decide +kernel) ?_;intro p hp;refine⟨_,rfl,a,_,_,_,rfl,rfl,d_.of ((Same.new hp) _ _ ha),rfl,b,rfl,⟨_,d_.of ((Same.new hp) _ _ hb)⟩,l4 (xs:=xs) (λi σ H'=>∃x y,σ=[some (.ref a),some (.ref p),x,y]/\kG H (λ_=>False) (kE fs) fs.names p i H') ⟨_,_,rfl,kG.zero hp⟩ ?_ ?_ ?_⟩
  . rintro i σ H' _ ⟨x,y,rfl,R⟩;exact d_.of (R.same _ _ hb)
  . rintro i v σ H' hv ⟨x,y,rfl,R⟩;obtain⟨c,u,nm,k,rfl,ac,hc,hk⟩:=FA.get fs aa hv;have s2:=R.same;refine⟨c,_,rfl,d_.of (s2 _ _ hc),rfl,_,_,rfl,_,_,rfl,rfl,?_⟩;refine⟨_,rfl,u,k,rfl,KA.mono (Tu.of s2) k hk,Fs.kr ag ac,by have:=Fs.qx ac;omega,λv2 H3 ak s3 ah ai _=>?_⟩;have hi:i<fs.names.length:=by rw[<-el];exact(List.getElem?_eq_some_iff.mp hv).1
    obtain⟨kv,h1,h2,h3,R'⟩:=R.add hp (x:=nm) (by rw[Fs.jJ,ac];rfl) ae s3 (by rw[Ex ae ac];exact ah) λc hc=>.inl (ai c hc);refine⟨_,rfl,_,rfl,p,_,rfl,ju.k (k:=Sum.inr nm) h1 (g_ (by omega)),?_⟩;rw[nz h3];exact⟨_,_,rfl,R'⟩
  . rintro σ H' ⟨x,y,rfl,R⟩;obtain⟨s2,fp,ho,hf⟩:=R.fin hp (by rw[el];exact Q0 _);rw[<-sN ae] at ho;exact⟨_,rfl,q _ _ fp s2 (by unfold blk;exact ho) (λc hc=>(hf c hc).resolve_right id) λa z=>by cases z;exact hp⟩
 |rows key by_ fs=>
  unfold KA at hk;obtain⟨a,b,xs,rfl,ha,hb,aa⟩:=hk;refine gC rfl ha rfl (by decide +kernel) ?_;refine gC rfl ha rfl (by decide +kernel) ?_;refine jy rfl ha rfl (by decide +kernel) ?_;exact⟨Q0a _,λp hp=>q _ _ [p] (Same.new hp) (by unfold blk;exact sQ fA) (λc hc=>by rw[List.mem_singleton.mp hc];exact hp) λa z=>by cases z;exact hp⟩
 |tree k=>
  unfold KA at hk;obtain⟨a,u,rfl,ha,hu⟩:=hk;unfold Kd.W at hW;simp only[Kd.dep] at ab;refine gC rfl ha rfl (by decide +kernel) ?_;refine gC rfl ha rfl (by decide +kernel) ?_;refine gC rfl ha rfl (by decide +kernel) ?_;refine jy rfl ha rfl (by decide +kernel) ?_;refine⟨_,rfl,a,_,_,_,rfl,rfl,d_.of ha,rfl,u,k,rfl,hu,hW,by omega,λv H1 fp s1 ho hf _=>⟨Q0a _,λp hp=>⟨ix,λt ht=>?_⟩⟩⟩;have s2:Same H1 (upd H1 p (.lst [])):=Same.new hp;have e2:=fA (H:=H1) (a:=p) (o:=.lst []);generalize upd H1 p (.lst [])=H2 at s2 e2 ht;have s3:Same H2 (upd H2 t (.tup [v,.ref p])):=Same.new ht;refine q _ _ (fp++([p]++[])) (s1.trans (s2.trans s3)) (by unfold blk;exact sP fA (ho.same (s2.trans s3)) (sQ (s3 _ _ e2))) (λc hc=>?_) λa z=>by cases z;exact(s1.trans s2).free ht
  rcases List.mem_append.mp hc with z|z
  . exact hf c z
  . rw[Q1j,Q25] at z;rw[z];exact s1.free hp
 |ia fs=>
  unfold KA at hk;obtain⟨a,b,xs,rfl,ha,hb,aa⟩:=hk;unfold Kd.W at hW;simp only[Kd.dep] at ab
  cases fs with
  |nil=>exact absurd hW.2.2.1 (by decide)
  |cons x k r=>
   unfold FA at aa;obtain⟨c,u,vr,rfl,hc,hk,_⟩:=aa;have af:=hW.2.2.2;unfold Fs.W at af;simp only[Fs.dep] at ab;refine gC rfl ha rfl (by decide +kernel) ?_;refine gC rfl ha rfl (by decide +kernel) ?_;refine gC rfl ha rfl (by decide +kernel) ?_;refine gC rfl ha rfl (by decide +kernel) ?_;refine jy rfl ha rfl (by decide +kernel) ?_;refine⟨_,rfl,a,_,_,_,rfl,rfl,d_.of ha,rfl,b,_,_,_,rfl,rfl,d_.of hb,jX (j:=0) rfl,c,_,_,_,rfl,rfl,d_.of hc,rfl,?_⟩;refine⟨_,rfl,a,_,_,_,rfl,rfl,d_.of ha,rfl,b,_,_,_,rfl,rfl,d_.of hb,jX (j:=0) rfl,c,_,_,_,rfl,rfl,d_.of hc,rfl,u,k,rfl,hk,af.1,by omega,λv H1 fp s1 ho hf _=>⟨ix,λt ht=>?_⟩⟩;have s3:Same H1 (upd H1 t (.tup [.str x,v])):=Same.new ht;exact q _ _ ([]++(fp++[])) (s1.trans s3) (by unfold blk qr;exact sP fA (sO x) (ho.same s3)) (λc hc=>hf c (by simpa using hc)) λa z=>by cases z;exact s1.free ht
theorem EE (T:Tb mg)(J:Dn K mg "_law_blank" je (top 51) L U):∀n:Nat,fm P w K mg base fw (n+1) L U je (nV n)
 |0=>⟨λvs H Q E h=>absurd h ED,λA outer s H args us vs Q E _ _ _ _ h=>absurd h ED⟩
 |n+1=>Lu n T J (EE T J n)
structure mC (H:Hp) (kk t:Addr) (xs:List V) (fs:Fs):Prop where
 at_:H kk=some (.tup [.str "record",.ref t])
 tu:H t=some (.tup xs)
 fa:FA H xs fs
 nd:fs.names.Nodup
 iq:fs.names.length<=12
 W:fs.W
 so:fs.names.Pairwise sle
theorem mC.mono {H H':Hp}{J t:Addr}{xs:List V}{fs:Fs}(h:mC H J t xs fs)(u:Tu H H'):mC H' J t xs fs:=
 ⟨u _ _ h.at_,u _ _ h.tu,FA.mono u fs h.fa,h.nd,h.iq,h.W,h.so⟩
theorem mC.few {H:Hp}{J t r t':Addr}{xs:List V}{fs:Fs}(ss:List Str)(h:mC H J t xs fs)(h1:H r=some (.tup [.str "record",.ref t']))(h2:H t'=some (.tup (i8 ss xs fs.names))):mC H r t' (i8 ss xs fs.names) (fs.gc ss):=
 ⟨h1,h2,FA.few fs h.fa,by rw[Fs.iQ];exact h.nd.filter _,by rw[Fs.iQ];exact Q0c (Q19 _ _) h.iq,Fs.qm ss h.W,by rw[Fs.iQ];exact h.so.filter _⟩
structure sR (H:Hp) (C v dx nl:Addr) (ss:List Str):Prop where
 ob:H v=some (.ins C dx [("names",.ref nl)])
 nl:H nl=some (.lst (ss.map V.str))
 nd:ss.Nodup
 iq:ss.length<=12
structure lP (K:W.Frag) (mg:Str->Option Value) (C fI fB fS fP fG fK:Addr):Prop where
 ct:Cls K C
 na:l9 K C "names"
 vH:Mk K C fI
 m:mg "Take"=some (.ref C)
 b:Meth K C "behind" fB
 s:Meth K C "see" fS
 p:Meth K C "put" fP
 g:Meth K C "grade" fG
 k:Meth K C "keeps" fK
def EF (K:W.Frag) (C:Addr):Sp:=λvs H Q _=>∃x hl dx,∃ss:List Str,vs=[.ref x,.ref hl]/\H x=some (.ins C dx [])/\fv K H hl (ss.map V.str)/\∀p H',H p=none->(∀c o,c≠x->H c=some o->H' c=some o)->H' x=some (.ins C dx [("names",.ref p)])->H' p=some (.lst (ss.map V.str))->Q .non H'
def sS (P2 C:Addr):Sp:=λvs H Q _=>∃v J t dx nl xs fs ss,vs=[.ref v,.ref J]/\sR H C v dx nl ss/\mC H J t xs fs/\(∀x∈ss,x∈fs.names)/\fT P2 i4 i6 H/\∀r t' H',iU P2 H H'->fT P2 i4 i6 H'->H' r=some (.tup [.str "record",.ref t'])->H' t'=some (.tup (i8 ss xs fs.names))->Q (.ref r) H'
def vI (n:Nat):Sp:=λvs H Q _=>∃kv v k d fp,vs=[kv,v]/\KA H kv k/\k.W/\Own H v d fp/\my k d/\d.dep<=n/\d.Sm/\∀H',Same H H'->Q .non H'
def EG (C:Addr):Sp:=λvs H Q _=>∃v x dx nl ss,vs=[.ref v,.str x]/\sR H C v dx nl ss/\Q (.bl (decide (x∈ss))) H
def Kn (H H':Hp):Prop:=∀c o,(∀ps,o≠ .g4 ps)->H c=some o->H' c=some o
theorem Kn.of {H H':Hp}(s:Same H H'):Kn H H':=λc o _ e=>s c o e
theorem Kn.trans {H H1 H2:Hp}(a:Kn H H1)(b:Kn H1 H2):Kn H H2:=λc o J e=>b c o J (a c o J e)
theorem Kn.lO {P:Addr}{J:Pos}{L:Str}{H H':Hp}(k:iU P H H')(hT:fT P J L H):Kn H H':=λc o U e=>by
 obtain⟨ps,Y⟩:=hT.tab;exact k c o (ic e Y (U ps)) e
theorem Kn.tu {H H':Hp}(k:Kn H H'):Tu H H':=λc xs e=>k c _ (by intro ps z;cases z) e
theorem Kn.lst {H H':Hp}(k:Kn H H'){c:Addr}{xs:List V}(e:H c=some (.lst xs)):H' c=some (.lst xs):=k c _ (by intro ps z;cases z) e
theorem Own.kn {H H':Hp}{v:V}{d:D}{fp:List Addr}(h:Own H v d fp)(k:Kn H H'):Own H' v d fp:=Own.keep k.tu d (λc hc o e=>k c o (by
 intro ps z;rcases Own.alive _ h c hc with⟨_,q⟩|⟨_,q⟩ <;> rw[e] at q <;> rw[z] at q <;> cases q) e) h
theorem fj.kn {H H':Hp}{kvs:List (Key × V)}{m:Ds}{fp:List Addr}(h:fj H kvs m fp)(k:Kn H H'):fj H' kvs m fp:=fj.keep k.tu m (λc hc o e=>k c o (by
 intro ps z;rcases fj.alive _ h c hc with⟨_,q⟩|⟨_,q⟩ <;> rw[e] at q <;> rw[z] at q <;> cases q) e) h
def vJ (n:Nat) (P2 C:Addr):Sp:=λvs H Q _=>∃v L t dx nl xs fs ss src U ks kn J fp,vs=[.ref v,.ref L,.ref src,.ref U]/\sR H C v dx nl ss/\mC H L t xs fs/\(∀x∈ss,x∈fs.names)/\fT P2 i4 i6 H/\H src=some (.dK ks)/\ks.length<=12/\H U=some (.dK kn)/\fj H kn J fp/\mx (fs.gc ss) J/\J.dep+1<=n/\(D.dct J).Sm/\
 ∀p H',iU P2 H H'->fT P2 i4 i6 H'->H p=none->H' p=some (.dK (jS ks kn))->Q (.ref p) H'
section
variable {P:Program}{w:World}{K:W.Frag}{mg:Str->Option Value}{base:Heap}
variable {C P2:Addr}
theorem Lv:gi Xk Xk (fM (fX 32 0)):=gw
theorem Lw (T:Tb mg)(TK:lP K mg C J Y ac ae aa ab)(L:Dm K "__init__" "Take.__init__" rM (fX 32 0) J U):fm P w K mg base fw (1) J U rM (EF K C):=by
 refine L.F.ok Lv λvs H Q E h=>?_;obtain⟨x,hl,dx,ss,rfl,hx,hs,q⟩:=h;refine⟨rfl,λag A outer s nd hr hu=>?_⟩;refine⟨_,(fx (AW (pv 0) (kO Hj (by rfl) T.pS boot_list (a_ (pv 1) c_)) rfl)),?_⟩
 ac_rfl
 refine⟨_,rfl,hl,_,rfl,.inl hs,λp hp=>?_⟩;have af:x≠p:=fJ hx hp;refine⟨_,rfl,x,C,dx,[],rfl,by rw[fk af];exact hx,TK.ct,TK.na,by decide,?_⟩;refine q p _ hp (λc o hc e=>by rw[fk hc,fk (fJ e hp)];exact e) fA ?_;rw[fk (Ne.symm af),fA]
theorem Lx:gi XM XM (fM (fX 32 1)):=gw
theorem Ly (T:Tb mg)(TK:lP K mg C aq J aw ax au av)(ab:Dm K "behind" "Take.behind" jP (fX 32 1) J ac)(ai:Dn K mg "ask_stands" oI (top 24) aj ak)(al:fm P w K mg base fw (1) aj ak oI (vz))(L:Dn K mg "has_each_once" rK (top 29) U Y)(aa:fm P w K mg base fw (3) U Y rK (Ef K))(ae:Dn K mg "fields_among" rL (top 30) af ag)(ah:fm P w K mg base fw (1) af ag rL (Eg true K))(am:Dn K mg "record_of" lL (top 9) an ao)(ap:fm P w K mg base fw (9) an ao lL (Ec K P2)):fm P w K mg base fw (10) J ac jP (sS P2 C):=by
 refine ab.F.ok Lx λvs H Q E h=>?_;obtain⟨v,kk,t,dx,nl,xs,fs,ss,rfl,hV,hK,aA,hT,q⟩:=h;refine⟨rfl,λaH A outer s nd hr hu=>?_⟩
 refine⟨_,(e_ (jh (fL al hr ai (a_ (fL aa hr L (a_ (pv 1) (a_ (m4 (pv 0) rfl) c_))) c_)))
  (fx (fE (fL ap hr am (a_ (fL ah hr ae (a_ (fy (pv 1) b_) (a_ (m4 (pv 0) rfl) c_))) c_))))),?_⟩
 ac_rfl
 refine⟨_,rfl,_,rfl,v,C,dx,_,_,rfl,hV.ob,TK.ct,TK.na,rfl,kk,t,nl,xs,fs,ss,rfl,hK.at_,hK.tu,hK.fa,hK.nd,fv.of hV.nl,hV.nd,hV.iq,aA,λH1 s1=>⟨rfl,?_⟩⟩;have ar:=hK.mono (Tu.of s1);refine⟨_,rfl,kk,_,_,_,rfl,rfl,d_.of ar.at_,rfl,_,rfl,v,C,dx,_,_,rfl,s1 _ _ hV.ob,TK.ct,TK.na,rfl,t,nl,xs,fs,ss,rfl,ar.tu,ar.fa,ar.iq,fv.of (s1 _ _ hV.nl),λp H2 s2 ay _=>?_⟩;have az:=s1.trans s2;have aB:=ar.mono (Tu.of s2);obtain⟨qs,e1,e2,aC⟩:=ku.of (FA.few (ss:=ss) fs aB.fa);rw[<-e1] at ay
 have aI:qs.length<=12:=by
  rw[<-sL,e2,Fs.iQ];exact Q0c (Q19 _ _) hK.iq
 refine⟨p,qs,rfl,fv.of ay,aC,by omega,hT.same az,by rw[e2,Fs.iQ];exact hK.nd.filter _,by rw[e2,Fs.iQ];exact hK.so.filter _,λr t' H' kp aD aE aG=>?_⟩;exact q r t' H' ((Kp.of az).trans kp) aD aG (by rw[aE,e1])
theorem Lz:gi ["kind","seen","place"] ["kind","seen"] (fM (top 23)):=gw
theorem LA (n j:Nat)(T:Tb mg)(J:Dn K mg "ask_fit" oJ (top 23) L U)(Y:Dn K mg "misfit" jO (top 11) aa ab)(ac:fm P w K mg base fw (j) aa ab jO (nL n)):fm P w K mg base fw (j+1) L U oJ (vI n):=by
 refine J.F.ok Lz λvs H Q E h=>?_;obtain⟨kv,v,k,d,fp,rfl,hk,hW,ho,hF,hd,hs,q⟩:=h;refine⟨rfl,λae A outer s nd hr hu=>?_⟩
 refine⟨_,(e_ (fN 2 nd (fL ac hr Y (a_ (pv 0) (a_ (pv 1) c_))))
  (fx (f7 (fY mY (pv 2) jq (fV _)) (fx tQ) f9))),?_⟩
 ac_rfl
 refine⟨_,rfl,_,rfl,kv,v,k,d,fp,rfl,hk,hW,ho,hF,hd,hs,λH' s1=>?_⟩;refine⟨_,rfl,rfl,_,rfl,?_⟩;rw[decide_eq_true rfl];exact gR (q _ s1)
theorem LB:gi ["self","kind","source","seen","fresh"] XJ (fM (fX 32 3)):=gw
theorem LC (n j:Nat)(T:Tb mg)(TK:lP K mg C ak J an L al am)(ab:Dm K "put" "Take.put" ml (fX 32 3) L ac)(af:Dn K mg "ask_fit" oJ (top 23) ag ah)(ai:fm P w K mg base fw (j) ag ah oJ (vI n))(U:Dm K "behind" "Take.behind" jP (fX 32 1) J Y)(aa:fm P w K mg base fw (10) J Y jP (sS P2 C))(hj:10<=j):fm P w K mg base fw (j+1) L ac ml (vJ n P2 C):=by
 have CT:=TK.ct;have aj:=TK.b;refine ab.F.ok LB λvs H Q E h=>?_;obtain⟨v,kk,t,dx,nl,xs,fs,ss,src,sn,ks,kn,mn,fp,rfl,hV,hK,ay,hT,ax,aE,az,hO,hU,aG,aA,q⟩:=h;refine⟨rfl,λaH A outer s nd hr hu=>?_⟩
 refine⟨_,(e_ (jh (fL ai hr af (a_ (kN (pv 0) CT aj aa (hr.mono (by omega)) U.b .nil jv (a_ (pv 1) c_)) (a_ (pv 3) c_))))
  (e_ (fN 4 nd (kO sJ (by rfl) T.oH boot_dict (a_ (pv 2) c_)))
  (e_ (jh (ko PySem.F.plainAttrs_dict PySem.F.slot_dict_update PySem.F.type_dict_update D_ (pv 4) (a_ (pv 3) c_)))
  (fx (fE (pv 4)))))),?_⟩
 ac_rfl
 refine⟨_,rfl,v,dx,_,rfl,hV.ob,rfl,_,rfl,v,kk,t,dx,nl,xs,fs,ss,rfl,hV,hK,ay,hT,λr t' H1 ar aw aB ht1=>?_⟩;have k1:=Kn.lO ar hT;have ae:=(hK.mono k1.tu).few ss aB ht1;have ao:=k1 _ _ (by intro ps z;cases z) az;have au:=k1 _ _ (by intro ps z;cases z) ax
 have aC:Own H1 (.ref sn) (.dct mn) (sn::fp):=by
  unfold Own;exact⟨sn,kn,fp,rfl,ao,rfl,hO.kn k1⟩
 refine⟨_,rfl,.ref r,.ref sn,.gA (fs.gc ss),.dct mn,_,rfl,by unfold KA;exact⟨r,t',_,rfl,ae.at_,ae.tu,ae.fa⟩,by unfold Kd.W;exact⟨ae.nd,ae.iq,ae.W⟩,aC,⟨mn,rfl,hU⟩,by simp only[D.dep];omega,aA,λH2 s2=>?_⟩;have ap:=s2 _ _ ao;have av:=s2 _ _ au;refine⟨_,rfl,src,ks,rfl,av,λl hl=>?_⟩;have aq:sn≠l:=fJ ap hl
 have aD:kn.length<=12:=by
  rw[fj.len hO,hU.1];exact ae.iq
 have sF:Same H2 (upd (upd H2 l (.dK ks)) l (.dK (jS ks kn))):=λc o e=>by rw[fk (fJ e hl),fk (fJ e hl)];exact e
 refine⟨_,rfl,.inr (.inr (.inl ⟨rfl,.inl ⟨_,fA⟩⟩)),_,rfl,l,sn,ks,kn,rfl,rfl,Ne.symm aq,fA,by rw[fk aq];exact ap,Q0s (g_ (by omega)),?_⟩;refine⟨_,rfl,q l _ (ar.trans ((Kp.of s2).trans (Kp.of sF))) ((aw.same s2).same sF) ?_ fA⟩
 cases e:H l with
 |none=>rfl
 |some o=>
  by_cases z:l=P2
  . obtain⟨aI,h2⟩:=(aw.same s2).tab;rw[<-z,hl] at h2;cases h2
  . have:=s2 _ _ (ar l o z e);rw[hl] at this;cases this
theorem LD:gi Xh Xh (fM (fX 32 5)):=gw
theorem LF (T:Tb mg)(TK:lP K mg C Y aa ac ae ab J)(L:Dm K "keeps" "Take.keeps" rN (fX 32 5) J U):fm P w K mg base fw (1) J U rN (EG C):=by
 refine L.F.ok LD λvs H Q E h=>?_;obtain⟨v,x,dx,nl,ss,rfl,hV,q⟩:=h;refine⟨rfl,λaf A outer s nd hr hu=>?_⟩;refine⟨_,(fx (fE (ki qU (pv 1) (m4 (pv 0) rfl) (by with_unfolding_all rfl)))),?_⟩
 ac_rfl
 refine⟨_,rfl,_,rfl,v,C,dx,_,_,rfl,hV.ob,TK.ct,TK.na,rfl,nl,_,rfl,.inl (fv.of hV.nl),rfl,nS,?_⟩;rw[<-mB] at q;exact q
end
structure oU (K:W.Frag) (mg:Str->Option Value) (C fI fB fO fS fP fG fK:Addr):Prop where
 ct:Cls K C
 na:l9 K C "inner"
 vH:Mk K C fI
 m:mg "Each"=some (.ref C)
 b:Meth K C "behind" fB
 o:Meth K C "keeps_order" fO
 s:Meth K C "see" fS
 p:Meth K C "put" fP
 g:Meth K C "grade" fG
 k:Meth K C "keeps" fK
structure sT (K:W.Frag) (mg:Str->Option Value) (x:Str) (C:Addr):Prop where
 m:mg x=some (.ref C)
 ty:W.typeIn K (.ref C)=some (.type "type")
 is:(W.clsIn K C).isSome=true
 bx:W.subIn K (.ref C) (.type "BaseException")=some true
structure jf (H:Hp) (pk pb:Addr) (key by_:Str) (xs:List V) (fs:Fs):Prop where
 k:H pk=some (.tup [.str "rows",.str key,.str by_,.ref pb])
 tu:H pb=some (.tup xs)
 fa:FA H xs fs
 W:(Kd.rows key by_ fs).W
 so:fs.names.Pairwise sle
theorem jf.mono {H H':Hp}{J L:Addr}{key by_:Str}{xs:List V}{fs:Fs}(h:jf H J L key by_ xs fs)(u:Tu H H'):jf H' J L key by_ xs fs:=
 ⟨u _ _ h.k,u _ _ h.tu,FA.mono u fs h.fa,h.W,h.so⟩
theorem jf.nd {H:Hp}{J L:Addr}{key by_:Str}{xs:List V}{fs:Fs}(h:jf H J L key by_ xs fs):fs.names.Nodup:=by
 have:=h.W;unfold Kd.W at this;exact this.1
theorem jf.iq {H:Hp}{J L:Addr}{key by_:Str}{xs:List V}{fs:Fs}(h:jf H J L key by_ xs fs):fs.names.length<=12:=by
 have:=h.W;unfold Kd.W at this;exact this.2.1
theorem jf.fW {H:Hp}{J L:Addr}{key by_:Str}{xs:List V}{fs:Fs}(h:jf H J L key by_ xs fs):fs.W:=by
 have:=h.W;unfold Kd.W at this;exact this.2.2.1
structure Ea (H:Hp) (C CE P2 v dx vi LG nl pk pb:Addr) (key by_:Str) (xs:List V) (fs:Fs) (ss:List Str):Prop where
 b:H v=some (.ins CE dx [("inner",.ref vi)])
 tk:sR H C vi LG nl ss
 k:jf H pk pb key by_ xs fs
 inn:∀x∈ss,x∈fs.names
 kJ:key∈ss
 bin:by_=""\/by_∈ss
 lam:fT P2 i4 i6 H
theorem Ea.kn {H H':Hp}{C CE P2 v dx L J nl U Y:Addr}{key by_:Str}{xs:List V}{fs:Fs}{ss:List Str}(h:Ea H C CE P2 v dx L J nl U Y key by_ xs fs ss)(k:Kn H H')(hT:fT P2 i4 i6 H'):Ea H' C CE P2 v dx L J nl U Y key by_ xs fs ss:=
 ⟨k _ _ (by intro ps z;cases z) h.b,⟨k _ _ (by intro ps z;cases z) h.tk.ob,k.lst h.tk.nl,h.tk.nd,h.tk.iq⟩,h.k.mono k.tu,h.inn,h.kJ,h.bin,hT⟩
theorem Ea.same {H H':Hp}{C CE P2 v dx L J nl U Y:Addr}{key by_:Str}{xs:List V}{fs:Fs}{ss:List Str}(h:Ea H C CE P2 v dx L J nl U Y key by_ xs fs ss)(s:Same H H'):Ea H' C CE P2 v dx L J nl U Y key by_ xs fs ss:=h.kn (Kn.of s) (h.lam.same s)
theorem iU.free {P2 c:Addr}{J:Pos}{L:Str}{H H':Hp}(k:iU P2 H H')(hT:fT P2 J L H')(h:H' c=none):H c=none:=by
 cases e:H c with
 |none=>rfl
 |some o=>
  by_cases z:c=P2
  . obtain⟨ps,q⟩:=hT.tab;rw[z,q] at h;cases h
  . rw[k c o z e] at h;cases h
def EH (CE:Addr):Sp:=λvs H Q _=>∃x dx J,vs=[.ref x,.ref J]/\H x=some (.ins CE dx [])/\∀H',(∀c o,c≠x->H c=some o->H' c=some o)->H' x=some (.ins CE dx [("inner",.ref J)])->Q .non H'
def EJ (P2 C:Addr):Sp:=λvs H Q E=>∃l r,vs=l::r/\sS P2 C r H Q E
def EK (n:Nat) (P2 C:Addr):Sp:=λvs H Q E=>∃l r,vs=l::r/\vJ n P2 C r H Q E
def EL (C CE P2:Addr):Sp:=λvs H Q _=>∃v dx U J nl L Y key by_ xs fs ss,vs=[.ref v,.ref L]/\Ea H C CE P2 v dx U J nl L Y key by_ xs fs ss/\Q (.bl true) H
def EN (C CE P2:Addr):Sp:=λvs H Q _=>∃v dx U J nl L Y key by_ xs fs ss,vs=[.ref v,.ref L]/\Ea H C CE P2 v dx U J nl L Y key by_ xs fs ss/\
 ∀q t' H',iU P2 H H'->fT P2 i4 i6 H'->H' q=some (.tup [.str "rows",.str key,.str by_,.ref t'])->H' t'=some (.tup (i8 ss xs fs.names))->Q (.ref q) H'
section
variable {P:Program}{w:World}{K:W.Frag}{mg:Str->Option Value}{base:Heap}
variable {C CE P2 LH LI:Addr}
theorem LJ:gi ["ahead","inner","kind","e"] Xl (fM (top 25)):=gw
theorem LK (T:Tb mg)(TK:lP K mg C af J ai aj ag ah)(XC:sT K mg "NoView" LH)(L:Dn K mg "behind_inner" rO (top 25) U Y)(aa:Dm K "behind" "Take.behind" jP (fX 32 1) J ab)(ac:fm P w K mg base fw (10) J ab jP (sS P2 C)):fm P w K mg base fw (11) U Y rO (EJ P2 C):=by
 have CT:=TK.ct;have ae:=TK.b;refine L.F.ok LJ λvs H Q E h=>?_;obtain⟨l,r,rfl,v,kk,t,dx,nl,xs,fs,ss,rfl,hV,hK,ak,hT,q⟩:=h;refine⟨rfl,λal A outer s nd hr hu=>?_⟩;refine⟨_,(fx (D4 (Ek:=λ_ _ _=>False) (i:=3) rfl rfl (D3 (D5 (kN (pv 1) CT ae ac (hr.mono (by decide)) aa.b .nil jv (a_ (pv 2) c_)))) rfl XC.m XC.ty XC.is XC.bx (λ_ _ _ z=>z.elim) nd rfl rfl (λa=>tR))),?_⟩
 ac_rfl
 refine⟨?_,λa C' dd H' na hE=>hE.elim⟩;exact⟨_,rfl,v,dx,_,rfl,hV.ob,rfl,_,rfl,v,kk,t,dx,nl,xs,fs,ss,rfl,hV,hK,ak,hT,q⟩
theorem LL:gi ["ahead","inner","kind","source","seen","e"] XZ (fM (top 26)):=gw
theorem LM (n j:Nat)(T:Tb mg)(TK:lP K mg C ae af aj J ag ah)(XC:sT K mg "CantPut" LI)(L:Dn K mg "put_inner" rP (top 26) U Y)(aa:Dm K "put" "Take.put" ml (fX 32 3) J ab)(ac:fm P w K mg base fw (j) J ab ml (vJ n P2 C)):fm P w K mg base fw (j+1) U Y rP (EK n P2 C):=by
 have CT:=TK.ct;have ai:=TK.p;refine L.F.ok LL λvs H Q E h=>?_;obtain⟨l,r,rfl,v,kk,t,dx,nl,xs,fs,ss,src,sn,ks,kn,mn,fp,rfl,hV,q⟩:=h;refine⟨rfl,λak A outer s nd hr hu=>?_⟩;refine⟨_,(fx (D4 (Ek:=λ_ _ _=>False) (i:=5) rfl rfl (D3 (D5 (kN (pv 1) CT ai ac (hr.mono (by omega)) aa.b .nil jv (a_ (pv 2) (a_ (pv 3) (a_ (pv 4) c_)))))) rfl XC.m XC.ty XC.is XC.bx (λ_ _ _ z=>z.elim) nd rfl rfl (λa=>tR))),?_⟩
 ac_rfl
 refine⟨?_,λa C' dd H' na hE=>hE.elim⟩;exact⟨_,rfl,v,dx,_,rfl,hV.ob,rfl,_,rfl,_,rfl,_,rfl,v,kk,t,dx,nl,xs,fs,ss,src,sn,ks,kn,mn,fp,rfl,hV,q⟩
theorem LN:gi Xm Xm (fM (fX 34 0)):=gw
theorem LO (T:Tb mg)(EA:oU K mg CE J aa Y ae af ab ac)(L:Dm K "__init__" "Each.__init__" rQ (fX 34 0) J U):fm P w K mg base fw (1) J U rQ (EH CE):=by
 refine L.F.ok LN λvs H Q E h=>?_;obtain⟨x,dx,vi,rfl,hx,q⟩:=h;refine⟨rfl,λag A outer s nd hr hu=>?_⟩;refine⟨_,(fx (AW (pv 0) (pv 1) rfl)),?_⟩
 ac_rfl
 refine⟨_,rfl,_,rfl,x,CE,dx,[],rfl,hx,EA.ct,EA.na,by decide,?_⟩;exact q _ (λc o hc e=>by rw[fk hc];exact e) fA
theorem LP:gi XM XM (fM (fX 34 2)):=gw
theorem LQ (T:Tb mg)(TK:lP K mg C ag ai ao ap ak L)(EA:oU K mg CE ah aj J aq ar al am)(ab:Dm K "keeps_order" "Each.keeps_order" jP (fX 34 2) J ac)(U:Dm K "keeps" "Take.keeps" rN (fX 32 5) L ae)(Y:fm P w K mg base fw (1) L ae rN (EG C)):fm P w K mg base fw (2) J ac jP (EL C CE P2):=by
 have af:=TK.ct;have aa:=TK.k;refine ab.F.ok LP λvs H Q E h=>?_;obtain⟨v,dx,vi,an,nl,pk,pb,key,by_,xs,fs,ss,rfl,B,q⟩:=h;refine⟨rfl,λau A outer s nd hr hu=>?_⟩;refine⟨_,(fx (fE (lZ (kN (m4 (pv 0) rfl) af aa Y (hr.mono (by decide)) U.b .nil jv (a_ (fy (pv 1) b_) c_)) (lY (Gf (ki gx (fy (pv 1) b_) gj (fV _)) (lY (kN (m4 (pv 0) rfl) af aa Y (hr.mono (by decide)) U.b .nil jv (a_ (fy (pv 1) b_) c_)))))))),?_⟩
 ac_rfl
 refine⟨_,rfl,v,CE,dx,_,_,rfl,B.b,EA.ct,EA.na,rfl,vi,an,_,rfl,B.tk.ob,rfl,_,rfl,pk,_,_,_,rfl,rfl,d_.of B.k.k,rfl,vi,key,an,nl,ss,rfl,B.tk,?_⟩;rw[decide_eq_true B.kJ];refine⟨true,rfl,ig ?_⟩;refine⟨_,rfl,pk,_,_,_,rfl,rfl,d_.of B.k.k,rfl,rfl,_,rfl,gO (λ_=>q) (λcc=>?_)⟩;have hb:by_∈ss:=B.bin.resolve_left λz=>cc (decide_eq_true (by rw[z]));refine⟨_,rfl,v,CE,dx,_,_,rfl,B.b,EA.ct,EA.na,rfl,vi,an,_,rfl,B.tk.ob,rfl,_,rfl,pk,_,_,_,rfl,rfl,d_.of B.k.k,rfl,vi,by_,an,nl,ss,rfl,B.tk,?_⟩;rw[decide_eq_true hb];exact q
theorem LR:gi ["self","kind","shown"] XM (fM (fX 34 1)):=gw
theorem LS (T:Tb mg)(EA:oU K mg CE an L J ar au ap aq)(af:Dm K "behind" "Each.behind" jP (fX 34 1) L ag)(ac:Dn K mg "ask_stands" oI (top 24) al am)(ae:fm P w K mg base fw (1) al am oI (vz))(ah:Dn K mg "behind_inner" rO (top 25) ai aj)(ak:fm P w K mg base fw (11) ai aj rO (EJ P2 C))(U:Dm K "keeps_order" "Each.keeps_order" jP (fX 34 2) J Y)(aa:fm P w K mg base fw (2) J Y jP (EL C CE P2)):fm P w K mg base fw (12) L ag jP (EN C CE P2):=by
 have ao:=EA.ct;have ab:=EA.o;refine af.F.ok LR λvs H Q E h=>?_;obtain⟨v,dx,vi,av,nl,pk,pb,key,by_,xs,fs,ss,rfl,B,q⟩:=h;refine⟨rfl,λay A outer s nd hr hu=>?_⟩
 refine⟨_,(e_ (jh (fL ae hr ac (a_ (ki gx (fy (pv 1) b_) gj (fV _)) c_)))
  (e_ (fN 2 nd (fL ak hr ah (a_ (iw (a_ gj c_)) (a_ (m4 (pv 0) rfl) (a_ (ij (a_ gj (a_ (fy (pv 1) b_) c_))) c_)))))
  (e_ (jh (fL ae hr ac (a_ (lZ (ki gx (fy (pv 2) b_) gj (fV _)) (lY (kN (pv 0) ao ab aa (hr.mono (by decide)) U.b .nil jv (a_ (pv 1) c_)))) c_)))
  (fx (fE (ij (a_ gj (a_ (fy (pv 1) b_) (a_ (fy (pv 1) b_) (a_ (fy (pv 2) b_) c_)))))))))),?_⟩
 ac_rfl
 refine⟨_,rfl,pk,_,_,_,rfl,rfl,d_.of B.k.k,rfl,rfl,by rw[decide_eq_true rfl];rfl,?_⟩;refine⟨mj,λl hl=>?_⟩;have s1:Same H (upd H l (.lst [.str "row"])):=Same.new hl;generalize upd H l (.lst [.str "row"])=H1 at s1;have B1:=B.same s1;refine⟨_,rfl,v,CE,dx,_,_,rfl,B1.b,EA.ct,EA.na,rfl,_,rfl,pk,_,_,_,rfl,rfl,d_.of B1.k.k,rfl,ix,λt ht=>?_⟩;have s2:Same H1 (upd H1 t (.tup [.str "record",.ref pb])):=Same.new ht;have e2:=fA (H:=H1) (a:=t) (o:=.tup [.str "record",.ref pb]);generalize upd H1 t (.tup [.str "record",.ref pb])=H2 at s2 e2;have B2:=B1.same s2;refine⟨.ref l,_,rfl,vi,t,pb,av,nl,xs,fs,ss,rfl,B2.tk,⟨e2,B2.k.tu,B2.k.fa,B2.k.nd,B2.k.iq,B2.k.fW,B2.k.so⟩,B2.inn,B2.lam,λr t' H3 kp hT aw ax=>?_⟩;have k3:=Kn.lO kp B2.lam;have B3:=B2.kn k3 hT;refine⟨_,rfl,r,_,_,_,rfl,rfl,d_.of aw,rfl,rfl,true,by rw[decide_eq_true rfl],ig ?_⟩;refine⟨_,rfl,v,dx,_,rfl,B3.b,rfl,_,rfl,v,dx,vi,av,nl,pk,pb,key,by_,xs,fs,ss,rfl,B3,rfl,?_⟩;refine⟨_,rfl,pk,_,_,_,rfl,rfl,d_.of B3.k.k,rfl,_,rfl,pk,_,_,_,rfl,rfl,d_.of B3.k.k,rfl,_,rfl,r,_,_,_,rfl,rfl,d_.of aw,rfl,pU,λz hz=>?_⟩;have s4:Same H3 (upd H3 z (.tup [.str "rows",.str key,.str by_,.ref t'])):=Same.new hz;exact q z t' _ ((Kp.of (s1.trans s2)).trans (kp.trans (Kp.of s4))) (hT.same s4) fA (s4 _ _ ax)
end
theorem fZ.kn {H H':Hp}{vs:List V}{J:List Ds}{L:List (List Addr)}(h:fZ H vs J L)(k:Kn H H'):fZ H' vs J L:=A3.imp (λ_ _ _ U=>U.kn k) h
theorem A3.row {α J L:Type}{R:α->J->L->Prop}:∀{as:List α}{bs:List J}{cs:List L}{i:Nat}{a:α},A3 R as bs cs->as[i]? =some a->∃b c,bs[i]? =some b/\cs[i]? =some c/\R a b c
 |_,_,_,_,_,.nil,h=>by simp at h
 |_,_,_,0,_,.cons x r,h=>by cases h;exact⟨_,_,rfl,rfl,x⟩
 |_,_,_,i+1,_,.cons x r,h=>A3.row (i:=i) r (by simpa using h)
noncomputable def i9 (key:Str) (J:List Ds) (L:List V):List (Key × V):=(J.zip L).map λq=>(keyOf q.1 key,q.2)
theorem ES {R:V->Ds->List Addr->Prop}{key:Str}:∀{L:List V}{J:List Ds}{U:List (List Addr)},A3 R L J U->(i9 key J L).map (·.1)=J.map λm=>keyOf m key
 |_,_,_,.nil=>rfl
 |_,_,_,.cons x r=>by
  exact congrArg (List.cons _) (ES r)
noncomputable def rowOf (key:Str) (J:List Ds) (p:Key):Option Ds:=J.find? λm=>decide (keyOf m key=p)
theorem ET {R:V->Ds->List Addr->Prop}{key:Str}{p:Key}:∀{L:List V}{J:List Ds}{U:List (List Addr)},A3 R L J U->(gH (i9 key J L) p=none/\rowOf key J p=none)\/∃w m f,gH (i9 key J L) p=some w/\rowOf key J p=some m/\R w m f/\m∈J/\f∈U
 |_,_,_,.nil=>.inl ⟨rfl,rfl⟩
 |_,_,_,.cons (a:=w) (b:=m) (c:=f) (as:=as) (bs:=bs) (cs:=cs) x r=>by
  by_cases e:keyOf m key=p
  . refine .inr ⟨w,m,f,?_,?_,x,Q01,Q01⟩
    . show gH ((keyOf m key,w)::i9 key bs as) p=_;exact m9 e
    . unfold rowOf;rw[Q3e (by exact decide_eq_true e)]
  . have h1:gH (i9 key (m::bs) (w::as)) p=gH (i9 key bs as) p:=by
     show gH ((keyOf m key,w)::i9 key bs as) p=_;exact m_ e
    have h2:rowOf key (m::bs) p=rowOf key bs p:=by
     unfold rowOf;rw[Q3f (by simpa using e)]
    rw[h1,h2];rcases ET r with h|⟨Y,m',f',a1,a2,a3,a4,a5⟩
    . exact .inl h
    . exact .inr ⟨Y,m',f',a1,a2,a3,Q04 _ a4,Q04 _ a5⟩
def EU:Sp:=λvs H Q _=>∃U Y key by_ D J L fl fs,vs=[.ref U,.ref D]/\H U=some (.tup [.str "rows",.str key,.str by_,.ref Y])/\H D=some (.lst J)/\fZ H J L fl/\J.length<64/\(∀m∈L,f6 fs m)/\fs.pl key/\(L.map λm=>keyOf m key).Nodup/\
 ∀a H',Same H H'->H a=none->H' a=some (.dK (i9 key L J))->Q (.ref a) H'
def EW:Sp:=λvs H Q _=>∃a x v,∃kvs:List (Key × V),vs=[.ref a,.str x,v]/\H a=some (.dK kvs)/\kvs.length<=100/\∀p H',Same H H'->H p=none->H' p=some (.dK (putK kvs (Sum.inr x) v))->Q (.ref p) H'
theorem LU:gi ["record","name","value","fresh"] Xj (fM (top 31)):=gw
theorem LV (T:Tb mg)(J:Dn K mg "with_field" rR (top 31) L U):fm P w K mg base fw (1) L U rR (EW):=by
 refine J.F.ok LU λvs H Q E h=>?_;obtain⟨a,x,v,kvs,rfl,ha,Y,q⟩:=h;refine⟨rfl,λaa A outer s nd hr hu=>?_⟩
 refine⟨_,(e_ (fN 3 nd (kO sJ (by rfl) T.oH boot_dict (a_ (pv 0) c_)))
  (e_ (kU hu (pv 3) (pv 1) (pv 2) rfl)
  (fx (fE (pv 3))))),?_⟩
 ac_rfl
 refine⟨_,rfl,a,_,rfl,ha,λp hp=>?_⟩;refine⟨_,rfl,_,rfl,_,rfl,p,_,rfl,ju.k (k:=Sum.inr x) fA (g_ (by omega)),?_⟩;refine⟨_,rfl,q p _ (λc o e=>?_) hp ?_⟩
 . rw[fk (fJ e hp),fk (fJ e hp)];exact e
 . rw[fA]
theorem LW:gi ["kind","rows","found","row"] Xg (fM (top 21)):=gw
theorem LX (T:Tb mg)(L:Dn K mg "by_key" lJ (top 21) U Y):fm P w K mg base fw (1) U Y lJ (EU):=by
 refine L.F.ok LW λvs H Q E h=>?_;obtain⟨pk,pb,key,by_,D,ws,ms,fl,fs,rfl,ai,hD,J,an,af,ag,aj,q⟩:=h;refine⟨rfl,λao A outer s nd hr hu=>?_⟩
 refine⟨_,(e_ (fN 2 nd oj)
  (e_ (iz PassesOwn.never rfl (kh (pv 1)) (gu (i:=3) nd rfl gQ) (fx (kU hu (pv 2) (iA hu (pv 3) (fy (pv 0) b_) (λ_ _=>rfl)) (pv 3) rfl)))
  (fx (fE (pv 2))))),?_⟩
 ac_rfl
 have ah:=(A3.len J).1;have aa:=ES (key:=key) J;have ac:(i9 key ms ws).length=ws.length:=by rw[<-Q05 (·.1),aa,Q05,ah]
 intro p hp;have s0:Same H (upd H p (.dK [])):=Same.new hp;refine⟨_,rfl,D,rfl,⟨_,fv.of (s0 _ _ hD)⟩,n9 (xs:=ws) (λi σ H'=>i<=ws.length/\∃y,σ=[some (.ref pk),some (.ref D),some (.ref p),y]/\Same H H'/\H' p=some (.dK ((i9 key ms ws).take i))) ⟨Q0a _,_,rfl,s0,fA⟩ ?_ ?_ ?_⟩
 . rintro i σ H' _ ⟨_,y,rfl,s2,_⟩;exact fv.of (s2 _ _ hD)
 . rintro i x σ H' hx ⟨_,y,rfl,s2,ab⟩;have hi:i<ws.length:=(List.getElem?_eq_some_iff.mp hx).1;obtain⟨m,f,hm,_,ho⟩:=A3.row J hx;obtain⟨rr,rfl,gk⟩:=oM ho (af m (Q0g hm)).p ag
   have ae:(i9 key ms ws)[i]? =some (keyOf m key,.ref rr):=by
    unfold i9;rw[Q0h,Q2o (z:=(m,V.ref rr)) |>.mpr ⟨hm,hx⟩];rfl
   have ak:gH ((i9 key ms ws).take i) (keyOf m key)=none:=by
    have al:((i9 key ms ws).map (·.1)).Nodup:=by rw[aa];exact aj
    cases z:gH ((i9 key ms ws).take i) (keyOf m key) with
    |none=>rfl
    |some o=>
     exfalso;have z2:=ng (keyOf m key) ((i9 key ms ws).take i);rw[z] at z2;obtain⟨kv,h1,h2⟩:=List.any_eq_true.mp z2;have h2:=of_decide_eq_true h2;obtain⟨j,hj,e⟩:=Q0v h1;rw[Q0o] at hj;rw[Q1t] at e;have am:i<(i9 key ms ws).length:=by omega
     have q1:=List.pairwise_iff_getElem.mp (List.pairwise_map.mp al) j i (by omega) am (by omega);have q2:=(List.getElem?_eq_some_iff.mp ae).2;rw[e,q2] at q1;exact q1 h2
   refine⟨_,rfl,_,rfl,_,rfl,_,rfl,pk,_,_,_,rfl,rfl,d_.of (s2 _ _ ai),rfl,rr,_,rfl,gk _ s2,p,_,rfl,ju.k ab (by rw[Q0o,ac];exact g_ (by omega)),?_⟩;rw[nz ak];refine⟨hi,_,rfl,λc o e=>by rw[fk (fJ e hp)];exact s2 _ _ e,?_⟩;rw[fA,Q0l,ae];rfl
 . rintro σ H' ⟨_,y,rfl,s2,ab⟩;rw[Q0z (by rw[ac];exact Q0 _)] at ab;exact⟨_,rfl,q p _ s2 hp ab⟩
theorem EX:∀{l J:List Ds},gm l=gm J->l=J
 |[],[],_=>rfl
 |[],_::_,h=>by unfold gm at h;cases h
 |_::_,[],h=>by unfold gm at h;cases h
 |m::r,L::U,h=>by
  unfold gm at h;injection h with _ h1 h2
  injection h1 with h1
  rw[h1,EX h2]
theorem vK {H:Hp}{D:Addr}{vs:List V}{J:List Ds}{L:List (List Addr)}(U:H D=some (.lst vs))(h:fZ H vs J L):Own H (.ref D) (.lst (gm J)) (D::L.flatten):=by
 unfold Own;exact⟨D,vs,_,rfl,U,rfl,h.own⟩
theorem LY {T:TE}{σ:L2.St}{H:Hp}{Q:VK}(Pv:V->Hp->Prop)(J:∀x H',Pv x H'->Q x H')(L:(∀x H',Pv x H'->Q x H')->T σ H Q):T σ H Q:=L J
noncomputable def iW (fs:Fs) (key:Str) (J:List Ds) (p:Key):Ds:=(rowOf key J p).getD ((iV fs).upd key (kD p))
noncomputable def gW (fs:Fs) (key:Str) (J:List Ds) (m:Ds):Ds:=nU fs (iW fs key J (keyOf m key)) m
def EY (n:Nat) (C CE P2:Addr):Sp:=λvs H Q _=>∃v dx vi U nl pk pb key by_ xs fs ss S L J fl Z us ns gl,vs=[.ref v,.ref pk,.ref S,.ref Z]/\Ea H C CE P2 v dx vi U nl pk pb key by_ xs fs ss/\H S=some (.lst L)/\fZ H L J fl/\L.length<64/\(∀m∈J,f6 fs m)/\(J.map λm=>keyOf m key).Nodup/\
 H Z=some (.lst us)/\fZ H us ns gl/\us.length<64/\fU (.rows key by_ (fs.gc ss)) (.lst (gm ns))/\(D.lst (gm ns)).dep<=n/\(D.lst (gm ns)).Sm/\fs.dep<=n/\
 ∀R rs Y H',iU P2 H H'->fT P2 i4 i6 H'->H R=none->H' R=some (.lst rs)->fZ H' rs (ns.map (gW fs key J)) Y->Q (.ref R) H'
section
variable {P:Program}{w:World}{K:W.Frag}{mg:Str->Option Value}{base:Heap}
variable {C CE P2:Addr}
theorem LZ:gi ["self","kind","source","seen","old_rows","new_rows","number","row","key","old"] XJ (fM (fX 34 4)):=gw
theorem L0 (n j:Nat)(T:Tb mg)(EA:oU K mg CE aC J av aX L aO aP)(an:Dm K "put" "Each.put" ml (fX 34 4) L ao)(ay:Dn K mg "ask_fit" oJ (top 23) az aA)(aB:fm P w K mg base fw (j) az aA oJ (vI n))(U:Dm K "behind" "Each.behind" jP (fX 34 1) J Y)(aa:fm P w K mg base fw (12) J Y jP (EN C CE P2))(aG:Dn K mg "by_key" lJ (top 21) aH aI)(aJ:fm P w K mg base fw (1) aH aI lJ (EU))(ai:Dn K mg "with_field" rR (top 31) aj ak)(al:fm P w K mg base fw (1) aj ak rR (EW))(ab:Dn K mg "empty_record" nG (top 19) ac ae)(af:fm P w K mg base fw (2 * n+2) ac ae nG (vF n))(ap:Dn K mg "put_inner" rP (top 26) aq ar)(au:fm P w K mg base fw (j+2) aq ar rP (EK n P2 C))(hj:12<=j)(bW:2 * n+2<=j):fm P w K mg base fw (j+3) L ao ml (EY n C CE P2):=by
 have aN:=EA.ct;have ag:=EA.b;refine an.F.ok LZ λvs H Q E h=>?_;obtain⟨v,dx,vi,bc,nl,pk,pb,key,by_,xs,fs,ss,S,ws,ms,fl,Z,us,ns,gl,rfl,B,hS,ax,bC,aY,bD,hZ,am,bV,hF,bd,be,bE,q⟩:=h;refine⟨rfl,λbX A outer s nd hr hu=>?_⟩
 refine⟨_,(e_ (jh (fL aB hr ay (a_ (kN (pv 0) aN ag aa (hr.mono (by omega)) U.b .nil jv (a_ (pv 1) c_)) (a_ (pv 3) c_))))
  (e_ (fN 4 nd (fL aJ hr aG (a_ (pv 1) (a_ (pv 2) c_))))
  (e_ (fN 5 nd (iw c_))
  (e_ (iz PassesOwn.never rfl (uq rfl T.uP (a_ (pv 3) c_)) (jD rfl (ie (gu (i:=6) nd rfl gQ) (ie (gu (i:=7) nd rfl gQ) jC))) (e_ (fN 8 nd (iA hu (pv 7) (fy (pv 1) b_) (λ_ _=>rfl)))
  (e_ (fN 9 nd (tN (qI (ui hu (pv 8) (pv 4)) (by with_unfolding_all rfl)) (iA hu (pv 4) (pv 8) (λ_ _=>rfl)) (fL al hr ai (a_ (fL af hr ab (a_ (fy (pv 1) b_) c_)) (a_ (fy (pv 1) b_) (a_ (pv 8) c_))))))
  (fx (jh (ko PySem.F.plainAttrs_list PySem.F.slot_list_append PySem.F.type_list_append lB (pv 5) (a_ (fL au hr ap (a_ (iw (a_ (pv 6) c_)) (a_ (m4 (pv 0) rfl) (a_ (ij (a_ gj (a_ (fy (pv 1) b_) c_))) (a_ (pv 9) (a_ (pv 7) c_)))))) c_)))))))
  (fx (fE (pv 5))))))),?_⟩
 ac_rfl
 refine⟨_,rfl,v,dx,_,rfl,B.b,rfl,_,rfl,v,dx,vi,bc,nl,pk,pb,key,by_,xs,fs,ss,rfl,B,λq0 t' H1 a6 a7 bF ht1=>?_⟩;have hW:=B.k.W;unfold Kd.W at hW;have aZ:=hW.2.2.2.1
 have a1:(Kd.rows key by_ (fs.gc ss)).W:=by
  unfold Kd.W
  have pl:∀x,x∈ss->fs.pl x->(fs.gc ss).pl x:=λx hx h=>by
   obtain⟨k,h1,h2⟩:=h;exact⟨k,by rw[Fs.lg,if_pos hx];exact h1,h2⟩
  refine⟨by rw[Fs.iQ];exact hW.1.filter _,by rw[Fs.iQ];exact Q0c (Q19 _ _) hW.2.1,Fs.qm ss hW.2.2.1,pl _ B.kJ aZ,?_⟩;rcases hW.2.2.2.2 with z|z
  . exact .inl z
  . rcases B.bin with y|y
    . exact .inl y
    . exact .inr (pl _ y z)
 have bG:=hF;unfold fU at hF;obtain⟨aQ,a8,aK,_,_⟩:=hF
 have a8:aQ=ns:=by
  injection a8 with e
  exact(EX e).symm
 subst a8;have k1:=Kn.lO a6 B.lam;have B1:=B.kn k1 a7;have bg:=k1.lst hZ;have bH:=k1.lst hS;refine⟨_,rfl,.ref q0,.ref Z,.rows key by_ (fs.gc ss),.lst (gm aQ),Z::gl.flatten,rfl,by unfold KA;exact⟨q0,t',_,rfl,bF,ht1,FA.few fs B1.k.fa⟩,a1,vK bg (am.kn k1),my.of bG,bd,be,λH2 s2=>?_⟩;have B2:=B1.same s2;have k2:=k1.trans (Kn.of s2);refine⟨_,rfl,_,rfl,pk,pb,key,by_,S,ws,ms,fl,fs,rfl,B2.k.k,s2 _ _ bH,ax.kn k2,bC,aY,aZ,bD,λod H3 s3 bY bw=>?_⟩;refine⟨Q0a _,λR hR=>?_⟩;have s4:Same H3 (upd H3 R (.lst [])):=Same.new hR;have e4:=fA (H:=H3) (a:=R) (o:=.lst []);generalize upd H3 R (.lst [])=H4 at s4 e4;have a9:=(s2.trans s3).trans s4;have bI:iU P2 H H4:=a6.trans (Kp.of a9);have bJ:=a7.same a9;have aT:H R=none:=iU.free (a6.trans (Kp.of (s2.trans s3))) (a7.same (s2.trans s3)) hR;have bx:=(A3.len am).1;refine⟨_,rfl,Z,rfl,⟨_,fv.of (a9 _ _ bg)⟩,u_ (xs:=us) (λi σ H'=>∃x y z u rs aD,σ=[some (.ref v),some (.ref pk),some (.ref S),some (.ref Z),some (.ref od),some (.ref R),x,y,z,u]/\iU P2 H H'/\fT P2 i4 i6 H'/\H' od=some (.dK (i9 key ms ws))/\H' R=some (.lst rs)/\fZ H' rs ((aQ.take i).map (gW fs key ms)) aD/\∀c∈aD.flatten,c≠R) ⟨_,_,_,_,[],[],rfl,bI,bJ,s4 _ _ bw,e4,.nil,λc hc=>nomatch hc⟩ ?_ ?_ ?_⟩
 . intro i σ H' _ zq;obtain⟨_,_,_,_,_,_,rfl,kp,_⟩:=zq;exact fv.of ((Kn.lO kp B.lam).lst hZ)
 . rintro i yv σ H' t hy ⟨x,y,z,u,rs,aD,rfl,kp,hT,a2,aU,aL,bh⟩ ht;have hi:i<us.length:=(List.getElem?_eq_some_iff.mp hy).1;have bi:=Kn.lO kp B.lam;obtain⟨m,f,hm,hf,ho⟩:=A3.row am hy;have ah:=Q0g hm;have st:Same H' (upd H' t (.tup [.int i,yv])):=Same.new ht;have et:=fA (H:=H') (a:=t) (o:=.tup [.int i,yv]);generalize upd H' t (.tup [.int i,yv])=H5 at st et;have k5:=bi.trans (Kn.of st);have B5:=(B.kn bi hT).same st;have bj:=ho.kn k5;unfold Own at bj;obtain⟨rr,kn,fq,rfl,bm,rfl,hO⟩:=bj
   have bn:(fs.gc ss).pl key:=by
    have:=a1;unfold Kd.W at this;exact this.2.2.2.1
   have gk:gI H5 rr (.str key) (some (kV (keyOf m key))):=by
    have:=gI.k (k:=Sum.inr key) bm;rw[hO.nJ (aK m ah).p bn] at this;exact this
   refine⟨t,_,rfl,d_.of et,rfl,_,_,rfl,_,_,rfl,rfl,?_⟩;refine⟨_,rfl,_,rfl,pk,_,_,_,rfl,rfl,d_.of B5.k.k,rfl,rr,_,rfl,gk,?_⟩;dsimp only[iB];refine LY (T:=Ay _ _ _) (λx H6=>Same H5 H6/\∃a ks fo,x=.ref a/\H6 a=some (.dK ks)/\fj H6 ks (iW fs key ms (keyOf m key)) fo/\f6 fs (iW fs key ms (keyOf m key))/\∀c∈fo,c≠R) ?_ (λhB=>?_)
   case refine_2=>
    refine⟨_,rfl,?_⟩;have a3:=st _ _ a2;rcases ET (key:=key) (p:=keyOf m key) (ax.kn k5) with⟨h1,h2⟩|⟨w1,m1,f1,h1,h2,h3,h4,h5⟩
    . have g:gI H5 od (kV (keyOf m key)) none:=by have:=gI.k (k:=keyOf m key) a3;rw[h1] at this;exact this
      refine⟨_,rfl,od,_,rfl,g,false,rfl,gR ?_⟩;have eo:iW fs key ms (keyOf m key)=(iV fs).upd key (kD (keyOf m key)):=by unfold iW;rw[h2];rfl
      have bf:=(qu B.k.fW).1;obtain⟨kk,ba,bZ,bK⟩:=(jk.of (aK m ah) bn).fit;rw[Fs.lg,if_pos B.kJ] at ba;refine⟨_,rfl,pk,_,_,_,rfl,rfl,d_.of B5.k.k,rfl,pb,xs,fs,rfl,B5.k.tu,B5.k.fa,B.k.nd,B.k.iq,B.k.fW,bE,λv1 H7 fp s7 bo bL=>?_⟩;unfold Own at bo;obtain⟨a,ks,fo,rfl,ha,rfl,aw⟩:=bo;have bb:ks.length<=100:=by rw[fj.len aw,bf.names];have:=B.k.iq;omega
      refine⟨_,rfl,pk,_,_,_,rfl,rfl,d_.of (B5.same s7).k.k,rfl,_,rfl,a,key,kV (keyOf m key),ks,rfl,ha,bb,λp H8 s8 b1 e8=>?_⟩;obtain⟨bM,bN,bz⟩:=(aw.same s8).sy (x:=key) (v:=kV (keyOf m key)) (e:=kD (keyOf m key)) vp (by rw[bf.names];exact Fs.get_mem ba);refine hB _ _ ⟨s7.trans s8,p,_,bM,rfl,e8,by rw[eo];exact bN,by rw[eo];exact f6.upd bK B.k.nd ba bf,λc hc z=>?_⟩;have:=bL c (Q04 _ (bz.subset hc));rw[z,st _ _ aU] at this;cases this
    . have g:gI H5 od (kV (keyOf m key)) (some w1):=by have:=gI.k (k:=keyOf m key) a3;rw[h1] at this;exact this
      refine⟨_,rfl,od,_,rfl,g,true,rfl,ig ?_⟩;unfold Own at h3;obtain⟨a,ks,fo,rfl,ha,rfl,aw⟩:=h3;have eo:iW fs key ms (keyOf m key)=m1:=by unfold iW;rw[h2];rfl
      refine⟨_,rfl,_,rfl,od,_,rfl,g,hB _ _ ⟨Same.refl _,a,ks,fo,rfl,ha,by rw[eo];exact aw,by rw[eo];exact aY m1 h4,λc hc z=>?_⟩⟩;have:=ax.mu c (List.mem_flatten.mpr ⟨_,h5,Q04 _ hc⟩);obtain⟨o,e⟩:=this.ex;rw[z,aT] at e;cases e
   intro x5 H6 zq;obtain⟨s6,a,ks,fo,rfl,bO,aw,bp,bP⟩:=zq;have B6:=B5.same s6;have bq:=s6 _ _ (st _ _ aU);refine⟨_,rfl,.inl ⟨rfl,_,fv.of bq⟩,_,rfl,mj,λl hl=>?_⟩;have s7:Same H6 (upd H6 l (.lst [.int i])):=Same.new hl;generalize upd H6 l (.lst [.int i])=H7 at s7;have B7:=B6.same s7;refine⟨_,rfl,v,CE,dx,_,_,rfl,B7.b,EA.ct,EA.na,rfl,_,rfl,pk,_,_,_,rfl,rfl,d_.of B7.k.k,rfl,ix,λt2 k9=>?_⟩;have s8:Same H7 (upd H7 t2 (.tup [.str "record",.ref pb])):=Same.new k9;have e8:=fA (H:=H7) (a:=t2) (o:=.tup [.str "record",.ref pb]);generalize upd H7 t2 (.tup [.str "record",.ref pb])=H8 at s8 e8;have B8:=B7.same s8;have aV:=s7.trans s8;have aE:=s6.trans aV;have bb:ks.length<=12:=by rw[fj.len aw,bp.names];exact B.k.iq
   have bQ:m.dep+1<=n:=by
    have h1:=u6 m ah;simp only[D.dep] at bd;omega
   refine⟨_,rfl,_,rfl,.ref l,_,rfl,vi,t2,pb,bc,nl,xs,fs,ss,a,rr,ks,kn,m,fq,rfl,B8.tk,⟨e8,B8.k.tu,B8.k.fa,B8.k.nd,B8.k.iq,B8.k.fW,B8.k.so⟩,B8.inn,B8.lam,aV _ _ bO,bb,aE _ _ bm,hO.same aE,(aK m ah).u,bQ,u4 (vD.mp be).2 m ah,λp H9 br bR hp bS=>?_⟩;have aM:=Kn.lO br B8.lam;have bt:=aV _ _ bq;have aW:=aM.lst bt;have bu:p≠R:=λz=>by rw[z,bt] at hp;cases hp
   have b2:rs.length=i:=by rw[(A3.len aL).1,Q05,Q0o];omega
   refine⟨R,_,_,rfl,rfl,aW,g_ (by omega),?_⟩;have bA:iU P2 H H9:=kp.trans ((Kp.of (st.trans aE)).trans br);have bB:m.names.Nodup:=by rw[(aK m ah).names,Fs.iQ];exact B.k.nd.filter _
   obtain⟨fp,bT,bU⟩:=Et B.k.nd ((aw.same aV).kn aM) bp ((hO.same aE).kn aM) bB λx hx=>by
    rw[(aK m ah).names,Fs.iQ] at hx;exact(List.mem_filter.mp hx).1
   have a4:Tu H9 (upd H9 R (.lst (rs++[.ref p]))):=Tu.wr λys e=>by rw[aW] at e;cases e
   have a5:∀c∈fp,c≠R:=λc hc=>by
    rcases bU c hc with h|h
    . exact bP c h
    . intro z;obtain⟨o,e⟩:=(am.mu c (List.mem_flatten.mpr ⟨_,Q0g hf,Q04 _ h⟩)).ex;rw[z,aT] at e;cases e
   refine⟨_,_,_,_,rs++[.ref p],aD++[p::fp],rfl,λc o hc e=>by rw[fk (fJ e aT)];exact bA c o hc e,bR.off λc o h1 h2 e=>by rw[fk (λz=>by rw[z,aW] at e;cases e;exact h1 _ rfl)];exact e,?_,fA,?_,λc hc=>?_⟩
   . have bv:=aM _ _ (by intro ps z;cases z) (aE _ _ (st _ _ a2));rw[fk (ic bv aW (by intro z;cases z))];exact bv
   . rw[Q0l,hm];show fZ _ _ ((aQ.take i++[m]).map (gW fs key ms)) _;rw[Q0i];refine A3.snoc ?_ (fZ.keep a4 (aL.kn ((Kn.of (st.trans aE)).trans aM)) λc hc o e=>by rw[fk (bh c hc)];exact e);unfold Own;exact⟨p,_,fp,rfl,by rw[fk bu];exact bS,rfl,bT.keep a4 _ λc hc o e=>by rw[fk (a5 c hc)];exact e⟩
   . rw[Q1f] at hc;rcases List.mem_append.mp hc with z|z
     . exact bh c z
     . have z:c∈p::fp:=by simpa using z
       rcases List.mem_cons.mp z with e|e
       . rw[e];exact bu
       . exact a5 c e
 . intro σ H' zq;obtain⟨_,_,_,_,rs,aD,rfl,kp,hT,_,aU,aL,_⟩:=zq;rw[bx,Q0u] at aL;exact⟨_,rfl,q R rs aD H' kp hT aT aU aL⟩
end
end Pb
namespace Pb
open L2
mutual
theorem sU:∀d:D,d.nl.dep=d.dep
 | .int _=>rfl
 | .str _=>rfl
 | .non=>rfl
 | .boo _=>rfl
 | .tup xs=>by show(D.tup xs.gB).dep=_;simp only[D.dep];rw[vL xs]
 | .lst xs=>by show(D.lst xs.gB).dep=_;simp only[D.dep];rw[vL xs]
 | .dct xs=>by show(D.dct xs.gZ).dep=_;simp only[D.dep];rw[EZ xs]
theorem vL:∀xs:Ds,xs.gB.dep=xs.dep
 | .nil=>by unfold Ds.gB;rfl
 | .cons _ d r=>by unfold Ds.gB;simp only[Ds.dep];rw[sU d,vL r]
theorem EZ:∀xs:Ds,xs.gZ.dep=xs.dep
 | .nil=>by unfold Ds.gZ;rfl
 | .cons _ d r=>by unfold Ds.gZ;simp only[Ds.dep];rw[sU d,EZ r]
end
mutual
theorem Own.sub {H:Hp}{c:Addr}:∀(d:D) {v:V}{fp:List Addr},Own H v d fp->c∈fp->∃d' g,Own H (.ref c) d' g/\d'.dep<=d.dep
 | .int _,_,_,h,hc=>by unfold Own at h;rw[h.2] at hc;cases hc
 | .str _,_,_,h,hc=>by unfold Own at h;rw[h.2] at hc;cases hc
 | .non,_,_,h,hc=>by unfold Own at h;rw[h.2] at hc;cases hc
 | .boo _,_,_,h,hc=>by unfold Own at h;rw[h.2] at hc;cases hc
 | .tup xs,_,_,h,hc=>by
   unfold Own at h;obtain⟨a,vs,rfl,_,hl⟩:=h;obtain⟨d',g,h1,h2⟩:=fC.sub xs hl hc;exact⟨d',g,h1,by simp only[D.dep];omega⟩
 | .lst xs,v,fp,h,hc=>by
   have J:=h;unfold Own at h;obtain⟨a,vs,L,rfl,U,rfl,hl⟩:=h;rcases List.mem_cons.mp hc with e|e
   . rw[e];exact⟨_,_,J,Q0 _⟩
   . obtain⟨d',g,h1,h2⟩:=fC.sub xs hl e;exact⟨d',g,h1,by simp only[D.dep];omega⟩
 | .dct xs,v,fp,h,hc=>by
   have J:=h;unfold Own at h;obtain⟨a,vs,L,rfl,U,rfl,hl⟩:=h;rcases List.mem_cons.mp hc with e|e
   . rw[e];exact⟨_,_,J,Q0 _⟩
   . obtain⟨d',g,h1,h2⟩:=fj.sub xs hl e;exact⟨d',g,h1,by simp only[D.dep];omega⟩
theorem fC.sub {H:Hp}{c:Addr}:∀(xs:Ds) {vs:List V}{fp:List Addr},fC H vs xs fp->c∈fp->∃d' g,Own H (.ref c) d' g/\d'.dep<=xs.dep
 | .nil,_,_,h,hc=>by unfold fC at h;rw[h.2] at hc;cases hc
 | .cons _ d r,_,_,h,hc=>by
   unfold fC at h;obtain⟨v,q,U,Y,rfl,rfl,h1,h2⟩:=h;rcases List.mem_append.mp hc with e|e
   . obtain⟨d',g,J,L⟩:=Own.sub d h1 e;exact⟨d',g,J,by simp only[Ds.dep];omega⟩
   . obtain⟨d',g,J,L⟩:=fC.sub r h2 e;exact⟨d',g,J,by simp only[Ds.dep];omega⟩
theorem fj.sub {H:Hp}{c:Addr}:∀(xs:Ds) {vs:List (Key × V)}{fp:List Addr},fj H vs xs fp->c∈fp->∃d' g,Own H (.ref c) d' g/\d'.dep<=xs.dep
 | .nil,_,_,h,hc=>by unfold fj at h;rw[h.2] at hc;cases hc
 | .cons _ d r,_,_,h,hc=>by
   unfold fj at h;obtain⟨v,q,U,Y,rfl,rfl,h1,h2⟩:=h;rcases List.mem_append.mp hc with e|e
   . obtain⟨d',g,J,L⟩:=Own.sub d h1 e;exact⟨d',g,J,by simp only[Ds.dep];omega⟩
   . obtain⟨d',g,J,L⟩:=fj.sub r h2 e;exact⟨d',g,J,by simp only[Ds.dep];omega⟩
end
theorem fj.ne {H:Hp}{a:Addr}{kvs:List (Key × V)}{m:Ds}{J:List Addr}(L:H a=some (.dK kvs))(h:fj H kvs m J):∀c∈J,c≠a:=λc hc e=>by
 subst e;obtain⟨d',g,h1,h2⟩:=fj.sub m h hc;have U:Own H (.ref c) (.dct m) (c::J):=by unfold Own;exact⟨c,kvs,J,rfl,L,rfl,h⟩
 have:=congrArg D.dep (Own.inj _ (Q0 _) U h1);rw[sU,sU] at this;simp only[D.dep] at this;omega
end Pb
namespace Pb
open L2 PyProof.Rows
noncomputable def iy (key by_:Str):List Str:=if by_="" then [key] else [key,by_]
def vM:Sp:=λvs H Q _=>∃J L key by_,vs=[.ref J]/\H J=some (.tup [.str "rows",.str key,.str by_,.ref L])/\∀p H',Same H H'->H p=none->H' p=some (.lst ((iy key by_).map V.str))->Q (.ref p) H'
theorem L9 (p q:Key):t7 (kV p) (kV q)=true:=by cases p <;> cases q <;> rfl
theorem L_ {p q:Key}(h:kV p=kV q):p=q:=by
 cases p <;> cases q <;> first|(injection h with h;rw[h];done)|(injection h;done)
theorem Ma {key:Str}{l:List Ds}{m:Ds}{p:Key}(e:keyOf m key=p)(h:∀J∈l,keyOf J key≠p):rowOf key (l++[m]) p=some m:=by
 unfold rowOf;rw[Q3g,List.find?_eq_none.mpr λx L=>by simpa using h x L,Q3e (by exact decide_eq_true e)];rfl
theorem Mb {key:Str}{l:List Ds}{m:Ds}{p:Key}(e:keyOf m key≠p):rowOf key (l++[m]) p=rowOf key l p:=by
 unfold rowOf;rw[Q3g,Q3f (by simpa using e)]
 cases l.find? λm=>decide (keyOf m key=p) <;> rfl
noncomputable def lQ (fs:Fs) (key:Str) (J:List Ds) (p:Key):Ds:=(rowOf key J p).getD (iV fs)
noncomputable def oV (fs:Fs) (key:Str) (J:List Ds) (m:Ds):Ds:=nU fs (lQ fs key J (keyOf m key)) m
def E1 (n:Nat):Sp:=λvs H Q _=>∃Y pb key by_ xs fs ss S L J fl Z us ns gl,vs=[.ref Y,.ref S,.ref Z]/\jf H Y pb key by_ xs fs/\H S=some (.lst L)/\fZ H L J fl/\L.length<64/\(∀m∈J,f6 fs m)/\(J.map λm=>keyOf m key).Nodup/\key∈ss/\
 H Z=some (.lst us)/\fZ H us ns gl/\us.length<64/\(∀m∈ns,f6 (fs.gc ss) m)/\fs.dep+1<=n/\
 ∀R rs U H',Same H H'->H' R=some (.lst rs)->fZ H' rs (ns.map (oV fs key J)) U->Q (.ref R) H'
variable {P:Program}{w:World}{K:W.Frag}{mg:Str->Option Value}{base:Heap}
theorem Mc:gi ["_law_kind_here"] ["_law_kind_here"] (fM (top 50)):=gw
theorem Md (T:Tb mg)(J:Dn K mg "_law_kept" je (top 50) L U):fm P w K mg base fw (1) L U je (vM):=by
 refine J.F.ok Mc λvs H Q E h=>?_;obtain⟨pk,pb,key,by_,rfl,Y,q⟩:=h;refine⟨rfl,λaa A outer s nd hr hu=>?_⟩
 refine⟨_,(e_ (f7 (fY gx (fy (pv 0) b_) gj (fV _)) (fx (fE (iw (a_ (fy (pv 0) b_) c_)))) f9)
  (fx (fE (iw (a_ (fy (pv 0) b_) (a_ (fy (pv 0) b_) c_)))))),?_⟩
 ac_rfl
 refine⟨_,rfl,pk,_,_,_,rfl,rfl,d_.of Y,rfl,rfl,_,rfl,gO (λcc=>?_) (λcc=>?_)⟩
 . have e:by_="":=by have:=of_decide_eq_true cc;injection this
   refine⟨_,rfl,pk,_,_,_,rfl,rfl,d_.of Y,rfl,mj,λp hp=>q p _ (Same.new hp) hp ?_⟩;rw[fA];unfold iy;rw[if_pos e];rfl
 . have e:by_≠"":=λz=>cc (decide_eq_true (by rw[z]));refine⟨_,rfl,pk,_,_,_,rfl,rfl,d_.of Y,rfl,_,rfl,pk,_,_,_,rfl,rfl,d_.of Y,rfl,ix,λp hp=>q p _ (Same.new hp) hp ?_⟩;rw[fA];unfold iy;rw[if_neg e];rfl
theorem Me:gi ["_law_kind_here","_law_source","_law_seen","_law_made","_law_one","_law_row","_law_old"] XX (fM (top 54)):=gw
theorem Mf (n j:Nat)(T:Tb mg)(ac:Dn K mg "_law_due" rS (top 54) ae af)(L:Dn K mg "_law_blank" je (top 51) U Y)(aa:fm P w K mg base fw (j) U Y je (nV n)):fm P w K mg base fw (j+1) ae af rS (E1 n):=by
 refine ac.F.ok Me λvs H Q E h=>?_;obtain⟨pk,pb,key,by_,xs,fs,ss,S,ws,ms,fl,Z,us,ns,gl,rfl,B,hS,ai,bj,aw,aV,aO,hZ,aj,bh,av,bm,q⟩:=h;refine⟨rfl,λbn A outer s nd hr hu=>?_⟩
 refine⟨_,(e_ (fN 3 nd (iw c_))
  (e_ (iz PassesOwn.never rfl (kh (pv 2)) (gu (i:=4) nd rfl gQ) (e_ (fN 5 nd (fL aa hr L (a_ (ij (a_ gj (a_ (fy (pv 0) b_) c_))) c_)))
  (e_ (iz PassesOwn.never rfl (kh (pv 1)) (gu (i:=6) nd rfl gQ) (fx (f7 (fY gx (iA hu (pv 6) (fy (pv 0) b_) (λ_ _=>rfl)) (iA hu (pv 4) (fy (pv 0) b_) (λ_ _=>rfl)) (fV _)) (fx (fN 5 nd (kO sJ (by rfl) T.oH boot_dict (a_ (pv 6) c_)))) f9)))
  (e_ (jh (ko PySem.F.plainAttrs_dict PySem.F.slot_dict_update PySem.F.type_dict_update D_ (pv 5) (a_ (pv 4) c_)))
  (fx (jh (ko PySem.F.plainAttrs_list PySem.F.slot_list_append PySem.F.type_list_append lB (pv 3) (a_ (pv 5) c_))))))))
  (fx (fE (pv 3))))),?_⟩
 ac_rfl
 have hW:=B.W;unfold Kd.W at hW;have ax:=hW.2.2.2.1
 have aW:(fs.gc ss).pl key:=by
  obtain⟨k,h1,h2⟩:=ax;exact⟨k,by rw[Fs.lg,if_pos aO];exact h1,h2⟩
 have aP:=(A3.len aj).1;have aQ:=(A3.len ai).1;refine⟨Q0a _,λR hR=>?_⟩;have s1:Same H (upd H R (.lst [])):=Same.new hR;have e1:=fA (H:=H) (a:=R) (o:=.lst []);generalize upd H R (.lst [])=H1 at s1 e1;refine⟨_,rfl,Z,rfl,⟨_,fv.of (s1 _ _ hZ)⟩,n9 (xs:=us) (λi σ H'=>∃x y z rs am,σ=[some (.ref pk),some (.ref S),some (.ref Z),some (.ref R),x,y,z]/\Same H H'/\H' R=some (.lst rs)/\fZ H' rs ((ns.take i).map (oV fs key ms)) am/\∀c∈am.flatten,c≠R) ⟨_,_,_,[],[],rfl,s1,e1,.nil,λc hc=>nomatch hc⟩ ?_ ?_ ?_⟩
 . intro i σ H' _ zq;obtain⟨_,_,_,_,_,rfl,s2,_⟩:=zq;exact fv.of (s2 _ _ hZ)
 . intro i yv σ H' hy zq;obtain⟨x,y,z,rs,am,rfl,s2,az,ap,aH⟩:=zq;have hi:i<us.length:=(List.getElem?_eq_some_iff.mp hy).1;obtain⟨m,f,hm,hf,ho⟩:=A3.row aj hy;have al:=Q0g hm;obtain⟨rr,rfl,gk⟩:=oM ho (av m al).p aW;refine⟨_,rfl,pk,_,_,_,rfl,rfl,d_.of (s2 _ _ B.k),rfl,ix,λt ht=>?_⟩;have s3:Same H' (upd H' t (.tup [.str "record",.ref pb])):=Same.new ht;have e3:=fA (H:=H') (a:=t) (o:=.tup [.str "record",.ref pb]);generalize upd H' t (.tup [.str "record",.ref pb])=H3 at s3 e3;have ag:=s2.trans s3;have B3:=B.mono (Tu.of ag);refine⟨.ref t,.gA fs,rfl,by unfold KA;exact⟨t,pb,xs,rfl,e3,B3.tu,B3.fa⟩,by unfold Kd.W;exact⟨B.nd,B.iq,B.fW⟩,by simp only[Kd.dep];omega,λv4 H4 bo s4 aA aX aY=>?_⟩;unfold blk at aA;unfold Own at aA;obtain⟨a4,k4,aZ,rfl,a1,rfl,a2⟩:=aA;have a3:=ag.trans s4;have aB:=s3 _ _ az;refine⟨_,rfl,S,rfl,⟨_,fv.of (a3 _ _ hS)⟩,n9 (xs:=ws) (λi5 σ H5=>∃z a ks fo,σ=[some (.ref pk),some (.ref S),some (.ref Z),some (.ref R),some (.ref rr),some (.ref a),z]/\Same H3 H5/\H3 a=none/\H5 a=some (.dK ks)/\fj H5 ks (lQ fs key (ms.take i5) (keyOf m key)) fo/\f6 fs (lQ fs key (ms.take i5) (keyOf m key))/\∀c∈fo,c≠R) ?_ ?_ ?_ ?_⟩
   . exact⟨_,a4,k4,aZ,rfl,s4,aY a4 rfl,a1,a2,(qu B.fW).1,λc hc e=>by
      have:=aX c (Q04 _ hc);rw[e,aB] at this;cases this⟩
   . intro i5 σ H5 _ zq;obtain⟨_,_,_,_,rfl,s5,_⟩:=zq;exact fv.of (s5 _ _ (ag _ _ hS))
   . intro i5 y5 σ H5 a5 zq;obtain⟨z5,a,ks,fo,rfl,s5,ah,an,ao,aq,aC⟩:=zq;obtain⟨m5,f5,aD,a6,aI⟩:=A3.row ai a5;have au:=Q0g aD;have J:=ag.trans s5;have ay:=aI;obtain⟨r5,rfl,a7⟩:=oM aI (aw m5 au).p ax;have tk:ms.take (i5+1)=ms.take i5++[m5]:=by rw[Q0l,aD];rfl
     refine⟨_,rfl,_,rfl,pk,_,_,_,rfl,rfl,d_.of (B.mono (Tu.of J)).k,rfl,r5,_,rfl,a7 _ J,?_⟩;refine⟨_,rfl,_,rfl,pk,_,_,_,rfl,rfl,d_.of (B.mono (Tu.of J)).k,rfl,rr,_,rfl,gk _ J,?_⟩;refine⟨L9 _ _,_,rfl,gO (λcc=>?_) (λcc=>?_)⟩
     . have ek:keyOf m5 key=keyOf m key:=L_ (of_decide_eq_true cc);unfold Own at ay;obtain⟨_,aE,a8,e,a9,e',aT⟩:=ay
       cases e;subst e';refine⟨_,rfl,r5,aE,rfl,J _ _ a9,λl hl=>?_⟩;have s6:Same H5 (upd H5 l (.dK aE)):=Same.new hl
       have ed:lQ fs key (ms.take (i5+1)) (keyOf m key)=m5:=by
        unfold lQ;rw[tk,Ma ek λm' ba e=>?_]
        . rfl
        . obtain⟨j5,bb,ej⟩:=Q0v ba;rw[Q0o] at bb;rw[Q1t] at ej;obtain⟨bc,ei⟩:=List.getElem?_eq_some_iff.mp aD;have:=List.pairwise_iff_getElem.mp (List.pairwise_map.mp aV) j5 i5 (by omega) bc (by omega);rw[ej,ei,e,ek] at this;exact this rfl
       refine⟨_,l,aE,a8,rfl,s5.trans s6,s5.free hl,fA,by rw[ed];exact(fj.same J aT).same s6,by rw[ed];exact aw m5 au,λc hc e=>?_⟩;obtain⟨o,eo⟩:=(ai.mu c (List.mem_flatten.mpr ⟨_,Q0g a6,Q04 _ hc⟩)).ex;rw[e,hR] at eo;cases eo
     . have ek:keyOf m5 key≠keyOf m key:=λz=>cc (decide_eq_true (by rw[z]))
       have ed:lQ fs key (ms.take (i5+1)) (keyOf m key)=lQ fs key (ms.take i5) (keyOf m key):=by
        unfold lQ;rw[tk,Mb ek]
       exact⟨_,a,ks,fo,rfl,s5,ah,an,by rw[ed];exact ao,by rw[ed];exact aq,aC⟩
   . intro σ H5 zq;obtain⟨z5,a,ks,fo,rfl,s5,ah,an,ao,aq,aC⟩:=zq;rw[aQ,Q0u] at ao aq;unfold Own at ho;obtain⟨_,kn,fq,e,bd,e',hO⟩:=ho
     cases e;subst e';have J:=ag.trans s5;have aJ:∀c∈rr::fq,∃o,H c=some o:=λc hc=>(aj.mu c (List.mem_flatten.mpr ⟨_,Q0g hf,hc⟩)).ex
     have aK:∀c∈rr::fq,c≠a:=λc hc z=>by
      obtain⟨o,eo⟩:=aJ c hc;have:=ag _ _ eo;rw[z,ah] at this;cases this
     have be:∀c∈rr::fq,c≠R:=λc hc z=>by
      obtain⟨o,eo⟩:=aJ c hc;rw[z,hR] at eo;cases eo
     have aL:=s5 _ _ aB;have aG:a≠R:=λz=>by rw[z,aB] at ah;cases ah
     have bp:ks.length<=12:=by rw[fj.len ao,aq.names];exact B.iq
     have bi:kn.length<=12:=by rw[fj.len hO,(av m al).names,Fs.iQ];exact Q0c (Q19 _ _) B.iq
     have aU:m.names.Nodup:=by rw[(av m al).names,Fs.iQ];exact B.nd.filter _
     obtain⟨fp,bf,bg⟩:=Et B.nd ao aq (hO.same J) aU λx hx=>by
      rw[(av m al).names,Fs.iQ] at hx;exact(List.mem_filter.mp hx).1
     have bq:rs.length=i:=by rw[(A3.len ap).1,Q05,Q0o];omega
     refine⟨_,rfl,.inr (.inr (.inl ⟨rfl,.inl ⟨_,an⟩⟩)),_,rfl,a,rr,ks,kn,rfl,rfl,Ne.symm (aK rr Q01),an,J _ _ bd,Q0s (g_ (by omega)),?_⟩;have ak:∀c,c≠a->upd H5 a (.dK (jS ks kn)) c=H5 c:=λc hc=>fk hc;have e6:=fA (H:=H5) (a:=a) (o:=.dK (jS ks kn));generalize upd H5 a (.dK (jS ks kn))=H6 at ak e6;have aM:H6 R=some (.lst rs):=by rw[ak R (Ne.symm aG)];exact aL
     refine⟨_,rfl,.inl ⟨rfl,_,fv.of aM⟩,_,rfl,R,_,_,rfl,rfl,aM,g_ (by omega),?_⟩;have ab:∀c,c≠a->c≠R->upd H6 R (.lst (rs++[.ref a])) c=H5 c:=λc h1 h2=>by rw[fk h2];exact ak c h1
     have aN:Tu H5 (upd H6 R (.lst (rs++[.ref a]))):=λc xs e=>by
      rw[ab c (ic e an (by intro z;cases z)) (ic e aL (by intro z;cases z))];exact e
     have ar:∀c∈fp,c≠a/\c≠R:=λc hc=>by
      rcases bg c hc with h|h
      . exact⟨fj.ne an ao c h,aC c h⟩
      . exact⟨aK c (Q04 _ h),be c (Q04 _ h)⟩
     refine⟨_,_,_,rs++[.ref a],am++[a::fp],rfl,λc o e=>?_,fA,?_,λc hc=>?_⟩
     . rw[ab c (λz=>by have:=ag _ _ e;rw[z,ah] at this;cases this) (fJ e hR)];exact J _ _ e
     . rw[Q0l,hm];show fZ _ _ ((ns.take i++[m]).map (oV fs key ms)) _;rw[Q0i];refine A3.snoc ?_ (fZ.keep (λc xs e=>aN _ _ (s5 _ _ (s3 _ _ e))) ap λc hc o e=>by rw[ab c (λz=>by have:=s3 _ _ e;rw[z,ah] at this;cases this) (aH c hc)];exact s5 _ _ (s3 _ _ e));unfold Own;exact⟨a,_,fp,rfl,by rw[fk aG];exact e6,rfl,bf.keep aN _ λc hc o e=>by rw[ab c (ar c hc).1 (ar c hc).2];exact e⟩
     . rw[Q1f] at hc;rcases List.mem_append.mp hc with z|z
       . exact aH c z
       . have z:c∈a::fp:=by simpa using z
         rcases List.mem_cons.mp z with e|e
         . rw[e];exact aG
         . exact(ar c e).2
 . intro σ H' zq;obtain⟨_,_,_,rs,am,rfl,s2,az,ap,_⟩:=zq;rw[aP,Q0u] at ap;exact⟨_,rfl,q R rs am H' s2 az ap⟩
end Pb
namespace L2
open Spec PyProof.Rows
section
variable {X:Cx}{N':List Str}{e:Expr}{t:TE}
structure nW (X:Cx) (N':List Str):Prop where
 len:N'.length=X.N.length
 old:∀(i:Nat) y,N'[i]? =some y->X.N[i]? =some y\/¬qF X.env.scope y
theorem Inv.Mg {pins:List (Addr × Obj)}{σ:St}{H:Hp}{s:Shared}(r:nW X N')(I:Inv X pins σ H s):Inv { X with N:=N' } pins σ H s:=by
 refine⟨⟨I.ok.mod,I.ok.kind,I.ok.glob,I.ok.blt,I.ok.above,I.ok.inj,I.ok.has,I.ok.cab,I.ok.hd,I.ok.frames,I.ok.stk,I.ok.o7,I.ok.bs,I.ok.jU,I.ok.lW,I.ok.mN,I.ok.jn,I.ok.kK⟩,I.os,I.bare,I.base,?_,I.cell,I.free,I.ja,I.pin,I.hok,I.len.trans r.len.symm⟩;obtain⟨m,h1,h2⟩:=I.loc;refine⟨m,h1,λi x v hi L J=>?_⟩;rcases r.old i x hi with h|h
 . exact h2 i x v h L J
 . exact absurd J h
theorem Inv.Mh {pins:List (Addr × Obj)}{σ:St}{H:Hp}{s:Shared}(r:nW X N')(L:∀(i:Nat) v,X.N[i]? ≠N'[i]? ->σ[i]? ≠some (some v))(I:Inv { X with N:=N' } pins σ H s):Inv X pins σ H s:=by
 refine⟨⟨I.ok.mod,I.ok.kind,I.ok.glob,I.ok.blt,I.ok.above,I.ok.inj,I.ok.has,I.ok.cab,I.ok.hd,I.ok.frames,I.ok.stk,I.ok.o7,I.ok.bs,I.ok.jU,I.ok.lW,I.ok.mN,I.ok.jn,I.ok.kK⟩,I.os,I.bare,I.base,?_,I.cell,I.free,I.ja,I.pin,I.hok,I.len.trans r.len⟩;obtain⟨m,h1,h2⟩:=I.loc;refine⟨m,h1,λi x v hi U J=>?_⟩;by_cases Y:X.N[i]? =N'[i]?
 . exact h2 i x v (by rw[<-Y];exact hi) U J
 . exact absurd U (L i v Y)
theorem nW.of {N:List Str}{sc:Scope}(U:X.N=N)(Y:X.env.scope=sc)(hl:N'.length=N.length)(hb:(List.zip N' N).all (λp=>p.1 == p.2 || ((sc.names.lookup p.1 != some .local) && (sc.names.lookup p.1 != some .cell) && (sc.names.lookup p.1 != some .free)))=true):nW X N':=by
 subst U;subst Y;refine⟨hl,λi y J=>?_⟩;have hi:=(List.getElem?_eq_some_iff.mp J).1;have L:X.N[i]? =some (X.N[i]'(by omega)):=Q03 _
 have hm:(y,X.N[i]'(by omega))∈List.zip N' X.N:=by
  refine Q0g (i:=i) ?_;rw[Q2o];exact⟨J,L⟩
 have:=List.all_eq_true.mp hb _ hm;simp only[Bool.or_eq_true,Bool.and_eq_true,beq_iff_eq,bne_iff_ne] at this;rcases this with h|⟨⟨h1,h2⟩,h3⟩
 . exact .inl (by rw[L,h])
 . exact .inr λz=>z.elim h1 λz=>z.elim h2 h3
end
def Mi (N N':List Str) (t:TS):TS:=λD σ H=>t { nx:=λJ H'=>(∀(i:Nat) v,N[i]? ≠N'[i]? ->J[i]? ≠some (some v))/\D.nx J H',rt:=λ_ _=>False } σ H
theorem E2 {X:Cx}{N':List Str}{st:Stmt}{t:TS}(r:nW X N')(h:PS { X with N:=N' } st t):PS X st (Mi X.N N' t):=by
 intro pins s σ H D I q;refine fQ (h pins s σ H _ (I.Mg r) q) λf s1 z=>?_
 cases f with
 |next=>
  obtain⟨J,H',L,U,Y⟩:=z;exact⟨J,H',L.Mh r U,Y⟩
 |ret u=>
  obtain⟨_,_,_,_,_,z⟩:=z;exact z.elim
 |brk=>
  obtain⟨_,_,_,z⟩:=z;exact z.elim
 |cont=>
  obtain⟨_,_,_,z⟩:=z;exact z.elim
theorem E3 {N N':List Str}{k:Nat}{z:Str}{σ:St}(e:N'=N.set k z)(hk:σ[k]? =some none):∀(i:Nat) v,N[i]? ≠N'[i]? ->σ[i]? ≠some (some v):=λi v J h=>by
 by_cases c:i=k
 . rw[c,hk] at h
   cases h
 . exact J (by rw[e,Q1v (Ne.symm c)])
end L2
namespace Pb
open L2 PyProof.Rows
theorem Own.Mj {H:Hp}{a:Addr}{f:List Addr}:∀{d:D},Own H (.ref a) d f->∃o,H a=some o
 | .int _,h=>by unfold Own at h;cases h.1
 | .str _,h=>by unfold Own at h;cases h.1
 | .non,h=>by unfold Own at h;cases h.1
 | .boo _,h=>by unfold Own at h;cases h.1
 | .tup _,h=>by unfold Own at h;obtain⟨_,_,e,q,_⟩:=h;cases e;exact⟨_,q⟩
 | .lst _,h=>by unfold Own at h;obtain⟨_,_,_,e,q,_⟩:=h;cases e;exact⟨_,q⟩
 | .dct _,h=>by unfold Own at h;obtain⟨_,_,_,e,q,_⟩:=h;cases e;exact⟨_,q⟩
def sV (fs:Fs) (key:Str) (ss:List Str) (J n2:List Ds) (m:Ds):Prop:=keyOf m key∈n2.map (λr=>keyOf r key)->keyOf m key ∉ J.map (λr=>keyOf r key)->∀(i:Nat) x k d,fs.at i=some (x,k)->x ∉ ss->m.get x=some d->d.nl=(blk k).nl
def E4 (fs:Fs) (key:Str) (ss:List Str) (J n2 L:List Ds):Prop:=∀(i:Nat) m,L[i]? =some m->sV fs key ss J n2 m
def E5 (n:Nat):Sp:=λvs H Q _=>∃pk pb key by_ xs fs ss L S ws Y fl Z1 J n1 aa Z2 U n2 ab,vs=[.ref pk,.ref L,.ref S,.ref Z1,.ref Z2]/\jf H pk pb key by_ xs fs/\H L=some (.lst (ss.map V.str))/\key∈ss/\H S=some (.lst ws)/\fZ H ws Y fl/\ws.length<64/\(∀m∈Y,f6 fs m)/\(∀m∈Y,m.dep<=n)/\
 H Z1=some (.lst J)/\fZ H J n1 aa/\J.length<64/\(∀m∈n1,f6 (fs.gc ss) m)/\H Z2=some (.lst U)/\fZ H U n2 ab/\U.length<64/\(∀m∈n2,f6 (fs.gc ss) m)/\fs.dep<=n/\
 ∀r H',Same H H'->(r=true↔E4 fs key ss n1 n2 Y)->Q (.bl r) H'
variable {P:Program}{w:World}{K:W.Frag}{mg:Str->Option Value}{base:Heap}
theorem Ml:gi XA XI (fM (top 53)):=gw
theorem Mm (N j:Nat)(hN:N+2<=64)(T:Tb mg)(J:Dn K mg "_law_agree" rT (top 53) U Y)(aa:Dn K mg "_law_blank" je (top 51) ab ac)(ae:fm P w K mg base fw (j) ab ac je (nV N)):fm P w K mg base fw (j+1) U Y rT (E5 N):=by
 refine J.F.ok Ml λvs H Q E h=>?_;obtain⟨pk,pb,key,by_,xs,fs,ss,L,S,ws,ms,fl,Z1,an,n1,aZ,Z2,ao,n2,a1,rfl,B,hL,aC,hS,al,a2,aj,aD,ar,au,aW,aI,av,aw,aX,aJ,aK,q⟩:=h;refine⟨rfl,λa3 A outer s nd hr hu=>?_⟩;have aL:=Q1l (Q2f hN _) hr.units
 refine⟨_,(e_ (E2 (N':=["_law_kind_here","_law_names_here","_law_source","_law_first","_law_second","_law_firsts","_law_seconds","~7","_law_name","_law_inner"]) (nW.of (N:=XA) (sc:=fM (top 53)) rfl rfl rfl (by decide +kernel)) (pJ (i:=5) (show(["_law_kind_here","_law_names_here","_law_source","_law_first","_law_second","_law_firsts","_law_seconds","~7","_law_name","_law_inner"]:List Str).Nodup by decide +kernel) rfl (Or.inl rfl) (g:=(iB 0)) (tt:=kY) (te:=(uh (gF 0) (gY (iY K) (gF 1) (tC (.int 1))))) (own:=["_law_row"]) rfl (jY (N:=["_law_kind_here","_law_names_here","_law_source","_law_first","_law_second","_law_firsts","_law_seconds","~7","_law_name","_law_inner"]) (sc:=fM (top 53))) (kh (pv 3)) (λ_ _ _ _ _=>(gu (i:=0) (show(["_law_row","_law_kind_here","_law_names_here","_law_source","_law_first","_law_second","_law_firsts","_law_seconds","~7","_law_name","_law_inner"]:List Str).Nodup by decide +kernel) rfl (Or.inl rfl) (.inr rfl))) (λ_ _ _ _ _=>l_) (λ_ _ _ _ _=>(iA hu (pv 0) (fy (pv 1) b_) (λ_ _=>rfl)))))
  (e_ (E2 (N':=["_law_kind_here","_law_names_here","_law_source","_law_first","_law_second","_law_firsts","_law_seconds","~7","_law_name","_law_inner"]) (nW.of (N:=XA) (sc:=fM (top 53)) rfl rfl rfl (by decide +kernel)) (pJ (i:=6) (show(["_law_kind_here","_law_names_here","_law_source","_law_first","_law_second","_law_firsts","_law_seconds","~7","_law_name","_law_inner"]:List Str).Nodup by decide +kernel) rfl (Or.inl rfl) (g:=(iB 0)) (tt:=kY) (te:=(uh (gF 0) (gY (iY K) (gF 1) (tC (.int 1))))) (own:=["_law_row"]) rfl (jY (N:=["_law_kind_here","_law_names_here","_law_source","_law_first","_law_second","_law_firsts","_law_seconds","~7","_law_name","_law_inner"]) (sc:=fM (top 53))) (kh (pv 4)) (λ_ _ _ _ _=>(gu (i:=0) (show(["_law_row","_law_kind_here","_law_names_here","_law_source","_law_first","_law_second","_law_firsts","_law_seconds","~7","_law_name","_law_inner"]:List Str).Nodup by decide +kernel) rfl (Or.inl rfl) (.inr rfl))) (λ_ _ _ _ _=>l_) (λ_ _ _ _ _=>(iA hu (pv 0) (fy (pv 1) b_) (λ_ _=>rfl)))))
  (e_ (iz PassesOwn.never rfl (kh (pv 2)) (gu (i:=7) nd rfl gQ) (fx (f7 (PW.pt (lX (fY qU (iA hu (pv 7) (fy (pv 0) b_) (λ_ _=>rfl)) (pv 6) (by with_unfolding_all rfl)) (mP (fY pB (iA hu (pv 7) (fy (pv 0) b_) (λ_ _=>rfl)) (pv 5) (by with_unfolding_all rfl))))) (fx (iz PassesOwn.never rfl (jE (fy (pv 0) b_)) (jD rfl (ie (gu (i:=8) nd rfl gQ) (ie (gu (i:=9) nd rfl gQ) jC))) (fx (f7 (PW.pt (lX (fY pB (pv 8) (pv 1) (by with_unfolding_all rfl)) (mP (fY (Kk (n:=N) aL) (iA hu (pv 7) (pv 8) (λ_ _=>rfl)) (fL ae hr aa (a_ (pv 9) c_)) (fV _))))) (fx (fE jb)) f9)))) f9)))
  (fx (fE jb))))),?_⟩
 ac_rfl
 have hW:=B.W;unfold Kd.W at hW;have am:=hW.2.2.2.1
 have ax:(fs.gc ss).pl key:=by
  obtain⟨k,h1,h2⟩:=am;exact⟨k,by rw[Fs.lg,if_pos aC];exact h1,h2⟩
 have aY:=(A3.len al).1;have len1:=(A3.len au).1;have len2:=(A3.len aw).1;refine⟨_,rfl,Z1,rfl,⟨_,fv.of ar⟩,nQ (sE (fv.of ar)) (λi=>((n1.take i).map λr=>keyOf r key).map kV) (by omega) (λp1 aM=>?_) (λi z hv add skip=>?_)⟩
 case refine_2=>
  obtain⟨m,f,hm,_,ho⟩:=A3.row au hv;obtain⟨rr,rfl,gk⟩:=oM ho (aI m (Q0g hm)).p ax;refine⟨rfl,yes (ig ?_)⟩;refine⟨_,rfl,_,rfl,pk,_,_,_,rfl,rfl,d_.of B.k,rfl,rr,_,rfl,gk _ (Same.refl _),add _ ?_⟩;rw[Q0l,hm];simp
 refine⟨E3 (k:=7) (z:="~7") rfl rfl,?_⟩;have e1:=fA (H:=H) (a:=p1) (o:=.lst (((n1.take an.length).map λr=>keyOf r key).map kV));have s1:Same H (upd H p1 (.lst (((n1.take an.length).map λr=>keyOf r key).map kV))):=Same.new aM;generalize upd H p1 (.lst (((n1.take an.length).map λr=>keyOf r key).map kV))=H1 at e1 s1 ⊢;rw[len1,Q0u] at e1;refine⟨_,rfl,Z2,rfl,⟨_,fv.of (s1 _ _ av)⟩,nQ (sE (fv.of (s1 _ _ av))) (λi=>((n2.take i).map λr=>keyOf r key).map kV) (by omega) (λp2 aN=>?_) (λi z hv add skip=>?_)⟩
 case refine_2=>
  obtain⟨m,f,hm,_,ho⟩:=A3.row aw hv;obtain⟨rr,rfl,gk⟩:=oM ho (aJ m (Q0g hm)).p ax;refine⟨rfl,yes (ig ?_)⟩;refine⟨_,rfl,_,rfl,pk,_,_,_,rfl,rfl,d_.of (s1 _ _ B.k),rfl,rr,_,rfl,gk _ s1,add _ ?_⟩;rw[Q0l,hm];simp
 refine⟨E3 (k:=7) (z:="~7") rfl rfl,?_⟩;have e2:=fA (H:=H1) (a:=p2) (o:=.lst (((n2.take ao.length).map λr=>keyOf r key).map kV));have s2:Same H1 (upd H1 p2 (.lst (((n2.take ao.length).map λr=>keyOf r key).map kV))):=Same.new aN;generalize upd H1 p2 (.lst (((n2.take ao.length).map λr=>keyOf r key).map kV))=H2 at e2 s2 ⊢;rw[len2,Q0u] at e2;have ag:=s1.trans s2;have e1:=s2 _ _ e1;refine⟨_,rfl,S,rfl,⟨_,fv.of (ag _ _ hS)⟩,n9 (xs:=ws) (λi σ H'=>∃x y z,σ=[some (.ref pk),some (.ref L),some (.ref S),some (.ref Z1),some (.ref Z2),some (.ref p1),some (.ref p2),x,y,z]/\Same H2 H'/\∀i' m,i'<i->ms[i']? =some m->sV fs key ss n1 n2 m) ⟨_,_,_,rfl,Same.refl _,λi' m h=>absurd h (Q16 _)⟩ ?_ ?_ ?_⟩
 . intro i σ H' _ zq;obtain⟨_,_,_,rfl,s3,_⟩:=zq;exact fv.of (s3 _ _ (ag _ _ hS))
 . intro i yv σ H' hy zq;obtain⟨x,y,z,rfl,s3,ap⟩:=zq;have hi:i<ws.length:=(List.getElem?_eq_some_iff.mp hy).1;obtain⟨m,f,hm,hf,ho⟩:=A3.row al hy;have af:=Q0g hm;have ay:=ho;obtain⟨rr,rfl,gk⟩:=oM ho (aj m af).p am;have aq:=ag.trans s3;have B3:=B.mono (Tu.of aq)
   have next:sV fs key ss n1 n2 m->∀i' m',i'<i+1->ms[i']? =some m'->sV fs key ss n1 n2 m':=λh i' m' h1 h2=>by
    rcases Nat.lt_succ_iff_lt_or_eq.mp h1 with z|z
    . exact ap i' m' z h2
    . rw[z,hm] at h2;cases h2;exact h
   refine⟨_,rfl,_,rfl,pk,_,_,_,rfl,rfl,d_.of B3.k,rfl,rr,_,rfl,gk _ aq,?_⟩;refine⟨_,rfl,p2,_,rfl,.inl (fv.of (s3 _ _ e2)),sH _,flat_keys,_,rfl,gO (λc1=>?_) (λc1=>?_)⟩
   case refine_2=>exact⟨_,_,_,rfl,s3,next λh=>absurd (qi.mpr h) c1⟩
   refine⟨_,rfl,_,rfl,pk,_,_,_,rfl,rfl,d_.of B3.k,rfl,rr,_,rfl,gk _ aq,?_⟩;refine⟨_,rfl,p1,_,rfl,.inl (fv.of (s3 _ _ e1)),sH _,flat_keys,_,rfl,gO (λc2=>?_) (λc2=>?_)⟩
   case refine_2=>
    have c3:inV (kV (keyOf m key)) ((n1.map λr=>keyOf r key).map kV)=true:=by
     cases e:inV (kV (keyOf m key)) ((n1.map λr=>keyOf r key).map kV) with
     |true=>rfl
     |false=>
      refine absurd ?_ c2;show(!inV (kV (keyOf m key)) ((n1.map λr=>keyOf r key).map kV))=true;rw[e];rfl
    exact⟨_,_,_,rfl,s3,next λ_ h=>absurd (qi.mp c3) h⟩
   have aE:keyOf m key∈n2.map (λr=>keyOf r key):=qi.mp c1
   have aG:keyOf m key ∉ n1.map (λr=>keyOf r key):=λh=>by
    have c2:(!inV (kV (keyOf m key)) ((n1.map λr=>keyOf r key).map kV))=true:=c2;rw[qi.mpr h] at c2;cases c2
   unfold Own at ay;obtain⟨_,kv,fq,e,aO,_,hO⟩:=ay
   cases e;have el:=FA.len fs B.fa;refine⟨_,rfl,pk,_,_,_,rfl,rfl,d_.of B3.k,rfl,pb,rfl,⟨_,d_.of B3.tu⟩,l4 (xs:=xs) (λi σ H'=>∃y z,σ=[some (.ref pk),some (.ref L),some (.ref S),some (.ref Z1),some (.ref Z2),some (.ref p1),some (.ref p2),some (.ref rr),y,z]/\Same H2 H'/\∀(i':Nat) x k d,i'<i->fs.at i'=some (x,k)->x ∉ ss->m.get x=some d->d.nl=(blk k).nl) ⟨_,_,rfl,s3,λi' x k d h=>absurd h (Q16 _)⟩ ?_ ?_ ?_⟩
   . rintro i5 σ H5 _ ⟨_,_,rfl,s5,_⟩;exact d_.of (B.mono (Tu.of (ag.trans s5))).tu
   . rintro i5 v5 σ H5 aP ⟨y5,z5,rfl,s5,ak⟩;have ah:=ag.trans s5;obtain⟨c,u,nm,k,rfl,ai,hc,hk⟩:=FA.get fs B.fa aP;obtain⟨d,ht,aH⟩:=(aj m af).at2 ai;have hd:=Ds.sr ((aj m af).nodup B.nd) ht;obtain⟨e5,f5,hv,az,_⟩:=fj.val _ hO hd;have g5:gI H5 rr (.str nm) (some e5):=by have:=gI.k (k:=Sum.inr nm) (ah _ _ aO);rw[hv] at this;exact this
     have step:(nm ∉ ss->d.nl=(blk k).nl)->∀(i':Nat) x k d,i'<i5+1->fs.at i'=some (x,k)->x ∉ ss->m.get x=some d->d.nl=(blk k).nl:=λh i' x k' d' h1 h2 h3 h4=>by
      rcases Nat.lt_succ_iff_lt_or_eq.mp h1 with z|z
      . exact ak i' x k' d' z h2 h3 h4
      . rw[z,ai] at h2;cases h2;rw[hd] at h4;cases h4;exact h h3
     refine⟨c,_,rfl,d_.of (ah _ _ hc),rfl,_,_,rfl,_,_,rfl,rfl,?_⟩;refine⟨_,rfl,_,rfl,L,_,rfl,.inl (fv.of (ah _ _ hL)),rfl,nS,_,rfl,gO (λc3=>?_) (λc3=>?_)⟩
     case refine_2=>
      refine⟨_,_,rfl,s5,step λh=>absurd ?_ c3⟩;show(!inV (V.str nm) (ss.map V.str))=true;rw[mB,decide_eq_false h];rfl
     have aQ:nm ∉ ss:=λh=>by
      have c3:(!inV (V.str nm) (ss.map V.str))=true:=c3;rw[mB,decide_eq_true h] at c3;cases c3
     refine⟨_,rfl,_,rfl,rr,_,rfl,g5,_,rfl,u,k,rfl,KA.mono (Tu.of ah) k hk,Fs.kr B.fW ai,Q0c (Fs.qx ai) aK,λv6 H6 a4 s6 aT a5 aU=>?_⟩;have aA:=ah.trans s6;obtain⟨r,aV,aB⟩:=Ko (K:=K) N (Q0c (Q0c (Ds.oF hd) (aD m af)) (Q0 _)) (az.same aA) aT aH (qt (Fs.kr B.fW ai)).1;refine⟨r,aV,λa ea eb=>?_,_,rfl,?_⟩
     . have h1:=aU a eb;subst ea;obtain⟨o,eo⟩:=Own.Mj (az.same ah);rw[h1] at eo;cases eo
     . cases r with
       |true=>exact gR ⟨_,_,rfl,s5.trans s6,step λ_=>aB.mp rfl⟩
       |false=>
        refine ig (q _ _ aA ⟨λz=>(by cases z),λz=>?_⟩);exact aB.mpr (z i m hm aE aG i5 nm k d ai aQ hd)
   . rintro σ H5 ⟨_,_,rfl,s5,ak⟩;refine⟨_,_,_,rfl,s5,next λ_ _ i' x k d h1 h2 h3=>ak i' x k d ?_ h1 h2 h3⟩;have:fs.names[i']? =some x:=by rw[Fs.jJ,h1];rfl
     have:=(List.getElem?_eq_some_iff.mp this).1;omega
 . intro σ H' zq;obtain⟨_,_,_,rfl,s3,ap⟩:=zq;exact q true H' (ag.trans s3) ⟨λ_ i m hm=>ap i m (by have:=(List.getElem?_eq_some_iff.mp hm).1;omega) hm,λ_=>rfl⟩
theorem fj.E6 {H:Hp}{x:Str}{v:V}{e:D}{g:List Addr}(U:Own H v e g):∀{m:Ds}{kvs:List (Key × V)}{fp:List Addr},fj H kvs m fp->∃J,fj H (kvs.map λkv=>if kv.1=Sum.inr x then(kv.1,v) else kv) (m.upd x e) J/\∀c∈J,c∈fp\/c∈g
 | .nil,kvs,fp,h=>by
   unfold fj at h;obtain⟨rfl,rfl⟩:=h;exact⟨[],by unfold Ds.upd fj;exact⟨rfl,rfl⟩,λc hc=>nomatch hc⟩
 | .cons y d r,kvs,fp,h=>by
   unfold fj at h;obtain⟨u,q,Y,f2,rfl,rfl,ho,hr⟩:=h;obtain⟨L,h3,s3⟩:=fj.E6 U hr;show ∃J,fj H ((if(Sum.inr y:Key)=Sum.inr x then(Sum.inr y,v) else(Sum.inr y,u))::q.map _) (.cons y (if y=x then e else d) (r.upd x e)) J/\_;by_cases ex:y=x
   . refine⟨g++L,?_,λc hc=>?_⟩
     . rw[if_pos ex,if_pos (by rw[ex])];unfold fj;exact⟨_,_,g,L,rfl,rfl,U,h3⟩
     . rcases List.mem_append.mp hc with z|z
       . exact .inr z
       . exact(s3 c z).imp (Q07 _) id
   . refine⟨Y++L,?_,λc hc=>?_⟩
     . rw[if_neg ex,if_neg (λz=>ex (Sum.inr.inj z))];unfold fj;exact⟨_,_,Y,L,rfl,rfl,ho,h3⟩
     . rcases List.mem_append.mp hc with z|z
       . exact .inl (Q0m _ z)
       . exact(s3 c z).imp (Q07 _) id
theorem fj.Mn {H:Hp}{x:Str}{v:V}{e:D}{g:List Addr}{m:Ds}{kvs:List (Key × V)}{fp:List Addr}(h:fj H kvs m fp)(L:Own H v e g)(U:x∈m.names):∃J,fj H (putK kvs (Sum.inr x) v) (m.upd x e) J/\∀c∈J,c∈fp\/c∈g:=by
 unfold putK;rw[if_pos]
 . exact h.E6 L
 . rw[Q1u];have:(Sum.inr x:Key)∈kvs.map (·.1):=by rw[fj.keys m h];exact Q17 U
   obtain⟨kv,h1,h2⟩:=List.mem_map.mp this;exact⟨kv,h1,decide_eq_true h2⟩
theorem Fs.E7:∀{fs:Fs}{i:Nat}{x:Str}{k:Kd},fs.at i=some (x,k)->k.dB<=fs.dB
 | .nil,_,_,_,h=>by cases h
 | .cons y q r,0,_,_,h=>by cases h;simp only[Fs.dB];omega
 | .cons y q r,i+1,x,k,h=>by
   have:=Fs.E7 (fs:=r) (i:=i) h;simp only[Fs.dB];omega
theorem iD.Mo {fs:Fs}{m:Ds}{x:Str}{k:Kd}(nd:fs.names.Nodup)(J:fs.W)(h:iD fs m)(hk:fs.get x=some k):iD fs (m.upd x (blk k)):=by
 obtain⟨L,U,f3⟩:=qt (Fs.si J hk);obtain⟨j,Y⟩:=Fs.qh hk;refine⟨h.1.upd L nd hk,?_,?_⟩
 . have:=Ds.vk x (blk k) m;have a:=h.2.1;have b:=Fs.E7 Y;omega
 . have s:=h.2.2;unfold D.Sm at s ⊢;exact⟨by rw[Ds.DE];exact s.1,Ds.vn U s.2⟩
theorem E8 (key by_:Str):key∈iy key by_:=by
 unfold iy;split <;> exact Q01
def E9 (K:W.Frag) (N:Nat):Sp:=λvs H Q _=>∃a b ns n pk pb key by_ xs fs D U Y fl,vs=[.ref a,.ref b,.ref pk,.ref D]/\G0 K H a b ns n/\jf H pk pb key by_ xs fs/\H D=some (.lst U)/\D≠b/\fZ H U Y fl/\(∀c∈fl.flatten,c≠b)/\U.length<=30/\(∀m∈Y,iD fs m)/\n+400<=1000000000000/\fs.dep<=N/\
 ∀R rs J L n1 H',SB b H H'->H' b=some (.lst [.int n1])->n<=n1->n1<=n+400->H R=none->H' R=some (.lst rs)->fZ H' rs J L->(∀c∈L.flatten,c≠b)->(∀m∈J,iD fs m)->(J.map λm=>keyOf m key)=(Y.map λm=>keyOf m key)->rs.length=U.length->Q (.ref R) H'
theorem Mp:gi ["_law_script","_law_at","_law_kind_here","_law_rows_here","_law_made","_law_row","_law_new","_law_name","_law_inner"] XQ (fM (top 52)):=gw
theorem Mq (N j:Nat)(T:Tb mg)(J:Dn K mg "_law_emptied" rV (top 52) L U)(ai:Dn K mg "_law_kept" je (top 50) aj ak)(al:fm P w K mg base fw (1) aj ak je (vM))(am:Dn K mg "_law_next" gn (top 36) an ao)(ap:fm P w K mg base fw (1) an ao gn (mq K))(ac:Dn K mg "_law_blank" je (top 51) ae af)(ag:fm P w K mg base fw (j) ae af je (nV N))(hj:1<=j):fm P w K mg base fw (j+1) L U rV (E9 K N):=by
 refine J.F.ok Mp λvs H Q E h=>?_;obtain⟨a,b,ns,n,pk,pb,key,by_,xs,fs,D,ws,ms,fl,rfl,g,B,hD,bi,av,ba,bE,bj,hn,bm,q⟩:=h;refine⟨rfl,λbF A outer s nd hr hu=>?_⟩
 refine⟨_,(e_ (fN 4 nd (iw c_))
  (e_ (iz PassesOwn.never rfl (kh (pv 3)) (gu (i:=5) nd rfl gQ) (e_ (fN 6 nd (kO sJ (by rfl) T.oH boot_dict (a_ (pv 5) c_)))
  (e_ (iz PassesOwn.never rfl (jE (fy (pv 2) b_)) (jD rfl (ie (gu (i:=7) nd rfl gQ) (ie (gu (i:=8) nd rfl gQ) jC))) (fx (f7 (PW.pt (lX (fY pB (pv 7) (fL al hr ai (a_ (pv 2) c_)) (by with_unfolding_all rfl)) (mP (fY n_ (fH gN (fL ap hr am (a_ (pv 0) (a_ (pv 1) c_))) b_) b_ (fV _))))) (fx (kU hu (pv 6) (pv 7) (fL ag hr ac (a_ (pv 8) c_)) rfl)) f9)))
  (fx (jh (ko PySem.F.plainAttrs_list PySem.F.slot_list_append PySem.F.type_list_append lB (pv 4) (a_ (pv 6) c_)))))))
  (fx (fE (pv 4))))),?_⟩
 ac_rfl
 have hb:=g.at_;have bb:=(A3.len av).1;refine⟨Q0a _,λR hR=>?_⟩;have aN:R≠b:=λz=>by rw[z,hb] at hR;cases hR
 have s1:Same H (upd H R (.lst [])):=Same.new hR;have e1:=fA (H:=H) (a:=R) (o:=.lst []);generalize upd H R (.lst [])=H1 at s1 e1 ⊢;refine⟨_,rfl,D,rfl,⟨_,fv.of (s1 _ _ hD)⟩,n9 (xs:=ws) (λi σ H'=>∃x y z u n1 rs aq au,σ=[some (.ref a),some (.ref b),some (.ref pk),some (.ref D),some (.ref R),x,y,z,u]/\SB b H H'/\H' b=some (.lst [.int n1])/\n<=n1/\n1<=n+i * 12/\H' R=some (.lst rs)/\fZ H' rs aq au/\(∀c∈au.flatten,c≠b/\c≠R)/\(∀m∈aq,iD fs m)/\(aq.map λm=>keyOf m key)=((ms.take i).map λm=>keyOf m key)/\rs.length=i) ⟨_,_,_,_,n,[],[],[],rfl,λc o _ e=>s1 _ _ e,s1 _ _ hb,Q1g _,by simp,e1,.nil,(λc hc=>nomatch hc),(λm hm=>nomatch hm),rfl,rfl⟩ ?_ ?_ ?_⟩
 . intro i σ H' _ zq;obtain⟨_,_,_,_,_,_,_,_,rfl,sb,_⟩:=zq;exact fv.of (sb _ _ bi hD)
 . intro i yv σ H' hy zq;obtain⟨x,y,z,u,n1,rs,aq,au,rfl,sb,aC,aY,bn,ax,aO,ay,aB,ah,aP⟩:=zq;have hi:i<ws.length:=(List.getElem?_eq_some_iff.mp hy).1;obtain⟨m,f,hm,hf,ho⟩:=A3.row av hy;have bc:=Q0g hm;have aZ:∀c∈f,c≠b:=λc hc=>ba c (List.mem_flatten.mpr ⟨_,Q0g hf,hc⟩)
   have bo:∀c∈f,c≠R:=λc hc z=>by
    obtain⟨o,e⟩:=(av.mu c (List.mem_flatten.mpr ⟨_,Q0g hf,hc⟩)).ex;rw[z,hR] at e;cases e
   have a1:=ho.keep (sb.tu hb) _ λc hc o e=>sb _ _ (aZ c hc) e;unfold Own at a1;obtain⟨rr,kv,fq,rfl,bp,rfl,hO⟩:=a1;refine⟨_,rfl,rr,kv,rfl,bp,λp hp=>?_⟩;have aQ:p≠b:=λz=>by rw[z,aC] at hp;cases hp
   have aD:p≠R:=λz=>by rw[z,ax] at hp;cases hp
   have s5:Same H' (upd H' p (.dK kv)):=Same.new hp;have e5:=fA (H:=H') (a:=p) (o:=.dK kv);generalize upd H' p (.dK kv)=H5 at s5 e5 ⊢;have B5:=B.mono ((sb.tu hb).trans (Tu.of s5));have el:=FA.len fs B.fa;have aE:=s5 _ _ aC
   have bd:∀c∈fq,c≠p:=λc hc z=>by
    obtain⟨o,e⟩:=(fj.alive _ hO c hc).ex;rw[z,hp] at e;cases e
   refine⟨_,rfl,pk,_,_,_,rfl,rfl,d_.of B5.k,rfl,pb,rfl,⟨_,d_.of B5.tu⟩,l4 (xs:=xs) (λi5 σ H6=>∃z u n5 aa m5 ab,σ=[some (.ref a),some (.ref b),some (.ref pk),some (.ref D),some (.ref R),some (.ref rr),some (.ref p),z,u]/\gp b p H5 H6/\H6 b=some (.lst [.int n5])/\n1<=n5/\n5<=n1+i5/\H6 p=some (.dK aa)/\fj H6 aa m5 ab/\(∀c∈ab,c≠b/\c≠R/\c≠p)/\iD fs m5/\keyOf m5 key=keyOf m key) ⟨_,_,n1,kv,m,fq,rfl,Kp.refl _ _,aE,Q1g _,by simp,e5,hO.same s5,λc hc=>⟨aZ c (Q04 _ hc),bo c (Q04 _ hc),bd c hc⟩,bj m bc,rfl⟩ ?_ ?_ ?_⟩
   . intro i5 σ H6 _ zq;obtain⟨_,_,_,_,_,_,rfl,kp,_⟩:=zq;exact d_.of (kp _ _ (λz=>z.elim (ic B5.tu aE (by intro z;cases z)) (ic B5.tu e5 (by intro z;cases z))) B5.tu)
   . intro i5 v5 σ H6 a2 zq;obtain⟨z5,u5,n5,aa,m5,ab,rfl,kp,aG,a3,bq,aH,az,ar,Y,aA⟩:=zq;have bG:i5<xs.length:=(List.getElem?_eq_some_iff.mp a2).1
     have aw:Tu H5 H6:=Kp.tu kp λc xs h e=>by
      rcases h with h|h
      . rw[h,aE] at e;cases e
      . rw[h,e5] at e;cases e
     have B6:=B5.mono aw;obtain⟨c,uu,nm,k,rfl,aT,hc,hk⟩:=FA.get fs B.fa a2;have aJ:=Fs.md B.nd aT;have aK:=((sb.tu hb).trans (Tu.of s5)).trans aw;refine⟨c,_,rfl,d_.of (aK _ _ hc),rfl,_,_,rfl,_,_,rfl,rfl,?_⟩;refine⟨_,rfl,_,rfl,pk,pb,key,by_,rfl,B6.k,λl H7 s7 hl br=>?_⟩;refine⟨l,_,rfl,.inl (fv.of br),rfl,nS,_,rfl,gO (λc1=>?_) (λc1=>?_)⟩
     case refine_2=>exact⟨_,_,n5,aa,m5,ab,rfl,kp.trans (Kp.of s7),s7 _ _ aG,a3,by omega,s7 _ _ aH,az.same s7,ar,Y,aA⟩
     have bt:nm ∉ iy key by_:=λh=>by
      have c1:(!inV (V.str nm) ((iy key by_).map V.str))=true:=c1;rw[mB,decide_eq_true h] at c1;cases c1
     have bu:key≠nm:=λz=>bt (by rw[<-z];exact E8 _ _);have a4:=kp.trans (Kp.of s7);have bv:SB b H H7:=λc o h1 e=>a4 c o (λz=>z.elim h1 λz2=>by have:=sb _ _ h1 e;rw[z2,hp] at this;cases this) (s5 _ _ (sb _ _ h1 e));have a5:=s7 _ _ aG;have bw:xs.length<=12:=by rw[el];exact B.iq
     have g7:G0 K H7 a b ns n5:=g.go bv a5 (by omega);refine⟨_,rfl,_,rfl,a,b,ns,n5,rfl,g7,by omega,λH8 aI aU=>?_⟩;have aV:gp b p H5 H8:=a4.trans (SB.gD aI);have aW:=aI _ _ aQ (s7 _ _ aH);have aL:=aI.tu a5;have a6:fj H8 aa m5 ab:=(az.same s7).keep aL _ λc hc o e=>aI _ _ (ar c hc).1 e;refine⟨_,_,rfl,rfl,(by show(0:Int)<_;decide),_,_,rfl,rfl,_,rfl,gO (λc2=>?_) (λc2=>?_)⟩
     case refine_2=>exact⟨_,_,n5+1,aa,m5,ab,rfl,aV,aU,by omega,by omega,aW,a6,ar,Y,aA⟩
     have be:=(aK.trans (Tu.of s7)).trans aL;refine⟨_,rfl,uu,k,rfl,KA.mono be k hk,Fs.kr B.fW aT,Q0c (Fs.qx aT) bm,λv9 H9 bH s9 bx bz bI=>?_⟩;have a7:=s9 _ _ aW;have bD:aa.length<=12:=by rw[fj.len az,Y.1.names];exact B.iq
     refine⟨_,rfl,_,rfl,p,_,rfl,ju.k (k:=Sum.inr nm) a7 (g_ (by omega)),?_⟩;obtain⟨a8,bA,bf⟩:=(a6.same s9).Mn (x:=nm) bx (by rw[Y.1.names];exact Fs.get_mem aJ);have bB:∃o,H8 R=some o:=⟨_,aV _ _ (λz=>z.elim aN (Ne.symm aD)) (s5 _ _ ax)⟩
     have aM:∀c∈a8,c≠b/\c≠R/\c≠p:=λc hc=>by
      rcases bf c hc with h|h
      . exact ar c h
      . have h0:=bz c h;refine⟨λz=>?_,λz=>?_,λz=>?_⟩
        . rw[z,aU] at h0;cases h0
        . obtain⟨o,e⟩:=bB;rw[z,e] at h0;cases h0
        . rw[z,aW] at h0;cases h0
     have bg:Tu H9 (upd H9 p (.dK (putK aa (Sum.inr nm) v9))):=Tu.wr λys e=>by rw[a7] at e;cases e
     refine⟨_,_,n5+1,_,m5.upd nm (blk k),a8,rfl,(aV.trans (Kp.of s9)).trans (Kp.wr (.inr rfl)),?_,by omega,by omega,fA,bA.keep bg _ λc hc o e=>by rw[fk (aM c hc).2.2];exact e,aM,Y.Mo B.nd B.fW aJ,?_⟩
     . rw[fk (Ne.symm aQ)];exact s9 _ _ aU
     . rw[Ku bu];exact aA
   . intro σ H6 zq;obtain⟨_,_,n5,aa,m5,ab,rfl,kp,aG,a3,bq,aH,az,ar,Y,aA⟩:=zq;have bw:xs.length<=12:=by rw[el];exact B.iq
     have aX:H6 R=some (.lst rs):=kp _ _ (λz=>z.elim aN (Ne.symm aD)) (s5 _ _ ax)
     have aw:Tu H5 H6:=Kp.tu kp λc xs h e=>by
      rcases h with h|h
      . rw[h,aE] at e;cases e
      . rw[h,e5] at e;cases e
     have bh:fZ H6 rs aq au:=fZ.keep ((Tu.of s5).trans aw) aO λc hc o e=>kp _ _ (λz=>z.elim (ay c hc).1 λz2=>by rw[z2,hp] at e;cases e) (s5 _ _ e);refine⟨_,rfl,.inl ⟨rfl,_,fv.of aX⟩,_,rfl,R,_,_,rfl,rfl,aX,g_ (by omega),?_⟩;have a9:Tu H6 (upd H6 R (.lst (rs++[.ref p]))):=Tu.wr λys e=>by rw[aX] at e;cases e
     have cast:((i+1:Nat):Int)=(i:Int)+1:=by omega
     refine⟨_,_,_,_,n5,rs++[.ref p],aq++[m5],au++[p::ab],rfl,λc o h1 e=>?_,by rw[fk (Ne.symm aN)];exact aG,by omega,by omega,fA,?_,λc hc=>?_,λm' bC=>?_,?_,by rw[Q0e,aP];rfl⟩
     . rw[fk (fJ e hR)];exact kp c o (λz=>z.elim h1 λz2=>by have:=sb _ _ h1 e;rw[z2,hp] at this;cases this) (s5 _ _ (sb _ _ h1 e))
     . refine A3.snoc ?_ (fZ.keep a9 bh λc hc o e=>by rw[fk (ay c hc).2];exact e);unfold Own;exact⟨p,aa,ab,rfl,by rw[fk aD];exact aH,rfl,az.keep a9 _ λc hc o e=>by rw[fk (ar c hc).2.1];exact e⟩
     . rw[Q1f] at hc;rcases List.mem_append.mp hc with z|z
       . exact ay c z
       . have z:c∈p::ab:=by simpa using z
         rcases List.mem_cons.mp z with e|e
         . rw[e];exact⟨aQ,aD⟩
         . exact⟨(ar c e).1,(ar c e).2.1⟩
     . rcases List.mem_append.mp bC with z|z
       . exact aB m' z
       . rw[List.mem_singleton.mp z];exact Y
     . rw[Q0l,hm,Q0i,ah];show _++[keyOf m5 key]=List.map _ (ms.take i++[m]);rw[aA,Q0i];rfl
 . intro σ H' zq;obtain⟨_,_,_,_,n1,rs,aq,au,rfl,sb,aC,aY,bn,ax,aO,ay,aB,ah,aP⟩:=zq;rw[bb,Q0u] at ah;exact⟨_,rfl,q R rs aq au n1 H' sb aC aY (by omega) hR ax aO (λc hc=>(ay c hc).1) aB ah aP⟩
theorem Mr (xs:List V)(i:Nat):kP xs none (some (i:Int))=xs.take i:=by
 unfold kP;rw[HT.A8,HT.A9,List.drop_zero,Nat.sub_zero];rcases Nat.le_total i xs.length with h|h
 . rw[Q3h h]
 . rw[Q3i h,Q0z h,Q0z (Q0 _)]
theorem Ms (xs:List V)(i:Nat):kP xs (some (i:Int)) none=xs.drop i:=by
 unfold kP;rw[HT.A8,HT.A9];rcases Nat.le_total i xs.length with h|h
 . rw[Q3h h];exact Q0z (by rw[Q2t];exact Q0 _)
 . rw[Q3i h,Q3j (Q0 _),Q3j h,List.take_nil]
noncomputable def jl (key by_:Str) (l:List Str):List Str:=l.filter λx=>decide (x ∉ iy key by_)
def E_:Sp:=λvs H Q _=>∃m:Int,∃J L key by_ xs fs,vs=[.int m,.ref J]/\0<=m/\jf H J L key by_ xs fs/\by_≠key/\∀(p:Addr) (ss:List Str) (H':Hp),Same H H'->H p=none->H' p=some (.lst (ss.map V.str))->ss.Nodup->(∀x∈ss,x∈fs.names)->key∈ss->(by_=""\/by_∈ss)->ss.length<=12->Q (.ref p) H'
theorem Mt:gi ["_law_m","_law_kind_here","_law_free"] Xi (fM (top 55)):=gw
theorem Mv (T:Tb mg)(L:Dn K mg "_law_names_taken" rW (top 55) U Y)(aa:Dn K mg "_law_kept" je (top 50) ac ae)(ab:fm P w K mg base fw (1) ac ae je (vM)):fm P w K mg base fw (2) U Y rW (E_):=by
 refine L.F.ok Mt λvs H Q E h=>?_;obtain⟨m,pk,pb,key,by_,xs,fs,rfl,aG,B,ao,q⟩:=h;refine⟨rfl,λaH A outer s nd hr hu=>?_⟩
 refine⟨_,(e_ (pJ (i:=2) nd rfl gQ (g:=(iB 0)) (tt:=(kM (gY (pA K true) (gY (iY K) (gF 0) (tC (.int 0))) (lA _ _ _ (iu (gF 2) jW))))) (te:=(gY (iY K) (gF 0) (tC (.int 0)))) (own:=["_law_pair"]) rfl (jY (N:=["_law_m","_law_kind_here","_law_free"]) (sc:=fM (top 55))) (jE (fy (pv 1) b_)) (λ_ _ _ _ _=>(gu (i:=0) (show(["_law_pair","_law_m","_law_kind_here","_law_free"]:List Str).Nodup by decide +kernel) rfl (Or.inl rfl) (.inr rfl))) (λ_ _ _ _ _=>(pI (fY pB (fy (pv 0) b_) (fL ab hr aa (a_ (pv 2) c_)) (by with_unfolding_all rfl)))) (λ_ _ _ _ _=>(fy (pv 0) b_)))
  (e_ (fN 2 nd (pj ue (pv 2) (ph (fH gN (pv 0) b_)) pf))
  (fx (fE (fH Hs (fL ab hr aa (a_ (pv 1) c_)) (pj ue (pv 2) pf (ph (fH gN (fH iF (pv 0) b_) b_)))))))),?_⟩
 ac_rfl
 have el:=FA.len fs B.fa;have aC:=B.iq;refine⟨_,rfl,pk,_,_,_,rfl,rfl,d_.of B.k,rfl,pb,rfl,⟨_,d_.of B.tu⟩,λi m zs H'=>m=xs.length - i/\i<=xs.length/\zs=(jl key by_ (fs.names.take i)).map V.str/\Same H H',⟨xs.length,by simp,Q0a _,by simp[jl],Same.refl _⟩,?_⟩;rintro i mm zs H' ⟨rfl,aD,rfl,s2⟩;have J:=qg (K:=K) (d_.of (s2 _ _ B.tu));by_cases hi:i<xs.length
 . have ap:(jl key by_ (fs.names.take i)).length<=12:=Q0c (Q19 _ _) (by rw[Q0o];omega);refine .inr ⟨J.1 i _ (Q03 hi),by rw[Q05];exact g_ (by omega),λx aI y=>?_⟩;obtain⟨rfl,hx⟩:=J.2.1 _ _ _ y;obtain⟨c,uu,nm,k,rfl,aq,hc,hk⟩:=FA.get fs B.fa hx;have B2:=B.mono (Tu.of s2)
   have ai:fs.names.take (i+1)=fs.names.take i++[nm]:=by
    rw[Q0l,Fs.jJ,aq];rfl
   refine⟨rfl,_,rfl,c,_,_,_,rfl,rfl,d_.of (s2 _ _ hc),rfl,_,rfl,pk,pb,key,by_,rfl,B2.k,λl H7 s7 hl ar=>⟨l,_,rfl,.inl (fv.of ar),rfl,nS,_,rfl,gO (λc1=>?_) (λc1=>?_)⟩⟩
   . have ah:nm ∉ iy key by_:=λh=>by
      have c1:(!inV (V.str nm) ((iy key by_).map V.str))=true:=c1;rw[mB,decide_eq_true h] at c1;cases c1
     refine⟨_,rfl,c,_,_,_,rfl,rfl,d_.of ((s2.trans s7) _ _ hc),rfl,xs.length - (i+1),by omega,rfl,hi,?_,s2.trans s7⟩;unfold jl;rw[ai,Q23,Q0i];simp[ah]
   . have ah:nm∈iy key by_:=Classical.byContradiction λh=>c1 (by
      show(!inV (V.str nm) ((iy key by_).map V.str))=true;rw[mB,decide_eq_false h];rfl)
     refine⟨xs.length - (i+1),by omega,rfl,hi,?_,s2.trans s7⟩;unfold jl;rw[ai,Q23,Q0i];simp[ah]
 . have au:i=xs.length:=by omega
   subst au;refine .inl ⟨J.2.2,λp hp=>?_⟩;rw[el,Q0u];have s3:=Same.new (o:=.lst ((jl key by_ fs.names).map V.str)) hp;have e3:=fA (H:=H') (a:=p) (o:=.lst ((jl key by_ fs.names).map V.str));generalize upd H' p (.lst ((jl key by_ fs.names).map V.str))=H3 at s3 e3 ⊢;obtain⟨d1,av⟩:∃d:Nat,m % 2=(d:Int):=⟨(m % 2).toNat,by omega⟩;obtain⟨d2,aw⟩:∃d:Nat,m / 2 % 3=(d:Int):=⟨(m / 2 % 3).toNat,by omega⟩;have aE:d2<=2:=by omega
   refine⟨_,rfl,_,rfl,_,_,rfl,rfl,(by show(0:Int)<_;decide),_,rfl,p,_,rfl,fv.of e3,λp4 ax=>?_⟩;rw[av,Ms,<-List.map_drop];have s4:=Same.new (o:=.lst (((jl key by_ fs.names).drop d1).map V.str)) ax;have e4:=fA (H:=H3) (a:=p4) (o:=.lst (((jl key by_ fs.names).drop d1).map V.str));generalize upd H3 p4 (.lst (((jl key by_ fs.names).drop d1).map V.str))=H4 at s4 e4 ⊢;have aj:=(s2.trans s3).trans s4;refine⟨_,rfl,pk,pb,key,by_,rfl,(B.mono (Tu.of aj)).k,λl H5 s5 hl ay=>?_⟩;refine⟨_,rfl,_,rfl,_,_,rfl,rfl,⟨by decide,by decide⟩,_,_,rfl,rfl,(by show(0:Int)<_;decide),_,rfl,p4,_,rfl,fv.of (s5 _ _ e4),λp6 az=>?_⟩;rw[aw,Mr,<-List.map_take];have s6:=Same.new (o:=.lst ((((jl key by_ fs.names).drop d1).take d2).map V.str)) az;have e6:=fA (H:=H5) (a:=p6) (o:=.lst ((((jl key by_ fs.names).drop d1).take d2).map V.str));generalize upd H5 p6 (.lst ((((jl key by_ fs.names).drop d1).take d2).map V.str))=H6 at s6 e6 ⊢;have af:(((jl key by_ fs.names).drop d1).take d2).Sublist (fs.names.filter λx=>decide (x ∉ iy key by_)):=(Q2s _ _).trans (List.drop_sublist _ _);generalize ((jl key by_ fs.names).drop d1).take d2=fr at e6 af;have aJ:(iy key by_).length<=2:=by unfold iy;split <;> simp
   have ap:fr.length<=12:=Q0c af.length_le (Q0c (Q19 _ _) B.iq);refine⟨l,p6,_,_,rfl,rfl,s6 _ _ ay,e6,Q0s (g_ (by rw[Q05,Q05];omega)),λp7 ak=>?_⟩;have s7:Same H6 (upd H6 p7 (.lst ((iy key by_).map V.str++fr.map V.str))):=Same.new ak;have al:=(aj.trans s5).trans s6;have hW:=B.W;unfold Kd.W at hW
   have am:∀x∈fr,x∈fs.names/\x ∉ iy key by_:=λx hx=>by
    have:=List.mem_filter.mp (af.subset hx);exact⟨this.1,of_decide_eq_true this.2⟩
   have aA:∀x∈iy key by_,x∈fs.names:=λx hx=>by
    have hk:key∈fs.names:=by obtain⟨k,h,_⟩:=hW.2.2.2.1;exact Fs.get_mem h
    unfold iy at hx;split at hx
    . rw[List.mem_singleton.mp hx];exact hk
    . rename_i hb;obtain⟨k,h,_⟩:=hW.2.2.2.2.resolve_left hb;simp only[Q13,Q33,or_false] at hx;rcases hx with e|e
      . rw[e];exact hk
      . rw[e];exact Fs.get_mem h
   have aB:(iy key by_).Nodup:=by
    unfold iy;split
    . simp
    . simp[Ne.symm ao]
   have ag:∀x∈iy key by_++fr,x∈fs.names:=λx hx=>(List.mem_append.mp hx).elim (aA x) λh=>(am x h).1;have an:(iy key by_++fr).Nodup:=List.nodup_append.mpr ⟨aB,(B.nd.filter _).sublist af,λx hx y hy e=>(am y hy).2 (by rw[<-e];exact hx)⟩;refine q p7 (iy key by_++fr) _ (al.trans s7) (al.free ak) (by rw[fA,Q0i]) an ag (Q0m _ (E8 _ _)) ?_ (Q0c (Ej an ag) B.iq);by_cases hb:by_=""
   . exact .inl hb
   . refine .inr (Q0m _ ?_);unfold iy;rw[if_neg hb];simp
theorem vN {U J:Str->D}:∀{l:List Str},(gT U l).gZ=(gT J l).gZ↔∀x∈l,(U x).nl=(J x).nl
 |[]=>⟨λ_ x L=>(nomatch L),λ_=>rfl⟩
 |y::r=>by
  show(Ds.cons y (U y) (gT U r)).gZ=(Ds.cons y (J y) (gT J r)).gZ↔_;unfold Ds.gZ;constructor
  . intro z x L;injection z with _ Y z2
    rcases List.mem_cons.mp L with e|e
    . rw[e];exact Y
    . exact vN.mp z2 x e
  . intro z;rw[z y Q01,vN.mpr λx L=>z x (Q04 _ L)]
theorem vO {f g:Ds->Ds}:∀{l:List Ds},(gm (l.map f)).gB=(gm (l.map g)).gB↔∀m∈l,(f m).gZ=(g m).gZ
 |[]=>⟨λ_ x J=>(nomatch J),λ_=>rfl⟩
 |m::r=>by
  show(gm (f m::r.map f)).gB=(gm (g m::r.map g)).gB↔_;unfold gm Ds.gB;constructor
  . intro z x J;injection z with _ L U
    rcases List.mem_cons.mp J with e|e
    . rw[e];have L:D.dct (f m).gZ=.dct (g m).gZ:=L;injection L
    . exact vO.mp U x e
  . intro z
    have h1:(D.dct (f m)).nl=(D.dct (g m)).nl:=by
     show D.dct (f m).gZ=.dct (g m).gZ;rw[z m Q01]
    rw[h1,vO.mpr λx J=>z x (Q04 _ J)]
theorem oO {x y:Str}{e:D}(h:y≠x):∀{m:Ds},(m.upd x e).get y=m.get y
 | .nil=>rfl
 | .cons z d r=>by
   show(if y=z then some (if z=x then e else d) else(r.upd x e).get y)=if y=z then some d else r.get y
   by_cases c:y=z
   . rw[if_pos c,if_pos c,if_neg λq=>h (c.trans q)]
   . rw[if_neg c,if_neg c,oO h]
section
variable {fs:Fs}{key:Str}{ss:List Str}
theorem qy {m:Ds}{x:Str}(J:f6 (fs.gc ss) m)(h:x ∉ ss):m.get x=none:=by
 cases e:m.get x with
 |none=>rfl
 |some d=>
  have:=Ds.sM e;rw[J.names,Fs.iQ] at this;exact absurd (of_decide_eq_true (List.mem_filter.mp this).2) h
theorem sW {m:Ds}{x:Str}(J:f6 (fs.gc ss) m)(h:x∈ss)(h2:x∈fs.names):∃d,m.get x=some d:=by
 apply Ds.get_name;rw[J.names,Fs.iQ];exact List.mem_filter.mpr ⟨h2,decide_eq_true h⟩
theorem Mw {J:List Ds}{m:Ds}(U:f6 (fs.gc ss) m)(hk:key∈ss):gW fs key J m=oV fs key J m:=by
 unfold gW oV nU;refine vC λx Y=>?_;by_cases h:x∈ss
 . obtain⟨d,e⟩:=sW U h Y;rw[e];rfl
 . rw[qy U h];have L:x≠key:=λz=>h (by rw[z];exact hk);unfold iW lQ
   cases rowOf key J (keyOf m key) with
   |some q=>rfl
   |none=>
    show((none:Option D).or (((iV fs).upd key (kD (keyOf m key))).get x)).getD _=((none:Option D).or ((iV fs).get x)).getD _;rw[oO L]
theorem Fb {J:List Ds}{m:Ds}{x:Str}(L:x∈fs.names):(gW fs key J m).get x=some (((m.get x).or ((iW fs key J (keyOf m key)).get x)).getD (.int 0)):=by
 unfold gW nU;exact vB _ L
theorem vP {L:List Ds}{m:Ds}(U:f6 (fs.gc ss) m)(hk:key∈ss)(J:key∈fs.names):keyOf (gW fs key L m) key=keyOf m key:=by
 obtain⟨d,e⟩:=sW U hk J;unfold keyOf;rw[Fb J,e];rfl
theorem qz {J:List Ds}{p:Key}{m:Ds}(h:rowOf key J p=some m):m∈J/\keyOf m key=p:=by
 unfold rowOf at h;exact⟨List.mem_of_find?_eq_some h,by simpa using List.find?_some h⟩
theorem Fc {J:List Ds}{p:Key}(h:rowOf key J p=none):∀m∈J,keyOf m key≠p:=by
 unfold rowOf at h;intro m L;simpa using List.find?_eq_none.mp h m L
theorem Mx {J:List Ds}{m:Ds}(nd:(J.map λm=>keyOf m key).Nodup)(L:m∈J):rowOf key J (keyOf m key)=some m:=by
 cases e:rowOf key J (keyOf m key) with
 |none=>exact absurd rfl (Fc e m L)
 |some m'=>
  obtain⟨h1,h2⟩:=qz e;obtain⟨i,hi,U⟩:=Q0v L;obtain⟨j,hj,Y⟩:=Q0v h1;have:(J.map λm=>keyOf m key)[j]'(by simpa using hj)=(J.map λm=>keyOf m key)[i]'(by simpa using hi):=by simp[U,Y,h2]
  have:=(Q1a nd).mp this;subst this;rw[<-U,Y]
theorem My {L Y n2:List Ds}(nd:fs.names.Nodup)(ag:∀m∈L,f6 fs m)(ai:(L.map λm=>keyOf m key).Nodup)(ae:∀m∈Y,f6 (fs.gc ss) m)(aj:∀m∈n2,f6 (fs.gc ss) m)(hk:key∈ss)(af:key∈fs.names):
 (gm (n2.map (gW fs key (Y.map (gW fs key L))))).gB=(gm (n2.map (gW fs key L))).gB↔E4 fs key ss Y n2 L:=by
 rw[vO]
 have row:∀m∈n2,((gW fs key (Y.map (gW fs key L)) m).gZ=(gW fs key L m).gZ↔(keyOf m key ∉ Y.map (λr=>keyOf r key)->∀m0,rowOf key L (keyOf m key)=some m0->∀(i:Nat) x k d,fs.at i=some (x,k)->x ∉ ss->m0.get x=some d->d.nl=(blk k).nl)):=λm hm=>by
  have ab:=aj m hm;obtain⟨p,hp⟩:∃p,p=keyOf m key:=⟨_,rfl⟩;have pr:∀M:List Ds,gW fs key M m=gT (λx=>((m.get x).or ((iW fs key M (keyOf m key)).get x)).getD (.int 0)) fs.names:=λM=>rfl;rw[pr (Y.map (gW fs key L)),pr L,vN,<-hp]
  have U:∀r,rowOf key (Y.map (gW fs key L)) p=some r->∃m1∈Y,r=gW fs key L m1/\keyOf m1 key=p:=λr hr=>by
   obtain⟨h1,h2⟩:=qz hr;obtain⟨m1,h3,h4⟩:=List.mem_map.mp h1;refine⟨m1,h3,h4.symm,?_⟩;rw[<-h2,<-h4,vP (ae m1 h3) hk af]
  have e0:∀(r:Option Ds) (b:Ds),r=none->r.getD b=b:=λr b h=>by rw[h];rfl
  by_cases ac:p∈Y.map (λr=>keyOf r key)
  . refine⟨λ_ h=>absurd ac h,λ_ x hx=>?_⟩;by_cases J:x∈ss
    . obtain⟨d,e⟩:=sW ab J hx;rw[e];rfl
    . rw[qy ab J]
      obtain⟨r,hr⟩:∃r,rowOf key (Y.map (gW fs key L)) p=some r:=by
       cases e:rowOf key (Y.map (gW fs key L)) p with
       |some r=>exact⟨r,rfl⟩
       |none=>
        obtain⟨m1,h1,h2⟩:=List.mem_map.mp ac;refine absurd ?_ (Fc e (gW fs key L m1) (List.mem_map.mpr ⟨m1,h1,rfl⟩));rw[vP (ae m1 h1) hk af];exact h2
      obtain⟨m1,h1,rfl,h2⟩:=U r hr;have e1:iW fs key (Y.map (gW fs key L)) p=gW fs key L m1:=by unfold iW;rw[hr];rfl
      rw[e1,Fb hx,qy (ae m1 h1) J,h2];rfl
  . have hr:rowOf key (Y.map (gW fs key L)) p=none:=by
     cases e:rowOf key (Y.map (gW fs key L)) p with
     |none=>rfl
     |some r=>
      obtain⟨m1,h1,_,h2⟩:=U r e;exact absurd (List.mem_map.mpr ⟨m1,h1,h2⟩) ac
    have e1:iW fs key (Y.map (gW fs key L)) p=(iV fs).upd key (kD p):=by unfold iW;rw[hr];rfl
    have eb:∀x k,fs.get x=some k->x ∉ ss->((iV fs).upd key (kD p)).get x=some (blk k):=λx k hx J=>by
     rw[oO λz=>J (by rw[z];exact hk),sN nd,vB _ (Fs.get_mem hx)];unfold kE;rw[hx]
    rw[e1]
    cases e2:rowOf key L p with
    |none=>
     have e3:iW fs key L p=(iV fs).upd key (kD p):=by unfold iW;rw[e2];rfl
     rw[e3];exact⟨λ_ _ m0 h=>(by cases h),λ_ x _=>rfl⟩
    |some m0=>
     have e3:iW fs key L p=m0:=by unfold iW;rw[e2];rfl
     rw[e3];constructor
     . intro z _ al h i x k d aa J hd
       cases h;have hg:=Fs.md nd aa;have:=z x (Fs.get_mem hg);rw[qy ab J,eb x k hg J,hd] at this;exact this.symm
     . intro z x hx;by_cases J:x∈ss
       . obtain⟨d,e⟩:=sW ab J hx;rw[e];rfl
       . obtain⟨k,hg⟩:=Fs.oS hx;obtain⟨i,aa⟩:=Fs.qh hg;obtain⟨d,hd,_⟩:=(ag m0 (qz e2).1).get hg;rw[qy ab J,eb x k hg J,hd];exact(z ac m0 rfl i x k d aa J hd).symm
 constructor
 . intro z i m0 ak h2 h1 i' x k d aa hx hd;obtain⟨m,hm,e⟩:=List.mem_map.mp h2;have ah:=Q0g ak;exact(row m hm).mp (z m hm) (by rw[e];exact h1) m0 (by rw[e];exact Mx ai ah) i' x k d aa hx hd
 . intro z m hm;refine(row m hm).mpr λh1 m0 h0 i' x k d aa hx hd=>?_;obtain⟨g1,g2⟩:=qz h0;obtain⟨i,hi,ei⟩:=Q0v g1;exact z i m0 (by rw[Q03 hi,ei]) (by rw[g2];exact List.mem_map.mpr ⟨m,hm,rfl⟩) (by rw[g2];exact h1) i' x k d aa hx hd
end
theorem Fs.vQ (ss:List Str):∀fs:Fs,(fs.gc ss).dB<=fs.dB
 | .nil=>Q0 _
 | .cons y k r=>by
   have J:=Fs.vQ ss r;show(if y∈ss then Fs.cons y k (r.gc ss) else r.gc ss).dB<=_;split
   . simp only[Fs.dB];omega
   . simp only[Fs.dB];omega
theorem iD.Mz {fs:Fs}{ss:List Str}{m:Ds}(nd:fs.names.Nodup)(h:iD (fs.gc ss) m):Eu fs (fs.gc ss) (fs.dB+1) m:=by
 have U:=h.1.names;refine⟨by rw[U,Fs.iQ];exact nd.filter _,λx d L=>?_,h.1.u,λx L=>by rw[<-U];exact L,by have:=h.2.1;have:=Fs.vQ ss fs;omega,h.2.2⟩;have J:=Ds.sM L;rw[U] at J;obtain⟨k,hk⟩:=Fs.oS J;obtain⟨d',h1,h2⟩:=h.1.get hk;rw[L] at h1
 cases h1;rw[Fs.lg] at hk;split at hk
 . exact⟨k,hk,h2⟩
 . cases hk
theorem MA {fs:Fs}{key:Str}{ss:List Str}{J:List Ds}{m:Ds}(nd:fs.names.Nodup)(L:fs.names.length<=12)(hW:fs.W)(U:∀m∈J,iD fs m)(hm:iD (fs.gc ss) m)(hk:key∈ss)(Y:fs.pl key):iD fs (gW fs key J m):=by
 have ho:vE fs (fs.dB+1) (iW fs key J (keyOf m key)):=by
  unfold iW
  cases e:rowOf key J (keyOf m key) with
  |some m0=>
   have:=U m0 (qz e).1;exact⟨this.1,this.2.1,this.2.2⟩
  |none=>
   obtain⟨b1,b2,b3⟩:=qu hW
   have aa:(fs.gc ss).pl key:=by
    obtain⟨k,h1,h2⟩:=Y;exact⟨k,by rw[Fs.lg,if_pos hk];exact h1,h2⟩
   have ky:=jk.of hm.1 aa;rw[Fs.lg,if_pos hk] at ky;have b0:iD fs (iV fs):=⟨b1,by omega,qp.mpr ⟨by rw[<-lM,b1.names];omega,b2⟩⟩;have:=b0.upd nd ky;exact⟨this.1,this.2.1,this.2.2⟩
 have:=Ln nd L ho (hm.Mz nd);exact⟨this.fit,this.dep,this.sm⟩
def Kt (b:Addr) (H H':Hp):Prop:=∀c o,c≠b->(∀ps,o≠ .g4 ps)->H c=some o->H' c=some o
theorem Kn.kt {b:Addr}{H H':Hp}(k:Kn H H'):Kt b H H':=λc o _ J e=>k c o J e
theorem Kt.of {b:Addr}{H H':Hp}(s:Same H H'):Kt b H H':=λc o _ _ e=>s c o e
theorem Kt.sb {b:Addr}{H H':Hp}(s:SB b H H'):Kt b H H':=λc o hc _ e=>s c o hc e
theorem Kt.tu {b:Addr}{H H':Hp}{l:List V}(k:Kt b H H')(J:H b=some (.lst l)):Tu H H':=λc xs e=>k c _ (ic e J (by intro z;cases z)) (by intro ps z;cases z) e
theorem Kt.lst {b c:Addr}{H H':Hp}{xs:List V}(k:Kt b H H')(hc:c≠b)(e:H c=some (.lst xs)):H' c=some (.lst xs):=k c _ hc (by intro ps z;cases z) e
theorem fZ.kt {b:Addr}{H H':Hp}{l vs:List V}{L:List Ds}{J:List (List Addr)}(h:fZ H vs L J)(k:Kt b H H')(U:H b=some (.lst l))(Y:b ∉ J.flatten):fZ H' vs L J:=fZ.keep (k.tu U) h λc hc o e=>k c o (λz=>Y (by rw[<-z];exact hc)) (by
 intro ps z;rcases fZ.mu h c hc with⟨_,q⟩|⟨_,q⟩ <;> rw[e] at q <;> rw[z] at q <;> cases q) e
structure RW (K:W.Frag) (Ts:List (Addr × Pos × Str)) (a b:Addr) (ns:List Int) (n:Int) (H:Hp):Prop where
 g:G0 K H a b ns n
 t:∀q∈Ts,fT q.1 q.2.1 q.2.2 H
theorem _root_.L2.fT.go {S:List Addr}{P:Addr}{J:Pos}{L:Str}{H H':Hp}(h:fT P J L H)(k:∀c o,c ∉ S->H c=some o->H' c=some o)(hl:∀p∈S,(∃l,H p=some (.lst l))\/∃ps,H p=some (.g4 ps))(U:P ∉ S):fT P J L H':=by
 rcases h with e|⟨c,e,f⟩
 . exact .inl (k _ _ U e)
 . refine .inr ⟨c,k _ _ U e,k _ _ (λz=>?_) f⟩;rcases hl c z with⟨l,q⟩|⟨l,q⟩ <;> rw[f] at q <;> cases q
section
variable {K:W.Frag}{Ts:List (Addr × Pos × Str)}{a b:Addr}{ns:List Int}{n n':Int}{H H':Hp}
theorem RW.go {S:List Addr}(h:RW K Ts a b ns n H)(k:∀c o,c ∉ S->H c=some o->H' c=some o)(hl:∀p∈S,(∃l,H p=some (.lst l))\/∃ps,H p=some (.g4 ps))(L:H' b=some (.lst [.int n']))(Y:n<=n')(U:∀q∈Ts,q.1∈S->fT q.1 q.2.1 q.2.2 H'):RW K Ts a b ns n' H':=by
 refine⟨⟨?_,h.g.len,L,by have:=h.g.pos;omega⟩,λq J=>?_⟩
 . rcases h.g.kx with⟨o,e⟩|e
   . refine .inl ⟨o,k a _ (λz=>?_) e⟩;rcases hl a z with⟨l,q⟩|⟨l,q⟩ <;> rw[e] at q <;> cases q
   . exact .inr e
 . by_cases c:q.1∈S
   . exact U q J c
   . exact(h.t q J).go k hl c
theorem RW.same (h:RW K Ts a b ns n H)(s:Same H H'):RW K Ts a b ns n H':=h.go (S:=[]) (λc o _ e=>s c o e) (λp hp=>(nomatch hp)) (s _ _ h.g.at_) (Q1g _) λq _ J=>(nomatch J)
theorem RW.sb (h:RW K Ts a b ns n H)(s:SB b H H')(J:H' b=some (.lst [.int n']))(L:n<=n'):RW K Ts a b ns n' H':=h.go (S:=[b]) (λc o hc e=>s c o (λz=>hc (by rw[z];exact Q01)) e) (λp hp=>by rw[List.mem_singleton.mp hp];exact .inl ⟨_,h.g.at_⟩) J L λq U hc=>by
 have:=h.t q U;obtain⟨ps,e⟩:=this.tab;rw[List.mem_singleton.mp hc,h.g.at_] at e
 cases e
end
structure Rr (key by_:Str) (fs:Fs) (ms:List Ds):Prop where
 ok:∀m∈ms,iD fs m
 kn:(ms.map λm=>keyOf m key).Nodup
 len:ms.length<=30
 MC:ms.Pairwise (nu key by_)
theorem Rr.of {key by_:Str}{fs:Fs}{room:Nat}{ps:List Key}{n:Int}{q:List Ds × Int}(h:qe fs key room ps n q)(U:ps.Nodup)(aa:ps.length<=30):Rr key by_ fs (iZ key by_ q.1):=by
 have L:=k7 key by_ q.1;have kn:=h.keys.nodup U;have J:((iZ key by_ q.1).map λm=>keyOf m key).Nodup:=(L.map _).nodup_iff.mpr kn;refine⟨λm Y=>h.ok m (L.mem_iff.mp Y),J,?_,rh (rg key by_ q.1) J⟩;have:=h.keys.length_le;rw[Q05] at this;rw[L.length_eq];omega
structure RV (b:Addr) (H:Hp) (D:Addr) (vs:List V) (ms:List Ds) (fl:List (List Addr)):Prop where
 at_:H D=some (.lst vs)
 r:fZ H vs ms fl
 nb:∀c∈D::fl.flatten,c≠b
theorem RV.kt {b D:Addr}{H H':Hp}{l vs:List V}{J:List Ds}{L:List (List Addr)}(h:RV b H D vs J L)(k:Kt b H H')(U:H b=some (.lst l)):RV b H' D vs J L:=
 ⟨k.lst (h.nb D Q01) h.at_,h.r.kt k U λz=>h.nb b (Q04 _ z) rfl,h.nb⟩
section
variable {K:W.Frag}{Ts:List (Addr × Pos × Str)}{a b:Addr}{ns:List Int}{n n':Int}{H H':Hp}
theorem Fe:∀{Ts:List (Addr × Pos × Str)},(Ts.map (·.1)).Nodup->∀{q L:Addr × Pos × Str},q∈Ts->L∈Ts->q.1=L.1->q=L
 |[],_,_,_,h,_,_=>nomatch h
 |t::r,nd,q,L,h,h',e=>by
  have nd:(t.1::r.map (·.1)).Nodup:=nd;obtain⟨U,n2⟩:=List.nodup_cons.mp nd;rcases List.mem_cons.mp h with z|z
  . rcases List.mem_cons.mp h' with J|J
    . rw[z,J]
    . exact absurd (by rw[<-z,e];exact Q17 (f:=λq:Addr × Pos × Str=>q.1) J) U
  . rcases List.mem_cons.mp h' with J|J
    . exact absurd (by rw[<-J,<-e];exact Q17 (f:=λq:Addr × Pos × Str=>q.1) z) U
    . exact Fe n2 z J e
theorem RW.gl (nd:(Ts.map (·.1)).Nodup)(h:RW K Ts a b ns n H)(bs:List Addr)(L:List (Addr × Pos × Str))(hL:∀q∈L,q∈Ts)(J:∀c∈bs,∃l,H c=some (.lst l))(k:∀c o,c ∉ bs->c ∉ L.map (·.1)->H c=some o->H' c=some o)(hT:∀q∈L,fT q.1 q.2.1 q.2.2 H')
 (hb:H' b=some (.lst [.int n'])) (hn:n<=n'):RW K Ts a b ns n' H':=by
 refine h.go (S:=bs++L.map (·.1)) (λc o hc e=>k c o (λz=>hc (Q0m _ z)) (λz=>hc (Q07 _ z)) e) (λp hp=>?_) hb hn λq Y hc=>?_
 . rcases List.mem_append.mp hp with z|z
   . exact .inl (J p z)
   . obtain⟨q,Y,rfl⟩:=List.mem_map.mp z;exact .inr (h.t q (hL q Y)).tab
 . rcases List.mem_append.mp hc with z|z
   . obtain⟨l,e⟩:=J _ z;obtain⟨ps,e'⟩:=(h.t q Y).tab;rw[e] at e';cases e'
   . obtain⟨q',U,e⟩:=List.mem_map.mp z;rw[Fe nd Y (hL q' U) e.symm];exact hT q' U
end
noncomputable abbrev T3 (Pt Ps Pf:Addr):List (Addr × Pos × Str):=[(Pt,iN,iO),(Ps,nN,nO),(Pf,i4,i6)]
abbrev R3 (K:W.Frag) (Pt Ps Pf a b:Addr) (ns:List Int) (n:Int) (H:Hp):Prop:=RW K (T3 Pt Ps Pf) a b ns n H
section
variable {K:W.Frag}{Pt Ps Pf a b:Addr}{ns:List Int}{n:Int}{H:Hp}
theorem RW.vo (h:R3 K Pt Ps Pf a b ns n H):fT Pt iN iO H:=h.t (Pt,iN,iO) (by simp)
theorem RW.so (h:R3 K Pt Ps Pf a b ns n H):fT Ps nN nO H:=h.t (Ps,nN,nO) (by simp)
theorem RW.sf (h:R3 K Pt Ps Pf a b ns n H):fT Pf i4 i6 H:=h.t (Pf,i4,i6) (by simp)
end
theorem jB {A B:TS}{D:Ends}{σ:L2.St}{H:Hp}(k:∀N:L2.St->Hp->Prop,(∀σ H,B D σ H->N σ H)->A { D with nx:=N } σ H):tO A B D σ H:=k (B D) λ_ _ h=>h
theorem vR {σ:L2.St}{H:Hp}{k:List V->Hp->Prop}(h:k [] H):jW σ H k:=h
theorem oW {B:TS}{D:Ends}{σ:L2.St}(J:L2.St){H:Hp}(e:σ=J)(h:B D J H):B D σ H:=by rw[e];exact h
theorem Fs.Ff (ss:List Str):∀fs:Fs,(fs.gc ss).dep<=fs.dep
 | .nil=>Q0 _
 | .cons y k r=>by
   have J:=Fs.Ff ss r;show(if y∈ss then Fs.cons y k (r.gc ss) else r.gc ss).dep<=_;split
   . simp only[Fs.dep];omega
   . simp only[Fs.dep];omega
theorem Fs.Fg (ss:List Str):∀fs:Fs,(fs.gc ss).cB<=fs.cB
 | .nil=>Q0 _
 | .cons y k r=>by
   have J:=Fs.Fg ss r;show(if y∈ss then Fs.cons y k (r.gc ss) else r.gc ss).cB<=_;split
   . simp only[Fs.cB];omega
   . simp only[Fs.cB];omega
def Fh (K:W.Frag) (Pt Ps Pf:Addr):Sp:=λvs H Q _=>∃a b ns n,vs=[.ref a,.ref b]/\R3 K Pt Ps Pf a b ns n H/\n<=100000000000/\∀n' H',R3 K Pt Ps Pf a b ns n' H'->n'<=n+10000000->Q (.bl true) H'
section
variable {P:Program}{w:World}{K:W.Frag}{mg:Str->Option Value}{base:Heap}
variable {C CE Pt Ps Pf:Addr}
theorem MD:gi XF XB (fM (top 56)):=gw
theorem ME (cb:((T3 Pt Ps Pf).map (·.1)).Nodup)(T:Tb mg)(TK:lP K mg C U bJ cq cr b7 b8)(EA:oU K mg CE Y bK bo cu aq b9 ca)(aN:Dn K mg "_law_round" gn (top 56) aO aP)(a3:Dn K mg "_law_next" gn (top 36) a4 a5)(a6:fm P w K mg base fw (1) a4 a5 gn (mr K))(ar:Dn K mg "_law_rows_kind" jN (top 42) au av)(aw:fm P w K mg base fw (7) au av jN (CJ K 1))(a7:Dn K mg "_law_pool" rJ (top 48) a8 a9)(ba:fm P w K mg base fw (130) a8 a9 rJ (DS K Pt 60))(ac:Dn K mg "_law_some" pX (top 49) bb bc)(ae:fm P w K mg base fw (130) bb bc pX (DJ K Pt Ps 60))(aG:Dn K mg "_law_emptied" rV (top 52) aH aI)(aJ:fm P w K mg base fw (20) aH aI rV (E9 K 16))(ak:Dn K mg "_law_names_taken" rW (top 55) al am)(an:fm P w K mg base fw (2) al am rW (E_))(ax:Dm K "__init__" "Take.__init__" rM (fX 32 0) U ay)(az:fm P w K mg base fw (1) U ay rM (EF K C))(aA:Dm K "__init__" "Each.__init__" rQ (fX 34 0) Y aB)(aC:fm P w K mg base fw (1) Y aB rQ (EH CE))(af:Dm K "put" "Each.put" ml (fX 34 4) aq bd)(ag:fm P w K mg base fw (71) aq bd ml (EY 16 C CE Pf))(aa:Dn K mg "_law_alike" nF (top 47) aQ aT)(ab:fm P w K mg base fw (17) aQ aT nF (oR 16))(aD:Dn K mg "_law_due" rS (top 54) bm bn)(aE:fm P w K mg base fw (20) bm bn rS (E1 16))(aU:Dn K mg "_law_agree" rT (top 53) aV aW)(aX:fm P w K mg base fw (20) aV aW rT (E5 16)):fm P w K mg base fw (131) aO aP gn (Fh K Pt Ps Pf):=by
 have b5:=TK.vH;have co:=TK.m;have b6:=EA.vH;have cp:=EA.m;have aL:=EA.ct;have ah:=EA.p;refine aN.F.ok MD λvs H Q E h=>?_;obtain⟨a,b,ns,n,rfl,W,hn,q⟩:=h;refine⟨rfl,λeQ A outer s nd hr hu=>?_⟩
 refine⟨_,(e_ (fN 2 nd (fL a6 hr a3 (a_ (pv 0) (a_ (pv 1) c_))))
  (e_ (fN 3 nd (fL aw hr ar (a_ (pv 0) (a_ (pv 1) (a_ (fH js b_ (fH gN (pv 2) b_)) (a_ b_ c_))))))
  (e_ (fN 4 nd (fL ba hr a7 (a_ (pv 0) (a_ (pv 1) (a_ (pv 3) (a_ (fH js b_ (fH gN (fH iF (pv 2) b_) b_)) c_))))))
  (e_ (fN 5 nd (fL aJ hr aG (a_ (pv 0) (a_ (pv 1) (a_ (pv 3) (a_ (fL ae hr ac (a_ (pv 0) (a_ (pv 1) (a_ (pv 3) (a_ (pv 4) (a_ b_ c_)))))) c_))))))
  (e_ (Jo 6 nd (fL an hr ak (a_ (fH iF (pv 2) b_) (a_ (pv 3) c_))))
  (e_ (pJ (i:=7) nd rfl gQ (g:=(iB 0)) (tt:=(kM (gY (pA K false) (gY (iY K) (gF 0) (tC (.int 0))) (gF 7)))) (te:=(gF 0)) (own:=["_law_pair"]) rfl (jY (N:=XF) (sc:=fM (top 56))) (jE (fy (pv 3) b_)) (λ_ _ _ _ _=>(gu (i:=0) (show(["_law_pair","_law_script","_law_at","_law_m","_law_kind_here","_law_pool_here","_law_source","_law_names_here","_law_fields_here","_law_shown","_law_first","_law_second","_law_view","_law_once","_law_new","_law_twice"]:List Str).Nodup by decide +kernel) rfl (Or.inl rfl) (.inr rfl))) (λ_ _ _ _ _=>(pI (fY qU (fy (pv 0) b_) (pv 7) (by with_unfolding_all rfl)))) (λ_ _ _ _ _=>(pv 0)))
  (e_ (fN 8 nd (ij (a_ gj (a_ (fy (pv 3) b_) (a_ (fy (pv 3) b_) (a_ (kO qV (by rfl) T.oG boot_tuple (a_ (pv 7) c_)) c_))))))
  (e_ (fN 9 nd (fL ae hr ac (a_ (pv 0) (a_ (pv 1) (a_ (pv 8) (a_ (pv 4) (a_ b_ c_)))))))
  (e_ (fN 10 nd (fL ae hr ac (a_ (pv 0) (a_ (pv 1) (a_ (pv 8) (a_ (pv 4) (a_ b_ c_)))))))
  (e_ (fN 11 nd (AZ b6 aC (hr.mono (by decide)) rfl cp aA.b .nil jv (a_ (AZ b5 az (hr.mono (by decide)) rfl co ax.b .nil jv (a_ (pv 6) c_)) c_)))
  (e_ (fN 12 nd (kN (pv 11) aL ah ag (hr.mono (by decide)) af.b .nil jv (a_ (pv 3) (a_ (pv 5) (a_ (pv 10) c_)))))
  (e_ (f7 (i7 (iR (fL ab hr aa (a_ (pv 3) (a_ (pv 12) (a_ (fL aE hr aD (a_ (pv 3) (a_ (pv 5) (a_ (pv 10) c_)))) c_)))))) (fx (fE jb)) f9)
  (e_ (fN 13 nd (kN (pv 11) aL ah ag (hr.mono (by decide)) af.b .nil jv (a_ (pv 3) (a_ (pv 5) (a_ (pv 9) c_)))))
  (e_ (f7 (i7 (iR (fL ab hr aa (a_ (pv 3) (a_ (pv 13) (a_ (fL aE hr aD (a_ (pv 3) (a_ (pv 5) (a_ (pv 9) c_)))) c_)))))) (fx (fE jb)) f9)
  (e_ (fN 14 nd (kN (pv 11) aL ah ag (hr.mono (by decide)) af.b .nil jv (a_ (pv 3) (a_ (pv 13) (a_ (pv 10) c_)))))
  (fx (fE (ki gx (fL ab hr aa (a_ (pv 3) (a_ (pv 14) (a_ (pv 12) c_)))) (fL aX hr aU (a_ (pv 3) (a_ (pv 6) (a_ (pv 5) (a_ (pv 9) (a_ (pv 10) c_)))))) (fV _))))))))))))))))))),?_⟩
 ac_rfl
 refine jB λN hN=>?_;refine⟨_,rfl,_,rfl,a,b,ns,n,rfl,W.g,by omega,λm H1 m0 m1 di cL=>hN _ _ (jB λN hN=>?_)⟩;have W1:=W.sb di cL (by omega);clear di cL W;have cL:=W1.g.at_;have eR:ck 1<=1000000:=by decide
 have eS:((2+m % 3).toNat:Int) * (ck 1+1)<=4 * (ck 1+1):=Q18 (by omega) (by decide);refine⟨_,rfl,_,rfl,_,rfl,_,_,rfl,rfl,(by show(0:Int)<3;decide),_,_,rfl,rfl,a,b,ns,n+1,(2+m % 3).toNat,by rw[show(((2+m % 3).toNat:Nat):Int)=2+m % 3 by omega];rfl,by omega,by omega,W1.g,by omega,λv key by_ fs n2 H3 dj dk l1 l2 dm d6 hW eI ⟨dn,ei⟩=>hN _ _ (jB λN hN=>?_)⟩;unfold KA at dm;obtain⟨pk,pb,xs,rfl,cM,cN,cO⟩:=dm;have B:jf H3 pk pb key by_ xs fs:=⟨cM,cN,cO,hW,dn⟩;have W3:=W1.sb dj dk l1;clear dj dk W1;have dp:=hW;unfold Kd.W at dp;obtain⟨cP,cQ,cR,cw,ej⟩:=dp;simp only[Kd.dep] at d6;have eT:fs.dB<=12:=by have:=pP fs;omega
 have ek:(fs.cB:Int)<=14400:=by
  have h1:=pO fs 1 cR (by omega);have h2:CB 1=1200:=rfl;have h3:fs.names.length * CB 1<=12 * CB 1:=Q12 _ cQ;omega
 have el:mu (.gA fs) 2<=60:=by have:=rZ (.gA fs) 2;simp only[Kd.dep] at this;omega
 refine⟨_,rfl,_,rfl,_,rfl,_,rfl,_,_,rfl,rfl,⟨by decide,by decide⟩,_,_,rfl,rfl,(by show(0:Int)<5;decide),_,_,rfl,rfl,a,b,ns,n2,pk,pb,xs,key,by_,fs,(1+m / 3 % 5).toNat,by rw[show(((1+m / 3 % 5).toNat:Nat):Int)=1+m / 3 % 5 by omega];rfl,W3.g,W3.vo,cM,cN,cO,hW,by omega,by omega,by decide,λDp ps n3 H4 cS dq w1 w2 dt en bp aj bD eH cT=>hN _ _ (jB λN hN=>?_)⟩;have W4:R3 K Pt Ps Pf a b ns n3 H4:=W3.gl cb [b] [(Pt,iN,iO)] (by simp) (λc hc=>by rw[List.mem_singleton.mp hc];exact⟨_,W3.g.at_⟩) (λc o h1 h2 e=>cS c o (λz=>z.elim (λz=>h1 (by rw[z];exact Q01)) λz=>h2 (by rw[z];exact Q01)) e) (λq hq=>by rw[List.mem_singleton.mp hq];exact dt) dq w1;replace B:=B.mono (cS.tu W3.g.at_ W3.vo);clear cS dq dt en W3 cM cN cO;have bV:Pt≠Ps:=λz=>by subst z;simp at cb
 have eJ:ps.length<=5:=by omega
 have cx:∀c:Int,0<=c->c<=14400->(ps.length:Int) * (c+1)<=5 * 14401:=λc h0 hc=>by
  have h1:(ps.length:Int) * (c+1)<=5 * (c+1):=Q18 (by omega) (by omega);omega
 have eK:=cx fs.cB (by omega) ek;refine⟨_,rfl,_,rfl,_,rfl,_,rfl,_,rfl,_,rfl,_,rfl,a,b,ns,n3,pk,pb,xs,key,by_,fs,Dp,ps,2,rfl,W4.g,W4.vo,W4.so,bV,B.k,B.tu,B.fa,hW,aj,bp,by omega,cT,bD,by decide,el,by omega,λD0 du dv H5 dw dy dz dA dC cU dD=>?_⟩;have cd:=qf (ns:=ns) (n:=n3) hW (by decide:2<8) cT ps.length;rw[Q0u] at cd;have ce:Rr key by_ fs (iZ key by_ (iP ns key by_ fs 2 ps n3).1):=Rr.of cd bD (by omega);have d7:=cd.lo;have eL:=cd.hi;generalize iZ key by_ (iP ns key by_ fs 2 ps n3).1=eo at *;generalize (iP ns key by_ fs 2 ps n3).2=n5 at *
 have cV:∀{n n':Int} {H H':Hp},R3 K Pt Ps Pf a b ns n H->DH b Pt Ps H H'->fT Pt iN iO H'->fT Ps nN nO H'->H' b=some (.lst [.int n'])->n<=n'->R3 K Pt Ps Pf a b ns n' H'/\Kt b H H':=λW kp h1 h2 hb hn=>by
  refine⟨W.gl cb [b] [(Pt,iN,iO),(Ps,nN,nO)] (by simp) (λc hc=>by rw[List.mem_singleton.mp hc];exact⟨_,W.g.at_⟩) (λc o z1 z2 e=>kp c o (λz=>?_) e) (λq hq=>?_) hb hn,λc o z1 z2 e=>kp c o (λz=>?_) e⟩
  . rcases z with z|z|z
    . exact z1 (by rw[z];exact Q01)
    . exact z2 (by rw[z];exact Q01)
    . exact z2 (by rw[z];exact Q04 _ Q01)
  . rcases List.mem_cons.mp hq with e|e
    . rw[e];exact h1
    . rw[List.mem_singleton.mp e];exact h2
  . rcases z with z|z|z
    . exact z1 z
    . obtain⟨ps,e'⟩:=W.vo.tab;rw[z,e'] at e;cases e;exact z2 _ rfl
    . obtain⟨ps,e'⟩:=W.so.tab;rw[z,e'] at e;cases e;exact z2 _ rfl
 obtain⟨W5,cW⟩:=cV W4 dw dz dA dy d7;replace B:=B.mono (cW.tu W4.g.at_);replace aj:=cW.lst bp aj;have cX:∀c∈D0::dv.flatten,c≠b:=λc hc z=>by have:=dD c hc;rw[z,W4.g.at_] at this;cases this
 clear dw dz dA dy cW W4 dD;have dE:du.length<=30:=by rw[(A3.len cU).1];exact ce.len
 refine⟨a,b,ns,n5,pk,pb,key,by_,xs,fs,D0,du,eo,dv,rfl,W5.g,B,dC,cX D0 Q01,cU,λc hc=>cX c (Q04 _ hc),dE,ce.ok,by omega,by omega,λS ws ms fl n6 H6 cY dF l6 eU cZ hS b2 cy aZ b3 ep=>hN _ _ (oW [some (.ref a),some (.ref b),some (.int m),some (.ref pk),some (.ref Dp),some (.ref S),none,none,none,none,none,none,none,none,none] rfl (jB λN hN=>?_))⟩;have W6:=W5.sb cY dF l6;have c1:Kt b H5 H6:=Kt.sb cY;replace B:=B.mono (c1.tu W5.g.at_);replace aj:=c1.lst bp aj;have bL:(ms.map λm=>keyOf m key).Nodup:=by rw[b3];exact ce.kn
 have VS:RV b H6 S ws ms fl:=⟨hS,b2,λc hc=>by
  rcases List.mem_cons.mp hc with e|e
  . rw[e];exact λz=>by rw[z,W5.g.at_] at cZ;cases cZ
  . exact cy c e⟩
 have ep:ws.length<=30:=by omega
 clear cY dF c1 cZ hS b2 cy b3 W5 dC cU cX dE ce;refine⟨_,rfl,_,_,rfl,rfl,⟨by decide,by decide⟩,_,rfl,m / 15,pk,pb,key,by_,xs,fs,rfl,by omega,B,ei,λL ss H7 s7 c2 hL d8 bW ai cz dh=>hN _ _ (jB λN hN=>?_)⟩;have W7:=W6.same s7;have dG:L≠b:=λz=>by rw[z,W6.g.at_] at c2;cases c2
 replace B:=B.mono (Tu.of s7);replace aj:=s7 _ _ aj;replace VS:=VS.kt (Kt.of s7) W6.g.at_;clear W6 s7 c2;have eV:=FA.len fs B.fa;refine⟨_,rfl,pk,_,_,_,rfl,rfl,d_.of B.k,rfl,pb,rfl,⟨_,d_.of B.tu⟩,nQ (qg (d_.of B.tu)) (λi=>(((xs.zip fs.names).take i).filter λq=>inV (V.str q.2) (ss.map V.str)).map (·.1)) (by omega) (λLf dH=>hN _ _ (jB λN hN=>?_)) (λi x hx add skip=>?_)⟩
 case refine_2=>
  obtain⟨c,u,nm,rfl,hc,hz⟩:=Eh B.fa hx;exact⟨rfl,_,rfl,c,_,_,_,rfl,rfl,d_.of hc,rfl,_,rfl,L,_,rfl,.inl (fv.of hL),rfl,nS,_,rfl,gO (λcc=>⟨_,rfl,add _ (DO hz cc)⟩) (λcc=>skip (DP hz cc))⟩
 have ef:(((xs.zip fs.names).take xs.length).filter λq=>inV (V.str q.2) (ss.map V.str)).map (·.1)=i8 ss xs fs.names:=by
  rw[Q0z (by rw[Q3d];omega)];unfold i8;simp only[mB]
 rw[ef];have s8:=Same.new (o:=.lst (i8 ss xs fs.names)) dH;have e8:=fA (H:=H7) (a:=Lf) (o:=.lst (i8 ss xs fs.names));generalize upd H7 Lf (.lst (i8 ss xs fs.names))=H8 at s8 e8 ⊢;replace VS:=VS.kt (Kt.of s8) W7.g.at_;replace W7:=W7.same s8;replace hL:=s8 _ _ hL;replace B:=B.mono (Tu.of s8);replace aj:=s8 _ _ aj;clear s8 dH;refine⟨_,rfl,pk,_,_,_,rfl,rfl,d_.of B.k,rfl,_,rfl,pk,_,_,_,rfl,rfl,d_.of B.k,rfl,_,rfl,Lf,_,rfl,.inl ⟨fv.of e8,λt ht=>⟨pU,λsh c3=>hN _ _ (oW [some (.ref a),some (.ref b),some (.int m),some (.ref pk),some (.ref Dp),some (.ref S),some (.ref L),some (.ref Lf),some (.ref sh),none,none,none,none,none,none] rfl (jB λN hN=>?_))⟩⟩⟩;have s9:=Same.new (o:=.tup (i8 ss xs fs.names)) ht;have e9:=fA (H:=H8) (a:=t) (o:=.tup (i8 ss xs fs.names));generalize upd H8 t (.tup (i8 ss xs fs.names))=H9 at s9 e9 c3 ⊢;have cf:=Same.new (o:=.tup [.str "rows",.str key,.str by_,.ref t]) c3;have c4:=fA (H:=H9) (a:=sh) (o:=.tup [.str "rows",.str key,.str by_,.ref t]);generalize upd H9 sh (.tup [.str "rows",.str key,.str by_,.ref t])=eq at cf c4 ⊢;have s8:=s9.trans cf;replace VS:=VS.kt (Kt.of s8) W7.g.at_;have bE:=W7.same s8;replace hL:=s8 _ _ hL;replace B:=B.mono (Tu.of s8);replace aj:=s8 _ _ aj;replace e9:=cf _ _ e9;clear s8 s9 cf W7 ht c3 e8
 have cA:∀x,x∈ss->fs.pl x->(fs.gc ss).pl x:=λx hx h=>by
  obtain⟨k,h1,h2⟩:=h;exact⟨k,by rw[Fs.lg,if_pos hx];exact h1,h2⟩
 have Bs:jf eq sh t key by_ (i8 ss xs fs.names) (fs.gc ss):=by
  refine⟨c4,e9,FA.few fs B.fa,?_,by rw[Fs.iQ];exact dn.filter _⟩;unfold Kd.W;refine⟨by rw[Fs.iQ];exact cP.filter _,by rw[Fs.iQ];exact Q0c (Q19 _ _) cQ,Fs.qm ss cR,cA _ ai cw,?_⟩;rcases ej with z|z
  . exact .inl z
  . rcases cz with y|y
    . exact .inl y
    . exact .inr (cA _ y z)
 clear e9 c4;have cC:mu (.gA (fs.gc ss)) 2<=60:=by have:=rZ (.gA (fs.gc ss)) 2;have:=Fs.Ff ss fs;simp only[Kd.dep] at *;omega
 have bv:∀p∈ps,jk ((fs.gc ss).get key) p:=λp hp=>by rw[Fs.lg,if_pos ai];exact cT p hp
 have eM:=cx (fs.gc ss).cB (by omega) (by have:=Fs.Fg ss fs;omega);refine⟨_,rfl,_,rfl,_,rfl,_,rfl,a,b,ns,n6,sh,t,_,key,by_,fs.gc ss,Dp,ps,2,rfl,bE.g,bE.vo,bE.so,bV,Bs.k,Bs.tu,Bs.fa,Bs.W,aj,bp,by omega,bv,bD,by decide,cC,by omega,λZ1 cg ci er kp bM bN bO dI dJ dL=>hN _ _ (jB λN hN=>?_)⟩;have bP:=qf (ns:=ns) (n:=n6) Bs.W (by decide:2<8) bv ps.length;rw[Q0u] at bP;have be:Rr key by_ (fs.gc ss) (iZ key by_ (iP ns key by_ (fs.gc ss) 2 ps n6).1):=Rr.of bP bD (by omega);have d9:=bP.lo;have eN:=bP.hi;clear bP;generalize iZ key by_ (iP ns key by_ (fs.gc ss) 2 ps n6).1=m1 at *;generalize (iP ns key by_ (fs.gc ss) 2 ps n6).2=n7 at *;obtain⟨bF,kt⟩:=cV bE kp bN bO bM d9;have bg:=bE.g.at_;replace B:=B.mono (kt.tu bg);replace Bs:=Bs.mono (kt.tu bg);replace aj:=kt.lst bp aj;replace hL:=kt.lst dG hL;replace VS:=VS.kt kt bg;have V1:RV b er Z1 cg m1 ci:=⟨dI,dJ,λc hc z=>by have:=dL c hc;rw[z,bg] at this;cases this⟩;clear kp bM bN bO dI dJ dL kt bE bg;refine⟨_,rfl,_,rfl,_,rfl,_,rfl,a,b,ns,n7,sh,t,_,key,by_,fs.gc ss,Dp,ps,2,rfl,bF.g,bF.vo,bF.so,bV,Bs.k,Bs.tu,Bs.fa,Bs.W,aj,bp,by omega,bv,bD,by decide,cC,by omega,λZ2 bQ bh bG kp bM bN bO dM dN dO=>hN _ _ (jB λN hN=>?_)⟩;have bR:=qf (ns:=ns) (n:=n7) Bs.W (by decide:2<8) bv ps.length;rw[Q0u] at bR;have bq:Rr key by_ (fs.gc ss) (iZ key by_ (iP ns key by_ (fs.gc ss) 2 ps n7).1):=Rr.of bR bD (by omega);have ea:=bR.lo;have eO:=bR.hi;clear bR;generalize iZ key by_ (iP ns key by_ (fs.gc ss) 2 ps n7).1=m2 at *;generalize (iP ns key by_ (fs.gc ss) 2 ps n7).2=n8 at *;obtain⟨c5,kt⟩:=cV bF kp bN bO bM ea;have aY:=bF.g.at_;replace B:=B.mono (kt.tu aY);replace Bs:=Bs.mono (kt.tu aY);replace aj:=kt.lst bp aj;replace hL:=kt.lst dG hL;replace VS:=VS.kt kt aY;replace V1:=V1.kt kt aY;have V2:RV b bG Z2 bQ m2 bh:=⟨dM,dN,λc hc z=>by have:=dO c hc;rw[z,aY] at this;cases this⟩;clear kp bM bN bO dM dN dO kt bF aY;refine⟨_,rfl,λx1 aK c6 cD et=>?_⟩;have t1:Same bG (upd (upd bG aK (.own x1)) x1 (.ins C aK [])):=λc o e=>by rw[fk (fJ e c6),fk (fJ e cD)];exact e
 have e1:=fA (H:=upd bG aK (.own x1)) (a:=x1) (o:=.ins C aK []);generalize upd (upd bG aK (.own x1)) x1 (.ins C aK [])=eW at t1 e1 ⊢;refine⟨x1,L,aK,ss,rfl,e1,fv.of (t1 _ _ hL),λnl bH eu dP dQ dR=>⟨rfl,λx2 ap c7 cE ev=>?_⟩⟩;have dS:Same bG bH:=λc o e=>dP c o (fJ e c6) (t1 _ _ e);have t2:Same bH (upd (upd bH ap (.own x2)) x2 (.ins CE ap [])):=λc o e=>by rw[fk (fJ e c7),fk (fJ e cE)];exact e
 have c8:=fA (H:=upd bH ap (.own x2)) (a:=x2) (o:=.ins CE ap []);generalize upd (upd bH ap (.own x2)) x2 (.ins CE ap [])=eX at t2 c8 ⊢;refine⟨x2,ap,x1,rfl,c8,λdU dV dW=>⟨rfl,hN _ _ (oW [some (.ref a),some (.ref b),some (.int m),some (.ref pk),some (.ref Dp),some (.ref S),some (.ref L),some (.ref Lf),some (.ref sh),some (.ref Z1),some (.ref Z2),some (.ref x2),none,none,none] rfl (jB λN hN=>?_))⟩⟩;have cj:Same bH dU:=λc o e=>dV c o (fJ e c7) (t2 _ _ e);have sA:=dS.trans cj;have bw:=c5.g.at_;have cm:=c5.same sA;replace B:=B.mono (Tu.of sA);replace hL:=sA _ _ hL;replace VS:=VS.kt (Kt.of sA) bw;replace V1:=V1.kt (Kt.of sA) bw;replace V2:=V2.kt (Kt.of sA) bw;have EV:Ea dU C CE Pf x2 ap x1 aK nl pk pb key by_ xs fs ss:=⟨dW,⟨cj _ _ dQ,cj _ _ dR,d8,dh⟩,B,bW,ai,cz,cm.sf⟩;clear t1 e1 dP dQ dR t2 c8 dV dW dS cj sA c6 cD et eu c7 cE ev c5 bw aj Bs;have eY:=Fs.vQ ss fs
 have bC:∀{l:List Ds},Rr key by_ (fs.gc ss) l->fU (.rows key by_ (fs.gc ss)) (.lst (gm l))/\(D.lst (gm l)).dep<=16/\(D.lst (gm l)).Sm/\l.length<64:=λ{l} r=>by
  refine⟨by unfold fU;exact⟨l,rfl,λm J=>(r.ok m J).1,r.MC,r.kn⟩,?_,?_,by have:=r.len;omega⟩
  . have:=rn (l:=l) (n:=13) λm J=>by have:=(r.ok m J).2.1;omega
    simp only[D.dep];omega
  . unfold D.Sm;exact⟨by rw[p9];have:=r.len;omega,sd λm J=>(r.ok m J).2.2⟩
 obtain⟨eb,ec,ew,l1⟩:=bC be;obtain⟨cF,cG,dX,cn⟩:=bC bq;refine⟨_,rfl,x2,ap,_,rfl,EV.b,rfl,_,rfl,_,rfl,_,rfl,x2,ap,x1,aK,nl,pk,pb,key,by_,xs,fs,ss,S,ws,ms,fl,Z2,bQ,m2,bh,rfl,EV,VS.at_,VS.r,by omega,λm J=>(aZ m J).1,bL,V2.at_,V2.r,by rw[(A3.len V2.r).1];exact cn,cF,cG,dX,by omega,λR2 eZ e0 e2 cH bX bY aM ao=>hN _ _ (oW [some (.ref a),some (.ref b),some (.int m),some (.ref pk),some (.ref Dp),some (.ref S),some (.ref L),some (.ref Lf),some (.ref sh),some (.ref Z1),some (.ref Z2),some (.ref x2),some (.ref R2),none,none] rfl (jB λN hN=>?_))⟩
 have bu:∀{H H':Hp} {n:Int},R3 K Pt Ps Pf a b ns n H->iU Pf H H'->fT Pf i4 i6 H'->R3 K Pt Ps Pf a b ns n H'/\Kn H H':=λ{H H' n} W kp hT=>by
  have ey:b≠Pf:=λz=>by obtain⟨ps,e⟩:=W.sf.tab;rw[<-z,W.g.at_] at e;cases e
  exact⟨W.gl cb [] [(Pf,i4,i6)] (by simp) (λc hc=>nomatch hc) (λc o _ z2 e=>kp c o (λz=>z2 (by rw[z];exact Q01)) e) (λq hq=>by rw[List.mem_singleton.mp hq];exact hT) (kp _ _ ey W.g.at_) (Q1g _),Kn.lO kp W.sf⟩
 obtain⟨c9,br⟩:=bu cm cH bX;have bi:=cm.g.at_;replace EV:=EV.kn br bX;replace B:=B.mono br.tu;replace hL:=br.lst hL;replace VS:=VS.kt br.kt bi;replace V1:=V1.kt br.kt bi;replace V2:=V2.kt br.kt bi;have eP:R2≠b:=λz=>by rw[z,bi] at bY;cases bY
 clear cH bX br cm bY bi
 have a2:∀{l src:List Ds},Rr key by_ (fs.gc ss) l->(∀m∈src,iD fs m)->(∀m∈l.map (gW fs key src),iD fs m)/\(D.lst (gm (l.map (gW fs key src)))).dep<=16/\(D.lst (gm (l.map (gW fs key src)))).Sm/\jR (.rows key by_ fs) (.lst (gm (l.map (gW fs key src)))):=λ{l src} r hs=>by
  have h0:∀m∈l.map (gW fs key src),iD fs m:=λm J=>by
   obtain⟨m',h1,rfl⟩:=List.mem_map.mp J;exact MA cP cQ cR hs (r.ok m' h1) ai cw
  refine⟨h0,?_,?_,_,rfl,λm J=>(h0 m J).1⟩
  . have:=rn (n:=13) λm J=>by have:=(h0 m J).2.1;omega
    simp only[D.dep];omega
  . unfold D.Sm;exact⟨by rw[p9,Q05];have:=r.len;omega,sd λm J=>(h0 m J).2.2⟩
 obtain⟨e3,d2,s2,f2⟩:=a2 bq aZ;have b4:∀{l:List Ds},Rr key by_ (fs.gc ss) l->l.map (oV fs key ms)=l.map (gW fs key ms):=λr=>Q10 λm J=>(Mw (r.ok m J).1 ai).symm
 have da:∀{H:Hp} {l l':List Ds} {A A':Addr} {vs db:List V} {f f':List (List Addr)} {Q:V->Hp->Prop} {E:XK},jf H pk pb key by_ xs fs->H A=some (.lst vs)->fZ H vs l f->H A'=some (.lst db)->fZ H db l' f'->jR (.rows key by_ fs) (.lst (gm l))->jR (.rows key by_ fs) (.lst (gm l'))->(D.lst (gm l)).dep<=16->(D.lst (gm l)).Sm->(∀r H',Same H H'->(r=true↔(gm l).gB=(gm l').gB)->Q (.bl r) H')->oR 16 [.ref pk,.ref A,.ref A'] H Q E:=λ{H l l' A A' vs db f f' Q E} B hA hr ez dc hf eA hd hs q=>by
  refine⟨.ref pk,.ref A,.ref A',.rows key by_ fs,_,_,_,_,rfl,by unfold KA;exact⟨pk,pb,xs,rfl,B.k,B.tu,B.fa⟩,hW,vK hA hr,vK ez dc,hf,eA,hd,hs,λr H' s hr=>q r H' s (hr.trans ?_)⟩;unfold D.nl;exact⟨λz=>by injection z,λz=>by rw[z]⟩
 refine⟨_,rfl,_,rfl,_,rfl,_,rfl,_,rfl,pk,pb,key,by_,xs,fs,ss,S,ws,ms,fl,Z2,bQ,m2,bh,rfl,B,VS.at_,VS.r,by omega,λm J=>(aZ m J).1,bL,ai,V2.at_,V2.r,by rw[(A3.len V2.r).1];exact cn,λm J=>(bq.ok m J).1,by omega,λRd rd gd e4 bS bT bt=>?_⟩;rw[b4 bq] at bt;refine vR ?_;refine da (B.mono (Tu.of bS)) (bS _ _ aM) (ao.kn (Kn.of bS)) bT bt f2 f2 d2 s2 λr e5 dY hr=>?_;rw[hr.mpr rfl];refine⟨true,rfl,gR (hN _ _ (jB λN hN=>?_))⟩;have sB:=bS.trans dY;have kB:=Kn.of sB;have bx:=c9.g.at_;have de:=c9.same sB;replace EV:=EV.same sB;replace B:=B.mono (Tu.of sB);replace hL:=sB _ _ hL;replace VS:=VS.kt kB.kt bx;replace V1:=V1.kt kB.kt bx;replace V2:=V2.kt kB.kt bx;replace aM:=sB _ _ aM;replace ao:=ao.kn kB;clear bS dY hr r bT bt Rd rd gd sB kB bx c9;refine⟨_,rfl,x2,ap,_,rfl,EV.b,rfl,_,rfl,_,rfl,_,rfl,x2,ap,x1,aK,nl,pk,pb,key,by_,xs,fs,ss,S,ws,ms,fl,Z1,cg,m1,ci,rfl,EV,VS.at_,VS.r,by omega,λm J=>(aZ m J).1,bL,V1.at_,V1.r,by rw[(A3.len V1.r).1];exact l1,eb,ec,ew,by omega,λR1 dZ eB e6 cI bZ ed gy bj=>hN _ _ (oW [some (.ref a),some (.ref b),some (.int m),some (.ref pk),some (.ref Dp),some (.ref S),some (.ref L),some (.ref Lf),some (.ref sh),some (.ref Z1),some (.ref Z2),some (.ref x2),some (.ref R2),some (.ref R1),none] rfl (jB λN hN=>?_))⟩;obtain⟨df,a1⟩:=bu de cI bZ;have bz:=de.g.at_;replace EV:=EV.kn a1 bZ;replace B:=B.mono a1.tu;replace hL:=a1.lst hL;replace VS:=VS.kt a1.kt bz;replace V1:=V1.kt a1.kt bz;replace V2:=V2.kt a1.kt bz;replace aM:=a1.lst aM;replace ao:=ao.kn a1;clear cI bZ a1 de ed bz;obtain⟨d0,d1,s1,f1⟩:=a2 be aZ;refine⟨_,rfl,_,rfl,_,rfl,_,rfl,_,rfl,pk,pb,key,by_,xs,fs,ss,S,ws,ms,fl,Z1,cg,m1,ci,rfl,B,VS.at_,VS.r,by omega,λm J=>(aZ m J).1,bL,ai,V1.at_,V1.r,by rw[(A3.len V1.r).1];exact l1,λm J=>(be.ok m J).1,by omega,λRd rd gd e7 bU bT bt=>?_⟩;rw[b4 be] at bt;refine vR ?_;refine da (B.mono (Tu.of bU)) (bU _ _ gy) (bj.kn (Kn.of bU)) bT bt f1 f1 d1 s1 λr fb d4 hr=>?_;rw[hr.mpr rfl];refine⟨true,rfl,gR (hN _ _ (jB λN hN=>?_))⟩;have sB:=bU.trans d4;have kB:=Kn.of sB;have bA:=df.g.at_;have dg:=df.same sB;replace EV:=EV.same sB;replace B:=B.mono (Tu.of sB);replace hL:=sB _ _ hL;replace VS:=VS.kt kB.kt bA;replace V1:=V1.kt kB.kt bA;replace V2:=V2.kt kB.kt bA;replace aM:=sB _ _ aM;replace ao:=ao.kn kB;replace gy:=sB _ _ gy;replace bj:=bj.kn kB;clear bU d4 hr r bT bt Rd rd gd sB kB bA df
 have ee:((m1.map (gW fs key ms)).map λm=>keyOf m key).Nodup:=by
  have e:(m1.map (gW fs key ms)).map (λm=>keyOf m key)=m1.map λm=>keyOf m key:=by
   rw[Q26];exact Q10 λm J=>vP (be.ok m J).1 ai (bW _ ai)
  rw[e];exact be.kn
 have eC:dZ.length<64:=by rw[(A3.len bj).1,Q05];exact l1
 refine⟨_,rfl,x2,ap,_,rfl,EV.b,rfl,_,rfl,_,rfl,_,rfl,x2,ap,x1,aK,nl,pk,pb,key,by_,xs,fs,ss,R1,dZ,_,eB,Z2,bQ,m2,bh,rfl,EV,gy,bj,eC,λm J=>(d0 m J).1,ee,V2.at_,V2.r,by rw[(A3.len V2.r).1];exact cn,cF,cG,dX,by omega,λR3 fc fe ff cJ cK eg eD eh=>hN _ _ (oW [some (.ref a),some (.ref b),some (.int m),some (.ref pk),some (.ref Dp),some (.ref S),some (.ref L),some (.ref Lf),some (.ref sh),some (.ref Z1),some (.ref Z2),some (.ref x2),some (.ref R2),some (.ref R1),some (.ref R3)] rfl ?_)⟩;obtain⟨d5,bf⟩:=bu dg cJ cK;have bB:=dg.g.at_;replace B:=B.mono bf.tu;replace hL:=bf.lst hL;replace VS:=VS.kt bf.kt bB;replace V1:=V1.kt bf.kt bB;replace V2:=V2.kt bf.kt bB;replace aM:=bf.lst aM;replace ao:=ao.kn bf;clear cJ cK bf dg eg bB EV;obtain⟨fg,d3,s3,f3⟩:=a2 bq d0;refine⟨_,rfl,_,rfl,_,rfl,vR ?_⟩;refine(da B eD eh aM ao f3 f2 d3 s3 λr fh bI hr=>?_);have b1:=d5.g.at_;have eE:=d5.same bI;replace B:=B.mono (Tu.of bI);replace hL:=bI _ _ hL;replace VS:=VS.kt (Kt.of bI) b1;replace V1:=V1.kt (Kt.of bI) b1;replace V2:=V2.kt (Kt.of bI) b1;refine⟨_,rfl,_,rfl,_,rfl,_,rfl,_,rfl,pk,pb,key,by_,xs,fs,ss,L,S,ws,ms,fl,Z1,cg,m1,ci,Z2,bQ,m2,bh,rfl,B,hL,ai,VS.at_,VS.r,by omega,λm J=>(aZ m J).1,λm J=>by have:=(aZ m J).2.1;omega,V1.at_,V1.r,by rw[(A3.len V1.r).1];exact l1,λm J=>(be.ok m J).1,V2.at_,V2.r,by rw[(A3.len V2.r).1];exact cn,λm J=>(bq.ok m J).1,by omega,λr' fi eF dc=>?_⟩;have eG:r=r':=Bool.eq_iff_iff.mpr (hr.trans ((My cP (λm J=>(aZ m J).1) bL (λm J=>(be.ok m J).1) (λm J=>(bq.ok m J).1) ai (bW _ ai)).trans dc.symm));subst eG
 refine⟨rfl,?_⟩;rw[decide_eq_true rfl];exact q _ _ (eE.same eF) (by omega)
end
theorem jQ.vy {K:W.Frag}{H H':Hp}{a:Addr}{ns:List Int}(h:jQ K H a ns)(s:Same H H'):jQ K H' a ns:=by
 rcases h with⟨o,h⟩|h
 . exact .inl ⟨o,s _ _ h⟩
 . exact .inr h
def vS (K:W.Frag) (Pt Ps Pf:Addr):Sp:=λvs H Q _=>∃(a:Addr) (ns:List Int),vs=[.ref a]/\jQ K H a ns/\ns.length<=63/\(∀q∈T3 Pt Ps Pf,fT q.1 q.2.1 q.2.2 H)/\∀H',Q (.bl true) H'
section
variable {P:Program}{w:World}{K:W.Frag}{mg:Str->Option Value}{base:Heap}
variable {Pt Ps Pf:Addr}
theorem MF:gi ["_law_script","_law_at","_law_k"] ["_law_script"] (fM (top 57)):=gw
theorem MG (T:Tb mg)(aa:Dn K mg "law" ["_law_script"] (top 57) ab ac)(J:Dn K mg "_law_round" gn (top 56) L U)(Y:fm P w K mg base fw (131) L U gn (Fh K Pt Ps Pf)):fm P w K mg base fw (132) ab ac ["_law_script"] (vS K Pt Ps Pf):=by
 refine aa.F.ok MF λvs H Q E h=>?_;obtain⟨a,ns,rfl,hS,af,h1,q⟩:=h;refine⟨rfl,λah A outer s nd hr hu=>?_⟩
 refine⟨_,(e_ (fN 1 nd (iw (a_ b_ c_)))
  (e_ (iz PassesOwn.never rfl (mU rfl T.mi (a_ (fH js b_ (fH iF (gL jj (by rfl) T.iM PySem.boot_len (a_ (pj ue (pv 0) pf (ph b_)) c_)) b_)) c_)) (gu (i:=2) nd rfl gQ) (fx (f7 (i7 (iR (fL Y hr J (a_ (pv 0) (a_ (pv 1) c_))))) (fx (fE jb)) f9)))
  (fx (fE jb)))),?_⟩
 ac_rfl
 refine⟨mj,λb hb=>?_⟩;have s0:Same H (upd H b (.lst [.int 0])):=Same.new hb;have W0:R3 K Pt Ps Pf a b ns 0 (upd H b (.lst [.int 0])):=⟨⟨jQ.vy hS s0,af,fA,by decide⟩,λq hq=>(h1 q hq).same s0⟩;refine⟨_,rfl,_,rfl,a,_,rfl,W0.g.kx.sq,λp hp=>?_⟩;have ae:=A_ (ns.map V.int) none (some 60);rw[Q05] at ae;refine⟨p,_,rfl,.inl (fv.of fA),_,_,rfl,rfl,⟨by decide,by decide⟩,_,_,rfl,rfl,_,rfl,?_,?_,?_⟩
 . omega
 . omega
 have W1:=W0.same (Same.new hp (o:=.lst (kP (ns.map V.int) none (some 60))));generalize hc:(1+((kP (ns.map V.int) none (some 60)).length:Int) / 40).toNat=cnt;have ag:cnt<=3:=by omega
 refine l5 (n:=cnt) (λi σ H'=>∃(x:Option V) (n:Int),σ=[some (.ref a),some (.ref b),x]/\R3 K Pt Ps Pf a b ns n H'/\n<=10000000 * i) ?_ ?_ ?_
 . exact⟨_,0,rfl,W1,by omega⟩
 . rintro i σ H' hi ⟨x,n,rfl,W,hn⟩;exact⟨_,rfl,_,rfl,a,b,ns,n,rfl,W,by omega,λn' H2 W2 ai=>⟨true,rfl,gR ⟨_,n',rfl,W2,by omega⟩⟩⟩
 . rintro σ H' ⟨x,n,rfl,_⟩;exact q _
end
end Pb
namespace Pb
open L2
abbrev Fi (K:W.Frag) (x Y:Str) (st:Stmt) (f:Addr):Prop:=∃(oc:Value) (od:Option Addr) (kV L pm:Value) (an:Option Addr) (J ct:Value) (U:Array (Option Value)),K.lookup f=some ⟨oc,od,.func (W.fnOf x Y (i_ st) (iJ st) (fM st) .none kV L pm an J ct),U⟩/\W.codeIn K J Y=true/\W.keepIn K (.ref f)=true
abbrev gJ (K:W.Frag) (x:Str) (st:Stmt):Prop:=∃f,W.nsIn K mainGlobals x=some (some (.ref f))/\Fi K x x st f
abbrev HB (x U:Str) (ps:List Str) (st:Stmt):Prop:=∀(kV J Y:Value) (an:Option Addr) (L ct:Value) (us:List Value),us.length=ps.length->bindArgs (W.fnOf x U (i_ st) (iJ st) (fM st) .none kV J Y an L ct) ⟨us,[]⟩=pure (ps.zip us)
theorem gM {K:W.Frag}{mg:Str->Option Value}{h:Heap}{x:Str}{ps:List Str}{st:Stmt}(X:K.In h)(G:h.Ns mainGlobals mg)(a:gJ K x st)(U:HB x x ps st):∃f d,Dn K mg x ps st f d/\∀us:List Value,us.length=ps.length->bindArgs d ⟨us,[]⟩=pure (ps.zip us):=by
 obtain⟨f,a,oc,od,kV,J,Y,an,L,ct,aa,l,c,k⟩:=a;have F:=qW (st:=st) l c k;exact⟨f,_,⟨F,F.binds U,W.mg_of X G a⟩,U kV J Y an L ct⟩
abbrev h8 (K:W.Frag) (C ns:Addr) (x J:Str) (st:Stmt) (f:Addr):Prop:=W.nsIn K ns x=some (some (.ref f))/\Fi K x J st f/\W.isFn K (.ref f)=true/\W.findIn K (.ref C) x=some (some (.ref f))
theorem j0 {K:W.Frag}{C ns:Addr}{x J:Str}{ps:List Str}{st:Stmt}{f:Addr}(a:h8 K C ns x J st f)(hb:HB x J ps st):∃d,Dm K x J ps st f d:=by
 obtain⟨_,⟨oc,od,kV,L,pm,an,U,ct,Y,l,c,k⟩,_,_⟩:=a;have F:kW K x J st f _:=⟨⟨oc,od,kV,L,pm,an,U,ct,Y,rfl,l,c⟩,k⟩;exact⟨_,F,F.binds hb⟩
theorem MH {K:W.Frag}{x:Str}{st:Stmt}{f:Addr}{Y:Value}{od an:Option Addr}{kV L pm J ct:Value}{U:Array (Option Value)}(a:W.nsIn K mainGlobals x=some (some (.ref f)))(l:K.lookup f=some ⟨Y,od,.func (W.fnOf x x (i_ st) (iJ st) (fM st) .none kV L pm an J ct),U⟩)(c:W.codeIn K J x=true)(k:W.keepIn K (.ref f)=true):gJ K x st:=⟨f,a,Y,od,kV,L,pm,an,J,ct,U,l,c,k⟩
theorem MJ {K:W.Frag}{C ns:Addr}{x Y:Str}{st:Stmt}{f:Addr}{oc:Value}{od an:Option Addr}{kV L pm J ct:Value}{U:Array (Option Value)}(a:W.nsIn K ns x=some (some (.ref f)))(l:K.lookup f=some ⟨oc,od,.func (W.fnOf x Y (i_ st) (iJ st) (fM st) .none kV L pm an J ct),U⟩)(c:W.codeIn K J Y=true)(k:W.keepIn K (.ref f)=true)(h:W.isFn K (.ref f)=true)(g:W.findIn K (.ref C) x=some (some (.ref f))):h8 K C ns x Y st f:=⟨a,⟨oc,od,kV,L,pm,an,J,ct,U,l,c,k⟩,h,g⟩
theorem h8.meth {K:W.Frag}{C ns:Addr}{x J:Str}{st:Stmt}{f:Addr}(a:h8 K C ns x J st f):Meth K C x f:=by
 obtain⟨_,⟨_,_,_,_,_,_,_,_,_,_,_,k⟩,h1,h2⟩:=a;exact⟨h2,h1,k⟩
abbrev Fj (K:W.Frag) (C:Addr):Prop:=W.plainGet K C Str.empty=true/\W.hasDictIn K C=true/\W.plainOver K C=true/\W.findIn K (.ref C) "__setattr__"=some (some (.builtin "object.__setattr__"))/\W.makesIn K C=true/\W.keepIn K (.ref C)=true
theorem len1 {α:Type}{l:List α}(h:l.length=1):∃a,l=[a]:=match l,h with|[a],_=>⟨a,rfl⟩
theorem len2 {α:Type}{l:List α}(h:l.length=2):∃a b,l=[a,b]:=match l,h with|[a,b],_=>⟨a,b,rfl⟩
theorem mD {α:Type}{l:List α}(h:l.length=3):∃a b c,l=[a,b,c]:=match l,h with|[a,b,c],_=>⟨a,b,c,rfl⟩
theorem mE {α:Type}{l:List α}(h:l.length=4):∃a b c d,l=[a,b,c,d]:=match l,h with|[a,b,c,d],_=>⟨a,b,c,d,rfl⟩
theorem vT {α:Type}{l:List α}(h:l.length=5):∃a b c d e,l=[a,b,c,d,e]:=match l,h with|[a,b,c,d,e],_=>⟨a,b,c,d,e,rfl⟩
theorem all_mk {l:W.OpenLaw}{w:World}{K:W.Frag}{h:Heap}{mg:Str->Option Value}{fa:Addr}(X:K.In h)(G:h.Ns mainGlobals mg)(cp:mg "law"=some (.ref fa))
 (vU:gJ K "_wall" (top 0))
 (vV:gJ K "kind_at" (top 7))
 (vW:gJ K "record_of" (top 9))
 (vX:gJ K "misfit" (top 11))
 (vY:gJ K "record_misfit" (top 12))
 (vZ:gJ K "has_just" (top 13))
 (v3:gJ K "rows_misfit" (top 14))
 (v7:gJ K "is_pair" (top 15))
 (v8:gJ K "tree_misfit" (top 16))
 (v_:gJ K "either_misfit" (top 17))
 (wc:gJ K "empty" (top 18))
 (wd:gJ K "empty_record" (top 19))
 (we:gJ K "rank" (top 20))
 (wg:gJ K "by_key" (top 21))
 (wj:gJ K "ask_fit" (top 23))
 (wm:gJ K "ask_stands" (top 24))
 (wo:gJ K "behind_inner" (top 25))
 (wq:gJ K "put_inner" (top 26))
 (wu:gJ K "has_each_once" (top 29))
 (wx:gJ K "fields_among" (top 30))
 (wy:gJ K "with_field" (top 31))
 (wz:gJ K "_law_next" (top 36))
 (wA:gJ K "_law_number" (top 37))
 (wB:gJ K "_law_word" (top 38))
 (wC:gJ K "_law_names" (top 39))
 (wD:gJ K "_law_plain" (top 40))
 (wF:gJ K "_law_fields" (top 41))
 (wG:gJ K "_law_rows_kind" (top 42))
 (wH:gJ K "_law_kind" (top 43))
 (wI:gJ K "_law_rank" (top 44))
 (wJ:gJ K "_law_value" (top 46))
 (wK:gJ K "_law_alike" (top 47))
 (wM:gJ K "_law_pool" (top 48))
 (wN:gJ K "_law_kept" (top 50))
 (wO:gJ K "_law_blank" (top 51))
 (wQ:gJ K "_law_emptied" (top 52))
 (wR:gJ K "_law_agree" (top 53))
 (wU:gJ K "_law_due" (top 54))
 (wV:gJ K "_law_names_taken" (top 55))
 (wW:gJ K "_law_round" (top 56))
 (wX:gJ K "law" (top 57))
 {fR:Addr} {cq:Value} {cr bT:Option Addr} {bU bV bW bP bX:Value} {cu:Array (Option Value)} (aR:W.nsIn K mainGlobals "_law_rows"=some (some (.ref fR))) (lR:K.lookup fR=some ⟨cq,cr,.func (W.fnOf "_law_rows" "_law_rows" (i_ (top 45)) (iJ (top 45)) (fM (top 45)) .none bU bV bW bT bP bX),cu⟩) (wY:W.codeIn K bP "_law_rows"=true) (kR:W.keepIn K (.ref fR)=true)
 {fS:Addr} {cw:Value} {cx bY:Option Addr} {bZ b1 b2 bQ b3:Value} {cy:Array (Option Value)} (aS:W.nsIn K mainGlobals "_law_some"=some (some (.ref fS))) (lS:K.lookup fS=some ⟨cw,cx,.func (W.fnOf "_law_some" "_law_some" (i_ (top 49)) (iJ (top 49)) (fM (top 49)) .none bZ b1 b2 bY bQ b3),cy⟩) (wZ:W.codeIn K bQ "_law_some"=true) (kS:W.keepIn K (.ref fS)=true)
 {fF:Addr} {cz:Value} {cA b4:Option Addr} {b5 b6 b7 bR b8:Value} {cC:Array (Option Value)} (aF:W.nsIn K mainGlobals "sorted_fields"=some (some (.ref fF))) (lF:K.lookup fF=some ⟨cz,cA,.func (W.fnOf "sorted_fields" "sorted_fields" (i_ (top 8)) (iJ (top 8)) (fM (top 8)) .none b5 b6 b7 b4 bR b8),cC⟩) (w5:W.codeIn K bR "sorted_fields"=true) (kF:W.keepIn K (.ref fF)=true)
 (zz:∀x∈(["len","isinstance","sorted","all","range","enumerate","zip","int","bool","str","list","tuple","dict","set"]:List Str),W.nsIn K mainGlobals x=some none)
 {U ak:Addr} {bA:Value} {bB:Option Addr} {bC:Array (Option Value)} {bi:ClassData}
 (w6:W.nsIn K mainGlobals "Take"=some (some (.ref U))) (Fk:K.lookup U=some ⟨bA,bB,.cls bi,bC⟩) (Fl:bi.ns=ak)
 {L ac:Addr} {bD:Value} {bE:Option Addr} {bF:Array (Option Value)} {bj:ClassData}
 (w_:W.nsIn K mainGlobals "Each"=some (some (.ref L))) (Fm:K.lookup L=some ⟨bD,bE,.cls bj,bF⟩) (Fn:bj.ns=ac)
 {aj bt:Addr} {bu:Value} {bv:Option Addr} {bw:Array (Option Value)} {a9:ClassData}
 (xc:W.nsIn K mainGlobals "NoView"=some (some (.ref aj))) (Fo:K.lookup aj=some ⟨bu,bv,.cls a9,bw⟩) (Fp:a9.ns=bt)
 {aa bn:Addr} {bo:Value} {bp:Option Addr} {bq:Array (Option Value)} {a3:ClassData}
 (xf:W.nsIn K mainGlobals "CantPut"=some (some (.ref aa))) (Fq:K.lookup aa=some ⟨bo,bp,.cls a3,bq⟩) (Ft:a3.ns=bn)
 {ar:Addr} (sX:h8 K U ak "__init__" "Take.__init__" (fX 32 0) ar)
 {aD:Addr} (sY:h8 K U ak "behind" "Take.behind" (fX 32 1) aD)
 {a4:Addr} (sZ:h8 K U ak "see" "Take.see" (fX 32 2) a4)
 {a5:Addr} (s_:h8 K U ak "put" "Take.put" (fX 32 3) a5)
 {aH:Addr} (tf:h8 K U ak "grade" "Take.grade" (fX 32 4) aH)
 {aI:Addr} (ti:h8 K U ak "keeps" "Take.keeps" (fX 32 5) aI)
 {au:Addr} (tm:h8 K L ac "__init__" "Each.__init__" (fX 34 0) au)
 {aE:Addr} (tq:h8 K L ac "behind" "Each.behind" (fX 34 1) aE)
 {ah:Addr} (tw:h8 K L ac "keeps_order" "Each.keeps_order" (fX 34 2) ah)
 {a6:Addr} (tz:h8 K L ac "see" "Each.see" (fX 34 3) a6)
 {a7:Addr} (tD:h8 K L ac "put" "Each.put" (fX 34 4) a7)
 {aJ:Addr} (tE:h8 K L ac "grade" "Each.grade" (fX 34 5) aJ)
 {aK:Addr} (tF:h8 K L ac "keeps" "Each.keeps" (fX 34 6) aK)
 (xg:W.findIn K (.ref U) "names"=some none)
 (xh:W.findIn K (.ref L) "inner"=some none)
 (xi:W.typeIn K (.ref aa)=some (.type "type"))
 (xj:(W.clsIn K aa).isSome=true)
 (xl:W.subIn K (.ref aa) (.type "BaseException")=some true)
 (xm:W.typeIn K (.ref aj)=some (.type "type"))
 (xn:(W.clsIn K aj).isSome=true)
 (xo:W.subIn K (.ref aj) (.type "BaseException")=some true)
 (xp:Fj K U) (xq:Fj K L)
 {cR PR:Addr} {b9:Value} {ca:Option Addr} {bM:Array Value} {cb:Array (Option Value)} (xr:bP=.ref cR) (Fu:K.lookup cR=some ⟨b9,ca,.fields bM,cb⟩) (Fv:bM[11]? =some (.ref PR)) (xt:W.codeHdIn K cR PR=true)
 {cS PS:Addr} {cc:Value} {cd:Option Addr} {bN:Array Value} {ce:Array (Option Value)} (xu:bQ=.ref cS) (Fw:K.lookup cS=some ⟨cc,cd,.fields bN,ce⟩) (Fx:bN[11]? =some (.ref PS)) (xv:W.codeHdIn K cS PS=true)
 {cF PF:Addr} {cf:Value} {cg:Option Addr} {bO:Array Value} {ci:Array (Option Value)} (xw:bR=.ref cF) (Fy:K.lookup cF=some ⟨cf,cg,.fields bO,ci⟩) (Fz:bO[11]? =some (.ref PF)) (xx:W.codeHdIn K cF PF=true)
 (xy:((T3 PR PS PF).map (·.1)).Nodup)
 :∃fd:FuncData,(∀(s:Shared) (v:Value),BindsTo s fd ⟨[v],[]⟩ [("_law_script",v)])/\∀base:Heap,K.In base->base.Ns mainGlobals mg->BM mg base->fm l.prog w K mg base fw 132 fa fd ["_law_script"] (vS K PR PS PF):=by
 have zz:=λx hx=>W.mg_none_of X G (zz x hx);have T:Tb mg:=⟨zz _ (by simp),zz _ (by simp),zz _ (by simp),zz _ (by simp),zz _ (by simp),zz _ (by simp),zz _ (by simp),zz _ (by simp),zz _ (by simp),zz _ (by simp),zz _ (by simp),zz _ (by simp),zz _ (by simp),zz _ (by simp)⟩;obtain⟨_,_,co,_⟩:=gM (ps:=["k"]) X G vU (λ_ _ _ _ _ _ _ h=>by obtain⟨_,rfl⟩:=len1 h;rfl);obtain⟨_,_,aP,_⟩:=gM (ps:=["fields","name"]) X G vV (λ_ _ _ _ _ _ _ h=>by obtain⟨_,_,rfl⟩:=len2 h;rfl);obtain⟨_,_,aT,_⟩:=gM (ps:=["pairs"]) X G vW (λ_ _ _ _ _ _ _ h=>by obtain⟨_,rfl⟩:=len1 h;rfl);obtain⟨_,_,be,_⟩:=gM (ps:=["kind","value"]) X G vX (λ_ _ _ _ _ _ _ h=>by obtain⟨_,_,rfl⟩:=len2 h;rfl);obtain⟨_,_,a1,_⟩:=gM (ps:=XR) X G vY (λ_ _ _ _ _ _ _ h=>by obtain⟨_,_,rfl⟩:=len2 h;rfl);obtain⟨_,_,br,_⟩:=gM (ps:=XR) X G vZ (λ_ _ _ _ _ _ _ h=>by obtain⟨_,_,rfl⟩:=len2 h;rfl);obtain⟨_,_,ba,_⟩:=gM (ps:=Xg) X G v3 (λ_ _ _ _ _ _ _ h=>by obtain⟨_,_,rfl⟩:=len2 h;rfl);obtain⟨_,_,bx,_⟩:=gM (ps:=["value"]) X G v7 (λ_ _ _ _ _ _ _ h=>by obtain⟨_,rfl⟩:=len1 h;rfl);obtain⟨_,_,bb,_⟩:=gM (ps:=["kind","tree"]) X G v8 (λ_ _ _ _ _ _ _ h=>by obtain⟨_,_,rfl⟩:=len2 h;rfl);obtain⟨_,_,a2,_⟩:=gM (ps:=["fields","value"]) X G v_ (λ_ _ _ _ _ _ _ h=>by obtain⟨_,_,rfl⟩:=len2 h;rfl);obtain⟨_,_,bm,_⟩:=gM (ps:=["kind"]) X G wc (λ_ _ _ _ _ _ _ h=>by obtain⟨_,rfl⟩:=len1 h;rfl);obtain⟨_,_,af,_⟩:=gM (ps:=["fields"]) X G wd (λ_ _ _ _ _ _ _ h=>by obtain⟨_,rfl⟩:=len1 h;rfl);obtain⟨_,_,bJ,_⟩:=gM (ps:=["kind","row"]) X G we (λ_ _ _ _ _ _ _ h=>by obtain⟨_,_,rfl⟩:=len2 h;rfl);obtain⟨_,_,bf,_⟩:=gM (ps:=Xg) X G wg (λ_ _ _ _ _ _ _ h=>by obtain⟨_,_,rfl⟩:=len2 h;rfl);obtain⟨_,_,aQ,_⟩:=gM (ps:=["kind","seen"]) X G wj (λ_ _ _ _ _ _ _ h=>by obtain⟨_,_,rfl⟩:=len2 h;rfl);obtain⟨_,_,an,_⟩:=gM (ps:=["stands"]) X G wm (λ_ _ _ _ _ _ _ h=>by obtain⟨_,rfl⟩:=len1 h;rfl);obtain⟨_,_,az,_⟩:=gM (ps:=Xl) X G wo (λ_ _ _ _ _ _ _ h=>by obtain⟨_,_,_,rfl⟩:=mD h;rfl);obtain⟨_,_,aU,_⟩:=gM (ps:=XZ) X G wq (λ_ _ _ _ _ _ _ h=>by obtain⟨_,_,_,_,_,rfl⟩:=vT h;rfl);obtain⟨_,_,av,_⟩:=gM (ps:=Xf) X G wu (λ_ _ _ _ _ _ _ h=>by obtain⟨_,_,rfl⟩:=len2 h;rfl);obtain⟨_,_,aA,_⟩:=gM (ps:=Xc) X G wx (λ_ _ _ _ _ _ _ h=>by obtain⟨_,_,rfl⟩:=len2 h;rfl);obtain⟨_,_,aL,_⟩:=gM (ps:=Xj) X G wy (λ_ _ _ _ _ _ _ h=>by obtain⟨_,_,_,rfl⟩:=mD h;rfl);obtain⟨_,_,J,_⟩:=gM (ps:=XB) X G wz (λ_ _ _ _ _ _ _ h=>by obtain⟨_,_,rfl⟩:=len2 h;rfl);obtain⟨_,_,bc,_⟩:=gM (ps:=XB) X G wA (λ_ _ _ _ _ _ _ h=>by obtain⟨_,_,rfl⟩:=len2 h;rfl);obtain⟨_,_,bg,_⟩:=gM (ps:=XB) X G wB (λ_ _ _ _ _ _ _ h=>by obtain⟨_,_,rfl⟩:=len2 h;rfl);obtain⟨_,_,ao,_⟩:=gM (ps:=Xb) X G wC (λ_ _ _ _ _ _ _ h=>by obtain⟨_,_,_,rfl⟩:=mD h;rfl);obtain⟨_,_,ap,_⟩:=gM (ps:=XB) X G wD (λ_ _ _ _ _ _ _ h=>by obtain⟨_,_,rfl⟩:=len2 h;rfl);obtain⟨_,_,bd,_⟩:=gM (ps:=XG) X G wF (λ_ _ _ _ _ _ _ h=>by obtain⟨_,_,_,_,rfl⟩:=mE h;rfl);obtain⟨_,_,Y,_⟩:=gM (ps:=XG) X G wG (λ_ _ _ _ _ _ _ h=>by obtain⟨_,_,_,_,rfl⟩:=mE h;rfl);obtain⟨_,_,aV,_⟩:=gM (ps:=Xa) X G wH (λ_ _ _ _ _ _ _ h=>by obtain⟨_,_,_,rfl⟩:=mD h;rfl);obtain⟨_,_,ax,_⟩:=gM (ps:=XY) X G wI (λ_ _ _ _ _ _ _ h=>by obtain⟨_,_,rfl⟩:=len2 h;rfl);obtain⟨_,_,aq,_⟩:=gM (ps:=XH) X G wJ (λ_ _ _ _ _ _ _ h=>by obtain⟨_,_,_,_,rfl⟩:=mE h;rfl);obtain⟨_,_,aM,_⟩:=gM (ps:=XW) X G wK (λ_ _ _ _ _ _ _ h=>by obtain⟨_,_,_,rfl⟩:=mD h;rfl);obtain⟨_,_,aW,_⟩:=gM (ps:=XT) X G wM (λ_ _ _ _ _ _ _ h=>by obtain⟨_,_,_,_,rfl⟩:=mE h;rfl);obtain⟨_,_,ay,_⟩:=gM (ps:=["_law_kind_here"]) X G wN (λ_ _ _ _ _ _ _ h=>by obtain⟨_,rfl⟩:=len1 h;rfl);obtain⟨_,_,ab,_⟩:=gM (ps:=["_law_kind_here"]) X G wO (λ_ _ _ _ _ _ _ h=>by obtain⟨_,rfl⟩:=len1 h;rfl);obtain⟨_,_,aB,_⟩:=gM (ps:=XQ) X G wQ (λ_ _ _ _ _ _ _ h=>by obtain⟨_,_,_,_,rfl⟩:=mE h;rfl);obtain⟨_,_,aN,_⟩:=gM (ps:=XI) X G wR (λ_ _ _ _ _ _ _ h=>by obtain⟨_,_,_,_,_,rfl⟩:=vT h;rfl);obtain⟨_,_,a8,_⟩:=gM (ps:=XX) X G wU (λ_ _ _ _ _ _ _ h=>by obtain⟨_,_,_,rfl⟩:=mD h;rfl);obtain⟨_,_,ai,_⟩:=gM (ps:=Xi) X G wV (λ_ _ _ _ _ _ _ h=>by obtain⟨_,_,rfl⟩:=len2 h;rfl);obtain⟨_,_,aO,_⟩:=gM (ps:=XB) X G wW (λ_ _ _ _ _ _ _ h=>by obtain⟨_,_,rfl⟩:=len2 h;rfl);obtain⟨_,_,bz,hB⟩:=gM (ps:=["_law_script"]) X G wX (λ_ _ _ _ _ _ _ h=>by obtain⟨_,rfl⟩:=len1 h;rfl);subst xr
 have bh:Dn K mg "_law_rows" i3 (top 45) fR (W.fnOf "_law_rows" "_law_rows" (i_ (top 45)) (iJ (top 45)) (fM (top 45)) .none bU bV bW bT (.ref cR) bX):=by
  have F:=qW (st:=(top 45)) lR wY kR;exact⟨F,F.binds (λ_ _ _ _ _ _ _ h=>by obtain⟨_,_,_,_,rfl⟩:=mE h;rfl),W.mg_of X G aR⟩
 subst xu
 have aX:Dn K mg "_law_some" pX (top 49) fS (W.fnOf "_law_some" "_law_some" (i_ (top 49)) (iJ (top 49)) (fM (top 49)) .none bZ b1 b2 bY (.ref cS) b3):=by
  have F:=qW (st:=(top 49)) lS wZ kS;exact⟨F,F.binds (λ_ _ _ _ _ _ _ h=>by obtain⟨_,_,_,_,_,rfl⟩:=vT h;rfl),W.mg_of X G aS⟩
 subst xw
 have aw:Dn K mg "sorted_fields" lL (top 8) fF (W.fnOf "sorted_fields" "sorted_fields" (i_ (top 8)) (iJ (top 8)) (fM (top 8)) .none b5 b6 b7 b4 (.ref cF) b8):=by
  have F:=qW (st:=(top 8)) lF w5 kF;exact⟨F,F.binds (λ_ _ _ _ _ _ _ h=>by obtain⟨_,rfl⟩:=len1 h;rfl),W.mg_of X G aF⟩
 obtain⟨_,al⟩:=j0 (ps:=Xk) sX (λ_ _ _ _ _ _ _ h=>by obtain⟨_,_,rfl⟩:=len2 h;rfl);obtain⟨_,ag⟩:=j0 (ps:=XM) sY (λ_ _ _ _ _ _ _ h=>by obtain⟨_,_,rfl⟩:=len2 h;rfl);obtain⟨_,bK⟩:=j0 (ps:=["self","kind","source"]) sZ (λ_ _ _ _ _ _ _ h=>by obtain⟨_,_,_,rfl⟩:=mD h;rfl);obtain⟨_,aY⟩:=j0 (ps:=XJ) s_ (λ_ _ _ _ _ _ _ h=>by obtain⟨_,_,_,_,rfl⟩:=mE h;rfl);obtain⟨_,bG⟩:=j0 (ps:=["self"]) tf (λ_ _ _ _ _ _ _ h=>by obtain⟨_,rfl⟩:=len1 h;rfl);obtain⟨_,aG⟩:=j0 (ps:=Xh) ti (λ_ _ _ _ _ _ _ h=>by obtain⟨_,_,rfl⟩:=len2 h;rfl);obtain⟨_,am⟩:=j0 (ps:=Xm) tm (λ_ _ _ _ _ _ _ h=>by obtain⟨_,_,rfl⟩:=len2 h;rfl);obtain⟨_,aC⟩:=j0 (ps:=XM) tq (λ_ _ _ _ _ _ _ h=>by obtain⟨_,_,rfl⟩:=len2 h;rfl);obtain⟨_,ae⟩:=j0 (ps:=XM) tw (λ_ _ _ _ _ _ _ h=>by obtain⟨_,_,rfl⟩:=len2 h;rfl);obtain⟨_,bL⟩:=j0 (ps:=["self","kind","source"]) tz (λ_ _ _ _ _ _ _ h=>by obtain⟨_,_,_,rfl⟩:=mD h;rfl);obtain⟨_,aZ⟩:=j0 (ps:=XJ) tD (λ_ _ _ _ _ _ _ h=>by obtain⟨_,_,_,_,rfl⟩:=mE h;rfl);obtain⟨_,bH⟩:=j0 (ps:=["self"]) tE (λ_ _ _ _ _ _ _ h=>by obtain⟨_,rfl⟩:=len1 h;rfl);obtain⟨_,bI⟩:=j0 (ps:=Xh) tF (λ_ _ _ _ _ _ _ h=>by obtain⟨_,_,rfl⟩:=len2 h;rfl);have e:=cp.symm.trans bz.m
 cases e;refine⟨_,λs v=>.of_eq (hB [v] rfl),λbase X1 _ bS=>?_⟩;have cj:=W.codeHd_of_K X1 xt;have cm:=W.codeHd_of_K X1 xv;have cn:=W.codeHd_of_K X1 xx;obtain⟨t1,t2,t3,t4,t5,t6⟩:=xp;obtain⟨r1,r2,r3,r4,r5,r6⟩:=xq;have MI:=h8.meth sX;have MB:=h8.meth tm;have TK:lP K mg U ar aD a4 a5 aH aI:=⟨⟨t1,t2,t3,t4⟩,xg,⟨t5,MI.1,MI.2,t6⟩,W.mg_of X G w6,h8.meth sY,h8.meth sZ,h8.meth s_,h8.meth tf,h8.meth ti⟩;have EA:oU K mg L au aE ah a6 a7 aJ aK:=⟨⟨r1,r2,r3,r4⟩,xh,⟨r5,MB.1,MB.2,r6⟩,W.mg_of X G w_,h8.meth tq,h8.meth tw,h8.meth tz,h8.meth tD,h8.meth tE,h8.meth tF⟩;have XC:sT K mg "CantPut" aa:=⟨W.mg_of X G xf,xi,xj,xl⟩;have XN:sT K mg "NoView" aj:=⟨W.mg_of X G xc,xm,xn,xo⟩;have N0:=pZ (P:=l.prog) (w:=w) (base:=base) T J;have N:=rX N0;have Nm:=CN T ao J N;have Pl:=uR T ap J N;have cD:=λd=>kind_all (P:=l.prog) (w:=w) (base:=base) T aV J ap ao bd Y d;have cE:=CQ 1 T Y ao Nm J N ap Pl aV (cD 1);have V_:=C7 (P:=l.prog) (w:=w) T aq bh rfl cj bS J bc bg ax 60;have M:=Dl (P:=l.prog) (w:=w) (base:=base) T be a1 br ba bJ bb bx a2 aP;have AA:=DY (P:=l.prog) (w:=w) (base:=base) T aM 16;have Ka:=Di (P:=l.prog) (w:=w) (base:=base) T aP;have cG:=C3 (P:=l.prog) (w:=w) (base:=base) T ax;have SO:=Kz 60 T aX rfl cm bS J N0 ax cG aq V_;have PO:=KI 60 T aW aq V_;have AS:=Le (P:=l.prog) (w:=w) (base:=base) T an;have SF:=K8 (P:=l.prog) (w:=w) T aw rfl cn bS;have cH:=K_ T aT aw SF;have EO:=Lh (P:=l.prog) (w:=w) (base:=base) (K:=K) T av aP Ka;have cI:=Lj (P:=l.prog) (w:=w) (base:=base) (K:=K) true T aA;have EM:=vG (P:=l.prog) (w:=w) (base:=base) T bm af 16;have ER:=Ez 16 T af bm EM;have BL:=EE (P:=l.prog) (w:=w) (base:=base) T ab 16;have TI:=Lw (P:=l.prog) (w:=w) (base:=base) T TK al;have TB:=Ly T TK ag an AS av EO aA cI aT cH;have cJ:=LF (P:=l.prog) (w:=w) (base:=base) T TK aG;have AF:=LA 16 67 T aQ be (M 16).1;have TP:=LC 16 68 T TK aY aQ AF ag TB (by decide);have BI:=LK T TK XN az ag TB;have PI:=LM 16 69 T TK XC aU aY TP;have EI:=LO (P:=l.prog) (w:=w) (base:=base) T EA am;have cK:=LQ (P2:=PF) T TK EA ae aG cJ;have EB:=LS T EA aC an AS az BI ae cK;have BK:=LX (P:=l.prog) (w:=w) (base:=base) T bf;have WF:=LV (P:=l.prog) (w:=w) (base:=base) T aL;have EP:=L0 16 68 T EA aZ aQ AF aC EB bf BK aL WF af ER aU PI (by decide) (by decide);have KE:=Md (P:=l.prog) (w:=w) (base:=base) T ay;have DU:=Mf 16 19 T a8 ab (BL.mono (by decide));have AG:=Mm 16 19 (by decide) T aN ab (BL.mono (by decide));have cL:=Mq 16 19 T aB ay KE J N0 ab (BL.mono (by decide)) (by decide);have TA:=Mv T ai ay KE;have RO:=ME xy T TK EA aO J N Y cE aW (PO.mono (by decide)) aX (SO.mono (by decide)) aB cL ai TA al TI am EI aZ EP aM AA a8 DU aN AG;exact MG T bz aO RO
theorem MK {K:W.Frag}{x:Str}{f c P:Addr}{oc L:Value}{od U:Option Addr}{fd:FuncData}{sl Y:Array (Option Value)}{J:Array Value}(a:W.nsIn K mainGlobals x=some (some (.ref f)))(l:K.lookup f=some ⟨oc,od,.func fd,sl⟩)(hc:fd.code=.ref c)
 (lc:K.lookup c=some ⟨L,U,.fields J,Y⟩) (hP:J[11]? =some (.ref P)):W.tabIn K x=some (c,P):=by
 unfold W.tabIn;rw[a];dsimp only;rw[l];dsimp only;rw[hc];dsimp only;rw[lc];dsimp only;rw[hP]
def ML (K:W.Frag) (J:List (Addr × Addr)):Sp:=λvs H Q _=>∃(a:Addr) (ns:List Int),vs=[.ref a]/\jQ K H a ns/\ns.length<=63/\(∀q∈J,H q.2=some (.g4 #[]))/\∀H',Q (.bl true) H'
theorem jQ.ofT {K:W.Frag}{H:Hp}{a:Addr}{ns:List Int}{J:List Addr}(o:rf J H)(h:fv K H a (ns.map V.int)):jQ K H a ns:=by
 rcases h with(h|h)|h
 . rcases o a with z|⟨L,xs,z⟩|⟨_,z⟩ <;> rw[h] at z <;> cases z
 . exact .inl h
 . exact .inr h
theorem walk {l:W.OpenLaw}{q:Program}{loose:List Str}{XP:(Str->Option Value)->Heap->Prop}{YP:World->Heap->Prop}{d:DefRec}{K:Params->W.Frag}(hn:l.most=some 63)(aa:d.params.defaults=[])
 (hY:∀(w:World) (h:Heap),YP w h->(K w.params).In h) (ab:∀w:World,W.noTabs (K w.params)=true) (Y:∀y∈(Xn:List Str),∃d',(PyProof.Rows.recsOf q).find? (λe=>e.name == y)=some d')
 (F:∀w:World,∃c1 L c2 P2 c3 P3:Addr,W.tabIn (K w.params) "_law_rows"=some (c1,L)/\W.tabIn (K w.params) "_law_some"=some (c2,P2)/\W.tabIn (K w.params) "sorted_fields"=some (c3,P3)/\∀(mg:Str->Option Value) (fa:Addr) (h:Heap),(K w.params).In h->h.Ns mainGlobals mg->mg d.name=some (.ref fa)->
   ∃fd:FuncData,(∀(s:Shared) (u:Value),BindsTo s fd ⟨[u],[]⟩ [("_law_script",u)])/\∀base:Heap,(K w.params).In base->base.Ns mainGlobals mg->BM mg base->fm l.prog w (K w.params) mg base fw 132 fa fd ["_law_script"] (vS (K w.params) L P2 P3)):
 W.WalkO q loose XP YP l.row.toRowW d [] (λf vs=>PySem.call f vs):=
 L2.IT (n:=63) (k:=132) (x:="_law_script") (names:=Xn) (sp:=λw J=>ML (K w.params) J) hn (by decide) aa ⟨rfl,by decide,by decide⟩ hY ab (λw=>by
   obtain⟨c1,L,c2,P2,c3,P3,ht1,k9,p0,F⟩:=F w;refine⟨[(c1,L),(c2,P2),(c3,P3)],λq' U=>?_,λmg fa h X G hm=>?_⟩
   . simp only[Q13,Q1h,or_false] at U;rcases U with e|e|e
     . exact⟨"_law_rows",by simp,by rw[e];exact ht1⟩
     . exact⟨"_law_some",by simp,by rw[e];exact k9⟩
     . exact⟨"sorted_fields",by simp,by rw[e];exact p0⟩
   obtain⟨fd,hb,hF⟩:=F mg fa h X G hm;refine⟨fd,hb,λbase X1 G1 B=>(hF base X1 G1 B).imp λvs H Q E ⟨a,ns,e,hS,hl,hT,q⟩=>⟨a,ns,e,hS,hl,λq' U=>.inl ?_,q⟩⟩;simp only[Q13,Q1h,or_false] at U;rcases U with e|e|e
   . rw[e];exact hT (c1,L) (by simp)
   . rw[e];exact hT (c2,P2) (by simp)
   . rw[e];exact hT (c3,P3) (by simp))
   Y λw J H a ns hl hO ac ae=>⟨a,ns,rfl,jQ.ofT hO ae,hl,ac,λ_=>rfl⟩
end Pb
open W PyProof.Rows
set_option maxRecDepth 100000 in
set_option maxHeartbeats 0 in
theorem PySem.Challenge.cw_putback_k44_each_take_twice_holds : PySem.Challenge.rw_putback_k44_each_take_twice.Holds := by
 w_on
 refine holds_law Pb.said λsaid=>?_;refine holds_open (q:=Pb.qv) (loose:=[]) (Xt:=λs=>xlAt Pb.qv [] s && recOk (RowW.records (PySem.W.OpenRow.toRowW (PySem.W.OpenLaw.row PySem.Challenge.rw_putback_k44_each_take_twice))) s) (XP:=XL Pb.qv []) (Yf:=Hook.obs (PySem.W.kmHook Pb.KK Pb.lV Pb.mK [93,452,524])) (Ya:=Hook.val (PySem.W.kmHook Pb.KK Pb.lV Pb.mK [93,452,524])) (YP:=Hook.says (PySem.W.kmHook Pb.KK Pb.lV Pb.mK [93,452,524])) (N:=11013) ?hl (Hook.of (PySem.W.kmHook Pb.KK Pb.lV Pb.mK [93,452,524])) (Hook.keeps (PySem.W.kmHook Pb.KK Pb.lV Pb.mK [93,452,524])) (λs e=>xl_of s (Bool.and_eq_true_iff.mp e).1) XL.keeps (by rfl) (by rfl) (by rfl) (λs e=>recFacts_of (Bool.and_eq_true_iff.mp e).2) (by rfl) (by first|assumption|decide +kernel) (by decide +kernel) ⟨rfl,rfl,rfl,rfl,rfl,by decide +kernel⟩ ?hw ?hc
 case hl=>exact Pb.FD (by rfl) (by rfl) (λs=>rfl) (by rfl) (List.take_append_drop 30 Pb.tK).symm (λP=>by kernel_rfl) Pb.FO (Pb.FE Pb.FP (Pb.FF Pb.FQ Pb.FR Pb.FT))
 (case hw=>w_witness2)
 k_fill
 refine Pb.walk (l:=PySem.Challenge.rw_putback_k44_each_take_twice) rfl rfl (λw h Y=>PySem.W.km_in_of Y) (λw=>by kernel_rfl) ?HR ?F
 case HR=>intro y hy;simp only[Q13,Q1h,or_false] at hy;rcases hy with rfl|rfl|rfl <;> exact⟨_,rfl⟩
 case F=>
  intro w
  refine' ⟨_,_,_,_,_,_,?ht1,?k9,?p0,?GG⟩
  case ht1|k9|p0=>
   refine' Pb.MK ?ta ?tl ?tc ?MM ?tP
   (case ta=>k_is);(case tl=>k_is);(case tc=>rfl);(case MM=>k_is);(case tP=>rfl)
  case GG=>
   intro mg fa h KX G hmg
   refine' Pb.all_mk KX G hmg ?vU ?vV ?vW ?vX ?vY ?vZ ?v3 ?v7 ?v8 ?v_ ?wc ?wd ?we ?wg ?wj ?wm ?wo ?wq ?wu ?wx ?wy ?wz ?wA ?wB ?wC ?wD ?wF ?wG ?wH ?wI ?wJ ?wK ?wM ?wN ?wO ?wQ ?wR ?wU ?wV ?wW ?wX ?aR ?lR ?wY ?kR ?aS ?lS ?wZ ?kS ?aF ?lF ?w5 ?kF ?zz ?w6 ?Fk ?Fl ?w_ ?Fm ?Fn ?xc ?Fo ?Fp ?xf ?Fq ?Ft ?sX ?sY ?sZ ?s_ ?tf ?ti ?tm ?tq ?tw ?tz ?tD ?tE ?tF ?xg ?xh ?xi ?xj ?xl ?xm ?xn ?xo ?xp ?xq ?xr ?Fu ?Fv ?xt ?xu ?Fw ?Fx ?xv ?xw ?Fy ?Fz ?xx ?xy
   case vU|vV|vW|vX|vY|vZ|v3|v7|v8|v_|wc|wd|we|wg|wj|wm|wo|wq|wu|wx|wy|wz|wA|wB|wC|wD|wF|wG|wH|wI|wJ|wK|wM|wN|wO|wQ|wR|wU|wV|wW|wX=>
    refine' Pb.MH ?a ?l ?c ?k
    (case a=>k_is);(case l=>k_is);(case c=>k_is);(case k=>k_is)
   (case aR=>k_is);(case lR=>k_is);(case wY=>k_is);(case kR=>k_is)
   (case aS=>k_is);(case lS=>k_is);(case wZ=>k_is);(case kS=>k_is)
   (case aF=>k_is);(case lF=>k_is);(case w5=>k_is);(case kF=>k_is)
   case zz=>intro x hx;simp only[Q13,Q1h,or_false] at hx;rcases hx with rfl|rfl|rfl|rfl|rfl|rfl|rfl|rfl|rfl|rfl|rfl|rfl|rfl|rfl <;> k_is
   (case w6=>k_is);(case Fk=>k_is);(case Fl=>rfl)
   (case w_=>k_is);(case Fm=>k_is);(case Fn=>rfl)
   (case xc=>k_is);(case Fo=>k_is);(case Fp=>rfl)
   (case xf=>k_is);(case Fq=>k_is);(case Ft=>rfl)
   case sX|sY|sZ|s_|tf|ti|tm|tq|tw|tz|tD|tE|tF=>
    refine' Pb.MJ ?a ?l ?c ?k ?f ?g
    (case a=>k_is);(case l=>k_is);(case c=>k_is);(case k=>k_is);(case f=>kernel_rfl);(case g=>kernel_rfl)
   case xg|xh|xi|xj|xl|xm|xn|xo=>kernel_rfl
   case xp|xq=>refine⟨?_,?_,?_,?_,?_,?_⟩ <;> kernel_rfl
   (case xr=>rfl);(case Fu=>k_is);(case Fv=>rfl);(case xt=>kernel_rfl)
   (case xu=>rfl);(case Fw=>k_is);(case Fx=>rfl);(case xv=>kernel_rfl)
   (case xw=>rfl);(case Fy=>k_is);(case Fz=>rfl);(case xx=>kernel_rfl)
   (case xy=>decide)
