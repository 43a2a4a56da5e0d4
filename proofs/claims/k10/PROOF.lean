import PyProof.Rows.All
import Wide.All
import OpenK.AllK
import Wide.FinOn
import Lean
import PyProof.EqAt
import PyProof.EqKinds
import PyProof.TupleCall
import KE.KSortAsk
import PyProof.NeKinds
import PyProof.StationsW
import PyProof.ExcClass3
import PyProof.Rows.Own
import PyProof.NsDelKeeps
import KE.KIsAll
import PyProof.ExcAttrAll.ValueError
import PyProof.IsiH_list
import PyProof.Rows.FStr
import PyProof.FString4
import PyProof.StrLawsRepr
import PyProof.Rows.StrMeet
import PyProof.DictWalks
import PyProof.Draws
import KE.KDictOf
import PyProof.AttrMissHeap
import PyProof.Rows.DictListVals
import PyProof.ExcInit
import PyProof.InstStoreFacts
import PyProof.Rows.SetFrom
import PyProof.StrLawsIn
import PyProof.Rows.StrNews2
import PyProof.StrBlockI
import KE.IntText
import KE.KIntText
import PyProof.FString5
import KE.KRevIter
import PyProof.ZipIter
import KE.KItemsList
import KE.KDictLaws
import KE.KDictSum
import PySem.Challenge.RW_putback_k10_one_step
abbrev XA:List PySem.Str:=["_law_script","_law_at","_law_kind_here","_law_value_here","_law_path","_law_m","_law_row","_law_kept","_law_deed_here","_law_fresh"]
abbrev XB:List PySem.Str:=["_law_script","_law_at","_law_kind_here","_law_value_here","_law_path"]
abbrev XC:List PySem.Str:=["_law_script","_law_at","_law_many","_law_deep"]
abbrev XD:List PySem.Str:=["_law_script","_law_at","_law_kind_here","_law_room","_law_many","_law_rows_here","_law_firsts"]
abbrev XE:List PySem.Str:=["_law_script","_law_at"]
abbrev XF:List PySem.Str:=["_law_script","_law_at","_law_many","_law_letters","_law_m","_law_stem","_law_signs"]
abbrev XG:List PySem.Str:=["_law_script","_law_at","_law_kind_here","_law_room","_law_m","_law_top","_law_name","_law_inner"]
abbrev XH:List PySem.Str:=["_law_script","_law_at","_law_fields_here","_law_lead","_law_value_here","_law_path"]
abbrev XI:List PySem.Str:=["_law_script","_law_at","_law_kind_here","_law_room"]
abbrev XJ:List PySem.Str:=["_law_thing","_law_made","_law_name"]
abbrev XM:List PySem.Str:=["_law_found","_law_due"]
abbrev XN:List PySem.Str:=["_law_part","_law_thing","_law_made","_law_name"]
abbrev XO:List PySem.Str:=["_law_other","_law_script","_law_at","_law_kind_here","_law_value_here","_law_path","_law_m","_law_row","_law_kept","_law_deed_here","_law_fresh"]
abbrev XQ:List PySem.Str:=["_law_script","_law_at","_law_kind_here","_law_value_here","_law_many"]
abbrev XR:List PySem.Str:=["_law_a","_law_b","_law_found","_law_due"]
abbrev XS:List PySem.Str:=["_law_script","_law_at","_law_many","_law_deep","_law_names_here","_law_m","_law_lead","_law_by","_law_some","_law_name"]
abbrev XT:List PySem.Str:=["kind","step","path","tree"]
abbrev XU:List PySem.Str:=["_law_script","_law_at","_law_kind_here","_law_value_here","_law_path","_law_inner","_law_deed_here","_law_fresh"]
abbrev XV:List PySem.Str:=["fields","record"]
abbrev XW:List PySem.Str:=["_law_k","_law_script","_law_at","_law_many","_law_letters","_law_m","_law_stem","_law_signs"]
abbrev XX:List PySem.Str:=["_law_kind_here","_law_row"]
abbrev XY:List PySem.Str:=["kind","rows","key"]
abbrev XZ:List PySem.Str:=["_law_script","_law_at","_law_kind_here"]
abbrev Xa:List PySem.Str:=["things","number","thing"]
abbrev Xb:List PySem.Str:=["kind","rows"]
abbrev Xc:List PySem.Str:=["_law_script","_law_at","_law_deep"]
abbrev Xd:List PySem.Str:=["_law_script","_law_at","_law_many"]
abbrev Xe:List PySem.Str:=["fields","step","path","record"]
abbrev Xf:List PySem.Str:=["fields","step","path","value"]
abbrev Xg:List PySem.Str:=["kind","rows","row"]
abbrev Xh:List PySem.Str:=["kind","step","path","value"]
abbrev Xi:List PySem.Str:=["_law_script","_law_at","_law_signs","_law_m","_law_many"]
abbrev Xj:List PySem.Str:=["kind","step","path","rows"]
abbrev Xk:List PySem.Str:=["kind","paper","value"]
abbrev Xl:List PySem.Str:=["kind","step","value"]
abbrev Xm:List PySem.Str:=["kind","path"]
abbrev Xn:List PySem.Str:=["_law_rows","_law_deed_rows","in_order"]
theorem zzx {α:Sort _}{β:α->Sort _}{γ:∀a,β a->Sort _}{δ:∀a b,γ a b->Sort _}{p:∀a b c,δ a b c->Prop}{G:Prop}(h:∃a b c d,p a b c d)(k:∀a b c d,p a b c d->G):G:=let⟨a,b,c,d,e⟩:=h;k a b c d e
theorem zza {A B C D E G:Prop}(h:A/\B/\C/\D/\E)(k:A->B->C->D->E->G):G:=k h.1 h.2.1 h.2.2.1 h.2.2.2.1 h.2.2.2.2
local macro_rules|`(tactic|obtain⟨$s,*⟩:=$t)=>do
 let a:=s.getElems;if a.size<6 then Lean.Macro.throwUnsupported
 let b:=a.extract 4 a.size;let q←(a.extract 0 4).mapM λp=>`(rintroPat|($p:rcasesPatLo));let c←match t with|`($x:ident)=>`(tactic|try clear $x)|_=>`(tactic|skip)
 `(tactic|((first|refine zzx $t ?_|refine zza $t ?_);$c;rintro $q* e;obtain⟨$b,*⟩:=e))
open PySem renaming wpAny_bind→Q0,wpAny_pure→Q02,wpAny_mono→Q0y
open Nat renaming le_refl→Q00,zero_le→Q06,ne_of_lt→Q0c,ne_of_gt→Q0d,lt_of_lt_of_le→Q0g,le_trans→Q0h,le_succ→Q0l,le_add_right→Q0q,lt_irrefl→Q0t,le_of_lt→Q0v,lt_trans→Q1,mul_le_mul_right→Q11,lt_of_le_of_lt→Q17,le_max_left→Q1a,le_of_not_lt→Q1e,le_max_right→Q1h,lt_succ_self→Q1m,succ_mul→Q1o,zero_add→Q21,not_lt_zero→Q26,sub_zero→Q29,mul_le_mul→Q2a,sub_self→Q2b,add_lt_add_left→Q2c,pow_le_pow_right→Q2d,add_le_add_right→Q2e,add_le_add_left→Q2o
open List renaming mem_append_right→Q01,mem_cons_of_mem→Q04,getElem?_eq_getElem→Q05,length_append→Q08,length_map→Q09,mem_cons_self→Q0a,size_toArray→Q0b,length_cons→Q0e,mem_append_left→Q0f,getD_eq_getElem?_getD→Q0j,map_append→Q0k,append_nil→Q0m,length_take→Q0n,map_cons→Q0o,getElem?_map→Q0p,append_assoc→Q0r,mem_of_getElem?→Q0w,flatten_cons→Q0x,getElem?_append_right→Q0z,length_range→Q10,getElem?_append_left→Q12,length_singleton→Q13,getElem_mem→Q14,length_drop→Q16,all_eq_true→Q18,getElem_of_mem→Q19,foldl_cons→Q1b,length_replicate→Q1c,find?_cons→Q1d,forIn_cons→Q1f,take_succ→Q1i,lookup_cons→Q1l,nodup_nil→Q1q,length_nil→Q1r,map_congr_left→Q1s,pairwise_singleton→Q1u,replicate_succ→Q1v,take_length→Q1w,forIn_nil→Q1x,flatten_append→Q1y,flatten_nil→Q1z,map_map→Q20,filterMap_cons→Q22,getElem_inj→Q23,of_mem_zip→Q24,any_cons→Q25,pairwise_map→Q27,forIn_toArray→Q28,mem_cons→Q2f,not_mem_nil→Q2g,getElem?_set_self→Q2j,getElem?_set_ne→Q2k,getElem?_replicate→Q2l,ext_getElem→Q2q,lt_irrefl→Q2w,zip_cons_cons→Q2x,mem_map_of_mem→Q2y,getElem?_eq_none→Q2z,eq_of_mem_replicate→Q30,getElem_take→Q31,zipIdx_cons→Q32,zipIdx_nil→Q33,take_of_length_le→Q34,take_left→Q35,filter_cons_of_neg→Q37
open PySem.Heap renaming lt_size→Q03,get?_push_of_some→Q07,get?_push_size→Q0i,size_push→Q1g,get?_update_self→Q1j,get?_update_other→Q1k,size_update→Q2s,get?_push_ne→Q2t
open Int renaming emod_nonneg→Q0s,emod_lt_of_pos→Q0u,toNat_natCast→Q1p,mul_le_mul_of_nonneg_right→Q2,mul_nonneg→Q3,natCast_add→Q36
open Array renaming length_toList→Q15,getD_eq_getD_getElem?→Q1n,getElem?_eq_getElem→Q1t,empty_append→Q2h,toArray_toList→Q2i,size_append→Q2r,forIn_toList→Q2u,size_push→Q2v
open Option renaming getD_none→Q2m,isSome_map→Q2n,getD_some→Q2p
set_option genSizeOf false
set_option Elab.async false
set_option linter.all false
set_option maxRecDepth 100000
set_option maxHeartbeats 4000000
open PySem
theorem pq:2<=PySem.sizeLine:=by decide
namespace L2
open Spec PyProof.Rows
noncomputable def gE (s:Stmt):Arguments:=match s with
 | .FunctionDef _ a _ _ _ _ _ _ _ _=>a
 |_=>{ posonlyargs:=[],args:=[],vararg:=none,kwonlyargs:=[],kw_defaults:=[],kwarg:=none,defaults:=[] }
noncomputable def fZ (s:Stmt):List Stmt:=match s with
 | .FunctionDef _ _ b _ _ _ _ _ _ _=>b
 |_=>[]
noncomputable def dD (s:Stmt):Scope:=match s with
 | .FunctionDef _ _ _ _ _ _ sc _ _ _=>sc
 |_=>{ kind:=.function,names:=[],isGenerator:=false,isCoroutine:=false }
end L2
namespace Pb
open L2
noncomputable def top (i:Nat):Stmt:=PySem.Challenge.pw_putback_k10_one_step.main.body.getD i (.Pass ⟨0,0,0,0⟩)
noncomputable def tz (i j:Nat):Stmt:=match top i with
 | .ClassDef _ _ _ body _ _ _ _ _ _ _=>body.getD j (.Pass ⟨0,0,0,0⟩)
 |_=>.Pass ⟨0,0,0,0⟩
end Pb
namespace Pb
open W
noncomputable def treeOf:List Obj->Nat->BT->Option BT
 |[],_,t=>some t
 |o::l,n,t=>match((t.ins n o).get n).isSome with
  |true=>treeOf l (n+1) (t.ins n o)
  |false=>none
theorem tD {life:Life}:∀(l:List Obj) (n:Nat) (t t':BT),treeOf l n t=some t'->absHeap t' (n+l.length) life=⟨(absHeap t n life).objs++l.toArray,life⟩
 |[],n,t,t',h=>by
  cases h;show absHeap t n life=_;have:(absHeap t n life).objs++#[]=(absHeap t n life).objs:=Array.append_empty;rw[this];rfl
 |o::l,n,t,t',h=>by
  unfold treeOf at h
  cases e:((t.ins n o).get n).isSome with
  |false=>rw[e] at h;cases h
  |true=>
   rw[e] at h;have:=tD (life:=life) l (n+1) _ t' h;rw[absHeap_ins e] at this;have J:n+(o::l).length=n+1+l.length:=by rw[Q0e];omega
   rw[J,this];show Heap.mk ((absHeap t n life).objs.push o++l.toArray) life=_;congr 1;apply Array.ext';simp
noncomputable def lY (tb:String->Option Builtin) (p:Program) (w:World) (J:Nat) (L:Option Value):Nat->SharedT->Thread->Option SharedT
 |0,_,_=>none
 |n+1,s,t=>match through t with
  |true=>some s
  |false=>match stepOk J L t with
   |false=>none
   |true=>match stepT (denote tb) p w s t with
    |some (s',t')=>lY tb p w J L n s' t'
    |none=>none
theorem tE {tb:String->Option Builtin}{p:Program}{w:World}{J:Nat}{L:Option Value}:∀{n:Nat}{s s':SharedT}{t:Thread},lY tb p w J L n s t=some s'->topRun tb p w J L n s.abs t=some s'.abs
 |0,_,_,_,h=>by cases h
 |n+1,s,s',t,h=>by
  unfold lY at h;unfold topRun
  cases Y:through t with
  |true=>rw[Y] at h;cases h;rfl
  |false=>
   rw[Y] at h
   cases hk:stepOk J L t with
   |false=>rw[hk] at h;cases h
   |true=>
    rw[hk] at h
    cases U:stepT (denote tb) p w s t with
    |none=>rw[U] at h;cases h
    |some r=>obtain⟨aa,ab⟩:=r;rw[U] at h;rw[stepT_spec U];exact tE h
noncomputable abbrev j8:=@W.Fast.tw10156331382660048174
noncomputable abbrev iI:=@W.Fast.tw11892475500146522536
noncomputable abbrev iJ:=@W.Fast.tw14364793385576792824
noncomputable abbrev lZ:=@W.Fast.tw6613529449190102663
noncomputable abbrev seenQ:=@W.Fast.tw4187177175401517315
noncomputable def j9 (p:Program) (w:World) (J:Nat) (L:Option Value):Nat->SharedT->Thread->Option SharedT
 |0,_,_=>none
 |n+1,s,t=>match through t with
  |true=>some s
  |false=>match lZ J L t with
   |false=>none
   |true=>match j8 (iI iJ) p w s t with
    |some (s',t')=>j9 p w J L n s' t'
    |none=>none
theorem tF {p:Program}{w:World}{J:Nat}{L:Option Value}:∀(n:Nat) (s:SharedT) (t:Thread),j9 p w J L n s t=lY treeTable p w J L n s t
 |0,_,_=>rfl
 |n+1,s,t=>by
  unfold j9 lY;have U:lZ J L t=stepOk J L t:=congrFun (congrFun (congrFun W.Fast.te6613529449190102663.symm _) _) _;have Y:j8 (iI iJ) p w s t=stepT (denote treeTable) p w s t:=by rw[show @j8=@stepT from W.Fast.te10156331382660048174.symm,show @iI=@denote from W.Fast.te11892475500146522536.symm,show @iJ=@treeTable from W.Fast.te14364793385576792824.symm]
  rw[U,Y];simp only[tF n]
noncomputable def looksAt (p q:Program) (loose:List Str) (Xt:Shared->Bool) {α:Type}(Yf:Shared->α) (J:Bool) (h₀:Heap) (s:Shared):=
 ((staticsOk (importedModules p.main.body) h₀ s.heap && namesBound p s.heap && gensDone s && laidKept h₀ s.heap),seenQ q loose (importedModules p.main.body) Xt J s,Yf s)
noncomputable def tG:List (Nat × Obj)->BT->BT
 |[],t=>t
 |(a,o)::l,t=>tG l (t.ins a o)
noncomputable def px:Nat->List Obj->BT->BT
 |_,[],t=>t
 |n,o::l,t=>px (n+1) l (t.ins n o)
noncomputable def l4 (p:Program) (w:World) (J:Nat) (L:Option Value):Nat->SharedT->Thread->Option (Flow × SharedT × Code × Pos)
 |0,_,_=>none
 |n+1,s,t=>match endAt 1 t with
  |some f=>some (f,s,t.code,t.pos)
  |none=>match lZ J L t with
   |false=>none
   |true=>match j8 (iI iJ) p w s t with
    |some (s',t')=>l4 p w J L n s' t'
    |none=>none
theorem tH (J:Nat)(L:Option Value)(t:Thread):lZ J L t=stepOk J L t:=congrFun (congrFun (congrFun W.Fast.te6613529449190102663.symm _) _) _
theorem tJ:@iI iJ=denote treeTable:=by rw[show @iI=@denote from W.Fast.te11892475500146522536.symm,show @iJ=@treeTable from W.Fast.te14364793385576792824.symm]
theorem tK (p:Program)(w:World)(s:SharedT)(t:Thread):j8 (iI iJ) p w s t=stepT (denote treeTable) p w s t:=by rw[show @j8=@stepT from W.Fast.te10156331382660048174.symm,tJ]
theorem tL {p:Program}{w:World}{J:Nat}{L:Option Value}:∀(n:Nat) (s:SharedT) (t:Thread),l4 p w J L n s t=segRunT treeTable p w J L 1 n s t
 |0,_,_=>rfl
 |n+1,s,t=>by
  unfold l4 segRunT;rw[tH,tK]
  cases endAt 1 t with
  |some f=>rfl
  |none=>
   cases stepOk J L t with
   |false=>rfl
   |true=>
    cases stepT (denote treeTable) p w s t with
    |none=>rfl
    |some r=>obtain⟨s',t'⟩:=r;exact tL n s' t'
noncomputable def l5 (tb:String->Option Builtin) (p:Program) (w:World) (J:Nat) (L:Option Value):Nat->SharedT->Thread->Option (SharedT × Thread)
 |0,s,t=>some (s,t)
 |n+1,s,t=>match through t with
  |true=>none
  |false=>match stepOk J L t with
   |false=>none
   |true=>match stepT (denote tb) p w s t with
    |some (s',t')=>l5 tb p w J L n s' t'
    |none=>none
theorem tM {tb:String->Option Builtin}{p:Program}{w:World}{J:Nat}{L:Option Value}:∀{n:Nat}{s s':SharedT}{t t':Thread},l5 tb p w J L n s t=some (s',t')->topGo tb p w J L n s.abs t=some (s'.abs,t')
 |0,s,s',t,t',h=>by
  have h:some (s,t)=some (s',t'):=h
  cases h;rfl
 |n+1,s,s',t,t',h=>by
  unfold l5 at h;unfold topGo
  cases Y:through t with
  |true=>rw[Y] at h;cases h
  |false=>
   rw[Y] at h
   cases hk:stepOk J L t with
   |false=>rw[hk] at h;cases h
   |true=>
    rw[hk] at h
    cases U:stepT (denote tb) p w s t with
    |none=>rw[U] at h;cases h
    |some r=>obtain⟨aa,ab⟩:=r;rw[U] at h;rw[stepT_spec U];exact tM h
noncomputable def nr (p:Program) (w:World) (J:Nat) (L:Option Value):Nat->SharedT->Thread->Option (SharedT × Thread)
 |0,s,t=>some (s,t)
 |n+1,s,t=>match through t with
  |true=>none
  |false=>match lZ J L t with
   |false=>none
   |true=>match j8 (iI iJ) p w s t with
    |some (s',t')=>nr p w J L n s' t'
    |none=>none
theorem tN {p:Program}{w:World}{J:Nat}{L:Option Value}:∀(n:Nat) (s:SharedT) (t:Thread),nr p w J L n s t=l5 treeTable p w J L n s t
 |0,_,_=>rfl
 |n+1,s,t=>by
  unfold nr l5;rw[tH,tK];simp only[tN n]
noncomputable def nu (p:Program) (w:World) (J:Nat) (L:Option Value) (env:Env) (c:Code) (U:Pos) (l:List Stmt) (k1 k2 k3:Nat) (s:SharedT):Option (Thread × Code × Code × SharedT × Pos):=
 match nr p w J L k1 s (topStub p) with
 |none=>none
 |some (s1,Y)=>match l4 p w J L k2 s1 (blockOf (behindTheImports p) env c Y.pos [topFrame U]) with
  |some (.next,s2,c2,p2)=>(match l4 p w J L k3 s2 (piecesOf l env c p2 [topFrame U]) with
   |some (.next,s3,c3,p3)=>some (Y,c2,c3,s3,p3)
   |_=>none)
  |_=>none
theorem z_ {p:Program}{w:World}{J:Nat}{L:Option Value}{env:Env}{c:Code}{Y U p3:Pos}{l rest:List Stmt}{k1 k2 k3 N:Nat}{s s3:SharedT}{r:Shared}(hb:behindTheImports p=l++rest)
 (h:nu p w J L env c Y l k1 k2 k3 s=some (⟨iI iJ (.body (behindTheImports p) env),c,U,[topFrame Y]⟩,c,c,s3,p3))
 (k:topRun treeTable p w J L N s3.abs (restOf rest env c p3 [topFrame Y])=some r):topRun treeTable p w J L (k1+(k2+(k3+N))) s.abs (topStub p)=some r:=by
 unfold nu at h;split at h
 . cases h
 next s1 t1 e1=>
  split at h
  next s2 c2 p2 e2=>
   split at h
   next aa c3 ab e3=>
    cases h;rw[tN] at e1;rw[tL] at e2 e3;have g1:=tM e1;rw[tJ] at g1;have g3:=piece_app (rest:=rest) (segRun_of e3) k;rw[<-hb] at g3;exact go_top g1 (piece_block (segRun_of e2) g3)
   . cases h
  . cases h
noncomputable def pz (P:Params):BT:=(treeOf (boot_heap P).objs.toList 0 .nil).getD .nil
noncomputable def nv (w:World) (os:OsState):SharedT:=⟨pz w.params,(boot_heap w.params).objs.size,(boot_heap w.params).life,#[],boot_drawn,boot_toks,os⟩
theorem Aa {p q:Program}{loose:List Str}{Xt:Shared->Bool}{α:Type}{Yf:Shared->α}{Ya:World->α}{N:Nat}{g0:Bool}{env:Env}{c:Code}{q0 U p3:Pos}{l rest:List Stmt}{k1 k2 k3 N4 J:Nat}{L:Option Value}{S3:World->OsState->SharedT}
 (e:opening p=plainProg p.main.scope.names) (hN:Nat.ble 600 N=true) (f:∀s,fenceModules? p s=some s) (ab:N=k1+(k2+(k3+N4))) (hb:behindTheImports p=l++rest)
 (b0:∀P:Params,((boot_heap P).isNs mainGlobals,(treeOf (boot_heap P).objs.toList 0 .nil).isSome,(boot_heap P).objs.size,(boot_heap P).nsMap mainGlobals "__annotations__")=(true,true,J,L))
 (Y:∀w os,nu p w J L env c q0 l k1 k2 k3 (nv w os)=some (⟨iI iJ (.body (behindTheImports p) env),c,U,[topFrame q0]⟩,c,c,S3 w os,p3))
 (aa:∀w os,((j9 p w J L N4 (S3 w os) (restOf rest env c p3 [topFrame q0])).map λ(s:SharedT)=>looksAt p q loose Xt Yf g0 (boot_heap w.params) s.abs)=some (true,openGood q loose,Ya w)):LeftO p q loose Xt Yf Ya N g0:=λw=>by
 obtain⟨⟨h,gs,d,k,os⟩,e1,e'⟩:=Option.map_eq_some_iff.mp (boot_open e hN f w);obtain⟨rfl,rfl,rfl,rfl⟩:h=boot_heap w.params/\gs=Array.mk []/\d=boot_drawn/\k=boot_toks:=by simpa using e'
 have ac:=b0 w.params;obtain⟨z,y0,hsz,ae⟩:_/\_/\_/\_:=by simpa only[Prod.mk.injEq] using ac
 obtain⟨T,y⟩:=Option.isSome_iff_exists.mp y0;obtain⟨s,r1,r2⟩:=Option.map_eq_some_iff.mp (aa w os);rw[tF] at r1;have r3:=z_ hb (Y w os) (tE r1);rw[<-ab] at r3;have hT:=tD (life:=(boot_heap w.params).life) _ _ _ _ y
 have hS:SharedT.abs (nv w os)=⟨boot_heap w.params,#[],boot_drawn,boot_toks,os⟩:=by
  unfold SharedT.abs nv pz;dsimp only;rw[y];dsimp only[Option.getD];rw[Q21,Q15] at hT;rw[hT];have e0:(absHeap BT.nil 0 (boot_heap w.params).life).objs=#[]:=rfl;rw[e0,Q2h,Q2i]
 rw[hS] at r3
 have t:topFrom treeTable p w N ⟨boot_heap w.params,#[],boot_drawn,boot_toks,os⟩=some s.abs:=by
  unfold topFrom;dsimp only;rw[z,hsz,ae,r3];have l1:=congrArg (λz=>z.1) r2;dsimp only[looksAt] at l1;show(match staticsOk (importedModules p.main.body) (boot_heap w.params) s.abs.heap && namesBound p s.abs.heap && gensDone s.abs && laidKept (boot_heap w.params) s.abs.heap with|true=>_|false=>_)=_;rw[l1]
 unfold openEnds;rw[e1];show(topFrom treeTable p w N _).map _=_;rw[t];have l2:=congrArg (λz=>z.2) r2;dsimp only[looksAt] at l2;rw[show @seenQ=@openSeen from W.Fast.te4187177175401517315.symm] at l2;exact congrArg some l2
theorem Ab {p q:Program}{loose:List Str}{Xt:Shared->Bool}{α:Type}{Yf:Shared->α}{Ya:World->α}{U:Bool}{Y J:Nat}{L:Option Value}{S3 S5:World->OsState->SharedT}{t:Thread}
 (b:∀w os,j9 p w J L Y (S3 w os) t=some (S5 w os)) (l:∀w os,looksAt p q loose Xt Yf U (boot_heap w.params) (S5 w os).abs=(true,openGood q loose,Ya w)):
 ∀w os,((j9 p w J L Y (S3 w os) t).map λ(s:SharedT)=>looksAt p q loose Xt Yf U (boot_heap w.params) s.abs)=some (true,openGood q loose,Ya w):=λw os=>by
 rw[b];exact congrArg some (l w os)
theorem Ac {p q:Program}{loose:List Str}{Xt:Shared->Bool}{α:Type}{Yf:Shared->α}{Ya:World->α}{L:Bool}{J:World->OsState->SharedT}
 (l1:∀w os,(staticsOk (importedModules p.main.body) (boot_heap w.params) (J w os).abs.heap && namesBound p (J w os).abs.heap && gensDone (J w os).abs && laidKept (boot_heap w.params) (J w os).abs.heap)=true)
 (l2:∀w os,seenQ q loose (importedModules p.main.body) Xt L (J w os).abs=openGood q loose) (U:∀w os,Yf (J w os).abs=Ya w):
 ∀w os,looksAt p q loose Xt Yf L (boot_heap w.params) (J w os).abs=(true,openGood q loose,Ya w):=λw os=>Prod.ext (l1 w os) (Prod.ext (l2 w os) (U w os))
end Pb
namespace Pb
open L2
noncomputable section
noncomputable def hF (x q:Str) (s:Stmt) (m:Str) (n c:Nat):Obj:=.mk (.type "function") none (.func (.mk x q (gE s) (.stmts (fZ s)) (dD s) 3 [] .none .none .none (.str m n) none (.ref c) .none 0)) #[]
noncomputable def hR (x q:Str) (s:Stmt):Obj:=.mk .none none (.func (.mk x q (gE s) (.stmts (fZ s)) (dD s) 0 [] .none .none .none .none none .none .none 0)) #[]
noncomputable def hC (x q:Str) (a l n k r e:Nat):Obj:=.mk (.type "code") none (.fields #[.str x a,.str q (a+1),.str (.ofString "/claim/cut.py") (a+2),.int l 0,.int n 0,.int 0 0,.int 0 0,.int k 0,.ref r,.bool true,.int 181 0,.ref (r+1),.none,.ref (r+2),.ref (r+3),.ref (r+4),.int e 0,.int l 0,.str (.ofString "/claim/cut.py") (e+1)]) #[]
noncomputable def Ad (x q:Str) (a l n k r e:Nat):Obj:=.mk (.type "code") none (.fields #[.str x a,.str q (a+1),.str (.ofString "/claim/cut.py") (a+2),.int l 0,.int n 0,.int 0 0,.int 0 0,.int k 0,.ref r,.bool true,.int 181 0,.ref (r+1),.none,.none,.none,.ref (r+2),.int e 0,.int l 0,.str (.ofString "/claim/cut.py") (e+1)]) #[]
noncomputable def hK (x:Str) (a l r e:Nat):Obj:=.mk (.type "code") none (.fields #[.str x a,.str x (a+1),.str (.ofString "/claim/cut.py") (a+2),.int l 0,.int 0 0,.int 0 0,.int 0 0,.int 0 0,.ref r,.bool false,.int 181 0,.ref (r+1),.none,.none,.none,.none,.int e 0,.int l 0,.str (.ofString "/claim/cut.py") (e+1)]) #[]
noncomputable def eI (x:Str) (s:Stmt) (m:Str) (n c:Nat):Obj:=hF x x s m n c
noncomputable def eJ (x:Str) (s:Stmt):Obj:=hR x x s
noncomputable def eZ (x:Str) (a l n k r e:Nat):Obj:=hC x x a l n k r e
noncomputable def iy (x:Str) (a l n k r e:Nat):Obj:=Ad x x a l n k r e
noncomputable def tS:Nat->List Str->List Value
 |_,[]=>[]
 |n,x::r=>.str x n::tS (n+1) r
noncomputable def hT (n:Nat) (l:List Str):Obj:=.mk (.type "tuple") none (.seq (tS n l).toArray) #[]
noncomputable def tI:List (Nat × Nat × Nat)->List Value
 |[]=>[]
 |(a,b,c)::r=>.int a 0:: .int b 0:: .ref c::tI r
noncomputable def hI (l:List (Nat × Nat × Nat)):Obj:=.mk .none none (.fields (tI l).toArray) #[]
noncomputable def hE (P:Params) (x:Str) (a:Nat) (v:Value):DictEntry:=.mk (PyData.keyHash P x) (.str x a) v
def hT0:Obj:=hT 0 []
noncomputable def eu:Obj:=.mk .none none (.fields #[]) #[]
noncomputable def pA (a b:Nat) (m:String) (n:Nat):Obj:=.mk (.type "frame") none .plain #[some (.ref a),some (.ref 3),some (.ref b),none,some (.str (.ofString m) n),none,some (.ref 0)]
noncomputable def tO (r:Nat):Obj:=.mk (.type "super") none (.fields #[.ref r,.ref r,.ref r]) #[]
noncomputable def hIs (r:Nat):Obj:=.mk (.type "builtin_function_or_method") none (.fields #[.builtin "object.__init_subclass__",.ref r]) #[]
noncomputable def tQ:Obj:=.mk (.type "builtin_function_or_method") none (.fields #[.builtin "type.__prepare__",.type "type"]) #[]
noncomputable def pB (r:Nat):Obj:=.mk (.type "tuple") none (.seq #[.ref r]) #[]
noncomputable def Ae:Str:="putback.errors"
noncomputable def tR:Str:="putback.kinds"
noncomputable def jj:Str:="putback.values"
noncomputable def h9:Str:="putback.papers"
noncomputable def fM:Str:="law_putback_k10_one_step"
noncomputable def Gw (x q:Str) (s:Stmt) (m:Value) (c:Nat):Obj:=.mk (.type "function") none (.func (.mk x q (gE s) (.stmts (fZ s)) (dD s) 3 [] .none .none .none m none (.ref c) .none 0)) #[]
noncomputable def Gx (x q:Str) (a l n k r f b e:Nat):Obj:=.mk (.type "code") none (.fields #[.str x a,.str q (a+1),.str (.ofString "/claim/cut.py") (a+2),.int l 0,.int n 0,.int 0 0,.int 0 0,.int k 0,.ref r,.bool true,.int f 0,.ref (r+1),.none,.ref (r+2),.ref (r+3),.ref (r+4),.int b 0,.int l 0,.str (.ofString "/claim/cut.py") e]) #[]
noncomputable def Gy (P:Params) (x:Str) (a:Nat) (v:Value):DictEntry:=.mk (PyData.keyHash P x) (.str x a) v
noncomputable def Af:Obj:=.mk .none none (.dict #[]) #[]
noncomputable def tT (P:Params):Obj:=.mk (.type "dict") none (.dict #[hE P "__name__" 165 (.str (.ofString "law_putback_k10_one_step") 482),hE P "__doc__" 166 .none,hE P "__package__" 167 .none,hE P "__loader__" 168 (.builtin "__main__.__loader__#opaque"),hE P "__spec__" 169 .none,hE P "__annotations__" 170 (.ref 6),hE P "__builtins__" 171 (.ref 4),hE P "__file__" 173 (.str (.ofString "/claim/cut.py") 172),hE P "__cached__" 174 .none,hE P "ViewError" 206 (.ref 24),hE P "NoPaper" 231 (.ref 44),hE P "is_plain" 240 (.ref 53),hE P "kind_at" 249 (.ref 60),hE P "misfit" 260 (.ref 67),hE P "record_misfit" 271 (.ref 74),hE P "has_just" 277 (.ref 79),hE P "rows_misfit" 289 (.ref 86),hE P "is_pair" 296 (.ref 93),hE P "tree_misfit" 307 (.ref 100),hE P "either_misfit" 317 (.ref 107),hE P "rank" 327 (.ref 114),hE P "in_order" 336 (.ref 121),hE P "done" 350 (.ref 128),hE P "stepped" 361 (.ref 135),hE P "stepped_in_record" 375 (.ref 142),hE P "stepped_in_rows" 387 (.ref 149),hE P "ends_at_key" 395 (.ref 156),hE P "row_number" 406 (.ref 163),hE P "with_at" 415 (.ref 170),hE P "stepped_in_tree" 426 (.ref 177),hE P "stepped_in_arm" 439 (.ref 184),hE P "stepped_in_either" 451 (.ref 191),hE P "acted" 462 (.ref 198),hE P "with_row" 471 (.ref 205),hE P "without_row" 481 (.ref 212),hE P "_law_next" 493 (.ref 219),hE P "_law_number" 503 (.ref 226),hE P "_law_word" 509 (.ref 231),hE P "_law_names" 515 (.ref 236),hE P "_law_plain" 523 (.ref 243),hE P "_law_fields" 529 (.ref 248),hE P "_law_rows_kind" 535 (.ref 253),hE P "_law_kind" 545 (.ref 260),hE P "_law_rank" 553 (.ref 267),hE P "_law_rows" 559 (.ref 272),hE P "_law_value" 565 (.ref 277),hE P "_law_same" 571 (.ref 282),hE P "_law_twin" 577 (.ref 287),hE P "_law_deed" 583 (.ref 292),hE P "_law_deed_in" 601 (.ref 299),hE P "_law_deed_rows" 607 (.ref 304),hE P "_law_deed_tree" 623 (.ref 311),hE P "_law_wide_kind" 632 (.ref 318),hE P "_law_deeds" 646 (.ref 325),hE P "_law_flat" 652 (.ref 330),hE P "_law_wide_value" 664 (.ref 337),hE P "law" 678 (.ref 344)] 57) #[]
noncomputable def tU (P:Params):Obj:=.mk (.type "dict") none (.dict #[hE P "__module__" 196 (.str (.ofString "putback.errors") 187),hE P "__firstlineno__" 200 (.int 2 199),hE P "__static_attributes__" 201 (.ref 22),hE P "__weakref__" 203 (.ref 25),hE P "__doc__" 204 .none] 3) #[]
noncomputable def tV:Obj:=.mk (.type "type") none (.cls (.mk (.ofString "ViewError") [.type "ValueError"] [.ref 24,.type "ValueError",.type "Exception",.type "BaseException",.type "object"] 23 (.ofString "ViewError") true [] [.ref 44] false none false)) #[some (.ref 15),none,some (.str (.ofString "ViewError") 189),some (.str (.ofString "ViewError") 197),some (.builtin "ValueError.__new__"),some (.bool true)]
noncomputable def tW:Obj:=.mk (.type "getset_descriptor") none (.fields #[.str (.ofString "__weakref__") 202,.ref 24,.builtin "ExceptionGroup.__weakref__",.none]) #[]
def tX:Obj:=hC "__init__" "NoPaper.__init__" 219 6 2 3 35 224
def tY:Obj:=hF "__init__" "NoPaper.__init__" (tz 2 0) Ae 187 40
noncomputable def tZ (P:Params):Obj:=.mk (.type "dict") none (.dict #[hE P "__module__" 214 (.str (.ofString "putback.errors") 187),hE P "__firstlineno__" 218 (.int 4 217),hE P "__init__" 226 (.ref 41),hE P "__static_attributes__" 228 (.ref 42),hE P "__doc__" 229 .none] 2) #[]
noncomputable def t4:Obj:=.mk (.type "type") none (.cls (.mk (.ofString "NoPaper") [.ref 24] [.ref 44,.ref 24,.type "ValueError",.type "Exception",.type "BaseException",.type "object"] 43 (.ofString "NoPaper") true [] [] false none false)) #[some (.ref 28),none,some (.str (.ofString "NoPaper") 207),some (.str (.ofString "NoPaper") 215),some (.builtin "ValueError.__new__"),some (.bool true)]
def t5:Obj:=eZ "is_plain" 234 9 1 3 47 238
def t7:Obj:=eI "is_plain" (top 4) tR 232 52
def t8:Obj:=eZ "kind_at" 241 11 2 3 54 247
def t9:Obj:=eI "kind_at" (top 5) tR 232 59
def t_:Obj:=eZ "misfit" 252 17 2 3 61 258
def ua:Obj:=eI "misfit" (top 7) jj 250 66
def ub:Obj:=eZ "record_misfit" 261 30 2 3 68 269
def uc:Obj:=eI "record_misfit" (top 8) jj 250 73
def ud:Obj:=iy "has_just" 272 38 2 3 75 275
def ue:Obj:=eI "has_just" (top 9) jj 250 78
def uf:Obj:=eZ "rows_misfit" 278 40 2 3 80 287
def ug:Obj:=eI "rows_misfit" (top 10) jj 250 85
def uh:Obj:=eZ "is_pair" 290 54 1 3 87 294
def ui:Obj:=eI "is_pair" (top 11) jj 250 92
def uj:Obj:=eZ "tree_misfit" 297 56 2 3 94 305
def uk:Obj:=eI "tree_misfit" (top 12) jj 250 99
def um:Obj:=eZ "either_misfit" 308 67 2 3 101 315
def uo:Obj:=eI "either_misfit" (top 13) jj 250 106
def uq:Obj:=eZ "rank" 318 77 2 3 108 325
def ur:Obj:=eI "rank" (top 14) jj 250 113
def uu:Obj:=eZ "in_order" 328 83 2 3 115 334
def uv:Obj:=eI "in_order" (top 15) jj 250 120
def uw:Obj:=eZ "done" 339 86 3 3 122 348
def ux:Obj:=eI "done" (top 17) h9 337 127
def uy:Obj:=eZ "stepped" 351 93 4 3 129 359
def uz:Obj:=eI "stepped" (top 18) h9 337 134
def uA:Obj:=eZ "stepped_in_record" 362 106 4 3 136 373
def uB:Obj:=eI "stepped_in_record" (top 19) h9 337 141
def uC:Obj:=eZ "stepped_in_rows" 376 117 4 3 143 385
def uD:Obj:=eI "stepped_in_rows" (top 20) h9 337 148
def uE:Obj:=eZ "ends_at_key" 388 125 2 3 150 393
def uF:Obj:=eI "ends_at_key" (top 21) h9 337 155
def uG:Obj:=eZ "row_number" 396 127 3 3 157 404
def uH:Obj:=eI "row_number" (top 22) h9 337 162
def uI:Obj:=eZ "with_at" 407 134 3 3 164 413
def uJ:Obj:=eI "with_at" (top 23) h9 337 169
def uK:Obj:=eZ "stepped_in_tree" 416 136 4 3 171 424
def uL:Obj:=eI "stepped_in_tree" (top 24) h9 337 176
def uM:Obj:=eZ "stepped_in_arm" 427 141 4 3 178 437
def uN:Obj:=eI "stepped_in_arm" (top 25) h9 337 183
def uO:Obj:=eZ "stepped_in_either" 440 148 4 3 185 449
def uP:Obj:=eI "stepped_in_either" (top 26) h9 337 190
def uQ:Obj:=eZ "acted" 452 154 3 3 192 460
def uR:Obj:=eI "acted" (top 27) h9 337 197
def uS:Obj:=eZ "with_row" 463 168 3 3 199 469
def uT:Obj:=eI "with_row" (top 28) h9 337 204
def uU:Obj:=eZ "without_row" 472 174 3 3 206 479
def uV:Obj:=eI "without_row" (top 29) h9 337 211
def uW:Obj:=eZ "_law_next" 484 178 2 3 213 491
def uX:Obj:=eI "_law_next" (top 31) fM 482 218
def uY:Obj:=eZ "_law_number" 494 183 2 3 220 501
def uZ:Obj:=eI "_law_number" (top 32) fM 482 225
def u3:Obj:=iy "_law_word" 504 189 2 3 227 507
def u4:Obj:=eI "_law_word" (top 33) fM 482 230
def u5:Obj:=iy "_law_names" 510 195 3 3 232 513
def u6:Obj:=eI "_law_names" (top 34) fM 482 235
def u7:Obj:=eZ "_law_plain" 516 203 2 3 237 521
def u9:Obj:=eI "_law_plain" (top 35) fM 482 242
def u_:Obj:=iy "_law_fields" 524 205 4 3 244 527
def va:Obj:=eI "_law_fields" (top 36) fM 482 247
def vb:Obj:=iy "_law_rows_kind" 530 207 4 3 249 533
def ve:Obj:=eI "_law_rows_kind" (top 37) fM 482 252
def vf:Obj:=eZ "_law_kind" 536 215 3 3 254 543
def vg:Obj:=eI "_law_kind" (top 38) fM 482 259
def vh:Obj:=eZ "_law_rank" 546 226 2 3 261 551
def vi:Obj:=eI "_law_rank" (top 39) fM 482 266
def vj:Obj:=iy "_law_rows" 554 228 4 3 268 557
def vk:Obj:=eI "_law_rows" (top 40) fM 482 271
def vm:Obj:=iy "_law_value" 560 233 4 3 273 563
def vn:Obj:=eI "_law_value" (top 41) fM 482 276
def vo:Obj:=iy "_law_same" 566 248 2 3 278 569
def vp:Obj:=eI "_law_same" (top 42) fM 482 281
def vq:Obj:=iy "_law_twin" 572 260 1 3 283 575
def vw:Obj:=eI "_law_twin" (top 43) fM 482 286
def vx:Obj:=iy "_law_deed" 578 271 5 3 288 581
def vy:Obj:=eI "_law_deed" (top 44) fM 482 291
def vz:Obj:=eZ "_law_deed_in" 584 285 6 3 293 599
def vA:Obj:=eI "_law_deed_in" (top 45) fM 482 298
def vB:Obj:=iy "_law_deed_rows" 602 296 5 3 300 605
def vC:Obj:=eI "_law_deed_rows" (top 46) fM 482 303
def vD:Obj:=eZ "_law_deed_tree" 608 311 5 3 305 621
def vE:Obj:=eI "_law_deed_tree" (top 47) fM 482 310
def vF:Obj:=eZ "_law_wide_kind" 624 326 2 3 312 630
def vG:Obj:=eI "_law_wide_kind" (top 48) fM 482 317
def vH:Obj:=eZ "_law_deeds" 633 333 5 3 319 644
def vI:Obj:=eI "_law_deeds" (top 49) fM 482 324
def vJ:Obj:=iy "_law_flat" 647 341 1 3 326 650
def vK:Obj:=eI "_law_flat" (top 50) fM 482 329
def vL:Obj:=eZ "_law_wide_value" 653 343 3 3 331 662
def vM:Obj:=eI "_law_wide_value" (top 51) fM 482 336
def vN:Obj:=eZ "law" 665 352 1 3 338 676
def vO:Obj:=eI "law" (top 52) fM 482 343
noncomputable def Ag (P:Params):Obj:=.mk (.type "dict") none (.dict #[hE P "__name__" 165 (.str (.ofString "putback.papers") 337),hE P "__doc__" 166 .none,hE P "__package__" 167 .none,hE P "__loader__" 168 (.builtin "__main__.__loader__#opaque"),hE P "__spec__" 169 .none,hE P "__annotations__" 170 (.ref 6),hE P "__builtins__" 171 (.ref 4),hE P "__file__" 173 (.str (.ofString "/claim/cut.py") 172),hE P "__cached__" 174 .none,hE P "ViewError" 206 (.ref 24),hE P "NoPaper" 231 (.ref 44),hE P "is_plain" 240 (.ref 53),hE P "kind_at" 249 (.ref 60),hE P "misfit" 260 (.ref 67),hE P "record_misfit" 271 (.ref 74),hE P "has_just" 277 (.ref 79),hE P "rows_misfit" 289 (.ref 86),hE P "is_pair" 296 (.ref 93),hE P "tree_misfit" 307 (.ref 100),hE P "either_misfit" 317 (.ref 107),hE P "rank" 327 (.ref 114),hE P "in_order" 336 (.ref 121),hE P "done" 350 (.ref 128),hE P "stepped" 361 (.ref 135),hE P "stepped_in_record" 375 (.ref 142),hE P "stepped_in_rows" 387 (.ref 149),hE P "ends_at_key" 395 (.ref 156)] 27) #[]
noncomputable def Ah (P:Params):List Obj:=hT0::hI [(2,0,20),(4,0,33),(9,0,52),(11,0,59),(17,0,66),(30,0,73),(38,0,78),(40,0,85),(54,0,92),(56,0,99),(67,0,106),(77,0,113),(83,0,120),(86,0,127),(93,0,134),(106,0,141),(117,0,148),(125,0,155)]::hK "<module>" 182 1 11 185::pA 13 3 "__main__" 164:: .mk (.type "tuple") none (.seq #[.type "ValueError"]) #[]::tQ:: .mk (.type "dict") none (.dict #[hE P "__module__" 196 (.str (.ofString "putback.errors") 187),hE P "__qualname__" 198 (.str (.ofString "ViewError") 197),hE P "__firstlineno__" 200 (.int 2 199),hE P "__static_attributes__" 201 (.ref 22)] 4) #[]::hT0::eu::hK "ViewError" 191 2 18 194::pA 20 17 "putback.errors" 187::hT0::tU P::tV::tW::tO 24::hIs 24::pB 24::tQ:: .mk (.type "dict") none (.dict #[hE P "__module__" 214 (.str (.ofString "putback.errors") 187),hE P "__qualname__" 216 (.str (.ofString "NoPaper") 215),hE P "__firstlineno__" 218 (.int 4 217),hE P "__init__" 226 (.ref 41),hE P "__static_attributes__" 228 (.ref 42)] 5) #[]::hT0::hI [(6,4,40)]::hK "NoPaper" 209 4 31 212::pA 33 30 "putback.errors" 187::hT0::eu::hT 222 ["self","at"]::hT0::hR "__init__" "NoPaper.__init__" (tz 2 0)::tX::tY::hT 227 ["at"]::tZ P::t4::tO 44::hIs 44::hT0::eu::hT 237 ["kind"]::hT0::eJ "is_plain" (top 4)::t5::t7::hT0::eu::hT 244 ["fields","name","pair"]::hT0::eJ "kind_at" (top 5)::t8::t9::hT0::eu::hT 255 ["kind","value","form"]::hT0::eJ "misfit" (top 7)::t_::ua::hT0::eu::hT 264 ["fields","record","name","inner","place"]::hT0::eJ "record_misfit" (top 8)::ub::uc::hT0::eu::eJ "has_just" (top 9)::ud::ue::hT0::eu::hT 281 ["kind","rows","earlier","number","row","place"]::hT0::eJ "rows_misfit" (top 10)::uf::ug::hT0::eu::hT 293 ["value"]::hT0::eJ "is_pair" (top 11)::uh::ui::hT0::eu::hT 300 ["kind","tree","place","number","arm"]::hT0::eJ "tree_misfit" (top 12)::uj::uk::hT0::eu::hT 311 ["fields","value","inner","place"]::hT0::eJ "either_misfit" (top 13)::um::uo::hT0::eu::hT 321 ["kind","row","key","by"]::hT0::eJ "rank" (top 14)::uq::ur::hT0::eu::hT 331 ["kind","rows"]::hT 333 ["kind"]::eJ "in_order" (top 15)::uu::uv::hT0::eu::hT 342 ["kind","paper","value","now","number","step"]::hT0::eJ "done" (top 17)::uw::ux::hT0::eu::hT 354 ["kind","step","path","value","form"]::hT0::eJ "stepped" (top 18)::uy::uz::hT0::eu::hT 365 ["fields","step","path","record","name","inner","part","fresh"]::hT0::eJ "stepped_in_record" (top 19)::uA::uB::hT0::eu::hT 379 ["kind","step","path","rows","number","row"]::hT0::eJ "stepped_in_rows" (top 20)::uC::uD::hT0::eu::hT 391 ["kind","path"]::hT0::eJ "ends_at_key" (top 21)::uE::uF::[]
noncomputable def endL (P:Params):List Obj:=hT0::eu::hT 399 ["kind","rows","key","number","row"]::hT0::eJ "row_number" (top 22)::uG::uH::hT0::eu::hT 410 ["things","number","thing"]::hT0::eJ "with_at" (top 23)::uI::uJ::hT0::eu::hT 419 ["kind","step","path","tree","knot"]::hT0::eJ "stepped_in_tree" (top 24)::uK::uL::hT0::eu::hT 430 ["kind","step","path","tree","number","arms","arm"]::hT0::eJ "stepped_in_arm" (top 25)::uM::uN::hT0::eu::hT 443 ["fields","step","path","value","name","part"]::hT0::eJ "stepped_in_either" (top 26)::uO::uP::hT0::eu::hT 455 ["kind","step","value","deed","form"]::hT0::eJ "acted" (top 27)::uQ::uR::hT0::eu::hT 466 ["kind","rows","row"]::hT0::eJ "with_row" (top 28)::uS::uT::hT0::eu::hT 475 ["kind","rows","key","number"]::hT0::eJ "without_row" (top 29)::uU::uV::hT0::eu::hT 487 ["_law_script","_law_at","_law_cell","_law_m"]::hT0::eJ "_law_next" (top 31)::uW::uX::hT0::eu::hT 497 ["_law_script","_law_at","_law_m","_law_cell"]::hT0::eJ "_law_number" (top 32)::uY::uZ::hT0::eu::eJ "_law_word" (top 33)::u3::u4::hT0::eu::eJ "_law_names" (top 34)::u5::u6::hT0::eu::hT 519 ["_law_script","_law_at"]::hT0::eJ "_law_plain" (top 35)::u7::u9::hT0::eu::eJ "_law_fields" (top 36)::u_::va::hT0::eu::eJ "_law_rows_kind" (top 37)::vb::ve::hT0::eu::hT 539 ["_law_script","_law_at","_law_deep","_law_m"]::hT0::eJ "_law_kind" (top 38)::vf::vg::hT0::eu::hT 549 ["_law_kind_here","_law_row"]::hT0::eJ "_law_rank" (top 39)::vh::vi::hT0::eu::eJ "_law_rows" (top 40)::vj::vk::hT0::eu::eJ "_law_value" (top 41)::vm::vn::hT0::eu::eJ "_law_same" (top 42)::vo::vp::hT0::eu::eJ "_law_twin" (top 43)::vq::vw::hT0::eu::eJ "_law_deed" (top 44)::vx::vy::hT0::eu::hT 587 ["_law_script","_law_at","_law_fields_here","_law_lead","_law_value_here","_law_path","_law_m","_law_k","_law_name","_law_inner","_law_deed_here","_law_made"]::hT0::eJ "_law_deed_in" (top 45)::vz::vA::hT0::eu::eJ "_law_deed_rows" (top 46)::vB::vC::hT0::eu::hT 611 ["_law_script","_law_at","_law_kind_here","_law_value_here","_law_path","_law_m","_law_many","_law_k","_law_deed_here","_law_fresh"]::hT0::eJ "_law_deed_tree" (top 47)::vD::vE::hT0::eu::hT 627 ["_law_script","_law_at","_law_m"]::hT0::eJ "_law_wide_kind" (top 48)::vF::vG::hT0::eu::hT 636 ["_law_script","_law_at","_law_kind_here","_law_value_here","_law_many","_law_paper","_law_k","_law_deed_here"]::hT0::eJ "_law_deeds" (top 49)::vH::vI::hT0::eu::eJ "_law_flat" (top 50)::vJ::vK::hT0::eu::hT 656 ["_law_script","_law_at","_law_kind_here","_law_m","_law_value_here","_law_k"]::hT0::eJ "_law_wide_value" (top 51)::vL::vM::hT0::eu::hT 668 ["_law_script","_law_at","_law_kind_here","_law_value_here","_law_paper","_law_due","_law_handed","_law_found"]::hT0::eJ "law" (top 52)::vN::vO::[]
noncomputable def Ai (P:Params):List (Nat × Obj):=(nat_lit 3,tT P)::(nat_lit 12,hI [(2,0,20),(4,0,33),(9,0,52),(11,0,59),(17,0,66),(30,0,73),(38,0,78),(40,0,85),(54,0,92),(56,0,99),(67,0,106),(77,0,113),(83,0,120),(86,0,127),(93,0,134),(106,0,141),(117,0,148),(125,0,155),(127,0,162),(134,0,169),(136,0,176),(141,0,183),(148,0,190),(154,0,197),(168,0,204),(174,0,211),(178,0,218),(183,0,225),(189,0,230),(195,0,235),(203,0,242),(205,0,247),(207,0,252),(215,0,259),(226,0,266),(228,0,271),(233,0,276),(248,0,281),(260,0,286),(271,0,291),(285,0,298),(296,0,303),(311,0,310),(326,0,317),(333,0,324),(341,0,329),(343,0,336),(352,0,343)])::[]
end
noncomputable def KK:PySem.Params->W.Frag:=λP=>(nat_lit 2,Af)::(nat_lit 3,tT P)::(nat_lit 23,tU P)::(nat_lit 24,tV)::(nat_lit 25,tW)::(nat_lit 40,tX)::(nat_lit 41,tY)::(nat_lit 43,tZ P)::(nat_lit 44,t4)::(nat_lit 52,t5)::(nat_lit 53,t7)::(nat_lit 59,t8)::(nat_lit 60,t9)::(nat_lit 66,t_)::(nat_lit 67,ua)::(nat_lit 73,ub)::(nat_lit 74,uc)::(nat_lit 78,ud)::(nat_lit 79,ue)::(nat_lit 85,uf)::(nat_lit 86,ug)::(nat_lit 92,uh)::(nat_lit 93,ui)::(nat_lit 99,uj)::(nat_lit 100,uk)::(nat_lit 106,um)::(nat_lit 107,uo)::(nat_lit 113,uq)::(nat_lit 114,ur)::(nat_lit 120,uu)::(nat_lit 121,uv)::(nat_lit 127,uw)::(nat_lit 128,ux)::(nat_lit 134,uy)::(nat_lit 135,uz)::(nat_lit 141,uA)::(nat_lit 142,uB)::(nat_lit 148,uC)::(nat_lit 149,uD)::(nat_lit 155,uE)::(nat_lit 156,uF)::(nat_lit 162,uG)::(nat_lit 163,uH)::(nat_lit 169,uI)::(nat_lit 170,uJ)::(nat_lit 176,uK)::(nat_lit 177,uL)::(nat_lit 183,uM)::(nat_lit 184,uN)::(nat_lit 190,uO)::(nat_lit 191,uP)::(nat_lit 197,uQ)::(nat_lit 198,uR)::(nat_lit 204,uS)::(nat_lit 205,uT)::(nat_lit 211,uU)::(nat_lit 212,uV)::(nat_lit 218,uW)::(nat_lit 219,uX)::(nat_lit 225,uY)::(nat_lit 226,uZ)::(nat_lit 230,u3)::(nat_lit 231,u4)::(nat_lit 235,u5)::(nat_lit 236,u6)::(nat_lit 242,u7)::(nat_lit 243,u9)::(nat_lit 247,u_)::(nat_lit 248,va)::(nat_lit 252,vb)::(nat_lit 253,ve)::(nat_lit 259,vf)::(nat_lit 260,vg)::(nat_lit 266,vh)::(nat_lit 267,vi)::(nat_lit 271,vj)::(nat_lit 272,vk)::(nat_lit 276,vm)::(nat_lit 277,vn)::(nat_lit 281,vo)::(nat_lit 282,vp)::(nat_lit 286,vq)::(nat_lit 287,vw)::(nat_lit 291,vx)::(nat_lit 292,vy)::(nat_lit 298,vz)::(nat_lit 299,vA)::(nat_lit 303,vB)::(nat_lit 304,vC)::(nat_lit 310,vD)::(nat_lit 311,vE)::(nat_lit 317,vF)::(nat_lit 318,vG)::(nat_lit 324,vH)::(nat_lit 325,vI)::(nat_lit 329,vJ)::(nat_lit 330,vK)::(nat_lit 336,vL)::(nat_lit 337,vM)::(nat_lit 343,vN)::(nat_lit 344,vO)::[]
noncomputable def jF:List Nat:=nat_lit 2::nat_lit 3::nat_lit 23::nat_lit 24::nat_lit 25::nat_lit 40::nat_lit 41::nat_lit 43::nat_lit 44::nat_lit 52::nat_lit 53::nat_lit 59::nat_lit 60::nat_lit 66::nat_lit 67::nat_lit 73::nat_lit 74::nat_lit 78::nat_lit 79::nat_lit 85::nat_lit 86::nat_lit 92::nat_lit 93::nat_lit 99::nat_lit 100::nat_lit 106::nat_lit 107::nat_lit 113::nat_lit 114::nat_lit 120::nat_lit 121::nat_lit 127::nat_lit 128::nat_lit 134::nat_lit 135::nat_lit 141::nat_lit 142::nat_lit 148::nat_lit 149::nat_lit 155::nat_lit 156::nat_lit 162::nat_lit 163::nat_lit 169::nat_lit 170::nat_lit 176::nat_lit 177::nat_lit 183::nat_lit 184::nat_lit 190::nat_lit 191::nat_lit 197::nat_lit 198::nat_lit 204::nat_lit 205::nat_lit 211::nat_lit 212::nat_lit 218::nat_lit 219::nat_lit 225::nat_lit 226::nat_lit 230::nat_lit 231::nat_lit 235::nat_lit 236::nat_lit 242::nat_lit 243::nat_lit 247::nat_lit 248::nat_lit 252::nat_lit 253::nat_lit 259::nat_lit 260::nat_lit 266::nat_lit 267::nat_lit 271::nat_lit 272::nat_lit 276::nat_lit 277::nat_lit 281::nat_lit 282::nat_lit 286::nat_lit 287::nat_lit 291::nat_lit 292::nat_lit 298::nat_lit 299::nat_lit 303::nat_lit 304::nat_lit 310::nat_lit 311::nat_lit 317::nat_lit 318::nat_lit 324::nat_lit 325::nat_lit 329::nat_lit 330::nat_lit 336::nat_lit 337::nat_lit 343::nat_lit 344::[]
noncomputable def vP (P:PySem.Params):W.BT:=px 11 (Ah P) ((pz P).ins 3 (Ag P))
noncomputable def Aj (P:PySem.Params):W.BT:=tG (Ai P) (px 157 (endL P) (vP P))
noncomputable def qv:PySem.Program:={ PySem.Challenge.pw_putback_k10_one_step with main:={ (PySem.Challenge.pw_putback_k10_one_step).main with body:=top 1::top 2::top 4::top 5::top 7::top 8::top 9::top 10::top 11::top 12::top 13::top 14::top 15::top 17::top 18::top 19::top 20::top 21::top 22::top 23::top 24::top 25::top 26::top 27::top 28::top 29::top 31::top 32::top 33::top 34::top 35::top 36::top 37::top 38::top 39::top 40::top 41::top 42::top 43::top 44::top 45::top 46::top 47::top 48::top 49::top 50::top 51::top 52::[] } }
theorem j_ (P:PySem.Params):jF=(KK P).map (·.1):=by kernel_rfl
noncomputable def vQ (w:PySem.World) (os:PySem.OsState):W.SharedT:=⟨vP w.params,157,(W.boot_heap w.params).life,#[],W.boot_drawn,396,os⟩
noncomputable def kc (w:PySem.World) (os:PySem.OsState):W.SharedT:=⟨Aj w.params,345,(W.boot_heap w.params).life,#[],W.boot_drawn,679,os⟩
noncomputable def pC:List PySem.Stmt:=W.behindTheImports (W.OpenLaw.row PySem.Challenge.rw_putback_k10_one_step).prog
noncomputable def ny:PySem.Env:={ scope:=((W.OpenLaw.row PySem.Challenge.rw_putback_k10_one_step).prog).main.scope,locals:=PySem.mainNs,globals:=PySem.mainNs,cells:=[],code:=.ref 13,frame:=some 14 }
noncomputable def l7:PySem.Code:=.body (W.behindTheImports (W.OpenLaw.row PySem.Challenge.rw_putback_k10_one_step).prog) ny
open W PyProof.Rows in
theorem Ak:∀w os,nu (W.OpenLaw.row PySem.Challenge.rw_putback_k10_one_step).prog w 11 (some (.ref 6)) ny l7 ⟨0,0,0,0⟩ (pC.take 22) 12 1 5000 (nv w os)=some (⟨iI iJ (.body (behindTheImports (W.OpenLaw.row PySem.Challenge.rw_putback_k10_one_step).prog) ny),l7,⟨0,0,0,0⟩,[topFrame ⟨0,0,0,0⟩]⟩,l7,l7,vQ w os,⟨125,0,126,48⟩):=by
 intro w os
 kernel_rfl
open W PyProof.Rows in
theorem Al:∀w os,j9 (W.OpenLaw.row PySem.Challenge.rw_putback_k10_one_step).prog w 11 (some (.ref 6)) 6000 (vQ w os) (restOf (pC.drop 22) ny l7 ⟨125,0,126,48⟩ [topFrame ⟨0,0,0,0⟩])=some (kc w os):=by
 intro w os
 kernel_rfl
open W PyProof.Rows in
theorem Am:∀w os,(staticsOk (importedModules ((W.OpenLaw.row PySem.Challenge.rw_putback_k10_one_step).prog).main.body) (boot_heap w.params) (kc w os).abs.heap && namesBound (W.OpenLaw.row PySem.Challenge.rw_putback_k10_one_step).prog (kc w os).abs.heap && gensDone (kc w os).abs && laidKept (boot_heap w.params) (kc w os).abs.heap)=true:=by
 intro w os
 kernel_rfl
open W PyProof.Rows in
theorem An:∀w os,seenQ qv [] (importedModules ((W.OpenLaw.row PySem.Challenge.rw_putback_k10_one_step).prog).main.body) (λs=>xlAt qv [] s && recOk (RowW.records (W.OpenRow.toRowW (W.OpenLaw.row PySem.Challenge.rw_putback_k10_one_step))) s) true (kc w os).abs=openGood qv []:=by
 intro w os
 kernel_rfl
open W PyProof.Rows in
theorem Ao:∀w os,Hook.obs (W.kmHook Pb.KK Pb.jF Pb.j_ [116,269,339]) (kc w os).abs=Hook.val (W.kmHook Pb.KK Pb.jF Pb.j_ [116,269,339]) w:=by
 intro w os
 kernel_rfl
open W PyProof.Rows in
theorem said:PySem.Challenge.rw_putback_k10_one_step.wellSaid=true:=by
 delta OpenLaw.wellSaid OpenRow.wellSaid OpenRow.partSaid looksOpen
 repeat' (with_reducible refine look_both ?_ ?_)
 all_goals kernel_rfl
end Pb
namespace L2
open Spec PyProof.Rows
noncomputable abbrev Key:=Sum Int Str
noncomputable def jG:Key->Value->Bool
 | .inl k,v=>Value.isInt k v
 | .inr x,v=>Value.isStrOf x v
noncomputable def Ap (w:World):Key->Int
 | .inl k=>hashInt k
 | .inr x=>hashStr w x
theorem iX:∀{k:Key}{v:Value},jG k v=true->(∃i t,k=Sum.inl i/\v=Value.int i t)\/(∃x t,k=Sum.inr x/\v=Value.str x t)
 | .inl i,v,h=>by
   obtain⟨t,e⟩:=Value.isInt_shape (k:=i) (v:=v) h;exact .inl ⟨i,t,rfl,e⟩
 | .inr x,v,h=>by
   obtain⟨t,e⟩:=Value.isStrOf_shape (x:=x) (v:=v) h;exact .inr ⟨x,t,rfl,e⟩
theorem Aq (i:Int)(t:Tok):jG (.inl i) (.int i t)=true:=by simp[jG,Value.isInt]
theorem Ar (x:Str)(t:Tok):jG (.inr x) (.str x t)=true:=by simp[jG,Value.isStrOf]
theorem As (a b:Int):decide ((Sum.inl a:Key)=Sum.inl b)=(a == b):=by
 by_cases e:a=b
 . subst e;simp
 . have h:¬(Sum.inl a:Key)=Sum.inl b:=λq=>e (Sum.inl.inj q);rw[decide_eq_false h];exact(beq_eq_false_iff_ne.mpr e).symm
theorem Au (a b:Str):decide ((Sum.inr a:Key)=Sum.inr b)=decide (a=b):=by
 by_cases e:a=b
 . subst e;simp
 . have h:¬(Sum.inr a:Key)=Sum.inr b:=λq=>e (Sum.inr.inj q);rw[decide_eq_false h,decide_eq_false e]
theorem Av (a:Int)(b:Str):decide ((Sum.inl a:Key)=Sum.inr b)=false:=decide_eq_false (λq=>nomatch q)
theorem Aw (a:Str)(b:Int):decide ((Sum.inr a:Key)=Sum.inl b)=false:=decide_eq_false (λq=>nomatch q)
noncomputable def f9 (prog:Program) (w:World):PySem.KeyKind prog w Key where
 is:=jG
 hash:=Ap w
 inj:=λv a b U L=>by
  rcases iX U with⟨i,t,rfl,rfl⟩|⟨x,t,rfl,rfl⟩
  . rcases iX L with⟨j,u,rfl,e⟩|⟨y,u,rfl,e⟩
    . injection e with J _;rw[J]
    . exact nomatch e
  . rcases iX L with⟨j,u,rfl,e⟩|⟨y,u,rfl,e⟩
    . exact nomatch e
    . injection e with J _;rw[J]
 byValue:=λk v h=>by
  rcases iX h with⟨i,t,rfl,rfl⟩|⟨x,t,rfl,rfl⟩ <;> rfl
 pyHash:=λhv h=>by
  rcases iX hv with⟨i,t,rfl,rfl⟩|⟨x,t,rfl,rfl⟩
  . exact wpAny_pyHash_int h
  . exact wpAny_pyHash_str h
 eqBool:=λY hv h=>by
  rcases iX Y with⟨i,t,rfl,rfl⟩|⟨x,t,rfl,rfl⟩
  . rcases iX hv with⟨j,u,rfl,rfl⟩|⟨y,u,rfl,rfl⟩
    . rw[As] at h;exact wpAny_eqBool_int h
    . rw[Av] at h;exact SeqAt.EqAt.int_str i t y u _ _ _ _ h
  . rcases iX hv with⟨j,u,rfl,rfl⟩|⟨y,u,rfl,rfl⟩
    . rw[Aw] at h;exact SeqAt.EqAt.str_int x t j u _ _ _ _ h
    . rw[Au] at h;exact wpAny_eqBool_str h
 «strs»:=λk x t v h=>by
  rcases iX h with⟨i,u,rfl,e⟩|⟨y,u,rfl,e⟩
  . exact nomatch e
  . injection e with J _
    subst J
    cases v <;> rfl
theorem Ax (prog:Program)(w:World)(i:Int)(t:Tok):(f9 prog w).is (.inl i) (.int i t)=true:=Aq i t
theorem Ay (prog:Program)(w:World)(x:Str)(t:Tok):(f9 prog w).is (.inr x) (.str x t)=true:=Ar x t
inductive V where
 |non|bl (b:Bool)|int (i:Int)|str (x:Str)|iK (b:Array UInt8)|flt (b:UInt64)|ref (a:Addr)|ty (n:String)
 deriving DecidableEq
def RelV:V->Value->Prop
 | .non,u=>u=Value.none
 | .bl b,u=>u=Value.bool b
 | .int i,u=>∃t,u=Value.int i t
 | .str x,u=>∃t,u=Value.str x t
 | .iK b,u=>∃t,u=Value.bytes b t
 | .flt b,u=>∃t,u=Value.float b t
 | .ref a,u=>u=Value.ref a
 | .ty n,u=>u=Value.type n
abbrev Vals:List V->List Value->Prop:=Paired RelV
theorem Vals.length {xs:List V}{J:List Value}(r:Vals xs J):xs.length=J.length:=Paired.length r
theorem Vals.get:∀{xs:List V}{J:List Value}{i:Nat}{x:V},Vals xs J->xs[i]? =some x->∃u,J[i]? =some u/\RelV x u
 |_,_,_,_,.nil,e=>by simp at e
 |_,_,0,_,.cons r _,e=>by simp at e;subst e;exact⟨_,rfl,r⟩
 |_,_,i+1,x,.cons _ t,e=>by
  obtain⟨u,h1,h2⟩:=Vals.get (i:=i) (x:=x) t (by simpa using e);exact⟨u,by simpa using h1,h2⟩
theorem Vals.set {x:V}{u:Value}(r:RelV x u):∀{xs:List V}{J:List Value}(i:Nat),Vals xs J->Vals (xs.set i x) (J.set i u)
 |_,_,_,.nil=>.nil
 |_,_,0,.cons _ t=>.cons r t
 |_,_,i+1,.cons q t=>.cons q (Vals.set r i t)
theorem Vals.append:∀{xs ys:List V}{J ws:List Value},Vals xs J->Vals ys ws->Vals (xs++ys) (J++ws)
 |_,_,_,_,.nil,s=>s
 |_,_,_,_,.cons r t,s=>.cons r (Vals.append t s)
theorem Vals.take:∀{xs:List V}{J:List Value}(n:Nat),Vals xs J->Vals (xs.take n) (J.take n)
 |_,_,0,_=>.nil
 |_,_,_+1,.nil=>.nil
 |_,_,n+1,.cons r t=>.cons r (Vals.take n t)
theorem Vals.drop:∀{xs:List V}{J:List Value}(n:Nat),Vals xs J->Vals (xs.drop n) (J.drop n)
 |_,_,0,r=>r
 |_,_,_+1,.nil=>.nil
 |_,_,n+1,.cons _ t=>Vals.drop n t
theorem Vals.none_of:∀{xs:List V}{J:List Value}{i:Nat},Vals xs J->xs[i]? =none->J[i]? =none:=λ{xs J i} r e=>by
 have h1:=r.length;have h2:xs.length<=i:=List.getElem?_eq_none_iff.mp e;exact List.getElem?_eq_none_iff.mpr (by omega)
def iL:Option V->Option Value->Prop
 |some v,some u=>RelV v u
 |none,none=>True
 |_,_=>False
def KV {κ:Type}:List (κ × V)->List (κ × Value)->Prop:=Paired λ(p:κ × V) (q:κ × Value)=>p.1=q.1/\RelV p.2 q.2
noncomputable def kV:Key->V
 | .inl i=>.int i
 | .inr x=>.str x
inductive HO where
 |lst (xs:List V)
 |tup (xs:List V)
 |dK (kvs:List (Key × V))|dT (kvs:List (List Key × V))
 |set (S:Int->Bool) (n:Nat)
 |ins (C dx:Addr) (fs:List (Str × V))
 |own (x:Addr)
 |xd (fs:List (Str × V))
 |met (f x:Addr)
 |rng (lo hi:Int)
 |e8 (o:Obj) (u:HO)
 |eS (ps:Array Value)
 |ext (φ:Heap->Prop)
noncomputable abbrev Hp:=Addr->Option HO
noncomputable def upd (H:Hp) (a:Addr) (o:HO):Hp:=λb=>if b=a then some o else H b
theorem de {H:Hp}{a:Addr}{o:HO}:upd H a o a=some o:=by unfold upd;rw[if_pos rfl]
theorem dh {H:Hp}{a b:Addr}{o:HO}(h:b≠a):upd H a o b=H b:=by unfold upd;rw[if_neg h]
theorem gL {H:Hp}{a b:Addr}{o u:HO}(h:H a=some o)(h':H b=some u)(d:o≠u):a≠b:=by
 intro e;subst e;rw[h] at h';exact d (Option.some.inj h')
theorem dN {H:Hp}{a b:Addr}{o:HO}(h:H a=some o)(h':H b=none):a≠b:=by
 intro e;subst e;rw[h] at h';cases h'
section
variable (P:Program)(w:World)
def fi (H:Hp) (h:Heap) (a:Addr):HO->Prop
 | .lst xs=>xs.length<=sizeLine/\∃(J:List Value) (n:Nat),Vals xs J/\h.get? a=some { cls:=.type "list",data:=.seq J.toArray n }
 | .tup xs=>xs.length<=sizeLine/\∃J:List Value,Vals xs J/\IsTup h a J.toArray
 | .dK kvs=>kvs.length<=sizeLine/\(a == sysModules)=false/\∃vs,KV kvs vs/\h.DictOf (f9 P w) a vs
 | .dT kvs=>kvs.length<=sizeLine/\(a == sysModules)=false/\∃xs:List (List Key × Addr × Value),
    Paired (λ(p:List Key × V) (q:List Key × Addr × Value)=>p.1=q.1/\H q.2.1=some (.tup (p.1.map kV))/\RelV p.2 q.2.2) kvs xs/\
    ∃o es ep,h.get? a=some o/\o.ExactDict/\o.data=.dict es ep/\es.toList=xs.map (entryOfKey (tupleKind (f9 P w)))/\(xs.map (·.1)).Nodup
 | .set S n=>h.SetOf (intKind P w) a S n
 | .ins C dx fs=>H dx=some (.own a)/\fs.length<=1000/\dx≠a/\h.get? a=some (W.instObj C dx)/\
    ∃mA,h.Ns1 dx mA/\(∀f,iL (fs.lookup f) (mA f))/\PySem.Within mA (fs.map (·.1))
 | .own _=>∃o,h.get? a=some o
 | .xd fs=>∃mA,h.Ns1 a mA/\∀f,iL (fs.lookup f) (mA f)
 | .rng lo hi=>∃t u v,h.get? a=some { cls:=.type "range",data:=.fields #[.int lo t,.int hi u,.int 1 v] }
 | .e8 o u=>h.get? a=some o/\fi H h a u
 | .eS ps=>h.get? a=some { cls:=.none,data:=.fields ps }
 | .met f x=>h.get? a=some (W.methodObj (.ref f) (.ref x))
 | .ext L=>L h/\(∃o,h.get? a=some o)/\∀h1 h2:Heap,L h1->(∀o,h1.get? a=some o->h2.get? a=some o)->L h2
def fj (H:Hp) (h:Heap):Prop:=∀a o,H a=some o->fi P w H h a o
end
section
variable {P:Program}{w:World}{H H':Hp}{h h':Heap}{a:Addr}{o:HO}
theorem fi.lt (x:fi P w H h a o):a<h.objs.size:=by
 cases o with
 |lst xs=>obtain⟨_,_,_,_,e⟩:=x;exact Q03 e
 |tup xs=>obtain⟨_,_,_,p⟩:=x;exact p.lt
 |dK kvs=>obtain⟨_,_,_,_,o,_,_,e,_⟩:=x;exact Q03 e
 |dT kvs=>obtain⟨_,_,_,_,o,_,_,e,_⟩:=x;exact Q03 e
 |set S n=>obtain⟨o,_,_,_,e,_⟩:=x;exact Q03 e
 |ins C dx fs=>obtain⟨_,_,_,e,_⟩:=x;exact Q03 e
 |own y=>obtain⟨_,e⟩:=x;exact Q03 e
 |xd fs=>obtain⟨_,⟨_,_,_,e,_⟩,_⟩:=x;exact Q03 e
 |rng lo hi=>obtain⟨_,_,_,e⟩:=x;exact Q03 e
 |e8 J u=>obtain⟨e,_⟩:=x;exact Q03 e
 |eS ps=>exact Q03 (show h.get? a=some _ from x)
 |met f y=>exact Q03 (show h.get? a=some _ from x)
 |ext L=>obtain⟨_,⟨_,e⟩,_⟩:=x;exact Q03 e
theorem Paired.nz {α U:Type}{F G:α->U->Prop}:∀{J:List α}{L:List U},Paired F J L->(∀a b,F a b->G a b)->Paired G J L
 |_,_,.nil,_=>.nil
 |_,_,.cons r t,f=>.cons (f _ _ r) (Paired.nz t f)
theorem fi.stay (x:fi P w H h a o)(k:∀b u,(b=a\/H b=some (.own a))->h.get? b=some u->h'.get? b=some u)
 (Y:∀b,H b=some (.own a)->H' b=some (.own a)) (ht:∀b xs,H b=some (.tup xs)->H' b=some (.tup xs)):fi P w H' h' a o:=by
 induction o with
 |lst xs=>obtain⟨z,L,n,r,e⟩:=x;exact⟨z,L,n,r,k _ _ (.inl rfl) e⟩
 |tup xs=>obtain⟨z,L,r,J,e,c⟩:=x;exact⟨z,L,r,J,k _ _ (.inl rfl) e,c⟩
 |dK kvs=>obtain⟨z,y,vs,r,J,es,ep,e,c⟩:=x;exact⟨z,y,vs,r,J,es,ep,k _ _ (.inl rfl) e,c⟩
 |dT kvs=>
  obtain⟨z,y,xs,r,J,es,ep,e,c⟩:=x;exact⟨z,y,xs,Paired.nz r λp q z=>⟨z.1,ht _ _ z.2.1,z.2.2⟩,J,es,ep,k _ _ (.inl rfl) e,c⟩
 |set S n=>obtain⟨J,es,ep,t,e,c⟩:=x;exact⟨J,es,ep,t,k _ _ (.inl rfl) e,c⟩
 |ins C dx fs=>
  obtain⟨d,z,ne,e,mA,⟨U,es,ep,e2,c⟩,r⟩:=x;exact⟨Y _ d,z,ne,k _ _ (.inl rfl) e,mA,⟨U,es,ep,k _ _ (.inr d) e2,c⟩,r⟩
 |own y=>obtain⟨J,e⟩:=x;exact⟨J,k _ _ (.inl rfl) e⟩
 |xd fs=>obtain⟨mA,⟨U,es,ep,e,c⟩,r⟩:=x;exact⟨mA,⟨U,es,ep,k _ _ (.inl rfl) e,c⟩,r⟩
 |rng lo hi=>obtain⟨t,u,v,e⟩:=x;exact⟨t,u,v,k _ _ (.inl rfl) e⟩
 |e8 J u ih=>obtain⟨e,q⟩:=x;exact⟨k _ _ (.inl rfl) e,ih q⟩
 |eS ps=>
  have e:h.get? a=some { cls:=.none,data:=.fields ps }:=x;show h'.get? a=some { cls:=.none,data:=.fields ps };exact k a _ (.inl rfl) e
 |met f y=>
  have e:h.get? a=some (W.methodObj (.ref f) (.ref y)):=x;show h'.get? a=some (W.methodObj (.ref f) (.ref y));exact k a _ (.inl rfl) e
 |ext φ=>obtain⟨p,⟨o,e⟩,st⟩:=x;exact⟨st _ _ p λo q=>k _ _ (.inl rfl) q,⟨o,k _ _ (.inl rfl) e⟩,st⟩
theorem fj.lt (x:fj P w H h)(e:H a=some o):a<h.objs.size:=(x a o e).lt
theorem fj.fresh (x:fj P w H h)(e:h.objs.size<=a):H a=none:=by
 cases q:H a with
 |none=>rfl
 |some u=>exact absurd (Q0g (x.lt q) e) (Q0t _)
theorem fj.kept (x:fj P w H h)(k:∀b u,h.get? b=some u->h'.get? b=some u):fj P w H h':=λa o e=>
 (x a o e).stay (λb u _ q=>k b u q) (λ_ q=>q) λ_ _ q=>q
theorem fj.laid (x:fj P w H h)(k:∀b u,h.get? b=some u->h'.get? b=some u)(hp:h.objs.size<=a)(new:fi P w (upd H a o) h' a o):fj P w (upd H a o) h':=λb u e=>by
 have J:=x.fresh hp;by_cases L:b=a
 . subst L;rw[de] at e;cases e;exact new
 . rw[dh L] at e;exact(x b u e).stay (λc v _ q=>k c v q) (λc q=>by rw[dh (dN q J)];exact q) λc xs q=>by rw[dh (dN q J)];exact q
end
def Rd (H:Hp) (a:Addr) (u:HO):Prop:=H a=some u\/∃o,H a=some (.e8 o u)
theorem Rd.ok {P:Program}{w:World}{H:Hp}{h:Heap}{a:Addr}{u:HO}(r:Rd H a u)(x:fj P w H h):fi P w H h a u:=by
 rcases r with r|⟨o,r⟩
 . exact x a u r
 . obtain⟨_,q⟩:=x a _ r;exact q
def l8:Option HO->Prop
 |some (.lst _)=>True
 |some (.dK _)=>True
 |some (.dT _)=>True
 |some (.set _ _)=>True
 |some (.ins _ _ _)=>True
 |some (.ext _)=>True
 |_=>False
section
variable {P:Program}{w:World}{H:Hp}{h h':Heap}{x e:Addr}{o':HO}
theorem fj.write (ok:fj P w H h)(mu:l8 (H x))(he:e=x\/H e=some (.own x))(k:∀b u,b≠e->h.get? b=some u->h'.get? b=some u)(aa:∃u,h'.get? e=some u)
 (new:fi P w (upd H x o') h' x o'):fj P w (upd H x o') h':=λb u q=>by
 have L:∀c y,H c=some (.own y)->c≠x:=λc y r z=>by subst z;rw[r] at mu;exact mu
 have U:∀c xs,H c=some (.tup xs)->c≠x:=λc xs r z=>by subst z;rw[r] at mu;exact mu
 by_cases Y:b=x
 . subst Y;rw[de] at q;cases q;exact new
 . rw[dh Y] at q;by_cases J:b=e
   . have q':H b=some (.own x):=by
      rcases he with z|z
      . exact absurd (J.trans z) Y
      . rw[J];exact z
     rw[q] at q';cases q';obtain⟨v,hv⟩:=aa;exact⟨v,by rw[J];exact hv⟩
   . refine(ok b u q).stay (λc v hc r=>k c v ?_ r) (λc r=>by rw[dh (L c b r)];exact r) λc xs r=>by rw[dh (U c xs r)];exact r
     rcases hc with rfl|hc
     . exact J
     . rintro rfl;rcases he with z|z
       . exact L c b hc z
       . rw[hc] at z;cases z;exact Y rfl
end
structure Un (fs ex:List Addr) (H H':Hp) (h h':Heap):Prop where
 keep:∀b o,h.get? b=some o->H b=none->b ∉ fs->b ∉ ex->h'.get? b=some o
 slot:∀b o,h.get? b=some o->H b=none->b∈fs->b ∉ ex->∃sl,h'.get? b=some { o with slots:=sl }
 free:∀b o,h.get? b=some o->H b=none->b ∉ ex->H' b=none
 there:∀b o,h.get? b=some o->b ∉ ex->∃o',h'.get? b=some o'
 tups:∀b xs,H b=some (.tup xs)->H' b=some (.tup xs)
 iz:∀b o u,H b=some (.e8 o u)->H' b=some (.e8 o u)
 iM:∀b ps,H b=some (.eS ps)->∃more,H' b=some (.eS (ps++more))
section
variable {fs fs' ex ex':List Addr}{H H1 H2:Hp}{h h1 h2 h':Heap}{a x e:Addr}{o:HO}
theorem Un.any (u:Un fs ex H H1 h h1){b:Addr}{J:Obj}(q:h.get? b=some J)(n:H b=none)(L:b ∉ ex):∃sl,h1.get? b=some { J with slots:=sl }:=by
 by_cases U:b∈fs
 . exact u.slot b J q n U L
 . exact⟨J.slots,u.keep b J q n U L⟩
theorem Un.kept (k:∀b u,h.get? b=some u->h'.get? b=some u):Un fs ex H H h h':=
 ⟨λb J q _ _ _=>k b J q,λb J q _ _ _=>⟨J.slots,k b J q⟩,λ_ _ _ n _=>n,λb J q _=>⟨J,k b J q⟩,λ_ _ q=>q,λ_ _ _ q=>q,λ_ ps q=>⟨#[],by rw[q];simp⟩⟩
theorem Un.refl:Un fs ex H H h h:=Un.kept λ_ _ q=>q
theorem Un.laid (k:∀b u,h.get? b=some u->h'.get? b=some u)(hp:h.objs.size<=a)(J:H a=none):Un fs ex H (upd H a o) h h' where
 keep:=λb u q _ _ _=>k b u q
 slot:=λb u q _ _ _=>⟨u.slots,k b u q⟩
 free:=λb u q n _=>by rw[dh (Q0c (Q0g (Q03 q) hp))];exact n
 there:=λb u q _=>⟨u,k b u q⟩
 tups:=λb xs q=>by rw[dh (dN q J)];exact q
 iz:=λb u xs q=>by rw[dh (dN q J)];exact q
 iM:=λb ps q=>⟨#[],by rw[dh (dN q J),q];simp⟩
theorem Un.write (mu:l8 (H x))(he:e=x\/H e=some (.own x))(k:∀b u,b≠e->h.get? b=some u->h'.get? b=some u)(U:∃u,h'.get? e=some u):Un fs ex H (upd H x o) h h':=by
 have Y:∀b,H b=none->b≠x:=λb n z=>by subst z;rw[n] at mu;exact mu
 have hb:∀b,H b=none->b≠e:=λb n z=>by
  subst z;rcases he with r|r
  . exact Y b n r
  . rw[n] at r;cases r
 have L:∀b u,H b=some u->¬l8 (some u)->b≠x:=λb u q nm z=>by subst z;rw[q] at mu;exact nm mu
 refine⟨λb u q n _ _=>k b u (hb b n) q,λb u q n _ _=>⟨u.slots,k b u (hb b n) q⟩,λb u q n _=>by rw[dh (Y b n)];exact n,λb u q _=>?_,
  λb xs q=>by rw[dh (L b _ q λz=>z)];exact q,λb u xs q=>by rw[dh (L b _ q λz=>z)];exact q,λb ps q=>⟨#[],by rw[dh (L b _ q λz=>z),q];simp⟩⟩
 by_cases J:b=e
 . subst J;exact U
 . exact⟨u,k b u J q⟩
end
noncomputable def nA (h:Heap) (H:Hp):List Addr:=(List.range h.objs.size).filter λa=>(H a).isSome
noncomputable def iY (h:Heap) (H:Hp):Heap:=W.hideAll h (nA h H)
theorem Az (h:Heap)(H:Hp):(iY h H).objs.size=h.objs.size:=W.hideAll_size _ _
theorem AA {h:Heap}{H:Hp}{b:Addr}{o:Obj}(e:h.get? b=some o)(n:H b=none):(iY h H).get? b=some o:=
 W.hideAll_get _ e λJ=>by
   have q:(H b).isSome=true:=(List.mem_filter.mp J).2;rw[n] at q;simp at q
theorem AB {h:Heap}{H:Hp}{b:Addr}{o:Obj}(e:(iY h H).get? b=some o):h.get? b=some o/\H b=none:=by
 have J:h.get? b=some o:=W.of_hideAll (nA h H) e;refine⟨J,?_⟩
 cases q:H b with
 |none=>rfl
 |some x=>
  have L:b∈nA h H:=List.mem_filter.mpr ⟨List.mem_range.mpr (Q03 J),by simp[q]⟩;have z:(iY h H).get? b=none:=W.hideAll_none (nA h H) L;rw[z] at e;cases e
noncomputable def AD (g h:Heap) (L:Addr):List (Addr × Obj):=(List.range h.objs.size).filterMap λa=>if a=L\/(g.get? a).isSome=true then none else(h.get? a).map λo=>(a,o)
noncomputable def rest (g h:Heap) (L d:Addr):List (Addr × Obj):=(AD g h L).filter λp=>decide (p.1≠d)
structure Mod (K:W.Frag) (mg:Str->Option Value) (base:Heap):Prop where
 pE:K.In base
 glob:base.Ns mainGlobals mg
 blt:∃mb,base.Ns builtinsNs mb/\∀x:Str,x≠"__name__"->mb x=bootBuiltins x
 nolimit:base.NoLimit
structure Cx where
 prog:Program
 w:World
 K:W.Frag
 mg:Str->Option Value
 base:Heap
 A:Around
 N:List Str
 s₀:Shared
 H₀:Hp
 env:Env
 outer:List Env
 stack:List Env
 ex:List Addr
 fn:Str->Bool
 calm:Bool
 pn:List (Addr × Obj)
 xe:Value->Shared->Prop
noncomputable def frs (l:List Env):List Addr:=l.filterMap (·.frame)
noncomputable abbrev Cx.fs (X:Cx):List Addr:=frs X.outer
def nB (sc:Scope) (x:Str):Prop:=sc.names.lookup x=some .local\/sc.names.lookup x=some .cell\/sc.names.lookup x=some .free
def Loc (sc:Scope) (x:Str):Prop:=sc.names.lookup x=some .local\/sc.names.lookup x=some .cell
def Look (env:Env) (h:Heap) (m:Str->Option Value) (x:Str) (u:Value):Prop:=
 (env.kindOf x=some .local/\m x=some u)\/((env.kindOf x=some .cell\/env.kindOf x=some .free)/\∃c,env.cells.lookup x=some c/\h.IsCell c (some u))
structure Cx.Ok (X:Cx):Prop where
 mod:Mod X.K X.mg X.base
 kind:X.env.scope.kind=.function
 glob:X.env.globals=mainGlobals
 blt:X.env.builtins=builtinsNs
 above:X.s₀.heap.objs.size<=X.env.locals
 inj:∀x y c,X.env.cells.lookup x=some c->X.env.cells.lookup y=some c->x=y
 has:∀x,(X.env.kindOf x=some .cell\/X.env.kindOf x=some .free)->∃c,X.env.cells.lookup x=some c
 cab:∀x c,X.fn x=true->X.env.cells.lookup x=some c->X.s₀.heap.objs.size<=c
 hd:X.calm=true->X.A.handled=none
 frames:X.A.frames=some X.stack
 stk:X.stack=X.outer\/(X.stack=X.env::X.outer/\X.env.frame=some X.env.locals)
 nE:∀b∈X.ex,b≠X.env.locals/\∀x c,X.env.cells.lookup x=some c->c≠b
 bs:∀b o,X.base.get? b=some o->X.s₀.heap.get? b=some o/\X.H₀ b=none
 iN:X.base.objs.size<=X.s₀.heap.objs.size
 kg:∀b o,X.base.get? b=some o->b ∉ X.ex
 k_:∀b∈X.ex,b ∉ X.fs
 h_:X.s₀.heap.FunFrames X.base X.outer
 jH:∀b∈X.fs,X.H₀ b=none
structure Inv (X:Cx) (pins:List (Addr × Obj)) (σ:List (Option V)) (H:Hp) (s:Shared):Prop where
 ok:X.Ok
 os:s.os=X.s₀.os
 bare:AllBare s.gens
 base:Un X.fs X.ex X.H₀ H X.s₀.heap s.heap
 loc:∃m,s.heap.Ns X.env.locals m/\∀(i:Nat) (x:Str) (v:V),X.N[i]? =some x->σ[i]? =some (some v)->nB X.env.scope x->∃u,RelV v u/\Look X.env s.heap m x u
 cell:∀x c,X.env.cells.lookup x=some c->∃v,s.heap.IsCell c v
 free:H X.env.locals=none
 gM:∀x c,X.env.cells.lookup x=some c->H c=none
 pin:∀p∈X.pn++pins,s.heap.get? p.1=some p.2/\H p.1=none/\p.1≠X.env.locals/\p.1 ∉ X.fs/\∀v,p.2.data≠ .cell v
 hok:fj X.prog X.w H s.heap
 len:σ.length=X.N.length
section
variable {X:Cx}{pins:List (Addr × Obj)}{σ:List (Option V)}{H H':Hp}{s:Shared}{h':Heap}
theorem Cx.Ok.AE (ok:X.Ok){b:Addr}{o:Obj}(e:X.base.get? b=some o):b ∉ X.fs:=λJ=>by
 have:=(ok.h_.mem J).1;rw[e] at this;cases this
theorem Inv.bs (I:Inv X pins σ H s):∀b o,X.base.get? b=some o->s.heap.get? b=some o/\H b=none:=λb o e=>
 ⟨I.base.keep b o (I.ok.bs b o e).1 (I.ok.bs b o e).2 (I.ok.AE e) (I.ok.kg b o e),I.base.free b o (I.ok.bs b o e).1 (I.ok.bs b o e).2 (I.ok.kg b o e)⟩
theorem Inv.bk (I:Inv X pins σ H s):∀b o,X.base.get? b=some o->s.heap.get? b=some o:=λb o e=>(I.bs b o e).1
theorem Inv.mod (I:Inv X pins σ H s):Mod X.K X.mg X.base:=I.ok.mod
theorem Inv.gq (I:Inv X pins σ H s):X.K.In s.heap:=I.ok.mod.pE.keeps I.bk
theorem Inv.nolimit (I:Inv X pins σ H s):s.heap.NoLimit:=I.ok.mod.nolimit.keeps I.bk
theorem Inv.lt (I:Inv X pins σ H s):X.env.locals<s.heap.objs.size:=let⟨_,J,_⟩:=I.loc;J.lt
theorem Inv.sz (I:Inv X pins σ H s):X.s₀.heap.objs.size<=s.heap.objs.size:=Q0h I.ok.above (Q0v I.lt)
theorem Inv.la (I:Inv X pins σ H s){a:Addr}(h:s.heap.objs.size<=a):a ∉ X.fs:=λJ=>by
 obtain⟨_,o,L,_⟩:=I.ok.h_.mem J;exact absurd (Q0g (Q03 L) (Q0h I.sz h)) (Q0t _)
theorem Inv.kh (I:Inv X pins σ H s):∀x c,X.env.cells.lookup x=some c->c≠X.env.locals:=λx c e z=>by
 obtain⟨v,o,U,Y⟩:=I.cell x c e;obtain⟨m,⟨o',es,ep,J,L,_⟩,_⟩:=I.loc;rw[z,J] at U;cases U;rw[L] at Y;cases Y
theorem Inv.h_ (I:Inv X pins σ H s):s.heap.FunFrames X.base X.outer:=by
 have all:∀(l:List Env),(∀b∈frs l,b∈X.fs)->X.s₀.heap.FunFrames X.base l->s.heap.FunFrames X.base l:=by
  intro l
  induction l with
  |nil=>intro _ _;trivial
  |cons env r ih=>
   intro hs hl;obtain⟨hk,⟨L,o,J,hn,ho,hd⟩,hr⟩:=hl;have U:L∈X.fs:=hs L (by unfold frs;rw[Q22,J];exact Q0a);obtain⟨sl,e⟩:=I.base.slot L o ho (I.ok.jH L U) U λz=>I.ok.k_ L z U;exact⟨hk,⟨L,_,J,hn,e,hd⟩,ih (λb Y=>hs b (by unfold frs;rw[Q22,J];exact Q04 _ Y)) hr⟩
 exact all X.outer (λ_ Y=>Y) I.ok.h_
theorem Inv.stack (I:Inv X pins σ H s):s.heap.FunFrames X.base X.stack:=by
 rcases I.ok.stk with e|⟨e,J⟩
 . rw[e];exact I.h_
 . rw[e];obtain⟨m,L,_⟩:=I.loc;refine .cons (by rw[I.ok.kind];decide) J L ?_ I.h_;exact Heap.get?_none_of_le (Q0h I.ok.iN I.ok.above)
theorem Inv.l_ (I:Inv X pins σ H s):∀b∈frs X.stack,b∈X.env.locals::X.fs:=λb J=>by
 rcases I.ok.stk with e|⟨e,L⟩
 . rw[e] at J;exact Q04 _ J
 . rw[e] at J;unfold frs at J;rw[Q22,L] at J;exact J
theorem Inv.pF (I:Inv X pins σ H s):∀b∈frs X.stack,H b=none:=λb J=>by
 rcases List.mem_cons.mp (I.l_ b J) with e|J
 . rw[e];exact I.free
 . obtain⟨_,o,L,_⟩:=I.ok.h_.mem J;exact I.base.free b o L (I.ok.jH b J) λz=>I.ok.k_ b z J
theorem Inv.step {g':Array GenState}{t':Nat}{d':Drawn}{ch:List Addr}(I:Inv X pins σ H s)
 (L:∀b∈ch,(b∈X.ex\/X.s₀.heap.objs.size<=b)/\b≠X.env.locals/\(∀x c,X.env.cells.lookup x=some c->c≠b)/\∀p∈X.pn++pins,p.1≠b)
 (keep:∀b o,b≠X.env.locals->b ∉ X.fs->b ∉ ch->s.heap.get? b=some o->H b=none->h'.get? b=some o)
 (slot:∀b o,b≠X.env.locals->b∈X.fs->b ∉ ch->s.heap.get? b=some o->H b=none->∃sl,h'.get? b=some { o with slots:=sl }) (free:∀b o,b ∉ ch->s.heap.get? b=some o->H b=none->H' b=none)
 (there:∀b o,b ∉ ch->s.heap.get? b=some o->∃o',h'.get? b=some o')
 (tups:∀b xs,H b=some (.tup xs)->H' b=some (.tup xs)) (iz:∀b o u,H b=some (.e8 o u)->H' b=some (.e8 o u)) (iM:∀b ps,H b=some (.eS ps)->∃ac,H' b=some (.eS (ps++ac)))
 (ns:∀m,s.heap.Ns X.env.locals m->h'.Ns X.env.locals m) (ae:fj X.prog X.w H' h') (hg:AllBare g'):
 Inv X pins σ H' { s with heap:=h',gens:=g',drawn:=d',toks:=t' }:=by
 have ab:∀b o,X.s₀.heap.get? b=some o->b≠X.env.locals:=λb o e=>Q0c (Q0g (Q03 e) I.ok.above)
 have aa:∀b o,X.s₀.heap.get? b=some o->b ∉ X.ex->b ∉ ch:=λb o e J hb=>by
  rcases(L b hb).1 with z|z
  . exact J z
  . exact absurd (Q0g (Q03 e) z) (Q0t _)
 have Y:∀x c,X.env.cells.lookup x=some c->∀v,s.heap.IsCell c v->h'.IsCell c v:=λx c e v ⟨o,ho,hd⟩=>by
  have U:c ∉ ch:=λz=>(L c z).2.2.1 x c e rfl;by_cases hc:c∈X.fs
  . obtain⟨sl,q⟩:=slot c o (I.kh x c e) hc U ho (I.gM x c e);exact⟨_,q,hd⟩
  . exact⟨o,keep c o (I.kh x c e) hc U ho (I.gM x c e),hd⟩
 refine⟨I.ok,I.os,hg,⟨λb o e n hb J=>?_,λb o e n hb J=>?_,λb o e n J=>?_,λb o e J=>?_,λb xs e=>tups b xs (I.base.tups b xs e),λb o xs e=>iz b o xs (I.base.iz b o xs e),λb ps e=>?_⟩,?_,λx c e=>?_,?_,λx c e=>?_,λp hp=>?_,ae,I.len⟩
 . exact keep b o (ab b o e) hb (aa b o e J) (I.base.keep b o e n hb J) (I.base.free b o e n J)
 . obtain⟨sl,e1⟩:=I.base.slot b o e n hb J;obtain⟨af,e2⟩:=slot b _ (ab b o e) hb (aa b o e J) e1 (I.base.free b o e n J);exact⟨af,e2⟩
 . obtain⟨o',e1⟩:=I.base.there b o e J;exact free b o' (aa b o e J) e1 (I.base.free b o e n J)
 . obtain⟨o',e1⟩:=I.base.there b o e J;exact there b o' (aa b o e J) e1
 . obtain⟨m1,e1⟩:=I.base.iM b ps e;obtain⟨m2,e2⟩:=iM b _ e1;exact⟨m1++m2,by rw[e2,Array.append_assoc]⟩
 . obtain⟨m,hn,hl⟩:=I.loc;refine⟨m,ns m hn,λi x v e1 e2 e3=>?_⟩;obtain⟨u,r,l⟩:=hl i x v e1 e2 e3;refine⟨u,r,?_⟩;rcases l with l|⟨k,c,e,z⟩
   . exact .inl l
   . exact .inr ⟨k,c,e,Y x c e _ z⟩
 . obtain⟨v,z⟩:=I.cell x c e;exact⟨v,Y x c e v z⟩
 . obtain⟨m,⟨o,_,_,ho,_⟩,_⟩:=I.loc;exact free _ o (λz=>(L _ z).2.1 rfl) ho I.free
 . obtain⟨v,o,ho,hd⟩:=I.cell x c e;exact free c o (λz=>(L c z).2.2.1 x c e rfl) ho (I.gM x c e)
 . obtain⟨e,n,ne,nf,d⟩:=I.pin p hp;have U:p.1 ∉ ch:=λz=>(L p.1 z).2.2.2 p hp rfl;exact⟨keep p.1 p.2 ne nf U e n,free p.1 p.2 U e n,ne,nf,d⟩
theorem Inv.un {t':Nat}(I:Inv X pins σ H s)(u:Un X.fs [] H H' s.heap h')(U:fj X.prog X.w H' h'):Inv X pins σ H' { s with heap:=h',toks:=t' }:=by
 obtain⟨m,⟨o,es,ep,ho,r⟩,_⟩:=id I.loc;obtain⟨sl,hL⟩:=u.any ho I.free (by simp)
 exact I.step (g':=s.gens) (d':=s.drawn) (ch:=[]) (λ_ z=>nomatch z) (λb o _ L _ e n=>u.keep b o e n L (by simp)) (λb o _ L _ e n=>u.slot b o e n L (by simp)) (λb o _ e n=>u.free b o e n (by simp)) (λb o _ e=>u.there b o e (by simp)) u.tups u.iz u.iM (λm' hm=>by
  obtain⟨o',Y,aa,J,r'⟩:=hm;rw[ho] at J;cases J;exact⟨_,Y,aa,hL,r'⟩) U I.bare
theorem Inv.call {g':Array GenState}{t':Nat}{d':Drawn}{ch:List Addr}(I:Inv X pins σ H s)(u:Un (frs X.stack) ch H H' s.heap h')(Y:fj X.prog X.w H' h')(hg:AllBare g')
 (J:∀b∈ch,(b∈X.ex\/X.s₀.heap.objs.size<=b)/\b≠X.env.locals/\(∀x c,X.env.cells.lookup x=some c->c≠b)/\∀p∈X.pn++pins,p.1≠b):
 Inv X pins σ H' { s with heap:=h',gens:=g',drawn:=d',toks:=t' }:=by
 obtain⟨m,⟨o,es,ep,ho,r⟩,_⟩:=id I.loc;obtain⟨sl,U⟩:=u.any ho I.free λz=>(J _ z).2.1 rfl
 exact I.step (ch:=ch) J (λb o U hb hc e n=>u.keep b o e n (λz=>(List.mem_cons.mp (I.l_ b z)).elim U hb) hc) (λb o _ _ hc e n=>u.any e n hc) (λb o hc e n=>u.free b o e n hc) (λb o hc e=>u.there b o e hc) u.tups u.iz u.iM (λm' hm=>by
  obtain⟨o',aa,ab,L,r'⟩:=hm;rw[ho] at L;cases L;exact⟨_,aa,ab,U,r'⟩) Y hg
theorem Inv.turned {t':Nat}{it:Addr}(I:Inv X pins σ H s)(k:∀b o,b≠it->s.heap.get? b=some o->h'.get? b=some o)(U:H it=none)(L:it≠X.env.locals)
 (h1:it∈X.ex\/X.s₀.heap.objs.size<=it) (h2:∀x c,X.env.cells.lookup x=some c->c≠it) (Y:∀p∈X.pn++pins,p.1≠it):Inv X pins σ H { s with heap:=h',toks:=t' }:=by
 have J:∀b u,H b=some u->b≠it:=λb u e z=>by rw[z,U] at e;cases e
 refine I.step (g':=s.gens) (d':=s.drawn) (ch:=[it]) (λb hb=>?_) (λb o _ _ hc e _=>k b o (λz=>hc (by simp[z])) e) (λb o _ _ hc e _=>⟨o.slots,k b o (λz=>hc (by simp[z])) e⟩) (λ_ _ _ _ n=>n)
  (λb o hc e=>⟨o,k b o (λz=>hc (by simp[z])) e⟩) (λ_ _ e=>e) (λ_ _ _ e=>e) (λb ps e=>⟨#[],by rw[e];simp⟩) (λm hm=>?_) (λb u e=>?_) I.bare
 . have e:b=it:=by simpa using hb
   subst e;exact⟨h1,L,h2,Y⟩
 . obtain⟨o,es,ep,ho,r⟩:=hm;exact⟨o,es,ep,k _ o (Ne.symm L) ho,r⟩
 . refine(I.hok b u e).stay (λc v hc q=>k c v ?_ q) (λ_ q=>q) λ_ _ q=>q;rcases hc with z|z
   . rw[z];exact J b u e
   . exact J c _ z
theorem Inv.tok (I:Inv X pins σ H s)(t:Nat):Inv X pins σ H { s with toks:=t }:=I.un (h':=s.heap) (t':=t) Un.refl I.hok
theorem Inv.kept {t':Nat}(I:Inv X pins σ H s)(k:∀b u,s.heap.get? b=some u->h'.get? b=some u):Inv X pins σ H { s with heap:=h',toks:=t' }:=I.un (Un.kept k) (I.hok.kept k)
theorem Inv.laid {a:Addr}{o:HO}{t':Nat}(I:Inv X pins σ H s)(k:∀b u,s.heap.get? b=some u->h'.get? b=some u)(hp:s.heap.objs.size<=a)(new:fi X.prog X.w (upd H a o) h' a o):
 Inv X pins σ (upd H a o) { s with heap:=h',toks:=t' }:=I.un (Un.laid k hp (I.hok.fresh hp)) (I.hok.laid k hp new)
theorem Inv.write {x e:Addr}{o:HO}{t':Nat}(I:Inv X pins σ H s)(mu:l8 (H x))(L:e=x\/H e=some (.own x))(k:∀b u,b≠e->s.heap.get? b=some u->h'.get? b=some u)(J:∃u,h'.get? e=some u)
 (new:fi X.prog X.w (upd H x o) h' x o):Inv X pins σ (upd H x o) { s with heap:=h',toks:=t' }:=I.un (Un.write mu L k J) (I.hok.write mu L k J new)
theorem Inv.weak {J:List (Option V)}(I:Inv X pins σ H s)(hl:J.length=σ.length)(w:∀(i:Nat) v,J[i]? =some (some v)->σ[i]? =some (some v)):Inv X pins J H s:=
 ⟨I.ok,I.os,I.bare,I.base,let⟨m,U,L⟩:=I.loc;⟨m,U,λi x v Y e2 e3=>L i x v Y (w i v e2) e3⟩,I.cell,I.free,I.gM,I.pin,I.hok,hl.trans I.len⟩
theorem Inv.ki {J:List (Addr × Obj)}(I:Inv X pins σ H s)(h:∀p∈J,s.heap.get? p.1=some p.2/\H p.1=none/\p.1≠X.env.locals/\p.1 ∉ X.fs/\∀v,p.2.data≠ .cell v):Inv X J σ H s:=
 ⟨I.ok,I.os,I.bare,I.base,I.loc,I.cell,I.free,I.gM,λp hp=>(List.mem_append.mp hp).elim (λz=>I.pin p (Q0f _ z)) (h p),I.hok,I.len⟩
theorem vR {N:List Str}(J:N.Nodup){i j:Nat}{x:Str}(a:N[i]? =some x)(b:N[j]? =some x):i=j:=by
 obtain⟨h1,L⟩:=List.getElem?_eq_some_iff.mp a;obtain⟨h2,U⟩:=List.getElem?_eq_some_iff.mp b;exact(Q23 J).mp (L.trans U.symm)
theorem AF {M:Model}{A:Around}{E:Value->Shared->Prop}{i:Nat}{x:Str}{v:V}{u:Value}{Q:Unit->Shared->Prop}(I:Inv X pins σ H s)(hN:X.N.Nodup)(hi:X.N[i]? =some x)(Y:Loc X.env.scope x)(r:RelV v u)
 (h:∀s',Inv X pins (σ.set i (some v)) H s'->(∃a,Heap.SameBut a s.heap s'.heap/\(a=X.env.locals\/X.env.cells.lookup x=some a))->Q () s') (hf:X.fn x=true\/X.env.scope.names.lookup x=some .local:=by first|exact .inl rfl|exact .inr rfl|assumption):wpAny M A (storeName X.env x u) Q E s:=by
 obtain⟨m,hn,hl⟩:=id I.loc;have ah:(X.env.scope.kind == .class || (X.env.scope.kind == .module && X.env.locals != X.env.globals))=false:=by rw[I.ok.kind];rfl
 have ab:i<σ.length:=by rw[I.len];exact(List.getElem?_eq_some_iff.mp hi).1
 have kh:=I.kh
 have U:∀{a:Addr} {h':Heap},(∃o,s.heap.get? a=some o/\H a=none)->Heap.SameBut a s.heap h'->fj X.prog X.w H h':=λ{a h'} ha J b ob e=>by
  obtain⟨_,_,aa⟩:=ha;refine(I.hok b ob e).stay (λc w' hc q=>(J.2 c ?_).trans q) (λ_ q=>q) λ_ _ q=>q;rintro rfl;rcases hc with rfl|hc
  . rw[aa] at e;cases e
  . rw[aa] at hc;cases hc
 rcases Y with hk|hk
 . refine wpAny_storeName_local hk hn (λh' aj J=>?_) ah;obtain⟨oL,_,_,ak,_⟩:=id hn;refine h _ ⟨I.ok,I.os,I.bare,⟨λb o e n hb Y=>?_,λb o e n hb Y=>?_,I.base.free,λb o e Y=>?_,I.base.tups,I.base.iz,I.base.iM⟩,⟨_,aj,λj y v' L e2 e3=>?_⟩,λy c e=>?_,I.free,I.gM,λp hp=>?_,U ⟨oL,ak,I.free⟩ J,by simpa using I.len⟩ ⟨_,J,.inl rfl⟩
   . exact(J.2 b (Q0c (Q0g (Q03 e) I.ok.above))).trans (I.base.keep b o e n hb Y)
   . obtain⟨sl,L⟩:=I.base.slot b o e n hb Y;exact⟨sl,(J.2 b (Q0c (Q0g (Q03 e) I.ok.above))).trans L⟩
   . obtain⟨o',L⟩:=I.base.there b o e Y;exact⟨o',(J.2 b (Q0c (Q0g (Q03 e) I.ok.above))).trans L⟩
   . by_cases hj:j=i
     . subst hj;rw[hi] at L;cases L;rw[Q2j ab] at e2
       cases e2;exact⟨u,r,.inl ⟨hk,by simp⟩⟩
     . rw[Q2k (Ne.symm hj)] at e2;obtain⟨u',r',q⟩:=hl j y v' L e2 e3;refine⟨u',r',?_⟩;rcases q with⟨k,e⟩|⟨k,c,e,z⟩
       . refine .inl ⟨k,?_⟩;have:y≠x:=λe=>hj (vR hN L (e ▸ hi));simp[this,e]
       . exact .inr ⟨k,c,e,z.sameBut J (kh y c e)⟩
   . obtain⟨w',z⟩:=I.cell y c e;exact⟨w',z.sameBut J (kh y c e)⟩
   . obtain⟨e,n,ne,nf,d⟩:=I.pin p hp;exact⟨(J.2 p.1 ne).trans e,n,ne,nf,d⟩
 . have ac:X.fn x=true:=by
    rcases hf with z|z
    . exact z
    . rw[z] at hk;cases hk
   obtain⟨c,hc⟩:=I.ok.has x (.inl hk);obtain⟨w',z⟩:=I.cell x c hc;refine wpAny_storeName_cell I.ok.kind hk hc z (λh' ae J=>?_);obtain⟨oc,af,ai⟩:=id z;refine h { s with heap:=h' } ⟨I.ok,I.os,I.bare,⟨λb o e n hb Y=>?_,λb o e n hb Y=>?_,I.base.free,λb o e Y=>?_,I.base.tups,I.base.iz,I.base.iM⟩,⟨m,hn.sameBut J (Ne.symm (kh x c hc)),λj y v' L e2 e3=>?_⟩,λy c' e=>?_,I.free,I.gM,λp hp=>?_,U ⟨oc,af,I.gM x c hc⟩ J,by simpa using I.len⟩ ⟨c,J,.inr hc⟩
   . exact(J.2 b (Q0c (Q0g (Q03 e) (I.ok.cab x c ac hc)))).trans (I.base.keep b o e n hb Y)
   . obtain⟨sl,L⟩:=I.base.slot b o e n hb Y;exact⟨sl,(J.2 b (Q0c (Q0g (Q03 e) (I.ok.cab x c ac hc)))).trans L⟩
   . obtain⟨o',L⟩:=I.base.there b o e Y;exact⟨o',(J.2 b (Q0c (Q0g (Q03 e) (I.ok.cab x c ac hc)))).trans L⟩
   . by_cases hj:j=i
     . subst hj;rw[hi] at L;cases L;rw[Q2j ab] at e2
       cases e2;exact⟨u,r,.inr ⟨.inl hk,c,hc,ae⟩⟩
     . rw[Q2k (Ne.symm hj)] at e2;obtain⟨u',r',q⟩:=hl j y v' L e2 e3;refine⟨u',r',?_⟩;rcases q with q|⟨k,c',e,z'⟩
       . exact .inl q
       . refine .inr ⟨k,c',e,z'.sameBut J ?_⟩;rintro rfl;exact hj (vR hN L (I.ok.inj _ _ _ e hc ▸ hi))
   . by_cases ag:c'=c
     . subst ag;exact⟨_,ae⟩
     . obtain⟨w2,z2⟩:=I.cell y c' e;exact⟨w2,z2.sameBut J ag⟩
   . obtain⟨e,n,ne,nf,d⟩:=I.pin p hp;refine⟨(J.2 p.1 ?_).trans e,n,ne,nf,d⟩;intro q;rw[q,af] at e;have q':oc=p.2:=Option.some.inj e;exact d w' (by rw[<-q'];exact ai)
theorem pG {M:Model}{A:Around}{E:Value->Shared->Prop}{i:Nat}{x:Str}{v:V}{u:Value}{Q:Unit->Shared->Prop}(I:Inv X pins σ H s)(J:X.N.Nodup)(hi:X.N[i]? =some x)(L:Loc X.env.scope x)(r:RelV v u)
 (h:∀s',Inv X pins (σ.set i (some v)) H s'->Q () s') (U:X.fn x=true\/X.env.scope.names.lookup x=some .local:=by first|exact .inl rfl|exact .inr rfl|assumption):wpAny M A (storeName X.env x u) Q E s:=
 AF I J hi L r (λs' Y _=>h s' Y) U
theorem Inv.call' {s':Shared}{ch:List Addr}(I:Inv X pins σ H s)(U:s'.os=s.os)(u:Un (frs X.stack) ch H H' s.heap s'.heap)(J:fj X.prog X.w H' s'.heap)(Y:AllBare s'.gens)
 (L:∀b∈ch,(b∈X.ex\/X.s₀.heap.objs.size<=b)/\b≠X.env.locals/\(∀x c,X.env.cells.lookup x=some c->c≠b)/\∀p∈X.pn++pins,p.1≠b):Inv X pins σ H' s':=by
 obtain⟨h',g',d',t',o'⟩:=s';have e:o'=s.os:=U;subst e;exact I.call (g':=g') (t':=t') (d':=d') u J Y L
end
noncomputable abbrev XK:=Value->Option Addr->Hp->Prop
noncomputable abbrev St:=List (Option V)
noncomputable abbrev VK:=V->Hp->Prop
noncomputable abbrev TE:=St->Hp->VK->Prop
noncomputable abbrev TT:=St->Hp->(Bool->Hp->Prop)->Prop
noncomputable abbrev TA:=St->Hp->(List V->Hp->Prop)->Prop
structure Ends where
 nx:St->Hp->Prop
 rt:VK
 bk:St->Hp->Prop:=λ_ _=>False
 ct:St->Hp->Prop:=λ_ _=>False
noncomputable abbrev TS:=Ends->St->Hp->Prop
def EP (X:Cx) (pins:List (Addr × Obj)) (σ:St) (Q:VK) (u:Value) (s':Shared):Prop:=∃v H',Inv X pins σ H' s'/\RelV v u/\Q v H'
def TP (X:Cx) (pins:List (Addr × Obj)) (σ:St) (Q:Bool->Hp->Prop) (b:Bool) (s':Shared):Prop:=∃H',Inv X pins σ H' s'/\Q b H'
def AP (X:Cx) (pins:List (Addr × Obj)) (σ:St) (Q:List V->Hp->Prop) (J:List Value) (s':Shared):Prop:=∃vs H',Inv X pins σ H' s'/\Vals vs J/\Q vs H'
def SP (X:Cx) (pins:List (Addr × Obj)) (D:Ends) (f:Flow) (s':Shared):Prop:=
 match f with
 | .next=>∃J H',Inv X pins J H' s'/\D.nx J H'
 | .brk=>∃J H',Inv X pins J H' s'/\D.bk J H'
 | .cont=>∃J H',Inv X pins J H' s'/\D.ct J H'
 | .ret u=>∃v J H',Inv X pins J H' s'/\RelV v u/\D.rt v H'
def PE (X:Cx) (e:Expr) (t:TE):Prop:=
 ∀(pins:List (Addr × Obj)) (s:Shared) (σ:St) (H:Hp) (Q:VK),Inv X pins σ H s->t σ H Q->wpAny (model X.prog X.w) X.A (eval e X.env) (EP X pins σ Q) X.xe s
def PT (X:Cx) (e:Expr) (t:TT):Prop:=
 ∀(pins:List (Addr × Obj)) (s:Shared) (σ:St) (H:Hp) (Q:Bool->Hp->Prop),Inv X pins σ H s->t σ H Q->wpAny (model X.prog X.w) X.A (isTrue e X.env (eval e X.env)) (TP X pins σ Q) X.xe s
def PW (X:Cx) (e:Expr) (t:TT):Prop:=
 ∀(J:Sem Value) (pins:List (Addr × Obj)) (s:Shared) (σ:St) (H:Hp) (Q:Bool->Hp->Prop),Inv X pins σ H s->t σ H Q->wpAny (model X.prog X.w) X.A (isTrue e X.env J) (TP X pins σ Q) X.xe s
theorem PW.pt {X:Cx}{e:Expr}{t:TT}(h:PW X e t):PT X e t:=h _
def PA (X:Cx) (es:List Expr) (t:TA):Prop:=
 ∀(pos:Pos) (pins:List (Addr × Obj)) (s:Shared) (σ:St) (H:Hp) (Q:List V->Hp->Prop),Inv X pins σ H s->t σ H Q->wpAny (model X.prog X.w) X.A (spliced (backTo pos (starEach es X.env))) (AP X pins σ Q) X.xe s
def PS (X:Cx) (st:Stmt) (t:TS):Prop:=
 ∀(pins:List (Addr × Obj)) (s:Shared) (σ:St) (H:Hp) (D:Ends),Inv X pins σ H s->t D σ H->wpAny (model X.prog X.w) X.A (exec st X.env) (SP X pins D) X.xe s
def gU (X:Cx) (st:List Stmt) (t:TS):Prop:=
 ∀(pins:List (Addr × Obj)) (s:Shared) (σ:St) (H:Hp) (D:Ends),Inv X pins σ H s->t D σ H->wpAny (model X.prog X.w) X.A (execs st X.env) (SP X pins D) X.xe s
theorem dH {α:Type}{t:Sem α}{Q J:α->Shared->Prop}{M:Model}{A:Around}{E:Value->Shared->Prop}{s:Shared}(h:wpAny M A t Q E s)(L:∀a s,Q a s->J a s):wpAny M A t J E s:=Q0y h L λ_ _ x=>x
section
variable {X:Cx}
def dE (i:Nat):TE:=λσ H Q=>∃v,σ[i]? =some (some v)/\Q v H
def tC (v:V):TE:=λ_ H Q=>Q v H
theorem AG {i:Nat}{x:Str}{pos:Pos}(Y:X.N[i]? =some x)(hv:nB X.env.scope x)(L:(x == ("__debug__":Str))=false:=by decide)(U:(x == ("__classdict__":Str))=false:=by decide):PE X (.Name x pos) (dE i):=by
 intro pins s σ H Q I h;obtain⟨v,e,h⟩:=h;obtain⟨m,hn,hl⟩:=I.loc;obtain⟨u,r,l⟩:=hl i x v Y e hv;have fin:EP X pins σ Q u s:=⟨v,H,I,r,h⟩;rcases l with⟨hk,hm⟩|⟨hk,c,hc,J⟩
 . exact wpAny_Name (wpAny_loadName_local I.ok.kind hk hn hm fin) L
 . rcases hk with hk|hk
   . exact wpAny_Name (wpAny_loadName_cell I.ok.kind hk hc J fin) L
   . exact wpAny_Name (wpAny_loadName_free I.ok.kind hk hc J fin U) L
theorem cZ {i j pos}:PE X (.Constant (.int i) j pos) (tC (.int i)):=λ_ _ _ H _ I h=>wpAny_Constant_int ⟨.int i,H,I.tok _,⟨_,rfl⟩,h⟩
theorem nF {b j pos}:PE X (.Constant (.bool b) j pos) (tC (.bl b)):=λ_ _ _ H _ I h=>Constant_bool ⟨.bl b,H,I,rfl,h⟩
theorem el {j pos}:PE X (.Constant .none j pos) (tC .non):=λ_ _ _ H _ I h=>Constant_none ⟨.non,H,I,rfl,h⟩
theorem dO {x j pos}:PE X (.Constant (.str x) j pos) (tC (.str x)):=λ_ _ _ H _ I h=>Calls.Constant_str ⟨.str x,H,I.tok _,⟨_,rfl⟩,h⟩
def Gl (X:Cx) (x:Str):Prop:=X.env.kindOf x=some .globalImplicit
theorem AH {E:Value->Shared->Prop}{pins:List (Addr × Obj)}{s:Shared}{σ:St}{H:Hp}{x:Str}{u:Value}{pos:Pos}{Q:Value->Shared->Prop}(I:Inv X pins σ H s)(J:Gl X x)(L:X.mg x=some u)(h:Q u s)
 (U:(x == ("__debug__":Str))=false:=by decide):wpAny (model X.prog X.w) X.A (eval (.Name x pos) X.env) Q E s:=
 Calls.Name_function_global I.ok.kind J (Calls.loadGlobal_global (by rw[I.ok.glob];exact I.mod.glob.keeps I.bk) L h) U
theorem iZ {E:Value->Shared->Prop}{pins:List (Addr × Obj)}{s:Shared}{σ:St}{H:Hp}{x:Str}{u:Value}{pos:Pos}{Q:Value->Shared->Prop}(I:Inv X pins σ H s)(J:Gl X x)(L:X.mg x=none)(hv:bootBuiltins x=some u)(h:Q u s)
 (U:x≠"__name__":=by decide) (Y:(x == ("__debug__":Str))=false:=by decide):wpAny (model X.prog X.w) X.A (eval (.Name x pos) X.env) Q E s:=by
 obtain⟨mb,h1,h2⟩:=I.mod.blt;exact Calls.Name_function_global I.ok.kind J (Calls.loadGlobal_builtin (by rw[I.ok.glob];exact I.mod.glob.keeps I.bk) L (by rw[I.ok.blt];exact h1.keeps I.bk) ((h2 x U).trans hv) h) Y
theorem d4 {x:Str}{v:V}{u:Value}{pos:Pos}(J:Gl X x)(L:X.mg x=none)(hv:bootBuiltins x=some u)(r:RelV v u)(U:x≠"__name__":=by decide)(Y:(x == ("__debug__":Str))=false:=by decide):PE X (.Name x pos) (tC v):=
 λ_ _ _ H _ I h=>iZ I J L hv ⟨v,H,I,r,h⟩ U Y
variable {a b:Expr}{ta tb:TE}{pos:Pos}
def PC (X:Cx) (op:CmpOp) (a b:Expr) (t:TE):Prop:=
 ∀(pins:List (Addr × Obj)) (s:Shared) (σ:St) (H:Hp) (Q:VK),Inv X pins σ H s->t σ H Q->
  wpAny (model X.prog X.w) X.A (eval a X.env) (λv J=>wpAny (model X.prog X.w) X.A (eval b X.env) (λu L=>wpAny (model X.prog X.w) X.A (compareOp op v u) (EP X pins σ Q) X.xe L) X.xe J) X.xe s
def tB (t:TE):TT:=λσ H Q=>t σ H λx H1=>∃c,x=.bl c/\Q c H1
theorem vS {op:CmpOp}{t:TE}(h:PC X op a b t)(h1:behindInMarks op b=false:=by first|exact J _ (by decide) (by decide)|rfl):PE X (.Compare a [op] [b] pos) t:=λpins s σ H Q I hw=>wpAny_Compare1 (h pins s σ H Q I hw) h1
theorem AI {op:CmpOp}{t:TE}(h:PC X op a b t)(h1:behindInMarks op b=false:=by first|exact J _ (by decide) (by decide)|rfl):PT X (.Compare a [op] [b] pos) (tB t):=by
 intro pins s σ H Q I hw;refine wpAny_isTrue_Compare1 (dH (h pins s σ H _ I hw) λv s1 h1=>dH h1 λu s2 h2=>dH h2 λc s3 zq=>?_) h1;obtain⟨x,H1,L,U,Y⟩:=zq;obtain⟨d,rfl,q⟩:=Y
 cases U;exact wpAny_truthy_bool ⟨H1,L,q⟩
theorem eO {e:Expr}{t:TE}(h:PE X e t)(L:∀J,isTrue e X.env J=(do let v <-J;standAt e.pos;holding [v] (truthy v)):=by intro _;rfl):PT X e (tB t):=by
 intro pins s σ H Q I hw;refine isTrue_plain (dH (h pins s σ H _ I hw) λv s1 zq=>?_) (L _);obtain⟨x,H1,U,Y,q1⟩:=zq;obtain⟨d,rfl,q⟩:=q1
 cases Y;exact wpAny_truthy_bool ⟨H1,U,q⟩
variable {tA nG:TT}{rest:List Expr}
def AJ (t u:TT):TT:=λσ H Q=>t σ H λc H1=>if c=true then u σ H1 Q else Q false H1
def vT (t u:TT):TT:=λσ H Q=>t σ H λc H1=>if c=true then Q true H1 else u σ H1 Q
def AK (t:TT):TT:=λσ H Q=>t σ H λc H1=>Q (!c) H1
theorem gW (J:PT X a tA):PW X (.BoolOp .And [a] pos) tA:=by
 intro L pins s σ H Q I h;refine isTrue_and (dH (J pins s σ H Q I h) λc U e=>?_)
 cases c with
 |true=>exact isTrue_and_nil e
 |false=>exact e
theorem gN (J:PT X a tA):PW X (.BoolOp .Or [a] pos) tA:=by
 intro L pins s σ H Q I h;refine isTrue_or (dH (J pins s σ H Q I h) λc U e=>?_)
 cases c with
 |false=>exact isTrue_or_nil e
 |true=>exact e
theorem gF (U:PT X a tA)(Y:PW X (.BoolOp .And (b::rest) pos) nG):PW X (.BoolOp .And (a::b::rest) pos) (AJ tA nG):=by
 intro wh pins s σ H Q I h;refine isTrue_and (dH (U pins s σ H _ I h) λc s1 ⟨H1,J,L⟩=>?_)
 cases c with
 |true=>exact Y wh pins s1 σ H1 Q J L
 |false=>exact⟨H1,J,L⟩
theorem gG (U:PT X a tA)(Y:PW X (.BoolOp .Or (b::rest) pos) nG):PW X (.BoolOp .Or (a::b::rest) pos) (vT tA nG):=by
 intro wh pins s σ H Q I h;refine isTrue_or (dH (U pins s σ H _ I h) λc s1 ⟨H1,J,L⟩=>?_)
 cases c with
 |true=>exact⟨H1,J,L⟩
 |false=>exact Y wh pins s1 σ H1 Q J L
theorem jI (J:PT X a tA):PT X (.UnaryOp .Not a pos) (AK tA):=by
 intro pins s σ H Q I h;exact isTrue_not (J pins s σ H (λc H1=>Q (!c) H1) I h)
def pH (ta tb:TE):TE:=λσ H Q=>ta σ H λx H1=>∃c,x=.bl c/\if c=true then tb σ H1 Q else Q (.bl false) H1
def vU (ta tb:TE):TE:=λσ H Q=>ta σ H λx H1=>∃c,x=.bl c/\if c=true then Q (.bl true) H1 else tb σ H1 Q
def AL (ta:TE):TE:=λσ H Q=>ta σ H λx H1=>∃c,x=.bl c/\Q (.bl (!c)) H1
theorem ia {op}{t:TE}(h:PE X a t):PE X (.BoolOp op [a] pos) t:=λpins s σ H Q I hw=>BoolOp_one (h pins s σ H Q I hw)
theorem ib (U:PE X a ta)(Y:PE X (.BoolOp .And (b::rest) pos) tb):PE X (.BoolOp .And (a::b::rest) pos) (pH ta tb):=by
 intro pins s σ H Q I h;refine BoolOp_and (dH (U pins s σ H _ I h) λv s1 zq=>?_);obtain⟨x,H1,L,r1,J⟩:=zq;obtain⟨c,rfl,J⟩:=J
 cases r1;refine wpAny_truthy_bool ?_
 cases c with
 |true=>exact Y pins s1 σ H1 Q L J
 |false=>exact⟨.bl false,H1,L,rfl,J⟩
theorem vV (U:PE X a ta)(Y:PE X (.BoolOp .Or (b::rest) pos) tb):PE X (.BoolOp .Or (a::b::rest) pos) (vU ta tb):=by
 intro pins s σ H Q I h;refine BoolOp_or (dH (U pins s σ H _ I h) λv s1 zq=>?_);obtain⟨x,H1,L,r1,J⟩:=zq;obtain⟨c,rfl,J⟩:=J
 cases r1;refine wpAny_truthy_bool ?_
 cases c with
 |false=>exact Y pins s1 σ H1 Q L J
 |true=>exact⟨.bl true,H1,L,rfl,J⟩
theorem vW (L:PE X a ta):PE X (.UnaryOp .Not a pos) (AL ta):=by
 intro pins s σ H Q I h;refine UnaryOp_ (dH (L pins s σ H _ I h) λv s1 zq=>?_);obtain⟨x,H1,U,Y,J⟩:=zq;obtain⟨c,rfl,J⟩:=J
 cases Y;exact not_of (wpAny_truthy_bool ⟨.bl (!c),H1,U,rfl,J⟩)
def pI (t:TT) (ta tb:TE):TE:=λσ H Q=>t σ H λc H1=>if c=true then ta σ H1 Q else tb σ H1 Q
theorem gr {c:Expr}(hc:PT X c tA)(Y:PE X a ta)(hb:PE X b tb):PE X (.IfExp c a b pos) (pI tA ta tb):=by
 intro pins s σ H Q I h;refine wpAny_IfExp (dH (hc pins s σ H _ I h) λd J ⟨H1,L,U⟩=>?_)
 cases d with
 |true=>exact Y pins J σ H1 Q L U
 |false=>exact hb pins J σ H1 Q L U
end
def dg (K:W.Frag) (H:Hp) (a:Addr) (xs:List V):Prop:=
 Rd H a (.lst xs)\/
  ∃(o:Obj) (J:Array Value) (n:Nat),K.lookup a=some o/\o.cls=.type "list"/\o.dict=none/\o.data=.seq J n/\J.size<=sizeLine/\Vals xs J.toList
def c8 (K:W.Frag) (H:Hp) (a:Addr) (xs:List V):Prop:=
 Rd H a (.tup xs)\/
  ∃(o:Obj) (J:Array Value) (n:Nat),K.lookup a=some o/\o.cls=.type "tuple"/\o.data=.seq J n/\J.size<=sizeLine/\Vals xs J.toList
noncomputable def AM:Value->Option V
 | .none=>some .non
 | .bool b=>some (.bl b)
 | .int i _=>some (.int i)
 | .str x _=>some (.str x)
 | .bytes b _=>some (.iK b)
 | .float b _=>some (.flt b)
 | .ref a=>some (.ref a)
 | .type n=>some (.ty n)
 |_=>none
theorem RelV.abs {x:V}{u:Value}(r:RelV x u):AM u=some x:=by
 cases x with
 |non=>cases r;rfl
 |bl _=>cases r;rfl
 |int _=>obtain⟨t,rfl⟩:=r;rfl
 |str _=>obtain⟨t,rfl⟩:=r;rfl
 |iK _=>obtain⟨t,rfl⟩:=r;rfl
 |flt _=>obtain⟨t,rfl⟩:=r;rfl
 |ref _=>cases r;rfl
 |ty _=>cases r;rfl
theorem RelV.inj {x y:V}{u:Value}(r:RelV x u)(q:RelV y u):x=y:=Option.some.inj (r.abs.symm.trans q.abs)
theorem Vals.inj:∀{xs ys:List V}{J:List Value},Vals xs J->Vals ys J->xs=ys
 |_,_,_,.nil,.nil=>rfl
 |_,_,_,.cons r t,.cons L t'=>by rw[r.inj L,Vals.inj t t']
section
variable {X:Cx}{pins:List (Addr × Obj)}{σ:St}{H:Hp}{s:Shared}{a:Addr}{xs ys:List V}
theorem dg.of {K:W.Frag}(h:H a=some (.lst xs)):dg K H a xs:=.inl (.inl h)
theorem c8.of {K:W.Frag}(h:H a=some (.tup xs)):c8 K H a xs:=.inl (.inl h)
theorem Inv.list (I:Inv X pins σ H s)(h:dg X.K H a xs):∃J:List Value,Vals xs J/\PlainL s.heap a J.toArray/\xs.length<=sizeLine:=by
 rcases h with h|⟨o,J,n,hk,hc,L,U,Y,r⟩
 . obtain⟨z,J,n,r,e⟩:=h.ok I.hok;exact⟨J,r,⟨_,n,e,rfl,rfl,rfl⟩,z⟩
 . refine⟨J.toList,r,⟨o,n,I.gq a o hk,hc,L,by simpa using U⟩,?_⟩;have e:=r.length;simp only[Q15] at e;omega
theorem Inv.tuple (I:Inv X pins σ H s)(h:c8 X.K H a xs):∃J:List Value,Vals xs J/\IsTup s.heap a J.toArray/\xs.length<=sizeLine:=by
 rcases h with h|⟨o,J,n,hk,hc,L,U,r⟩
 . obtain⟨z,J,r,p⟩:=h.ok I.hok;exact⟨J,r,p,z⟩
 . refine⟨J.toList,r,⟨o,I.gq a o hk,hc,n,by simpa using L⟩,?_⟩;have e:=r.length;simp only[Q15] at e;omega
theorem Inv.nH (I:Inv X pins σ H s)(h:dg X.K H a xs)(h':dg X.K H a ys):xs=ys:=by
 obtain⟨J,r,⟨o,n,e,_,_,d⟩,_⟩:=I.list h;obtain⟨its',U,⟨o',n',L,_,_,d'⟩,_⟩:=I.list h';rw[e] at L;cases L;rw[d] at d';injection d' with Y _
 have:J=its':=by simpa using congrArg Array.toList Y
 subst this;exact r.inj U
theorem Inv.pJ (I:Inv X pins σ H s)(h:c8 X.K H a xs)(h':c8 X.K H a ys):xs=ys:=by
 obtain⟨J,r,⟨o,e,_,n,d⟩,_⟩:=I.tuple h;obtain⟨its',U,⟨o',L,_,n',d'⟩,_⟩:=I.tuple h';rw[e] at L;cases L;rw[d] at d';injection d' with Y _
 have:J=its':=by simpa using congrArg Array.toList Y
 subst this;exact r.inj U
end
noncomputable abbrev Cx.wish (X:Cx) (E:Value->Shared->Prop):Cx:={ X with xe:=E }
noncomputable abbrev Cx.eh (X:Cx):Cx:=X.wish λ_ _=>False
theorem Cx.Ok.wish {X:Cx}(ok:X.Ok)(E:Value->Shared->Prop):(X.wish E).Ok:=
 ⟨ok.mod,ok.kind,ok.glob,ok.blt,ok.above,ok.inj,ok.has,ok.cab,ok.hd,ok.frames,ok.stk,ok.nE,ok.bs,ok.iN,ok.kg,ok.k_,ok.h_,ok.jH⟩
theorem Cx.Ok.jJ {X:Cx}{E:Value->Shared->Prop}(ok:(X.wish E).Ok):X.Ok:=
 ⟨ok.mod,ok.kind,ok.glob,ok.blt,ok.above,ok.inj,ok.has,ok.cab,ok.hd,ok.frames,ok.stk,ok.nE,ok.bs,ok.iN,ok.kg,ok.k_,ok.h_,ok.jH⟩
section
variable {X:Cx}{pins:List (Addr × Obj)}{σ:St}{H:Hp}{s:Shared}{E:Value->Shared->Prop}
theorem Inv.wish (I:Inv X pins σ H s)(E:Value->Shared->Prop):Inv (X.wish E) pins σ H s:=⟨I.ok.wish E,I.os,I.bare,I.base,I.loc,I.cell,I.free,I.gM,I.pin,I.hok,I.len⟩
theorem Inv.jJ (I:Inv (X.wish E) pins σ H s):Inv X pins σ H s:=⟨I.ok.jJ,I.os,I.bare,I.base,I.loc,I.cell,I.free,I.gM,I.pin,I.hok,I.len⟩
theorem SP.jJ {D:Ends}{f:Flow}{s':Shared}(h:SP (X.wish E) pins D f s'):SP X pins D f s':=by
 cases f with
 |next=>obtain⟨J,H',I,q⟩:=h;exact⟨J,H',I.jJ,q⟩
 |brk=>obtain⟨J,H',I,q⟩:=h;exact⟨J,H',I.jJ,q⟩
 |cont=>obtain⟨J,H',I,q⟩:=h;exact⟨J,H',I.jJ,q⟩
 |ret u=>obtain⟨v,J,H',I,r,q⟩:=h;exact⟨v,J,H',I.jJ,r,q⟩
theorem gU.eh {st:List Stmt}{t:TS}(h:gU X.eh st t):gU X st t:=λpins s σ H D I hw=>
 Q0y (h pins s σ H D (I.wish _) hw) (λ_ _ q=>q.jJ) λ_ _ z=>False.elim z
end
section
variable {X:Cx}{st:Stmt}{rest:List Stmt}{t u:TS}{e:Expr}{te:TE}{pos:Pos}
def vX:TS:=λD σ H=>D.nx σ H
def pK (t u:TS):TS:=λD σ H=>t { D with nx:=u D } σ H
theorem dz:gU X [] vX:=λ_ _ σ H _ I h=>wpAny_execs_nil ⟨σ,H,I,h⟩
theorem c9 (h1:PS X st t)(h2:gU X rest u):gU X (st::rest) (pK t u):=by
 intro pins s σ H D I h;refine wpAny_execs_cons (dH (h1 pins s σ H { D with nx:=u D } I h) λf L q=>?_)
 cases f with
 |next=>
  obtain⟨J,H',U,q⟩:=q;exact h2 pins L J H' D U q
 |ret v=>exact q
 |brk=>exact q
 |cont=>exact q
theorem dc (h1:PS X st t):gU X [st] t:=by
 intro pins s σ H D I h;refine wpAny_execs_cons (dH (h1 pins s σ H D I h) λf J q=>?_)
 cases f with
 |next=>exact wpAny_execs_nil q
 |ret v=>exact q
 |brk=>exact q
 |cont=>exact q
theorem Inv.quiet {pins:List (Addr × Obj)}{σ:St}{H:Hp}{s:Shared}(I:Inv X pins σ H s):interactive X.env=false:=by simp[interactive,I.ok.kind]
def AN (te:TE):TS:=λD σ H=>te σ H λ_ H1=>D.nx σ H1
theorem AO (J:PE X e te)(L:swapsWith e none pos.line X.env=pure false:=by rfl):PS X (.Expr e pos) (AN te):=by
 intro pins s σ H D I h;exact wpAny_Expr_any (dH (J pins s σ H _ I h) λv s1 ⟨x,H1,U,r1,Y⟩=>⟨σ,H1,U,Y⟩) I.quiet L
def ma (te:TE):TS:=λD σ H=>te σ H D.rt
theorem dk (J:PE X e te):PS X (.Return (some e) pos) (ma te):=by
 intro pins s σ H D I h;exact wpAny_Return_some (dH (J pins s σ H _ I h) λv s1 ⟨x,H1,L,U,Y⟩=>⟨x,σ,H1,L,U,Y⟩)
def iA (c:TT) (t u:TS):TS:=λD σ H=>c σ H λb H1=>if b=true then t D σ H1 else u D σ H1
theorem dA {c:Expr}{a b:List Stmt}{tc:TT}(hc:PT X c tc)(Y:gU X a t)(hb:gU X b u):PS X (.If c a b pos) (iA tc t u):=by
 intro pins s σ H D I h;refine wpAny_If (dH (hc pins s σ H _ I h) λd J ⟨H1,L,U⟩=>?_)
 cases d with
 |true=>exact Y pins J σ H1 D L U
 |false=>exact hb pins J σ H1 D L U
def vY:TS:=λ_ _ _=>False
theorem dZ:PS X st vY:=λ_ _ _ _ _ _ h=>h.elim
theorem AQ {J:List Stmt}:gU X J vY:=λ_ _ _ _ _ _ h=>h.elim
end
noncomputable abbrev TG:=V->St->Hp->(St->Hp->Prop)->Prop
noncomputable abbrev kj:=List V->St->Hp->(St->Hp->Prop)->Prop
def PG (X:Cx) (J:Expr) (t:TG):Prop:=
 ∀(pins:List (Addr × Obj)) (s:Shared) (σ:St) (H:Hp) (v:V) (u:Value) (Q:St->Hp->Prop),Inv X pins σ H s->RelV v u->t v σ H Q->
  wpAny (model X.prog X.w) X.A (assign J X.env u) (λ_ s'=>∃L H',Inv X pins L H' s'/\Q L H') X.xe s
def nI (X:Cx) (U:List Expr) (t:kj):Prop:=
 ∀(pins:List (Addr × Obj)) (s:Shared) (σ:St) (H:Hp) (vs:List V) (L:List Value) (Q:St->Hp->Prop),Inv X pins σ H s->Vals vs L->t vs σ H Q->
  wpAny (model X.prog X.w) X.A (assignInOrder ((assignEach U X.env).map (·.2)) L) (λ_ s'=>∃J H',Inv X pins J H' s'/\Q J H') X.xe s
noncomputable abbrev pL:=V->V->V->Hp->(Hp->Prop)->Prop
def vZ (X:Cx) (t:pL):Prop:=
 ∀(pins:List (Addr × Obj)) (s:Shared) (σ:St) (H:Hp) (o i v:V) (J L u:Value) (Q:Hp->Prop),Inv X pins σ H s->RelV o J->RelV i L->RelV v u->t o i v H Q->
  wpAny (model X.prog X.w) X.A (setItem J L u) (λ_ s'=>∃H',Inv X pins σ H' s'/\Q H') X.xe s
section
variable {X:Cx}{pos:Pos}
def dU (i:Nat):TG:=λv σ H Q=>Q (σ.set i (some v)) H
theorem en {i:Nat}{x:Str}(J:X.N.Nodup)(hi:X.N[i]? =some x)(L:Loc X.env.scope x)(U:X.fn x=true\/X.env.scope.names.lookup x=some .local:=by first|exact .inl rfl|exact .inr rfl|assumption):PG X (.Name x pos) (dU i):=by
 intro pins s σ H v u Q I r h;exact wpAny_assign_Name (pG I J hi L r (λs' Y=>⟨_,H,Y,h⟩) U)
def me:kj:=λvs σ H Q=>vs=[]/\Q σ H
def jk (t:TG) (u:kj):kj:=λvs σ H Q=>∃v r,vs=v::r/\t v σ H λJ H'=>u r J H' Q
theorem ic:nI X [] me:=by
 intro pins s σ H vs J Q I r h;obtain⟨e,h⟩:=h;subst e
 cases r;exact assignInOrder_nil ⟨σ,H,I,h⟩
theorem fy {e:Expr}{es:List Expr}{t:TG}{u:kj}(h1:PG X e t)(h2:nI X es u)
 (L:(assignEach (e::es) X.env).map (·.2)=assign e X.env::(assignEach es X.env).map (·.2):=by rfl):nI X (e::es) (jk t u):=by
 intro pins s σ H vs us Q I r h;obtain⟨v,vr,U,h⟩:=h;subst U
 cases r with
 |cons r Y=>
  rw[L];refine assignInOrder_cons (dH (h1 pins s σ H _ _ _ I r h) λ_ s1 zq=>?_);obtain⟨J,H1,I1,q1⟩:=zq;exact h2 pins s1 J H1 _ _ Q I1 Y q1
def mh (K:W.Frag) (n:Nat) (t:kj):TG:=λv σ H Q=>∃a xs,v=.ref a/\c8 K H a xs/\xs.length=n/\t xs σ H Q
theorem ie {es:List Expr}{k:Nat}{t:kj}{n:Nat}(hc:X.calm=true)(h:nI X es t)
 (U:(assignEach es X.env).length=n:=by rfl) (J:(assignEach es X.env).findIdx? (·.1)=none:=by rfl):PG X (.Tuple es k pos) (mh X.K n t):=by
 intro pins s σ H v u Q I r hw;obtain⟨a,xs,Y,hq,hl,hw⟩:=hw;subst Y
 cases r;obtain⟨aa,L,ht,hz⟩:=I.tuple hq;refine assign_Tuple_tuple (I.ok.hd hc) ht (by simp[U,<-hl,L.length]) J λh' hx=>?_;have I1:Inv X pins σ H { s with heap:=h' }:=I.kept (t':=s.toks) λb o e=>hx b o (Q0c (Q03 e)) e;exact h pins _ σ H xs _ Q I1 (by simpa using L) hw
def AR (to J:TE) (t:pL):TG:=λv σ H Q=>to σ H λo H1=>J σ H1 λi H2=>t o i v H2 λL=>Q σ L
theorem AS {o i:Expr}{to U:TE}{t:pL}(Y:PE X o to)(hi:PE X i U)(hs:vZ X t)
 (ha:∀v,assign (.Subscript o i pos) X.env v=(do
   let J <-holding [v] (eval o X.env);let L <-holding [v,J] (eval i X.env)
   standAt pos
   holding [v,J,L] (setItem J L v)
   release [v,J,L] []):=by intro _;rfl):PG X (.Subscript o i pos) (AR to U t):=by
 intro pins s σ H v u Q I r h;rw[ha];refine Q0 (wpAny_holding (dH (Y pins s σ H _ I h) λJ s1 zq=>?_));obtain⟨x,H1,I1,r1,q1⟩:=zq;refine Q0 (wpAny_holding (dH (hi pins s1 σ H1 _ I1 q1) λL s2 zq=>?_));obtain⟨y,H2,I2,r2,q2⟩:=zq;refine Q0 (wpAny_standAt (Q0 (wpAny_holding (dH (hs pins s2 σ H2 x y v J L u _ I2 r1 r2 r q2) λ_ s3 ⟨H3,I3,q3⟩=>?_))));exact wpAny_release ⟨σ,H3,I3,q3⟩
def iO (te:TE) (g:TG):TS:=λD σ H=>te σ H λx H1=>g x σ H1 D.nx
theorem nJ {tg e:Expr}{te:TE}{g:TG}(J:PE X e te)(L:PG X tg g)(U:swapsWithSole [tg] e pos.line X.env=pure false:=by rfl)(hw:swappedStores [tg] e X.env=pure none:=by rfl)
 (h1:(assignEach [tg] X.env).map (·.2)=[assign tg X.env]:=by rfl):PS X (.Assign [tg] e pos) (iO te g):=by
 intro pins s σ H D I h;refine wpAny_Assign_stores (dH (J pins s σ H _ I h) λv Y zq=>?_) U hw;obtain⟨x,H1,I1,r1,q1⟩:=zq;rw[h1];exact dH (L pins Y σ H1 x v _ I1 r1 q1) λ_ s2 q=>q
theorem v5 {i:Nat}{x:Str}{e:Expr}{te:TE}{pos':Pos}(J:X.N.Nodup)(hi:X.N[i]? =some x)(L:Loc X.env.scope x)(U:PE X e te)(Y:swapsWith e (some (.Name x pos')) pos.line X.env=pure false:=by rfl)(hf:X.fn x=true\/X.env.scope.names.lookup x=some .local:=by first|exact .inl rfl|exact .inr rfl|assumption):
 PS X (.Assign [.Name x pos'] e pos) (iO te (dU i)):=by
 intro pins s σ H D I h;refine wpAny_Assign_Name (dH (U pins s σ H _ I h) λv s1 zq=>?_) Y;obtain⟨y,H1,I1,r1,q1⟩:=zq;exact pG I1 J hi L r1 (λs2 I2=>⟨_,H1,I2,q1⟩) hf
end
section
variable {X:Cx}{pos:Pos}
end
structure It where
 go:Nat->Hp->Prop
 jl:Nat->Hp->V->Hp->Prop
 stop:Nat->Hp->Prop
def fV (X:Cx) (pins:List (Addr × Obj)) (H:Hp) (b:Addr):Prop:=
 H b=none/\b≠X.env.locals/\b ∉ X.fs/\(b∈X.ex\/X.s₀.heap.objs.size<=b)/\(∀x c,X.env.cells.lookup x=some c->c≠b)/\∀p∈X.pn++pins,p.1≠b
theorem Inv.i3 {X:Cx}{pins:List (Addr × Obj)}{σ:St}{H H':Hp}{s:Shared}{b:Addr}(I:Inv X pins σ H s)(J:s.heap.objs.size<=b)(L:H' b=none):fV X pins H' b:=by
 refine⟨L,Q0d (Q0g I.lt J),I.la J,.inr (Q0h I.sz J),λx c e z=>?_,λp hp z=>?_⟩
 . obtain⟨v,q⟩:=I.cell x c e;exact absurd (Q0g q.lt (by rw[z];exact J)) (Q0t _)
 . exact absurd (Q0g (Q03 (I.pin p hp).1) (by rw[z];exact J)) (Q0t _)
structure Turn (P:Program) (w:World) (K:W.Frag) (tg:Expr) (J:It) (fp:List Addr) (it:Addr) (tn:Nat->Heap->Prop):Prop where
 mem:it∈fp
 obj:∀i h,tn i h->∀b∈fp,∃o,h.get? b=some o/\∀v,o.data≠ .cell v
 keep:∀i h h',tn i h->(∀b∈fp,∀o,h.get? b=some o->h'.get? b=some o)->tn i h'
 item:∀(X:Cx),X.prog=P->X.w=w->X.K=K->X.calm=true->∀(i:Nat) (pins:List (Addr × Obj)) (s:Shared) (σ:St) (H:Hp) (E:Value->Shared->Prop),Inv X pins σ H s->(∀b∈fp,fV X pins H b)->tn i s.heap->J.go i H->
  wpAny (model P w) X.A (pyNext (.ref it)) (λr s1=>∃u,r=some u/\
   wpAny (model P w) X.A (letOwnedTupleGo tg (.ref it) u) (λ_ s2=>∃x H',Inv X pins σ H' s2/\RelV x u/\J.jl i H x H'/\tn (i+1) s2.heap/\∀b∈fp,H' b=none) E s1) E s
 done:∀(X:Cx),X.prog=P->X.w=w->X.K=K->X.calm=true->∀(i:Nat) (pins:List (Addr × Obj)) (s:Shared) (σ:St) (H:Hp) (E:Value->Shared->Prop),Inv X pins σ H s->(∀b∈fp,fV X pins H b)->tn i s.heap->J.stop i H->
  wpAny (model P w) X.A (pyNext (.ref it)) (λr s1=>r=none/\Inv X pins σ H s1) E s
 self:∀(A:Around) (i:Nat) (s:Shared) (Q:Value->Shared->Prop) (E:Value->Shared->Prop),tn i s.heap->Q (.ref it) s->wpAny (model P w) A (pyIter (.ref it)) Q E s
noncomputable abbrev TI:=St->Hp->(It->Hp->Prop)->Prop
def PIE (X:Cx) (pins:List (Addr × Obj)) (σ:St) (tg:Expr) (R:It->Hp->Prop) (L:Value) (U:Shared):Prop:=
 ∃(it:Addr) (fp:List Addr) (Y:Nat->Heap->Prop) (J:It) (H':Hp),L=.ref it/\Inv X pins σ H' U/\Turn X.prog X.w X.K tg J fp it Y/\Y 0 U.heap/\(∀b∈fp,fV X pins H' b)/\R J H'
def PI (X:Cx) (tg iter:Expr) (J:TI):Prop:=
 ∀(pins:List (Addr × Obj)) (s:Shared) (σ:St) (H:Hp) (R:It->Hp->Prop),Inv X pins σ H s->J σ H R->
  wpAny (model X.prog X.w) X.A (eval iter X.env) (λv L=>wpAny (model X.prog X.w) X.A (pyIter v) (PIE X pins σ tg R) X.xe L) X.xe s
theorem nK {M:Model}{A:Around}{E:Value->Shared->Prop}{s:Shared}{tg:Expr}{it:Addr}{u:Value}{o:Obj}{n:String}{vs:Array Value}{Q:Unit->Shared->Prop}(L:s.heap.get? it=some o)(hc:o.cls=.type n)(U:o.data=.fields vs)
 (Y:["enumerate","zip","dict_itemiterator","dict_reverseitemiterator","odict_iterator","itertools.zip_longest","itertools.pairwise"].contains n=false) (J:Q () s):wpAny M A (letOwnedTupleGo tg (.ref it) u) Q E s:=by
 unfold letOwnedTupleGo
 cases tg <;> first
  |exact Q02 J
  |(cases u <;> first
     |exact Q02 J
     |(refine Q0 (wpAny_load L ?_)
       rw[hc,U];show wpAny M A (if(["enumerate","zip","dict_itemiterator","dict_reverseitemiterator","odict_iterator","itertools.zip_longest","itertools.pairwise"].contains n && vs[0]? == some (rawInt _))=true then _ else _) Q E s;rw[if_neg (by intro h;rw[Y,Bool.false_and] at h;cases h)];exact Q02 J))
noncomputable def v8 (K:W.Frag) (a:Addr):It:=
 ⟨λi H=>∃xs x,dg K H a xs/\xs[i]? =some x,λi H x H'=>H'=H/\∀xs,dg K H a xs->xs[i]? =some x,λi H=>∃xs,dg K H a xs/\xs.length<=i⟩
noncomputable def mi (K:W.Frag) (a:Addr):It:=
 ⟨λi H=>∃xs x,c8 K H a xs/\xs[i]? =some x,λi H x H'=>H'=H/\∀xs,c8 K H a xs->xs[i]? =some x,λi H=>∃xs,c8 K H a xs/\xs.length<=i⟩
noncomputable def lb (lo:Int) (n:Nat):It:=⟨λi _=>i<n,λi H x H'=>H'=H/\x=.int (lo+i),λi _=>n<=i⟩
theorem AU {P:Program}{w:World}{K:W.Frag}{tg:Expr}(a it:Addr):Turn P w K tg (v8 K a) [it] it (λi h=>h.IsListIter it a i) where
 mem:=by simp
 obj:=λi h st b J=>by
  have e:b=it:=by simpa using J
  subst e;obtain⟨o,e,c,d⟩:=st;exact⟨o,e,λv z=>by rw[d] at z;cases z⟩
 keep:=λi h h' st k=>st.at λo e=>k it (by simp) o e
 item:=by
  intro X hP hw hK hc i pins s σ H E I U st hg;subst hP hw hK;obtain⟨xs,x,Y,hx⟩:=hg;obtain⟨aa,rv,p,hz⟩:=I.list Y;obtain⟨u,hu,ru⟩:=rv.get hx;obtain⟨f0,f1,f2,f3,f4,f5⟩:=U it (by simp);refine wpAny_pyNext_list_item st p.isList (x:=u) (by simpa using hu) λh' L sb=>?_;have I1:Inv X pins σ H { s with heap:=h' }:=I.turned (t':=s.toks) (λb o J e=>(sb.2 b J).trans e) f0 f1 f3 f4 f5;obtain⟨o,e,c,d⟩:=id L;exact⟨u,rfl,nK (s:={ s with heap:=h' }) e c d (by decide) ⟨x,H,I1,ru,⟨rfl,λys hy=>by rw[I.nH hy Y];exact hx⟩,L,λb J=>(U b J).1⟩⟩
 done:=by
  intro X hP hw hK hc i pins s σ H E I U st hg;subst hP hw hK;obtain⟨xs,Y,hx⟩:=hg;obtain⟨aa,rv,p,hz⟩:=I.list Y;obtain⟨f0,f1,f2,f3,f4,f5⟩:=U it (by simp);have hl:=rv.length;exact wpAny_pyNext_list_end (I.ok.hd hc) st p.isList (by simp;omega) λh' eb=>⟨rfl,I.turned (t':=s.toks) (λb o J e=>eb b o J e) f0 f1 f3 f4 f5⟩
 self:=λ_ _ _ _ _ st h=>wpAny_pyIter_listiter st h
theorem AV {P:Program}{w:World}{K:W.Frag}{tg:Expr}(a it:Addr):Turn P w K tg (mi K a) [it] it (λi h=>h.IsTupleIter it a i) where
 mem:=by simp
 obj:=λi h st b J=>by
  have e:b=it:=by simpa using J
  subst e;obtain⟨o,e,c,d⟩:=st;exact⟨o,e,λv z=>by rw[d] at z;cases z⟩
 keep:=λi h h' st k=>st.at λo e=>k it (by simp) o e
 item:=by
  intro X hP hw hK hc i pins s σ H E I Y st hg;subst hP hw hK;obtain⟨xs,x,hq,hx⟩:=hg;obtain⟨L,rv,p,hz⟩:=I.tuple hq;obtain⟨u,hu,ru⟩:=rv.get hx;obtain⟨f0,f1,f2,f3,f4,f5⟩:=Y it (by simp);refine wpAny_pyNext_tuple_item st (show s.heap.IsTuple a L.toArray from p) (x:=u) (by simpa using hu) λh' U sb=>?_;have I1:Inv X pins σ H { s with heap:=h' }:=I.turned (t':=s.toks) (λb o J e=>(sb.2 b J).trans e) f0 f1 f3 f4 f5;obtain⟨o,e,c,d⟩:=id U;exact⟨u,rfl,nK (s:={ s with heap:=h' }) e c d (by decide) ⟨x,H,I1,ru,⟨rfl,λys hy=>by rw[I.pJ hy hq];exact hx⟩,U,λb J=>(Y b J).1⟩⟩
 done:=by
  intro X hP hw hK hc i pins s σ H E I Y st hg;subst hP hw hK;obtain⟨xs,hq,hx⟩:=hg;obtain⟨L,rv,p,hz⟩:=I.tuple hq;obtain⟨f0,f1,f2,f3,f4,f5⟩:=Y it (by simp);have hl:=rv.length;exact wpAny_pyNext_tuple_end (I.ok.hd hc) st (show s.heap.IsTuple a L.toArray from p) (by simp;omega) λh' eb=>⟨rfl,I.turned (t':=s.toks) (λb o J e=>eb b o J e) f0 f1 f3 f4 f5⟩
 self:=λ_ _ _ _ _ st h=>wpAny_pyIter_tupleiter st h
theorem AW {P:Program}{w:World}{K:PySem.W.Frag}{tg:Expr}(it:Addr)(lo:Int)(n:Nat):Turn P w K tg (lb lo n) [it] it (λi h=>IsRangeIter h it (lo+(i:Nat) * 1) ((n:Int) - (i:Nat)) 1) where
 mem:=by simp
 obj:=λi h st b J=>by
  have e:b=it:=by simpa using J
  subst e
  exact⟨_,st,λv z=>by
   have z':Data.fields _=Data.cell v:=z
   cases z'⟩
 keep:=λi h h' st k=>k it (by simp) _ st
 item:=by
  intro X Y hw hK hc i pins s σ H E I U st hg;subst Y hw hK;obtain⟨f0,f1,f2,f3,f4,f5⟩:=U it (by simp);have W:=Walks.range (prog:=X.prog) (w:=X.w) (I.ok.hd hc) it lo 1 n;refine W.item i s _ _ hg st λv h' tk hv L kk=>?_;obtain⟨t,rfl⟩:=hv;have I1:Inv X pins σ H { s with heap:=h',toks:=tk }:=I.turned (λb o J e=>kk b o (by simpa using J) e) f0 f1 f3 f4 f5;refine⟨_,rfl,nK (s:={ s with heap:=h',toks:=tk }) (n:="range_iterator") L rfl rfl (by decide) ⟨.int (lo+i),H,I1,⟨t,?_⟩,⟨rfl,rfl⟩,L,λb J=>(U b J).1⟩⟩;rw[Int.mul_one]
 done:=by
  intro X Y hw hK hc i pins s σ H E I U st hg;subst Y hw hK;obtain⟨f0,f1,f2,f3,f4,f5⟩:=U it (by simp);exact wpAny_pyNext_range_end (I.ok.hd hc) st (by have:n<=i:=hg;omega) λh' eb=>⟨rfl,I.turned (t':=s.toks) (λb o J e=>eb b o J e) f0 f1 f3 f4 f5⟩
 self:=λ_ _ _ _ _ st h=>wpAny_pyIter_rangeiter st h
section
variable {X:Cx}{tg:Expr}
def pM (K:W.Frag) (tl:TE):TI:=λσ H R=>tl σ H λx H1=>∃a,x=.ref a/\(∃xs,dg K H1 a xs)/\R (v8 K a) H1
def AX (K:W.Frag) (tl:TE):TI:=λσ H R=>tl σ H λx H1=>∃a,x=.ref a/\(∃xs,c8 K H1 a xs)/\R (mi K a) H1
theorem jK {l:Expr}{tl:TE}(hl:PE X l tl):PI X tg l (pM X.K tl):=by
 intro pins s σ H R I h;refine dH (hl pins s σ H _ I h) λv J zq=>?_;obtain⟨x,H1,L,U,Y⟩:=zq;obtain⟨a,e,⟨xs,hq⟩,q⟩:=Y;subst e
 cases U;obtain⟨aa,rv,p,hz⟩:=L.list hq;refine wpAny_pyIter_list p.isList ?_;refine⟨J.heap.objs.size,[J.heap.objs.size],_,_,H1,rfl,L.kept (t':=J.toks) λb o e=>Q07 _ e,AU a _,⟨_,Q0i _ rfl,rfl,rfl⟩,λb hb=>?_,q⟩;have e:b=J.heap.objs.size:=by simpa using hb
 subst e;exact L.i3 (Q00 _) (L.hok.fresh (Q00 _))
theorem km {l:Expr}{tl:TE}(hl:PE X l tl):PI X tg l (AX X.K tl):=by
 intro pins s σ H R I h;refine dH (hl pins s σ H _ I h) λv J zq=>?_;obtain⟨x,H1,L,Y,q1⟩:=zq;obtain⟨a,e,⟨xs,hq⟩,q⟩:=q1;subst e
 cases Y;obtain⟨U,rv,p,hz⟩:=L.tuple hq;refine wpAny_pyIter_tuple (show J.heap.IsTuple a U.toArray from p) ?_;refine⟨J.heap.objs.size,[J.heap.objs.size],_,_,H1,rfl,L.kept (t':=J.toks) λb o e=>Q07 _ e,AV a _,⟨_,Q0i _ rfl,rfl,rfl⟩,λb hb=>?_,q⟩;have e:b=J.heap.objs.size:=by simpa using hb
 subst e;exact L.i3 (Q00 _) (L.hok.fresh (Q00 _))
theorem AY {pins:List (Addr × Obj)}{σ:St}{H:Hp}{s:Shared}{R:It->Hp->Prop}{E:Value->Shared->Prop}{lo hi:Int}{t u v:Tok}{tk:Nat}(I:Inv X pins σ H s)(h1: -(2 ^ 62)<=lo)(h2:lo<2 ^ 62)(L: -(2 ^ 62)<=hi)(U:hi<2 ^ 62)
 (q:R (lb lo (hi - lo).toNat) H):wpAny (model X.prog X.w) X.A (pyIter (.ref s.heap.objs.size)) (PIE X pins σ tg R) E { s with heap:=s.heap.push { cls:=.type "range",data:=.fields #[.int lo t,.int hi u,.int 1 v] },toks:=tk }:=by
 refine wpAny_pyIter_range (IsRange.new ..) (small_one h1 h2 L U) ?_;have J:Inv X pins σ H { s with heap:=s.heap.push { cls:=.type "range",data:=.fields #[.int lo t,.int hi u,.int 1 v] },toks:=tk }:=I.kept λb o e=>Q07 _ e
 refine⟨(s.heap.push { cls:=.type "range",data:=.fields #[.int lo t,.int hi u,.int 1 v] }).objs.size,[(s.heap.push { cls:=.type "range",data:=.fields #[.int lo t,.int hi u,.int 1 v] }).objs.size],_,_,H,rfl,
  J.kept (t':=tk) λb o e=>Q07 _ e,AW _ lo (hi - lo).toNat,?_,λb Y=>?_,q⟩
 . have e1:lo+((0:Nat):Int) * 1=lo:=by simp
   have e2:(((hi - lo).toNat:Nat):Int) - ((0:Nat):Int)=Builtin.Range.rangeSize lo hi 1:=by rw[rangeSize_one];split <;> omega
   show IsRangeIter _ _ (lo+((0:Nat):Int) * 1) ((((hi - lo).toNat:Nat):Int) - ((0:Nat):Int)) 1;rw[e1,e2];exact Q0i _ rfl
 . have e:b=(s.heap.push { cls:=.type "range",data:=.fields #[.int lo t,.int hi u,.int 1 v] }).objs.size:=by simpa using Y
   subst e;exact J.i3 (Q00 _) (J.hok.fresh (Q00 _))
def pN (ta:TA):TI:=λσ H R=>ta σ H λvs H1=>∃j:Int,vs=[.int j]/\ -(2 ^ 62)<=j/\j<2 ^ 62/\R (lb 0 j.toNat) H1
theorem jm {a:Expr}{ta:TA}{p pos:Pos}(L:Gl X "range")(U:X.mg "range"=none)(Y:PA X [a] ta)(hs:starEach [a] X.env=[(false,eval a X.env)]:=by rfl):PI X tg (.Call (.Name "range" p) [a] [] pos) (pN ta):=by
 intro pins s σ H R I h;refine Call_ (iZ I L U boot_range (PyProof.Rows.callWith_type1 (dH (Y pos pins s σ H _ I h) λus s1 zq=>?_) hs rfl));obtain⟨vs,H1,I1,r1,J⟩:=zq;obtain⟨j,e,J,q2,q⟩:=J;subst e
 cases r1 with
 |cons r rr=>
  cases rr;obtain⟨t,rfl⟩:=r;exact call_range_1 (AY I1 (by omega) (by omega) J q2 (by simpa using q))
def AZ (wi:TI) (g:TG) (tb:TS):TS:=λD σ H=>wi σ H λJ H1=>∃W:Nat->Nat->St->Hp->Prop,(∃m,W 0 m σ H1)/\∀i m σ H,W i m σ H->
 (J.stop i H/\D.nx σ H)\/(J.go i H/\∃N:St->Hp->Prop,(∀L H',N L H'->∃Y,Y<m/\W (i+1) Y L H')/\∀x H',J.jl i H x H'->g x σ H' λU H2=>tb { D with nx:=N,ct:=N,bk:=D.nx } U H2)
noncomputable def nL (fp:List Addr) (h:Heap):List (Addr × Obj):=fp.filterMap λb=>(h.get? b).map λo=>(b,o)
theorem mj {fp:List Addr}{h:Heap}{b:Addr}{o:Obj}(J:b∈fp)(e:h.get? b=some o):(b,o)∈nL fp h:=List.mem_filterMap.mpr ⟨b,J,by rw[e];rfl⟩
theorem A0 {fp:List Addr}{h:Heap}{p:Addr × Obj}(hp:p∈nL fp h):p.1∈fp/\h.get? p.1=some p.2:=by
 obtain⟨b,J,e⟩:=List.mem_filterMap.mp hp
 cases q:h.get? b with
 |none=>rw[q] at e;cases e
 |some o=>
  rw[q] at e;have L:(b,o)=p:=Option.some.inj e;subst L;exact⟨J,q⟩
theorem Inv.pinned {pins:List (Addr × Obj)}{σ:St}{H:Hp}{s:Shared}{fp:List Addr}(I:Inv X pins σ H s)(U:∀b∈fp,fV X pins H b)(Y:∀b∈fp,∃o,s.heap.get? b=some o/\∀v,o.data≠ .cell v):Inv X (pins++nL fp s.heap) σ H s:=
 I.ki λp hp=>(List.mem_append.mp hp).elim (λz=>I.pin p (Q01 _ z)) λz=>by
   obtain⟨J,e⟩:=A0 z;obtain⟨f0,f1,f2,_⟩:=U p.1 J;obtain⟨o,L,d⟩:=Y p.1 J;rw[e] at L;cases L;exact⟨e,f0,f1,f2,d⟩
theorem Inv.jL {pins pl:List (Addr × Obj)}{σ:St}{H:Hp}{s:Shared}(I:Inv X (pins++pl) σ H s):Inv X pins σ H s:=I.ki λp hp=>I.pin p (Q01 _ (Q0f _ hp))
theorem iP {iter:Expr}{body:List Stmt}{wi:TI}{g:TG}{tb:TS}{pos:Pos}(hp:PassesOwn (model X.prog X.w) X.A X.env X.xe)(hc:X.calm=true)(hi:PI X tg iter wi)(hg:PG X tg g)(U:gU X body tb)
 (hs:∀x,foldedSetIterable iter X.env x=pure x:=by intro _;rfl):PS X (.For tg iter body [] pos) (AZ wi g tb):=by
 intro pins s σ H D I h;refine wpAny_For (dH (hi pins s σ H _ I h) λv s1 h1=>dH h1 λal s2 h2=>?_) hs;obtain⟨it,fp,tn,J,H2,e,I2,T,ah,f2,W,⟨m0,w0⟩,turn⟩:=h2;subst e;have ac:∀{H':Hp},(∀b∈fp,H' b=none)->∀b∈fp,fV X pins H' b:=λhn b U=>⟨hn b U,(f2 b U).2⟩;refine codeAny_forLoop_any (λn s'=>∃i aa H',Inv X pins aa H' s'/\tn i s'.heap/\(∀b∈fp,H' b=none)/\W i n aa H') ?_ m0 ⟨0,σ,H2,I2,ah,λb U=>(f2 b U).1,w0⟩;intro n s3 zq;obtain⟨i,ab,H3,I3,af,ag,w3⟩:=zq;rcases turn i n ab H3 w3 with⟨stop,qn⟩|⟨go,N,hN,step⟩
 . refine wpAny_passesOwn hp (dH (T.done X rfl rfl rfl hc i pins s3 ab H3 X.xe I3 (ac ag) af stop) λr s4 ⟨hr,I4⟩=>?_);subst hr;exact wpAny_execs_nil ⟨ab,H3,I4,qn⟩
 . refine wpAny_passesOwn hp (dH (T.item X rfl rfl rfl hc i pins s3 ab H3 X.xe I3 (ac ag) af go) λr s4 ⟨u,hr,h4⟩=>?_);subst hr;refine wpAny_passesOwn hp (dH h4 λ_ s5 zq=>?_);obtain⟨x,H5,I5,r5,y5,ae,ai⟩:=zq;have aj:=I5.pinned (ac ai) (T.obj _ _ ae);refine wpAny_passesOwn hp (dH (hg _ s5 ab H5 x u _ aj r5 (step x H5 y5)) λ_ s6 zq=>?_);obtain⟨ak,H6,I6,q6⟩:=zq;refine wpAny_passesOwn hp (dH (U _ s6 ak H6 _ I6 q6) λf s7 q7=>?_)
   have again:∀{L:St} {Y:Hp},Inv X (pins++nL fp s5.heap) L Y s7->N L Y->∃m,m<n/\∃i aa H',Inv X pins aa H' s7/\tn i s7.heap/\(∀b∈fp,H' b=none)/\W i m aa H':=λ{L Y} I7 n7=>by
    obtain⟨m',hm,w7⟩:=hN L Y n7;refine⟨m',hm,i+1,L,Y,I7.jL,T.keep _ _ _ ae λb U o e=>(I7.pin (b,o) (Q01 _ (Q01 _ (mj U e)))).1,λb U=>?_,w7⟩;obtain⟨o,e,d⟩:=T.obj _ _ ae b U;exact(I7.pin (b,o) (Q01 _ (Q01 _ (mj U e)))).2.1
   cases f with
   |next=>obtain⟨L,Y,I7,n7⟩:=q7;exact again I7 n7
   |cont=>obtain⟨L,Y,I7,n7⟩:=q7;exact again I7 n7
   |brk=>obtain⟨L,Y,I7,q7⟩:=q7;exact⟨L,Y,I7.jL,q7⟩
   |ret v=>obtain⟨x7,L,Y,I7,r7,q7⟩:=q7;exact⟨x7,L,Y,I7.jL,r7,q7⟩
end
theorem v9 {K:PySem.W.Frag}{a:Addr}{xs:List V}{g:TG}{tb:TS}{D:Ends}{σ:St}{H:Hp}(Pv:Nat->St->Hp->Prop)(h0:Pv 0 σ H)(hl:∀i σ H,i<=xs.length->Pv i σ H->c8 K H a xs)
 (hs:∀i x σ H,xs[i]? =some x->Pv i σ H->g x σ H λJ H2=>tb { D with nx:=Pv (i+1),ct:=Pv (i+1),bk:=D.nx } J H2) (hd:∀σ H,Pv xs.length σ H->D.nx σ H):
 ∃W:Nat->Nat->St->Hp->Prop,(∃m,W 0 m σ H)/\∀i m σ H,W i m σ H->
  ((mi K a).stop i H/\D.nx σ H)\/((mi K a).go i H/\∃N:St->Hp->Prop,(∀L H',N L H'->∃Y,Y<m/\W (i+1) Y L H')/\∀x H',(mi K a).jl i H x H'->g x σ H' λJ H2=>tb { D with nx:=N,ct:=N,bk:=D.nx } J H2):=by
 refine⟨λi m σ H=>m=xs.length - i/\i<=xs.length/\Pv i σ H,⟨xs.length,by simp,Q06 _,h0⟩,?_⟩;rintro i m σ H ⟨rfl,hi,p⟩;have q:=hl i σ H hi p;by_cases U:i<xs.length
 . refine .inr ⟨⟨xs,xs[i],q,by simp[U]⟩,Pv (i+1),λL H' p'=>⟨xs.length - (i+1),by omega,rfl,U,p'⟩,λx H' y=>?_⟩;obtain⟨e,y⟩:=y;subst e;exact hs i x σ _ (y xs q) p
 . have e:i=xs.length:=by omega
   subst e;exact .inl ⟨⟨xs,q,Q00 _⟩,hd σ H p⟩
theorem pO {lo:Int}{n:Nat}{g:TG}{tb:TS}{D:Ends}{σ:St}{H:Hp}(Pv:Nat->St->Hp->Prop)(h0:Pv 0 σ H)
 (hs:∀i σ H,i<n->Pv i σ H->g (.int (lo+i)) σ H λJ H2=>tb { D with nx:=Pv (i+1),ct:=Pv (i+1),bk:=D.nx } J H2) (hd:∀σ H,Pv n σ H->D.nx σ H):
 ∃W:Nat->Nat->St->Hp->Prop,(∃m,W 0 m σ H)/\∀i m σ H,W i m σ H->
  ((lb lo n).stop i H/\D.nx σ H)\/((lb lo n).go i H/\∃N:St->Hp->Prop,(∀L H',N L H'->∃Y,Y<m/\W (i+1) Y L H')/\∀x H',(lb lo n).jl i H x H'->g x σ H' λJ H2=>tb { D with nx:=N,ct:=N,bk:=D.nx } J H2):=by
 refine⟨λi m σ H=>m=n - i/\i<=n/\Pv i σ H,⟨n,by simp,Q06 _,h0⟩,?_⟩;rintro i m σ H ⟨rfl,hi,p⟩;by_cases U:i<n
 . refine .inr ⟨U,Pv (i+1),λL H' p'=>⟨n - (i+1),by omega,rfl,U,p'⟩,λx H' y=>?_⟩;obtain⟨e,y⟩:=y;subst e y;exact hs i σ _ U p
 . have e:i=n:=by omega
   subst e;exact .inl ⟨Q00 _,hd σ H p⟩
noncomputable abbrev R2:=V->V->Hp->VK->Prop
def fu (X:Cx) (f:Value->Value->Sem Value) (r:R2):Prop:=
 ∀(pins:List (Addr × Obj)) (s:Shared) (σ:St) (H:Hp) (x y:V) (v u:Value) (Q:VK),Inv X pins σ H s->RelV x v->RelV y u->r x y H Q->
  wpAny (model X.prog X.w) X.A (f v u) (EP X pins σ Q) X.xe s
def pP (X:Cx) (f:Value->Sem Value) (r:V->Hp->VK->Prop):Prop:=
 ∀(pins:List (Addr × Obj)) (s:Shared) (σ:St) (H:Hp) (x:V) (v:Value) (Q:VK),Inv X pins σ H s->RelV x v->r x H Q->
  wpAny (model X.prog X.w) X.A (f v) (EP X pins σ Q) X.xe s
def ig (X:Cx) (f:Value) (r:List V->Hp->VK->Prop):Prop:=
 ∀(pins:List (Addr × Obj)) (s:Shared) (σ:St) (H:Hp) (xs:List V) (J:List Value) (Q:VK),Inv X pins σ H s->Vals xs J->r xs H Q->
  wpAny (model X.prog X.w) X.A (call f J) (EP X pins σ Q) X.xe s
def dY (r:R2) (ta tb:TE):TE:=λσ H Q=>ta σ H λx H1=>tb σ H1 λy H2=>r x y H2 Q
def A1 (r:V->Hp->VK->Prop) (ta:TE):TE:=λσ H Q=>ta σ H λx H1=>r x H1 Q
def rI (C:Int->Int->Prop) (g:Int->Int->V):R2:=λx y H Q=>∃i j,x=.int i/\y=.int j/\C i j/\Q (g i j) H
def jM (g:Int->Int->V):R2:=λx y H Q=>∃i j,x=.int i/\y=.int j/\Q (g i j) H
def rU (g:Int->V):V->Hp->VK->Prop:=λx H Q=>∃i,x=.int i/\Q (g i) H
section
variable {X:Cx}{a b c:Expr}{ta tb tc:TE}{pos:Pos}
theorem pQ (Y:PE X a ta)(hb:PE X b tb){pins:List (Addr × Obj)}{s:Shared}{σ:St}{H:Hp}{R:V->V->Hp->Prop}(I:Inv X pins σ H s)
 (h:ta σ H λx H1=>tb σ H1 λy H2=>R x y H2) {Q:Value->Shared->Prop} {f:Value->Value->Sem Value}
 (hf:∀v u U x y H2,Inv X pins σ H2 U->RelV x v->RelV y u->R x y H2->wpAny (model X.prog X.w) X.A (f v u) Q X.xe U):
 wpAny (model X.prog X.w) X.A (eval a X.env) (λv J=>wpAny (model X.prog X.w) X.A (eval b X.env) (λu L=>wpAny (model X.prog X.w) X.A (f v u) Q X.xe L) X.xe J) X.xe s:=by
 refine dH (Y pins s σ H _ I h) λv s1 zq=>?_;obtain⟨x,H1,I1,r1,q1⟩:=zq;refine dH (hb pins s1 σ H1 _ I1 q1) λu U zq=>?_;obtain⟨y,H2,I2,r2,q2⟩:=zq;exact hf v u U x y H2 I2 r1 r2 q2
theorem dm {op:Operator}{r:R2}(J:fu X (binaryOp op) r)(L:PE X a ta)(U:PE X b tb):PE X (.BinOp a op b pos) (dY r ta tb):=by
 intro pins s σ H Q I h;exact wpAny_BinOp (pQ L U I h λv u Y x y H2 I2 rx ry q=>J pins Y σ H2 x y v u Q I2 rx ry q)
theorem A2 {op:UnaryOp}{r:V->Hp->VK->Prop}(J:pP X (unaryOp op) r)(L:PE X a ta):PE X (.UnaryOp op a pos) (A1 r ta):=by
 intro pins s σ H Q I h;exact UnaryOp_ (dH (L pins s σ H _ I h) λv U ⟨x,H1,Y,r1,q1⟩=>J pins U σ H1 x v Q Y r1 q1)
theorem nM {f:Value->Value->Sem Value}{C:Int->Int->Prop}{g:Int->Int->Int}
 (rule:∀(i j:Int) (t u:Tok) (s:Shared) (Q:Value->Shared->Prop) (E:Value->Shared->Prop),C i j->Q (.int (g i j) s.toks) { s with toks:=s.toks+1 }->wpAny (model X.prog X.w) X.A (f (.int i t) (.int j u)) Q E s):
 fu X f (rI C λi j=>.int (g i j)):=by
 intro pins s σ H x y v u Q I J L h;obtain⟨i,j,rfl,rfl,hc,q⟩:=h;obtain⟨t,rfl⟩:=J;obtain⟨t',rfl⟩:=L;exact rule i j t t' s _ _ hc ⟨.int (g i j),H,I.tok _,⟨_,rfl⟩,q⟩
theorem v_ {f:Value->Value->Sem Value}{g:Int->Int->Int}
 (rule:∀(i j:Int) (t u:Tok) (s:Shared) (Q:Value->Shared->Prop) (E:Value->Shared->Prop),Q (.int (g i j) s.toks) { s with toks:=s.toks+1 }->wpAny (model X.prog X.w) X.A (f (.int i t) (.int j u)) Q E s):
 fu X f (jM λi j=>.int (g i j)):=by
 intro pins s σ H x y v u Q I J L h;obtain⟨i,j,rfl,rfl,q⟩:=h;obtain⟨t,rfl⟩:=J;obtain⟨t',rfl⟩:=L;exact rule i j t t' s _ _ ⟨.int (g i j),H,I.tok _,⟨_,rfl⟩,q⟩
theorem nN {f:Value->Value->Sem Value}{g:Int->Int->Bool}
 (rule:∀(i j:Int) (t u:Tok) (s:Shared) (Q:Value->Shared->Prop) (E:Value->Shared->Prop),Q (.bool (g i j)) s->wpAny (model X.prog X.w) X.A (f (.int i t) (.int j u)) Q E s):
 fu X f (jM λi j=>.bl (g i j)):=by
 intro pins s σ H x y v u Q I J L h;obtain⟨i,j,rfl,rfl,q⟩:=h;obtain⟨t,rfl⟩:=J;obtain⟨t',rfl⟩:=L;exact rule i j t t' s _ _ ⟨.bl (g i j),H,I,rfl,q⟩
def A4 (i j:Int):Prop:=0<j/\j<1073741824
def pR (i j:Int):Prop:=0<=j/\j<=1000000/\i.natAbs<2 ^ 64
def pS (i j:Int):Prop:=(-(2 ^ 64)<i/\i<2 ^ 64)\/(-(2 ^ 64)<j/\j<2 ^ 64)
theorem pS.ok {i j:Int}(h:pS i j):IntMulOk i j:=by
 rcases h with⟨h1,h2⟩|⟨h1,h2⟩
 . exact .of_left (intBits_le_64 h1 h2)
 . exact .of_right (intBits_le_64 h1 h2)
theorem gu:fu X (binaryOp .Add) (jM λi j=>.int (i+j)):=v_ λ_ _ _ _ _ _ _ q=>add_int q
theorem jN:fu X (binaryOp .Sub) (jM λi j=>.int (i - j)):=v_ λ_ _ _ _ _ _ _ q=>sub_int q
theorem jn:fu X (binaryOp .Mult) (rI pS λi j=>.int (i * j)):=nM λ_ _ _ _ _ _ _ hc q=>mul_int q hc.ok
theorem f_:fu X (binaryOp .FloorDiv) (rI A4 λi j=>.int (i / j)):=nM λi j _ _ _ _ _ hc q=>by
 have h1:(0:Int)<j:=hc.1;have h2:j<1073741824:=hc.2;exact floordiv_int (by omega) (by rw[Int.fdiv_eq_ediv_of_nonneg i (by omega)];exact q) (.inl (PyProof.noPylong_small (by omega)))
theorem eE:fu X (binaryOp .Mod) (rI (λ_ j=>0<j) λi j=>.int (i % j)):=nM λi j _ _ _ _ _ hc q=>by
 have h1:(0:Int)<j:=hc;exact mod_int' (by omega) (by rw[Int.fmod_eq_emod_of_nonneg i (by omega)];exact q)
theorem nO:fu X (binaryOp .Pow) (rI pR λi j=>.int (i ^ j.toNat)):=nM λ_ _ _ _ _ _ _ hc q=>pow_int_small hc.1 hc.2.1 hc.2.2 q
theorem A5 {f:Value->Sem Value}{g:Int->Int}
 (rule:∀(i:Int) (t:Tok) (s:Shared) (Q:Value->Shared->Prop) (E:Value->Shared->Prop),Q (.int (g i) s.toks) { s with toks:=s.toks+1 }->wpAny (model X.prog X.w) X.A (f (.int i t)) Q E s):
 pP X f (rU λi=>.int (g i)):=by
 intro pins s σ H x v Q I J h;obtain⟨i,rfl,q⟩:=h;obtain⟨t,rfl⟩:=J;exact rule i t s _ _ ⟨.int (g i),H,I.tok _,⟨_,rfl⟩,q⟩
theorem A6:pP X (unaryOp .USub) (rU λi=>.int (-i)):=A5 λ_ _ _ _ _ q=>neg_int q
end
noncomputable def nQ:V->V->Bool
 | .non,.non=>true| .non,.int _=>true| .int _,.non=>true| .non,.bl _=>true| .bl _,.non=>true| .non,.str _=>true| .str _,.non=>true
 | .int _,.int _=>true| .bl _,.bl _=>true| .str _,.str _=>true| .iK _,.iK _=>true
 | .int _,.str _=>true| .str _,.int _=>true| .bl _,.str _=>true| .str _,.bl _=>true
 |_,_=>false
def jo:R2:=λx y H Q=>nQ x y=true/\Q (.bl (decide (x=y))) H
def A7:R2:=λx y H Q=>nQ x y=true/\Q (.bl (!decide (x=y))) H
theorem wa {i j:Int}:decide (V.int i=V.int j)=(i == j):=by
 rw[Bool.eq_iff_iff];simp
theorem wb {i j:Bool}:decide (V.bl i=V.bl j)=(i == j):=by
 rw[Bool.eq_iff_iff];simp
theorem wc {i j:Str}:decide (V.str i=V.str j)=(i == j):=by
 rw[Bool.eq_iff_iff];simp
theorem wd {i j:Array UInt8}:decide (V.iK i=V.iK j)=(i.toList == j.toList):=by
 rw[Bool.eq_iff_iff]
 cases i
 cases j;simp
section
variable {X:Cx}{a b c:Expr}{ta tb tc:TE}{pos:Pos}
theorem e_ {pins:List (Addr × Obj)}{σ:St}{H:Hp}{s:Shared}{Q:VK}{k J:Bool}(I:Inv X pins σ H s)(q:Q (.bl k) H)(e:k=J):EP X pins σ Q (.bool J) s:=by
 subst e;exact⟨.bl k,H,I,rfl,q⟩
theorem dX:fu X (compareOp .Eq) jo:=by
 intro pins s σ H x y v u Q I U J h;obtain⟨L,q⟩:=h
 cases x with
 |non=>
  cases U
  cases y with
  |non=>cases J;exact PySem.EqNone.eq_none_none (e_ I q (by simp))
  |bl j=>cases J;exact PySem.EqNone.eq_none_bool (e_ I q (by simp))
  |int j=>obtain⟨t',rfl⟩:=J;exact PySem.EqNone.eq_none_int (e_ I q (by simp))
  |str j=>obtain⟨t',rfl⟩:=J;exact PySem.EqNone.eq_none_str (e_ I q (by simp))
  |_=>exact absurd (show false=true from L) Bool.false_ne_true
 |bl i=>
  cases U
  cases y with
  |non=>cases J;exact PySem.EqNone.eq_bool_none (e_ I q (by simp))
  |bl j=>cases J;exact eq_bool (e_ I q wb)
  |str j=>obtain⟨t',rfl⟩:=J;exact PySem.EqMixed.eq_bool_str (e_ I q (by simp))
  |_=>exact absurd (show false=true from L) Bool.false_ne_true
 |int i=>
  obtain⟨t,rfl⟩:=U
  cases y with
  |non=>cases J;exact PySem.EqNone.eq_int_none (e_ I q (by simp))
  |int j=>obtain⟨t',rfl⟩:=J;exact eq_int (e_ I q wa)
  |str j=>obtain⟨t',rfl⟩:=J;exact PySem.EqMixed.eq_int_str (e_ I q (by simp))
  |_=>exact absurd (show false=true from L) Bool.false_ne_true
 |str i=>
  obtain⟨t,rfl⟩:=U
  cases y with
  |non=>cases J;exact PySem.EqNone.eq_str_none (e_ I q (by simp))
  |bl j=>cases J;exact PySem.EqMixed.eq_str_bool (e_ I q (by simp))
  |int j=>obtain⟨t',rfl⟩:=J;exact PySem.EqMixed.eq_str_int (e_ I q (by simp))
  |str j=>obtain⟨t',rfl⟩:=J;exact eq_str (e_ I q wc)
  |_=>exact absurd (show false=true from L) Bool.false_ne_true
 |iK i=>
  obtain⟨t,rfl⟩:=U
  cases y with
  |iK j=>obtain⟨t',rfl⟩:=J;exact W.eq_bytes (e_ I q wd)
  |_=>exact absurd (show false=true from L) Bool.false_ne_true
 |_=>cases y <;> exact absurd (show false=true from L) Bool.false_ne_true
theorem ij:fu X (compareOp .NotEq) A7:=by
 intro pins s σ H x y v u Q I U J h;obtain⟨L,q⟩:=h
 cases x with
 |non=>
  cases U
  cases y with
  |non=>cases J;exact PySem.EqNone.ne_none_none (e_ I q (by simp))
  |bl j=>cases J;exact PySem.EqNone.ne_none_bool (e_ I q (by simp))
  |int j=>obtain⟨t',rfl⟩:=J;exact PySem.EqNone.ne_none_int (e_ I q (by simp))
  |str j=>obtain⟨t',rfl⟩:=J;exact PySem.EqNone.ne_none_str (e_ I q (by simp))
  |_=>exact absurd (show false=true from L) Bool.false_ne_true
 |bl i=>
  cases U
  cases y with
  |non=>cases J;exact PySem.EqNone.ne_bool_none (e_ I q (by simp))
  |bl j=>cases J;exact ne_bool (e_ I q (congrArg not wb))
  |str j=>obtain⟨t',rfl⟩:=J;exact PySem.EqMixed.ne_bool_str (e_ I q (by simp))
  |_=>exact absurd (show false=true from L) Bool.false_ne_true
 |int i=>
  obtain⟨t,rfl⟩:=U
  cases y with
  |non=>cases J;exact PySem.EqNone.ne_int_none (e_ I q (by simp))
  |int j=>obtain⟨t',rfl⟩:=J;exact ne_int (e_ I q (congrArg not wa))
  |str j=>obtain⟨t',rfl⟩:=J;exact PySem.EqMixed.ne_int_str (e_ I q (by simp))
  |_=>exact absurd (show false=true from L) Bool.false_ne_true
 |str i=>
  obtain⟨t,rfl⟩:=U
  cases y with
  |non=>cases J;exact PySem.EqNone.ne_str_none (e_ I q (by simp))
  |bl j=>cases J;exact PySem.EqMixed.ne_str_bool (e_ I q (by simp))
  |int j=>obtain⟨t',rfl⟩:=J;exact PySem.EqMixed.ne_str_int (e_ I q (by simp))
  |str j=>obtain⟨t',rfl⟩:=J;exact ne_str (e_ I q (congrArg not wc))
  |_=>exact absurd (show false=true from L) Bool.false_ne_true
 |iK i=>
  obtain⟨t,rfl⟩:=U
  cases y with
  |iK j=>obtain⟨t',rfl⟩:=J;exact W.ne_bytes (e_ I q (congrArg not wd))
  |_=>exact absurd (show false=true from L) Bool.false_ne_true
 |_=>cases y <;> exact absurd (show false=true from L) Bool.false_ne_true
theorem i4:fu X (compareOp .Lt) (jM λi j=>.bl (decide (i<j))):=nN λ_ _ _ _ _ _ _ q=>lt_int q
theorem we:fu X (compareOp .LtE) (jM λi j=>.bl (decide (i<=j))):=nN λ_ _ _ _ _ _ _ q=>le_int q
theorem jO:fu X (compareOp .Gt) (jM λi j=>.bl (decide (j<i))):=nN λ_ _ _ _ _ _ _ q=>gt_int q
theorem A8:fu X (compareOp .GtE) (jM λi j=>.bl (decide (j<=i))):=nN λ_ _ _ _ _ _ _ q=>ge_int q
theorem gX:fu X (compareOp .Is) (λx y H Q=>y=.non/\Q (.bl (decide (x=.non))) H):=by
 intro pins s σ H x y v u Q I J L h;obtain⟨rfl,q⟩:=h
 cases L;refine is_none_gen (e_ I q ?_)
 cases x <;> first
  |(cases J;rfl)
  |(obtain⟨t,rfl⟩:=J;rfl)
theorem gY:fu X (compareOp .IsNot) (λx y H Q=>y=.non/\Q (.bl (!decide (x=.non))) H):=by
 intro pins s σ H x y v u Q I J L h;obtain⟨rfl,q⟩:=h
 cases L;refine isnot_none_gen (e_ I q ?_)
 cases x <;> first
  |(cases J;rfl)
  |(obtain⟨t,rfl⟩:=J;rfl)
theorem di (b:Expr){op:CmpOp}(h:op≠ .In:=by decide)(h2:op≠ .NotIn:=by decide):behindInMarks op b=false:=by
 have J:(op == CmpOp.In)=false:=by cases op <;> first|rfl|exact absurd rfl h
 have L:(op == CmpOp.NotIn)=false:=by cases op <;> first|rfl|exact absurd rfl h2
 cases b <;> simp[behindInMarks,J,L]
theorem gZ {op:CmpOp}{r:R2}(J:fu X (compareOp op) r)(L:PE X a ta)(U:PE X b tb)(Y:behindInMarks op b=false):PE X (.Compare a [op] [b] pos) (dY r ta tb):=by
 intro pins s σ H Q I h;exact wpAny_Compare1 (pQ L U I h λv u s2 x y H2 I2 rx ry q=>J pins s2 σ H2 x y v u Q I2 rx ry q) Y
def iQ (t:TE):TT:=λσ H Q=>t σ H λx H'=>∃k,x=.bl k/\Q k H'
theorem dw {op:CmpOp}{r:R2}(J:fu X (compareOp op) r)(L:PE X a ta)(U:PE X b tb)(Y:behindInMarks op b=false):PT X (.Compare a [op] [b] pos) (iQ (dY r ta tb)):=by
 intro pins s σ H Q I h
 refine wpAny_isTrue_Compare1 (dH (L pins s σ H _ I h) λv s1 ⟨x,H1,I1,r1,q1⟩=>dH (U pins s1 σ H1 _ I1 q1) λu s2 ⟨y,H2,I2,r2,q2⟩=>
  dH (J pins s2 σ H2 x y v u _ I2 r1 r2 q2) λc s3 ⟨z,H3,I3,r3,k,e,q3⟩=>?_) Y
 subst e
 cases r3;exact wpAny_truthy_bool ⟨H3,I3,q3⟩
theorem lg:(sizeLine:Nat)<2 ^ 63:=by rw[sizeLine_eq];decide
theorem pT:fu X (binaryOp .Add) (λx y H Q=>∃i j,x=.str i/\y=.str j/\i.length+j.length<=sizeLine/\Q (.str (i++j)) H):=by
 intro pins s σ H x y v u Q I J L h;obtain⟨i,j,rfl,rfl,U,q⟩:=h;obtain⟨t,rfl⟩:=J;obtain⟨t',rfl⟩:=L;exact add_str (λt' tk=>⟨.str (i++j),H,I.tok _,⟨_,rfl⟩,q⟩) U
theorem vals1 {x:V}{J:List Value}(r:Vals [x] J):∃u,J=[u]/\RelV x u:=by
 cases r with
 |cons L U=>cases U;exact⟨_,rfl,L⟩
theorem vals2 {x y:V}{J:List Value}(r:Vals [x,y] J):∃u L,J=[u,L]/\RelV x u/\RelV y L:=by
 cases r with
 |cons U Y=>
  cases Y with
  |cons r3 r4=>cases r4;exact⟨_,_,rfl,U,r3⟩
end
structure pU (h:Heap) (x dx C:Addr) (mA:Str->Option Value):Prop where
 obj:h.get? x=some (W.instObj C dx)
 ns:h.Ns1 dx mA
 ne:dx≠x
theorem A9 {h:Heap}{dx:Addr}{mA:Str->Option Value}(n:h.Ns1 dx mA):∃L,h.get? dx=some L/\∀name,W.lookIn name L=some (mA name):=by
 obtain⟨o,es,ep,U,Y,hk,_,hm⟩:=n;refine⟨o,U,λname=>?_⟩;have e:=hm name;unfold nsFind findBy at e;rw[<-Array.find?_toList] at e;unfold W.lookIn;rw[Y];dsimp only;split
 . rename_i y q;rw[q] at e;exact congrArg some e
 . rename_i q;rw[q] at e
   have a:es.toList.any (·.refKey)=false:=by
    rw[List.any_eq_false];intro y hy;obtain⟨z,t,J⟩:=hk y (Array.mem_toList_iff.mp hy);simp[DictEntry.refKey,J]
   have a':¬es.toList.any (·.refKey)=true:=by rw[a];exact Bool.false_ne_true
   rw[if_neg a'];exact congrArg some e
theorem pU.look {h:Heap}{x dx C:Addr}{mA:Str->Option Value}(I:pU h x dx C mA):∃J,W.InstAt h x (W.instObj C dx) C (some J)/\∀name,W.lookIn name J=some (mA name):=
 let⟨J,L,hl⟩:=A9 I.ns
 ⟨J,⟨I.obj,rfl,rfl,L⟩,hl⟩
section
variable {prog:Program}{w:World}{A:Around}{E:Value->Shared->Prop}{s:Shared}{K:W.Frag}{x dx C f:Addr}{mA:Str->Option Value}{name:Str}{v:Value}
end
theorem iL.some_of {v:V}{o:Option Value}(r:iL (some v) o):∃u,o=some u/\RelV v u:=by
 cases o with
 |none=>exact(show False from r).elim
 |some u=>exact⟨u,rfl,r⟩
section
variable {P:Program}{w:World}{H H':Hp}{h h':Heap}{a C dx:Addr}{fs fs':List (Str × V)}
theorem A_ (J:fj P w H h)(e:H a=some (.ins C dx fs)):∃mA,pU h a dx C mA/\(∀f,iL (fs.lookup f) (mA f))/\PySem.Within mA (fs.map (·.1))/\fs.length<=1000/\H dx=some (.own a):=by
 obtain⟨d,z,L,U,mA,n,r,q⟩:=(show fi P w H h a (.ins C dx fs) from J a _ e);exact⟨mA,⟨U,n,L⟩,r,q,z,d⟩
end
structure Cls (K:W.Frag) (C:Addr):Prop where
 pg:W.plainGet K C Str.empty=true
 hd:W.hasDictIn K C=true
 po:W.plainOver K C=true
 sa:W.findIn K (.ref C) "__setattr__"=some (some (.builtin "object.__setattr__"))
theorem Cls.get {K:W.Frag}{C:Addr}(c:Cls K C)(f:Str):W.plainGet K C f=true:=c.pg
section
variable {X:Cx}{pins:List (Addr × Obj)}{σ:St}{H:Hp}{s:Shared}{a C dx:Addr}{fs:List (Str × V)}{f:Str}{v:V}{A:Around}{E:Value->Shared->Prop}
end
section
variable {X:Cx}{o e value:Expr}{f:Str}{pos pos' tpos:Pos}{ta tv:TE}
end
section
variable {X:Cx}{pins:List (Addr × Obj)}{σ:St}{H:Hp}{s:Shared}{A:Around}{E:Value->Shared->Prop}{Q:Value->Shared->Prop}{c:Value}{b:Bool}
inductive ik (K:W.Frag) (H:Hp):V->Value->Prop where
 |non:ik K H .non (.type "NoneType")
 |bl (x:Bool):ik K H (.bl x) (.type "bool")
 |int (i:Int):ik K H (.int i) (.type "int")
 |str (x:Str):ik K H (.str x) (.type "str")
 |flt (x:UInt64):ik K H (.flt x) (.type "float")
 |lst {a:Addr} {xs:List V} (e:H a=some (.lst xs)):ik K H (.ref a) (.type "list")
 |e8 {a:Addr} {o:Obj} {xs:List V} (e:H a=some (.e8 o (.lst xs))):ik K H (.ref a) (.type "list")
 |tup {a:Addr} {xs:List V} (e:H a=some (.tup xs)):ik K H (.ref a) (.type "tuple")
 |dK {a:Addr} {kvs:List (Key × V)} (e:H a=some (.dK kvs)):ik K H (.ref a) (.type "dict")
 |dT {a:Addr} {kvs:List (List Key × V)} (e:H a=some (.dT kvs)):ik K H (.ref a) (.type "dict")
 |ins {a C dx:Addr} {fs:List (Str × V)} (e:H a=some (.ins C dx fs)) (cl:Cls K C) (ha:W.findIn K (.ref C) "__class__"=some (some (.builtin "object.__class__")))
   (hn:W.specialIn K (.builtin "object.__class__") "__get__"=some (some (.builtin "getset_descriptor.__get__"))) (htk:W.takesIn K (.builtin "object.__class__")=some true)
   (hm:W.mroIn K C (.type "object")=some true):ik K H (.ref a) (.ref C)
theorem Ba {x:V}{u t:Value}(I:Inv X pins σ H s)(L:RelV x u)(ty:ik X.K H x t)(e:W.kitOne X.K t c=some b)(h:∀tk,Q (.bool b) { s with toks:=tk }):
 wpAny (model X.prog X.w) A (call (.builtin "isinstance") [u,c]) Q E s:=by
 cases ty with
 |non=>cases(show u=Value.none from L);exact W.kia_one W.kitx_none I.gq True.intro e (λz=>nomatch z) h
 |bl y=>cases(show u=Value.bool y from L);exact W.kia_one W.kitx_bool I.gq True.intro e (λz=>nomatch z) h
 |int i=>obtain⟨t,q⟩:=(show ∃t,u=Value.int i t from L);cases q;exact W.kia_one W.kitx_int I.gq True.intro e (λz=>nomatch z) h
 |str y=>obtain⟨t,q⟩:=(show ∃t,u=Value.str y t from L);cases q;exact W.kia_one W.kitx_str I.gq True.intro e (λz=>nomatch z) h
 |flt y=>obtain⟨t,q⟩:=(show ∃t,u=Value.float y t from L);cases q;exact W.kia_one W.kitx_float I.gq True.intro e (λz=>nomatch z) h
 |@lst a xs U=>
  cases(show u=Value.ref a from L);obtain⟨_,_,n,_,h1⟩:=(show fi X.prog X.w H s.heap a (.lst xs) from I.hok a _ U);exact W.kia_one W.kitx_list I.gq ⟨_,h1,rfl⟩ e (λz=>nomatch z) h
 |@e8 a ob xs U=>
  cases(show u=Value.ref a from L);obtain⟨_,_,_,n,_,h1⟩:=(show fi X.prog X.w H s.heap a (.e8 ob (.lst xs)) from I.hok a _ U);exact W.kia_one W.kitx_list I.gq ⟨_,h1,rfl⟩ e (λz=>nomatch z) h
 |@tup a xs U=>
  cases(show u=Value.ref a from L);obtain⟨_,_,_,p⟩:=(show fi X.prog X.w H s.heap a (.tup xs) from I.hok a _ U);obtain⟨o,h1,h2,_⟩:=p;exact W.kia_one W.kitx_tuple I.gq ⟨o,h1,h2⟩ e (λz=>nomatch z) h
 |@dK a kvs U=>
  cases(show u=Value.ref a from L);obtain⟨_,_,vs,_,p⟩:=(show fi X.prog X.w H s.heap a (.dK kvs) from I.hok a _ U);obtain⟨o,es,ep,h1,h2,_⟩:=p;exact W.kia_one W.kitx_dict I.gq ⟨o,h1,h2.1⟩ e (λz=>nomatch z) h
 |@dT a kvs U=>
  cases(show u=Value.ref a from L);obtain⟨_,_,xs,_,o,es,ep,h1,h2,_⟩:=(show fi X.prog X.w H s.heap a (.dT kvs) from I.hok a _ U);exact W.kia_one W.kitx_dict I.gq ⟨o,h1,h2.1⟩ e (λz=>nomatch z) h
 |@ins a C dx fs U cl ha hn Y hm=>
  cases(show u=Value.ref a from L);obtain⟨mA,O,_⟩:=A_ I.hok U;obtain⟨od,J,_⟩:=O.look;exact W.kia_one (W.kitx_own (cl.get _) cl.hd ha hn Y hm) I.gq J e (λz=>nomatch z) h
end
structure eV (k:Nat) (A:Around):Prop where
 hd:A.handled=none
 dp:A.depth+3 * k+5<recursionLimit
 un:A.units+16 * k+200<cLine
theorem eV.mono {j k:Nat}{A:Around}(r:eV k A)(h:j<=k):eV j A:=⟨r.hd,by have:=r.dp;omega,by have:=r.un;omega⟩
theorem eV.deeper {k:Nat}{A:Around}(r:eV (k+1) A)(env:Env):eV k (A.deeper env):=
 ⟨r.hd,by have:=r.dp;show A.depth+1+3 * k+5<_;omega,by have:=r.un;show A.units+3+16 * k+200<_;omega⟩
theorem eV.in1 {k:Nat}{A:Around}(r:eV (k+1) A):eV k A.in1:=
 ⟨r.hd,by have:=r.dp;show A.depth+3 * k+5<_;omega,by have:=r.un;show A.units+1+16 * k+200<_;omega⟩
theorem eV.depth {k:Nat}{A:Around}(r:eV k A):A.depth<recursionLimit:=by have:=r.dp;omega
theorem eV.units {k:Nat}{A:Around}(r:eV k A):A.units+64<cLine:=by have:=r.un;omega
theorem eV.wj {k:Nat}{A:Around}(r:eV k A):A.units<cLine:=by have:=r.un;omega
def fc:TA:=λ_ H Q=>Q [] H
def dJ (ta:TE) (J:TA):TA:=λσ H Q=>ta σ H λx H1=>J σ H1 λxs H2=>Q (x::xs) H2
section
variable {X:Cx}{e:Expr}{es:List Expr}{te:TE}{t:TA}{pos:Pos}
theorem b_:PA X [] fc:=λ_ _ _ _ H Q I h=>Calls.spliced_nil ⟨[],H,I,.nil,h⟩
theorem a_ (J:PE X e te)(L:PA X es t)(U:starEach (e::es) X.env=(false,eval e X.env)::starEach es X.env:=by rfl):PA X (e::es) (dJ te t):=by
 intro pos pins s σ H Q I h;rw[U];show wpAny _ _ (spliced ((false,eval e X.env)::backTo pos (starEach es X.env))) _ _ s;refine Calls.spliced_cons (dH (J pins s σ H _ I h) λu Y zq=>?_);obtain⟨x,H1,I1,r1,q1⟩:=zq;exact dH (L pos pins Y σ H1 _ I1 q1) λus s2 ⟨xs,H2,I2,r2,q2⟩=>⟨x::xs,H2,I2,.cons r1 r2,q2⟩
def ko (t:TA):TE:=λσ H Q=>t σ H λxs H1=>xs.length<=sizeLine/\∀p,H1 p=none->Q (.ref p) (upd H1 p (.tup xs))
def pV (t:TA):TE:=λσ H Q=>t σ H λxs H1=>xs.length<=sizeLine/\∀p,H1 p=none->Q (.ref p) (upd H1 p (.lst xs))
theorem dW {U}(h:PA X es t):PE X (.Tuple es U pos) (ko t):=by
 intro pins s σ H Q I Y;refine wpAny_Tuple_spliced (dH (h pos pins s σ H _ I Y) λus J ⟨xs,H1,L,r,z,q⟩=>⟨by rw[<-r.length];exact z,?_⟩);have hf:H1 J.heap.objs.size=none:=L.hok.fresh (Q00 _);refine⟨.ref J.heap.objs.size,upd H1 J.heap.objs.size (.tup xs),L.laid (t':=J.toks) (λb u e=>Q07 _ e) (Q00 _) ?_,rfl,q _ hf⟩;exact⟨z,us,r,⟨_,Q0i _ rfl,rfl,_,rfl⟩⟩
theorem fQ (h:PA X es t):PE X (.List es pos) (pV t):=by
 intro pins s σ H Q I U;refine wpAny_List_spliced (dH (h pos pins s σ H _ I U) λY J ⟨xs,H1,L,r,z,q⟩=>⟨by rw[<-r.length];exact z,?_⟩);have hf:H1 J.heap.objs.size=none:=L.hok.fresh (Q00 _);refine⟨.ref J.heap.objs.size,upd H1 J.heap.objs.size (.lst xs),L.laid (t':=J.toks) (λb u e=>Q07 _ e) (Q00 _) ?_,rfl,q _ hf⟩;exact⟨z,Y,0,r,Q0i _ rfl⟩
end
noncomputable abbrev Sp:=List V->Hp->VK->XK->Prop
noncomputable abbrev il:=List Env->Hp->Shared->XK->Value->Shared->Prop
structure nR (P:Program) (w:World) (K:W.Frag) (mg:Str->Option Value) (base:Heap) (A:Around) (outer:List Env) (s:Shared) (H:Hp):Prop where
 frames:A.frames=some outer
 mod:Mod K mg base
 bs:∀b o,base.get? b=some o->s.heap.get? b=some o/\H b=none
 iN:base.objs.size<=s.heap.objs.size
 h_:s.heap.FunFrames base outer
 jH:∀b∈frs outer,H b=none
 hok:fj P w H s.heap
 bare:AllBare s.gens
def CE (outer:List Env) (P:Program) (w:World) (H:Hp) (s:Shared) (Q:VK) (u:Value) (s':Shared):Prop:=
 ∃v H',s'.os=s.os/\AllBare s'.gens/\Un (frs outer) [] H H' s.heap s'.heap/\fj P w H' s'.heap/\RelV v u/\Q v H'
def CR (CX:il) (outer:List Env) (P:Program) (w:World) (H:Hp) (s:Shared) (Q:VK) (E:XK) (r:Result) (s':Shared):Prop:=
 match r with
 | .ok (.ret u)=>CE outer P w H s Q u s'
 | .ok _=>False
 | .error e=>CX outer H s E e s'
structure c_ (P:Program) (w:World) (K:W.Frag) (mg:Str->Option Value) (base:Heap) (CX:il) (k:Nat) (f:Addr) (fd:FuncData) (ps:List Str) (sp:Sp):Prop where
 len:∀vs H Q E,sp vs H Q E->vs.length=ps.length
 run:∀(A:Around) (outer:List Env) (s:Shared) (H:Hp) (args:Args) (us:List Value) (vs:List V) (Q:VK) (E:XK),eV k A->nR P w K mg base A outer s H->BindsTo s fd args (ps.zip us)->Vals vs us->sp vs H Q E->
  codeAny (model P w) A (.call (.ref f) args) (CR CX outer P w H s Q E) s
theorem c_.mono {P:Program}{w:World}{K:W.Frag}{mg:Str->Option Value}{base:Heap}{CX:il}{j k:Nat}{f:Addr}{fd:FuncData}{ps:List Str}{sp:Sp}(F:c_ P w K mg base CX j f fd ps sp)(h:j<=k):
 c_ P w K mg base CX k f fd ps sp:=⟨F.len,λA outer s H args J vs Q E L=>F.run A outer s H args J vs Q E (L.mono h)⟩
theorem c_.imp {P:Program}{w:World}{K:W.Frag}{mg:Str->Option Value}{base:Heap}{CX:il}{k:Nat}{f:Addr}{fd:FuncData}{ps:List Str}{sp J:Sp}(F:c_ P w K mg base CX k f fd ps sp)
 (h:∀vs H Q E,J vs H Q E->sp vs H Q E):c_ P w K mg base CX k f fd ps J:=
 ⟨λvs H Q E q=>F.len vs H Q E (h _ _ _ _ q),λA outer s H args L vs Q E U Y hb hv hs=>F.run A outer s H args L vs Q E U Y hb hv (h _ _ _ _ hs)⟩
section
variable {X:Cx}{pins:List (Addr × Obj)}{σ:St}{H:Hp}{s s':Shared}
theorem Inv.env0 (I:Inv X pins σ H s):nR X.prog X.w X.K X.mg X.base X.A X.stack s H:=
 ⟨I.ok.frames,I.ok.mod,I.bs,Q0h I.ok.iN I.sz,I.stack,I.pF,I.hok,I.bare⟩
theorem Inv.after {Q:VK}{u:Value}(I:Inv X pins σ H s)(h:CE X.stack X.prog X.w H s Q u s'):EP X pins σ Q u s':=by
 obtain⟨v,H',os,J,un,L,r,q⟩:=h;obtain⟨Y,g,d,t,U⟩:=s';obtain rfl:U=s.os:=os;exact⟨v,H',I.call (h':=Y) (g':=g) (d':=d) (t':=t) (ch:=[]) un L J (λb z=>absurd z (by simp)),r,q⟩
end
def fT (sp:Sp) (i5:List V) (E:XK) (t:TA):TE:=λσ H Q=>t σ H λvs H1=>sp (vs++i5) H1 Q E
def Binds (K:W.Frag) (fd:FuncData) (ps:List Str) (ds:List Value):Prop:=
 ∀(s:Shared) (J:List Value),K.In s.heap->(J++ds).length=ps.length->BindsTo s fd ⟨J,[]⟩ (ps.zip (J++ds))
theorem Binds.all {K:W.Frag}{fd:FuncData}{ps:List Str}(h:∀J:List Value,J.length=ps.length->bindArgs fd ⟨J,[]⟩=pure (ps.zip J)):Binds K fd ps []:=λs J _ hl=>by
 rw[Q0m] at hl ⊢;exact .of_eq (h J hl)
def Passes (CX:il) (X:Cx) (E:XK):Prop:=∀(pins:List (Addr × Obj)) (σ:St) (H:Hp) (s:Shared) (e:Value) (s':Shared),Inv X pins σ H s->CX X.stack H s E e s'->X.xe e s'
section
variable {X:Cx}{CX:il}{k:Nat}{f C:Addr}{fd:FuncData}{ps:List Str}{sp:Sp}{i5:List V}{ds:List Value}{E:XK}{x m:Str}{p pos apos:Pos}{e o:Expr}{es:List Expr}{ta:TE}{t:TA}
theorem Bb {pins:List (Addr × Obj)}{σ:St}{H:Hp}{s:Shared}{Q:VK}{J:List Value}{vs:List V}(F:c_ X.prog X.w X.K X.mg X.base CX k f fd ps sp)(Y:eV k X.A)(hb:Binds X.K fd ps ds)(hd:Vals i5 ds)(hx:Passes CX X E)
 (I:Inv X pins σ H s) (r:Vals vs J) (h:sp (vs++i5) H Q E):wpAny (model X.prog X.w) X.A (call (.ref f) J) (EP X pins σ Q) X.xe s:=by
 have U:Vals (vs++i5) (J++ds):=r.append hd;have hl:(J++ds).length=ps.length:=by rw[<-U.length];exact F.len _ _ _ _ h
 refine wpAny_call (codeAny_mono (F.run X.A X.stack s H ⟨J,[]⟩ (J++ds) (vs++i5) Q E Y I.env0 (hb s J I.gq hl) U h) λr s' L=>?_)
 cases r with
 |error e=>exact hx pins σ H s e s' I L
 |ok fl=>
  cases fl with
  |ret u=>exact I.after L
  |next=>exact False.elim L
  |brk=>exact False.elim L
  |cont=>exact False.elim L
theorem ml (F:c_ X.prog X.w X.K X.mg X.base CX k f fd ps sp)(Y:eV k X.A)(hg:Gl X x)(hm:X.mg x=some (.ref f))(hk:W.keepIn X.K (.ref f)=true)(hb:Binds X.K fd ps ds)(hd:Vals i5 ds)(hx:Passes CX X E)
 (ha:PA X (e::es) t) (J:(x == ("__debug__":Str))=false:=by decide) (he:starEach (e::es) X.env=(false,eval e X.env)::starEach es X.env:=by rfl) (L:(backTo pos (starEach es X.env)).any (·.1)=false:=by rfl):
 PE X (.Call (.Name x p) (e::es) [] pos) (fT sp i5 E t):=by
 intro pins s σ H Q I h;refine wpAny_Call_Name_kw (AH I hg hm ?_ J);refine W.callWith_K (h₀:=X.base) I.ok.mod.pE hk (dH (ha pos pins s σ H _ I h) λus s1 ⟨vs,H1,U,r,q⟩=>⟨U.gq,?_⟩) he L;exact Bb F Y hb hd hx U r q
end
section
variable {X:Cx}{CX:il}{k:Nat}{f C:Addr}{fd:FuncData}{ps ks:List Str}{sp:Sp}{E:XK}{x m:Str}{p pos apos kpos:Pos}{e o:Expr}{es:List Expr}{kws:List Keyword}{te ta:TE}{t tk:TA}{nm:Option Str}
variable {g:List Value->List Value->List Value}{gV:List V->List V->List V}
end
structure d5 (N P:List Str) (sc:Scope):Prop where
 kind:sc.kind=.function
 co:sc.isCoroutine=false
 gen:sc.isGenerator=false
 nd:N.Nodup
 pre:N.take P.length=P
 par:∀x∈P,sc.names.lookup x=some .local\/sc.names.lookup x=some .cell
 Bc:∀y∈sc.names,y.2≠ .free
theorem Gz {N Q:List Str}{sc:Scope}(h1:sc.kind=.function:=by rfl)(h2:sc.isCoroutine=false:=by rfl)(J:sc.isGenerator=false:=by rfl)(L:N.Nodup:=by decide +kernel)(U:N.take Q.length=Q:=by rfl)(Y:∀x∈Q,sc.names.lookup x=some .local\/sc.names.lookup x=some .cell:=by decide +kernel)(h7:∀y∈sc.names,y.2≠ .free:=by decide +kernel):d5 N Q sc:=⟨h1,h2,J,L,U,Y,h7⟩
theorem wm {kindOf:Str->Option NameKind}{x:Str}:∀{binds:List (Str × Value)}{m:Str->Option Value},(∀v,(x,v) ∉ binds)->bindL kindOf binds m x=m x
 |[],_,_=>rfl
 |(n,v)::r,m,h=>by
  unfold bindL;rw[wm λw hw=>h w (Q04 _ hw)];split
  . have:x≠n:=by rintro rfl;exact h v Q0a
    simp[this]
  . rfl
theorem wo {kindOf:Str->Option NameKind}{x:Str}:∀{binds:List (Str × Value)}{m:Str->Option Value},(∀v,(x,v) ∉ binds)->bindC kindOf binds m x=m x
 |[],_,_=>rfl
 |(n,v)::r,m,h=>by
  unfold bindC;rw[wo λw hw=>h w (Q04 _ hw)];split
  . rfl
  . have:x≠n:=by rintro rfl;exact h v Q0a
    simp[this]
theorem wq {kindOf:Str->Option NameKind}{x:Str}{v:Value}:∀{P:List Str}{vs:List Value}{i:Nat}{m:Str->Option Value},P.Nodup->P[i]? =some x->vs[i]? =some v->kindOf x=some .local->
 bindL kindOf (P.zip vs) m x=some v
 |[],_,_,_,_,h,_,_=>by simp at h
 |_::_,[],_,_,_,_,h,_=>by simp at h
 |p::P,w::vs,0,m,nd,h1,h2,hk=>by
  simp at h1 h2;subst h1;subst h2;show bindL kindOf ((p,w)::P.zip vs) m p=_;unfold bindL;rw[wm λv hv=>(List.nodup_cons.mp nd).1 (Q24 hv).1,if_pos hk];simp
 |p::P,w::vs,i+1,m,nd,h1,h2,hk=>by
  show bindL kindOf ((p,w)::P.zip vs) m x=_;unfold bindL;exact wq (i:=i) (List.nodup_cons.mp nd).2 (by simpa using h1) (by simpa using h2) hk
theorem wu {kindOf:Str->Option NameKind}{x:Str}{v:Value}:∀{P:List Str}{vs:List Value}{i:Nat}{m:Str->Option Value},P.Nodup->P[i]? =some x->vs[i]? =some v->kindOf x≠some .local->
 bindC kindOf (P.zip vs) m x=some v
 |[],_,_,_,_,h,_,_=>by simp at h
 |_::_,[],_,_,_,_,h,_=>by simp at h
 |p::P,w::vs,0,m,nd,h1,h2,hk=>by
  simp at h1 h2;subst h1;subst h2;show bindC kindOf ((p,w)::P.zip vs) m p=_;unfold bindC;rw[wo λv hv=>(List.nodup_cons.mp nd).1 (Q24 hv).1,if_neg hk];simp
 |p::P,w::vs,i+1,m,nd,h1,h2,hk=>by
  show bindC kindOf ((p,w)::P.zip vs) m x=_;unfold bindC;exact wu (i:=i) (List.nodup_cons.mp nd).2 (by simpa using h1) (by simpa using h2) hk
noncomputable def start (N:List Str) (vs:List V):St:=vs.map some++List.replicate (N.length - vs.length) none
noncomputable def d6 (CX:il) (P:Program) (w:World) (K:W.Frag) (mg:Str->Option Value) (base:Heap) (N:List Str) (qual:Str) (scope:Scope) (f:Addr) (L:Value) (A:Around) (outer:List Env) (s:Shared) (H:Hp) (E:XK):Cx where
 prog:=P
 w:=w
 K:=K
 mg:=mg
 base:=base
 A:=A.deeper (envOfC qual scope s.heap.objs.size f L)
 N:=N
 s₀:=s
 H₀:=H
 env:=envOfC qual scope s.heap.objs.size f L
 outer:=outer
 stack:=envOfC qual scope s.heap.objs.size f L::outer
 ex:=[]
 calm:=true
 fn:=λ_=>true
 pn:=[]
 xe:=λe s'=>wpAny (model P w) (A.deeper (envOfC qual scope s.heap.objs.size f L)) (leaving (envOfC qual scope s.heap.objs.size f L) e) (λ_ J=>CX outer H s E e J) (λU J=>CX outer H s E U J) s'
theorem wx {sc:Scope}{n:Nat}{x:Str}(h:sc.names.lookup x=some .cell):∃c,(cellsFrom n sc.names []).lookup x=some c:=by
 have q:=W.cellsFrom_some sc.names n [] (.inl h);exact Option.isSome_iff_exists.mp q
theorem Bd {CX:il}{P:Program}{w:World}{K:W.Frag}{mg:Str->Option Value}{base:Heap}{N ps:List Str}{qual:Str}{scope:Scope}{f:Addr}{cd:Value}{A:Around}{outer:List Env}{s s1:Shared}{H:Hp}{E:XK}{us:List Value}{vs:List V}
 (S:d5 N ps scope) (hd:A.handled=none) (J:nR P w K mg base A outer s H) (hl:vs.length=ps.length) (r:Vals vs us)
 (x:InCallC s s.heap.objs.size (bindL (envOfC qual scope s.heap.objs.size f cd).kindOf (ps.zip us) λ_=>none) (cellsFrom (s.heap.objs.size+1) scope.names []) (bindC (envOfC qual scope s.heap.objs.size f cd).kindOf (ps.zip us) λ_=>none) s1):
 Inv (d6 CX P w K mg base N qual scope f cd A outer s H E) [] (start N vs) H s1:=by
 have aa:ps.length<=N.length:=by have:=congrArg List.length S.pre;rw[Q0n] at this;omega
 obtain⟨h1,tk,rfl,hk⟩:=x.done;have U:∀b:Addr,b ∉ (d6 CX P w K mg base N qual scope f cd A outer s H E).ex:=λb z=>absurd (show b∈([]:List Addr) from z) (by simp)
 refine⟨⟨J.mod,S.kind,rfl,rfl,Q00 _,λy z c h1 h2=>?_,λy L=>?_,λy c _ h=>?_,λ_=>hd,Around.frames_deeper J.frames,.inr ⟨rfl,rfl⟩,λb z=>absurd z (U b),J.bs,J.iN,λb _ _=>U b,λb z=>absurd z (U b),J.h_,J.jH⟩,
  rfl,J.bare,Un.kept hk,⟨_,x.toInCall.ns,λi y v h1 h2 h3=>?_⟩,λy c h=>⟨_,x.cell y c h⟩,J.hok.fresh (Q00 _),λy c h=>?_,λp hp=>absurd (show p∈([]:List (Addr × Obj)) from hp) (by simp),J.hok.kept hk,?_⟩
 . exact name_of_addr x.apart (PySem.mem_of_lookup h1) (PySem.mem_of_lookup h2)
 . have L:scope.names.lookup y=some .cell\/scope.names.lookup y=some .free:=L;rcases L with L|L
   . exact wx L
   . exact absurd rfl (S.Bc _ (PySem.mem_of_lookup L))
 . exact Q0v (x.above y c (PySem.mem_of_lookup h))
 . have hi:i<vs.length:=by
    unfold start at h2;by_cases hi:i<vs.length
    . exact hi
    . rw[Q0z (by simpa using hi)] at h2;rw[Q2l] at h2;split at h2 <;> cases h2
   have ha:vs[i]? =some v:=by
    unfold start at h2;rw[Q12 (by simpa using hi),Q0p] at h2
    cases e:vs[i]? with
    |none=>rw[e] at h2;cases h2
    |some a=>rw[e] at h2;cases h2;rfl
   obtain⟨u,hu,rv⟩:=r.get ha
   have hp:ps[i]? =some y:=by
    rw[<-S.pre,List.getElem?_take_of_lt (by omega)];exact h1
   have Y:ps.Nodup:=by rw[<-S.pre];exact S.nd.sublist (List.take_sublist _ _)
   refine⟨u,rv,?_⟩;rcases S.par y (Q0w hp) with k|k
   . exact .inl ⟨k,wq Y hp hu k⟩
   . obtain⟨c,e⟩:=wx (n:=s.heap.objs.size+1) k;refine .inr ⟨.inl k,c,e,?_⟩;have q:=x.cell y c e;rw[wu Y hp hu (by show scope.names.lookup y≠_;rw[k];decide)] at q;exact q
 . exact J.hok.fresh (Q0v (x.above y c (PySem.mem_of_lookup h)))
 . unfold start;show _=N.length;rw[Q08,Q09,Q1c];omega
theorem wy {CX:il}{P:Program}{w:World}{K:W.Frag}{mg:Str->Option Value}{base:Heap}{k:Nat}{f:Addr}{name qual:Str}{U:Arguments}{body:List Stmt}{scope:Scope}{dV kV ac pm L ct oc:Value}{an od:Option Addr}
 {af:Array (Option Value)} {N ps:List Str} {sp:Sp} (lk:K.lookup f=some ⟨oc,od,.func (W.fnOf name qual U body scope dV kV ac pm an L ct),af⟩) (ag:W.codeIn K L qual=true) (S:d5 N ps scope)
 (len:∀vs H Q E,sp vs H Q E->vs.length=ps.length)
 (aa:∀(A:Around) (outer:List Env) (s:Shared) (H:Hp) (vs:List V) (Q:VK) (E:XK),eV k (A.deeper (envOfC qual scope s.heap.objs.size f L))->sp vs H Q E->
   ∃t,gU (d6 CX P w K mg base N qual scope f L A outer s H E) body t/\t { nx:=λ_ H'=>Q .non H',rt:=Q } (start N vs) H):
 c_ P w K mg base CX (k+1) f (W.fnOf name qual U body scope dV kV ac pm an L ct) ps sp:=by
 refine⟨len,λA outer s H args us vs Q E hr e0 hb r ae=>?_⟩;have hl:=len _ _ _ _ ae;have KX:K.In s.heap:=e0.mod.pE.keeps λb o e=>(e0.bs b o e).1;have ah:s.heap.NoLimit:=e0.mod.nolimit.keeps λb o e=>(e0.bs b o e).1
 have ab:∀y∈ps.zip us,scope.names.lookup y.1=some .local\/(scope.names.lookup y.1=some .cell/\((cellsFrom (s.heap.objs.size+1) scope.names []).lookup y.1).isSome=true):=λ⟨n,v⟩ hy=>by
  rcases S.par n (Q24 hy).1 with q|q
  . exact .inl q
  . exact .inr ⟨q,W.cellsFrom_some _ _ _ (.inl q)⟩
 refine codeAny_call_function hr.depth (KX _ _ lk) rfl S.co S.gen rfl (W.codeRec_of KX ag) (hb _ _ _ _ ?_);refine wpAny_newFunctionEnv_cells S.kind ab λenv he s1 x=>?_;subst he;refine⟨ah.keeps x.toInCall.keep,codeAny_func ?_⟩;obtain⟨t,ht,hq⟩:=aa A outer s H vs Q E (hr.deeper _) ae;have I:Inv (d6 CX P w K mg base N qual scope f L A outer s H E) [] (start N vs) H s1:=Bd S hr.hd e0 hl r x;refine Q0y (ht [] s1 (start N vs) H _ I hq) (λfl s' hs=>?_) λe s' hs=>hs
 have fin:∀{Y:St} {H':Hp} {v:V} {u:Value},Inv (d6 CX P w K mg base N qual scope f L A outer s H E) [] Y H' s'->RelV v u->Q v H'->CE outer P w H s Q u s':=
  λ{Y H' v u} J rv q=>⟨v,H',J.os,J.bare,J.base,J.hok,rv,q⟩
 cases fl with
 |ret u=>
  obtain⟨v,Y,H',J,rv,q⟩:=hs;exact fin J rv q
 |next=>
  obtain⟨Y,H',J,q⟩:=hs;exact fin (v:=V.non) (u:=Value.none) J rfl q
 |brk=>
  obtain⟨_,_,_,q⟩:=hs;exact False.elim q
 |cont=>
  obtain⟨_,_,_,q⟩:=hs;exact False.elim q
section
variable {X:Cx}{x:Str}{p pos:Pos}{e:Expr}{es:List Expr}{t:TA}{id T:String}{r:List V->Hp->VK->Prop}
def lh (r:List V->Hp->VK->Prop) (t:TA):TE:=λσ H Q=>t σ H λvs H1=>r vs H1 Q
theorem dG (hc:ig X (.builtin id) r)(U:Gl X x)(Y:X.mg x=none)(hv:bootBuiltins x=some (.builtin id))(ha:PA X (e::es) t)(hn:x≠"__name__":=by decide)(J:(x == ("__debug__":Str))=false:=by decide)
 (he:starEach (e::es) X.env=(false,eval e X.env)::starEach es X.env:=by rfl) (L:(backTo pos (starEach es X.env)).any (·.1)=false:=by rfl):PE X (.Call (.Name x p) (e::es) [] pos) (lh r t):=by
 intro pins s σ H Q I h;refine wpAny_Call_Name_kw (iZ I U Y hv ?_ hn J);exact PyProof.Rows.callWith_builtin1 (dH (ha pos pins s σ H _ I h) λus s1 ⟨vs,H1,I1,r1,q1⟩=>hc pins s1 σ H1 vs us Q I1 r1 q1) he L
theorem jP (hc:ig X (.type T) r)(U:Gl X x)(Y:X.mg x=none)(hv:bootBuiltins x=some (.type T))(ha:PA X (e::es) t)(hn:x≠"__name__":=by decide)(J:(x == ("__debug__":Str))=false:=by decide)
 (he:starEach (e::es) X.env=(false,eval e X.env)::starEach es X.env:=by rfl) (L:(backTo pos (starEach es X.env)).any (·.1)=false:=by rfl):PE X (.Call (.Name x p) (e::es) [] pos) (lh r t):=by
 intro pins s σ H Q I h;refine wpAny_Call_Name_kw (iZ I U Y hv ?_ hn J);exact PyProof.Rows.callWith_type1 (dH (ha pos pins s σ H _ I h) λus s1 ⟨vs,H1,I1,r1,q1⟩=>hc pins s1 σ H1 vs us Q I1 r1 q1) he L
end
end L2
local macro_rules|`(tactic|ac_rfl)=>`(tactic|try dsimp only[L2.d6,L2.Cx.eh])
namespace HT
open PyProof.Rows
section
open SeqAt
open PySem.AutoSeq1 (wpAny_loadPart')
open MeetsSeq MeetsSeq2 MeetsSeq3
end
section
variable {prog:Program}{w:World}{A:Around}{E:Value->Shared->Prop}{s:Shared}
theorem Be {t b:Addr}{vs ws:List Value}{Q:Value->Shared->Prop}(ht:IsTup s.heap t vs.toArray)(hb:IsTup s.heap b ws.toArray)(hv:vs≠[])
 (h1:ws=[]->Q (.ref t) s) (h2:ws≠[]->Q (.ref s.heap.objs.size) { s with heap:=s.heap.push { cls:=.type "tuple",data:=.seq (vs++ws).toArray } })
 (hsz:vs.length+ws.length<=sizeLine):wpAny (model prog w) A (binaryOp .Add (.ref t) (.ref b)) Q E s:=by
 obtain⟨⟨cls,dd,data,sl⟩,ho,hc,n,hd⟩:=id ht;obtain⟨⟨ab,L,data2,U⟩,J,Y,n2,aa⟩:=id hb;simp only at hc hd Y aa;subst hc hd Y aa;have e:vs.toArray++ws.toArray=(vs++ws).toArray:=by simp
 by_cases hw:ws=[]
 . exact concat_meets ⟨_,ho,rfl⟩ ⟨_,J,rfl⟩ noFill_tuple_add seq_tuple_add PySem.F.slot_tuple_add PySem.F.entry_tuple_add (PySem.F.args_tuple_add_2 _ _)
    (tuple_addW1 t b vs.toArray ws.toArray n n2 dd L sl U (by simpa using hv) (by simp[hw])) ⟨ho,J,h1 hw⟩
 . refine concat_meets ⟨_,ho,rfl⟩ ⟨_,J,rfl⟩ noFill_tuple_add seq_tuple_add PySem.F.slot_tuple_add PySem.F.entry_tuple_add (PySem.F.args_tuple_add_2 _ _)
    (tuple_addW2 t b vs.toArray ws.toArray n n2 dd L sl U (by simpa using hv) (by simpa using hw) (by rw[Q0b,Q0b];exact hsz)) ⟨ho,J,?_⟩
   rw[e];exact h2 hw
noncomputable def dP (n d:Nat):Option Int->Nat
 |none=>d
 |some v=>if v<0 then(v+(n:Int)).toNat else min v.toNat n
theorem Bf (n d:Nat)(J:d<=n)(o:Option Int):dP n d o<=n:=by
 cases o with
 |none=>exact J
 |some v=>
  show(if v<0 then(v+(n:Int)).toNat else min v.toNat n)<=n;by_cases hv:v<0
  . rw[if_pos hv];omega
  . rw[if_neg hv];exact Nat.min_le_right _ _
theorem wz (v:Int)(n d:Nat):(if v<0 then max (v+(n:Int)) 0 else min v (n:Int))=((dP n d (some v):Nat):Int):=by
 show(if v<0 then max (v+(n:Int)) 0 else min v (n:Int))=(((if v<0 then(v+(n:Int)).toNat else min v.toNat n):Nat):Int);by_cases hv:v<0
 . simp only[if_pos hv];omega
 . simp only[if_neg hv];omega
theorem Bg (lo hi:Option Int)(n:Nat):Builtin.Slice.sliceAdjust lo hi 1 (n:Int)=(((dP n 0 lo:Nat):Int),((dP n n hi:Nat):Int)):=by
 have h1:¬((1:Int)<0):=by omega
 unfold Builtin.Slice.sliceAdjust;simp only[h1,if_false];refine Prod.ext ?_ ?_
 . cases lo with
   |none=>rfl
   |some v=>exact wz v n 0
 . cases hi with
   |none=>rfl
   |some v=>exact wz v n n
theorem Bh (i j:Nat):Builtin.Slice.slicePlaces (i:Int) (j:Int) 1=j - i:=by
 unfold Builtin.Slice.slicePlaces;have h1:(1:Int) > 0:=by omega
 simp only[h1,if_true,Int.ediv_one];split <;> omega
theorem wA {v:Value}{o:Option Int}{Q:Option Int->Shared->Prop}(p:IsPart v o)(h:Q o s):wpAny (model prog w) A (Builtin.Slice.slicePartIndex v) Q E s:=by
 cases p with
 |none=>exact slicePart_none h
 |int i t=>exact slicePart_int h
theorem Bi {sl:Addr}{U Y:Value}{lo hi:Option Int}{n:Nat}{Q:Int × Int × Nat->Shared->Prop}(hs:s.heap.IsSliceOf sl U Y .none)(pl:IsPart U lo)(pu:IsPart Y hi)
 (h:Q (((dP n 0 lo:Nat):Int),1,dP n n hi - dP n 0 lo) s):wpAny (model prog w) A (Builtin.Slice.sliceApplied (.ref sl) (pure (n:Int))) Q E s:=by
 obtain⟨os,J,aa,L⟩:=id hs;unfold Builtin.Slice.sliceApplied Builtin.Slice.sliceFields;refine Q0 (Q0 (wpAny_field J L (x:=U) rfl (Q0 (wpAny_field J L (x:=Y) rfl (Q0 (wpAny_field J L (x:=.none) rfl (Q02 ?_)))))));refine Q0 (slicePart_none ?_);show wpAny _ _ (if((1:Int) == 0)=true then _ else _) _ _ s;rw[if_neg (by decide)];refine Q0 (wA pl (Q0 (wA pu (Q0 (Q02 ?_)))));show wpAny _ _ (match Builtin.Slice.sliceAdjust lo hi 1 (n:Int) with|(lo,hi)=>pure (lo,(1:Int),Builtin.Slice.slicePlaces lo hi 1)) _ _ s;rw[Bg lo hi n];show wpAny _ _ (pure (((dP n 0 lo:Nat):Int),(1:Int),Builtin.Slice.slicePlaces ((dP n 0 lo:Nat):Int) ((dP n n hi:Nat):Int) 1)) _ _ s;rw[Bh];exact Q02 h
theorem Bj (xs:Array Value)(i k:Nat):((List.range k).filterMap λ(m:Nat)=>xs[((i:Int)+(m:Int) * 1).toNat]?).toArray=((xs.toList.drop i).take k).toArray:=by
 have e:(λ(m:Nat)=>xs[((i:Int)+(m:Int) * 1).toNat]?)=λm=>xs[i+m]? :=by
  funext m;have:((i:Int)+(m:Int) * 1).toNat=i+m:=by omega
  rw[this]
 rw[e];have:=pick_run xs i k;rw[List.filterMap_map] at this;have J:((λx=>xs[x]?) ∘ λx=>i+x)=λm=>xs[i+m]? :=rfl;rw[J] at this;rw[this]
theorem Bk {t sl:Addr}{items:Array Value}{vl vu:Value}{lo hi:Option Int}{Q:Value->Shared->Prop}(L:IsTup s.heap t items)(hs:s.heap.IsSliceOf sl vl vu .none)(pl:IsPart vl lo)(pu:IsPart vu hi)
 (hw:¬(dP items.size 0 lo=0/\dP items.size items.size hi=items.size))
 (h:Q (.ref s.heap.objs.size) { s with heap:=s.heap.push { cls:=.type "tuple",data:=.seq ((items.toList.drop (dP items.size 0 lo)).take (dP items.size items.size hi - dP items.size 0 lo)).toArray } })
 (hsz:items.size<=sizeLine):wpAny (model prog w) A (getItem (.ref t) (.ref sl)) Q E s:=by
 have J:sizeOk (.seq ((items.toList.drop (dP items.size 0 lo)).take (dP items.size items.size hi - dP items.size 0 lo)).toArray):=by
  show((items.toList.drop (dP items.size 0 lo)).take (dP items.size items.size hi - dP items.size 0 lo)).toArray.size<=sizeLine;rw[Q0b,Q0n,Q16,Q15];omega
 have hj:dP items.size items.size hi<=items.size:=Bf _ _ (Q00 _) hi;obtain⟨os,U,Y,ac⟩:=id hs;have aa:s.TypeIs (.ref sl) "slice":=⟨os,U,Y⟩;unfold getItem
 try with_reducible refine wpAny_holding ?_
 first|refine Q0 (Q02 ?_)|skip
 refine Q0 (wpAny_sequenceKey L.typeIs (by decide) ?_)
 refine Q0 (wpAny_callSpecial?_slot (name:=Str.ofString "__getitem__") L.typeIs PyProof.Rows.slot_tuple_getitem
  (wpAny_call_entry PyProof.Rows.slot_tuple_getitem L.typeIs entry_tuple_getitem ?_ (args_tuple_getitem _ _)))
 show wpAny _ _ (Builtin.Tuple.tupleItemsOf (.ref t) >>= _) _ _ s;refine Q0 (tupleItemsOf_ L ?_);refine Q0 (wpAny_typeOf aa ?_);rw[if_pos (by decide)];refine Q0 (Bi hs pl pu ?_)
 have ab:¬((((dP items.size 0 lo:Nat):Int) == 0 && (1:Int) == 1 && (dP items.size items.size hi - dP items.size 0 lo) == items.size)=true):=by
  intro q;rw[Bool.and_eq_true,Bool.and_eq_true] at q;have q1:((dP items.size 0 lo:Nat):Int)=0:=eq_of_beq q.1.1;have q2:dP items.size items.size hi - dP items.size 0 lo=items.size:=eq_of_beq q.2;exact hw ⟨by omega,by omega⟩
 show wpAny _ _ (if(((dP items.size 0 lo:Nat):Int) == 0 && (1:Int) == 1 && (dP items.size items.size hi - dP items.size 0 lo) == items.size)=true then _ else _) _ _ s;rw[if_neg ab,Bj]
 first
  |exact Q0 (m:=Builtin.Tuple.tupleExact _) (wpAny_newObj_type (Q02 ⟨_,rfl,Q02 h⟩) J)
  |exact Q0 (m:=Builtin.Tuple.tupleExact _) (wpAny_newObj_type (Q0 (Q02 (Q02 ⟨_,rfl,Q02 h⟩))) J)
  |exact Q0 (Q0 (m:=Builtin.Tuple.tupleExact _) (wpAny_newObj_type (Q02 (Q02 ⟨_,rfl,Q02 h⟩)) J))
  |exact Q0 (Q0 (m:=Builtin.Tuple.tupleExact _) (wpAny_newObj_type (Q02 ⟨_,rfl,Q02 h⟩) J))
end
end HT
namespace L2
open Spec PyProof.Rows
noncomputable abbrev TO:=St->Hp->(Option Int->Hp->Prop)->Prop
def PO (X:Cx) (e:Option Expr) (t:TO):Prop:=
 ∀(pins:List (Addr × Obj)) (s:Shared) (σ:St) (H:Hp) (Q:Option Int->Hp->Prop),Inv X pins σ H s->t σ H Q->
  wpAny (model X.prog X.w) X.A (evalPart e X.env) (λu s'=>∃o H',Inv X pins σ H' s'/\IsPart u o/\Q o H') X.xe s
def Bl:TO:=λ_ H Q=>Q none H
def Bm (t:TE):TO:=λσ H Q=>t σ H λx H1=>∃i,x=.int i/\Q (some i) H1
section
variable {X:Cx}{e:Expr}{te:TE}{lo hi:Option Expr}{tl th:TO}{pos p2:Pos}
theorem g5:PO X none Bl:=by
 intro pins s σ H Q I h;rw[evalPart_none];exact Q02 ⟨none,H,I,.none,h⟩
theorem g6 (h:PE X e te):PO X (some e) (Bm te):=by
 intro pins s σ H Q I hw;rw[evalPart_some];refine dH (h pins s σ H _ I hw) λu Y zq=>?_;obtain⟨x,H1,J,L,U⟩:=zq;obtain⟨i,rfl,q⟩:=U;obtain⟨t,rfl⟩:=L;exact⟨some i,H1,J,.int i t,q⟩
def pW (X:Cx) (r:V->Option Int->Option Int->Hp->VK->Prop):Prop:=
 ∀(pins:List (Addr × Obj)) (s:Shared) (σ:St) (H:Hp) (x:V) (v J L:Value) (lo hi:Option Int) (sl:Addr) (Q:VK),Inv X pins σ H s->RelV x v->s.heap.IsSliceOf sl J L .none->IsPart J lo->IsPart L hi->r x lo hi H Q->
  ∃T id,typeLookup (.type T) "__getitem__"=pure (some (.builtin id))/\s.TypeIs v T/\wpAny (model X.prog X.w) X.A (getItem v (.ref sl)) (EP X pins σ Q) X.xe s
def Bo (r:V->Option Int->Option Int->Hp->VK->Prop) (te:TE) (tl th:TO):TE:=λσ H Q=>te σ H λx H1=>tl σ H1 λl H2=>th σ H2 λu J=>r x l u J Q
theorem g7 {r:V->Option Int->Option Int->Hp->VK->Prop}(hr:pW X r)(he:PE X e te)(hl:PO X lo tl)(hu:PO X hi th):PE X (.Subscript e (.Slice lo hi none p2) pos) (Bo r te tl th):=by
 intro pins s σ H Q I h;refine Subscript_ (dH (he pins s σ H _ I h) λv s1 zq=>?_);obtain⟨x,H1,I1,r1,q1⟩:=zq;refine wpAny_Slice (dH (hl pins s1 σ H1 _ I1 q1) λL s2 ⟨l,H2,I2,pl,q2⟩=>dH (hu pins s2 σ H2 _ I2 q2) λU J zq=>?_);obtain⟨u,Y,I3,pu,q3⟩:=zq;rw[evalPart_none];refine Q02 ?_;have I4:Inv X pins σ Y { J with heap:=J.heap.push { cls:=.type "slice",data:=.fields #[L,U,.none] } }:=I3.kept (t':=J.toks) λb ob q=>Q07 _ q;obtain⟨T,id,hT,ht,hg⟩:=hr pins { J with heap:=J.heap.push { cls:=.type "slice",data:=.fields #[L,U,.none] } } σ Y x v L U l u J.heap.objs.size Q I4 r1 (Heap.IsSliceOf.new ..) pl pu q3;show wpAny (model X.prog X.w) X.A (subscriptTail e (.Slice lo hi none p2) v (.ref J.heap.objs.size)) (EP X pins σ Q) X.xe { J with heap:=J.heap.push { cls:=.type "slice",data:=.fields #[L,U,.none] } };exact tail_any (ops:=[.ref J.heap.objs.size,v]) ht hT hg (by with_unfolding_all rfl)
noncomputable def gw (xs:List V) (lo hi:Option Int):List V:=(xs.drop (HT.dP xs.length 0 lo)).take (HT.dP xs.length xs.length hi - HT.dP xs.length 0 lo)
theorem wB (xs:List V)(lo hi:Option Int):(gw xs lo hi).length<=xs.length:=by
 unfold gw;rw[Q0n,Q16];omega
def Bp (K:W.Frag):V->Option Int->Option Int->Hp->VK->Prop:=λx lo hi H Q=>∃a xs,x=.ref a/\c8 K H a xs/\
 ¬(HT.dP xs.length 0 lo=0/\HT.dP xs.length xs.length hi=xs.length)/\∀p,H p=none->Q (.ref p) (upd H p (.tup (gw xs lo hi)))
theorem ll:pW X (Bp X.K):=by
 intro pins s σ H x v vl vu lo hi sl Q I rx hs pl pu h;obtain⟨a,xs,rfl,hx,hw,q⟩:=h
 cases rx;obtain⟨L,r,U,Y⟩:=I.tuple hx;have J:L.toArray.size=xs.length:=by rw[Q0b];exact r.length.symm
 refine⟨"tuple",_,PyProof.Rows.slot_tuple_getitem.lookup,U.typeIs,?_⟩;refine HT.Bk U hs pl pu (by rw[J];exact hw) ?_ (by rw[J];exact Y);rw[J];refine⟨.ref s.heap.objs.size,_,I.laid (t':=s.toks) (o:=.tup (gw xs lo hi)) (λb ob q=>Q07 _ q) (Q00 _) ?_,rfl,q _ (I.hok.fresh (Q00 _))⟩;exact⟨Q0h (wB xs lo hi) Y,_,(r.drop (HT.dP xs.length 0 lo)).take (HT.dP xs.length xs.length hi - HT.dP xs.length 0 lo),IsTup.new _ _⟩
def Bq (K:W.Frag):R2:=λx y H Q=>∃a b xs ys,x=.ref a/\y=.ref b/\c8 K H a xs/\c8 K H b ys/\xs≠[]/\xs.length+ys.length<=sizeLine/\
 (ys=[]->Q (.ref a) H)/\(ys≠[]->∀p,H p=none->Q (.ref p) (upd H p (.tup (xs++ys))))
theorem Vals.nS {xs:List V}{J:List Value}(r:Vals xs J):J=[]↔xs=[]:=by
 cases r with
 |nil=>simp
 |cons _ _=>simp
theorem Br:fu X (binaryOp .Add) (Bq X.K):=by
 intro pins s σ H x y v u Q I rx ry h;obtain⟨a,b,xs,ys,rfl,rfl,ha,hb,hx,U,q1,q2⟩:=h
 cases rx
 cases ry;obtain⟨aa,L,p1,_⟩:=I.tuple ha;obtain⟨Y,J,p2,_⟩:=I.tuple hb;refine HT.Be p1 p2 (λz=>hx (L.nS.mp z)) (λz=>⟨.ref a,H,I,rfl,q1 (J.nS.mp z)⟩) (λz=>?_) (by rw[<-L.length,<-J.length];exact U);refine⟨.ref s.heap.objs.size,_,I.laid (t':=s.toks) (o:=.tup (xs++ys)) (λb ob q=>Q07 _ q) (Q00 _) ?_,rfl,q2 (λw=>z (J.nS.mpr w)) _ (I.hok.fresh (Q00 _))⟩;exact⟨by rw[Q08];exact U,_,L.append J,IsTup.new _ _⟩
end
noncomputable def jq (n:Nat) (i:Int):Option Nat:=if 0<=i then(if i<n then some i.toNat else none) else if -(n:Int)<=i then some (i+n).toNat else none
noncomputable def fW {α:Type}(xs:List α) (i:Int):Option α:=(jq xs.length i).bind λj=>xs[j]?
theorem wC {n:Nat}{i:Int}{j:Nat}(h:jq n i=some j):seqIndex? i n=some j/\j<n/\ -(n:Int)<=i/\i<n:=by
 unfold jq at h;by_cases J:0<=i
 . rw[if_pos J] at h;by_cases h1:i<n
   . rw[if_pos h1] at h;have e:i.toNat=j:=Option.some.inj h;exact⟨by rw[seqIndex_of J h1,e],by omega,by omega,h1⟩
   . rw[if_neg h1] at h;cases h
 . rw[if_neg J] at h;by_cases h1: -(n:Int)<=i
   . rw[if_pos h1] at h;have e:(i+n).toNat=j:=Option.some.inj h;exact⟨by rw[seqIndex_neg (by omega) h1,e],by omega,h1,by omega⟩
   . rw[if_neg h1] at h;cases h
theorem pX {α:Type}{xs:List α}{i:Int}{v:α}(h:fW xs i=some v):∃j,seqIndex? i xs.length=some j/\xs[j]? =some v/\j<xs.length/\ -(xs.length:Int)<=i/\i<xs.length:=by
 unfold fW at h
 cases e:jq xs.length i with
 |none=>rw[e] at h;cases h
 |some j=>
  rw[e] at h;obtain⟨h1,h2,J,L⟩:=wC e;exact⟨j,h1,h,h2,J,L⟩
theorem fA {α:Type}{xs:List α}{j:Nat}{v:α}(h:xs[j]? =some v):fW xs (j:Int)=some v:=by
 have J:j<xs.length:=(List.getElem?_eq_some_iff.mp h).1
 have e:jq xs.length (j:Int)=some j:=by
  unfold jq;rw[if_pos (by omega),if_pos (by omega)];simp
 unfold fW;rw[e];exact h
def pY (b:Expr):Prop:=∀o i,subscripted b false o i=operate [o,i] (getItem o i)
def nT (X:Cx) (r:R2):Prop:=
 ∀(value J:Expr) (pins:List (Addr × Obj)) (s:Shared) (σ:St) (H:Hp) (x y:V) (v u:Value) (Q:VK),Inv X pins σ H s->RelV x v->RelV y u->r x y H Q->
  subscripted J false v u=operate [v,u] (getItem v u)->wpAny (model X.prog X.w) X.A (subscriptTail value J v u) (EP X pins σ Q) X.xe s
def nU (X:Cx) (id:String) (r:V->List V->Hp->VK->Prop):Prop:=
 ∀(pins:List (Addr × Obj)) (s:Shared) (σ:St) (H:Hp) (x:V) (xs:List V) (v:Value) (J:List Value) (Q:VK),Inv X pins σ H s->RelV x v->Vals xs J->r x xs H Q->
  wpAny (model X.prog X.w) X.A (call (.builtin id) (v::J)) (EP X pins σ Q) X.xe s
section
variable {X:Cx}{a b:Expr}{ta tb:TE}{pos:Pos}
theorem lq {r:R2}(J:nT X r)(L:PE X a ta)(U:PE X b tb)(Y:pY b):PE X (.Subscript a b pos) (dY r ta tb):=by
 intro pins s σ H Q I h;exact Subscript_ (pQ L U I h λv u s2 x y H2 I2 rx ry q=>J a b pins s2 σ H2 x y v u Q I2 rx ry q (Y _ _))
def pZ (K:W.Frag):R2:=λx y H Q=>∃p xs i v,x=.ref p/\y=.int i/\dg K H p xs/\fW xs i=some v/\Q v H
def gO (K:W.Frag):R2:=λx y H Q=>∃p xs i v,x=.ref p/\y=.int i/\c8 K H p xs/\fW xs i=some v/\Q v H
def Bs:R2:=λx y H Q=>∃z i c,x=.str z/\y=.int i/\z.length<=sizeLine/\fW z.cps.toList i=some c/\Q (.str ⟨#[c]⟩) H
theorem Bt:nT X (pZ X.K):=by
 intro value Y pins s σ H x y v u Q I rx ry h hs;obtain⟨p,xs,i,z,rfl,rfl,hq,he,q⟩:=h
 cases rx;obtain⟨t,rfl⟩:=ry;obtain⟨L,r,pl,hz⟩:=I.list hq;obtain⟨j,h1,h2,h3,h4,h5⟩:=pX he;obtain⟨w,ew,U⟩:=r.get h2;have hl:=r.length;have hn:=lg;have fin:EP X pins σ Q w s:=⟨z,H,I,U,q⟩;by_cases h0:0<=i
 . have J:i.toNat=j:=by
    rw[seqIndex_of h0 h5] at h1;exact Option.some.inj h1
   exact item_listR pl.isList h0 (by omega) (by rw[J];simpa using ew) fin hs
 . have J:(i+(L.toArray.size:Int)).toNat=j:=by
    rw[seqIndex_neg (by omega) h4] at h1;rw[Q0b,<-hl];exact Option.some.inj h1
   exact subscriptTail_builtinR (x:=w) pl.isList.typeIs slot_list_getitem.lookup
    (wpAny_getItem_list_neg (Q:=λr s'=>r=w/\EP X pins σ Q r s') pl.isList (by omega) (by rw[Q0b] <;> omega) (by omega) (by rw[J];simpa using ew) ⟨rfl,fin⟩) hs
theorem Bu:nT X (gO X.K):=by
 intro value L pins s σ H x y v u Q I U Y h hs;obtain⟨p,xs,i,z,rfl,rfl,hq,he,q⟩:=h
 cases U;obtain⟨t,rfl⟩:=Y;obtain⟨aa,r,pl,hz⟩:=I.tuple hq;obtain⟨j,h1,h2,h3,h4,h5⟩:=pX he;obtain⟨w,ew,J⟩:=r.get h2;have hl:=r.length;have hn:=lg;have fin:EP X pins σ Q w s:=⟨z,H,I,J,q⟩
 exact subscriptTail_builtinR (x:=w) pl.typeIs slot_tuple_getitem.lookup
  (getItem_tuple (j:=j) (Q:=λr s'=>r=w/\EP X pins σ Q r s') pl (by omega) (by omega) (by rw[Q0b,<-hl];exact h1) (by simpa using ew) ⟨rfl,fin⟩) hs
theorem nV:nT X Bs:=by
 intro value J pins s σ H x y v u Q I L U h Y;obtain⟨z,i,c,rfl,rfl,hz,he,q⟩:=h;obtain⟨t,rfl⟩:=L;obtain⟨t',rfl⟩:=U;obtain⟨j,h1,h2,h3,h4,h5⟩:=pX he;have hl:z.cps.toList.length=z.length:=by simp[Str.length]
 rw[hl] at h1 h4 h5;have hn:=lg
 exact tail_any (typeIs_str s z t) slot_str_getitem.lookup (getItem_str (c:=c) (by
  have e1:decide (i< -(2 ^ 63:Int))=false:=decide_eq_false (by omega);have e2:decide (i ≥ 2 ^ 63)=false:=decide_eq_false (by omega);rw[e1,e2,Bool.or_false]) (by rw[h1];simpa using h2) ⟨.str ⟨#[c]⟩,H,I.tok _,⟨_,rfl⟩,q⟩) Y
theorem Bv (J:List Value)(n j:Nat)(u:Value):Obj.mapSeq (·.setIfInBounds j u) { cls:=.type "list",data:=.seq J.toArray n }={ cls:=.type "list",data:=.seq (J.set j u).toArray n }:=by
 simp[Obj.mapSeq]
theorem Inv.lst {pins:List (Addr × Obj)}{σ:St}{H:Hp}{s:Shared}{p:Addr}{xs:List V}(I:Inv X pins σ H s)(h:H p=some (.lst xs)):
 ∃(J:List Value) (n:Nat),Vals xs J/\s.heap.get? p=some { cls:=.type "list",data:=.seq J.toArray n }/\xs.length<=sizeLine:=by
 obtain⟨z,J,n,r,e⟩:=I.hok p _ h;exact⟨J,n,r,e,z⟩
theorem Inv.Bw {pins:List (Addr × Obj)}{σ:St}{H:Hp}{s:Shared}{p:Addr}{xs ys:List V}{J its':List Value}{n n':Nat}{f:Obj->Obj}(I:Inv X pins σ H s)(h:H p=some (.lst xs))
 (U:s.heap.get? p=some { cls:=.type "list",data:=.seq J.toArray n }) (L:f { cls:=.type "list",data:=.seq J.toArray n }={ cls:=.type "list",data:=.seq its'.toArray n' }) (r:Vals ys its') (Y:ys.length<=sizeLine) (t:Nat):
 Inv X pins σ (upd H p (.lst ys)) { s with heap:=s.heap.update p f,toks:=t }:=by
 have e:(s.heap.update p f).get? p=some { cls:=.type "list",data:=.seq its'.toArray n' }:=by
  rw[Q1j f U (by rw[L] <;> rfl),L]
 refine I.write (x:=p) (e:=p) (by rw[h];trivial) (.inl rfl) (λb u hb q=>(Q1k _ _ (Ne.symm hb)).trans q) ⟨_,e⟩ ?_;exact⟨Y,its',n',r,e⟩
def Bx:V->V->V->Hp->(Hp->Prop)->Prop:=λo i v H Q=>∃p xs k j,o=.ref p/\i=.int k/\H p=some (.lst xs)/\jq xs.length k=some j/\Q (upd H p (.lst (xs.set j v)))
theorem set_list:vZ X Bx:=by
 intro pins s σ H o i v ov iv u Q I ro ri rv h;obtain⟨p,xs,k,j,rfl,rfl,hp,hj,q⟩:=h
 cases ro;obtain⟨t,rfl⟩:=ri;obtain⟨J,n,r,L,hz⟩:=I.lst hp;obtain⟨h1,h2,U,Y⟩:=wC hj;have hl:=r.length;have hn:=lg
 have I':Inv X pins σ (upd H p (.lst (xs.set j v))) { s with heap:=s.heap.update p (Obj.mapSeq (·.setIfInBounds j u)) }:=
  I.Bw hp L (Bv J n j u) (r.set rv j) (by rw[List.length_set];exact hz) s.toks
 by_cases h0:0<=k
 . have hk:k.toNat=j:=by
    rw[seqIndex_of h0 Y] at h1;exact Option.some.inj h1
   exact W.ki_setAt L h0 (by omega) (by rw[Q0b,<-hl];exact Y) (by rw[hk];exact⟨_,I',q⟩)
 . have hk:(k+(J.toArray.size:Int)).toNat=j:=by
    rw[seqIndex_neg (by omega) U] at h1;rw[Q0b,<-hl];exact Option.some.inj h1
   exact W.ki_setBack L (by omega) (by rw[Q0b,<-hl];exact U) (by omega) (by rw[hk];exact⟨_,I',q⟩)
theorem By (lo hi:Option Int)(n:Nat):(sliceBounds lo hi none n).1=((HT.dP n 0 lo:Nat):Int)/\(sliceBounds lo hi none n).2.1=((HT.dP n n hi:Nat):Int)/\(sliceBounds lo hi none n).2.2=1:=by
 refine⟨?_,?_,rfl⟩
 . cases lo with
   |none=>simp[sliceBounds,HT.dP]
   |some i=>
    simp only[sliceBounds,HT.dP,Q2m,show(1:Int) > 0 by decide,if_true];by_cases h:i<0
    . simp only[h,if_true] <;> omega
    . simp only[h,if_false] <;> omega
 . cases hi with
   |none=>simp[sliceBounds,HT.dP]
   |some i=>
    simp only[sliceBounds,HT.dP,Q2m,show(1:Int) > 0 by decide,if_true];by_cases h:i<0
    . simp only[h,if_true] <;> omega
    . simp only[h,if_false] <;> omega
theorem Bz (J:List Value)(lo hi:Option Int):slicePick J.toArray lo hi none=((J.drop (HT.dP J.length 0 lo)).take (HT.dP J.length J.length hi - HT.dP J.length 0 lo)).toArray:=by
 obtain⟨h1,h2,L⟩:=By lo hi J.toArray.size;unfold slicePick;rw[h1,h2,L];simp only[sliceRange_one,pick_run,Q0b] <;> rfl
def BA (K:W.Frag):V->Option Int->Option Int->Hp->VK->Prop:=λx lo hi H Q=>∃a xs,x=.ref a/\dg K H a xs/\∀p,H p=none->Q (.ref p) (upd H p (.lst (gw xs lo hi)))
theorem jQ:pW X (BA X.K):=by
 intro pins s σ H x v vl vu lo hi sl Q I U Y pl pu h;obtain⟨a,xs,rfl,hx,q⟩:=h
 cases U;obtain⟨aa,r,L,hz⟩:=I.list hx;have J:=r.length;refine⟨"list",_,slot_list_getitem.lookup,L.isList.typeIs,?_⟩;refine wpAny_getItem_list_slice L.isList Y pl pu .none (by simp) ?_ (by rw[Q0b] <;> omega);rw[Bz,<-J];refine⟨.ref s.heap.objs.size,_,I.laid (t':=s.toks) (o:=.lst (gw xs lo hi)) (λb ob q=>Q07 _ q) (Q00 _) ?_,rfl,q _ (I.hok.fresh (Q00 _))⟩;exact⟨Q0h (wB xs lo hi) hz,_,0,(r.drop (HT.dP xs.length 0 lo)).take (HT.dP xs.length xs.length hi - HT.dP xs.length 0 lo),Q0i _ rfl⟩
theorem fC:ig X (.builtin "len") (λxs H Q=>∃p ys,xs=[.ref p]/\(dg X.K H p ys\/c8 X.K H p ys)/\Q (.int ys.length) H):=by
 intro pins s σ H xs us Q I r h;obtain⟨p,ys,rfl,L,q⟩:=h;obtain⟨u,rfl,rx⟩:=vals1 r
 cases rx;have hn:=lg;rcases L with L|L
 . obtain⟨Y,U,pl,hz⟩:=I.list L;have J:=U.length;exact Calls.call_len_list pl.isList (by simp only[Q0b] <;> omega) ⟨.int ys.length,H,I.tok _,⟨s.toks+1,by rw[Q0b,J]⟩,q⟩
 . obtain⟨Y,U,pl,hz⟩:=I.tuple L;have J:=U.length;exact len_tuple pl (by simp only[Q0b] <;> omega) ⟨.int ys.length,H,I.tok _,⟨s.toks+1,by rw[Q0b,J]⟩,q⟩
theorem BB:ig X (.builtin "len") (λxs H Q=>∃z,xs=[.str z]/\z.length<=sizeLine/\Q (.int z.length) H):=by
 intro pins s σ H xs J Q I r h;obtain⟨z,rfl,L,q⟩:=h;obtain⟨u,rfl,t,rfl⟩:=vals1 r;have U:=lg;exact len_str (by omega) ⟨.int z.length,H,I.tok _,⟨_,rfl⟩,q⟩
theorem BC:ig X (.type "list") (λxs H Q=>∃p ys,xs=[.ref p]/\(dg X.K H p ys\/c8 X.K H p ys)/\∀l,H l=none->Q (.ref l) (upd H l (.lst ys))):=by
 intro pins s σ H xs us Q I r h;obtain⟨p,ys,rfl,U,q⟩:=h;obtain⟨u,rfl,rx⟩:=vals1 r
 cases rx
 have fin:∀(J:List Value),Vals ys J->ys.length<=sizeLine->∀(h':Heap) (c':Nat),(∀b o',s.heap.get? b=some o'->h'.get? b=some o')->
  h'.get? s.heap.objs.size=some { cls:=.type "list",dict:=none,data:=.seq J.toArray c',slots:=#[] }->EP X pins σ Q (.ref s.heap.objs.size) { s with heap:=h' }:=λJ L Y h' c' kp e=>
  ⟨.ref s.heap.objs.size,_,I.laid (t':=s.toks) kp (Q00 _) (show fi X.prog X.w _ h' _ (.lst ys) from⟨Y,J,c',L,e⟩),rfl,q _ (I.hok.fresh (Q00 _))⟩
 rcases U with U|U
 . obtain⟨J,L,pl,Y⟩:=I.list U;have aa:=L.length;obtain⟨o,ho,hc,n,hd⟩:=pl.isList;exact call_list_seq p (.inl rfl) ho hc hd (λh' c' kp e=>fin J L Y h' c' kp e) (by simp only[Q0b] <;> omega)
 . obtain⟨J,L,pl,Y⟩:=I.tuple U;have aa:=L.length;obtain⟨o,ho,hc,n,hd⟩:=pl;exact call_list_seq p (.inr rfl) ho hc hd (λh' c' kp e=>fin J L Y h' c' kp e) (by simp only[Q0b] <;> omega)
theorem wD:ig X (.type "tuple") (λxs H Q=>∃p ys,xs=[.ref p]/\((dg X.K H p ys/\∀l,H l=none->Q (.ref l) (upd H l (.tup ys)))\/(c8 X.K H p ys/\Q (.ref p) H))):=by
 intro pins s σ H xs us Q I r h;obtain⟨p,ys,rfl,h⟩:=h;obtain⟨u,rfl,rx⟩:=vals1 r
 cases rx;rcases h with⟨L,q⟩|⟨L,q⟩
 . obtain⟨J,U,pl,Y⟩:=I.list L;have aa:=U.length;refine call_tuple_list pl.isList (λh' kp=>?_) (by simp only[Q0b] <;> omega);have I1:Inv X pins σ H { s with heap:=h' }:=I.kept (t':=s.toks) kp
   have I2:Inv X pins σ (upd H h'.objs.size (.tup ys)) { s with heap:=h'.push { cls:=.type "tuple",data:=.seq J.toArray } }:=
    I1.laid (t':=s.toks) (λb o e=>Q07 _ e) (Q00 _) (show fi X.prog X.w _ _ _ (.tup ys) from⟨Y,J,U,IsTup.new _ _⟩)
   exact⟨.ref h'.objs.size,_,I2,rfl,q _ (I1.hok.fresh (Q00 _))⟩
 . obtain⟨J,U,pl,Y⟩:=I.tuple L;exact call_tuple_same pl ⟨.ref p,H,I,rfl,q⟩
def p0 (K:W.Frag) (T:String) (x:V) (H:Hp):Prop:=match x with
 | .str _=>T="str"
 | .int _=>T="int"
 | .ref p=>(T="list"/\∃xs,dg K H p xs)\/(T="tuple"/\∃o,K.lookup p=some o/\o.cls=.type "tuple"/\o.dict=none)\/
    (T="dict"/\((∃kvs,H p=some (.dK kvs))\/∃kvs,H p=some (.dT kvs)))\/(T="set"/\∃S n,H p=some (.set S n))
 |_=>False
theorem wF {pins:List (Addr × Obj)}{σ:St}{H:Hp}{s:Shared}{T:String}{x:V}{v:Value}(I:Inv X pins σ H s)(r:RelV x v)(ty:p0 X.K T x H):
 s.TypeIs v T/\∀a,v=.ref a->∃U,s.heap.get? a=some U/\U.dict=none:=by
 cases x with
 |str z=>
  obtain⟨t,rfl⟩:=r
  cases(show T="str" from ty);exact⟨typeIs_str s z t,λ_ e=>nomatch e⟩
 |int i=>
  obtain⟨t,rfl⟩:=r
  cases(show T="int" from ty);exact⟨typeIs_int s i t,λ_ e=>nomatch e⟩
 |ref p=>
  cases r;rcases ty with⟨rfl,xs,Y⟩|⟨rfl,o,hk,hc,J⟩|⟨rfl,hk⟩|⟨rfl,S,n,hk⟩
  . obtain⟨aa,_,pl,_⟩:=I.list Y;refine⟨pl.isList.typeIs,λa e=>?_⟩
    cases e;obtain⟨o,n,e,c,J,_⟩:=pl;exact⟨o,e,J⟩
  . refine⟨⟨o,I.gq p o hk,hc⟩,λa e=>?_⟩
    cases e;exact⟨o,I.gq _ o hk,J⟩
  . have z:∃o,s.heap.get? p=some o/\o.ExactDict:=by
     rcases hk with⟨kvs,hk⟩|⟨kvs,hk⟩
     . obtain⟨_,_,_,_,o,_,_,e,ex,_⟩:=I.hok p _ hk;exact⟨o,e,ex⟩
     . obtain⟨_,_,_,_,o,_,_,e,ex,_⟩:=I.hok p _ hk;exact⟨o,e,ex⟩
    obtain⟨o,e,ex⟩:=z;refine⟨⟨o,e,ex.1⟩,λa L=>?_⟩
    cases L;exact⟨o,e,ex.2.1⟩
  . obtain⟨o,_,_,_,e,ex,_⟩:=I.hok p _ hk;refine⟨⟨o,e,ex.1⟩,λa L=>?_⟩
    cases L;exact⟨o,e,ex.2.1⟩
 |_=>exact False.elim ty
def BD (K:W.Frag) (T:String) (r:V->List V->Hp->VK->Prop) (to:TE):TE:=λσ H Q=>to σ H λx H1=>p0 K T x H1/\r x [] H1 Q
def BE (K:W.Frag) (T:String) (r:V->List V->Hp->VK->Prop) (to:TE) (t:TA):TE:=λσ H Q=>to σ H λx H1=>p0 K T x H1/\t σ H1 λxs H2=>r x xs H2 Q
variable {o e:Expr}{es:List Expr}{to:TE}{t:TA}{name:Str}{apos cpos:Pos}{T id:String}{r:V->List V->Hp->VK->Prop}
theorem BF (pa:PlainAttrs T)(slot:Slot T name id)(U:typeOf (.builtin id)=pure (.type "method_descriptor"))(hm:nU X id r)(ho:PE X o to)
 (J:attributeBase o name X.env (eval o X.env)=eval o X.env:=by rfl) (L:(apos.endLine == cpos.line)=true:=by rfl):PE X (.Call (.Attribute o name apos) [] [] cpos) (BD X.K T r to):=by
 intro pins s σ H Q I h;refine wpAny_Call_method0_late J L (dH (ho pins s σ H _ I h) λv s1 zq=>?_);obtain⟨x,H1,Y,r1,ty,q1⟩:=zq;obtain⟨h1,h2⟩:=wF Y r1 ty;exact⟨T,id,pa,slot,U,h1,h2,Calls.callWith_builtin rfl (PySem.evalArgs_none (hm pins s1 σ H1 x [] v [] Q Y r1 .nil q1))⟩
theorem wG (pa:PlainAttrs T)(slot:Slot T name id)(ab:typeOf (.builtin id)=pure (.type "method_descriptor"))(hm:nU X id r)(ho:PE X o to)(ha:PA X (e::es) t)
 (L:attributeBase o name X.env (eval o X.env)=eval o X.env:=by rfl)
 (aa:((backTo cpos (starEach (e::es) X.env)).all (λx=> !x.1) && (backToKw cpos (keywordEach [] X.env)).all (λx=>x.1.isSome)
   && decide ((e::es).length+([]:List Keyword).length+(if([]:List Keyword).isEmpty then 0 else 1)<30))=true:=by rfl)
 (U:(apos.endLine == cpos.line)=true:=by rfl) (hs:starEach (e::es) X.env=(false,eval e X.env)::starEach es X.env:=by rfl) (J:(backTo cpos (starEach es X.env)).any (·.1)=false:=by rfl):
 PE X (.Call (.Attribute o name apos) (e::es) [] cpos) (BE X.K T r to t):=by
 intro pins s σ H Q I h;refine wpAny_Call_method_late L aa U rfl (dH (ho pins s σ H _ I h) λv s1 zq=>?_);obtain⟨x,H1,I1,r1,ty,q1⟩:=zq;obtain⟨h1,h2⟩:=wF I1 r1 ty;refine⟨T,id,pa,slot,ab,h1,h2,?_⟩;have hA:=ha cpos pins s1 σ H1 _ I1 q1;rw[hs] at hA ⊢;refine Calls.callWith_builtin (by show(false || (backTo cpos (starEach es X.env)).any (·.1))=false;rw[J] <;> rfl) (Calls.evalArgs_plain ?_);exact dH hA λus s2 ⟨vs,H2,I2,r2,q2⟩=>hm pins s2 σ H2 x vs v us Q I2 r1 r2 q2
/- xs.append(e),list.index on a Y tuple .. ae nU ac of 06m -/
end
def wH (X:Cx) (id:String) (r:V->List V->Hp->VK->Prop):Prop:=
 ∀(pins:List (Addr × Obj)) (s:Shared) (σ:St) (H:Hp) (x:V) (xs:List V) (v:Value) (J:List Value) (Q:VK),Inv X pins σ H s->RelV x v->Vals xs J->r x xs H Q->
  wpAny (model X.prog X.w) X.A (call (.builtin id) (v::J)) (EP X pins σ Q) X.xe s
theorem Vals.one:∀{x:V}{J:List Value},Vals [x] J->∃u,J=[u]/\RelV x u
 |_,_,.cons r .nil=>⟨_,rfl,r⟩
theorem Vals.zero:∀{J:List Value},Vals [] J->J=[]
 |_,.nil=>rfl
section
variable {X:Cx}{pins:List (Addr × Obj)}{σ:St}{H:Hp}{s:Shared}{l b:Addr}{xs ys zs:List V}
theorem Inv.BG {J its':List Value}{n:Nat}{f:Array Value->Array Value}{t':Nat}(I:Inv X pins σ H s)(L:H l=some (.lst xs))
 (e:s.heap.get? l=some { cls:=.type "list",data:=.seq J.toArray n }) (U:f J.toArray=its'.toArray) (hv:Vals ys its') (Y:ys.length<=sizeLine):
 Inv X pins σ (upd H l (.lst ys)) { s with heap:=s.heap.update l (Obj.mapSeq f),toks:=t' }:=by
 have q:=PySem.IsL.update e f;rw[U] at q;refine I.write (x:=l) (e:=l) (by rw[L];exact trivial) (.inl rfl) (λb' u hb hu=>(Q1k s.heap (Obj.mapSeq f) (Ne.symm hb)).trans hu) ⟨_,q⟩ ?_;exact⟨Y,its',_,hv,q⟩
theorem Inv.BH {J:List Value}{t':Nat}(I:Inv X pins σ H s)(hv:Vals ys J)(L:ys.length<=sizeLine):
 Inv X pins σ (upd H s.heap.objs.size (.lst ys)) { s with heap:=s.heap.push { cls:=.type "list",data:=.seq J.toArray },toks:=t' }:=
 I.laid (λ_ _ q=>Q07 _ q) (Q00 _) ⟨L,J,0,hv,Q0i _ rfl⟩
theorem Inv.fresh (I:Inv X pins σ H s):H s.heap.objs.size=none:=I.hok.fresh (Q00 _)
theorem Inv.p8 (I:Inv X pins σ H s)(L:H l=some (.lst xs)):xs.length<=sizeLine/\∃(J:List Value) (n:Nat),Vals xs J/\xs.length=J.length/\s.heap.get? l=some { cls:=.type "list",data:=.seq J.toArray n }:=by
 obtain⟨z,J,n,r,e⟩:=I.hok l _ L;exact⟨z,J,n,r,r.length,e⟩
end
section
variable {X:Cx}
def BI:V->List V->Hp->VK->Prop:=λx vs H Q=>∃l xs y,x=.ref l/\vs=[y]/\H l=some (.lst xs)/\xs.length<sizeLine/\Q .non (upd H l (.lst (xs++[y])))
theorem BJ:wH X "list.append" BI:=by
 intro pins s σ H x vs v us Q I U Y h;obtain⟨l,xs,y,rfl,rfl,L,hz,q⟩:=h
 cases U;obtain⟨u,rfl,ru⟩:=Y.one;obtain⟨z,J,n,r,hl,e⟩:=I.p8 L;refine call_meets F.slot_list_append ⟨_,e,rfl⟩ F.entry_list_append (F.args_list_append_2 _ _) (PySem.list_append l J.toArray n u (by rw[Q0b];omega)) ⟨e,?_⟩;refine⟨.non,_,I.BG (its':=J++[u]) L e (by simp) (r.append (.cons ru .nil)) ?_,rfl,q⟩;rw[Q08,Q13];omega
def BK:R2:=λx y H Q=>∃l b xs zs,x=.ref l/\y=.ref b/\H l=some (.lst xs)/\H b=some (.lst zs)/\xs.length+zs.length<=sizeLine/\∀p,H p=none->Q (.ref p) (upd H p (.lst (xs++zs)))
theorem i6:fu X (binaryOp .Add) BK:=by
 intro pins s σ H x y v u Q I U Y h;obtain⟨l,b,xs,zs,rfl,rfl,hH,hB,hz,q⟩:=h
 cases U
 cases Y;obtain⟨z,L,n,r,hl,e⟩:=I.p8 hH;obtain⟨z2,J,n2,r2,aa,e2⟩:=I.p8 hB;refine PySem.P.add_list e e2 ?_ (by rw[Q0b,Q0b];omega);have ea:L.toArray++J.toArray=(L++J).toArray:=by simp
 rw[ea];exact⟨.ref _,_,I.BH (t':=s.toks) (r.append r2) (by rw[Q08];omega),rfl,q _ I.fresh⟩
end
section
variable {prog:Program}{w:World}{A:Around}{E:Value->Shared->Prop}{s:Shared}
end
section
variable {X:Cx}
end
section
variable {κ:Type} [DecidableEq κ]
noncomputable def fU (kvs:List (κ × V)) (k:κ):Option V:=(kvs.find? λJ=>decide (J.1=k)).map (·.2)
noncomputable def putK (kvs:List (κ × V)) (k:κ) (v:V):List (κ × V):=
 if(kvs.any λJ=>decide (J.1=k))=true then kvs.map (λJ=>if J.1=k then(J.1,v) else J) else kvs++[(k,v)]
theorem nW {p:κ × V}{r:List (κ × V)}{k:κ}(e:p.1=k):fU (p::r) k=some p.2:=by simp[fU,Q1d,e]
theorem nX {p:κ × V}{r:List (κ × V)}{k:κ}(e:¬p.1=k):fU (p::r) k=fU r k:=by simp[fU,Q1d,e]
theorem lr (k:κ):∀kvs:List (κ × V),(kvs.any λJ=>decide (J.1=k))=(fU kvs k).isSome
 |[]=>rfl
 |p::r=>by
  rw[Q25];by_cases e:p.1=k
  . simp only[nW e,decide_eq_true e,Bool.true_or,Option.isSome_some]
  . rw[nX e,decide_eq_false e,Bool.false_or];exact lr k r
theorem wI (kvs:List (κ × V))(k:κ)(v:V):(putK kvs k v).length<=kvs.length+1:=by
 unfold putK;split
 . rw[Q09];omega
 . rw[Q08,Q0e,Q1r];omega
theorem iL.p9 {o:Option V}{u:Option Value}(r:iL o u):o.isSome=u.isSome:=by
 cases o with
 |none=>cases u with
  |none=>rfl
  |some _=>exact(show False from r).elim
 |some _=>cases u with
  |none=>exact(show False from r).elim
  |some _=>rfl
theorem KV.val {kvs:List (κ × V)}{vs:List (κ × Value)}(r:KV kvs vs)(k:κ):iL (fU kvs k) (valueAt vs k):=by
 unfold KV at r
 induction r with
 |nil=>exact True.intro
 |@cons p q ps J h t U=>
  obtain⟨h1,h2⟩:=h;by_cases e:p.1=k
  . have L:q.1=k:=h1.symm.trans e;have b:valueAt (q::J) k=some q.2:=by simp[valueAt,Q1d,L]
    rw[nW e,b];exact h2
  . have L:¬q.1=k:=λz=>e (h1.trans z);have b:valueAt (q::J) k=valueAt J k:=by simp[valueAt,Q1d,L]
    rw[nX e,b];exact U
theorem KV.any {kvs:List (κ × V)}{vs:List (κ × Value)}(r:KV kvs vs)(k:κ):(kvs.any λJ=>decide (J.1=k))=vs.any λJ=>decide (J.1=k):=by
 unfold KV at r
 induction r with
 |nil=>rfl
 |cons h t L=>rw[Q25,Q25,L,h.1]
theorem KV.repl {kvs:List (κ × V)}{vs:List (κ × Value)}(r:KV kvs vs)(k:κ){y:V}{u:Value}(L:RelV y u):
 KV (kvs.map λJ=>if J.1=k then(J.1,y) else J) (vs.map λJ=>if J.1=k then(J.1,u) else J):=by
 unfold KV at r ⊢
 induction r with
 |nil=>exact .nil
 |@cons p q ps Y h t U=>
  rw[Q0o,Q0o];refine .cons ?_ U;obtain⟨h1,h2⟩:=h;by_cases e:p.1=k
  . rw[if_pos e,if_pos (h1.symm.trans e)];exact⟨h1,L⟩
  . rw[if_neg e,if_neg (λz=>e (h1.trans z))];exact⟨h1,h2⟩
theorem KV.put {kvs:List (κ × V)}{vs:List (κ × Value)}(r:KV kvs vs)(k:κ){y:V}{u:Value}(J:RelV y u):KV (putK kvs k y) (stored vs k u):=by
 unfold putK stored;rw[r.any k];by_cases e:(vs.any λL=>decide (L.1=k))=true
 . rw[if_pos e,if_pos e];exact r.repl k J
 . rw[if_neg e,if_neg e];exact Paired.snoc r ⟨rfl,J⟩
theorem KV.length {kvs:List (κ × V)}{vs:List (κ × Value)}(r:KV kvs vs):kvs.length=vs.length:=Paired.length r
end
theorem nY {P:Program}{w:World}{k:Key}{u:Value}(r:RelV (kV k) u):(f9 P w).is k u=true:=by
 cases k with
 |inl i=>obtain⟨t,e⟩:=(show ∃t,u=Value.int i t from r);subst e;exact Ax P w i t
 |inr x=>obtain⟨t,e⟩:=(show ∃t,u=Value.str x t from r);subst e;exact Ay P w x t
theorem wJ {P:Program}{w:World}:∀{ks:List Key}{J:List Value},Vals (ks.map kV) J->ItemsAre (f9 P w) ks J
 |[],_,r=>by rw[List.map_nil] at r;cases r;exact .nil
 |k::ks,_,r=>by
  rw[Q0o] at r
  cases r with
  |cons h t=>exact .cons (nY h) (wJ t)
abbrev KT (H:Hp):List (List Key × V)->List (List Key × Addr × Value)->Prop:=Paired λp q=>p.1=q.1/\H q.2.1=some (.tup (p.1.map kV))/\RelV p.2 q.2.2
theorem KT.val {H:Hp}{kvs:List (List Key × V)}{xs:List (List Key × Addr × Value)}(r:KT H kvs xs)(k:List Key):iL (fU kvs k) ((atKey xs k).map (·.2)):=by
 induction r with
 |nil=>exact True.intro
 |@cons p q ps J h t U=>
  obtain⟨h1,_,h2⟩:=h;by_cases e:p.1=k
  . have L:q.1=k:=h1.symm.trans e;have b:atKey (q::J) k=some q.2:=by simp[atKey,Q1d,L]
    rw[nW e,b];exact h2
  . have L:¬q.1=k:=λz=>e (h1.trans z);have b:atKey (q::J) k=atKey J k:=by simp[atKey,Q1d,L]
    rw[nX e,b];exact U
theorem KT.repl {H:Hp}{kvs:List (List Key × V)}{xs:List (List Key × Addr × Value)}(r:KT H kvs xs)(k:List Key){y:V}{u:Value}(L:RelV y u):
 KT H (kvs.map λJ=>if J.1=k then(J.1,y) else J) (xs.map (putAt k u)):=by
 induction r with
 |nil=>exact .nil
 |@cons p q ps qs h t U=>
  rw[Q0o,Q0o];refine .cons ?_ U;obtain⟨h1,h2,Y⟩:=h;unfold putAt;by_cases e:p.1=k
  . rw[if_pos e,if_pos (h1.symm.trans e)];exact⟨h1,h2,L⟩
  . rw[if_neg e,if_neg (λz=>e (h1.trans z))];exact⟨h1,h2,Y⟩
theorem KT.put {H:Hp}{kvs:List (List Key × V)}{xs:List (List Key × Addr × Value)}(r:KT H kvs xs)(k:List Key){b:Addr}{y:V}{u:Value}(L:H b=some (.tup (k.map kV)))(J:RelV y u):
 KT H (putK kvs k y) (storedH xs k b u):=by
 have e:(kvs.any λU=>decide (U.1=k))=(atKey xs k).isSome:=by
  rw[lr,(r.val k).p9,Q2n]
 unfold putK storedH;rw[e];by_cases q:(atKey xs k).isSome=true
 . rw[if_pos q,if_pos q];exact r.repl k J
 . rw[if_neg q,if_neg q];exact Paired.snoc r ⟨rfl,L,J⟩
theorem KT.keeps {H H':Hp}{kvs:List (List Key × V)}{xs:List (List Key × Addr × Value)}(r:KT H kvs xs)(J:∀b ys,H b=some (.tup ys)->H' b=some (.tup ys)):KT H' kvs xs:=
 Paired.nz r λ_ _ z=>⟨z.1,J _ _ z.2.1,z.2.2⟩
section
variable {P:Program}{w:World}{H:Hp}{h:Heap}{a:Addr}
theorem wK {u:HO}(ok:fj P w H h)(e:Rd H a u):fi P w H h a u:=e.ok ok
theorem mm {kvs:List (Key × V)}(ok:fj P w H h)(e:Rd H a (.dK kvs)):kvs.length<=sizeLine/\(a == sysModules)=false/\∃vs,KV kvs vs/\h.DictOf (f9 P w) a vs:=
 show fi P w H h a (.dK kvs) from wK ok e
theorem nZ {kvs:List (Key × V)}(ok:fj P w H h)(e:H a=some (.dK kvs)):kvs.length<=sizeLine/\(a == sysModules)=false/\∃vs,KV kvs vs/\h.DictOf (f9 P w) a vs:=mm ok (.inl e)
theorem n0 {ks:List Key}(ok:fj P w H h)(e:H a=some (.tup (ks.map kV))):(tupleKind (f9 P w)).is h ks a:=by
 obtain⟨_,J,r,o,h1,h2,n,L⟩:=(show fi P w H h a (.tup (ks.map kV)) from ok a _ e);exact⟨o,J.toArray,n,h1,h2,L,by simpa using wJ r⟩
theorem n8 {kvs:List (List Key × V)}(ok:fj P w H h)(e:Rd H a (.dT kvs)):kvs.length<=sizeLine/\(a == sysModules)=false/\
 ∃xs,KT H kvs xs/\h.DictOfH (tupleKind (f9 P w)) a xs:=by
 obtain⟨z,y,xs,r,o,es,ep,h1,h2,U,Y,h5⟩:=(show fi P w H h a (.dT kvs) from wK ok e);refine⟨z,y,xs,r,o,es,ep,h1,h2,U,Y,λx J=>?_,h5⟩
 have all:∀{l:List (List Key × V)} {m:List (List Key × Addr × Value)},KT H l m->∀x∈m,(tupleKind (f9 P w)).is h x.1 x.2.1:=by
  intro l m q
  induction q with
  |nil=>intro x J;exact nomatch J
  |@cons p q ps qs L t ih=>
   intro x J;rcases List.mem_cons.mp J with e|J
   . subst e;exact n0 ok (by rw[<-L.1];exact L.2.1)
   . exact ih x J
 exact all r x J
theorem BL {kvs:List (List Key × V)}(ok:fj P w H h)(e:H a=some (.dT kvs)):kvs.length<=sizeLine/\(a == sysModules)=false/\
 ∃xs,KT H kvs xs/\h.DictOfH (tupleKind (f9 P w)) a xs:=n8 ok (.inl e)
end
def eU (H:Hp) (a:Addr) (y:V) (r:Option V):Prop:=
 (∃kvs k,Rd H a (.dK kvs)/\y=kV k/\r=fU kvs k)\/∃kvs k b,Rd H a (.dT kvs)/\y=.ref b/\H b=some (.tup (k.map kV))/\r=fU kvs k
def jr (H:Hp) (a:Addr) (y v:V) (H':Hp):Prop:=
 (∃kvs k,H a=some (.dK kvs)/\y=kV k/\kvs.length<sizeLine/\H'=upd H a (.dK (putK kvs k v)))\/
 ∃kvs k b,H a=some (.dT kvs)/\y=.ref b/\H b=some (.tup (k.map kV))/\kvs.length<sizeLine/\H'=upd H a (.dT (putK kvs k v))
theorem eU.k {H:Hp}{a:Addr}{kvs:List (Key × V)}{k:Key}(e:H a=some (.dK kvs)):eU H a (kV k) (fU kvs k):=.inl ⟨kvs,k,.inl e,rfl,rfl⟩
theorem jr.k {H:Hp}{a:Addr}{kvs:List (Key × V)}{k:Key}{v:V}(e:H a=some (.dK kvs))(hl:kvs.length<sizeLine):jr H a (kV k) v (upd H a (.dK (putK kvs k v))):=.inl ⟨kvs,k,e,rfl,hl,rfl⟩
section
variable {X:Cx}{pins:List (Addr × Obj)}{σ:St}{H:Hp}{s:Shared}{a:Addr}{y v:V}{u r:Value}{o:Option V}{A:Around}{E:Value->Shared->Prop}
theorem Inv.big (I:Inv X pins σ H s):sysModules<s.heap.objs.size:=by
 have h:mainGlobals<s.heap.objs.size:=(I.mod.glob.keeps I.bk).lt;exact Q1 (by decide) h
theorem BN {Q:Value->Shared->Prop}(hu:A.units+1<cLine)(I:Inv X pins σ H s)(g:eU H a y (some v))(ry:RelV y u)(h:∀U s',Inv X pins σ H s'->RelV v U->Q U s'):
 wpAny (model X.prog X.w) A (getItem (.ref a) u) Q E s:=by
 rcases g with⟨kvs,k,e,Y,l⟩|⟨kvs,k,b,e,Y,eb,l⟩
 . subst Y;obtain⟨z,hd,vs,J,dd⟩:=mm I.hok e;obtain⟨U,hw,L⟩:=iL.some_of (v:=v) (o:=valueAt vs k) (by rw[l];exact J.val k);exact wpAny_getItem_of (nY ry) dd.mapOf hw (h U _ (I.tok _) L)
 . subst Y
   cases(show u=Value.ref b from ry);obtain⟨z,hd,xs,J,dd⟩:=n8 I.hok e;obtain⟨U,hw,L⟩:=iL.some_of (v:=v) (o:=(atKey xs k).map (·.2)) (by rw[l];exact J.val k);obtain⟨p,hp,aa⟩:=Option.map_eq_some_iff.mp hw;refine wpAny_getItem_heap (tupleKind_room_in1 hu) (n0 I.hok eb) dd hp ?_;rw[aa];exact h U _ (I.tok _) L
theorem BO {Q:Value->Shared->Prop}(hu:A.units+1<cLine)(I:Inv X pins σ H s)(g:eU H a y o)(ry:RelV y u)(h:∀s',Inv X pins σ H s'->Q (.bool o.isSome) s'):
 wpAny (model X.prog X.w) A (compareOp .In u (.ref a)) Q E s:=by
 rcases g with⟨kvs,k,e,L,l⟩|⟨kvs,k,b,e,L,eb,l⟩
 . subst L;obtain⟨z,U,vs,J,Y⟩:=mm I.hok e;refine wpAny_in_of (nY ry) U Y.mapOf ?_;rw[<-(J.val k).p9,<-l];exact h _ (I.tok _)
 . subst L
   cases(show u=Value.ref b from ry);obtain⟨z,U,xs,J,Y⟩:=n8 I.hok e;refine wpAny_in_heap (tupleKind_room_in1 hu) (n0 I.hok eb) U Y ?_;have q:=(J.val k).p9;rw[Q2n] at q;rw[<-q,<-l];exact h _ (I.tok _)
theorem wM {h':Heap}{t':Nat}{J:HO}(I:Inv X pins σ H s)(mu:l8 (H a))(L:Heap.SameBut a s.heap h')(U:∃q,h'.get? a=some q)(new:fi X.prog X.w (upd H a J) h' a J):
 Inv X pins σ (upd H a J) { s with heap:=h',toks:=t' }:=
 I.write (x:=a) (e:=a) mu (.inl rfl) (λb q Y z=>(L.2 b Y).trans z) U new
theorem BP {P:Program}{w:World}{H':Hp}{h':Heap}{kvs:List (Key × V)}{vs:List (Key × Value)}(z:kvs.length<=sizeLine)(L:(a == sysModules)=false)(J:KV kvs vs)(U:h'.DictOf (f9 P w) a vs):
 fi P w H' h' a (.dK kvs):=⟨z,L,vs,J,U⟩
theorem BQ {H':Hp}{Q:Unit->Shared->Prop}(hu:A.units+1<cLine)(I:Inv X pins σ H s)(g:jr H a y v H')(ry:RelV y u)(rv:RelV v r)(h:∀s',Inv X pins σ H' s'->Q () s'):
 wpAny (model X.prog X.w) A (setItem (.ref a) u r) Q E s:=by
 rcases g with⟨kvs,k,e,Y,l,eH⟩|⟨kvs,k,b,e,Y,eb,l,eH⟩
 . subst Y eH;obtain⟨z,hd,vs,J,dd⟩:=nZ I.hok e;have hz:vs.length<=sizeLine:=by rw[<-J.length];exact z
   have hl:(putK kvs k v).length<=sizeLine:=by have:=wI kvs k v;omega
   refine wpAny_setItem_pairs (hsz:=hz) (nY ry) dd λh' L hs=>h _ ?_;have he:∃q,h'.get? a=some q:=let⟨q,_,_,U,_⟩:=L;⟨q,U⟩
   exact wM I (by rw[e];exact True.intro) hs he (BP hl hd (J.put k rv) L)
 . subst Y eH
   cases(show u=Value.ref b from ry);obtain⟨z,hd,xs,J,dd⟩:=BL I.hok e;have hz:xs.length<=sizeLine:=by rw[<-Paired.length J];exact z
   have hl:(putK kvs k v).length<=sizeLine:=by have:=wI kvs k v;omega
   refine wpAny_setItem_heap (hsz:=hz) (tupleKind_room_in1 hu) (n0 I.hok eb) dd λh' L hs=>h _ ?_;obtain⟨q,es,ep,U,h2,h3,h4,_,h5⟩:=L;refine wM I (by rw[e];exact True.intro) hs ⟨q,U⟩ ⟨hl,hd,_,(J.put k eb rv).keeps λc ys ec=>?_,q,es,ep,U,h2,h3,h4,h5⟩;rw[dh (gL ec e (λz=>nomatch z))];exact ec
end
section
variable {X:Cx}{pins:List (Addr × Obj)}{σ:St}{H:Hp}{s:Shared}{a:Addr}{kvs:List (Key × V)}{k:Key}{u:Value}{A:Around}{E:Value->Shared->Prop}
theorem BR {Q:Value->Shared->Prop}(I:Inv X pins σ H s)(e:Rd H a (.dK kvs))(h:∀t s',Inv X pins σ H s'->Q (.int kvs.length t) s'):wpAny (model X.prog X.w) A (call (.builtin "len") [.ref a]) Q E s:=by
 obtain⟨z,L,vs,J,U⟩:=mm I.hok e;refine call_len_dict L U (by rw[<-J.length];rw[sizeLine_eq] at z;omega) ?_;rw[<-J.length];exact h _ _ (I.tok _)
end
def wN (i:Expr):Prop:=∀J L,subscripted i false J L=operate [J,L] (getItem J L)
theorem BS {prog:Program}{w:World}{A:Around}{E:Value->Shared->Prop}{s:Shared}{env:Env}{value J:Expr}{pos:Pos}{T id:String}{Q:Value->Shared->Prop}
 (hl:typeLookup (.type T) "__getitem__"=pure (some (.builtin id))) (hs:wN J)
 (h:wpAny (model prog w) A (eval value env) (λo Y=>wpAny (model prog w) A (eval J env) (λi L=>L.TypeIs o T/\wpAny (model prog w) A (getItem o i) Q E L) E Y) E s):
 wpAny (model prog w) A (eval (.Subscript value J pos) env) Q E s:=by
 refine Subscript_ (Q0y h (λo Y h₁=>Q0y h₁ (λi L U=>?_) λ_ _ x=>x) λ_ _ x=>x);obtain⟨hT,U⟩:=U;unfold subscriptTail;refine Q0 ?_;rw[getitemInPython_of_ne hT.not_modules];refine Q0 (wpAny_specialOf hT hl ?_)
 have fin:wpAny (model prog w) A (subscripted J false o i) (λr aa=>wpAny (model prog w) A (letTemporaryGo value o r >>= λ_=>pure r) Q E aa) E L:=by
  rw[hs o i];exact wpAny_operating (Q0y U (λr aa ab=>Q0 (wpAny_letTemporaryGo (Q02 ab))) λ_ _ x=>x)
 first
  |exact Q02 (Q0 fin)
  |exact Q0 (Q02 (Q0 fin))
  |exact Q0 fin
theorem BU {X:Cx}{pins:List (Addr × Obj)}{σ:St}{H:Hp}{s:Shared}{a:Addr}{y:V}{o:Option V}(I:Inv X pins σ H s)(g:eU H a y o):s.TypeIs (.ref a) "dict":=by
 rcases g with⟨kvs,k,e,_,_⟩|⟨kvs,k,b,e,_,_,_⟩
 . obtain⟨_,_,vs,_,J⟩:=mm I.hok e;exact J.typeIs
 . obtain⟨_,_,xs,_,J⟩:=n8 I.hok e;exact J.typeIs
def jR (td ty:TE):TE:=λσ H Q=>td σ H λx H1=>ty σ H1 λy H2=>∃a v,x=.ref a/\eU H2 a y (some v)/\Q v H2
def BV (ty td:TE):TE:=λσ H Q=>ty σ H λy H1=>td σ H1 λx H2=>∃a o,x=.ref a/\eU H2 a y o/\Q (.bl o.isSome) H2
def BW (td ty tv:TE):TS:=λD σ H=>tv σ H λv H1=>td σ H1 λx H2=>ty σ H2 λy L=>∃a J,x=.ref a/\jr L a y v J/\D.nx σ J
section
variable {X:Cx}{o i e value:Expr}{pos pos' tpos:Pos}{td ty tv:TE}
theorem fH (U:X.A.units+1<cLine)(Y:PE X o td)(hi:PE X i ty)(hs:wN i):PE X (.Subscript o i pos) (jR td ty):=by
 intro pins s σ H Q I h;refine BS PySem.F.slot_dict_getitem.lookup hs (dH (Y pins s σ H _ I h) λu s1 ⟨x,H1,I1,rx,q1⟩=>dH (hi pins s1 σ H1 _ I1 q1) λiv s2 zq=>?_);obtain⟨y,H2,L,ry,a,v,ex,g,q2⟩:=zq;subst ex;obtain rfl:u=Value.ref a:=rx;exact⟨BU L g,BN U L g ry λw' s3 I3 J=>⟨v,H2,I3,J,q2⟩⟩
theorem p_ (J:X.A.units+1<cLine)(hi:PE X i ty)(L:PE X o td):PC X .In i o (BV ty td):=by
 intro pins s σ H Q I h;refine dH (hi pins s σ H _ I h) λiv U ⟨y,H1,Y,ry,q1⟩=>dH (L pins U σ H1 _ Y q1) λu s2 zq=>?_;obtain⟨x,H2,I2,rx,a,ov,ex,g,q2⟩:=zq;subst ex;obtain rfl:u=Value.ref a:=rx;exact BO J I2 g ry λs3 I3=>⟨.bl ov.isSome,H2,I3,rfl,q2⟩
theorem n9 (J:X.A.units+1<cLine)(L:PE X o td)(hi:PE X i ty)(hv:PE X value tv)(U:swapsWith value (some (.Subscript o i pos')) pos.line X.env=pure false):
 PS X (.Assign [.Subscript o i pos'] value pos) (BW td ty tv):=by
 intro pins s σ H D I h;refine wpAny_Assign_Subscript (dH (hv pins s σ H _ I h) λr Y ⟨v,H1,I1,rv,q1⟩=>dH (L pins Y σ H1 _ I1 q1) λu s2 ⟨x,H2,I2,rx,q2⟩=>dH (hi pins s2 σ H2 _ I2 q2) λiv s3 zq=>?_) U;obtain⟨y,H3,I3,ry,a,H4,ex,g,q3⟩:=zq;subst ex;obtain rfl:u=Value.ref a:=rx;exact BQ J I3 g ry rv λs4 I4=>⟨σ,H4,I4,q3⟩
end
theorem BX {P:Program}{w:World}{H:Hp}(h:Heap)(J:sysModules<h.objs.size):fi P w H (h.push { cls:=.type "dict",data:=.dict #[] }) h.objs.size (.dK []):=
 ⟨Q06 _,beq_eq_false_iff_ne.mpr (Ne.symm (Q0c J)),[],.nil,Heap.DictOf.new h⟩
def BY:TE:=λ_ H Q=>∀p,H p=none->Q (.ref p) (upd H p (.dK []))
section
variable {X:Cx}{pos:Pos}
theorem wO:PE X (.Dict [] [] pos) BY:=λpins s σ H Q I h=>
 wpAny_Dict_empty ⟨.ref s.heap.objs.size,_,I.laid (a:=s.heap.objs.size) (o:=.dK []) (t':=s.toks) (λ_ _ q=>Q07 _ q) (Q00 _) (BX s.heap I.big),rfl,h _ (I.hok.fresh (Q00 _))⟩
end
section
variable {X:Cx}{pins:List (Addr × Obj)}{σ:St}{H:Hp}{s:Shared}{a:Addr}{y d:V}{u r:Value}{o:Option V}{A:Around}{E:Value->Shared->Prop}
end
section
variable {X:Cx}{o e f:Expr}{apos cpos:Pos}{td ty tx:TE}
end
section
variable {X:Cx}{pins:List (Addr × Obj)}{σ:St}{H:Hp}{s:Shared}{a:Addr}{kvs:List (Key × V)}{A:Around}{E:Value->Shared->Prop}
end
section
variable {X:Cx}{pins:List (Addr × Obj)}{σ:St}{H:Hp}{s:Shared}{a:Addr}{y:V}{u:Value}{A:Around}{E:Value->Shared->Prop}
end
end L2
namespace wQ
open W Calls PyProof.Rows
theorem BZ {P:Params}{h:Heap}:∀(ns:List Int) (vs:List Value),WellAll P h vs (ns.map WData.int)->IntsAre vs ns:=by
 intro ns
 induction ns with
 |nil=>
  intro vs w;rw[List.map_nil] at w
  cases w;exact .nil
 |cons n ns J=>
  intro vs w;rw[Q0o] at w
  cases w with
  |cons a b=>
   cases a;exact .cons _ _ (J _ b)
theorem B0 {l:OpenLaw}{n:Nat}(hn:l.most=some n){P:Params}{h:Heap}{args:List WData}{J:List Value}
 (L:l.row.toRowW.claim.pre args=true) (aa:WellAll P h J args):
 ∃a vs ns,J=[Value.ref a]/\args=[WData.list (ns.map WData.int)]/\h.get? a=some { cls:=.type "list",data:=.seq vs.toArray }/\IntsAre vs ns/\ns.length<=n:=by
 have ab:WShape.hasAll [] args [.list .int]=true:=(pre_splitW L).1;have hc:l.pre.holds [] { args:=args }=true:=(pre_splitW L).2;obtain⟨d,r,rfl,h1,h2⟩:=hasAllW_cons ab;obtain rfl:=hasAllW_nil h2;obtain⟨xs,rfl,h3⟩:=hasW_list h1;obtain⟨ns,rfl⟩:=items_int h3
 have U:ns.length<=n:=by
  unfold OpenLaw.pre at hc
  have h4:(WTm.not (.lt (.lit (.int (n:Int))) (.len (.arg 0)))).holds [] { args:=[.list (ns.map .int)] }=true:=by
   have h4:=(holds_andW hc).1;rw[hn] at h4;exact h4
  have h5:=condW_of h4 (w_not (w_lt w_lit (w_len_list (w_arg rfl))));rw[Q09] at h5;refine Q1e λq=>?_;have q':(n:Int)<((ns.length:Nat):Int):=by omega
  first
   |(rw[decide_eq_true q'] at h5;exact absurd h5 (by decide))
   |(simp at h5;omega)
 cases aa with
 |cons w1 w2=>
  cases w2
  cases w1 with
  |list ho Y=>exact⟨_,_,ns,rfl,rfl,ho,BZ ns _ Y,U⟩
theorem B1 (l:OpenLaw)(args:List WData):l.row.toRowW.claim.post args (.bool true) args=true:=
 postW_of (r:=l.row.toRowW) (X:=(true == true))
  (show WShape.has [] (.bool true) .bool=true by first|rfl|decide|simp[WShape.has,WShape.arms,WShape.armsAll])
  (show(WTm.eq .res (.lit (.bool true))).value [] { args:=args,res:=some (.bool true),after:=args }=some (.bool (true == true)) from w_eq_bool (w_res rfl) w_lit) rfl
theorem B2 {l:OpenLaw}{n:Nat}{q:Program}{loose:List Str}{XP:(Str->Option Value)->Heap->Prop}{YP:World->Heap->Prop}{d:DefRec}
 (hn:l.most=some n) (ae:d.params.defaults=[])
 (call:∀(w:World) (s₀ J:Shared) (mg mb:Str->Option Value) (fa:Addr) (o:Obj) (pm cd L:Value) (a:Addr) (vs:List Value) (ns:List Int),
   Ground q loose [] XP w s₀ mg mb J.heap->YP w J.heap->
   J.heap.get? fa=some o->o.data=.func (docDef d.name d.params d.body d.scope pm cd L)->J.heap.CodeRec cd d.name->mg d.name=some (.ref fa)->
   J.heap.get? a=some { cls:=.type "list",data:=.seq vs.toArray }->IntsAre vs ns->ns.length<=n->J.gens=#[]->
   codeAny (model l.prog w) callerA (.call (.ref fa) ⟨[.ref a],[]⟩) (λr s'=>r=.ok (.ret (.bool true))/\OldK J.heap s'.heap/\s'.os=J.os/\AllBare s'.gens) J):
 WalkO q loose XP YP l.row.toRowW d [] (λf vs=>PySem.call f vs):=by
 intro w s₀ J mg mb G Y fa o pm cd L dV kV ho hd af hD ag hg args ai as aa aj ak ah al;obtain rfl:dV=.none:=Dflts.none hD ae;obtain rfl:kV=.none:=Dflts.noKw hD;obtain⟨a,vs,ns,rfl,rfl,ab,U,ac⟩:=B0 hn aa ah;refine enter_call (codeAny_mono (call w s₀ J mg mb fa o pm cd L a vs ns G Y ho (fd_plain hd) af ag ab U ac hg) λr s' hq=>?_);obtain⟨rfl,h2,h3,h4⟩:=hq;exact⟨.inl ⟨.bool true,.bool true,[],rfl,λ_=>rfl,.bool true,B1 l _,λ_=>⟨List.Pairwise.nil,λ_ hm=>(nomatch hm)⟩⟩,h2,h3,h4⟩
section
variable {prog:Program}{w:World}{A:Around}{E:Value->Shared->Prop}{s:Shared}{K:Frag}
end
end wQ
namespace L2
open Spec PyProof.Rows
theorem wR:∀{vs:List Value}{ns:List Int},IntsAre vs ns->Vals (ns.map V.int) vs
 |_,_,.nil=>.nil
 |_,_,.cons n t h=>.cons ⟨t,rfl⟩ (wR h)
abbrev da:il:=λ_ _ _ _ _ _=>False
abbrev E0:XK:=λ_ _ _=>False
theorem mn {X:Cx}:Passes da X E0:=λ_ _ _ _ _ _ _ h=>h.elim
structure jS (K:W.Frag) (x qual:Str) (st:Stmt) (f:Addr) (fd:FuncData):Prop where
 ex:∃(oc:Value) (od:Option Addr) (kV doc pm:Value) (an:Option Addr) (cdv ct:Value) (osl:Array (Option Value)),
  fd=W.fnOf x qual (gE st) (fZ st) (dD st) .none kV doc pm an cdv ct/\K.lookup f=some ⟨oc,od,.func fd,osl⟩/\W.codeIn K cdv qual=true
 kp:W.keepIn K (.ref f)=true
variable {P:Program}{w:World}{K:W.Frag}{mg:Str->Option Value}{base:Heap}
def FnBody (P:Program) (w:World) (K:W.Frag) (mg:Str->Option Value) (base:Heap) (N ps:List Str) (qual:Str) (st:Stmt) (f:Addr) (k:Nat) (vs:List V) (H:Hp) (Q:VK) (E:XK):Prop:=vs.length=ps.length/\∀(J:Value) (A:Around) (outer:List Env) (s:Shared),N.Nodup->eV k (A.deeper (envOfC qual (dD st) s.heap.objs.size f J))->(A.deeper (envOfC qual (dD st) s.heap.objs.size f J)).units+1<cLine->∃t,gU (d6 da P w K mg base N qual (dD st) f J A outer s H E).eh (fZ st) t/\t { nx:=λ_ H'=>Q .non H',rt:=Q } (start N vs) H
theorem jS.ok {x qual:Str}{st:Stmt}{f:Addr}{fd:FuncData}{N ps:List Str}{k:Nat}{sp:Sp}(F:jS K x qual st f fd)(S:d5 N ps (dD st))
 (J:∀(vs:List V) (H:Hp) (Q:VK) (E:XK),sp vs H Q E->FnBody P w K mg base N ps qual st f k vs H Q E):c_ P w K mg base da (k+1) f fd ps sp:=by
 obtain⟨oc,od,kV,aa,pm,an,L,ct,ab,rfl,lk,U⟩:=F.ex;refine wy lk U S (λvs H Q E h=>(J vs H Q E h).1) λA outer s H vs Q E hr Y=>?_;obtain⟨t,h,q⟩:=(J vs H Q E Y).2 L A outer s S.nd hr (Q17 (Q2o (by decide:1<=64) _) hr.units);exact⟨t,h.eh,q⟩
theorem jS.binds {x qual:Str}{st:Stmt}{f:Addr}{fd:FuncData}{ps:List Str}(F:jS K x qual st f fd)
 (h:∀(kV J U:Value) (Y:Option Addr) (L ct:Value) (us:List Value),us.length=ps.length->bindArgs (W.fnOf x qual (gE st) (fZ st) (dD st) .none kV J U Y L ct) ⟨us,[]⟩=pure (ps.zip us)):Binds K fd ps []:=by
 obtain⟨oc,od,kV,J,U,Y,L,ct,aa,rfl,lk,ab⟩:=F.ex;exact .all (h kV J U Y L ct)
theorem n_ {x qual:Str}{st:Stmt}{f:Addr}{oc:Value}{od Y:Option Addr}{U:Array (Option Value)}{kV L pm J ct:Value}(l:K.lookup f=some ⟨oc,od,.func (W.fnOf x qual (gE st) (fZ st) (dD st) .none kV L pm Y J ct),U⟩)
 (c:W.codeIn K J qual=true) (k:W.keepIn K (.ref f)=true):jS K x qual st f (W.fnOf x qual (gE st) (fZ st) (dD st) .none kV L pm Y J ct):=⟨⟨oc,od,kV,L,pm,Y,J,ct,U,rfl,l,c⟩,k⟩
theorem qa {A:Around}{k:Nat}(J:eV k A):A.units+1<cLine:=Q17 (Q2o (by decide:1<=64) _) J.units
theorem fX {n:Nat}(h:n<=1000):n<sizeLine:=Q17 h (by decide)
section
variable {X:Cx}
theorem pv (i:Nat){x:Str}{pos:Pos}(L:X.N[i]? =some x:=by rfl)(hv:nB X.env.scope x:=by first|exact Or.inl rfl|exact Or.inr (Or.inl rfl)|exact Or.inr (Or.inr rfl))(U:(x == ("__debug__":Str))=false:=by decide)
 (J:(x == ("__classdict__":Str))=false:=by decide):PE X (.Name x pos) (dE i):=AG L hv U J
end
theorem dy {A B:Prop}(h:B):if false=true then A else B:=by
 rw[if_neg Bool.false_ne_true];exact h
theorem dM {A B:Prop}(h:A):if true=true then A else B:=by
 rw[if_pos rfl];exact h
theorem eF {c A B:Prop} [Decidable c](h1:c->A)(h2:¬c->B):if c then A else B:=by
 by_cases h:c
 . rw[if_pos h];exact h1 h
 . rw[if_neg h];exact h2 h
theorem wU {c A B:Prop} [Decidable c](hc:c)(h:B):if(!decide c)=true then A else B:=by
 rw[decide_eq_true hc];exact dy h
def Same (H H':Hp):Prop:=∀b o,H b=some o->H' b=some o
theorem Same.refl (H:Hp):Same H H:=λ_ _ h=>h
theorem Same.trans {H H1 H2:Hp}(a:Same H H1)(b:Same H1 H2):Same H H2:=λc o h=>b c o (a c o h)
theorem Same.free {H H':Hp}(e:Same H H'){l:Addr}(h:H' l=Option.none):H l=Option.none:=by
 cases q:H l with
 |none=>rfl
 |some o=>
  rw[e l o q] at h
  cases h
section
variable {X:Cx}
theorem qb:ig X (.builtin "len") (λxs H Q=>∃a kvs,xs=[V.ref a]/\H a=some (.dK kvs)/\Q (.int kvs.length) H):=by
 intro pins s σ H xs Y Q I r h;obtain⟨a,kvs,rfl,J,q⟩:=h;obtain⟨u,rfl,L⟩:=vals1 r
 cases L;exact BR I (.inl J) λt s' U=>⟨.int kvs.length,H,U,⟨t,rfl⟩,q⟩
end
section
variable {κ:Type} [DecidableEq κ]
theorem B3 {kvs:List (κ × V)}{k:κ}{v:V}(h:fU kvs k=some v):k∈kvs.map (·.1):=by
 have q:(kvs.any λJ=>decide (J.1=k))=true:=by
  rw[lr,h]
  all_goals rfl
 obtain⟨p,hp,e⟩:=List.any_eq_true.mp q;exact List.mem_map.mpr ⟨p,hp,of_decide_eq_true e⟩
end
theorem wV {g:Str->NameKind->NameKind}{x:Str}:∀names:List (Str × NameKind),
 (names.map λy=>(y.1,g y.1 y.2)).lookup x=(names.lookup x).map (g x)
 |[]=>rfl
 |(n,k)::r=>by
  show List.lookup x ((n,g n k)::_)=_;rw[Q1l,Q1l,wV r]
  cases J:x == n with
  |true=>rw[eq_of_beq J];rfl
  |false=>rfl
noncomputable def i7 (env:Env) (n:Str) (k:NameKind):NameKind:=
 if(k == .free && env.scope.kind == .function && env.kindOf n == some .cell)=true then .cell else k
theorem wW (scope:Scope)(env:Env)(x:Str):
 (relabel scope env).names.lookup x=(scope.names.lookup x).map (i7 env x):=by
 rw[<-wV (g:=i7 env) scope.names];show List.lookup x (scope.names.map _)=_;congr 1;apply Q1s;rintro⟨n,k⟩ _;show(if _ then _ else _)=(n,i7 env n k);unfold i7;split <;> rfl
theorem B4 {env:Env}{x:Str}{k:NameKind}(h:i7 env x k=.local):k=.local:=by
 unfold i7 at h;split at h
 . cases h
 . exact h
theorem B5 {env:Env}{x:Str}{k:NameKind}(h:i7 env x k=.cell):k=.free\/k=.cell:=by
 unfold i7 at h;split at h
 . rename_i c;left;simp only[Bool.and_eq_true] at c;exact eq_of_beq c.1.1
 . exact .inr h
theorem B6 {env:Env}{x:Str}{k:NameKind}(h:i7 env x k=.free):k=.free:=by
 unfold i7 at h;split at h
 . cases h
 . exact h
theorem qc {env:Env}:∀(names:List (Str × NameKind)) (L:List (Str × Addr)),(∀y∈names,y.2=.free->∃c,env.cells.lookup y.1=some c)->
 (∀x c,L.lookup x=some c->env.cells.lookup x=some c)->
 ∃cl:List (Str × Addr),(forIn names L λy cs=>if(y.2 == NameKind.free)=true then(do let a <-cellOf env y.1;pure (ForInStep.yield ((y.1,a)::cs))) else pure (ForInStep.yield cs))=(pure cl:Sem _)/\
  (∀x c,cl.lookup x=some c->env.cells.lookup x=some c)/\(∀x,((x,NameKind.free)∈names\/(L.lookup x).isSome=true)->cl.lookup x=env.cells.lookup x)
 |[],L,_,U=>⟨L,rfl,U,λx J=>by
    rcases J with J|J
    . cases J
    . obtain⟨c,e⟩:=Option.isSome_iff_exists.mp J;rw[e,U x c e]⟩
 |(n,k)::r,L,Y,U=>by
  by_cases hk:k=.free
  . subst hk;obtain⟨c,e⟩:=Y (n,.free) Q0a rfl;have e:env.cells.lookup n=some c:=e
    have aa:∀x d,((n,c)::L).lookup x=some d->env.cells.lookup x=some d:=λx d h=>by
     rw[Q1l] at h
     cases J:x == n with
     |true=>
      rw[J] at h
      cases h;rw[eq_of_beq J];exact e
     |false=>
      rw[J] at h;exact U x d h
    obtain⟨cl,h1,h2,h3⟩:=qc r ((n,c)::L) (λy hy=>Y y (Q04 _ hy)) aa;refine⟨cl,?_,h2,λx J=>h3 x ?_⟩
    . rw[Q1f];have ec:cellOf env n=pure c:=by unfold cellOf;rw[e]
      simp only[beq_self_eq_true,if_true,ec,pure_bind];exact h1
    . rcases J with J|J
      . rcases List.mem_cons.mp J with q|q
        . right
          cases q;rw[Q1l,beq_self_eq_true];rfl
        . exact .inl q
      . right;rw[Q1l]
        cases x == n with
        |true=>rfl
        |false=>exact J
  . obtain⟨cl,h1,h2,h3⟩:=qc r L (λy hy=>Y y (Q04 _ hy)) U;refine⟨cl,?_,h2,λx J=>h3 x ?_⟩
    . rw[Q1f];have eb:(k == NameKind.free)=false:=by simpa using hk
      simp only[eb,Bool.false_eq_true,if_false,pure_bind];exact h1
    . rcases J with J|J
      . rcases List.mem_cons.mp J with q|q
        . cases q;exact absurd rfl hk
        . exact .inl q
      . exact .inr J
theorem qd {scope:Scope}{env:Env}(J:∀y∈scope.names,y.2=.free->∃c,env.cells.lookup y.1=some c):
 ∃cl:List (Str × Addr),closureFor scope env=pure cl/\(∀x c,cl.lookup x=some c->env.cells.lookup x=some c)/\(∀x,(x,NameKind.free)∈scope.names->cl.lookup x=env.cells.lookup x):=by
 obtain⟨cl,h1,h2,L⟩:=qc scope.names [] J (λx c h=>by cases h);refine⟨cl,?_,h2,λx U=>L x (.inl U)⟩;unfold closureFor
 have e:(forIn scope.names ([]:List (Str × Addr)) λy cs=>do
  let mut cs:=cs
  match y with
  |(name,kind)=>if(kind == NameKind.free)=true then cs:=(name,<-cellOf env name)::cs
  pure (ForInStep.yield cs))=(pure cl:Sem _):=by
  rw[<-h1]
 first
  |exact(by simpa using e)
  |(show(forIn scope.names ([]:List (Str × Addr)) _ >>= λcs=>pure cs)=_;rw[bind_pure];exact e)
structure g8 (X:Cx) (own:List Str) (scope:Scope):Prop where
 kind:scope.kind=.function
 cell:∀y∈scope.names,y.2≠ .cell
 names:∀y∈scope.names,y.2=.local->scope.names.lookup y.1=some .local
 free:∀y∈scope.names,y.2=.free->X.env.kindOf y.1=some .cell\/X.env.kindOf y.1=some .free
 nd:(own++X.N).Nodup
 outer:∀x∈X.N,scope.names.lookup x≠some .local
noncomputable def fY (X:Cx) (own:List Str) (scope:Scope) (cl:List (Str × Addr)) (C:Addr) (fp:List Addr) (J:Shared) (L:Hp):Cx:=
 { X with N:=own++X.N,s₀:=J,H₀:=L,env:=compEnvC scope cl C X.env,outer:=X.stack,ex:=fp,fn:=λ_=>false,pn:=[],xe:=λ_ _=>False }
def mq (X:Cx) (J:List Expr) (t:TT):Prop:=
 ∀(pins:List (Addr × Obj)) (s:Shared) (σ:St) (H:Hp) (Q:Bool->Hp->Prop),Inv X pins σ H s->t σ H Q->
  wpAny (model X.prog X.w) X.A (forIn J true λc r=>if r=true then do let ok <-isTrue c X.env (eval c X.env);pure (ForInStep.yield ok) else pure (ForInStep.yield r)) (TP X pins σ Q) X.xe s
def fE:TT:=λ_ H Q=>Q true H
theorem gc {X:Cx}:mq X [] fE:=λpins s σ H Q I h=>wpAny_tests_nil ⟨H,I,h⟩
theorem qe {X:Cx}{c:Expr}{t:TT}(h:PT X c t):mq X [c] t:=λpins s σ H Q I q=>wpAny_tests_one (h pins s σ H Q I q)
def ls (k:Nat) (wi:TI) (g:TG) (tt:TT) (te:TE):TE:=λσ H Q=>wi σ H λJ H1=>
 ∃W:Nat->Nat->List V->Hp->Prop,(∃m,W 0 m [] H1)/\∀i m ys H,W i m ys H->
  (J.stop i H/\∀p,H p=none->Q (.ref p) (upd H p (.lst ys)))\/
  (J.go i H/\ys.length<sizeLine/\∀x H',J.jl i H x H'->g x (List.replicate k none++σ) H' λL H2=>L.drop k=σ/\
    tt L H2 λb Y=>if b=true then te L Y λy H4=>∃U,U<m/\W (i+1) U (ys++[y]) H4 else ∃U,U<m/\W (i+1) U ys Y)
section
variable {prog:Program}{w:World}{A:Around}{R:Result->Shared->Prop}{s:Shared}
theorem B7 {ag J iter:Expr}{ah:List Expr}{scope:Scope}{pos:Pos}{it af:Value}{env:Env}(I:Nat->Shared->Prop)
 (turn:∀n s,I n s->wpAny (model prog w) A (pyNext it) (λr L=>
   match r with
   |none=>R (.ok .next) L
   |some v=>wpAny (model prog w) A (letOwnedTupleGo J it v) (λ_ Y=>wpAny (model prog w) A (assign J env v) (λ_ aa=>
     wpAny (model prog w) A (forIn ah true λc r=>if r=true then do let ok <-isTrue c env (eval c env);pure (ForInStep.yield ok) else pure (ForInStep.yield r)) (λok U=>
      if ok=true then wpAny (model prog w) A (eval ag env) (λx ab=>
       wpAny (model prog w) A (call (.builtin "list.append") [af,x]) (λ_ ac=>∃m,m<n/\I m ac) (λ_ _=>False) ab) (λ_ _=>False) U
      else ∃m,m<n/\I m U) (λ_ _=>False) aa) (λ_ _=>False) Y) (λ_ _=>False) L) (λ_ _=>False) s)
 (n:Nat) (h:I n s):
 codeAny (model prog w) A (.compLoop (.ListComp ag [⟨J,iter,ah,0⟩] scope pos) 0 it af env) R s:=by
 refine codeAny_loop rfl I (λn s hI=>?_) n h;show wpAny _ A ((compTurn _ 0 it af env).onRaise _) _ _ s;refine wpAny_noted ?_;rw[compTurn_list]
 have no:∀{α:Type} {t:Sem α} {Q Q':α->Shared->Prop} {E:Value->Shared->Prop} {s:Shared},wpAny (model prog w) A t Q (λ_ _=>False) s->(∀a s,Q a s->Q' a s)->wpAny (model prog w) A t Q' E s:=
  λh k=>Q0y h k λ_ _ z=>z.elim
 refine Q0 (wpAny_standAt (Q0 (no (turn n s hI) λr L h₁=>?_)))
 cases r with
 |none=>exact Q02 h₁
 |some v=>
  refine Q0 (no h₁ λ_ Y ai=>?_);refine Q0 (no ai λ_ aa aj=>Q0 (no aj λok U ae=>?_))
  cases ok with
  |false=>exact Q02 ⟨rfl,ae⟩
  |true=>
   refine Q0 (Q0 (no ae λx ab ak=>?_));exact Q0 (no ak λ_ ac al=>Q02 (Q02 ⟨rfl,al⟩))
end
noncomputable abbrev gP (J:List Value) (n:Nat):Obj:={ cls:=.type "list",data:=.seq J.toArray n }
section
variable {X:Cx}{own:List Str}{scope:Scope}
theorem g8.cells (S:g8 X own scope){pins:List (Addr × Obj)}{σ:St}{H:Hp}{s:Shared}(I:Inv X pins σ H s):
 ∀y∈scope.names,y.2=.free->∃c,X.env.cells.lookup y.1=some c:=λy J L=>I.ok.has y.1 (S.free y J L)
theorem g8.freeOf (S:g8 X own scope){x:Str}(h:(relabel scope X.env).names.lookup x=some .cell\/(relabel scope X.env).names.lookup x=some .free):(x,NameKind.free)∈scope.names:=by
 rw[wW] at h
 cases e:scope.names.lookup x with
 |none=>rw[e] at h;rcases h with h|h <;> cases h
 |some k=>
  rw[e] at h;have J:(x,k)∈scope.names:=PySem.mem_of_lookup e
  have hk:k=.free:=by
   rcases h with h|h
   . rcases B5 (Option.some.inj h) with q|q
     . exact q
     . exact absurd q (S.cell _ J)
   . exact B6 (Option.some.inj h)
  rw[<-hk];exact J
theorem g8.B8 (S:g8 X own scope){x:Str}(J:x∈X.N):(relabel scope X.env).names.lookup x≠some .local:=λh=>by
 rw[wW] at h
 cases e:scope.names.lookup x with
 |none=>rw[e] at h;cases h
 |some k=>
  rw[e] at h;have:=B4 (Option.some.inj h);subst this;exact S.outer x J e
theorem wX {k:Nat}{σ:St}{i:Nat}{v:V}(h:(List.replicate k none++σ)[i]? =some (some v)):k<=i/\σ[i - k]? =some (some v):=by
 by_cases hi:i<k
 . rw[Q12 (by simpa using hi),Q2l] at h;split at h <;> cases h
 . refine⟨Q1e hi,?_⟩;rw[Q0z (by simpa using hi)] at h;simpa using h
theorem Inv.block {pins:List (Addr × Obj)}{σ:St}{H:Hp}{s:Shared}{fp:List Addr}{cl:List (Str × Addr)}{C D:Addr}{h₁:Heap}{m:Str->Option Value}{t':Nat}{us:List Value}{n:Nat}(I:Inv X pins σ H s)(S:g8 X own scope)
 (hf:∀b∈fp,fV X pins H b) (af:∀b∈fp,b<s.heap.objs.size)
 (J:∀x c,cl.lookup x=some c->X.env.cells.lookup x=some c) (Y:∀x,(x,NameKind.free)∈scope.names->cl.lookup x=X.env.cells.lookup x)
 (hC:s.heap.objs.size<=C) (hD:s.heap.objs.size<=D) (ag:D≠C) (hn:h₁.Ns C m) (U:∀b o,s.heap.get? b=some o->h₁.get? b=some o) (ae:h₁.get? D=some (gP us n)):
 Inv (fY X own scope cl C fp s H) [(D,gP us n)] (List.replicate own.length none++σ) H { s with heap:=h₁,toks:=t' }:=by
 have ok:=I.ok
 have la:∀b:Addr,s.heap.objs.size<=b->b ∉ frs X.stack:=λb L z=>by
  rcases List.mem_cons.mp (I.l_ b z) with e|e
  . exact absurd I.lt (by rw[<-e];exact Nat.not_lt.mpr L)
  . exact I.la L e
 have fresh:∀b:Addr,s.heap.objs.size<=b->H b=none:=λb L=>I.hok.fresh L
 have ak:∀x c,cl.lookup x=some c->c<s.heap.objs.size:=λx c e=>by
  obtain⟨v,q⟩:=I.cell x c (J x c e);exact q.lt
 refine⟨⟨ok.mod,S.kind,ok.glob,ok.blt,hC,λx y c e1 e2=>ok.inj x y c (J x c e1) (J y c e2),λx hx=>?_,λx c hx _=>(nomatch hx),ok.hd,ok.frames,.inl rfl,λb L=>?_,I.bs,Q0h ok.iN I.sz,λb o e L=>?_,λb L z=>?_,I.stack,I.pF⟩,
  rfl,I.bare,Un.kept U,⟨m,hn,λi x v e1 e2 e3=>?_⟩,λx c e=>?_,fresh C hC,λx c e=>?_,λp hp=>?_,I.hok.kept U,?_⟩
 . have hm:=S.freeOf (x:=x) hx;obtain⟨c,e⟩:=ok.has x (S.free _ hm rfl);exact⟨c,by rw[show(fY X own scope cl C fp s H).env.cells=cl from rfl,Y x hm];exact e⟩
 . refine⟨Q0c (Q0g (af b L) hC),λx c e z=>?_⟩;exact(hf b L).2.2.2.2.1 x c (J x c e) z
 . rcases(hf b L).2.2.2.1 with z|z
   . exact ok.kg b o e z
   . exact absurd (Q0g (Q03 e) (Q0h ok.iN z)) (Q0t _)
 . rcases List.mem_cons.mp (I.l_ b z) with q|q
   . exact(hf b L).2.1 q
   . exact(hf b L).2.2.1 q
 . obtain⟨hk,ah⟩:=wX e2
   have aa:X.N[i - own.length]? =some x:=by
    have e1:(own++X.N)[i]? =some x:=e1;rw[Q0z hk] at e1;exact e1
   have ai:x∈X.N:=Q0w aa
   have ab:(relabel scope X.env).names.lookup x=some .cell\/(relabel scope X.env).names.lookup x=some .free:=by
    rcases e3 with q|q
    . exact absurd q (S.B8 ai)
    . exact q
   have hm:=S.freeOf ab;have ac:=S.free _ hm rfl;obtain⟨mX,al,aj⟩:=I.loc;obtain⟨u,r,lk⟩:=aj _ x v aa ah (.inr ac);refine⟨u,r,.inr ⟨ab,?_⟩⟩;rcases lk with⟨q,_⟩|⟨_,c,ec,hc⟩
   . rcases ac with z|z
     . rw[z] at q;cases q
     . rw[z] at q;cases q
   . obtain⟨o,ho,hd⟩:=hc;exact⟨c,(Y x hm).trans ec,o,U _ _ ho,hd⟩
 . obtain⟨v,o,ho,hd⟩:=I.cell x c (J x c e);exact⟨v,o,U _ _ ho,hd⟩
 . exact I.gM x c (J x c e)
 . have e:p=(D,gP us n):=by
    have hp:p∈([]++[(D,gP us n)]:List (Addr × Obj)):=hp;simpa using hp
   subst e
   exact⟨ae,fresh D hD,ag,la D hD,λv z=>by
    have z:Data.seq us.toArray n=Data.cell v:=z
    cases z⟩
 . show _=(own++X.N).length;rw[Q08,Q08,Q1c,I.len]
theorem Inv.unblock {pins:List (Addr × Obj)}{σ aa:St}{H H3:Hp}{s s3:Shared}{fp:List Addr}{cl:List (Str × Addr)}{C D:Addr}{h':Heap}{us:List Value}{n:Nat}{ys:List V}{pl:List (Addr × Obj)}(I:Inv X pins σ H s)
 (hf:∀b∈fp,fV X pins H b) (J:Inv (fY X own scope cl C fp s H) pl aa H3 s3) (ab:(D,gP us n)∈pl) (hC:s.heap.objs.size<=C) (hD:s.heap.objs.size<=D) (ac:D≠C)
 (r:Vals ys us) (hz:ys.length<=sizeLine) (hs:Heap.SameBut C s3.heap h'):Inv X pins σ (upd H3 D (.lst ys)) { s3 with heap:=h' }/\H3 D=none:=by
 obtain⟨eD,Y,_,_,_⟩:=J.pin (D,gP us n) (Q01 _ ab);have nC:H3 C=none:=J.free;have kC:∀b o,b≠C->s3.heap.get? b=some o->h'.get? b=some o:=λb o L e=>(hs.2 b L).trans e;refine⟨I.call' (ch:=fp) J.os ⟨λb o e nb L U=>?_,λb o e nb L U=>?_,λb o e nb U=>?_,λb o e U=>?_,λb xs e=>?_,λb o u e=>?_,λb ps e=>?_⟩ (λb o e=>?_) J.bare (λb L=>?_),Y⟩
 . exact kC b o (Q0c (Q0g (Q03 e) hC)) (J.base.keep b o e nb L U)
 . obtain⟨sl,e1⟩:=J.base.slot b o e nb L U;exact⟨sl,kC b _ (Q0c (Q0g (Q03 e) hC)) e1⟩
 . rw[dh (Q0c (Q0g (Q03 e) hD))];exact J.base.free b o e nb U
 . obtain⟨o',e1⟩:=J.base.there b o e U;exact⟨o',kC b _ (Q0c (Q0g (Q03 e) hC)) e1⟩
 . have q:=J.base.tups b xs e;rw[dh (dN q Y)];exact q
 . have q:=J.base.iz b o u e;rw[dh (dN q Y)];exact q
 . obtain⟨mo,q⟩:=J.base.iM b ps e;exact⟨mo,by rw[dh (dN q Y)];exact q⟩
 . by_cases L:b=D
   . subst L;rw[de] at e;cases e;exact⟨hz,us,n,r,kC b _ ac eD⟩
   . rw[dh L] at e;refine(J.hok b o e).stay (λc v hc q=>kC c v ?_ q) (λc q=>by rw[dh (dN q Y)];exact q) λc xs q=>by rw[dh (dN q Y)];exact q
     rcases hc with z|z
     . rw[z];exact dN e nC
     . exact dN z nC
 . obtain⟨_,f1,_,f3,f4,f5⟩:=hf b L;exact⟨f3,f1,f4,f5⟩
theorem wY {tg iter aq:Expr}{ar:List Expr}{pos:Pos}{g:TG}{tt:TT}{te:TE}{pins:List (Addr × Obj)}{σ:St}{H2:Hp}{L:Shared}{it:Addr}{fp:List Addr}{tn:Nat->Heap->Prop}{J:It}{cl:List (Str × Addr)}{Fin:List V->Hp->Prop}{W:Nat->Nat->List V->Hp->Prop}{m0:Nat}
 {RR:Value->Addr->Result->Shared->Prop} (hc:X.calm=true) (S:g8 X own scope) (ah:∀x c,cl.lookup x=some c->X.env.cells.lookup x=some c) (aG:∀x,(x,NameKind.free)∈scope.names->cl.lookup x=X.env.cells.lookup x)
 (I2:Inv X pins σ H2 L) (T:Turn X.prog X.w X.K tg J fp it tn) (ax:tn 0 L.heap) (f2:∀b∈fp,fV X pins H2 b) (w0:W 0 m0 [] H2)
 (turn:∀i m ys H,W i m ys H->(J.stop i H/\Fin ys H)\/
   (J.go i H/\ys.length<sizeLine/\∀x H',J.jl i H x H'->g x (List.replicate own.length none++σ) H' λau H2=>au.drop own.length=σ/\
     tt au H2 λb H3=>if b=true then te au H3 λy H4=>∃m',m'<m/\W (i+1) m' (ys++[y]) H4 else ∃m',m'<m/\W (i+1) m' ys H3))
 (hg:∀cl C fp ac ae,PG (fY X own scope cl C fp ac ae) tg g) (ht:∀cl C fp ac ae,mq (fY X own scope cl C fp ac ae) ar tt) (he:∀cl C fp ac ae,PE (fY X own scope cl C fp ac ae) aq te)
 (aK:∀(C D:Addr) (s5:Shared) (H5:Hp) (ys:List V) (us:List Value) (k:Nat),L.heap.objs.size<=C->L.heap.objs.size<=D->D≠C->Inv (fY X own scope cl C fp L H2) [(D,gP us k)] (List.replicate own.length none++σ) H5 s5->Vals ys us->ys.length<=sizeLine->Fin ys H5->RR (.ref D) C (.ok .next) s5):
 wpAny (model X.prog X.w) X.A (newList []) (λay af=>wpAny (model X.prog X.w) X.A (newFunctionEnv scope X.env.globals cl [] X.env.qual none .none (some X.env)) (λak aH=>
  codeAny (model X.prog X.w) X.A (.compStart (.ListComp aq [⟨tg,iter,ar,0⟩] scope pos) 0 (.ref it) ay { ak with scope:=relabel scope X.env }) (RR ay ak.locals) aH) X.xe af) X.xe L:=by
 have aj:∀b∈fp,b<L.heap.objs.size:=λb U=>by
  obtain⟨o,e,_⟩:=T.obj _ _ ax b U;exact Q03 e
 refine wpAny_newObj_type (wpAny_newFunctionEnv S.cell (by intro y hy;simp at hy) (λh₁ aa Y=>?_) S.kind);dsimp only at aa Y ⊢;generalize hG:L.heap.push { cls:=.type "list",dict:=none,data:=.seq ([]:List Value).toArray }=G at aa Y ⊢;have az:G.objs.size=L.heap.objs.size+1:=by rw[<-hG,Q1g]
 have hC:L.heap.objs.size<=G.objs.size:=by rw[az];exact Q0l _
 have av:L.heap.objs.size≠G.objs.size:=by rw[az];exact Q0c (Q1m _)
 have aA:∀b o,L.heap.get? b=some o->h₁.get? b=some o:=λb o e=>
  Y.extBut b o (Q0c (Q0g (Q03 e) hC)) (Q07 _ (hG ▸ Q07 _ e))
 have aI:h₁.get? L.heap.objs.size=some (gP [] 0):=Y.extBut _ _ av (Q07 _ (hG ▸ Q0i _ rfl));have I3:=I2.block (cl:=cl) (t':=L.toks+([]:List (Str × Value)).length) S f2 aj ah aG hC (Q00 _) av aa aA aI;have aB:tn 0 h₁:=T.keep _ _ _ ax λb _ o e=>aA b o e;have aL:∀b∈fp,H2 b=none:=λb U=>(f2 b U).1
 have ai:∀{H':Hp} {us:List Value} {n:Nat},(∀b∈fp,H' b=none)->∀b∈fp,fV (fY X own scope cl G.objs.size fp L H2) [(L.heap.objs.size,gP us n)] H' b:=λ{H' us n} hn b U=>by
  refine⟨hn b U,Q0c (Q0g (aj b U) hC),λz=>?_,.inl U,λx c e=>(f2 b U).2.2.2.2.1 x c (ah x c e),λp hp=>?_⟩
  . rcases List.mem_cons.mp (I2.l_ b z) with q|q
    . exact(f2 b U).2.1 q
    . exact(f2 b U).2.2.1 q
  . have hp:p∈([]++[(L.heap.objs.size,gP us n)]:List (Addr × Obj)):=hp;have e:p=(L.heap.objs.size,gP us n):=by simpa using hp
    subst e;exact Q0d (aj b U)
 have al:∀af:Shared,af={ L with heap:=h₁,toks:=L.toks+([]:List (Str × Value)).length }->
  codeAny (model X.prog X.w) X.A (.compLoop (.ListComp aq [⟨tg,iter,ar,0⟩] scope pos) 0 (.ref it) (.ref L.heap.objs.size) (compEnvC scope cl G.objs.size X.env))
   (RR (.ref L.heap.objs.size) G.objs.size) af:=by
  rintro af rfl
  refine B7 (λn s'=>∃i ys us k H',Inv (fY X own scope cl G.objs.size fp L H2) [(L.heap.objs.size,gP us k)] (List.replicate own.length none++σ) H' s'/\Vals ys us/\ys.length<=sizeLine/\tn i s'.heap/\(∀b∈fp,H' b=none)/\W i n ys H')
   ?_ m0 ⟨0,[],[],0,H2,I3,.nil,Q06 _,aB,aL,w0⟩
  intro n s4 zq;obtain⟨i,ys,us,k,H4,I4,r4,z4,aC,aD,w4⟩:=zq;rcases turn i n ys H4 w4 with⟨stop,qn⟩|⟨go,aM,step⟩
  . refine dH (T.done (fY X own scope cl G.objs.size fp L H2) rfl rfl rfl hc i _ s4 _ H4 (λ_ _=>False) I4 (ai aD) aC stop) λr s5 ⟨hr,I5⟩=>?_;subst hr;exact aK G.objs.size L.heap.objs.size s5 H4 ys us k hC (Q00 _) av I5 r4 z4 qn
  . refine dH (T.item (fY X own scope cl G.objs.size fp L H2) rfl rfl rfl hc i _ s4 _ H4 (λ_ _=>False) I4 (ai aD) aC go) λr s5 ⟨u,hr,h5⟩=>?_;subst hr;refine dH h5 λ_ s6 zq=>?_;obtain⟨x,H6,I6,r6,y6,ag,aN⟩:=zq;have aO:=I6.pinned (ai aN) (T.obj _ _ ag);refine dH (hg cl G.objs.size fp L H2 _ s6 _ H6 x u _ aO r6 (step x H6 y6)) λ_ s7 zq=>?_;obtain⟨ab,H7,I7,d7,q7⟩:=zq;refine dH (ht cl G.objs.size fp L H2 _ s7 ab H7 _ I7 q7) λb s8 ⟨H8,I8,q8⟩=>?_;have am:(List.replicate own.length none++σ).length=ab.length:=by rw[I7.len,<-I6.len]
    have an:∀(j:Nat) v,(List.replicate own.length none++σ)[j]? =some (some v)->ab[j]? =some (some v):=λj v e=>by
     obtain⟨hk,e'⟩:=wX e;rw[<-d7,List.getElem?_drop] at e';rw[<-e'];congr 1;omega
    cases b with
    |false=>
     have q8:∃m',m'<n/\W (i+1) m' ys H8:=q8;obtain⟨m',hm,w8⟩:=q8;refine⟨m',hm,i+1,ys,us,k,H8,I8.jL.weak am an,r4,z4,T.keep _ _ _ ag λb U o e=>?_,λb U=>?_,w8⟩
     . exact(I8.pin (b,o) (Q01 _ (Q01 _ (mj U e)))).1
     . obtain⟨o,e,d⟩:=T.obj _ _ ag b U;exact(I8.pin (b,o) (Q01 _ (Q01 _ (mj U e)))).2.1
    |true=>
     have q8:te ab H8 λy H9=>∃m',m'<n/\W (i+1) m' (ys++[y]) H9:=q8;show wpAny _ _ _ _ _ _;refine dH (he cl G.objs.size fp L H2 _ s8 ab H8 _ I8 q8) λyv s9 zq=>?_;obtain⟨y,H9,I9,r9,m',hm,w9⟩:=zq;obtain⟨eD,nD,aE,aP,_⟩:=I9.pin (L.heap.objs.size,gP us k) (Q01 _ (Q0f _ Q0a));have hl:=r4.length;refine append_at (hsz:=by rw[Q0b,<-hl];exact z4) eD λaw ao aJ=>?_
     have ap:∀b∈fp,∀o,s6.heap.get? b=some o->s9.heap.get? b=some o/\H9 b=none:=λb U o e=>by
      have q:=I9.pin (b,o) (Q01 _ (Q01 _ (mj U e)));exact⟨q.1,q.2.1⟩
     have aQ:∀b∈fp,b≠L.heap.objs.size:=λb U=>Q0c (aj b U);have aT:Inv (fY X own scope cl G.objs.size fp L H2) [] ab H9 s9:=I9.ki λp hp=>(nomatch hp)
     have aU:Inv (fY X own scope cl G.objs.size fp L H2) [] ab H9 { s9 with heap:=aw }:=
      aT.turned (t':=s9.toks) (λb o U e=>ao.extBut b o U e) nD aE (.inr (Q00 _)) (λx c e z=>by
        obtain⟨v,q⟩:=I2.cell x c (ah x c e);exact absurd q.lt (by rw[z];exact Q0t _)) λp hp=>(nomatch hp)
     have aV:Inv (fY X own scope cl G.objs.size fp L H2) [(L.heap.objs.size,gP (us++[yv]) (k+1))] ab H9 { s9 with heap:=aw }:=aU.ki λp hp=>by
      have e:p=(L.heap.objs.size,gP (us++[yv]) (k+1)):=by simpa using hp
      subst e
      refine⟨?_,nD,aE,aP,λv z=>by
       have z:Data.seq (us++[yv]).toArray (k+1)=Data.cell v:=z
       cases z⟩
      show aw.get? _=some { cls:=.type "list",data:=.seq (us++[yv]).toArray (k+1) };rw[<-List.push_toArray];exact aJ
     refine⟨m',hm,i+1,ys++[y],us++[yv],k+1,H9,aV.weak am an,r4.append (.cons r9 .nil),by rw[Q08,Q13];exact aM,T.keep _ _ _ ag λb U o e=>ao.extBut b o (aQ b U) (ap b U o e).1,λb U=>?_,w9⟩;obtain⟨o,e,d⟩:=T.obj _ _ ag b U;exact(ap b U o e).2
 exact codeAny_compStart_list (al _ rfl) (T.self _ 0 _ _ _ aB (al _ rfl))
theorem gH {tg iter aa:Expr}{ab:List Expr}{pos:Pos}{wi:TI}{g:TG}{tt:TT}{te:TE}(hc:X.calm=true)(S:g8 X own scope)(hi:PI X tg iter wi)
 (hg:∀cl C fp L U,PG (fY X own scope cl C fp L U) tg g) (ht:∀cl C fp L U,mq (fY X own scope cl C fp L U) ab tt)
 (he:∀cl C fp L U,PE (fY X own scope cl C fp L U) aa te) (hs:∀x,foldedSetIterable iter X.env x=pure x:=by intro _;rfl):
 PE X (.ListComp aa [⟨tg,iter,ab,0⟩] scope pos) (ls own.length wi g tt te):=by
 intro pins s σ H Q I h;obtain⟨cl,Y,ac,ae⟩:=qd (S.cells I);rw[eval_ListComp];refine wpAny_comprehension_free (use:=none) rfl hs Y S.kind S.names ?_;refine dH (hi pins s σ H _ I h) λv s1 h1=>dH h1 λak s2 h2=>?_;obtain⟨it,fp,tn,J,H2,af,I2,T,ag,f2,W,⟨m0,w0⟩,turn⟩:=h2;subst af;refine wY (RR:=λah C=>compPost (model X.prog X.w) X.A X.xe none (EP X pins σ Q) ah C) hc S ac ae I2 T ag f2 w0 turn hg ht he ?_;intro C D s5 H5 ys us k hC hD ai I5 r5 z5 fin;obtain⟨m5,n5,_⟩:=id I5.loc;refine⟨m5,n5,λh' aj=>?_⟩;obtain⟨I6,nD⟩:=I2.unblock f2 I5 Q0a hC hD ai r5 z5 aj;exact⟨.ref D,_,I6,rfl,fin _ nD⟩
theorem lu {i:Nat}{y:Str}{py Y:Pos}{tg iter aa:Expr}{ab:List Expr}{pos:Pos}{wi:TI}{g:TG}{tt:TT}{te:TE}(hN:X.N.Nodup)(hy:X.N[i]? =some y)(hL:Loc X.env.scope y)(hc:X.calm=true)(S:g8 X own scope)(hi:PI X tg iter wi)
 (hg:∀cl C fp L U,PG (fY X own scope cl C fp L U) tg g) (ht:∀cl C fp L U,mq (fY X own scope cl C fp L U) ab tt)
 (he:∀cl C fp L U,PE (fY X own scope cl C fp L U) aa te) (hf:X.fn y=true\/X.env.scope.names.lookup y=some .local:=by first|exact .inl rfl|exact .inr rfl|assumption)
 (ak:swapsWith (.ListComp aa [⟨tg,iter,ab,0⟩] scope pos) (some (.Name y py)) Y.line X.env=pure true:=by rfl) (hs:∀x,foldedSetIterable iter X.env x=pure x:=by intro _;rfl):
 PS X (.Assign [.Name y py] (.ListComp aa [⟨tg,iter,ab,0⟩] scope pos) Y) (iO (ls own.length wi g tt te) (dU i)):=by
 intro pins s σ H E I h;obtain⟨cl,ac,ah,ai⟩:=qd (S.cells I);rw[exec_Assign_Name_used _ _ _ _ ak];refine Q0 (wpAny_standAt (Q0 ?_));show wpAny _ _ (do let _ <-comprehension _ scope X.env _ (newList []) false (eval iter X.env) (some (assign (.Name y py) X.env))) _ _ s
 refine Q0 (dH (wpAny_comprehension_free (use:=some (assign (.Name y py) X.env)) (Q:=λ_ s'=>SP X pins E .next s') rfl hs ac S.kind S.names
  (dH (hi pins s σ H _ I h) λv s1 h1=>dH h1 λaq s2 h2=>?_)) λ_ s' hq=>Q02 (Q02 hq))
 obtain⟨it,fp,tn,J,H2,al,I2,T,am,f2,W,⟨m0,w0⟩,turn⟩:=h2;subst al;refine wY (RR:=λan C=>compPost (model X.prog X.w) X.A X.xe (some (assign (.Name y py) X.env)) (λ_ s'=>SP X pins E .next s') an C) hc S ah ai I2 T am f2 w0 turn hg ht he ?_;intro C D s5 H5 ys us k hC hD af I5 r5 z5 fin;obtain⟨m5,n5,_⟩:=id I5.loc;obtain⟨I6,nD⟩:=I2.unblock f2 I5 Q0a hC hD af r5 z5 (Heap.SameBut.refl C s5.heap);obtain⟨oC,es,ep,eC,dC,rC⟩:=id n5;have nC:upd H5 D (.lst ys) C=none:=by rw[dh (Ne.symm af)];exact I5.free
 have ag:C≠X.env.locals:=Q0d (Q0g I2.lt hC)
 have ae:∀x c,X.env.cells.lookup x=some c->c≠C:=λx c e z=>by
  obtain⟨v,q⟩:=I2.cell x c e;exact absurd q.lt (by rw[z];exact Nat.not_lt.mpr hC)
 have aj:∀p∈X.pn++pins,p.1≠C:=λp hp z=>by
  have:=Q03 (I2.pin p hp).1;rw[z] at this;exact absurd this (Nat.not_lt.mpr hC)
 have I7:Inv X (pins++[(C,oC)]) σ (upd H5 D (.lst ys)) s5:=by
  refine I6.ki λp hp=>?_;rcases List.mem_append.mp hp with z|z
  . exact I6.pin p (Q01 _ z)
  . have e:p=(C,oC):=by simpa using z
    subst e
    exact⟨eC,nC,ag,I2.la hC,λv z=>by
     have z:oC.data=Data.cell v:=z;rw[dC] at z;cases z⟩
 show wpAny _ _ (assign (.Name y py) X.env (.ref D)) _ _ s5;refine wpAny_assign_Name (pG (v:=.ref D) I7 hN hy hL rfl (λs8 I8=>?_) hf);obtain⟨ao,ar,_⟩:=I8.pin (C,oC) (Q01 _ (Q01 _ Q0a));refine⟨_,⟨oC,es,ep,ao,dC,rC⟩,λh' ap=>?_⟩
 have I9:Inv X pins (σ.set i (some (.ref D))) (upd H5 D (.lst ys)) { s8 with heap:=h' }:=
  I8.jL.turned (t':=s8.toks) (λb o hb e=>(ap.2 b hb).trans e) nC ag (.inr (Q0h I2.sz hC)) ae aj
 exact⟨_,_,I9,fin _ nD⟩
end
section
variable {X:Cx}
theorem kr {e:Expr}:PE X e (λ_ _ _=>False):=λ_ _ _ _ _ _ h=>h.elim
theorem B9 {e:Expr}:PT X e (λ_ _ _=>False):=λ_ _ _ _ _ _ h=>h.elim
theorem d8:ig X (.builtin "isinstance") (λxs H Q=>∃x T t b,xs=[x,.ty T]/\ik X.K H x t/\W.kitOne X.K t (.type T)=some b/\Q (.bl b) H):=by
 intro pins s σ H xs U Q I r h;obtain⟨x,T,t,b,rfl,ty,e,q⟩:=h;obtain⟨u,c,rfl,J,L⟩:=vals2 r
 cases L;exact Ba I J ty e λtk=>⟨.bl b,H,I.tok tk,rfl,q⟩
theorem wZ:∀{ss:List Str}{vs:List Value},Vals (ss.map V.str) vs->StrsAre vs ss
 |[],_,r=>by cases r;exact .nil
 |y::r,_,h=>by
  cases h with
  |cons a b=>
   obtain⟨t,e⟩:=a;subst e;exact .cons y t (wZ b)
theorem w5:∀{vs:List Value}{ss:List Str},StrsAre vs ss->Vals (ss.map V.str) vs
 |_,_,.nil=>.nil
 |_,_,.cons y t h=>.cons ⟨t,rfl⟩ (w5 h)
theorem B_:ig X (.builtin "sorted") (λxs H Q=>∃a ss,xs=[.ref a]/\dg X.K H a (ss.map V.str)/\ss.length<64/\
 ∀p J,H p=none->J.Perm ss->sortedS J=true->Q (.ref p) (upd H p (.lst (J.map V.str)))):=by
 intro pins s σ H xs us Q I r h;obtain⟨a,ss,rfl,Y,aa,q⟩:=h;obtain⟨u,rfl,ru⟩:=vals1 r
 cases ru;obtain⟨L,U,pl,hz⟩:=I.list Y;have hl:L.length=ss.length:=by rw[<-U.length,Q09]
 refine sorted_strs pl.isList (wZ U) (by omega) λout J h1 h2 h3=>?_;obtain⟨e,he⟩:=sortedAll_at s.heap L out;refine⟨.ref (s.heap.objs.size+1),upd H (s.heap.objs.size+1) (.lst (J.map V.str)),I.laid (t':=s.toks) (λ_ _=>sortedAll_old) (Q0l _) ?_,rfl,q _ J (I.hok.fresh (Q0l _)) h2 h3⟩;refine⟨?_,out.toList,e,w5 h1,he⟩;rw[Q09,h2.length_eq];have:ss.length<=1000:=by omega
 exact Q0v (fX this)
noncomputable def kx (J:List Value) (i:Nat):Bool:=match J[i]? with
 |some (.bool b)=>b
 |_=>false
theorem Ca:∀{bs:List Bool}{J:List Value},Vals (bs.map V.bl) J->(List.range J.length).all (kx J)=bs.all id:=by
 intro bs J r
 have key:∀i,i<bs.length->kx J i=bs.getD i false:=λi hi=>by
  have e:(bs.map V.bl)[i]? =some (.bl bs[i]):=by rw[Q0p,Q05 hi];rfl
  obtain⟨u,U,Y⟩:=r.get e
  cases Y;unfold kx;rw[U,Q0j,Q05 hi];rfl
 have hl:J.length=bs.length:=by rw[<-r.length,Q09]
 rw[hl,Bool.eq_iff_iff,Q18,Q18];constructor
 . intro h b hb;obtain⟨i,hi,e⟩:=Q19 hb;have q:=h i (List.mem_range.mpr hi);rw[key i hi,Q0j,Q05 hi,Q2p,e] at q;exact q
 . intro h i hi;have L:=List.mem_range.mp hi;rw[key i L,Q0j,Q05 L,Q2p];exact h _ (Q14 L)
theorem mr (hc:X.calm=true):ig X (.builtin "all") (λxs H Q=>∃(a:Addr) (bs:List Bool),xs=[.ref a]/\dg X.K H a (bs.map V.bl)/\Q (.bl (bs.all id)) H):=by
 intro pins s σ H xs us Q I r h;obtain⟨a,bs,rfl,hq,q⟩:=h;obtain⟨u,rfl,ru⟩:=vals1 r
 cases ru;obtain⟨J,Y,pl,hz⟩:=I.list hq;have aa:a<s.heap.objs.size:=by obtain⟨_,e,_⟩:=pl.isList;exact Q03 e
 refine call_all_walk (wpAny_pyIter_list pl.isList ?_);refine⟨s.heap.objs.size,_,_,_,_,_,kx J,rfl,Walks.list (show X.A.in1.handled=none from I.ok.hd hc) s.heap.objs.size a (Q0c aa) J.toArray,⟨⟨_,Q0i _ rfl,rfl,rfl⟩,pl.isList.push _⟩,λi v s' Q' E' hP hQ=>?_,λh' tk hk=>?_⟩
 . have e:J[i]? =some v:=by simpa using hP
   have hi:i<J.length:=(List.getElem?_eq_some_iff.mp e).1;have hb:i<(bs.map V.bl).length:=by rw[Y.length];exact hi
   obtain⟨w',ew,L⟩:=Y.get (Q05 hb);rw[e] at ew;cases ew;rw[List.getElem_map] at L
   cases L;refine wpAny_truthy_bool ?_;have U:kx J i=bs[i]'(by simpa using hb):=by unfold kx;rw[e]
   rw[U] at hQ;exact hQ
 . have e:(List.range J.toArray.size).all (kx J)=bs.all id:=by rw[Q0b];exact Ca Y
   rw[e];have ns:H s.heap.objs.size=none:=I.hok.fresh (Q00 _);refine⟨.bl (bs.all id),H,I.kept (h':=h') (t':=tk) λb o U=>hk b o ?_ (Q07 _ U),rfl,q⟩;intro hm;have:b=s.heap.objs.size:=by simpa using hm
   exact absurd (Q03 U) (by rw[this];exact Q0t _)
noncomputable def Ite (K:W.Frag) (a:Addr):It:=
 ⟨λi H=>∃xs x,dg K H a xs/\xs[i]? =some x,
  λi H x H'=>∃p y,H p=none/\x=.ref p/\(∀xs,dg K H a xs->xs[i]? =some y)/\H'=upd H p (.tup [.int i,y]),
  λi H=>∃xs,dg K H a xs/\xs.length<=i⟩
theorem Cb {P:Program}{w:World}{K:W.Frag}{ac:List Expr}{k:Nat}{tpos:Pos}{a e it:Addr}(aa:e≠it):
 Turn P w K (.Tuple ac k tpos) (Ite K a) [e,it] e (λi h=>∃L,IsEnum h e it (i:Int) L/\h.IsListIter it a i) where
 mem:=by simp
 obj:=λi h st b J=>by
  obtain⟨L,h1,h2⟩:=st;have J:b=e\/b=it:=by simpa using J
  rcases J with rfl|rfl
  . exact⟨_,h1,λv z=>by
     have z:Data.fields _=Data.cell v:=z
     cases z⟩
  . obtain⟨o,q,c,d⟩:=h2;exact⟨o,q,λv z=>by rw[d] at z;cases z⟩
 keep:=λi h h' st k=>by
  obtain⟨L,h1,h2⟩:=st;exact⟨L,k e (by simp) _ h1,h2.at λo q=>k it (by simp) o q⟩
 item:=by
  intro X hP hw hK hc i pins s σ H E I hf st hg;subst hP hw hK;obtain⟨L,h1,h2⟩:=st;obtain⟨xs,x,hq,hx⟩:=hg;obtain⟨ae,rv,p,hz⟩:=I.list hq;obtain⟨u,hu,ru⟩:=rv.get hx;obtain⟨e0,e1,e2,e3,e4,e5⟩:=hf e (by simp);obtain⟨f0,f1,f2,f3,f4,f5⟩:=hf it (by simp);have Y:H s.heap.objs.size=none:=I.hok.fresh (Q00 _);refine wpAny_pyNext_enum_item h1 h2 p.isList (x:=u) (by simpa using hu) aa λh' q1 q2 q3 q4 q5=>?_;refine⟨_,rfl,wpAny_letOwnedTupleGo_enum (s:={ s with heap:=h',toks:=s.toks+1 }) q1 λU g1 g2=>?_⟩;have af:∀b o,s.heap.get? b=some o->b≠s.heap.objs.size:=λb o q=>Q0c (Q03 q);have kk:∀b o,b≠e->b≠it->s.heap.get? b=some o->U.get? b=some o:=λb o n1 n2 q=>g2.extBut b o n1 (q5 b o n1 n2 q);have pe:s.heap.objs.size≠e:=Q0d (Q03 h1);have tup:U.get? s.heap.objs.size=some { cls:=.type "tuple",data:=.seq #[.int i s.toks,u] }:=g2.extBut _ _ pe q3
  have I1:Inv X pins σ (upd H s.heap.objs.size (.tup [.int i,x])) { s with heap:=U,toks:=s.toks+1 }:=by
   refine I.step (g':=s.gens) (d':=s.drawn) (ch:=[e,it]) (λb J=>?_) (λb o _ _ hc q _=>?_) (λb o _ _ hc q _=>?_) (λb o _ q n=>?_) (λb o hc q=>?_) (λb ys q=>?_) (λb o v q=>?_) (λb ps q=>?_) (λm hm=>?_) (λb o q=>?_) I.bare
   . have J:b=e\/b=it:=by simpa using J
     rcases J with rfl|rfl
     . exact⟨e3,e1,e4,e5⟩
     . exact⟨f3,f1,f4,f5⟩
   . exact kk b o (λz=>hc (by simp[z])) (λz=>hc (by simp[z])) q
   . exact⟨o.slots,kk b o (λz=>hc (by simp[z])) (λz=>hc (by simp[z])) q⟩
   . rw[dh (af b o q)];exact n
   . exact⟨o,kk b o (λz=>hc (by simp[z])) (λz=>hc (by simp[z])) q⟩
   . rw[dh (dN q Y)];exact q
   . rw[dh (dN q Y)];exact q
   . exact⟨#[],by rw[dh (dN q Y),q];simp⟩
   . obtain⟨o,es,ep,ho,r⟩:=hm;exact⟨o,es,ep,kk _ o (Ne.symm e1) (Ne.symm f1) ho,r⟩
   . by_cases J:b=s.heap.objs.size
     . subst J;rw[de] at q;cases q;refine⟨pq,[.int i s.toks,u],.cons ⟨_,rfl⟩ (.cons ru .nil),?_⟩;exact⟨_,tup,rfl,_,rfl⟩
     . rw[dh J] at q;refine(I.hok b o q).stay (λc v ab z=>kk c v ?_ ?_ z) (λc z=>by rw[dh (dN z Y)];exact z) λc ys z=>by rw[dh (dN z Y)];exact z
       . rcases ab with z|z
         . rw[z];exact dN q e0
         . exact dN z e0
       . rcases ab with z|z
         . rw[z];exact dN q f0
         . exact dN z f0
  refine⟨.ref s.heap.objs.size,_,I1,rfl,⟨s.heap.objs.size,x,Y,rfl,λys hy=>by rw[I.nH hy hq];exact hx,rfl⟩,⟨u,?_,q2.extBut g2.extBut (Ne.symm aa)⟩,λb J=>?_⟩
  . have ei:((i+1:Nat):Int)=(i:Int)+1:=by omega
    show IsEnum U e it ((i+1:Nat):Int) u;rw[ei];exact g1
  . have ag:b=e\/b=it:=by simpa using J
    have ah:b<s.heap.objs.size:=by
     rcases ag with rfl|rfl
     . exact Q03 h1
     . obtain⟨o,q,_⟩:=h2;exact Q03 q
    rw[dh (Q0c ah)];exact(hf b J).1
 done:=by
  intro X hP hw hK hc i pins s σ H E I hf st hg;subst hP hw hK;obtain⟨L,h1,h2⟩:=st;obtain⟨xs,hq,hx⟩:=hg;obtain⟨ae,rv,p,hz⟩:=I.list hq;obtain⟨f0,f1,f2,f3,f4,f5⟩:=hf it (by simp);have hl:=rv.length;exact wpAny_pyNext_enum_end (I.ok.hd hc) h1 h2 p.isList (by simp;omega) λh' eb=>⟨rfl,I.turned (t':=s.toks) (λb o J q=>eb b o J q) f0 f1 f3 f4 f5⟩
 self:=λA i s Q E st q=>by
  obtain⟨L,h1,_⟩:=st;exact wpAny_pyIter_enum h1 q
def Cc (K:W.Frag) (ta:TA):TI:=λσ H R=>ta σ H λvs H1=>∃a,vs=[.ref a]/\(∃xs,dg K H1 a xs)/\R (Ite K a) H1
theorem Cd:bootBuiltins "enumerate"=some (.type "enumerate"):=by decide +kernel
theorem mv {a:Expr}{ta:TA}{p pos tpos:Pos}{U:List Expr}{k:Nat}(hg:Gl X "enumerate")(hm:X.mg "enumerate"=none)(ha:PA X [a] ta)(hs:starEach [a] X.env=[(false,eval a X.env)]:=by rfl):
 PI X (.Tuple U k tpos) (.Call (.Name "enumerate" p) [a] [] pos) (Cc X.K ta):=by
 intro pins s σ H R I h;refine Call_ (iZ I hg hm Cd (PyProof.Rows.callWith_type1 (dH (ha pos pins s σ H _ I h) λus J zq=>?_) hs rfl));obtain⟨vs,H1,Y,r1,q1⟩:=zq;obtain⟨l,e,⟨xs,hq⟩,q⟩:=q1;subst e;obtain⟨u,rfl,ru⟩:=vals1 r1
 cases ru;obtain⟨aa,rv,pl,hz⟩:=Y.list hq;refine call_enumerate_list pl.isList λh' q1 q2 q3 q4=>?_;refine wpAny_pyIter_enum q1 ?_;have I2:Inv X pins σ H1 { J with heap:=h' }:=Y.kept (t':=J.toks) q4;refine⟨J.heap.objs.size+1,[J.heap.objs.size+1,J.heap.objs.size],_,_,H1,rfl,I2,Cb (Q0d (Q1m _)),⟨.none,q1,q2⟩,λb L=>?_,q⟩
 have L:J.heap.objs.size<=b:=by
  have L:b=J.heap.objs.size+1\/b=J.heap.objs.size:=by simpa using L
  rcases L with z|z
  . rw[z];exact Q0l _
  . rw[z];exact Q00 _
 exact Y.i3 L (Y.hok.fresh L)
theorem boot_zip:bootBuiltins "zip"=some (.type "zip"):=by decide +kernel
theorem Ce:fu X (binaryOp .Mult) (λx y H Q=>∃z i,x=.str z/\y=.int i/\MulOk z i/\Q (.str (Txt.mul z i)) H):=by
 intro pins s σ H x y v u Q I J L h;obtain⟨z,i,rfl,rfl,ok,q⟩:=h;obtain⟨t,rfl⟩:=J;obtain⟨t',rfl⟩:=L;exact SB.mul ok λU k=>⟨.str (Txt.mul z i),H,I.tok k,⟨_,rfl⟩,q⟩
end
theorem yes {σ:St}{H:Hp}{Q:Bool->Hp->Prop}(h:Q true H):fE σ H Q:=h
section
variable {K:W.Frag}{σ:St}{H:Hp}{Q:VK}{D:Ends}
theorem mw {i:Nat}{a b:Str}{T U:TS}(h:σ[i]? =some (some (.str a)))(J:decide (V.str a=V.str b)=true)(q:T D σ H):iA (iQ (dY jo (dE i) (tC (.str b)))) T U D σ H:=
 ⟨_,h,rfl,_,rfl,by rw[J];exact dM q⟩
theorem gQ {i:Nat}{a b:Str}{T U:TS}(h:σ[i]? =some (some (.str a)))(J:decide (V.str a=V.str b)=false)(q:U D σ H):iA (iQ (dY jo (dE i) (tC (.str b)))) T U D σ H:=
 ⟨_,h,rfl,_,rfl,by rw[J];exact dy q⟩
theorem jT {i:Nat}{p:Addr}{xs:List V}{a b:Str}{T U:TS}(h:σ[i]? =some (some (.ref p)))(h2:H p=some (.tup xs))(J:xs[0]? =some (.str a))(L:decide (V.str a=V.str b)=true)(q:T D σ H):
 iA (iQ (dY jo (dY (gO K) (dE i) (tC (.int 0))) (tC (.str b)))) T U D σ H:=
 ⟨_,h,p,xs,0,.str a,rfl,rfl,c8.of h2,fA (j:=0) J,rfl,_,rfl,by rw[L];exact dM q⟩
theorem fx {i:Nat}{p:Addr}{xs:List V}{a b:Str}{T U:TS}(h:σ[i]? =some (some (.ref p)))(h2:H p=some (.tup xs))(J:xs[0]? =some (.str a))(L:decide (V.str a=V.str b)=false)(q:U D σ H):
 iA (iQ (dY jo (dY (gO K) (dE i) (tC (.int 0))) (tC (.str b)))) T U D σ H:=
 ⟨_,h,p,xs,0,.str a,rfl,rfl,c8.of h2,fA (j:=0) J,rfl,_,rfl,by rw[L];exact dy q⟩
end
end L2
namespace L2
noncomputable def qf (own N:List Str) (scope sc:Scope):Bool:=
 scope.names.all (λy=>decide (y.2≠ .cell)) && scope.names.all (λy=>decide (y.2=.local->scope.names.lookup y.1=some .local)) &&
 scope.names.all (λy=>decide (y.2=.free->sc.names.lookup y.1=some .cell\/sc.names.lookup y.1=some .free)) && decide (own++N).Nodup && N.all λx=>decide (scope.names.lookup x≠some .local)
theorem g8.of {X:Cx}{own N:List Str}{scope sc:Scope}(J:X.env.scope=sc)(L:X.N=N)(k:scope.kind=.function)(c:qf own N scope sc=true):g8 X own scope:=by
 unfold qf at c;simp only[Bool.and_eq_true,Q18,decide_eq_true_eq] at c;obtain⟨⟨⟨⟨U,Y⟩,c3⟩,c4⟩,c5⟩:=c;exact⟨k,U,Y,λy hy hf=>by rw[show X.env.kindOf y.1=X.env.scope.names.lookup y.1 from rfl,J];exact c3 y hy hf,by rw[L];exact c4,by rw[L];exact c5⟩
end L2
namespace js
open W PyProof.Rows
noncomputable def d9 {α:Type}(f:Nat->Nat->Bool):KasT α->α
 | .ret a=>a
 | .ask i j k=>d9 f (k (f i j))
theorem lx {α J:Type}(f:Nat->Nat->Bool)(g:α->KasT J):∀t:KasT α,d9 f (t.bind g)=d9 f (g (d9 f t))
 | .ret _=>rfl
 | .ask i j k=>lx f g (k (f i j))
def Bn {α:Type}(n:Nat) (R:α->Prop):KasT α->Prop
 | .ret a=>R a
 | .ask i j k=>i<n/\j<n/\∀b,Bn n R (k b)
theorem Bn.bind {α J:Type}{n:Nat}{R:α->Prop}{S:J->Prop}{g:α->KasT J}:∀{t:KasT α},Bn n R t->(∀a,R a->Bn n S (g a))->Bn n S (t.bind g)
 | .ret a,h,k=>k a h
 | .ask i j q,h,k=>⟨h.1,h.2.1,λb=>Bn.bind (h.2.2 b) k⟩
theorem w6 {α:Type}{n:Nat}{R:α->Prop}{f:Nat->Nat->Bool}{J:Nat->Nat->(Bool->Shared->Prop)->Shared->Prop}{Q:α->Shared->Prop}{s:Shared}
 (h:∀i j (C:Bool->Shared->Prop),i<n->j<n->C (f i j) s->J i j C s):∀{t:KasT α},Bn n R t->Q (d9 f t) s->t.kasWp J Q s
 | .ret a,_,q=>q
 | .ask i j k,b,q=>h i j _ b.1 b.2.1 (w6 h (b.2.2 (f i j)) q)
def Lt (n:Nat) (p:Array Nat):Prop:=0<n/\∀x∈p,x<n
theorem Lt.at {n:Nat}{p:Array Nat}(h:Lt n p)(i:Nat):p.getD i 0<n:=by
 rw[Q1n]
 cases e:p[i]? with
 |none=>exact h.1
 |some x=>exact h.2 x (Array.mem_of_getElem? e)
theorem Lt.perm {n:Nat}{p q:Array Nat}(h:Lt n p)(hp:q.Perm p):Lt n q:=⟨h.1,λx J=>h.2 x (hp.mem_iff.mp J)⟩
theorem jt (p:Array Nat)(i j:Nat):(kas_rev p i j).Perm p:=mirror_perm _ _ _ _
theorem Cf (p:Array Nat)(i j:Nat):(kas_rev p i j).size=p.size:=mirror_size _ _ _ _
theorem qg {n:Nat}{p:Array Nat}(h:Lt n p):∀f m,Bn n (λ_=>True) (kas_asc p f m)
 |0,_=>trivial
 |f+1,m=>⟨h.at _,h.at _,λb=>by
   cases b with
   |true=>exact trivial
   |false=>exact qg h f (m+1)⟩
theorem og {n:Nat}:∀f (p:Array Nat) m q,Lt n p->Bn n (λr:Array Nat × Nat × Nat=>Lt n r.1) (kas_desc f p m q)
 |0,_,_,_,h=>h
 |f+1,p,m,q,h=>⟨h.at _,h.at _,λb=>by
   cases b with
   |true=>
    show Bn n _ (if q > 0 then kas_desc f (kas_rev p (m - (q+1)) m) (m+1) 0 else kas_desc f p (m+1) 0);split
    . exact og f _ _ _ (h.perm (jt _ _ _))
    . exact og f _ _ _ h
   |false=>
    refine⟨h.at _,h.at _,λd=>?_⟩
    cases d with
    |true=>exact h
    |false=>exact og f _ _ _ h⟩
theorem w_ {n m r:Nat}{p:Array Nat}(h:Lt n p):Bn n (λq:Nat × Array Nat=>Lt n q.2) (kas_tail3 m r p):=
 (qg (h.perm (jt _ _ _)) _ _).bind λ_ _=>h.perm (jt _ _ _)
theorem xa {n m r:Nat}{p:Array Nat}(h:Lt n p):Bn n (λq:Nat × Array Nat=>Lt n q.2) (kas_descPart m r p):=by
 refine(og _ _ _ _ h).bind λa J=>?_;split
 . exact w_ (J.perm (jt _ _ _))
 . exact w_ J
theorem Cg {n r:Nat}{p:Array Nat}(h:Lt n p):Bn n (λq:Nat × Array Nat=>Lt n q.2) (kas_count r p):=by
 refine(qg h _ _).bind λa _=>?_;split
 . exact h
 split
 . refine⟨h.at _,h.at _,λb=>?_⟩
   cases b with
   |true=>exact h
   |false=>exact xa (h.perm (jt _ _ _))
 . exact xa h
theorem qh {n k:Nat}{p:Array Nat}(h:Lt n p):∀f l r,Bn n (λ_=>True) (kas_place p k f l r)
 |0,_,_=>trivial
 |f+1,l,r=>by
  unfold kas_place;split
  . exact trivial
  . refine⟨h.at _,h.at _,λb=>?_⟩
    cases b with
    |true=>exact qh h f _ _
    |false=>exact qh h f _ _
theorem xb {n:Nat}:∀f (p:Array Nat) k,Lt n p->Bn n (λ_=>True) (kas_bin f p k)
 |0,_,_,_=>trivial
 |f+1,p,k,h=>(qh h _ _ _).bind λl _=>xb f _ _ (h.perm (bubble_perm _ _ _))
theorem Ci {n:Nat}(J:0<n):Bn n (λ_=>True) (kas_sort n):=by
 have h:Lt n (List.toArray (List.range n)):=⟨J,λx L=>by simpa using L⟩;refine(Cg h).bind λr U=>?_;split
 . exact xb _ _ _ U
 . exact trivial
section
variable {O:KeyOrd}(key:Nat->O.α)
noncomputable def eK:Nat->Nat->Bool:=λi j=>O.blt (key i) (key j)
noncomputable def Kp (p:Array Nat) (i:Nat):O.α:=key (p.getD i 0)
def g9 (p:Array Nat) (k:Nat):Prop:=∀i j,i<=j->j<k->O.kle (Kp key p i) (Kp key p j)
def iB (p:Array Nat) (k:Nat):Prop:=∀i j,i<=j->j<k->O.kle (Kp key p j) (Kp key p i)
variable {key}
theorem g9.succ {p:Array Nat}{n:Nat}(h:g9 key p n)(h1:1<=n)(e:O.kle (Kp key p (n - 1)) (Kp key p n)):g9 key p (n+1):=by
 intro i j J U;by_cases L:j<n
 . exact h i j J L
 . have:j=n:=by omega
   subst this;by_cases hi:i=j
   . subst hi;exact KeyOrd.kle_refl _
   . exact KeyOrd.kle_trans (h i (j - 1) (by omega) (by omega)) e
theorem iB.succ {p:Array Nat}{n:Nat}(h:iB key p n)(h1:1<=n)(e:O.kle (Kp key p n) (Kp key p (n - 1))):iB key p (n+1):=by
 intro i j J U;by_cases L:j<n
 . exact h i j J L
 . have:j=n:=by omega
   subst this;by_cases hi:i=j
   . subst hi;exact KeyOrd.kle_refl _
   . exact KeyOrd.kle_trans e (h i (j - 1) (by omega) (by omega))
theorem mx {p q:Array Nat}{i j:Nat}(h:p[i]? =q[j]?):Kp key p i=Kp key q j:=by
 unfold Kp;rw[Q1n,Q1n,h]
theorem qi {p:Array Nat}{i j:Nat}(J:j<=p.size)(k:Nat):Kp key (kas_rev p i j) k=if i<=k/\k<j then Kp key p (i+j - 1 - k) else Kp key p k:=by
 have e:=getElem?_mirror_all (i:=i) J k;by_cases h1:i<=k/\k<j
 . rw[if_pos h1] at e ⊢;exact mx e
 . rw[if_neg h1] at e ⊢;exact mx e
theorem qj {p:Array Nat}{i j:Nat}(L:j<=p.size)(J:∀k,i<=k->k<j->Kp key p k=Kp key p (j - 1))(k:Nat):Kp key (kas_rev p i j) k=Kp key p k:=by
 rw[qi L];split
 . rw[J _ (by omega) (by omega),J k (by omega) (by omega)]
 . rfl
theorem Cj {p:Array Nat}{src d:Nat}(J:src<p.size)(L:d<=src)(k:Nat):
 Kp key (bubble p src d) k=if k=src - d then Kp key p src else if src - d<k/\k<=src then Kp key p (k - 1) else Kp key p k:=by
 have e:=getElem?_bubble J d L k;by_cases h1:k=src - d
 . rw[if_pos h1] at e ⊢;exact mx e
 . rw[if_neg h1] at e ⊢;by_cases h2:src - d<k/\k<=src
   . rw[if_pos h2] at e ⊢;exact mx e
   . rw[if_neg h2] at e ⊢;exact mx e
theorem iB.congr {p q:Array Nat}{n:Nat}(h:iB key p n)(e:∀k,Kp key q k=Kp key p k):iB key q n:=λi j a b=>by
 rw[e,e];exact h i j a b
theorem qk {p:Array Nat}:∀f n,1<=n->g9 key p n->n<=d9 (eK key) (kas_asc p f n)/\d9 (eK key) (kas_asc p f n)<=n+f/\g9 key p (d9 (eK key) (kas_asc p f n))/\
 (d9 (eK key) (kas_asc p f n)<n+f->O.klt (Kp key p (d9 (eK key) (kas_asc p f n))) (Kp key p (d9 (eK key) (kas_asc p f n) - 1)))
 |0,n,_,h=>⟨Q00 _,Q00 _,h,λz=>absurd z (Q0t _)⟩
 |f+1,n,h1,h=>by
  have e:d9 (eK key) (kas_asc p (f+1) n)=d9 (eK key) (if O.blt (Kp key p n) (Kp key p (n - 1))=true then .ret n else kas_asc p f (n+1)):=rfl;rw[e]
  cases c:O.blt (Kp key p n) (Kp key p (n - 1)) with
  |true=>
   rw[if_pos rfl];exact⟨Q00 _,Q0q _ _,h,λ_=>c⟩
  |false=>
   rw[if_neg (by simp)];obtain⟨U,Y,J,L⟩:=qk f (n+1) (by omega) (h.succ h1 c);exact⟨by omega,by omega,J,λz=>L (by omega)⟩
structure DI (O:KeyOrd) (key:Nat->O.α) (p₀:Array Nat) (p:Array Nat) (n q:Nat):Prop where
 perm:p.Perm p₀
 non:iB key p n
 one:q+1<=n
 size:n<=p.size
 eq:∀k,n - (q+1)<=k->k<n->Kp key p k=Kp key p (n - 1)
theorem oh {J:Array Nat}:∀f (p:Array Nat) n q,DI O key J p n q->n+f<=J.size->
 ∃L n' U,d9 (eK key) (kas_desc f p n q)=(L,n',U)/\DI O key J L n' U/\n'<=n+f
 |0,p,n,q,d,_=>⟨p,n,q,rfl,d,Q00 _⟩
 |f+1,p,n,q,d,hs=>by
  have hsz:p.size=J.size:=d.perm.size_eq
  have e:d9 (eK key) (kas_desc (f+1) p n q)=d9 (eK key) (if O.blt (Kp key p n) (Kp key p (n - 1))=true then(if q > 0 then kas_desc f (kas_rev p (n - (q+1)) n) (n+1) 0 else kas_desc f p (n+1) 0)
   else .ask (p.getD (n - 1) 0) (p.getD n 0) λd=>if d=true then .ret (p,n,q) else kas_desc f p (n+1) (q+1)):=rfl
  rw[e];have one:=d.one
  cases c:O.blt (Kp key p n) (Kp key p (n - 1)) with
  |true=>
   rw[if_pos rfl];have cl:O.kle (Kp key p n) (Kp key p (n - 1)):=KeyOrd.kle_of_klt c;by_cases hq:q > 0
   . rw[if_pos hq];have ek:∀k,Kp key (kas_rev p (n - (q+1)) n) k=Kp key p k:=qj d.size d.eq
     have d':DI O key J (kas_rev p (n - (q+1)) n) (n+1) 0:=⟨(jt _ _ _).trans d.perm,(d.non.succ (by omega) cl).congr ek,by omega,by rw[Cf];omega,λk h1 h2=>by
      have:k=n:=by omega
      subst this;rfl⟩
     obtain⟨L,n',U,Y,r2,r3⟩:=oh f _ _ _ d' (by omega);exact⟨L,n',U,Y,r2,by omega⟩
   . rw[if_neg hq]
     have d':DI O key J p (n+1) 0:=⟨d.perm,d.non.succ (by omega) cl,by omega,by omega,λk h1 h2=>by
      have:k=n:=by omega
      subst this;rfl⟩
     obtain⟨L,n',U,Y,r2,r3⟩:=oh f _ _ _ d' (by omega);exact⟨L,n',U,Y,r2,by omega⟩
  |false=>
   rw[if_neg (by simp)];have e2:d9 (eK key) (.ask (p.getD (n - 1) 0) (p.getD n 0) λd=>if d=true then .ret (p,n,q) else kas_desc f p (n+1) (q+1))=d9 (eK key) (if O.blt (Kp key p (n - 1)) (Kp key p n)=true then .ret (p,n,q) else kas_desc f p (n+1) (q+1)):=rfl;rw[e2]
   cases c2:O.blt (Kp key p (n - 1)) (Kp key p n) with
   |true=>
    rw[if_pos rfl];exact⟨p,n,q,rfl,d,by omega⟩
   |false=>
    rw[if_neg (by simp)];have ee:Kp key p n=Kp key p (n - 1):=O.total _ _ c c2
    have d':DI O key J p (n+1) (q+1):=⟨d.perm,d.non.succ (by omega) (by rw[ee];exact KeyOrd.kle_refl _),by omega,by omega,λk h1 h2=>by
     show Kp key p k=Kp key p n;by_cases hk:k=n
     . rw[hk]
     . rw[ee];exact d.eq k (by omega) (by omega)⟩
    obtain⟨L,n',U,Y,r2,r3⟩:=oh f _ _ _ d' (by omega);exact⟨L,n',U,Y,r2,by omega⟩
def my (O:KeyOrd) (key:Nat->O.α) (J:Array Nat) (nrem:Nat) (r:Nat × Array Nat):Prop:=r.2.Perm J/\1<=r.1/\r.1<=nrem/\g9 key r.2 r.1
theorem xc {J p:Array Nat}{n nrem:Nat}(hp:p.Perm J)(h1:1<=n)(hn:n<=nrem)(hs:nrem<=J.size)(h:iB key p n):my O key J nrem (d9 (eK key) (kas_tail3 n nrem p)):=by
 have hsz:p.size=J.size:=hp.size_eq;unfold kas_tail3;rw[lx]
 have L:g9 key (kas_rev p 0 n) n:=λi j Y hj=>by
  rw[qi (by omega),qi (by omega),if_pos (by omega),if_pos (by omega)];exact h _ _ (by omega) (by omega)
 obtain⟨a1,a2,U,_⟩:=qk (key:=key) (p:=kas_rev p 0 n) (nrem - n) n h1 L;exact⟨(jt _ _ _).trans hp,by show 1<=d9 _ _;omega,by show d9 _ _<=nrem;omega,U⟩
theorem xf {J p:Array Nat}{n nrem:Nat}(hp:p.Perm J)(h1:1<=n)(hn:n+1<=nrem)(hs:nrem<=J.size)(h:iB key p (n+1)):my O key J nrem (d9 (eK key) (kas_descPart n nrem p)):=by
 have hsz:p.size=J.size:=hp.size_eq;unfold kas_descPart;rw[lx]
 have d:DI O key J p (n+1) 0:=⟨hp,h,by omega,by omega,λk h1 h2=>by
  have:k=n:=by omega
  subst this;rfl⟩
 obtain⟨U,n',Y,r1,L,r3⟩:=oh (key:=key) (nrem - (n+1)) p (n+1) 0 d (by omega);rw[r1];have o:=L.one;have sz:=L.size;have aa:U.size=J.size:=L.perm.size_eq;by_cases hq:Y > 0
 . show my O key J nrem (d9 (eK key) (if Y > 0 then kas_tail3 n' nrem (kas_rev U (n' - (Y+1)) n') else kas_tail3 n' nrem U));rw[if_pos hq];exact xc ((jt _ _ _).trans L.perm) (by omega) (by omega) hs (L.non.congr (qj L.size L.eq))
 . show my O key J nrem (d9 (eK key) (if Y > 0 then kas_tail3 n' nrem (kas_rev U (n' - (Y+1)) n') else kas_tail3 n' nrem U));rw[if_neg hq];exact xc L.perm (by omega) (by omega) hs L.non
theorem Ck {p:Array Nat}{nrem:Nat}(h1:1<=nrem)(hs:nrem<=p.size):my O key p nrem (d9 (eK key) (kas_count nrem p)):=by
 unfold kas_count;rw[lx]
 obtain⟨J,a2,U,a4⟩:=qk (key:=key) (p:=p) (nrem - 1) 1 (Q00 _) (λi j L hj=>by
  have Y:i=0:=by omega
  have e2:j=0:=by omega
  subst Y;subst e2;exact KeyOrd.kle_refl _)
 generalize d9 (eK key) (kas_asc p (nrem - 1) 1)=n at *;by_cases hn:n=nrem
 . rw[if_pos (by simpa using hn)];exact⟨Array.Perm.refl _,J,by show n<=nrem;omega,U⟩
 . rw[if_neg (by simpa using hn)];have cl:O.klt (Kp key p n) (Kp key p (n - 1)):=a4 (by omega);by_cases hg:n > 1
   . rw[if_pos hg]
     have e:d9 (eK key) (.ask (p.getD 0 0) (p.getD (n - 1) 0) λc=>if c=true then .ret (n,p) else kas_descPart n nrem (kas_rev p 0 n))=
      d9 (eK key) (if O.blt (Kp key p 0) (Kp key p (n - 1))=true then .ret (n,p) else kas_descPart n nrem (kas_rev p 0 n)):=rfl
     rw[e]
     cases c:O.blt (Kp key p 0) (Kp key p (n - 1)) with
     |true=>
      rw[if_pos rfl];exact⟨Array.Perm.refl _,J,by show n<=nrem;omega,U⟩
     |false=>
      rw[if_neg (by simp)]
      have all:∀k,0<=k->k<n->Kp key p k=Kp key p (n - 1):=λk _ hk=>by
       have c':O.kle (Kp key p (n - 1)) (Kp key p 0):=c;exact KeyOrd.kle_antisymm (U k (n - 1) (by omega) (by omega)) (KeyOrd.kle_trans c' (U 0 k (by omega) hk))
      have ek:∀k,Kp key (kas_rev p 0 n) k=Kp key p k:=qj (by omega) all;refine xf (jt _ _ _) J (by omega) hs (iB.congr (iB.succ (n:=n) (λi j L hj=>?_) J (KeyOrd.kle_of_klt cl)) ek);rw[all i (by omega) (by omega),all j (by omega) (by omega)];exact KeyOrd.kle_refl _
   . rw[if_neg hg];have:n=1:=by omega
     subst this;refine xf (Array.Perm.refl _) J (by omega) hs (iB.succ (n:=1) (λi j L hj=>?_) J (KeyOrd.kle_of_klt cl));have Y:i=0:=by omega
     have e2:j=0:=by omega
     subst Y;subst e2;exact KeyOrd.kle_refl _
theorem qm {p:Array Nat}{k:Nat}(h:g9 key p k):∀f l r,l<=r->r<=k->r - l<=f->(∀i,i<l->O.kle (Kp key p i) (Kp key p k))->(∀i,r<=i->i<k->O.klt (Kp key p k) (Kp key p i))->
 ∃m,d9 (eK key) (kas_place p k f l r)=m/\m<=k/\(∀i,i<m->O.kle (Kp key p i) (Kp key p k))/\(∀i,m<=i->i<k->O.klt (Kp key p k) (Kp key p i))
 |0,l,r,h1,h2,Y,J,L=>⟨l,rfl,by omega,J,λi a b=>L i (by omega) b⟩
 |f+1,l,r,h1,h2,Y,J,L=>by
  by_cases U:l ≥ r
  . refine⟨l,?_,by omega,J,λi a b=>L i (by omega) b⟩;unfold kas_place;rw[if_pos U];rfl
  . have e:d9 (eK key) (kas_place p k (f+1) l r)=d9 (eK key) (if O.blt (Kp key p k) (Kp key p ((l+r) / 2))=true then kas_place p k f l ((l+r) / 2) else kas_place p k f ((l+r) / 2+1) r):=by
     show d9 (eK key) (if l ≥ r then .ret l else _)=_;rw[if_neg U];rfl
    rw[e]
    cases c:O.blt (Kp key p k) (Kp key p ((l+r) / 2)) with
    |true=>
     rw[if_pos rfl];exact qm h f _ _ (by omega) (by omega) (by omega) J λi a b=>KeyOrd.klt_of_klt_of_kle (show O.klt _ _ from c) (h _ _ a b)
    |false=>
     rw[if_neg (by simp)];exact qm h f _ _ (by omega) h2 (by omega) (λi a=>KeyOrd.kle_trans (h i ((l+r) / 2) (by omega) (by omega)) (show O.kle _ _ from c)) L
theorem xg:∀f (p:Array Nat) k,g9 key p k->k+f<=p.size->(d9 (eK key) (kas_bin f p k)).Perm p/\g9 key (d9 (eK key) (kas_bin f p k)) (k+f)
 |0,p,k,h,_=>⟨Array.Perm.refl _,h⟩
 |f+1,p,k,h,hs=>by
  have e:d9 (eK key) (kas_bin (f+1) p k)=d9 (eK key) (kas_bin f (bubble p k (k - d9 (eK key) (kas_place p k k 0 k))) (k+1)):=by
   show d9 (eK key) ((kas_place p k k 0 k).bind λl=>kas_bin f (bubble p k (k - l)) (k+1))=_;rw[lx]
  rw[e];obtain⟨m,em,m1,m2,m3⟩:=qm h k 0 k (Q06 _) (Q00 _) (Q00 _) (λi z=>absurd z (Q26 _)) (λi a b=>absurd a (by omega));rw[em];have kb:=λi=>Cj (key:=key) (p:=p) (src:=k) (d:=k - m) (by omega) (by omega) i;have hm:k - (k - m)=m:=by omega
  rw[hm] at kb
  have hS:g9 key (bubble p k (k - m)) (k+1):=by
   intro i j L hj;rw[kb i,kb j];by_cases U:i=m
   . rw[if_pos U];by_cases J:j=m
     . rw[if_pos J];exact KeyOrd.kle_refl _
     . rw[if_neg J,if_pos (by omega)];exact KeyOrd.kle_of_klt (m3 _ (by omega) (by omega))
   . rw[if_neg U];by_cases Y:m<i/\i<=k
     . rw[if_pos Y,if_neg (by omega),if_pos (by omega)];exact h _ _ (by omega) (by omega)
     . rw[if_neg Y];by_cases J:j=m
       . rw[if_pos J];exact m2 i (by omega)
       . rw[if_neg J];by_cases lj:m<j/\j<=k
         . rw[if_pos lj];exact h _ _ (by omega) (by omega)
         . rw[if_neg lj];exact h _ _ L (by omega)
  obtain⟨b1,b2⟩:=xg f (bubble p k (k - m)) (k+1) hS (by rw[bubble_size];omega);exact⟨b1.trans (bubble_perm _ _ _),by rw[show k+(f+1)=k+1+f by omega];exact b2⟩
theorem Cm {n:Nat}(hn:1<=n):(d9 (eK key) (kas_sort n)).toList.Perm (List.range n)/\((d9 (eK key) (kas_sort n)).toList.map key).Pairwise O.kle:=by
 have hz:(List.toArray (List.range n)).size=n:=by simp
 obtain⟨J,c2,c3,c4⟩:=Ck (key:=key) (p:=List.toArray (List.range n)) (nrem:=n) hn (by omega)
 have main:(d9 (eK key) (kas_sort n)).Perm (List.toArray (List.range n))/\g9 key (d9 (eK key) (kas_sort n)) n:=by
  unfold kas_sort;rw[lx];generalize d9 (eK key) (kas_count n (List.toArray (List.range n)))=r at *;obtain⟨m,p⟩:=r;have hsz:p.size=n:=by rw[J.size_eq,hz]
  by_cases hm:m<n
  . show(d9 (eK key) (if m<n then kas_bin (n - max m 1) p (max m 1) else .ret p)).Perm _/\g9 key (d9 (eK key) (if m<n then kas_bin (n - max m 1) p (max m 1) else .ret p)) n;rw[if_pos hm];have c2:1<=m:=c2;have em:max m 1=m:=by omega
    rw[em];obtain⟨b1,b2⟩:=xg (key:=key) (n - m) p m c4 (by omega);exact⟨b1.trans J,by rw[show n=m+(n - m) by omega];rw[show m+(n - m) - m=n - m by omega];exact b2⟩
  . show(d9 (eK key) (if m<n then kas_bin (n - max m 1) p (max m 1) else .ret p)).Perm _/\g9 key (d9 (eK key) (if m<n then kas_bin (n - max m 1) p (max m 1) else .ret p)) n;rw[if_neg hm];have c3:m<=n:=c3;have:m=n:=by omega
    subst this;exact⟨J,c4⟩
 refine⟨Array.perm_iff_toList_perm.mp main.1,?_⟩;have hsz:(d9 (eK key) (kas_sort n)).size=n:=by rw[main.1.size_eq,hz]
 rw[Q27,List.pairwise_iff_getElem];intro i j hi hj L;have U:i<(d9 (eK key) (kas_sort n)).size:=by simpa using hi
 have Y:j<(d9 (eK key) (kas_sort n)).size:=by simpa using hj
 have q:=main.2 i j (Q0v L) (by omega);unfold Kp at q;rw[Q1n,Q1n,Q1t U,Q1t Y] at q;simpa using q
end
end js
namespace L2
open Spec PyProof.Rows
def jU (c':Addr) (qual:Str):Heap->Prop:=λh=>h.CodeRec (.ref c') qual
def Cn (P:Addr) (pos:Pos) (qual:Str) (c':Addr) (H:Hp):Prop:=H P=some (.eS #[rawInt pos.line,rawInt pos.col,.ref c'])/\H c'=some (.ext (jU c' qual))
def eW (P:Addr) (pos:Pos) (qual:Str) (H:Hp):Prop:=H P=some (.eS #[])\/∃c',Cn P pos qual c' H
def BM (mg:Str->Option Value) (base:Heap):Prop:=
 ∃J o,mg "__builtins__"=some (.ref J)/\J≠builtinsNs/\J≠mainGlobals/\base.get? J=some o/\o.cls=.type "module"/\o.dict=some builtinsNs/\o.data=.plain
def mz (P:Addr) (pos:Pos) (qual:Str) (ps:Array Value) (H:Hp):Prop:=H P=some (.eS ps)/\TriplesOk ps.toList/\(codeAmong pos ps.toList=none\/∃c',codeAmong pos ps.toList=some (.ref c')/\H c'=some (.ext (jU c' qual)))
def ky (P:Addr) (pos:Pos) (qual:Str) (ps:Array Value) (c':Addr) (H:Hp):Prop:=((codeAmong pos ps.toList=none/\H P=some (.eS (ps++#[rawInt pos.line,rawInt pos.col,.ref c'])))\/(codeAmong pos ps.toList=some (.ref c')/\H P=some (.eS ps)))/\H c'=some (.ext (jU c' qual))
section
variable {X:Cx}{pins:List (Addr × Obj)}{σ:St}{H:Hp}{s:Shared}
theorem Inv.xh (I:Inv X pins σ H s){P b:Addr}{o:HO}{u:Obj}(e:H P=some o)(J:X.base.get? b=some u):b≠P:=λz=>by
 have:=(I.bs b u J).2;rw[z,e] at this;cases this
theorem Inv.xi (I:Inv X pins σ H s)(B:BM X.mg X.base){P:Addr}{o:HO}(e:H P=some o):s.heap.BuiltinsAt X.mg P:=by
 obtain⟨J,L,Y,b2,b3,U,b5⟩:=B;exact⟨J,L,Y,b2,b3,I.xh e U,(I.bs J L U).1,b5⟩
theorem Inv.adopt {b:Addr}{o:HO}{h':Heap}{t':Nat}(I:Inv X pins σ H s)(f:fV X pins H b)(k:∀c u,c≠b->s.heap.get? c=some u->h'.get? c=some u)(new:fi X.prog X.w (upd H b o) h' b o):
 Inv X pins σ (upd H b o) { s with heap:=h',toks:=t' }:=by
 obtain⟨U,L,f2,Y,f4,f5⟩:=f;have nb:∀c u,H c=some u->c≠b:=λc u e=>dN e U
 refine I.step (g':=s.gens) (d':=s.drawn) (ch:=[b]) (λc hc=>?_) (λc u _ _ hc e _=>k c u (λz=>hc (by simp[z])) e) (λc u _ _ hc e _=>⟨u.slots,k c u (λz=>hc (by simp[z])) e⟩) (λc u hc e n=>?_)
  (λc u hc e=>⟨u,k c u (λz=>hc (by simp[z])) e⟩) (λc xs e=>?_) (λc J u e=>?_) (λc ps e=>⟨#[],?_⟩) (λm hm=>?_) (λc u e=>?_) I.bare
 . have e:c=b:=by simpa using hc
   subst e;exact⟨Y,L,f4,f5⟩
 . rw[dh (λz=>hc (by simp[z]))];exact n
 . rw[dh (nb _ _ e)];exact e
 . rw[dh (nb _ _ e)];exact e
 . rw[dh (nb _ _ e),e];simp
 . obtain⟨J,es,ep,ho,r⟩:=hm;exact⟨J,es,ep,k _ J (Ne.symm L) ho,r⟩
 . by_cases hc:c=b
   . subst hc;rw[de] at e;cases e;exact new
   . rw[dh hc] at e;refine(I.hok c u e).stay (λd v hd q=>k d v ?_ q) (λd q=>by rw[dh (nb _ _ q)];exact q) λd xs q=>by rw[dh (nb _ _ q)];exact q
     rcases hd with z|z
     . rw[z];exact hc
     . exact nb _ _ z
theorem Inv.own {b:Addr}{h':Heap}{t':Nat}(I:Inv X pins σ H s)(f:fV X pins H b)(J:Heap.SameBut b s.heap h'):Inv X pins σ H { s with heap:=h',toks:=t' }:=
 I.turned (t':=t') (λc u hc e=>(J.2 c hc).trans e) f.1 f.2.1 f.2.2.2.1 f.2.2.2.2.1 f.2.2.2.2.2
theorem Co {U:Array Value}{name qual:Str}{L:Arguments}{body:Expr}{scope:Scope}{pos:Pos}{Y:Nat}{cl:List (Str × Addr)}{c P:Addr}{Q:Value->Shared->Prop}{E:Value->Shared->Prop}(I:Inv X pins σ H s)(ab:X.env.code=.ref c)(C:W.CodeHd X.base c P)
 (B:BM X.mg X.base) (T:mz P pos qual U H) (ae:closureFor scope X.env=pure cl)
 (h:∀(f c':Addr) (pm aa:Value) (H':Hp) (s':Shared),Inv X (pins++[(f,W.kla_obj name qual L body scope cl pm c' aa)]) σ H' s'->ky P pos qual U c' H'->(∀b o,b≠P->H b=some o->H' b=some o)->Q (.ref f) s'):
 wpAny (model X.prog X.w) X.A (makeFunction name qual L (.expr body) scope X.env [] [] [] pos Y) Q E s:=by
 have hg:s.heap.Ns mainGlobals X.mg:=I.mod.glob.keeps I.bk;have C':=C.keeps I.bk
 have af:∀{H':Hp} {s':Shared} {f:Addr} {o:Obj},Inv X pins σ H' s'->s'.heap.get? f=some o->H' f=none->s.heap.objs.size<=f->(∀v,o.data≠ .cell v)->Inv X (pins++[(f,o)]) σ H' s':=λ{H' s' f o} J e n hz d=>
  J.ki λp hp=>(List.mem_append.mp hp).elim (λz=>J.pin p (Q01 _ z)) λz=>by
    have:p=(f,o):=by simpa using z
    subst this;exact⟨e,n,Q0d (Q0g I.lt hz),I.la hz,d⟩
 obtain⟨e,ag,ah|⟨c',e1,e2⟩⟩:=T
 . have hP:s.heap.get? P=some (W.tabObj U):=I.hok P _ e;have ai:P<s.heap.objs.size:=Q03 hP
   have an:mainGlobals≠P:=by
    obtain⟨o,es,ep,eo,_⟩:=I.mod.glob;exact I.xh e eo
   refine W.kla_makeFunction (mg:=X.mg) ae I.ok.glob hg ab C' hP ag ah an (I.xi B e) λc' aa h' tk hx ac aj am ak=>?_;have al:c'≠P:=Q0d (Q0g ai ac);have ao:H c'=none:=I.hok.fresh ac
   have nP:∀b u,H b=some u->u≠ .eS U->b≠P:=λb u q d z=>by
    rw[z,e] at q;exact d (Option.some.inj q).symm
   have nC:∀b u,H b=some u->b≠c':=λb u q=>dN q ao;have kk:∀(ob:Obj) b u,b≠P->s.heap.get? b=some u->(h'.push ob).get? b=some u:=λob b u hb q=>Q07 _ (hx b u hb q)
   have I1:Inv X pins σ (upd (upd H P (.eS (U++#[rawInt pos.line,rawInt pos.col,.ref c']))) c' (.ext (jU c' qual))) { s with heap:=h'.push (W.kla_obj name qual L body scope cl ((X.mg "__name__").getD .none) c' aa),toks:=tk }:=by
    refine I.step (g':=s.gens) (d':=s.drawn) (ch:=[]) (λ_ z=>nomatch z) (λb o _ _ _ q n=>kk _ b o (λz=>by rw[z,e] at n;cases n) q) (λb o _ _ _ q n=>⟨o.slots,kk _ b o (λz=>by rw[z,e] at n;cases n) q⟩)
     (λb o _ q n=>?_) (λb o _ q=>?_) (λb xs q=>?_) (λb o u q=>?_) (λb ps q=>?_) (λm hm=>?_) (λb o q=>?_) I.bare
    . have b1:b≠P:=λz=>by rw[z,e] at n;cases n
      have b2:b≠c':=Q0c (Q0g (Q03 q) ac);rw[dh b2,dh b1];exact n
    . by_cases hb:b=P
      . subst hb;exact⟨_,Q07 _ ak⟩
      . exact⟨o,kk _ b o hb q⟩
    . rw[dh (nC _ _ q),dh (nP _ _ q (by intro z;cases z))];exact q
    . rw[dh (nC _ _ q),dh (nP _ _ q (by intro z;cases z))];exact q
    . by_cases hb:b=P
      . subst hb;rw[e] at q;cases q;exact⟨_,by rw[dh (Ne.symm al),de]⟩
      . exact⟨#[],by rw[dh (nC _ _ q),dh hb,q];simp⟩
    . obtain⟨o,es,ep,ho,r⟩:=hm;exact⟨o,es,ep,kk _ _ o (λz=>by have:=I.free;rw[z,e] at this;cases this) ho,r⟩
    . by_cases hb:b=c'
      . subst hb;rw[de] at q;cases q;obtain⟨ar,oc,vs,t,z1,z2,z3,z4⟩:=am
        cases z1;refine⟨⟨_,oc,vs,t,rfl,Q07 _ z2,z3,z4⟩,⟨oc,Q07 _ z2⟩,λh1 h2 y hy=>?_⟩;obtain⟨au,ap,aq,t',y1,y2,y3,y4⟩:=y
        cases y1;exact⟨_,ap,aq,t',rfl,hy _ y2,y3,y4⟩
      . rw[dh hb] at q;by_cases hp:b=P
        . subst hp;rw[de] at q;cases q;show(h'.push _).get? b=some { cls:=.none,data:=.fields _ };exact Q07 _ ak
        . rw[dh hp] at q;refine(I.hok b o q).stay (λd v hd y=>kk _ d v ?_ y) (λd y=>by rw[dh (nC _ _ y),dh (nP _ _ y (by intro z;cases z))];exact y) λd xs y=>by rw[dh (nC _ _ y),dh (nP _ _ y (by intro z;cases z))];exact y
          rcases hd with z|z
          . rw[z];exact hp
          . exact nP _ _ z (by intro z;cases z)
   have fz:s.heap.objs.size<=h'.objs.size:=Q0v (Q17 ac aj)
   have fn:upd (upd H P (.eS (U++#[rawInt pos.line,rawInt pos.col,.ref c']))) c' (.ext (jU c' qual)) h'.objs.size=none:=by
    rw[dh (Q0d aj),dh (Q0d (Q0g ai fz))];exact I.hok.fresh fz
   refine h h'.objs.size c' ((X.mg "__name__").getD .none) aa _ _ (af I1 (Q0i _ rfl) fn fz (by intro v z;cases z)) ⟨.inl ⟨ah,by rw[dh (Ne.symm al),de]⟩,de⟩ λb o hb q=>?_;rw[dh (nC _ _ q),dh hb];exact q
 . have hP:s.heap.get? P=some (W.tabObj U):=I.hok P _ e;refine W.kla_makeFunctionHit (mg:=X.mg) (cv:=.ref c') ae I.ok.glob hg ab C' hP ag e1 (I.xi B e) λaa h' tk hk hsz=>?_;exact h h'.objs.size c' ((X.mg "__name__").getD .none) aa H _ (af (I.kept λb u q=>Q07 _ (hk b u q)) (Q0i _ rfl) (I.hok.fresh hsz) hsz (by intro v z;cases z)) ⟨.inr ⟨e1,e⟩,e2⟩ λb o _ q=>q
structure ju (X:Cx) (x:Str) (N':List Str) (scope:Scope):Prop where
 kind:scope.kind=.function
 co:scope.isCoroutine=false
 gen:scope.isGenerator=false
 cell:∀y∈scope.names,y.2≠ .cell
 loc:scope.names.lookup x=some .local
 free:∀y∈scope.names,y.2=.free->X.env.kindOf y.1=some .cell\/X.env.kindOf y.1=some .free
 len:N'.length=X.N.length
 outer:∀(i:Nat) (y:Str),N'[i]? =some y->scope.names.lookup y=none\/(X.N[i]? =some y/\scope.names.lookup y≠some .local)
noncomputable def kz (scope:Scope):List Str->List Str->Bool
 |[],[]=>true
 |y::r,z::q=>(decide (scope.names.lookup y=none) || (decide (z=y) && decide (scope.names.lookup y≠some .local))) && kz scope r q
 |_,_=>false
theorem xj {scope:Scope}:∀{N' N:List Str},kz scope N' N=true->N'.length=N.length
 |[],[],_=>rfl
 |y::r,z::q,h=>by
  simp only[kz,Bool.and_eq_true] at h;rw[Q0e,Q0e,xj h.2]
theorem xl {scope:Scope}:∀{N' N:List Str},kz scope N' N=true->∀(i:Nat) (y:Str),N'[i]? =some y->scope.names.lookup y=none\/(N[i]? =some y/\scope.names.lookup y≠some .local)
 |[],[],_,i,y,e=>by simp at e
 |w::r,z::q,h,0,y,e=>by
  simp only[kz,Bool.and_eq_true,Bool.or_eq_true,decide_eq_true_eq] at h;have e:some w=some y:=e
  cases e;rcases h.1 with h1|⟨h1,h2⟩
  . exact .inl h1
  . subst h1;exact .inr ⟨rfl,h2⟩
 |w::r,z::q,h,i+1,y,e=>by
  simp only[kz,Bool.and_eq_true] at h;have:=xl h.2 i y (by simpa using e);simpa using this
noncomputable def xm (x:Str) (N' N:List Str) (scope sc:Scope):Bool:=
 scope.names.all (λy=>decide (y.2≠ .cell)) && decide (scope.names.lookup x=some .local) && scope.names.all (λy=>decide (y.2=.free->sc.names.lookup y.1=some .cell\/sc.names.lookup y.1=some .free)) && kz scope N' N
theorem ju.of {x:Str}{N' N:List Str}{scope sc:Scope}(J:X.env.scope=sc)(L:X.N=N)(k:scope.kind=.function)(Y:scope.isCoroutine=false)(c2:scope.isGenerator=false)(c:xm x N' N scope sc=true):ju X x N' scope:=by
 unfold xm at c;simp only[Bool.and_eq_true,Q18,decide_eq_true_eq] at c;obtain⟨⟨⟨a1,a2⟩,a3⟩,U⟩:=c;exact⟨k,Y,c2,a1,a2,λy hy hf=>by rw[show X.env.kindOf y.1=X.env.scope.names.lookup y.1 from rfl,J];exact a3 y hy hf,by rw[L];exact xj U,by rw[L];exact xl U⟩
noncomputable abbrev oj (qual:Str) (scope:Scope) (cl:List (Str × Addr)) (f c':Addr) (s:Shared):Env:=W.envX qual scope s.heap.objs.size f (.ref c') cl
noncomputable def om (X:Cx) (x:Str) (N':List Str) (scope:Scope) (cl:List (Str × Addr)) (qual:Str) (f c':Addr) (s:Shared) (H:Hp):Cx:=
 { X with A:=X.A.in1.in1.deeper (oj qual scope cl f c' s),N:=x::N',s₀:=s,H₀:=H,env:=oj qual scope cl f c' s,outer:=X.stack,stack:=oj qual scope cl f c' s::X.stack,ex:=[],fn:=λ_=>false,pn:=[],calm:=true,xe:=λ_ _=>False }
theorem Inv.lam {x:Str}{N':List Str}{scope:Scope}{cl:List (Str × Addr)}{qual:Str}{f c':Addr}{v:V}{u:Value}{h₁:Heap}{t':Nat}(I:Inv X pins σ H s)(S:ju X x N' scope)(hd:X.A.handled=none)
 (J:∀y c,cl.lookup y=some c->X.env.cells.lookup y=some c) (ab:∀y,(y,NameKind.free)∈scope.names->cl.lookup y=X.env.cells.lookup y) (r:RelV v u)
 (hn:h₁.Ns s.heap.objs.size (λy=>([(x,u)]:List (Str × Value)).reverse.lookup y)) (aa:∀b o,s.heap.get? b=some o->h₁.get? b=some o):
 Inv (om X x N' scope cl qual f c' s H) [] (some v::σ) H { s with heap:=h₁,toks:=t' }:=by
 have ok:=I.ok
 have L:∀y,(scope.names.lookup y=some .cell\/scope.names.lookup y=some .free)->(y,NameKind.free)∈scope.names:=λy Y=>by
  rcases Y with Y|Y
  . exact absurd rfl (S.cell _ (PySem.mem_of_lookup Y))
  . exact PySem.mem_of_lookup Y
 refine⟨⟨ok.mod,S.kind,rfl,rfl,Q00 _,λy z c U e2=>ok.inj y z c (J y c U) (J z c e2),λy Y=>?_,λy c Y _=>(nomatch Y),λ_=>hd,Around.frames_deeper (show X.A.in1.in1.frames=some X.stack from ok.frames),.inr ⟨rfl,rfl⟩,λb hb=>absurd (show b∈([]:List Addr) from hb) (by simp),I.bs,Q0h ok.iN I.sz,
  λb o _ hb=>absurd (show b∈([]:List Addr) from hb) (by simp),λb hb=>absurd (show b∈([]:List Addr) from hb) (by simp),I.stack,I.pF⟩,
  rfl,I.bare,Un.kept aa,⟨_,hn,λi y v' U e2 e3=>?_⟩,λy c e=>?_,I.hok.fresh (Q00 _),λy c e=>I.gM y c (J y c e),λp hp=>absurd (show p∈([]:List (Addr × Obj)) from hp) (by simp),I.hok.kept aa,?_⟩
 . have hm:=L y Y;obtain⟨c,e⟩:=ok.has y (S.free _ hm rfl);exact⟨c,by rw[show(om X x N' scope cl qual f c' s H).env.cells=cl from rfl,ab y hm];exact e⟩
 . cases i with
   |zero=>
    have U:some x=some y:=U
    cases U;have e2:some (some v)=some (some v'):=e2
    cases e2;exact⟨u,r,.inl ⟨S.loc,by simp⟩⟩
   |succ i=>
    have U:N'[i]? =some y:=by
     have U:(x::N')[i+1]? =some y:=U;simpa using U
    have e2:σ[i]? =some (some v'):=by simpa using e2
    have ho:X.N[i]? =some y/\scope.names.lookup y≠some .local:=by
     have e3:scope.names.lookup y=some .local\/scope.names.lookup y=some .cell\/scope.names.lookup y=some .free:=e3;rcases S.outer i y U with q|q
     . rw[q] at e3;rcases e3 with z|z|z <;> cases z
     . exact q
    have ae:scope.names.lookup y=some .cell\/scope.names.lookup y=some .free:=by
     rcases e3 with q|q
     . exact absurd q ho.2
     . exact q
    have hm:=L y ae;have af:=S.free _ hm rfl;obtain⟨mX,ah,ag⟩:=I.loc;obtain⟨u',r',lk⟩:=ag i y v' ho.1 e2 (.inr af);refine⟨u',r',.inr ⟨ae,?_⟩⟩;rcases lk with⟨q,_⟩|⟨_,c,ec,hc⟩
    . rcases af with z|z
      . rw[z] at q;cases q
      . rw[z] at q;cases q
    . obtain⟨o,ho,ac⟩:=hc;exact⟨c,(ab y hm).trans ec,o,aa _ _ ho,ac⟩
 . obtain⟨w',o,ho,ac⟩:=I.cell y c (J y c e);exact⟨w',o,aa _ _ ho,ac⟩
 . show _=(x::N').length;rw[Q0e,Q0e,I.len,S.len]
theorem Cp {x:Str}{N':List Str}{name qual:Str}{L:Arguments}{body:Expr}{scope:Scope}{cl:List (Str × Addr)}{f c':Addr}{pm U:Value}{v:V}{u:Value}{te:TE}{Q:VK}{E:Value->Shared->Prop}(I:Inv X pins σ H s)(S:ju X x N' scope)(hd:X.A.handled=none)(aa:X.A.depth<recursionLimit)
 (ab:∀y c,cl.lookup y=some c->X.env.cells.lookup y=some c) (ac:∀y,(y,NameKind.free)∈scope.names->cl.lookup y=X.env.cells.lookup y) (hf:(f,W.kla_obj name qual L body scope cl pm c' U)∈pins) (hc:H c'=some (.ext (jU c' qual)))
 (hb:∀u:Value,bindArgs (W.kla_fn name qual L body scope cl pm (.ref c') U) ⟨[u],[]⟩=pure [(x,u)]) (r:RelV v u) (he:∀(s:Shared) (H:Hp),PE (om X x N' scope cl qual f c' s H) body te) (h:te (some v::σ) H Q):
 wpAny (model X.prog X.w) X.A.in1.in1 (call (.ref f) [u]) (EP X pins σ Q) E s:=by
 obtain⟨p1,p2,p3,p4,p5⟩:=I.pin _ (Q01 _ hf);refine wpAny_call (W.kla_callFunE aa p1 rfl S.co S.gen rfl (I.hok c' _ hc).1 ?_);rw[hb];refine Q02 (wpAny_newFunctionEnv S.cell (λy hy=>?_) (λh₁ ae af=>?_) S.kind)
 . have e:y=(x,u):=by simpa using hy
   subst e;exact S.loc
 have Y:∀b o,s.heap.get? b=some o->h₁.get? b=some o:=λb o e=>af.extBut b o (Q0c (Q03 e)) (Q07 _ e);refine⟨I.nolimit.keeps Y,?_⟩;show codeAny _ _ (.expr body (oj qual scope cl f c' s)) _ _;have J:=I.lam (t':=s.toks+([(x,u)]:List (Str × Value)).length) (qual:=qual) (f:=f) (c':=c') S hd ab ac r ae Y;refine W.kla_codeExpr (Q0y (he s H [] _ _ H Q J h) (λu' s' hq=>?_) λe s' hF=>hF.elim);obtain⟨v',H',J',rv,q⟩:=hq;exact I.after ⟨v',H',J'.os,J'.bare,J'.base,J'.hok,rv,q⟩
end
section
variable {X:Cx}{pins:List (Addr × Obj)}{σ:St}{H:Hp}{s:Shared}
def Asks (prog:Program) (w:World) (A:Around) (s:Shared) (J:List Value) {O:KeyOrd}(key:Nat->O.α):Prop:=
 2<=J.length->wpAny (model prog w) A (keyKind' J.toArray) (λκ s'=>s'=s/\∀(i j:Nat) (C:Bool->Shared->Prop),i<J.length->j<J.length->C (O.blt (key i) (key j)) s->W.kas_ask prog w A κ J i j C s) (λ_ _=>False) s
theorem xo {xs:List V}{vs:List Value}(r:Vals xs vs):∀p:List Nat,Vals (p.map λi=>xs.getD i .non) (p.map λi=>vs.getD i Value.none)
 |[]=>.nil
 |i::p=>by
  refine .cons ?_ (xo r p);show RelV (xs.getD i .non) (vs.getD i Value.none);rw[Q0j,Q0j]
  cases e:xs[i]? with
  |none=>
   rw[r.none_of e];exact rfl
  |some x=>
   obtain⟨u,J,L⟩:=r.get e;rw[J];exact L
theorem Cq {α:Type}(a0:α)(l:List α):((List.range l.length).map λi=>l.getD i a0)=l:=by
 apply Q2q
 . simp
 . intro i h1 h2;simp[h2]
theorem Cr {J vs:List Value}(hl:J.length=vs.length):((List.toArray J).zip (List.toArray vs)).map (·.2)=List.toArray vs:=by
 apply Array.toList_inj.mp;rw[Array.toList_map,ksk_zip];show List.map Prod.snd (J.zip vs)=vs;exact List.map_snd_zip (by omega)
theorem Cs {α:Type}{R:α->α->Prop}(key:Nat->α){n:Nat}(h:n<2):((List.range n).map key).Pairwise R:=by
 have:n=0\/n=1:=by omega
 rcases this with rfl|rfl
 . exact List.Pairwise.nil
 . exact Q1u _ _
noncomputable abbrev lo (xs:List Value) (n:Nat):Obj:=seqObj "list" (List.toArray xs) n
theorem xp {E:Value->Shared->Prop}{kS D:Addr}{Y:List Value}{e U:Nat}{st:SortSt}{out:List Value}{outV:List V}{P:PySem.Fin->Shared->Prop}{A:Around}(I:Inv X (pins++[(kS,lo Y e),(D,lo [] U)]) σ H s)(fK:fV X pins H kS)(fD:fV X pins H D)(aa:kS≠D)(ac:Y.length<64)(ho:out.length<64)
 (L:(arrOf st).map (·.2)=List.toArray out) (hf:failedOf st=none) (rv:Vals outV out)
 (h:∀s',Inv X pins σ (upd H D (.lst outV)) s'->P (.done (.ret .none)) s'):wpAny (model X.prog X.w) A (ksk_tail D false U (.ref kS) st) P E s:=by
 have nk:=(I.pin (kS,lo Y e) (Q01 _ (Q01 _ (Q0a)))).1;have nD:=(I.pin (D,lo [] U) (Q01 _ (Q01 _ (Q04 _ Q0a)))).1;have s1:=Heap.SameBut.update s.heap kS (Obj.mapSeq λ_=>(#[]:Array Value));have J:(s.heap.update kS (Obj.mapSeq λ_=>(#[]:Array Value))).get? D=some (lo [] U):=(s1.2 D aa.symm).trans nD;have s2:=Heap.SameBut.update (s.heap.update kS (Obj.mapSeq λ_=>(#[]:Array Value))) D (Obj.mapSeq λ_=>List.toArray out);obtain⟨c2,ab⟩:∃c2,((s.heap.update kS (Obj.mapSeq λ_=>(#[]:Array Value))).update D (Obj.mapSeq λ_=>List.toArray out)).get? D=some (lo out c2):=⟨_,get?_update_seq J λ_=>List.toArray out⟩;have I1:Inv X pins σ H { s with heap:=s.heap.update kS (Obj.mapSeq λ_=>(#[]:Array Value)) }:=I.jL.own (t':=s.toks) fK s1
 have I2:Inv X pins σ (upd H D (.lst outV)) { s with heap:=(s.heap.update kS (Obj.mapSeq λ_=>(#[]:Array Value))).update D (Obj.mapSeq λ_=>List.toArray out) }:=
  I1.adopt (t':=s.toks) fD (λc u hc q=>(s2.2 c hc).trans q) ⟨by rw[rv.length];exact Q0v (fX (by omega)),out,c2,rv,ab⟩
 unfold ksk_tail
 try dsimp only
 rw[L];refine Q0 (listUpdate_at nk rfl ?_ (by rw[Q0b,sizeLine_eq];omega) (Q06 _));refine Q0 (wpAny_letGo ?_);refine Q0 (seqEpoch_at J rfl ?_);refine Q0 (listUpdate_at J rfl ?_ (Q06 _) (by show(List.toArray out).size<=_;rw[Q0b,sizeLine_eq];omega));rw[hf];simp only[bne_self_eq_false,Bool.false_eq_true,if_false];exact Q02 (h _ I2)
theorem Ct {E:Value->Shared->Prop}{kS D:Addr}{Y vs:List Value}{xs:List V}{e e1:Nat}{P:PySem.Fin->Shared->Prop}{A:Around}{O:KeyOrd}{key:Nat->O.α}(I:Inv X (pins++[(kS,lo Y e),(D,lo [] e1)]) σ H s)(fK:fV X pins H kS)(fD:fV X pins H D)(ac:kS≠D)
 (hl:Y.length=vs.length) (aa:vs.length<64) (rv:Vals xs vs) (ask:Asks X.prog X.w A s Y key)
 (h:∀(p:List Nat),p.Perm (List.range vs.length)->(p.map key).Pairwise O.kle->∀s',Inv X pins σ (upd H D (.lst (p.map λi=>xs.getD i .non))) s'->P (.done (.ret .none)) s'):
 wpAny (model X.prog X.w) A (ksk_end D false (List.toArray vs) e1 (.ref kS) (List.toArray Y)) P E s:=by
 unfold ksk_end
 try dsimp only
 simp only[Bool.false_eq_true,if_false];by_cases h2:vs.toArray.size<2
 . rw[if_pos h2,if_pos h2];have ab:vs.length<2:=by simpa using h2
   refine Q0 (Q02 ?_);rw[StateT.run_pure];refine Q0 (Q02 ?_)
   try dsimp only
   have ae:xs.length=vs.length:=rv.length
   have ez:((List.range vs.length).map λi=>xs.getD i .non)=xs:=by
    rw[<-ae];exact Cq _ xs
   refine xp (out:=vs) (outV:=xs) (st:=SortSt.mk' general' ((List.toArray Y).zip (List.toArray vs)) #[] 7 none) I fK fD ac (by omega) aa (Cr hl) rfl rv λs' J=>?_;have q:=h (List.range vs.length) (List.Perm.refl _) (Cs key ab) s';rw[ez] at q;exact q J
 . rw[if_neg h2,if_neg h2];have ab:2<=vs.length:=by simpa using h2
   refine Q0 (Q0y (ask (by omega)) (λκ s' hk=>?_) λ_ _ hF=>hF.elim);obtain⟨rfl,hk⟩:=hk;obtain⟨k1,k2⟩:=js.Cm (key:=key) (n:=vs.length) (by omega)
   refine Q0 (Q0y (W.kat_run (κ:=κ) (ks:=Y) (vs:=vs) (Q:=λU L=>L=s'/\arrOf U=(js.d9 (js.eK key) (W.kas_sort vs.length)).map (W.kas_item ((List.toArray Y).zip vs.toArray))/\failedOf U=none)
    (G:=λp L=>L=s'/\p=js.d9 (js.eK key) (W.kas_sort vs.length)) hl ab aa (λp U L _ a2 a3 a4=>⟨a4.1,by rw[a2,a4.2],a3⟩)
    (js.w6 (f:=js.eK key) (λi j C hi hj q=>hk i j C (by omega) (by omega) q) (js.Ci (by omega)) ⟨rfl,rfl⟩)) ?_ λ_ _ x=>x)
   rintro⟨⟨⟩,U⟩ L ⟨rfl,af,ag⟩
   try dsimp only
   refine xp I fK fD ac (by omega) (by rw[Q09,k1.length_eq,Q10];exact aa) (W.kat_snds hl af) ag (xo rv _) λs' J=>h _ k1 k2 s' J
theorem Cu {prog:Program}{w:World}{A:Around}{E:Value->Shared->Prop}{s:Shared}{l:Addr}{vs:List Value}{Q:List Value->Shared->Prop}(hl:IsTup s.heap l vs.toArray)
 (h:Q vs { s with heap:=(s.heap.push (seqObj "list" #[] 0)).update s.heap.objs.size (Obj.mapSeq (· ++vs.toArray)) }) (hsz:vs.length<=sizeLine):
 wpAny (model prog w) A (collect (.ref l)) Q E s:=by
 obtain⟨o,L,hc,n,U⟩:=id hl;unfold collect;refine Q0 (wpAny_runValue (codeAny_builtin entry_proto_collect' ?_));refine Q0 (wpAny_newList (Q02 ⟨Code.quiet_builtin _ (by decide +kernel),codeAny_builtin entry_list_iadd' ?_⟩));change wpAny _ _ (Builtin.List.listExtendWith (.ref s.heap.objs.size) (.ref l) (.ref s.heap.objs.size)) _ _ { s with heap:=s.heap.push (seqObj "list" #[] 0) };unfold Builtin.List.listExtendWith;have J:(s.heap.push (seqObj "list" #[] 0)).get? l=some o:=Q07 _ L;refine Q0 (wpAny_typeOf (T:="tuple") ⟨o,J,hc⟩ ?_);have Y:(Value.type "tuple" == Value.type "tuple")=true:=by rfl
 rw[if_pos (by rw[Y];simp)];refine Q0 (listItems_at J U ?_);refine Q0 (listItems_at (xs:=#[]) (n:=0) (Q0i _ rfl) rfl ?_);rw[if_neg (by simp)];refine Q0 (listUpdate_at (xs:=#[]) (n:=0) (Q0i _ rfl) rfl ?_ (Q06 _) (by show(#[]++vs.toArray).size<=sizeLine+1;simp only[Q2r,Q0b,Q1r];omega));refine Q02 ?_;refine Q0 (wpAny_load (get?_update_seq (Q0i _ rfl) _) ?_);change wpAny _ _ (pure ((#[]:Array Value)++vs.toArray).toList) Q E _;rw[show((#[]:Array Value)++vs.toArray).toList=vs by simp];exact Q02 h
theorem Cv {E:Value->Shared->Prop}{f a:Addr}{xs:List V}{Q:VK}{W:List V->Hp->Prop}(I:Inv X pins σ H s)(hq:dg X.K H a xs\/c8 X.K H a xs)(au:xs.length<64)(w0:W [] H)
 (turn:∀(pl:List (Addr × Obj)) (s':Shared) (H':Hp) (ks:List V) (y:V) (u:Value),Inv X (pins++pl) σ H' s'->W ks H'->xs[ks.length]? =some y->RelV y u->
   wpAny (model X.prog X.w) X.A.in1.in1 (call (.ref f) [u]) (EP X (pins++pl) σ λk ab=>W (ks++[k]) ab) (λ_ _=>False) s')
 (fin:∀(pl:List (Addr × Obj)) (s':Shared) (H':Hp) (ks:List V) (L:List Value),Inv X (pins++pl) σ H' s'->W ks H'->ks.length=xs.length->Vals ks L->∃(O:KeyOrd) (key:Nat->O.α),Asks X.prog X.w X.A.in1.in1 s' L key/\
   ∀p:List Nat,p.Perm (List.range xs.length)->(p.map key).Pairwise O.kle->∀D,H' D=none->Q (.ref D) (upd H' D (.lst (p.map λi=>xs.getD i .non)))):
 wpAny (model X.prog X.w) X.A (call (.builtin "sorted") [.ref a] [(Str.ofString "key",.ref f)]) (EP X pins σ Q) E s:=by
 obtain⟨vs,rv,am⟩:∃vs,Vals xs vs/\∀{A:Around} {E:Value->Shared->Prop} {Q:List Value->Shared->Prop},Q vs { s with heap:=(s.heap.push (seqObj "list" #[] 0)).update s.heap.objs.size (Obj.mapSeq (· ++vs.toArray)) }->vs.length<=sizeLine->wpAny (model X.prog X.w) A (collect (.ref a)) Q E s:=by
  rcases hq with hq|hq
  . obtain⟨vs,rv,pl,hz⟩:=I.list hq;exact⟨vs,rv,λh1 h2=>collect_list pl.isList h1 h2⟩
  . obtain⟨vs,rv,pl,hz⟩:=I.tuple hq;exact⟨vs,rv,λh1 h2=>Cu pl h1 h2⟩
 have hl:xs.length=vs.length:=rv.length;refine call_function_entry_kw kind_sorted plain_sorted entry_sorted (ksk_s1 _ _) ?_;unfold Builtin.«sorted»;refine Q0 (m:=checkCount "sorted" 1 1 _) (Q02 ?_);refine Q0 (am ?_ (by rw[sizeLine_eq];omega));refine Q0 (wpAny_newList ?_ (by rw[sizeLine_eq];omega))
 have hsz:((s.heap.push (seqObj "list" #[] 0)).update s.heap.objs.size (Obj.mapSeq (· ++vs.toArray))).objs.size=s.heap.objs.size+1:=by
  rw[Q2s,size_push']
 have Y:(((s.heap.push (seqObj "list" #[] 0)).update s.heap.objs.size (Obj.mapSeq (· ++vs.toArray))).push (seqObj "list" vs.toArray 0)).get? (s.heap.objs.size+1)=some (seqObj "list" vs.toArray 0):=by
  rw[<-hsz];exact Q0i _ rfl
 have keep:∀b o,s.heap.get? b=some o->(((s.heap.push (seqObj "list" #[] 0)).update s.heap.objs.size (Obj.mapSeq (· ++vs.toArray))).push (seqObj "list" vs.toArray 0)).get? b=some o:=λb o q=>by
  have ae:b<s.heap.objs.size:=Q03 q;rw[Q2t _ _ _ (by rw[hsz];exact Q0c (Nat.lt_succ_of_lt ae)),Heap.get?_update_ne _ _ _ _ (Q0c ae),Q2t _ _ _ (Q0c ae)];exact q
 show wpAny _ _ _ _ _ { s with heap:=((s.heap.push (seqObj "list" #[] 0)).update s.heap.objs.size (Obj.mapSeq (· ++vs.toArray))).push (seqObj "list" vs.toArray 0) };rw[hsz];generalize hG:((s.heap.push (seqObj "list" #[] 0)).update s.heap.objs.size (Obj.mapSeq (· ++vs.toArray))).push (seqObj "list" vs.toArray 0)=G at Y keep ⊢;have an:G.objs.size=s.heap.objs.size+2:=by rw[<-hG,size_push',hsz]
 have I1:Inv X pins σ H { s with heap:=G }:=I.kept (t':=s.toks) keep;refine Q0 (wpAny_holding (wpAny_call_entry_kw slot_list_sort ⟨_,Y,rfl⟩ entry_list_sort ?body (ksk_l1 _ _)))
 case body=>
  show wpAny (model X.prog X.w) X.A.in1.in1 (Builtin.«list.sort» ⟨[.ref (s.heap.objs.size+1)],[(Str.ofString "key",.ref f)]⟩) _ _ _;rw[ksk_t1];unfold ksk_tree;generalize hD:s.heap.objs.size+1=D at Y ⊢;have ag:s.heap.objs.size<=D:=by omega
  have s1:=Heap.SameBut.update G D (Obj.mapSeq λ_=>(#[]:Array Value));obtain⟨e1,ah⟩:∃e1,(G.update D (Obj.mapSeq λ_=>(#[]:Array Value))).get? D=some (lo [] e1):=⟨_,get?_update_seq Y λ_=>#[]⟩;refine Q0 (listItems_at Y rfl ?_);refine Q0 (listUpdate_at Y rfl ?_ (by rw[Q0b,sizeLine_eq];omega) (Q06 _));refine Q0 (seqEpoch_at ah rfl ?_);refine Q0 (wpAny_newTuple ?_ (by show vs.length<=_;rw[sizeLine_eq];omega));refine Q0 (wpAny_newList ?_ (Q06 _));refine wpAny_holding ?_;show wpAny (model X.prog X.w) X.A.in1.in1 _ _ _ { s with heap:=((G.update D (Obj.mapSeq λ_=>(#[]:Array Value))).push (seqObj "tuple" vs.toArray 0)).push (seqObj "list" #[] 0) };generalize ai:((G.update D (Obj.mapSeq λ_=>(#[]:Array Value))).push (seqObj "tuple" vs.toArray 0)).objs.size=kS;have ar:kS=s.heap.objs.size+3:=by rw[<-ai,size_push',Q2s,an]
  have aj:kS≠D:=by omega
  have U:fV X pins H D:=I.i3 ag (I.hok.fresh ag);have ac:fV X pins H kS:=I.i3 (by omega) (I.hok.fresh (by omega))
  have af:∀b o,b≠D->G.get? b=some o->(((G.update D (Obj.mapSeq λ_=>(#[]:Array Value))).push (seqObj "tuple" vs.toArray 0)).push (seqObj "list" #[] 0)).get? b=some o:=λb o hb q=>
   Q07 _ (Q07 _ ((s1.2 b hb).trans q))
  have I2:Inv X pins σ H { s with heap:=((G.update D (Obj.mapSeq λ_=>(#[]:Array Value))).push (seqObj "tuple" vs.toArray 0)).push (seqObj "list" #[] 0) }:=
   Inv.turned (s:={ s with heap:=G }) (t':=s.toks) (it:=D) I1 af U.1 U.2.1 U.2.2.2.1 U.2.2.2.2.1 U.2.2.2.2.2
  have hK:(((G.update D (Obj.mapSeq λ_=>(#[]:Array Value))).push (seqObj "tuple" vs.toArray 0)).push (seqObj "list" #[] 0)).get? kS=some (lo [] 0):=by rw[<-ai];exact Q0i _ rfl
  have ak:(((G.update D (Obj.mapSeq λ_=>(#[]:Array Value))).push (seqObj "tuple" vs.toArray 0)).push (seqObj "list" #[] 0)).get? D=some (lo [] e1):=Q07 _ (Q07 _ ah);generalize ((G.update D (Obj.mapSeq λ_=>(#[]:Array Value))).push (seqObj "tuple" vs.toArray 0)).push (seqObj "list" #[] 0)=G2 at I2 hK ak ⊢
  have pinned:∀{H':Hp} {s':Shared} {L:List Value} {e:Nat},Inv X pins σ H' s'->s'.heap.get? kS=some (lo L e)->s'.heap.get? D=some (lo [] e1)->H' kS=none->H' D=none->Inv X (pins++[(kS,lo L e),(D,lo [] e1)]) σ H' s':=λ{H' s' L e} J k1 k2 n1 n2=>
   J.ki λp hp=>(List.mem_append.mp hp).elim (λz=>J.pin p (Q01 _ z)) λz=>by
     have z:p=(kS,lo L e)\/p=(D,lo [] e1):=by simpa using z
     rcases z with rfl|rfl
     . exact⟨k1,n1,ac.2.1,ac.2.2.1,by intro v z;cases z⟩
     . exact⟨k2,n2,U.2.1,U.2.2.1,by intro v z;cases z⟩
  have own:∀{H':Hp} {b:Addr},(b=kS\/b=D)->H' b=none->fV X pins H' b:=λ{H' b} hb n=>by
   rcases hb with rfl|rfl
   . exact⟨n,ac.2⟩
   . exact⟨n,U.2⟩
  unfold ksk_rest;refine Q0 (wpAny_rule ?_)
  first
   |rw[Q28]
   |(rw[<-Q2u];simp only[List.toList_toArray])
   |rw[<-Q2u]
  refine Q0 (ksk_fold (λi s'=>∃ks L e H',Inv X (pins++[(kS,lo L e),(D,lo [] e1)]) σ H' s'/\Vals ks L/\ks.length=i/\i<=vs.length/\W ks H') vs 0 _
   ⟨[],[],0,H,pinned I2 hK ak ac.1 U.1,.nil,rfl,Q06 _,w0⟩ (λj x s' hx hJ=>?_) λs' hJ=>?_)
  . obtain⟨ks,L,e,H',J,rk,hi,ao,wk⟩:=hJ;have hi:ks.length=j:=by omega
    have hj:j<vs.length:=(List.getElem?_eq_some_iff.mp hx).1;have al:j<xs.length:=by omega
    obtain⟨u,hu,ru⟩:=rv.get (Q05 al);rw[hx] at hu;cases hu;refine Q0 (wpAny_attempt (Q0y (turn _ s' H' ks (xs[j]) x J wk (by rw[hi];exact Q05 al) ru) (λk aa hk=>?_) λ_ _ hF=>hF.elim));obtain⟨kv,ab,J',ap,w'⟩:=hk;have pk:=J'.pin (kS,lo L e) (Q01 _ (Q01 _ (Q0a)));have pD:=J'.pin (D,lo [] e1) (Q01 _ (Q01 _ (Q04 _ Q0a)));have av:L.length=ks.length:=rk.length.symm;have s2:=Heap.SameBut.update aa.heap kS (Obj.mapSeq (·.push k));have ea:(List.toArray L).push k=List.toArray (L++[k]):=by simp
    obtain⟨c2,aq⟩:∃c2,(aa.heap.update kS (Obj.mapSeq (·.push k))).get? kS=some (lo (L++[k]) c2):=⟨_,by show _=some (seqObj "list" (List.toArray (L++[k])) _);rw[<-ea];exact get?_update_seq pk.1 (·.push k)⟩
    try dsimp only
    refine Q0 (listUpdate_at pk.1 rfl ?_ (by rw[Q0b,sizeLine_eq];omega) (Q0h (Nat.le_of_eq (Q2v ..)) (by rw[Q0b,sizeLine_eq];omega)));have J2:Inv X pins σ ab { aa with heap:=aa.heap.update kS (Obj.mapSeq (·.push k)) }:=J'.jL.own (t':=aa.toks) (own (.inl rfl) pk.2.1) s2;refine Q02 ⟨rfl,ks++[kv],L++[k],c2,ab,pinned J2 aq ((s2.2 D aj.symm).trans pD.1) pk.2.1 pD.2.1,rk.append (.cons ap .nil),by rw[Q08,Q13];omega,by omega,w'⟩
  . obtain⟨ks,L,e,H',J,rk,hi,ao,wk⟩:=hJ;have hi:ks.length=vs.length:=by omega
    have pk:=J.pin (kS,lo L e) (Q01 _ (Q01 _ (Q0a)));have pD:=J.pin (D,lo [] e1) (Q01 _ (Q01 _ (Q04 _ Q0a)))
    try dsimp only
    refine Q0 (listItems_at pk.1 rfl ?_);obtain⟨O,key,ask,q⟩:=fin _ s' H' ks L J wk (by omega) rk;refine Ct J (own (.inl rfl) pk.2.1) (own (.inr rfl) pD.2.1) aj (by rw[<-rk.length];exact hi) (by omega) rv ask λp p1 p2 aa J'=>?_;exact⟨_,rfl,Q02 ⟨_,rfl,.ref D,_,J',rfl,q p (by rw[hl];exact p1) p2 D pD.2.1⟩⟩
theorem Cw {E:Value->Shared->Prop}{f a:Addr}{xs:List V}{Q:VK}{W:List V->Hp->Prop}(I:Inv X pins σ H s)(Y:dg X.K H a xs)(J:xs.length<64)(w0:W [] H)
 (turn:∀(pl:List (Addr × Obj)) (s':Shared) (H':Hp) (ks:List V) (y:V) (u:Value),Inv X (pins++pl) σ H' s'->W ks H'->xs[ks.length]? =some y->RelV y u->
   wpAny (model X.prog X.w) X.A.in1.in1 (call (.ref f) [u]) (EP X (pins++pl) σ λk L=>W (ks++[k]) L) (λ_ _=>False) s')
 (fin:∀(pl:List (Addr × Obj)) (s':Shared) (H':Hp) (ks:List V) (U:List Value),Inv X (pins++pl) σ H' s'->W ks H'->ks.length=xs.length->Vals ks U->∃(O:KeyOrd) (key:Nat->O.α),Asks X.prog X.w X.A.in1.in1 s' U key/\
   ∀p:List Nat,p.Perm (List.range xs.length)->(p.map key).Pairwise O.kle->∀D,H' D=none->Q (.ref D) (upd H' D (.lst (p.map λi=>xs.getD i .non)))):
 wpAny (model X.prog X.w) X.A (call (.builtin "sorted") [.ref a] [(Str.ofString "key",.ref f)]) (EP X pins σ Q) E s:=Cv I (.inl Y) J w0 turn fin
end
noncomputable def gy:Key->Key->Bool
 | .inl i,.inl j=>decide (i<j)
 | .inl _,.inr _=>true
 | .inr _,.inl _=>false
 | .inr x,.inr y=>decide (x.cps.toList<y.cps.toList)
theorem Cy (a:Key):gy a a=false:=by
 cases a with
 |inl i=>simp[gy]
 |inr x=>simpa[gy] using Q2w x.cps.toList
theorem Cz {a b c:Key}(h1:gy a b=true)(h2:gy b c=true):gy a c=true:=by
 cases a <;> cases b <;> cases c <;> simp only[gy,decide_eq_true_eq,Bool.false_eq_true] at * <;> first|omega|exact List.lt_trans h1 h2
theorem CA {x y:Str}(h:x.cps.toList=y.cps.toList):x=y:=by
 cases x;cases y;simp only[Str.mk.injEq];exact Array.toList_inj.mp h
theorem CC (a b:Key):gy a b=true\/a=b\/gy b a=true:=by
 cases a with
 |inl i=>
  cases b with
  |inl j=>
   simp only[gy,decide_eq_true_eq];rcases Int.lt_trichotomy i j with h|h|h
   . exact .inl h
   . exact .inr (.inl (by rw[h]))
   . exact .inr (.inr h)
  |inr y=>exact .inl rfl
 |inr x=>
  cases b with
  |inl j=>exact .inr (.inr rfl)
  |inr y=>
   simp only[gy,decide_eq_true_eq];by_cases h1:x.cps.toList<y.cps.toList
   . exact .inl h1
   . by_cases h2:y.cps.toList<x.cps.toList
     . exact .inr (.inr h2)
     . exact .inr (.inl (by rw[CA (List.le_antisymm (List.not_lt.mp h2) (List.not_lt.mp h1))]))
theorem CD {a b:Key}(h:gy a b=true):a≠b:=λe=>by
 rw[e,Cy] at h;cases h
noncomputable def eY:List Key->List Key->Bool
 |[],[]=>false
 |[],_::_=>true
 |_::_,[]=>false
 |x::xs,y::ys=>if x=y then eY xs ys else gy x y
theorem oo:∀a:List Key,eY a a=false
 |[]=>rfl
 |x::xs=>by
  show(if x=x then eY xs xs else gy x x)=false;rw[if_pos rfl];exact oo xs
theorem ly (x y:Key)(xs ys:List Key):eY (x::xs) (y::ys)=if x=y then eY xs ys else gy x y:=rfl
theorem lz:∀(a b c:List Key),eY a b=true->eY b c=true->eY a c=true
 |[],[],_,h,_=>by cases h
 |[],_::_,[],_,h=>by cases h
 |[],_::_,_::_,_,_=>rfl
 |_::_,[],_,h,_=>by cases h
 |_::_,_::_,[],_,h=>by cases h
 |x::xs,y::ys,z::zs,h1,h2=>by
  rw[ly] at *;by_cases L:x=y
  . subst L;rw[if_pos rfl] at h1;by_cases J:x=z
    . rw[if_pos J] at h2 ⊢;exact lz xs ys zs h1 h2
    . rw[if_neg J] at h2 ⊢;exact h2
  . rw[if_neg L] at h1;by_cases J:y=z
    . subst J;rw[if_neg L];exact h1
    . rw[if_neg J] at h2;have q:=Cz h1 h2;rw[if_neg (CD q)];exact q
theorem mB:∀a b:List Key,eY a b=true\/a=b\/eY b a=true
 |[],[]=>.inr (.inl rfl)
 |[],_::_=>.inl rfl
 |_::_,[]=>.inr (.inr rfl)
 |x::xs,y::ys=>by
  rw[ly,ly];by_cases e:x=y
  . subst e;rw[if_pos rfl,if_pos rfl];rcases mB xs ys with h|h|h
    . exact .inl h
    . exact .inr (.inl (by rw[h]))
    . exact .inr (.inr h)
  . rw[if_neg e,if_neg (λz=>e z.symm)];rcases CC x y with h|h|h
    . exact .inl h
    . exact absurd h e
    . exact .inr (.inr h)
@[reducible] noncomputable def oq:KeyOrd where
  α:=List Key
  blt:=eY
  irrefl:=oo
  trans:=lz
  negTrans a b c h:=by
   rcases mB a b with q|q|q
   . exact .inl q
   . exact .inr (by rw[<-q];exact h)
   . exact .inr (lz b a c q h)
  total a b h1 h2:=by
   rcases mB a b with q|q|q
   . rw[h1] at q;cases q
   . exact q
   . rw[h2] at q;cases q
def g_ (a b:List Key):Prop:=eY b a=false
noncomputable def fb:Key->Bool
 | .inl _=>true
 | .inr _=>false
def xq (J:List (List Key)):Prop:=∃L:List Bool,L≠[]/\∀U∈J,U.map fb=L
def lA (H:Hp):List V->List (List Key)->Prop:=Paired λk J=>∃p,k=.ref p/\H p=some (.tup (J.map kV))
section
variable {X:Cx}{pins:List (Addr × Obj)}{σ:St}{H:Hp}{s:Shared}
theorem kA {k:Key}{u:Value}(r:RelV (kV k) u):(∃i t,k=.inl i/\u=.int i t)\/∃x t,k=.inr x/\u=.str x t:=by
 cases k with
 |inl i=>
  obtain⟨t,rfl⟩:=r;exact .inl ⟨i,t,rfl,rfl⟩
 |inr x=>
  obtain⟨t,rfl⟩:=r;exact .inr ⟨x,t,rfl,rfl⟩
theorem qo {prog:Program}{w:World}{A:Around}{C:Bool->Shared->Prop}:∀(U Y:List Key) (J L:List Value) (i:Nat),Vals (U.map kV) J->Vals (Y.map kV) L->U.map fb=Y.map fb->C (eY U Y) s->
 W.KatLex prog w A true false C (J.zip L) i s
 |[],[],J,L,i,r1,r2,_,q=>by
  cases r1;cases r2;exact W.kat_nil q
 |[],_::_,_,_,_,_,_,h,_=>by cases h
 |_::_,[],_,_,_,_,_,h,_=>by cases h
 |x::xs,y::ys,J,L,i,r1,r2,h,q=>by
  cases r1 with
  |cons a1 b1=>
  cases r2 with
  |cons a2 b2=>
  have h1:fb x=fb y:=(List.cons.inj h).1;have h2:xs.map fb=ys.map fb:=(List.cons.inj h).2;rw[ly] at q;rcases kA a1 with⟨m,t,rfl,rfl⟩|⟨m,t,rfl,rfl⟩ <;> rcases kA a2 with⟨n,t',rfl,rfl⟩|⟨n,t',rfl,rfl⟩
  . refine W.kat_cons (wpAny_eqBool_int ?_);by_cases e:m=n
    . subst e;rw[if_pos rfl] at q;rw[beq_self_eq_true];exact W.kat_yes (qo xs ys _ _ (i+1) b1 b2 h2 q)
    . rw[if_neg (λz=>e (Sum.inl.inj z))] at q;rw[beq_false_of_ne e];refine W.kat_no ?_
      cases hi:(i == 0) with
      |true=>exact oneLt_int q
      |false=>exact W.kat_one _ _ (lt_int q)
  . cases h1
  . cases h1
  . refine W.kat_cons (wpAny_eqBool_str ?_);by_cases e:m=n
    . subst e;rw[if_pos rfl] at q;rw[decide_eq_true rfl];exact W.kat_yes (qo xs ys _ _ (i+1) b1 b2 h2 q)
    . rw[if_neg (λz=>e (Sum.inr.inj z))] at q;rw[decide_eq_false e];refine W.kat_no ?_
      cases hi:(i == 0) with
      |true=>exact oneLt_str q
      |false=>exact W.kat_one _ _ (lt_str q)
theorem xr {ks:List V}{U:List Value}{J:List (List Key)}(I:Inv X pins σ H s)(r:Vals ks U)(hk:lA H ks J){i:Nat}(hi:i<U.length):
 ∃p L,U.getD i Value.none=.ref p/\IsTup s.heap p (List.toArray L)/\Vals ((J.getD i []).map kV) L/\J.getD i []∈J:=by
 have hl:=r.length;have aa:ks.length=J.length:=Paired.length hk;have e1:ks[i]? =some (ks[i]'(by omega)):=Q05 (by omega);obtain⟨u,hu,Y⟩:=r.get e1;have e2:J.getD i []=J[i]'(by omega):=by rw[Q0j,Q05 (by omega)];rfl
 have key:∀(ks:List V) (J:List (List Key)),lA H ks J->∀i (h1:i<ks.length) (h2:i<J.length),∃p,ks[i]=.ref p/\H p=some (.tup (J[i].map kV)):=by
  intro ks J hk
  induction hk with
  |nil=>intro i h1;simp at h1
  |cons a b ih=>
   intro i h1 h2
   cases i with
   |zero=>exact a
   |succ i=>simpa using ih i (by simpa using h1) (by simpa using h2)
 obtain⟨p,hp,hH⟩:=key ks J hk i (by omega) (by omega);rw[hp] at Y
 cases Y;obtain⟨L,rv,tp,_⟩:=I.tuple (c8.of hH);refine⟨p,L,by rw[Q0j,hu];rfl,tp,by rw[e2];exact rv,by rw[e2];exact Q14 _⟩
theorem xt (I:Inv X pins σ H s){t:Bool}:∀{ks:List V}{L:List Value}{J:List (List Key)},Vals ks L->lA H ks J->(∀U∈J,∃k r,U=k::r/\fb k=t)->
 ∃fs,W.KatTups s.heap L fs/\fs.length=L.length/\∀v∈fs,(t=true/\∃i tk,v=.int i tk)\/(t=false/\∃x tk,v=.str x tk)
 |_,_,_,.nil,.nil,_=>⟨[],W.KatTups.nil,rfl,λv hv=>nomatch hv⟩
 |_,_,_,.cons a r,.cons b q,h=>by
  obtain⟨p,rfl,hp⟩:=b
  cases a;obtain⟨fs,Y,f2,f3⟩:=xt I r q λU hm=>h U (Q04 _ hm);obtain⟨k,rr,rfl,hk⟩:=h _ Q0a;obtain⟨aa,rv,⟨o,ho,hc,n,hd⟩,_⟩:=I.tuple (c8.of hp)
  cases rv with
  |cons a1 b1=>
   refine⟨_::fs,W.KatTups.cons ho hc hd (by simp;rfl) Y,by rw[Q0e,Q0e,f2],λv hv=>?_⟩;rcases List.mem_cons.mp hv with e|e
   . subst e;rcases kA a1 with⟨i,tk,rfl,rfl⟩|⟨x,tk,rfl,rfl⟩
     . exact .inl ⟨hk.symm,i,tk,rfl⟩
     . exact .inr ⟨hk.symm,x,tk,rfl⟩
   . exact f3 v e
theorem CF {A:Around}{ks:List V}{U:List Value}{J:List (List Key)}(I:Inv X pins σ H s)(r:Vals ks U)(hk:lA H ks J)(ab:xq J):Asks X.prog X.w A s U (O:=oq) (λi=>J.getD i []):=by
 intro h2;obtain⟨ts,ac,L⟩:=ab
 obtain⟨t,tr,rfl⟩:∃t tr,ts=t::tr:=by
  cases ts with
  |nil=>exact absurd rfl ac
  |cons t tr=>exact⟨t,tr,rfl⟩
 have hh:∀kl∈J,∃k r,kl=k::r/\fb k=t:=λkl hm=>by
  have e:=L kl hm
  cases kl with
  |nil=>cases e
  |cons k r=>exact⟨k,r,rfl,(List.cons.inj e).1⟩
 obtain⟨fs,f1,f2,f3⟩:=xt I r hk hh
 have fin:∀(i j:Nat) (C:Bool->Shared->Prop),i<U.length->j<U.length->C (eY (J.getD i []) (J.getD j [])) s->W.kas_ask X.prog X.w A (tuples' true) U i j C s:=by
  intro i j C hi hj q;unfold W.kas_ask;obtain⟨p,Y,e1,⟨o,ho,hc,n,hd⟩,rv,m1⟩:=xr I r hk hi;obtain⟨p',its',ae,⟨o',af,ah,n',ag⟩,aa,m2⟩:=xr I r hk hj;rw[e1,ae];have ht:(J.getD i []).map fb=(J.getD j []).map fb:=(L _ m1).trans (L _ m2).symm
  have hl:Y.length=its'.length:=by
   have:=congrArg List.length ht;rw[Q09,Q09] at this;rw[<-rv.length,<-aa.length,Q09,Q09,this]
  refine W.kat_lt ho hd af ag ?_;have ef:decide ((List.toArray Y).size<(List.toArray its').size)=false:=by rw[Q0b,Q0b,hl];simp
  rw[ef];exact qo _ _ _ _ 0 rv aa ht q
 cases t with
 |true=>
  refine W.kat_kind (T:=.type "int") f1 (by omega) (λv hv=>?_) rfl ⟨rfl,fin⟩;rcases f3 v hv with⟨_,i,tk,rfl⟩|⟨z,_⟩
  . exact W.Looks.of_pure rfl
  . cases z
 |false=>
  refine W.kat_kind (T:=.type "str") f1 (by omega) (λv hv=>?_) rfl ⟨rfl,fin⟩;rcases f3 v hv with⟨z,_⟩|⟨_,x,tk,rfl⟩
  . cases z
  . exact W.Looks.of_pure rfl
end
section
variable {X:Cx}
end
noncomputable def xu (K:W.Frag) (a b:Addr):It:=
 ⟨λi H=>∃xs ys x y,dg K H a xs/\dg K H b ys/\xs[i]? =some x/\ys[i]? =some y,
  λi H v H'=>∃p x y,H p=none/\v=.ref p/\(∀xs,dg K H a xs->xs[i]? =some x)/\(∀ys,dg K H b ys->ys[i]? =some y)/\H'=upd H p (.tup [x,y]),
  λi H=>∃xs ys,dg K H a xs/\dg K H b ys/\(xs.length<=i\/ys.length<=i)⟩
theorem CG {P:Program}{w:World}{K:W.Frag}{ai:List Expr}{k:Nat}{tpos:Pos}{z TI TO J L l1 l2:Addr}(D:ZipApart z TI TO J L l1 l2):
 Turn P w K (.Tuple ai k tpos) (xu K l1 l2) [z,TI,TO,J,L] z (λi h=>∃oa ob,IsZip h z TI TO .none/\IsPair h TI (.ref J) (.ref L)/\IsPair h TO oa ob/\h.IsListIter J l1 i/\h.IsListIter L l2 i) where
 mem:=by simp
 obj:=λi h st b U=>by
  obtain⟨oa,ob,h1,h2,h3,h4,h5⟩:=st;have U:b=z\/b=TI\/b=TO\/b=J\/b=L:=by simpa using U
  rcases U with rfl|rfl|rfl|rfl|rfl
  . exact⟨_,h1,λv y=>by
     have y:Data.fields _=Data.cell v:=y
     cases y⟩
  . exact⟨_,h2,λv y=>by
     have y:Data.seq _ _=Data.cell v:=y
     cases y⟩
  . exact⟨_,h3,λv y=>by
     have y:Data.seq _ _=Data.cell v:=y
     cases y⟩
  . obtain⟨o,q,c,d⟩:=h4;exact⟨o,q,λv y=>by rw[d] at y;cases y⟩
  . obtain⟨o,q,c,d⟩:=h5;exact⟨o,q,λv y=>by rw[d] at y;cases y⟩
 keep:=λi h h' st k=>by
  obtain⟨oa,ob,h1,h2,h3,h4,h5⟩:=st;exact⟨oa,ob,k z (by simp) _ h1,k TI (by simp) _ h2,k TO (by simp) _ h3,h4.at λo q=>k J (by simp) o q,h5.at λo q=>k L (by simp) o q⟩
 item:=by
  intro X hP hw hK hc i pins s σ H E I Y st hg;subst hP hw hK;obtain⟨oa,ob,h1,h2,h3,h4,h5⟩:=st;obtain⟨xs,ys,x,y,aa,ab,hx,hy⟩:=hg;obtain⟨aj,ae,p1,am⟩:=I.list aa;obtain⟨ak,af,p2,an⟩:=I.list ab;obtain⟨u1,ao,ap⟩:=ae.get hx;obtain⟨u2,aq,ar⟩:=af.get hy;have fr:H s.heap.objs.size=none:=I.hok.fresh (Q00 _);refine wpAny_pyNext_zip_item D h1 h2 h3 h4 h5 p1.isList p2.isList (x:=u1) (y:=u2) (by simpa using ao) (by simpa using aq) λh' q1 q2 q3 q4 q5 q6 q7=>?_;refine⟨_,rfl,wpAny_letOwnedTupleGo_zip (s:={ s with heap:=h' }) q1 λac g1 g2=>?_⟩
  have au:∀b∈[z,TI,TO,J,L],b<s.heap.objs.size:=λb U=>by
   have U:b=z\/b=TI\/b=TO\/b=J\/b=L:=by simpa using U
   rcases U with rfl|rfl|rfl|rfl|rfl
   . exact Q03 h1
   . exact Q03 h2
   . exact Q03 h3
   . obtain⟨o,q,_⟩:=h4;exact Q03 q
   . obtain⟨o,q,_⟩:=h5;exact Q03 q
  have av:∀b o,s.heap.get? b=some o->b≠s.heap.objs.size:=λb o q=>Q0c (Q03 q);have kk:∀b o,b≠z->b≠TO->b≠J->b≠L->s.heap.get? b=some o->ac.get? b=some o:=λb o n1 n2 n3 n4 q=>g2.extBut b o n1 (q7 b o n1 n2 n3 n4 q);have kn:∀b o,b ∉ [z,TO,J,L]->s.heap.get? b=some o->ac.get? b=some o:=λb o n q=>kk b o (λy=>n (by simp[y])) (λy=>n (by simp[y])) (λy=>n (by simp[y])) (λy=>n (by simp[y])) q;have tup:ac.get? s.heap.objs.size=some { cls:=.type "tuple",data:=.seq #[u1,u2] }:=g2.extBut _ _ (Q0d (Q03 h1)) q5
  have I1:Inv X pins σ (upd H s.heap.objs.size (.tup [x,y])) { s with heap:=ac }:=by
   refine I.step (g':=s.gens) (d':=s.drawn) (t':=s.toks) (ch:=[z,TO,J,L]) (λb U=>?_) (λb o _ _ hc q _=>kn b o hc q) (λb o _ _ hc q _=>⟨o.slots,kn b o hc q⟩) (λb o _ q n=>?_) (λb o hc q=>⟨o,kn b o hc q⟩) (λb ws q=>?_) (λb o v q=>?_) (λb ps q=>?_) (λm hm=>?_) (λb o q=>?_) I.bare
   . have ag:b∈[z,TI,TO,J,L]:=by
      have U:b=z\/b=TO\/b=J\/b=L:=by simpa using U
      rcases U with rfl|rfl|rfl|rfl <;> simp
     obtain⟨f0,f1,f2,f3,f4,f5⟩:=Y b ag;exact⟨f3,f1,f4,f5⟩
   . rw[dh (av b o q)];exact n
   . rw[dh (dN q fr)];exact q
   . rw[dh (dN q fr)];exact q
   . exact⟨#[],by rw[dh (dN q fr),q];simp⟩
   . obtain⟨o,es,ep,ho,r⟩:=hm;exact⟨o,es,ep,kk _ o (Ne.symm (Y z (by simp)).2.1) (Ne.symm (Y TO (by simp)).2.1) (Ne.symm (Y J (by simp)).2.1) (Ne.symm (Y L (by simp)).2.1) ho,r⟩
   . by_cases U:b=s.heap.objs.size
     . subst U;rw[de] at q;cases q;exact⟨pq,[u1,u2],.cons ap (.cons ar .nil),⟨_,tup,rfl,_,rfl⟩⟩
     . rw[dh U] at q
       have nn:∀c v,H c=some v->c ∉ [z,TO,J,L]:=λc v e hm=>by
        have aw:c∈[z,TI,TO,J,L]:=by
         have hm:c=z\/c=TO\/c=J\/c=L:=by simpa using hm
         rcases hm with rfl|rfl|rfl|rfl <;> simp
        have:=(Y c aw).1;rw[e] at this;cases this
       refine(I.hok b o q).stay (λc v ah y=>kn c v ?_ y) (λc y=>by rw[dh (dN y fr)];exact y) λc ws y=>by rw[dh (dN y fr)];exact y
       rcases ah with y|y
       . rw[y];exact nn b o q
       . exact nn c _ y
  refine⟨.ref s.heap.objs.size,_,I1,rfl,⟨s.heap.objs.size,x,y,fr,rfl,λws hw=>by rw[I.nH hw aa];exact hx,λws hw=>by rw[I.nH hw ab];exact hy,rfl⟩,⟨u1,u2,g1,?_,?_,?_,?_⟩,λb U=>?_⟩
  . exact kk TI _ D.TIz D.TITO D.TIi1 D.TIi2 h2
  . exact g2.extBut _ _ D.TOz q2
  . exact q3.at λo q=>g2.extBut _ _ D.i1z q
  . exact q4.at λo q=>g2.extBut _ _ D.i2z q
  . rw[dh (Q0c (au b U))];exact(Y b U).1
 done:=by
  intro X hP hw hK hc i pins s σ H E I Y st hg;subst hP hw hK;obtain⟨oa,ob,h1,h2,h3,h4,h5⟩:=st;obtain⟨xs,ys,aa,ab,al⟩:=hg;obtain⟨aj,ae,p1,am⟩:=I.list aa;obtain⟨ak,af,p2,an⟩:=I.list ab;have e1:=ae.length;have e2:=af.length
  refine wpAny_pyNext_zip_end (I.ok.hd hc) D h1 h2 h3 h4 h5 p1.isList p2.isList (by
   rcases al with q|q
   . exact .inl (by simp;omega)
   . exact .inr (by simp;omega)) λh' hk=>⟨rfl,?_⟩
  refine I.step (g':=s.gens) (d':=s.drawn) (t':=s.toks) (ch:=[z,TO,J,L]) (λb U=>?_) (λb o _ _ hc q _=>?_) (λb o _ _ hc q _=>?_) (λb o _ q n=>n) (λb o hc q=>?_) (λb ys q=>q) (λb o v q=>q) (λb ps q=>⟨#[],by rw[q];simp⟩) (λm hm=>?_) (λb o q=>?_) I.bare
  . have ag:b∈[z,TI,TO,J,L]:=by
     have U:b=z\/b=TO\/b=J\/b=L:=by simpa using U
     rcases U with rfl|rfl|rfl|rfl <;> simp
    obtain⟨f0,f1,f2,f3,f4,f5⟩:=Y b ag;exact⟨f3,f1,f4,f5⟩
  . exact hk b o (λy=>hc (by simp[y])) (λy=>hc (by simp[y])) (λy=>hc (by simp[y])) (λy=>hc (by simp[y])) q
  . exact⟨o.slots,hk b o (λy=>hc (by simp[y])) (λy=>hc (by simp[y])) (λy=>hc (by simp[y])) (λy=>hc (by simp[y])) q⟩
  . exact⟨o,hk b o (λy=>hc (by simp[y])) (λy=>hc (by simp[y])) (λy=>hc (by simp[y])) (λy=>hc (by simp[y])) q⟩
  . obtain⟨o,es,ep,ho,r⟩:=hm;exact⟨o,es,ep,hk _ o (Ne.symm (Y z (by simp)).2.1) (Ne.symm (Y TO (by simp)).2.1) (Ne.symm (Y J (by simp)).2.1) (Ne.symm (Y L (by simp)).2.1) ho,r⟩
  . have nn:∀c v,H c=some v->∀y∈[z,TI,TO,J,L],c≠y:=λc v e y hy=>dN e (Y y hy).1;refine(I.hok b o q).stay (λc v ah y=>hk c v ?_ ?_ ?_ ?_ y) (λ_ y=>y) λ_ _ y=>y <;> (rcases ah with y|y)
    all_goals first
     |(rw[y];exact nn b o q _ (by simp))
     |exact nn c _ y _ (by simp)
 self:=λA i s Q E st q=>by
  obtain⟨oa,ob,h1,_⟩:=st;exact wpAny_pyIter_zip h1 q
def CH (K:W.Frag) (ta:TA):TI:=λσ H R=>ta σ H λvs H1=>∃a b,vs=[.ref a,.ref b]/\(∃xs,dg K H1 a xs)/\(∃ys,dg K H1 b ys)/\R (xu K a b) H1
section
variable {X:Cx}
theorem CI {aa:List Expr}{k:Nat}{tpos:Pos}{a b:Expr}{ta:TA}{p pos:Pos}(hg:Gl X "zip")(hm:X.mg "zip"=none)(ha:PA X [a,b] ta)(hs:starEach [a,b] X.env=[(false,eval a X.env),(false,eval b X.env)]:=by rfl)
 (Y:starEach [b] X.env=[(false,eval b X.env)]:=by rfl):PI X (.Tuple aa k tpos) (.Call (.Name "zip" p) [a,b] [] pos) (CH X.K ta):=by
 intro pins s σ H R I h;refine Call_ (iZ I hg hm boot_zip (PyProof.Rows.callWith_type1 (dH (ha pos pins s σ H _ I h) λus J zq=>?_) (by rw[hs,Y]) (by rw[Y];rfl)));obtain⟨vs,H1,U,r1,q1⟩:=zq;obtain⟨l1,l2,e,⟨xs,ab⟩,⟨ys,ac⟩,q⟩:=q1;subst e;obtain⟨u1,u2,rfl,ae,af⟩:=vals2 r1
 cases ae
 cases af;obtain⟨ag,ai,p1,aj⟩:=U.list ab;obtain⟨ah,ak,p2,al⟩:=U.list ac;have a1:l1<J.heap.objs.size:=by obtain⟨_,e,_⟩:=p1.isList;exact Q03 e
 have a2:l2<J.heap.objs.size:=by obtain⟨_,e,_⟩:=p2.isList;exact Q03 e
 refine call_zip_2 p1.isList p2.isList λh' q1 q2 q3 q4 q5 q6 q7=>?_;refine wpAny_pyIter_zip q1 ?_;have I2:Inv X pins σ H1 { J with heap:=h' }:=U.kept (t':=J.toks) q7
 have Dz:ZipApart (J.heap.objs.size+4) (J.heap.objs.size+2) (J.heap.objs.size+3) J.heap.objs.size (J.heap.objs.size+1) l1 l2:=by
  have b1:@LT.lt Nat _ l1 J.heap.objs.size:=a1;have b2:@LT.lt Nat _ l2 J.heap.objs.size:=a2;constructor <;> (intro z;have z':(_:Nat)=_:=z;omega)
 refine⟨J.heap.objs.size+4,[J.heap.objs.size+4,J.heap.objs.size+2,J.heap.objs.size+3,J.heap.objs.size,J.heap.objs.size+1],_,_,H1,rfl,I2,CG Dz,⟨.none,.none,q1,q2,q3,q4,q5⟩,λb L=>?_,q⟩
 have L:J.heap.objs.size<=b:=by
  have L:b=J.heap.objs.size+4\/b=J.heap.objs.size+2\/b=J.heap.objs.size+3\/b=J.heap.objs.size\/b=J.heap.objs.size+1:=by simpa using L
  rcases L with z|z|z|z|z <;> rw[z]
  . exact Q0q _ _
  . exact Q0q _ _
  . exact Q0q _ _
  . exact Q00 _
  . exact Q0q _ _
 exact U.i3 L (U.hok.fresh L)
end
end L2
namespace HT
open PyProof.Rows L2
section
open SeqAt
open PySem.AutoSeq1 (wpAny_loadPart')
open MeetsSeq MeetsSeq2 MeetsSeq3
inductive KeysAre:List Value->List Key->Prop
 |nil:KeysAre [] []
 |cons {u:Value} {k:Key} {us:List Value} {ks:List Key}:RelV (kV k) u->KeysAre us ks->KeysAre (u::us) (k::ks)
theorem KeysAre.of:∀{ks:List Key}{J:List Value},Vals (ks.map kV) J->KeysAre J ks
 |[],_,r=>by cases r;exact .nil
 |k::ks,_,r=>by
  cases r with
  |cons a b=>exact .cons a (KeysAre.of b)
theorem KeysAre.length:∀{J:List Value}{ks:List Key},KeysAre J ks->J.length=ks.length
 |_,_,.nil=>rfl
 |_,_,.cons _ h=>by rw[Q0e,Q0e,h.length]
theorem CJ (A:Around)(s:Shared){k j:Key}{u v:Value}(r:RelV (kV k) u)(q:RelV (kV j) v)(J:fb k=fb j):∃e,SeqAt.EqAt A s u v e/\(e=true↔k=j):=by
 rcases kA r with⟨m,t,rfl,rfl⟩|⟨m,t,rfl,rfl⟩ <;> rcases kA q with⟨n,t',rfl,rfl⟩|⟨n,t',rfl,rfl⟩
 . exact⟨m == n,SeqAt.EqAt.int_int m t n t',by simp⟩
 . cases J
 . cases J
 . exact⟨m == n,SeqAt.EqAt.str_str m t n t',by simp⟩
theorem CK (A:Around)(s:Shared){k j:Key}{u v:Value}(r:RelV (kV k) u)(q:RelV (kV j) v)(J:fb k=fb j)(prog:Program)(w:World)(E:Value->Shared->Prop)(Q:Value->Shared->Prop)(h:Q (.bool (!gy j k)) s):
 wpAny (model prog w) A (richCompare .LtE u v) Q E s:=by
 rcases kA r with⟨m,t,rfl,rfl⟩|⟨m,t,rfl,rfl⟩ <;> rcases kA q with⟨n,t',rfl,rfl⟩|⟨n,t',rfl,rfl⟩
 . have e:(!gy (.inl n) (.inl m))=decide (m<=n):=by
    show(!decide (n<m))=decide (m<=n);rw[<-decide_not];exact decide_eq_decide.mpr Int.not_lt
   rw[e] at h;exact(PyProof.Rows.le_int h:wpAny (model prog w) A (compareOp .LtE (.int m t) (.int n t')) Q E s)
 . cases J
 . cases J
 . exact(PySem.P.le_str h:wpAny (model prog w) A (compareOp .LtE (.str m t) (.str n t')) Q E s)
theorem CL (l b:Addr)(items J:Array Value)(n n2:Nat)(dd ai:Option Addr)(sl aj:Array (Option Value))(ns ms:List Key)(hi:KeysAre items.toList ns)(hj:KeysAre J.toList ms)(ht:ns.map fb=ms.map fb):
 Meets (Builtin.«tuple.__le__» ⟨[.ref l,.ref b],[]⟩)
  (λ_ R s=>s.heap.get? l=some { cls:=.type "tuple",dict:=dd,data:=.seq items n,slots:=sl }/\s.heap.get? b=some { cls:=.type "tuple",dict:=ai,data:=.seq J n2,slots:=aj }/\
    R (.ok (.ret (.bool (!eY ms ns)))) s):=
 .of_wp λprog w A R s h=>by
   obtain⟨hp,g,d,tk,os⟩:=s;obtain⟨hl,hb,h⟩:=h;have f2:=AutoSeq1.sub_tuple_tuple;have z1:items.size=ns.length:=by rw[<-hi.length];simp
   have z2:J.size=ms.length:=by rw[<-hj.length];simp
   have z3:ns.length=ms.length:=by have:=congrArg List.length ht;simpa using this
   wp_walk using wpAny_loadPart' hl,wpAny_loadPart' hb,wpAny_forIn_list _ (λrest b s'=>b.1=none/\s'=⟨hp,g,d,tk,os⟩/\∃(vs ws:List Value) (U Y:List Key),rest=vs.zip ws/\
    KeysAre vs U/\KeysAre ws Y/\U.map fb=Y.map fb/\R (.ok (.ret (.bool (!eY Y U)))) ⟨hp,g,d,tk,os⟩) _
   case turn=>
    rintro⟨y,x⟩ rest b s' ⟨ac,rfl,vs,ws,U,Y,hz,ae,aa,L,hR⟩
    cases ae with
    |nil=>rw[List.zip_nil_left] at hz;cases hz
    |cons a ag=>
     cases aa with
     |nil=>rw[List.zip_nil_right] at hz;cases hz
     |cons c ah=>
      rw[Q2x] at hz;injection hz with ak af
      injection ak with hy hx
      subst hy hx;rw[ly] at hR;have t1:=(List.cons.inj L).1;have t2:=(List.cons.inj L).2;obtain⟨e,he,ab⟩:=CJ A.in1 ⟨hp,g,d,tk,os⟩ a c t1;refine Q0 (he prog w _ _ ?_)
      cases e with
      |true=>
       rw[if_pos (ab.mp rfl).symm] at hR
       wp_walk
       exact⟨rfl,rfl,_,_,_,_,af,ag,ah,t2,hR⟩
      |false=>
       rw[if_neg (λq=>absurd (ab.mpr q.symm) Bool.false_ne_true)] at hR;have al:=CK A.in1 ⟨hp,g,d,tk,os⟩ a c t1 prog w
       wp_walk using al
       exact⟨_,rfl,by simpa using hR⟩
   case fin=>
    rintro⟨b1,b2⟩ s' ⟨ac,rfl,vs,ws,U,Y,hz,ae,aa,L,hR⟩;simp only at ac;subst ac
    have hv:(!eY Y U)=decide (items.size<=J.size):=by
     cases ae with
     |nil=>
      cases aa with
      |nil=>exact(decide_eq_true (by omega)).symm
      |cons c hw=>cases L
     |cons a hv=>
      cases aa with
      |nil=>cases L
      |cons c hw=>
       rw[Q2x] at hz
       cases hz
    rw[hv] at hR
    wp_walk
    exact⟨_,rfl,by simpa[Builtin.Tuple.tupleCompareSizes] using hR⟩
   case h=>
    exact⟨rfl,rfl,items.toList,J.toList,ns,ms,rfl,hi,hj,ht,h⟩
end
section
variable {prog:Program}{w:World}{A:Around}{E:Value->Shared->Prop}{s:Shared}
theorem CM {l b:Addr}{items J:Array Value}{ns ms:List Key}{Q:Value->Shared->Prop}(hl:IsTup s.heap l items)(hb:IsTup s.heap b J)(hi:KeysAre items.toList ns)(hj:KeysAre J.toList ms)(ht:ns.map fb=ms.map fb)
 (hu:A.units<cLine) (h:Q (.bool (!eY ms ns)) s):wpAny (model prog w) A (compareOp .LtE (.ref l) (.ref b)) Q E s:=by
 obtain⟨⟨cls,dd,data,sl⟩,ho,hc,n,hd⟩:=id hl;obtain⟨⟨ac,aa,data2,ab⟩,L,U,n2,Y⟩:=id hb;simp only at hc hd U Y;subst hc hd U Y
 exact richCompare_meets_room (op:=.LtE) ⟨_,ho,rfl⟩ ⟨_,L,rfl⟩ PySem.F.slot_tuple_le PySem.F.entry_tuple_le (PySem.F.args_tuple_le_2 _ _) (CL l b items J n n2 dd aa sl ab ns ms hi hj ht)
  ⟨ho,L,show Value.bool (!eY ms ns)≠Value.notImplemented/\Q (.bool (!eY ms ns)) s from⟨(λx=>nomatch x),h⟩⟩ hu
end
end HT
namespace L2
open Spec PyProof.Rows
section
variable {X:Cx}
def CN (K:W.Frag):R2:=λx y H Q=>∃a b ns ms,x=.ref a/\y=.ref b/\c8 K H a (ns.map kV)/\c8 K H b (ms.map kV)/\ns.map fb=ms.map fb/\Q (.bl (!eY ms ns)) H
theorem CO (L:X.A.units<cLine):fu X (compareOp .LtE) (CN X.K):=by
 intro pins s σ H x y v u Q I U Y h;obtain⟨a,b,ns,ms,rfl,rfl,ha,hb,ht,q⟩:=h
 cases U
 cases Y;obtain⟨aa,r1,p1,_⟩:=I.tuple ha;obtain⟨J,r2,p2,_⟩:=I.tuple hb;exact HT.CM p1 p2 (by simpa using HT.KeysAre.of r1) (by simpa using HT.KeysAre.of r2) ht L ⟨.bl (!eY ms ns),H,I,rfl,q⟩
end
inductive ip (K:W.Frag) (H:Hp):Nat->V->V->Bool->Prop
 |ref {n:Nat} (a:Addr):ip K H n (.ref a) (.ref a) true
 |int {n:Nat} (a b:Int):ip K H n (.int a) (.int b) (decide (a=b))
 |str {n:Nat} (a b:Str):ip K H n (.str a) (.str b) (decide (a=b))
 |is {n:Nat} (a:Int) (b:Str):ip K H n (.int a) (.str b) false
 |si {n:Nat} (a:Str) (b:Int):ip K H n (.str a) (.int b) false
 |lst {n:Nat} {a b:Addr} {xs ys:List V} {e:Nat->Bool} (ne:a≠b) (ha:dg K H a xs) (hb:dg K H b ys) (hl:xs.length=ys.length) (he:∀(j:Nat) (x y:V),xs[j]? =some x->ys[j]? =some y->ip K H n x y (e j)):
   ip K H (n+1) (.ref a) (.ref b) ((List.range xs.length).all e)
 |tup {n:Nat} {a b:Addr} {xs ys:List V} {e:Nat->Bool} (ne:a≠b) (ha:c8 K H a xs) (hb:c8 K H b ys) (he:∀(j:Nat) (x y:V),xs[j]? =some x->ys[j]? =some y->ip K H n x y (e j)):
   ip K H (n+1) (.ref a) (.ref b) ((List.range (min xs.length ys.length)).all e && xs.length == ys.length)
section
variable {X:Cx}{pins:List (Addr × Obj)}{σ:St}{H:Hp}{s:Shared}
theorem Vals.at:∀{xs:List V}{J:List Value},Vals xs J->∀(j:Nat) (h:j<J.length),∃x,xs[j]? =some x/\RelV x J[j]
 |_,_,.nil,j,h=>absurd h (by simp)
 |_,_,.cons a r,0,h=>⟨_,rfl,a⟩
 |_,_,.cons a r,j+1,h=>by
  obtain⟨x,h1,h2⟩:=Vals.at r j (by simpa using h);exact⟨x,by simpa using h1,h2⟩
theorem ip.xw (I:Inv X pins σ H s){n:Nat}{x y:V}{b:Bool}(h:ip X.K H n x y b):∀(A:Around) (u v:Value),RelV x u->RelV y v->A.units+n<cLine->SeqAt.EqAt A s u v b:=by
 induction h with
 |ref a=>
  intro A u v J L hu
  cases J
  cases L;exact SeqAt.EqAt.same _
 |int a b=>
  intro A u v J L hu;obtain⟨t,rfl⟩:=J;obtain⟨t',rfl⟩:=L;exact SeqAt.EqAt.int_int a t b t'
 |str a b=>
  intro A u v J L hu;obtain⟨t,rfl⟩:=J;obtain⟨t',rfl⟩:=L
  have e:decide (a=b)=(a == b):=by
   by_cases z:a=b
   . rw[decide_eq_true z,z];simp
   . rw[decide_eq_false z];exact(beq_eq_false_iff_ne.mpr z).symm
  rw[e];exact SeqAt.EqAt.str_str a t b t'
 |is a b=>
  intro A u v J L hu;obtain⟨t,rfl⟩:=J;obtain⟨t',rfl⟩:=L;exact SeqAt.EqAt.int_str a t b t'
 |si a b=>
  intro A u v J L hu;obtain⟨t,rfl⟩:=J;obtain⟨t',rfl⟩:=L;exact SeqAt.EqAt.str_int a t b t'
 |@lst n a b xs ys e ne ha hb hl he ih=>
  intro A u v J L hu
  cases J
  cases L;obtain⟨Y,r1,p1,_⟩:=I.list ha;obtain⟨U,r2,p2,_⟩:=I.list hb;have l1:=r1.length;have l2:=r2.length;refine .of_refs ne ?_;have q:xs.length=Y.toArray.size:=by rw[Q0b];exact l1
  rw[q];refine SeqAt.RcAt.lists p1.isList p2.isList (by rw[Q0b,Q0b];omega) (by omega) λj h1 h2=>?_;obtain⟨x',e1,q1⟩:=Vals.at r1 j (by simpa using h1);obtain⟨y',e2,q2⟩:=Vals.at r2 j (by simpa using h2);refine ih j x' y' e1 e2 _ _ _ (by simpa using q1) (by simpa using q2) ?_;show A.units+1+n<cLine;omega
 |@tup n a b xs ys e ne ha hb he ih=>
  intro A u v J L hu
  cases J
  cases L;obtain⟨Y,r1,p1,_⟩:=I.tuple ha;obtain⟨U,r2,p2,_⟩:=I.tuple hb;have l1:=r1.length;have l2:=r2.length;refine .of_refs ne ?_;have q:xs.length=Y.toArray.size:=by rw[Q0b];exact l1
  have q':ys.length=U.toArray.size:=by rw[Q0b];exact l2
  rw[q,q'];refine SeqAt.RcAt.tuples p1 p2 (by omega) λj h1 h2=>?_;obtain⟨x',e1,q1⟩:=Vals.at r1 j (by simpa using h1);obtain⟨y',e2,q2⟩:=Vals.at r2 j (by simpa using h2);refine ih j x' y' e1 e2 _ _ _ (by simpa using q1) (by simpa using q2) ?_;show A.units+1+n<cLine;omega
def xx (K:W.Frag) (H:Hp) (n:Nat) (xs ys:List V) (e:Nat->Bool):Prop:=∀(j:Nat) (x y:V),xs[j]? =some x->ys[j]? =some y->ip K H n x y (e j)
def xy (K:W.Frag) (n:Nat):R2:=λx y H Q=>∃a b xs ys e,x=.ref a/\y=.ref b/\xx K H n xs ys e/\
 ((dg K H a xs/\dg K H b ys/\((xs.length=ys.length/\Q (.bl ((List.range xs.length).all e)) H)\/(xs.length≠ys.length/\Q (.bl false) H)))\/
  (c8 K H a xs/\c8 K H b ys/\Q (.bl ((List.range (min xs.length ys.length)).all e && xs.length == ys.length)) H))
theorem CP {n:Nat}(hu:X.A.units+1+n<cLine):fu X (compareOp .Eq) (xy X.K n):=by
 intro pins s σ H x y v u Q I rx ry h;obtain⟨a,b,xs,ys,e,rfl,rfl,hd,h⟩:=h
 cases rx
 cases ry;rcases h with⟨ha,hb,h⟩|⟨ha,hb,q⟩
 . obtain⟨L,U,p1,_⟩:=I.list ha;obtain⟨J,Y,p2,_⟩:=I.list hb;have l1:=U.length;have l2:=Y.length;rcases h with⟨hl,q⟩|⟨hl,q⟩
   . have z:xs.length=L.toArray.size:=by rw[Q0b];exact l1
     rw[z] at q;refine SeqAt.eq_listAt (e:=e) p1.isList p2.isList (by rw[Q0b,Q0b];omega) (by omega) (λj h1 h2=>?_) ⟨.bl _,H,I,rfl,q⟩;obtain⟨x',e1,q1⟩:=Vals.at U j (by simpa using h1);obtain⟨y',e2,q2⟩:=Vals.at Y j (by simpa using h2);refine(hd j x' y' e1 e2).xw I _ _ _ (by simpa using q1) (by simpa using q2) ?_;show X.A.units+1+n<cLine;omega
   . refine SeqAt.eq_list_lengthsAt p1.isList p2.isList ?_ (by omega) ⟨.bl false,H,I,rfl,q⟩;rw[Q0b,Q0b];simp;omega
 . obtain⟨L,U,p1,_⟩:=I.tuple ha;obtain⟨J,Y,p2,_⟩:=I.tuple hb;have l1:=U.length;have l2:=Y.length;have z:xs.length=L.toArray.size:=by rw[Q0b];exact l1
   have z':ys.length=J.toArray.size:=by rw[Q0b];exact l2
   rw[z,z'] at q;refine SeqAt.eq_tupleAt (e:=e) p1 p2 (by omega) (λj h1 h2=>?_) ⟨.bl _,H,I,rfl,q⟩;obtain⟨x',e1,q1⟩:=Vals.at U j (by simpa using h1);obtain⟨y',e2,q2⟩:=Vals.at Y j (by simpa using h2);refine(hd j x' y' e1 e2).xw I _ _ _ (by simpa using q1) (by simpa using q2) ?_;show X.A.units+1+n<cLine;omega
end
section
variable {M:Model}{A:Around}{E:Value->Shared->Prop}{s:Shared}
structure Tr (h:Heap) (e T:Addr) (cls fl:Value):Prop where
 ex:∃oe vs,h.get? e=some oe/\oe.cls=cls/\oe.dict=none/\oe.data=.fields vs/\vs[1]? =some (.ref T)
 tb:∃oT ts,h.get? T=some oT/\oT.data=.fields ts/\ts[3]? =some fl
 ne:T≠e
end
section
variable {X:Cx}{pins:List (Addr × Obj)}{σ:St}{H:Hp}{s:Shared}
end
section
variable {M:Model}{A:Around}{E:Value->Shared->Prop}{s:Shared}
end
section
variable {X:Cx}{pins:List (Addr × Obj)}{σ:St}{H:Hp}{s:Shared}
end
section
variable {X:Cx}{k:Nat}{f:Addr}{fd:FuncData}{ps:List Str}{sp:Sp}{i5:List V}{ds:List Value}{Ek:XK}{x:Str}{p pos:Pos}{e:Expr}{es:List Expr}{t:TA}{te:TE}
end
end L2
namespace L2
open Spec PyProof.Rows W
end L2
namespace L2
open Spec PyProof.Rows
section
variable {X:Cx}{pins:List (Addr × Obj)}{σ:St}{H:Hp}{s:Shared}
end
end L2
namespace L2
open Spec Calls PyProof.Rows W Builtin Builtin.ObjectAttr Builtin.Getset_descriptor
section
variable {prog:Program}{w:World}{A:Around}{E:Value->Shared->Prop}{K:Frag}{h:Heap}{g:Array GenState}{d:Drawn}{t:Nat}{os:OsState}{a C:Addr}{o:Obj}
end
end L2
namespace L2
open Spec PyProof.Rows
section
variable {X:Cx}{es:List Expr}{n k:Nat}{t:St->Hp->Prop}{pos:Pos}
end
noncomputable def gd (x:Str):List Key:=[Sum.inr x]
theorem CQ (x y:Str):eY (gd x) (gd y)=decide (x.cps.toList<y.cps.toList):=by
 unfold gd;rw[ly];by_cases e:(Sum.inr x:Key)=Sum.inr y
 . rw[if_pos e];have e:=Sum.inr.inj e;subst e;have h:¬x.cps.toList<x.cps.toList:=Q2w _;rw[decide_eq_false h];rfl
 . rw[if_neg e];rfl
section
variable {X:Cx}
end
variable {P:Program}{w:World}{K:W.Frag}{mg:Str->Option Value}{base:Heap}
section
variable {X:Cx}
def qp (K:W.Frag) (n:Nat):R2:=λx y H Q=>(x=.non/\(∃b ys,y=.ref b/\c8 K H b ys)/\Q (.bl false) H)\/xy K n x y H Q
theorem ou {n:Nat}(U:X.A.units+1+n<cLine):fu X (compareOp .Eq) (qp X.K n):=by
 intro pins s σ H x y v u Q I J L h;rcases h with⟨rfl,⟨b,ys,rfl,Y⟩,q⟩|h
 . cases J
   cases L;obtain⟨aa,r1,p1,_⟩:=I.tuple Y;exact SeqAt.RcAt.none_tuple p1 (by omega) _ _ _ _ ⟨.bl false,H,I,rfl,q⟩
 . exact CP U pins s σ H x y v u Q I J L h
end
theorem jS.qq {x qual:Str}{st:Stmt}{f c:Addr}{fd:FuncData}{N ps:List Str}{k:Nat}{sp:Sp}(F:jS K x qual st f fd)(hc:fd.code=.ref c)(S:d5 N ps (dD st))(len:∀vs H Q E,sp vs H Q E->vs.length=ps.length)
 (J:∀(A:Around) (outer:List Env) (s:Shared) (H:Hp) (vs:List V) (Q:VK) (E:XK),eV k (A.deeper (envOfC qual (dD st) s.heap.objs.size f (.ref c)))->sp vs H Q E->
   ∃t,gU (d6 da P w K mg base N qual (dD st) f (.ref c) A outer s H E).eh (fZ st) t/\t { nx:=λ_ H'=>Q .non H',rt:=Q } (start N vs) H):c_ P w K mg base da (k+1) f fd ps sp:=by
 obtain⟨oc,od,kV,aa,pm,an,L,ct,ab,rfl,lk,U⟩:=F.ex;have hc:L=.ref c:=hc;subst hc;refine wy lk U S len λA outer s H vs Q E hr Y=>?_;obtain⟨t,h,q⟩:=J A outer s H vs Q E hr Y;exact⟨t,h.eh,q⟩
def ow (J:List Addr) (H:Hp):Prop:=∀b,H b=none\/(∃o xs,H b=some (.e8 o (.lst xs)))\/(b∈J/\H b=some (.eS #[]))
theorem CS {P:Program}{w:World}{K:W.Frag}{mg mb:Str->Option Value}{CX:il}{k:Nat}{fa a:Addr}{fd:FuncData}{x:Str}{sp:Sp}{J:Shared}{vs:List Value}{ns:List Int}{L:List (Addr × Addr)}
 (KX:K.In J.heap) (hT:W.TabsAt L J.heap) (aq:W.noTabs K=true) (ar:BM mg J.heap) (ai:J.heap.Ns mainGlobals mg) (U:J.heap.Ns builtinsNs mb) (au:∀x:Str,x≠"__name__"->mb x=bootBuiltins x) (an:J.heap.NoLimit) (hg:J.gens=#[])
 (ha:J.heap.get? a=some { cls:=.type "list",data:=.seq vs.toArray }) (hi:IntsAre vs ns) (hl:ns.length<=sizeLine) (hr:eV k callerA)
 (F:∀base:Heap,K.In base->base.Ns mainGlobals mg->BM mg base->c_ P w K mg base CX k fa fd [x] sp) (ah:∀(s:Shared) (u:Value),BindsTo s fd ⟨[u],[]⟩ [(x,u)])
 (av:∀H:Hp,ow (L.map (·.2)) H->(∀q∈L,H q.2=some (.eS #[]))->dg K H a (ns.map V.int)->sp [.ref a] H (λv _=>v=.bl true) λ_ _ _=>False)
 (aw:∀H e s',CX [] H J (λ_ _ _=>False) e s'->False):
 codeAny (model P w) callerA (.call (.ref fa) ⟨[.ref a],[]⟩) (λr s'=>r=.ok (.ret (.bool true))/\OldK J.heap s'.heap/\s'.os=J.os/\AllBare s'.gens) J:=by
 have rv:=wR hi;have ao:=hi.length
 have aa:∀b,b∈L.map (·.2)->J.heap.get? b=some (W.tabObj #[]):=λb hm=>by
  obtain⟨q,hq,rfl⟩:=List.mem_map.mp hm;exact(hT q hq).2
 have aj:a ∉ L.map (·.2):=λhm=>by
  have:=aa a hm;rw[ha] at this;cases this
 have core:∀H:Hp,ow (L.map (·.2)) H->(∀q∈L,H q.2=some (.eS #[]))->dg K H a (ns.map V.int)->fj P w H J.heap->(∀b,H b≠none->b=a\/b∈L.map (·.2))->(H a≠none->K.lookup a=none)->
  codeAny (model P w) callerA (.call (.ref fa) ⟨[.ref a],[]⟩) (λr s'=>r=.ok (.ret (.bool true))/\OldK J.heap s'.heap/\s'.os=J.os/\AllBare s'.gens) J:=by
  intro H hO ak hS al hA hK;have Y:∀{b:Addr} {o:Obj},J.heap.get? b=some o->H b=none->(iY J.heap H).get? b=some o:=λe n=>AA e n
  have ac:∀{b:Addr} {o:Obj},J.heap.get? b=some o->(∀us n,o.data≠ .seq us n)->(∀us,o.data≠ .fields us)->H b=none:=λ{b o} e d1 d2=>by
   cases q:H b with
   |none=>rfl
   |some u=>
    rcases hA b (by rw[q];simp) with e'|e'
    . subst e';rw[ha] at e;cases e;exact absurd rfl (d1 _ _)
    . rw[aa b e'] at e;cases e;exact absurd rfl (d2 _)
  have af:∀{b:Addr} {m:Str->Option Value},J.heap.Ns b m->(iY J.heap H).Ns b m:=λ{b m} ⟨o,es,ep,e,d,r⟩=>⟨o,es,ep,Y e (ac e (by rw[d];intro us n z;cases z) (by rw[d];intro us z;cases z)),d,r⟩
  have am:K.In (iY J.heap H):=λb o e=>Y (KX b o e) (by
   cases q:H b with
   |none=>rfl
   |some u=>
    rcases hA b (by rw[q];simp) with e'|e'
    . subst e';rw[hK (by rw[q];simp)] at e;cases e
    . have e2:=KX b o e;rw[aa b e'] at e2;cases e2;have:=List.all_eq_true.mp aq _ (W.mem_of_lookupK e);simp at this)
  have hM:Mod K mg (iY J.heap H):=⟨am,af ai,⟨mb,af U,au⟩,let⟨mc,h1,h2⟩:=an;⟨mc,af h1,h2⟩⟩
  have ax:BM mg (iY J.heap H):=by
   obtain⟨bm,o,b1,b2,b3,b4,b5,b6,b7⟩:=ar;exact⟨bm,o,b1,b2,b3,Y b4 (ac b4 (by rw[b7];intro us n z;cases z) (by rw[b7];intro us z;cases z)),b5,b6,b7⟩
  have e0:nR P w K mg (iY J.heap H) callerA [] J H:=⟨rfl,hM,λb o e=>AB e,Nat.le_of_eq (Az _ _),trivial,λb U=>absurd (show b∈([]:List Addr) from U) (by simp),al,.of_eq hg⟩;refine codeAny_mono ((F _ am (af ai) ax).run callerA [] J H ⟨[.ref a],[]⟩ [.ref a] [.ref a] _ _ hr e0 (ah J (.ref a)) (.cons rfl .nil) (av H hO ak hS)) λr s' h=>?_
  cases r with
  |error e=>exact(aw H e s' h).elim
  |ok fl=>
   cases fl with
   |next=>exact False.elim h
   |brk=>exact False.elim h
   |cont=>exact False.elim h
   |ret u=>
    obtain⟨v,H',os,ap,un,ag,r',q⟩:=h;have q':v=.bl true:=q;subst q';obtain rfl:u=Value.bool true:=r'
    have ae:∀b,b∈L.map (·.2)->∃ps,s'.heap.get? b=some (W.tabObj ps):=λb hm=>by
     obtain⟨q,hq,rfl⟩:=List.mem_map.mp hm;obtain⟨ay,e⟩:=un.iM _ _ (ak q hq);exact⟨_,ag _ _ e⟩
    have keep:∀b o,b ∉ L.map (·.2)->J.heap.get? b=some o->s'.heap.get? b=some o:=λb o U e=>by
     cases q:H b with
     |none=>exact un.keep b o e q (by intro z;exact absurd (show b∈([]:List Addr) from z) (by simp)) (by simp)
     |some u=>
      rcases hO b with z|⟨ob,xs,z⟩|⟨z,_⟩
      . rw[q] at z;cases z
      . have z2:=un.iz b ob _ z;obtain⟨e1,_⟩:=al b _ z;obtain⟨e2,_⟩:=ag b _ z2;rw[e] at e1;cases e1;exact e2
      . exact absurd z U
    refine⟨rfl,⟨λb o e=>?_,λb o e=>?_⟩,os,ap⟩
    . by_cases U:b∈L.map (·.2)
      . obtain⟨ps,hP⟩:=ae b U;have e2:=aa b U;rw[e] at e2;cases e2;obtain⟨q,hq,rfl⟩:=List.mem_map.mp U;exact .inr (.inl ⟨((hT q hq).1.tab (hT q hq).2).isCodeTable,rfl,#[],ps,rfl,by rw[Q2h];exact hP⟩)
      . exact .inl (keep b o U e)
    . by_cases U:b∈L.map (·.2)
      . obtain⟨ps,hP⟩:=ae b U;exact⟨_,hP⟩
      . exact⟨o,keep b o U e⟩
 cases hk:K.lookup a with
 |some o=>
  have e:=KX a o hk;rw[ha] at e
  cases e;refine core (λb=>if b∈L.map (·.2) then some (.eS #[]) else none) (λb=>?_) (λq hq=>if_pos (Q2y hq)) (.inr ⟨_,vs.toArray,_,hk,rfl,rfl,rfl,by rw[Q0b,ao];exact hl,by simpa using rv⟩) (λb u z=>?_) (λb z=>?_) λz=>absurd (if_neg aj) z
  . by_cases U:b∈L.map (·.2)
    . exact .inr (.inr ⟨U,if_pos U⟩)
    . exact .inl (if_neg U)
  . by_cases U:b∈L.map (·.2)
    . have z':=(if_pos U).symm.trans z
      cases z';exact aa b U
    . have z':=(if_neg U).symm.trans z
      cases z'
  . by_cases U:b∈L.map (·.2)
    . exact .inr U
    . exact absurd (if_neg U) z
 |none=>
  refine core (λb=>if b∈L.map (·.2) then some (.eS #[]) else if b=a then some (.e8 { cls:=.type "list",data:=.seq vs.toArray } (.lst (ns.map V.int))) else none) (λb=>?_) (λq hq=>if_pos (Q2y hq))
   (.inl (.inr ⟨{ cls:=.type "list",data:=.seq vs.toArray },(if_neg aj).trans (if_pos rfl)⟩)) (λb u z=>?_) (λb z=>?_) λ_=>hk
  . by_cases U:b∈L.map (·.2)
    . exact .inr (.inr ⟨U,if_pos U⟩)
    . by_cases ab:b=a
      . exact .inr (.inl ⟨_,_,(if_neg U).trans (if_pos ab)⟩)
      . exact .inl ((if_neg U).trans (if_neg ab))
  . by_cases U:b∈L.map (·.2)
    . have z':=(if_pos U).symm.trans z
      cases z';exact aa b U
    . have z:=(if_neg U).symm.trans z;by_cases ab:b=a
      . have z':=(if_pos ab).symm.trans z
        cases z';subst ab;exact⟨ha,by rw[Q09];exact hl,vs,_,rv,ha⟩
      . have z':=(if_neg ab).symm.trans z
        cases z'
  . by_cases U:b∈L.map (·.2)
    . exact .inr U
    . by_cases ab:b=a
      . exact .inl ab
      . exact absurd ((if_neg U).trans (if_neg ab)) z
theorem CT {l:W.OpenLaw}{n k:Nat}{q:Program}{loose:List Str}{XP:(Str->Option Value)->Heap->Prop}{YP:World->Heap->Prop}{d:DefRec}{K:Params->W.Frag}{sp:World->List (Addr × Addr)->Sp}{x:Str}{names:List Str}
 (hn:l.most=some n) (ae:n<=sizeLine) (af:d.params.defaults=[]) (hr:eV k callerA)
 (hY:∀(w:World) (h:Heap),YP w h->(K w.params).In h) (ag:∀w:World,W.noTabs (K w.params)=true)
 (tb:∀w:World,∃J:List (Addr × Addr),(∀q'∈J,∃y∈names,W.tabIn (K w.params) y=some q')/\
   (∀(mg:Str->Option Value) (fa:Addr) (h:Heap),(K w.params).In h->h.Ns mainGlobals mg->mg d.name=some (.ref fa)->
   ∃fd:FuncData,(∀(s:Shared) (u:Value),BindsTo s fd ⟨[u],[]⟩ [(x,u)])/\
    ∀base:Heap,(K w.params).In base->base.Ns mainGlobals mg->BM mg base->c_ l.prog w (K w.params) mg base da k fa fd [x] (sp w J)))
 (ab:∀y∈names,∃d',(recsOf q).find? (λe=>e.name == y)=some d')
 (ah:∀(w:World) (J:List (Addr × Addr)) (H:Hp) (a:Addr) (ns:List Int),ns.length<=n->ow (J.map (·.2)) H->(∀q∈J,H q.2=some (.eS #[]))->dg (K w.params) H a (ns.map V.int)->sp w J [.ref a] H (λv _=>v=.bl true) λ_ _ _=>False):
 W.WalkO q loose XP YP l.row.toRowW d [] (λf vs=>PySem.call f vs):=by
 refine wQ.B2 hn af λw s₀ L mg mb fa o pm cd am a vs ns G Y ho hd an ai ac aa U hg=>?_;have KX:=hY w _ Y;obtain⟨J,ht,F⟩:=tb w;obtain⟨fd,hb,hF⟩:=F mg fa _ KX G.T.g ai
 have hT:W.TabsAt J L.heap:=λq' hq=>by
  obtain⟨y,hy,aj⟩:=ht q' hq;obtain⟨d',ak⟩:=ab y hy;exact W.tab_of G.T KX ak aj
 have al:BM mg L.heap:=by
  obtain⟨bm,ob,b1,b2,b3,b4,b5,b6⟩:=G.T.bmain;refine⟨bm,ob,b1,b2,λz=>?_,b3,b4,b5,b6⟩;obtain⟨o',es,ep,e,hd,_⟩:=G.T.g;rw[z,e] at b3;cases b3;rw[hd] at b6;cases b6
 exact CS KX hT (ag w) al G.T.g G.T.b G.T.builtins G.T.nolimit hg ac aa (Q0h U ae) hr hF hb (λH hO hP hS=>ah w J H a ns U hO hP hS) λH e s' h=>h.elim
end L2
namespace Pb
open L2 PyProof.Rows
mutual
inductive Kd where
 |num
 |fe
 |eQ (fs:Fs)
 |rows (key by_:Str) (fs:Fs)
 |tree (k:Kd)
 |fg (fs:Fs)
inductive Fs where
 |nil
 |cons (x:Str) (k:Kd) (r:Fs)
end
mutual
inductive D where
 |int (z:Int)
 |str (x:Str)
 |tup (xs:Ds)
 |lst (xs:Ds)
 |dct (m:Ds)
inductive Ds where
 |nil
 |cons (x:Str) (d:D) (r:Ds)
end
mutual
noncomputable def Kd.dep:Kd->Nat
 | .num=>1
 | .fe=>1
 | .eQ fs=>fs.dep+1
 | .rows _ _ fs=>fs.dep+1
 | .tree k=>k.dep+1
 | .fg fs=>fs.dep+1
noncomputable def Fs.dep:Fs->Nat
 | .nil=>0
 | .cons _ k r=>max k.dep r.dep
end
mutual
noncomputable def D.dep:D->Nat
 | .int _=>1
 | .str _=>1
 | .tup xs=>xs.dep+1
 | .lst xs=>xs.dep+1
 | .dct m=>m.dep+1
noncomputable def Ds.dep:Ds->Nat
 | .nil=>0
 | .cons _ d r=>max d.dep r.dep
end
theorem Kd.gI (k:Kd):1<=k.dep:=by cases k <;> simp[Kd.dep]
theorem D.gI (d:D):1<=d.dep:=by cases d <;> simp[D.dep]
noncomputable def Fs.names:Fs->List Str
 | .nil=>[]
 | .cons x _ r=>x::r.names
noncomputable def Fs.get:Fs->Str->Option Kd
 | .nil,_=>none
 | .cons y k r,x=>if x=y then some k else r.get x
noncomputable def Fs.at:Fs->Nat->Option (Str × Kd)
 | .nil,_=>none
 | .cons x k _,0=>some (x,k)
 | .cons _ _ r,i+1=>r.at i
noncomputable def Fs.snoc:Fs->Str->Kd->Fs
 | .nil,x,k=>.cons x k .nil
 | .cons y q r,x,k=>.cons y q (r.snoc x k)
noncomputable def Fs.take:Fs->Nat->Fs
 | .nil,_=>.nil
 | .cons _ _ _,0=>.nil
 | .cons x k r,i+1=>.cons x k (r.take i)
theorem Fs.xA:∀(fs:Fs) (x:Str) (k:Kd),(fs.snoc x k).names=fs.names++[x]
 | .nil,_,_=>rfl
 | .cons y q r,x,k=>by
   show y::(r.snoc x k).names=_;rw[Fs.xA r x k];rfl
theorem Fs.xB:∀(fs:Fs) (x:Str) (k:Kd),(fs.snoc x k).dep=max fs.dep k.dep
 | .nil,_,k=>by simp[Fs.snoc,Fs.dep]
 | .cons y q r,x,k=>by
   show max q.dep (r.snoc x k).dep=max (max q.dep r.dep) k.dep;rw[Fs.xB r x k,Nat.max_assoc]
theorem Fs.iR:∀(fs:Fs) (i:Nat),fs.names[i]? =(fs.at i).map (·.1)
 | .nil,i=>by simp[Fs.names,Fs.at]
 | .cons x k r,0=>by simp[Fs.names,Fs.at]
 | .cons x k r,i+1=>by
   show(x::r.names)[i+1]? =_;rw[List.getElem?_cons_succ,Fs.iR r i];rfl
theorem Fs.kB:∀{fs:Fs}{i:Nat},i<fs.names.length->∃x k,fs.at i=some (x,k)
 | .nil,i,h=>by simp[Fs.names] at h
 | .cons x k r,0,h=>⟨x,k,rfl⟩
 | .cons x k r,i+1,h=>Fs.kB (fs:=r) (i:=i) (by simpa[Fs.names] using h)
theorem Fs.jv:∀{fs:Fs}{i:Nat}{x:Str}{k:Kd},fs.names.Nodup->fs.at i=some (x,k)->fs.get x=some k
 | .nil,_,_,_,_,h=>by cases h
 | .cons y q r,0,x,k,_,h=>by
   cases h;simp[Fs.get]
 | .cons y q r,i+1,x,k,nd,h=>by
   have nd:(y::r.names).Nodup:=nd;obtain⟨J,L⟩:=List.nodup_cons.mp nd;have h:r.at i=some (x,k):=h;have U:x∈r.names:=Q0w (i:=i) (by rw[Fs.iR,h];rfl);show(if x=y then some q else r.get x)=some k;rw[if_neg (λe=>J (by rw[<-e];exact U))];exact Fs.jv L h
theorem Fs.take_succ:∀{fs:Fs}{i:Nat}{x:Str}{k:Kd},fs.at i=some (x,k)->fs.take (i+1)=(fs.take i).snoc x k
 | .nil,_,_,_,h=>by cases h
 | .cons y q r,0,x,k,h=>by
   cases h
   cases r <;> rfl
 | .cons y q r,i+1,x,k,h=>by
   show Fs.cons y q (r.take (i+1))=Fs.cons y q ((r.take i).snoc x k);rw[Fs.take_succ (fs:=r) (i:=i) h]
theorem Fs.take_zero (fs:Fs):fs.take 0=.nil:=by cases fs <;> rfl
theorem Fs.take_all:∀(fs:Fs),fs.take fs.names.length=fs
 | .nil=>rfl
 | .cons x k r=>by
   show Fs.cons x k (r.take r.names.length)=_;rw[Fs.take_all r]
def gz:Kd->Prop
 | .num=>True
 | .fe=>True
 |_=>False
def Fs.pl (fs:Fs) (x:Str):Prop:=∃k,fs.get x=some k/\gz k
mutual
def Kd.W:Kd->Prop
 | .num=>True
 | .fe=>True
 | .eQ fs=>fs.names.Nodup/\fs.names.length<=12/\fs.W
 | .rows key by_ fs=>fs.names.Nodup/\fs.names.length<=12/\fs.W/\fs.pl key/\(by_=""\/fs.pl by_)
 | .tree k=>k.W
 | .fg fs=>fs.names.Nodup/\fs.names.length<=12/\1<=fs.names.length/\fs.W
def Fs.W:Fs->Prop
 | .nil=>True
 | .cons _ k r=>k.W/\r.W
end
theorem Fs.lB:∀{fs:Fs}{i:Nat}{x:Str}{k:Kd},fs.W->fs.at i=some (x,k)->k.W
 | .nil,_,_,_,_,h=>by cases h
 | .cons x k r,0,_,_,w,h=>by
   unfold Fs.W at w
   cases h;exact w.1
 | .cons x k r,i+1,_,_,w,h=>by
   unfold Fs.W at w;exact Fs.lB (fs:=r) (i:=i) w.2 h
theorem Fs.xC {x:Str}{k:Kd}(hk:k.W):∀{fs:Fs},fs.W->(fs.snoc x k).W
 | .nil,_=>by
   show(Fs.cons x k .nil).W;unfold Fs.W;exact⟨hk,by unfold Fs.W;trivial⟩
 | .cons y q r,h=>by
   unfold Fs.W at h;show(Fs.cons y q (r.snoc x k)).W;unfold Fs.W;exact⟨h.1,Fs.xC hk h.2⟩
noncomputable def Ds.get:Ds->Str->Option D
 | .nil,_=>none
 | .cons y d r,x=>if x=y then some d else r.get x
noncomputable def keyOf (m:Ds) (x:Str):Key:=match m.get x with
 |some (.int z)=>.inl z
 |some (.str s)=>.inr s
 |_=>.inl 0
noncomputable def rankOf (key by_:Str) (m:Ds):List Key:=if by_="" then [keyOf m key] else [keyOf m by_,keyOf m key]
theorem CU {key by_:Str}{a b:Ds}(h:rankOf key by_ a=rankOf key by_ b):keyOf a key=keyOf b key:=by
 unfold rankOf at h;split at h
 . exact(List.cons.inj h).1
 . exact(List.cons.inj (List.cons.inj h).2).1
def mC (key by_:Str) (a b:Ds):Prop:=eY (rankOf key by_ a) (rankOf key by_ b)=true
def i8 (key by_:Str) (a b:Ds):Prop:=g_ (rankOf key by_ a) (rankOf key by_ b)
noncomputable def ins (key by_:Str) (m:Ds):List Ds->List Ds
 |[]=>[m]
 |y::q=>if eY (rankOf key by_ y) (rankOf key by_ m)=true then y::ins key by_ m q else m::y::q
noncomputable def gA (key by_:Str):List Ds->List Ds
 |[]=>[]
 |m::r=>ins key by_ m (gA key by_ r)
theorem qr (key by_:Str)(m:Ds):∀l:List Ds,(ins key by_ m l).Perm (m::l)
 |[]=>List.Perm.refl _
 |y::q=>by
  unfold ins;split
  . exact((qr key by_ m q).cons y).trans (List.Perm.swap m y q)
  . exact List.Perm.refl _
theorem iC (key by_:Str):∀l:List Ds,(gA key by_ l).Perm l
 |[]=>List.Perm.refl _
 |m::r=>(qr key by_ m _).trans ((iC key by_ r).cons m)
theorem CV {a b:List Key}(h:eY a b=true):g_ a b:=KeyOrd.kle_of_klt (O:=oq) h
theorem CW {a b c:List Key}(h1:g_ a b)(h2:g_ b c):g_ a c:=KeyOrd.kle_trans (O:=oq) h1 h2
theorem xD (key by_:Str)(m:Ds):∀{l:List Ds},l.Pairwise (i8 key by_)->(ins key by_ m l).Pairwise (i8 key by_)
 |[],_=>Q1u _ _
 |y::q,h=>by
  obtain⟨h1,h2⟩:=List.pairwise_cons.mp h;unfold ins;by_cases c:eY (rankOf key by_ y) (rankOf key by_ m)=true
  . rw[if_pos c];refine List.pairwise_cons.mpr ⟨λz J=>?_,xD key by_ m h2⟩;rcases List.mem_cons.mp ((qr key by_ m q).mem_iff.mp J) with e|e
    . rw[e];exact CV c
    . exact h1 z e
  . rw[if_neg c];have c':i8 key by_ m y:=by unfold i8 g_;simpa using c
    refine List.pairwise_cons.mpr ⟨λz J=>?_,h⟩;rcases List.mem_cons.mp J with e|e
    . rw[e];exact c'
    . exact CW c' (h1 z e)
theorem lC (key by_:Str):∀l:List Ds,(gA key by_ l).Pairwise (i8 key by_)
 |[]=>List.Pairwise.nil
 |m::r=>xD key by_ m (lC key by_ r)
theorem mD {key by_:Str}{l:List Ds}(h:l.Pairwise (i8 key by_))(nd:(l.map λm=>keyOf m key).Nodup):l.Pairwise (mC key by_):=by
 have J:l.Pairwise λa b=>keyOf a key≠keyOf b key:=List.pairwise_map.mp nd;refine(h.and J).imp λ{a b} ⟨h1,h2⟩=>?_;rcases mB (rankOf key by_ a) (rankOf key by_ b) with q|q|q
 . exact q
 . exact absurd (CU q) h2
 . have h1:eY (rankOf key by_ b) (rankOf key by_ a)=false:=h1;rw[h1] at q;cases q
theorem xE {key by_:Str}:∀{l1 l2:List Ds},l1.Perm l2->l1.Pairwise (mC key by_)->l2.Pairwise (mC key by_)->l1=l2
 |[],l2,p,_,_=>by rw[p.nil_eq]
 |a::r,[],p,_,_=>absurd p.length_eq (by simp)
 |a::r,b::q,p,h1,h2=>by
  obtain⟨L,U⟩:=List.pairwise_cons.mp h1;obtain⟨Y,b2⟩:=List.pairwise_cons.mp h2
  have e:a=b:=by
   have ha:a∈b::q:=p.mem_iff.mp Q0a;have hb:b∈a::r:=p.mem_iff.mpr Q0a;rcases List.mem_cons.mp ha with e|e
   . exact e
   . rcases List.mem_cons.mp hb with J|J
     . exact J.symm
     . have z:=lz _ _ _ (L b J) (Y a e);rw[oo] at z;cases z
  subst e;rw[xE ((List.perm_cons a).mp p) U b2]
theorem xF {key by_:Str}{l z:List Ds}(p:z.Perm l)(h:z.Pairwise (i8 key by_))(nd:(l.map λm=>keyOf m key).Nodup):z=gA key by_ l:=
 xE (p.trans (iC key by_ l).symm) (mD h ((p.map _).nodup_iff.mpr nd)) (mD (lC key by_ l) (((iC key by_ l).map _).nodup_iff.mpr nd))
noncomputable def d3:List Ds->Ds
 |[]=>.nil
 |m::r=>.cons "" (.dct m) (d3 r)
noncomputable abbrev pairD (a b:D):D:=.tup (.cons "" a (.cons "" b .nil))
mutual
def Tree (P:D->Prop):D->Prop
 | .tup xs=>eG P xs
 |_=>False
def eG (P:D->Prop):Ds->Prop
 | .cons _ t (.cons _ (.lst as) .nil)=>P t/\dR P as
 |_=>False
def dR (P:D->Prop):Ds->Prop
 | .nil=>True
 | .cons _ d r=>Tree P d/\dR P r
end
mutual
def du:Kd->D->Prop
 | .num,d=>∃z,d=.int z
 | .fe,d=>∃x,d=.str x
 | .eQ fs,d=>∃m,d=.dct m/\dB fs m
 | .rows key by_ fs,d=>∃J:List Ds,d=.lst (d3 J)/\(∀m∈J,dB fs m)/\J.Pairwise (mC key by_)/\(J.map λm=>keyOf m key).Nodup
 | .tree k,d=>Tree (du k) d
 | .fg fs,d=>∃x v,d=pairD (.str x) v/\fh fs x v
def dB:Fs->Ds->Prop
 | .nil,m=>m=.nil
 | .cons x k r,m=>∃d q,m=.cons x d q/\du k d/\dB r q
def fh:Fs->Str->D->Prop
 | .nil,_,_=>False
 | .cons y k r,x,v=>(x=y/\du k v)\/(x≠y/\fh r x v)
end
theorem Tree.shape {P:D->Prop}:∀{d:D},Tree P d->∃x y t as,d=.tup (.cons x t (.cons y (.lst as) .nil))/\P t/\dR P as
 | .tup (.cons x t (.cons y (.lst as) .nil)),h=>by
   unfold Tree eG at h;exact⟨x,y,t,as,rfl,h.1,h.2⟩
 | .tup .nil,h=>by unfold Tree eG at h;exact h.elim
 | .tup (.cons _ _ .nil),h=>by unfold Tree eG at h;exact h.elim
 | .tup (.cons _ _ (.cons _ (.int _) _)),h=>by unfold Tree eG at h;exact h.elim
 | .tup (.cons _ _ (.cons _ (.str _) _)),h=>by unfold Tree eG at h;exact h.elim
 | .tup (.cons _ _ (.cons _ (.tup _) _)),h=>by unfold Tree eG at h;exact h.elim
 | .tup (.cons _ _ (.cons _ (.dct _) _)),h=>by unfold Tree eG at h;exact h.elim
 | .tup (.cons _ _ (.cons _ (.lst _) (.cons _ _ _))),h=>by unfold Tree eG at h;exact h.elim
 | .int _,h=>by unfold Tree at h;exact h.elim
 | .str _,h=>by unfold Tree at h;exact h.elim
 | .lst _,h=>by unfold Tree at h;exact h.elim
 | .dct _,h=>by unfold Tree at h;exact h.elim
theorem dB.get:∀{fs:Fs}{m:Ds}{x:Str}{k:Kd},dB fs m->fs.get x=some k->∃d,m.get x=some d/\du k d
 | .nil,_,_,_,_,h=>by cases h
 | .cons y q r,m,x,k,f,h=>by
   unfold dB at f;obtain⟨d,t,rfl,J,L⟩:=f;have h:(if x=y then some q else r.get x)=some k:=h;by_cases e:x=y
   . rw[if_pos e] at h
     cases h;exact⟨d,by show(if x=y then some d else t.get x)=_;rw[if_pos e],J⟩
   . rw[if_neg e] at h;obtain⟨d',U,Y⟩:=dB.get L h;exact⟨d',by show(if x=y then some d else t.get x)=_;rw[if_neg e];exact U,Y⟩
theorem dB.plain {fs:Fs}{m:Ds}{x:Str}(f:dB fs m)(h:fs.pl x):(m.get x=some (.int 0)\/True)/\((∃z,m.get x=some (.int z)/\keyOf m x=.inl z/\fs.get x=some .num)\/∃s,m.get x=some (.str s)/\keyOf m x=.inr s/\fs.get x=some .fe):=by
 refine⟨.inr trivial,?_⟩;obtain⟨k,h1,h2⟩:=h;obtain⟨d,J,L⟩:=f.get h1
 cases k with
 |num=>
  unfold du at L;obtain⟨z,rfl⟩:=L;exact .inl ⟨z,J,by unfold keyOf;rw[J],h1⟩
 |fe=>
  unfold du at L;obtain⟨s,rfl⟩:=L;exact .inr ⟨s,J,by unfold keyOf;rw[J],h1⟩
 |eQ _=>exact h2.elim
 |rows _ _ _=>exact h2.elim
 |tree _=>exact h2.elim
 |fg _=>exact h2.elim
noncomputable def lD:Option Kd->Bool
 |some .num=>true
 |_=>false
theorem dB.tag {fs:Fs}{m:Ds}{x:Str}(f:dB fs m)(h:fs.pl x):fb (keyOf m x)=lD (fs.get x):=by
 rcases(f.plain h).2 with⟨z,_,e,g⟩|⟨s,_,e,g⟩ <;> rw[e,g] <;> rfl
theorem qt {fs:Fs}{key by_:Str}{m:Ds}(f:dB fs m)(h1:fs.pl key)(h2:by_=""\/fs.pl by_):(rankOf key by_ m).map fb=if by_="" then [lD (fs.get key)] else [lD (fs.get by_),lD (fs.get key)]:=by
 unfold rankOf;split
 . show [fb (keyOf m key)]=_;rw[f.tag h1]
 . rename_i e;rcases h2 with z|z
   . exact absurd z e
   . show [fb (keyOf m by_),fb (keyOf m key)]=_;rw[f.tag h1,f.tag z]
noncomputable def cellAt (ns:List Int) (n:Int):Int:=if 0<ns.length then ns.getD (n % (ns.length:Int)).toNat 0 else 0
noncomputable def nx (ns:List Int) (n:Int):Int:=
 ((cellAt ns n % 2147483647+n * n * 7919+11) * 48271 % 2147483647) * ((cellAt ns n % 2147483647+n * n * 7919+11) * 48271 % 2147483647) % 1999999973
noncomputable def num (ns:List Int) (n:Int):Int:=
 if nx ns n % 3=0 then nx ns n / 3 % 7 - 3 else(cellAt ns n % 10 ^ 40+nx ns n * 10 ^ 29) % (2 * 10 ^ 40) - 10 ^ 40
noncomputable def CY:Str:=" !#$&'()*+,-./0123456789:;<=>?@ABCDEFGHIJKLMNOPQRSTUVWXYZ"++"[\\]^_`abcdefghijklmnopqrstuvwxyz{|}~"
noncomputable def xG (m:Int):Nat->Str
 |0=>""
 |k+1=>xG m k++⟨#[(CY.cps.toList.getD ((m / 145+(k:Int) * (k:Int) * (m / 7 % 3)) % 93).toNat 0)]⟩
noncomputable def fe (ns:List Int) (n:Int):Str:=xG (nx ns n) (if nx ns n / 5 % 29=0 then 40 else(nx ns n % 5).toNat)
noncomputable def oy (key:Str) (l:List Ds) (k:Key):Bool:=l.any λr=>decide (keyOf r key=k)
mutual
noncomputable def Kd.cB:Kd->Nat
 | .num=>1
 | .fe=>1
 | .eQ fs=>fs.cB
 | .rows _ _ fs=>8 * fs.cB+1
 | .tree k=>(k.cB+1) * 585
 | .fg fs=>fs.cB+1
noncomputable def Fs.cB:Fs->Nat
 | .nil=>0
 | .cons _ k r=>k.cB+r.cB
end
theorem qu:∀{l:List Ds}{n:Nat},(∀m∈l,m.dep<=n)->(d3 l).dep<=n+1
 |[],n,_=>by simp[d3,Ds.dep]
 |m::r,n,h=>by
  have h1:=h m Q0a;have h2:=qu (l:=r) (n:=n) λx J=>h x (Q04 _ J);simp only[d3,Ds.dep,D.dep];omega
noncomputable def gj:Nat->Nat
 |0=>0
 |n+1=>8 * gj n+1
noncomputable def CB:Nat->Nat
 |0=>1
 |d+1=>1200 * CB d
theorem lE:∀d,1<=CB d
 |0=>Q00 _
 |d+1=>by have:=lE d;show 1<=1200 * CB d;omega
mutual
theorem qw:∀(k:Kd) (d:Nat),k.W->k.dep<=d+1->k.cB<=CB d
 | .num,d,_,_=>lE d
 | .fe,d,_,_=>lE d
 | .eQ fs,0,_,h=>by
   simp only[Kd.dep] at h
   cases fs with
   |nil=>simp[Kd.cB,Fs.cB]
   |cons x k r=>have:=k.gI;simp only[Fs.dep] at h;omega
 | .eQ fs,d+1,w,h=>by
   unfold Kd.W at w;simp only[Kd.dep] at h;have:=oz fs d w.2.2 (by omega);have e:fs.names.length * CB d<=12 * CB d:=Q11 _ w.2.1;show fs.cB<=1200 * CB d;omega
 | .rows key by_ fs,0,w,h=>by
   simp only[Kd.dep] at h
   cases fs with
   |nil=>simp[Kd.cB,Fs.cB,CB]
   |cons x k r=>have:=k.gI;simp only[Fs.dep] at h;omega
 | .rows key by_ fs,d+1,w,h=>by
   unfold Kd.W at w;simp only[Kd.dep] at h;have:=oz fs d w.2.2.1 (by omega);have e:fs.names.length * CB d<=12 * CB d:=Q11 _ w.2.1;have p:=lE d;show 8 * fs.cB+1<=1200 * CB d;omega
 | .tree k,0,w,h=>by
   have:=k.gI;simp only[Kd.dep] at h;omega
 | .tree k,d+1,w,h=>by
   unfold Kd.W at w;simp only[Kd.dep] at h;have:=qw k d w (by omega);have p:=lE d;show(k.cB+1) * 585<=1200 * CB d;omega
 | .fg fs,0,w,h=>by
   simp only[Kd.dep] at h
   cases fs with
   |nil=>simp[Kd.cB,Fs.cB,CB]
   |cons x k r=>have:=k.gI;simp only[Fs.dep] at h;omega
 | .fg fs,d+1,w,h=>by
   unfold Kd.W at w;simp only[Kd.dep] at h;have:=oz fs d w.2.2.2 (by omega);have e:fs.names.length * CB d<=12 * CB d:=Q11 _ w.2.1;have p:=lE d;show fs.cB+1<=1200 * CB d;omega
theorem oz:∀(fs:Fs) (d:Nat),fs.W->fs.dep<=d+1->fs.cB<=fs.names.length * CB d
 | .nil,d,_,_=>by simp[Fs.cB]
 | .cons x k r,d,w,h=>by
   unfold Fs.W at w;simp only[Fs.dep] at h;have a:=qw k d w.1 (by omega);have b:=oz r d w.2 (by omega);show k.cB+r.cB<=(r.names.length+1) * CB d;rw[Q1o];omega
end
end Pb
namespace Pb
open L2
mutual
def KA (H:Hp):V->Kd->Prop
 |v,.num=>∃a,v=.ref a/\H a=some (.tup [.str "number"])
 |v,.fe=>∃a,v=.ref a/\H a=some (.tup [.str "word"])
 |v,.eQ fs=>∃a b vs,v=.ref a/\H a=some (.tup [.str "record",.ref b])/\H b=some (.tup vs)/\FA H vs fs
 |v,.rows key by_ fs=>∃a b vs,v=.ref a/\H a=some (.tup [.str "rows",.str key,.str by_,.ref b])/\H b=some (.tup vs)/\FA H vs fs
 |v,.tree k=>∃a u,v=.ref a/\H a=some (.tup [.str "tree",u])/\KA H u k
 |v,.fg fs=>∃a b vs,v=.ref a/\H a=some (.tup [.str "either",.ref b])/\H b=some (.tup vs)/\FA H vs fs
def FA (H:Hp):List V->Fs->Prop
 |vs,.nil=>vs=[]
 |vs,.cons x k r=>∃c u J,vs=.ref c::J/\H c=some (.tup [.str x,u])/\KA H u k/\FA H J r
end
def Tu (H H':Hp):Prop:=∀a xs,H a=some (.tup xs)->H' a=some (.tup xs)
theorem Tu.trans {H H1 H2:Hp}(a:Tu H H1)(b:Tu H1 H2):Tu H H2:=λc xs h=>b c xs (a c xs h)
theorem Tu.of {H H':Hp}(s:Same H H'):Tu H H':=λa xs h=>s a _ h
theorem Tu.wr {H:Hp}{p:Addr}{o:HO}(h:∀xs,H p≠some (.tup xs)):Tu H (upd H p o):=λa xs e=>by
 rw[dh (λz=>h xs (by rw[<-z];exact e))];exact e
mutual
theorem KA.mono {H H':Hp}(t:Tu H H'):∀{v:V}(k:Kd),KA H v k->KA H' v k
 |v,.num,h=>by
  unfold KA at h ⊢;obtain⟨a,e,q⟩:=h;exact⟨a,e,t _ _ q⟩
 |v,.fe,h=>by
  unfold KA at h ⊢;obtain⟨a,e,q⟩:=h;exact⟨a,e,t _ _ q⟩
 |v,.eQ fs,h=>by
  unfold KA at h ⊢;obtain⟨a,b,vs,e,J,L,f⟩:=h;exact⟨a,b,vs,e,t _ _ J,t _ _ L,FA.mono t fs f⟩
 |v,.rows key by_ fs,h=>by
  unfold KA at h ⊢;obtain⟨a,b,vs,e,J,L,f⟩:=h;exact⟨a,b,vs,e,t _ _ J,t _ _ L,FA.mono t fs f⟩
 |v,.tree k,h=>by
  unfold KA at h ⊢;obtain⟨a,u,e,q,f⟩:=h;exact⟨a,u,e,t _ _ q,KA.mono t k f⟩
 |v,.fg fs,h=>by
  unfold KA at h ⊢;obtain⟨a,b,vs,e,J,L,f⟩:=h;exact⟨a,b,vs,e,t _ _ J,t _ _ L,FA.mono t fs f⟩
theorem FA.mono {H H':Hp}(t:Tu H H'):∀{vs:List V}(fs:Fs),FA H vs fs->FA H' vs fs
 |vs,.nil,h=>by
  unfold FA at h ⊢;exact h
 |vs,.cons x k r,h=>by
  unfold FA at h ⊢;obtain⟨c,u,J,e,q,f,g⟩:=h;exact⟨c,u,J,e,t _ _ q,KA.mono t k f,FA.mono t r g⟩
end
theorem FA.len {H:Hp}:∀{vs:List V}(fs:Fs),FA H vs fs->vs.length=fs.names.length
 |vs,.nil,h=>by
  unfold FA at h;rw[h];rfl
 |vs,.cons x k r,h=>by
  unfold FA at h;obtain⟨c,u,J,e,_,_,g⟩:=h;rw[e];show J.length+1=r.names.length+1;rw[FA.len r g]
theorem FA.get {H:Hp}:∀{vs:List V}(fs:Fs) {i:Nat}{v:V},FA H vs fs->vs[i]? =some v->∃c u x k,v=.ref c/\fs.at i=some (x,k)/\H c=some (.tup [.str x,u])/\KA H u k
 |vs,.nil,i,v,h,e=>by
  unfold FA at h;rw[h] at e;simp at e
 |vs,.cons x k r,0,v,h,e=>by
  unfold FA at h;obtain⟨c,u,L,J,q,f,_⟩:=h;rw[J] at e;have e:some (V.ref c)=some v:=e
  cases e;exact⟨c,u,x,k,rfl,rfl,q,f⟩
 |vs,.cons x k r,i+1,v,h,e=>by
  unfold FA at h;obtain⟨c,u,L,J,_,_,g⟩:=h;rw[J] at e;exact FA.get r (i:=i) g (by simpa using e)
theorem FA.at {H:Hp}{vs:List V}{fs:Fs}{i:Nat}{x:Str}{k:Kd}(h:FA H vs fs)(e:fs.at i=some (x,k)):∃c u,vs[i]? =some (.ref c)/\H c=some (.tup [.str x,u])/\KA H u k:=by
 have hl:=FA.len fs h
 have hi:i<fs.names.length:=by
  have:fs.names[i]? =some x:=by rw[Fs.iR,e];rfl
  exact(List.getElem?_eq_some_iff.mp this).1
 have hv:vs[i]? =some (vs[i]'(by omega)):=Q05 (by omega);obtain⟨c,u,U,Y,h1,h2,J,L⟩:=FA.get fs h hv;rw[e] at h2;cases h2;exact⟨c,u,by rw[hv,h1],J,L⟩
theorem FA.snoc {H:Hp}{c:Addr}{u:V}{x:Str}{k:Kd}(hc:H c=some (.tup [.str x,u]))(hk:KA H u k):∀{vs:List V}(fs:Fs),FA H vs fs->FA H (vs++[.ref c]) (fs.snoc x k)
 |vs,.nil,h=>by
  unfold FA at h;subst h;show FA H [.ref c] (.cons x k .nil);unfold FA;exact⟨c,u,[],rfl,hc,hk,by unfold FA;rfl⟩
 |vs,.cons y q r,h=>by
  unfold FA at h;obtain⟨d,w,J,e,h1,h2,L⟩:=h;subst e;show FA H (.ref d::(J++[.ref c])) (.cons y q (r.snoc x k));unfold FA;exact⟨d,w,J++[.ref c],rfl,h1,h2,FA.snoc hc hk r L⟩
mutual
def Own (H:Hp):V->D->List Addr->Prop
 |v,.int z,fp=>v=.int z/\fp=[]
 |v,.str x,fp=>v=.str x/\fp=[]
 |v,.tup xs,fp=>∃a vs,v=.ref a/\H a=some (.tup vs)/\df H vs xs fp
 |v,.lst xs,fp=>∃a vs J,v=.ref a/\H a=some (.lst vs)/\fp=a::J/\df H vs xs J
 |v,.dct m,fp=>∃a kvs J,v=.ref a/\H a=some (.dK kvs)/\fp=a::J/\dv H kvs m J
def df (H:Hp):List V->Ds->List Addr->Prop
 |vs,.nil,fp=>vs=[]/\fp=[]
 |vs,.cons _ d r,fp=>∃v q J L,vs=v::q/\fp=J++L/\Own H v d J/\df H q r L
def dv (H:Hp):List (Key × V)->Ds->List Addr->Prop
 |kvs,.nil,fp=>kvs=[]/\fp=[]
 |kvs,.cons x d r,fp=>∃v q J L,kvs=(Sum.inr x,v)::q/\fp=J++L/\Own H v d J/\dv H q r L
end
mutual
theorem Own.keep {H H':Hp}(t:Tu H H'):∀{v:V}(d:D) {fp:List Addr},(∀a∈fp,∀o,H a=some o->H' a=some o)->Own H v d fp->Own H' v d fp
 |v,.int z,fp,k,h=>by unfold Own at h ⊢;exact h
 |v,.str x,fp,k,h=>by unfold Own at h ⊢;exact h
 |v,.tup xs,fp,k,h=>by
  unfold Own at h ⊢;obtain⟨a,vs,e,q,f⟩:=h;exact⟨a,vs,e,t _ _ q,df.keep t xs k f⟩
 |v,.lst xs,fp,k,h=>by
  unfold Own at h ⊢;obtain⟨a,vs,J,e,q,rfl,f⟩:=h;exact⟨a,vs,J,e,k a Q0a _ q,rfl,df.keep t xs (λb L=>k b (Q04 _ L)) f⟩
 |v,.dct m,fp,k,h=>by
  unfold Own at h ⊢;obtain⟨a,vs,J,e,q,rfl,f⟩:=h;exact⟨a,vs,J,e,k a Q0a _ q,rfl,dv.keep t m (λb L=>k b (Q04 _ L)) f⟩
theorem df.keep {H H':Hp}(t:Tu H H'):∀{vs:List V}(xs:Ds) {fp:List Addr},(∀a∈fp,∀o,H a=some o->H' a=some o)->df H vs xs fp->df H' vs xs fp
 |vs,.nil,fp,k,h=>by unfold df at h ⊢;exact h
 |vs,.cons x d r,fp,k,h=>by
  unfold df at h ⊢;obtain⟨v,q,L,U,e,rfl,Y,g2⟩:=h;exact⟨v,q,L,U,e,rfl,Own.keep t d (λb J=>k b (Q0f _ J)) Y,df.keep t r (λb J=>k b (Q01 _ J)) g2⟩
theorem dv.keep {H H':Hp}(t:Tu H H'):∀{kvs:List (Key × V)}(m:Ds) {fp:List Addr},(∀a∈fp,∀o,H a=some o->H' a=some o)->dv H kvs m fp->dv H' kvs m fp
 |kvs,.nil,fp,k,h=>by unfold dv at h ⊢;exact h
 |kvs,.cons x d r,fp,k,h=>by
  unfold dv at h ⊢;obtain⟨v,q,L,U,e,rfl,Y,g2⟩:=h;exact⟨v,q,L,U,e,rfl,Own.keep t d (λb J=>k b (Q0f _ J)) Y,dv.keep t r (λb J=>k b (Q01 _ J)) g2⟩
end
theorem Own.same {H H':Hp}{v:V}{d:D}{fp:List Addr}(s:Same H H')(h:Own H v d fp):Own H' v d fp:=h.keep (Tu.of s) d λa _ o e=>s a o e
theorem df.same {H H':Hp}{v:List V}{d:Ds}{fp:List Addr}(s:Same H H')(h:df H v d fp):df H' v d fp:=h.keep (Tu.of s) d λa _ o e=>s a o e
theorem dv.same {H H':Hp}{v:List (Key × V)}{d:Ds}{fp:List Addr}(s:Same H H')(h:dv H v d fp):dv H' v d fp:=h.keep (Tu.of s) d λa _ o e=>s a o e
def Mu (H:Hp) (a:Addr):Prop:=(∃xs,H a=some (.lst xs))\/∃kvs,H a=some (.dK kvs)
mutual
theorem Own.alive {H:Hp}:∀{v:V}(d:D) {fp:List Addr},Own H v d fp->∀a∈fp,Mu H a
 |v,.int z,fp,h=>by unfold Own at h;rw[h.2];intro a J;exact absurd J (by simp)
 |v,.str x,fp,h=>by unfold Own at h;rw[h.2];intro a J;exact absurd J (by simp)
 |v,.tup xs,fp,h=>by
  unfold Own at h;obtain⟨a,vs,e,q,f⟩:=h;exact df.alive xs f
 |v,.lst xs,fp,h=>by
  unfold Own at h;obtain⟨a,vs,U,e,q,rfl,f⟩:=h;intro b L;rcases List.mem_cons.mp L with z|z
  . rw[z];exact .inl ⟨_,q⟩
  . exact df.alive xs f b z
 |v,.dct m,fp,h=>by
  unfold Own at h;obtain⟨a,vs,U,e,q,rfl,f⟩:=h;intro b L;rcases List.mem_cons.mp L with z|z
  . rw[z];exact .inr ⟨_,q⟩
  . exact dv.alive m f b z
theorem df.alive {H:Hp}:∀{vs:List V}(xs:Ds) {fp:List Addr},df H vs xs fp->∀a∈fp,Mu H a
 |vs,.nil,fp,h=>by unfold df at h;rw[h.2];intro a J;exact absurd J (by simp)
 |vs,.cons x d r,fp,h=>by
  unfold df at h;obtain⟨v,q,f1,f2,e,rfl,L,U⟩:=h;intro b Y;rcases List.mem_append.mp Y with z|z
  . exact Own.alive d L b z
  . exact df.alive r U b z
theorem dv.alive {H:Hp}:∀{kvs:List (Key × V)}(m:Ds) {fp:List Addr},dv H kvs m fp->∀a∈fp,Mu H a
 |kvs,.nil,fp,h=>by unfold dv at h;rw[h.2];intro a J;exact absurd J (by simp)
 |kvs,.cons x d r,fp,h=>by
  unfold dv at h;obtain⟨v,q,f1,f2,e,rfl,L,U⟩:=h;intro b Y;rcases List.mem_append.mp Y with z|z
  . exact Own.alive d L b z
  . exact dv.alive r U b z
end
noncomputable def Ds.len:Ds->Nat
 | .nil=>0
 | .cons _ _ r=>r.len+1
noncomputable def Ds.names:Ds->List Str
 | .nil=>[]
 | .cons x _ r=>x::r.names
noncomputable def Ds.at:Ds->Nat->Option D
 | .nil,_=>none
 | .cons _ d _,0=>some d
 | .cons _ _ r,i+1=>r.at i
noncomputable def Ds.snoc:Ds->Str->D->Ds
 | .nil,x,d=>.cons x d .nil
 | .cons y e r,x,d=>.cons y e (r.snoc x d)
theorem Ds.qx:∀(xs:Ds) (x:Str) (d:D),(xs.snoc x d).len=xs.len+1
 | .nil,_,_=>rfl
 | .cons _ _ r,x,d=>by show(r.snoc x d).len+1=r.len+1+1;rw[Ds.qx r x d]
theorem Ds.i9:∀{xs:Ds}{i:Nat}{d:D},xs.at i=some d->d.dep<=xs.dep
 | .nil,_,_,h=>by cases h
 | .cons _ d r,0,_,h=>by cases h;exact Q1a _ _
 | .cons _ d r,i+1,_,h=>Q0h (Ds.i9 (xs:=r) (i:=i) h) (Q1h _ _)
theorem Ds.jV:∀{xs:Ds}{x:Str}{d:D},xs.get x=some d->d.dep<=xs.dep
 | .nil,_,_,h=>by cases h
 | .cons y e r,x,d,h=>by
   have h:(if x=y then some e else r.get x)=some d:=h;by_cases c:x=y
   . rw[if_pos c] at h;cases h;exact Q1a _ _
   . rw[if_neg c] at h;exact Q0h (Ds.jV h) (Q1h _ _)
theorem df.len {H:Hp}:∀{vs:List V}(xs:Ds) {fp:List Addr},df H vs xs fp->vs.length=xs.len
 |vs,.nil,fp,h=>by unfold df at h;rw[h.1];rfl
 |vs,.cons x d r,fp,h=>by
  unfold df at h;obtain⟨v,q,L,U,rfl,rfl,Y,J⟩:=h;show q.length+1=r.len+1;rw[df.len r J]
theorem df.get {H:Hp}:∀{vs:List V}(xs:Ds) {fp:List Addr}{i:Nat}{v:V},df H vs xs fp->vs[i]? =some v->∃d f,xs.at i=some d/\Own H v d f/\∀a∈f,a∈fp
 |vs,.nil,fp,i,v,h,e=>by
  unfold df at h;rw[h.1] at e;simp at e
 |vs,.cons x d r,fp,0,v,h,e=>by
  unfold df at h;obtain⟨w,q,L,f2,rfl,rfl,U,Y⟩:=h;have e:some w=some v:=e
  cases e;exact⟨d,L,rfl,U,λa J=>Q0f _ J⟩
 |vs,.cons x d r,fp,i+1,v,h,e=>by
  unfold df at h;obtain⟨w,q,L,f2,rfl,rfl,U,Y⟩:=h;obtain⟨d',f,h1,h2,h3⟩:=df.get r (i:=i) Y (by simpa using e);exact⟨d',f,h1,h2,λa J=>Q01 _ (h3 a J)⟩
theorem df.snoc {H:Hp}{v:V}{d:D}{g:List Addr}{y:Str}(hv:Own H v d g):∀{vs:List V}(xs:Ds) {fp:List Addr},df H vs xs fp->df H (vs++[v]) (xs.snoc y d) (fp++g)
 |vs,.nil,fp,h=>by
  unfold df at h;obtain⟨rfl,rfl⟩:=h;show df H [v] (.cons y d .nil) g;unfold df;exact⟨v,[],g,[],rfl,by simp,hv,by unfold df;exact⟨rfl,rfl⟩⟩
 |vs,.cons x e r,fp,h=>by
  unfold df at h;obtain⟨w,q,J,L,rfl,rfl,U,Y⟩:=h;show df H (w::(q++[v])) (.cons x e (r.snoc y d)) (J++L++g);unfold df;exact⟨w,q++[v],J,L++g,rfl,by rw[Q0r],U,df.snoc hv r Y⟩
theorem dv.snoc {H:Hp}{v:V}{d:D}{g:List Addr}{y:Str}(hv:Own H v d g):∀{kvs:List (Key × V)}(xs:Ds) {fp:List Addr},dv H kvs xs fp->dv H (kvs++[(Sum.inr y,v)]) (xs.snoc y d) (fp++g)
 |kvs,.nil,fp,h=>by
  unfold dv at h;obtain⟨rfl,rfl⟩:=h;show dv H [(Sum.inr y,v)] (.cons y d .nil) g;unfold dv;exact⟨v,[],g,[],rfl,by simp,hv,by unfold dv;exact⟨rfl,rfl⟩⟩
 |kvs,.cons x e r,fp,h=>by
  unfold dv at h;obtain⟨w,q,J,L,rfl,rfl,U,Y⟩:=h;show dv H ((Sum.inr x,w)::(q++[(Sum.inr y,v)])) (.cons x e (r.snoc y d)) (J++L++g);unfold dv;exact⟨w,q++[(Sum.inr y,v)],J,L++g,rfl,by rw[Q0r],U,dv.snoc hv r Y⟩
theorem dv.keys {H:Hp}:∀{kvs:List (Key × V)}(m:Ds) {fp:List Addr},dv H kvs m fp->kvs.map (·.1)=m.names.map Sum.inr
 |kvs,.nil,fp,h=>by unfold dv at h;rw[h.1];rfl
 |kvs,.cons x d r,fp,h=>by
  unfold dv at h;obtain⟨v,q,L,U,rfl,rfl,Y,J⟩:=h;show Sum.inr x::q.map (·.1)=Sum.inr x::r.names.map Sum.inr;rw[dv.keys r J]
theorem dv.len {H:Hp}{kvs:List (Key × V)}{m:Ds}{fp:List Addr}(h:dv H kvs m fp):kvs.length=m.names.length:=by
 have:=congrArg List.length (dv.keys m h);simpa using this
theorem dv.val {H:Hp}:∀{kvs:List (Key × V)}(m:Ds) {fp:List Addr}{x:Str}{d:D},dv H kvs m fp->m.get x=some d->∃v f,fU kvs (Sum.inr x)=some v/\Own H v d f/\∀a∈f,a∈fp
 |kvs,.nil,fp,x,d,h,e=>by cases e
 |kvs,.cons y e r,fp,x,d,h,J=>by
  unfold dv at h;obtain⟨v,q,U,f2,rfl,rfl,Y,g2⟩:=h;have J:(if x=y then some e else r.get x)=some d:=J;by_cases c:x=y
  . rw[if_pos c] at J
    cases J;exact⟨v,U,nW (by rw[c]),Y,λa L=>Q0f _ L⟩
  . rw[if_neg c] at J;obtain⟨w,f,h1,h2,h3⟩:=dv.val r g2 J;exact⟨w,f,by rw[nX (λz=>c (Sum.inr.inj z).symm)];exact h1,h2,λa L=>Q01 _ (h3 a L)⟩
theorem dB.names:∀{fs:Fs}{m:Ds},dB fs m->m.names=fs.names
 | .nil,m,h=>by unfold dB at h;rw[h];rfl
 | .cons x k r,m,h=>by
   unfold dB at h;obtain⟨d,q,rfl,_,g⟩:=h;show x::q.names=x::r.names;rw[dB.names g]
theorem dv.CZ {H:Hp}{kvs:List (Key × V)}{m:Ds}{fp:List Addr}{x:Str}(h:dv H kvs m fp)(J:x ∉ m.names):fU kvs (Sum.inr x)=none:=by
 cases e:fU kvs (Sum.inr x) with
 |none=>rfl
 |some v=>
  have:=B3 e;rw[dv.keys m h] at this;obtain⟨y,L,U⟩:=List.mem_map.mp this
  cases U;exact absurd L J
theorem qy {kvs:List (Key × V)}{k:Key}{v:V}(h:fU kvs k=none):putK kvs k v=kvs++[(k,v)]:=by
 unfold putK;rw[if_neg];rw[lr,h];simp
def Kp (S:Addr->Prop) (H H':Hp):Prop:=∀c o,¬S c->H c=some o->H' c=some o
theorem Kp.refl (S:Addr->Prop)(H:Hp):Kp S H H:=λ_ _ _ h=>h
theorem Kp.trans {S:Addr->Prop}{H H1 H2:Hp}(x:Kp S H H1)(y:Kp S H1 H2):Kp S H H2:=λc o n h=>y c o n (x c o n h)
theorem Kp.of {S:Addr->Prop}{H H':Hp}(s:Same H H'):Kp S H H':=λc o _ h=>s c o h
theorem Kp.mono {S T:Addr->Prop}{H H':Hp}(x:Kp S H H')(h:∀a,S a->T a):Kp T H H':=λc o n q=>x c o (λz=>n (h c z)) q
theorem Kp.eX {S:Addr->Prop}{H H':Hp}{a:Addr}(x:Kp S H H')(J:¬S a)(h:H' a=none):H a=none:=by
 cases e:H a with
 |none=>rfl
 |some o=>rw[x a o J e] at h;cases h
inductive A3 {α β γ:Type} (R:α->β->γ->Prop):List α->List β->List γ->Prop
 |nil:A3 R [] [] []
 |cons {a:α} {b:β} {c:γ} {as:List α} {bs:List β} {cs:List γ}:R a b c->A3 R as bs cs->A3 R (a::as) (b::bs) (c::cs)
theorem A3.snoc {α J L:Type}{R:α->J->L->Prop}{a:α}{b:J}{c:L}(h:R a b c):∀{as:List α}{bs:List J}{cs:List L},A3 R as bs cs->A3 R (as++[a]) (bs++[b]) (cs++[c])
 |_,_,_,.nil=>.cons h .nil
 |_,_,_,.cons x r=>.cons x (A3.snoc h r)
theorem A3.len {α J L:Type}{R:α->J->L->Prop}:∀{as:List α}{bs:List J}{cs:List L},A3 R as bs cs->as.length=bs.length/\as.length=cs.length
 |_,_,_,.nil=>⟨rfl,rfl⟩
 |_,_,_,.cons x r=>by
  obtain⟨h1,h2⟩:=A3.len r;simp only[Q0e];omega
theorem A3.at {α J L:Type}{R:α->J->L->Prop}{a0:α}{b0:J}{c0:L}:∀{as:List α}{bs:List J}{cs:List L},A3 R as bs cs->∀i,i<as.length->R (as.getD i a0) (bs.getD i b0) (cs.getD i c0)
 |_,_,_,.nil,i,h=>absurd h (by simp)
 |_,_,_,.cons x r,0,h=>x
 |_,_,_,.cons x r,i+1,h=>by
  have:=A3.at (a0:=a0) (b0:=b0) (c0:=c0) r i (by simpa using h);simpa using this
theorem A3.pick {α J L:Type}{R:α->J->L->Prop}{a0:α}{b0:J}{c0:L}{as:List α}{bs:List J}{cs:List L}(h:A3 R as bs cs):∀p:List Nat,(∀i∈p,i<as.length)->A3 R (p.map λi=>as.getD i a0) (p.map λi=>bs.getD i b0) (p.map λi=>cs.getD i c0)
 |[],_=>.nil
 |i::p,hp=>.cons (h.at i (hp i Q0a)) (A3.pick h p λj U=>hp j (Q04 _ U))
theorem C0 {α:Type}(a0:α):∀l:List α,((List.range l.length).map λi=>l.getD i a0)=l:=λl=>by
 apply Q2q
 . simp
 . intro i h1 h2;simp[h2]
theorem xH {α:Type}(a0:α){l:List α}{p:List Nat}(h:p.Perm (List.range l.length)):(p.map λi=>l.getD i a0).Perm l:=by
 have:=h.map (λi=>l.getD i a0)
 rwa [C0] at this
theorem mE {α:Type}{l1 l2:List (List α)}(h:l1.Perm l2):l1.flatten.Perm l2.flatten:=by
 induction h with
 |nil=>exact List.Perm.refl _
 |cons x _ J=>exact J.append_left x
 |swap x y l=>
  show(y++(x++l.flatten)).Perm (x++(y++l.flatten));rw[<-Q0r,<-Q0r];exact List.perm_append_comm.append_right _
 |trans _ _ a b=>exact a.trans b
abbrev dS (H:Hp):List V->List Ds->List (List Addr)->Prop:=A3 λv m f=>Own H v (.dct m) f
theorem dS.own {H:Hp}:∀{vs:List V}{J:List Ds}{fs:List (List Addr)},dS H vs J fs->df H vs (d3 J) fs.flatten
 |_,_,_,.nil=>by unfold d3 df;exact⟨rfl,rfl⟩
 |_,_,_,.cons h r=>by
  unfold d3 df;exact⟨_,_,_,_,rfl,rfl,h,dS.own r⟩
theorem df.rows {H:Hp}:∀{J:List Ds}{vs:List V}{fp:List Addr},df H vs (d3 J) fp->∃fs,dS H vs J fs/\fp=fs.flatten
 |[],vs,fp,h=>by
  unfold d3 df at h;obtain⟨rfl,rfl⟩:=h;exact⟨[],.nil,rfl⟩
 |m::J,vs,fp,h=>by
  unfold d3 df at h;obtain⟨v,q,L,f2,rfl,rfl,U,Y⟩:=h;obtain⟨fs,h1,rfl⟩:=df.rows Y;exact⟨L::fs,.cons U h1,rfl⟩
noncomputable def lt (z:Int):Str:=⟨#[97+z.toNat]⟩
theorem oA (z:Int):(lt z).length=1:=rfl
theorem C1:∀j:Nat,j<26->(("abcdefghijklmnopqrstuvwxyz":Str)).cps.toList[j]? =some (97+j):=by decide +kernel
theorem C2:(("abcdefghijklmnopqrstuvwxyz":Str)).cps.toList.length=26:=by decide +kernel
theorem qz {z:Int}(J:0<=z)(h1:z<26):fW (("abcdefghijklmnopqrstuvwxyz":Str)).cps.toList z=some (97+z.toNat):=by
 unfold fW jq;rw[C2,if_pos J,if_pos (show z<((26:Nat):Int) by omega)];exact C1 z.toNat (by omega)
theorem C3 {z:Int}(J:0<=z)(h1:z<6):fW [V.int 1,.int 3,.int 5,.int 7,.int 9,.int 11] z=some (.int (2 * z+1)):=by
 obtain⟨n,rfl⟩:=Int.eq_ofNat_of_zero_le J;have h:=Int.ofNat_lt.mp h1;clear J h1;revert n
 decide
theorem foldl_size (a:Array Nat):∀(n:Nat) (b:Array Nat),((List.replicate n a).foldl (· ++ ·) b).size=b.size+n * a.size
 |0,b=>by simp
 |n+1,b=>by
  rw[Q1v,Q1b,foldl_size a n,Q2r,Q1o];omega
theorem xI {x:Str}(J:x.length=1)(k:Nat):(Txt.mul x ((k:Int)+1)).length=k+1:=by
 have L:x.cps.size=1:=J;unfold Txt.mul;rw[if_neg (by omega)];by_cases h:k=0
 . subst h;rw[if_pos (by simp)];exact J
 . rw[if_neg]
   . show((List.replicate ((k:Int)+1).toNat x.cps).foldl (· ++ ·) #[]).size=k+1;rw[foldl_size,L,show((k:Int)+1).toNat=k+1 by omega];simp
   . rw[J];simp;omega
theorem xJ (x y:Str):(x++y).cps.toList=x.cps.toList++y.cps.toList:=by
 show(x.cps++y.cps).toList=_;simp
theorem xK {f:Nat->Str}:∀{n:Nat},(∀i j,i<n->j<n->f i=f j->i=j)->((List.range n).map f).Nodup:=by
 intro n h;refine List.pairwise_map.mpr (List.Pairwise.imp_of_mem (λ{a b} L U J=>?_) (List.nodup_range (n:=n)));intro e;exact J (h a b (List.mem_range.mp L) (List.mem_range.mp U) e)
theorem C4 {x:Str}(J:x.length=1){k:Nat}(hk:k<12)(hl:∀n,n<=1000->Builtin.Str.tooLong n=false):MulOk x ((k:Int)+1):=by
 refine⟨?_,λ_ z=>?_,λ_ _=>?_⟩
 . have L:decide (((k:Int)+1)< -(2 ^ 63:Int))=false:=decide_eq_false (by omega);have U:decide (((k:Int)+1) ≥ 2 ^ 63)=false:=decide_eq_false (by omega);rw[L,U];rfl
 . rw[J];clear hl J z;revert k
   decide
 . rw[J];exact hl _ (by omega)
end Pb
namespace Pb
open L2 PyProof.Rows Spec StrLaws Builtin Builtin.Str
def sle (x y:Str):Prop:=g_ (gd x) (gd y)
def slt (x y:Str):Prop:=eY (gd x) (gd y)=true
theorem C5 (x y:Str)(h:slt x y):¬slt y x:=λh2=>by
 have z:=lz _ _ _ h h2;rw[oo] at z
 cases z
theorem C6 {x y:Str}(h:gd x=gd y):x=y:=Sum.inr.inj (List.cons.inj h).1
theorem xM {x y:Str}(h:sle x y):slt x y\/x=y:=by
 rcases mB (gd x) (gd y) with q|q|q
 . exact .inl q
 . exact .inr (C6 q)
 . have h:eY (gd y) (gd x)=false:=h;rw[h] at q;cases q
theorem C7 {x y:Str}(h:slt x y):sle x y:=by
 unfold sle g_
 cases e:eY (gd y) (gd x) with
 |false=>rfl
 |true=>exact absurd e (C5 _ _ h)
theorem C8 {x y z:Str}(h1:sle x y)(h2:sle y z):sle x z:=by
 rcases xM h1 with a|a
 . rcases xM h2 with b|b
   . exact C7 (lz _ _ _ a b)
   . rw[<-b];exact h1
 . rw[a];exact h2
theorem xN (x y:Str):ltCps x.cps.toList y.cps.toList=eY (gd x) (gd y):=by
 rw[CQ];exact ltCps_eq _ _
theorem xO:∀{ss:List Str},sortedS ss=true->ss.Pairwise sle
 |[],_=>.nil
 |[x],_=>Q1u _ _
 |x::y::r,h=>by
  have h:(!ltCps y.cps.toList x.cps.toList && risingS y r)=true:=h;obtain⟨h1,h2⟩:=Bool.and_eq_true_iff.mp h;have L:(y::r).Pairwise sle:=xO (ss:=y::r) h2
  have J:sle x y:=by
   rw[xN] at h1;unfold sle g_
   cases e:eY (gd y) (gd x) with
   |false=>rfl
   |true=>rw[e] at h1;cases h1
  refine .cons (λz U=>?_) L;rcases List.mem_cons.mp U with e|e
  . rw[e];exact J
  . exact C8 J ((List.pairwise_cons.mp L).1 z e)
theorem foldl_rep (c:Nat):∀(n:Nat) (b:Array Nat),((List.replicate n #[c]).foldl (· ++ ·) b).toList=b.toList++List.replicate n c
 |0,b=>by simp
 |n+1,b=>by
  rw[Q1v,Q1b,foldl_rep c n,Array.toList_append,Q0r];rfl
theorem xP (z:Int)(k:Nat):(Txt.mul (lt z) ((k:Int)+1)).cps.toList=List.replicate (k+1) (97+z.toNat):=by
 unfold Txt.mul;rw[if_neg (by omega)];by_cases h:(((k:Int)+1 == 1) || (lt z).length == 0)=true
 . rw[if_pos h]
   have hk:k=0:=by
    rw[oA] at h;simp at h;omega
   subst hk;rfl
 . rw[if_neg h];have e:((k:Int)+1).toNat=k+1:=by omega
   rw[e];show((List.replicate (k+1) #[97+z.toNat]).foldl (· ++ ·) #[]).toList=_;rw[foldl_rep];rfl
end Pb
namespace L2
open Spec PyProof.Rows
noncomputable def qA (a:Addr) (o:Obj) (kvs:List (Key × V)):It:=
 ⟨λi H=>i<kvs.length/\H a=some (.e8 o (.dK kvs)),λi H x H'=>H'=H/\∃p,kvs[i]? =some p/\x=kV p.1,λi H=>kvs.length<=i/\H a=some (.e8 o (.dK kvs))⟩
theorem xQ:∀{kvs:List (Key × V)}{vs:List (Key × Value)}{i:Nat}{p:Key × V},KV kvs vs->kvs[i]? =some p->∃v,vs[i]? =some (p.1,v)
 |_,_,i,p,.nil,h=>by simp at h
 |_,_,0,p,.cons (b:=b) h t,e=>by
  have e:=Option.some.inj (show some _=some p from e);subst e;exact⟨b.2,by show some b=_;rw[h.1]⟩
 |_,_,i+1,p,.cons h t,e=>xQ (i:=i) t e
theorem C9 {P:Program}{w:World}{k:Key}{u:Value}(h:(f9 P w).is k u=true):RelV (kV k) u:=by
 have h:jG k u=true:=h;rcases iX h with⟨i,t,rfl,rfl⟩|⟨x,t,rfl,rfl⟩
 . exact⟨t,rfl⟩
 . exact⟨t,rfl⟩
theorem C_ {P:Program}{w:World}{K:W.Frag}{tg:Expr}{a it:Addr}{o:Obj}{kvs:List (Key × V)}{vs:List (Key × Value)}{ep:Nat}(Y:KV kvs vs)(ha:∀h:Heap,h.get? a=some o->h.DictAt (f9 P w) a vs ep):
 Turn P w K tg (qA a o kvs) [it] it (λi h=>h.IsKeyIter it a i vs.length ep) where
 mem:=by simp
 obj:=λi h st b J=>by
  have e:b=it:=by simpa using J
  subst e;obtain⟨o,e,c,d⟩:=st;exact⟨o,e,λv z=>by rw[d] at z;cases z⟩
 keep:=λi h h' st k=>st.at λo e=>k it (by simp) o e
 item:=by
  intro X hP hw hK hc i pins s σ H E I hf st hg;subst hP hw hK;obtain⟨hi,L⟩:=hg;obtain⟨U,_⟩:=I.hok a _ L;have hp:kvs[i]? =some kvs[i]:=Q05 hi;obtain⟨v,hv⟩:=xQ Y hp;obtain⟨f0,f1,f2,f3,f4,f5⟩:=hf it (by simp);refine wpAny_pyNext_dict_item st (ha _ U) hv λkey h' hk aa sb=>?_;have I1:Inv X pins σ H { s with heap:=h' }:=I.turned (t':=s.toks) (λb o J e=>(sb.2 b J).trans e) f0 f1 f3 f4 f5;obtain⟨o,e,c,d⟩:=id aa;exact⟨key,rfl,nK (s:={ s with heap:=h' }) e c d (by decide) ⟨kV kvs[i].1,H,I1,C9 hk,⟨rfl,_,hp,rfl⟩,aa,λb J=>(hf b J).1⟩⟩
 done:=by
  intro X hP hw hK hc i pins s σ H E I hf st hg;subst hP hw hK;obtain⟨hi,L⟩:=hg;obtain⟨U,_⟩:=I.hok a _ L;obtain⟨f0,f1,f2,f3,f4,f5⟩:=hf it (by simp);have hl:=Paired.length Y;exact wpAny_pyNext_dict_end (I.ok.hd hc) st (ha _ U) (Q2z (by omega)) λh' eb=>⟨rfl,I.turned (t':=s.toks) (λb o J e=>eb b o J e) f0 f1 f3 f4 f5⟩
 self:=λ_ _ _ _ _ st h=>wpAny_pyIter_keyiter st h
section
variable {X:Cx}{tg:Expr}
def oB (J:Hp) (a:Addr):Prop:=∀o u,J a≠some (.e8 o u)
def xR (J:Hp) (tl:TE):TI:=λσ H R=>tl σ H λx H1=>∃a kvs,x=.ref a/\H1 a=some (.dK kvs)/\∀o,oB J a->R (qA a o kvs) (upd H1 a (.e8 o (.dK kvs)))
theorem Inv.freeze {pins:List (Addr × Obj)}{σ:St}{H:Hp}{s:Shared}{a:Addr}{kvs:List (Key × V)}(I:Inv X pins σ H s)(h:H a=some (.dK kvs)):
 ∃o vs ep,KV kvs vs/\(a == sysModules)=false/\s.heap.get? a=some o/\(∀h:Heap,h.get? a=some o->h.DictAt (f9 X.prog X.w) a vs ep)/\oB X.H₀ a/\Inv X pins σ (upd H a (.e8 o (.dK kvs))) s:=by
 obtain⟨z,Y,vs,L,o,es,ep,U,e2⟩:=id (I.hok a _ h);refine⟨o,vs,ep,L,Y,U,λh' e=>⟨o,es,e,e2⟩,λo' u J=>?_,?_⟩
 . have:=I.base.iz a o' u J;rw[h] at this;cases this
 . have u:Un X.fs [] H (upd H a (.e8 o (.dK kvs))) s.heap s.heap:=Un.write (x:=a) (e:=a) (by rw[h];trivial) (.inl rfl) (λb u _ q=>q) ⟨o,U⟩;refine I.un (t':=s.toks) u λb v e=>?_;by_cases hb:b=a
   . subst hb;rw[de] at e
     cases e;exact⟨U,z,Y,vs,L,o,es,ep,U,e2⟩
   . rw[dh hb] at e;exact(I.hok b v e).stay (λc w _ q=>q) (λc q=>by rw[dh (λJ=>by rw[J,h] at q;cases q)];exact q) λc xs q=>by rw[dh (λJ=>by rw[J,h] at q;cases q)];exact q
theorem Inv.Dc {pins:List (Addr × Obj)}{σ:St}{H:Hp}{s:Shared}{a:Addr}{o:Obj}{kvs:List (Key × V)}(I:Inv X pins σ H s)(h:H a=some (.e8 o (.dK kvs)))(Y:oB X.H₀ a):Inv X pins σ (upd H a (.dK kvs)) s:=by
 have nn:∀{b:Addr},H b=none->upd H a (.dK kvs) b=none:=λ{b} e=>by rw[dh (λz=>by rw[z,h] at e;cases e)];exact e
 refine⟨I.ok,I.os,I.bare,⟨I.base.keep,I.base.slot,λb u q n hx=>nn (I.base.free b u q n hx),I.base.there,λb xs q=>?_,λb o' u q=>?_,λb ps q=>?_⟩,I.loc,I.cell,nn I.free,λx c e=>nn (I.gM x c e),λp hp=>?_,λb v e=>?_,I.len⟩
 . have:=I.base.tups b xs q;rw[dh (λz=>by rw[z,h] at this;cases this)];exact this
 . have:=I.base.iz b o' u q;rw[dh (λz=>Y o' u (by rw[<-z];exact q))];exact this
 . obtain⟨J,this⟩:=I.base.iM b ps q;exact⟨J,by rw[dh (λz=>by rw[z,h] at this;cases this)];exact this⟩
 . obtain⟨p1,p2,p3⟩:=I.pin p hp;exact⟨p1,nn p2,p3⟩
 . by_cases U:b=a
   . subst U;rw[de] at e
     cases e;exact(I.hok b _ h).2
   . rw[dh U] at e;exact(I.hok b v e).stay (λc w _ q=>q) (λc q=>by rw[dh (λL=>by rw[L,h] at q;cases q)];exact q) λc xs q=>by rw[dh (λL=>by rw[L,h] at q;cases q)];exact q
theorem Dd {l:Expr}{tl:TE}(hl:PE X l tl):PI X tg l (xR X.H₀ tl):=by
 intro pins s σ H R I h;refine dH (hl pins s σ H _ I h) λv L zq=>?_;obtain⟨x,H1,I1,r1,q1⟩:=zq;obtain⟨a,kvs,e,hq,q⟩:=q1;subst e
 cases r1;obtain⟨o,vs,ep,Y,hs,aa,J,hz,U⟩:=I1.freeze hq;refine wpAny_pyIter_dict hs (J _ aa) ?_;refine⟨L.heap.objs.size,[L.heap.objs.size],_,_,upd H1 a (.e8 o (.dK kvs)),rfl,U.kept (t':=L.toks) λb o e=>Q07 _ e,C_ Y J,⟨_,Q0i _ rfl,rfl,rfl⟩,λb hb=>?_,q o hz⟩;have e:b=L.heap.objs.size:=by simpa using hb
 subst e;exact U.i3 (Q00 _) (U.hok.fresh (Q00 _))
theorem xS {J:Hp}(L:X.H₀=J){l:Expr}{tl:TE}(hl:PE X l tl):PI X tg l (xR J tl):=by
 subst L;exact Dd hl
def De (J:Hp) (t:TE):TE:=λσ H Q=>t σ H λv H'=>∃a o kvs,oB J a/\H' a=some (.e8 o (.dK kvs))/\Q v (upd H' a (.dK kvs))
theorem xT {L:Hp}(U:X.H₀=L){e:Expr}{t:TE}(h:PE X e t):PE X e (De L t):=by
 subst U;intro pins s σ H Q I q;refine dH (h pins s σ H _ I q) λv s1 zq=>?_;obtain⟨x,H1,Y,r1,J⟩:=zq;obtain⟨a,o,kvs,hz,ha,J⟩:=J;exact⟨x,_,Y.Dc ha hz,r1,J⟩
end
section
variable {prog:Program}{w:World}{A:Around}{E:Value->Shared->Prop}{s:Shared}
theorem qB {j a:Addr}{i:Nat}{vs:Array Value}{v:Value}{Q:Value->Shared->Prop}(h1:s.heap.IsTupleIter j a i)(h2:s.heap.IsTuple a vs)(hv:vs[i]? =some v)(q:∀h',h'.IsTupleIter j a (i+1)->Heap.SameBut j s.heap h'->Q v { s with heap:=h' }):
 wpAny (model prog w) A (Builtin.SmallTypes.nextOf (.ref j)) Q E s:=by
 obtain⟨ob,L,U,J⟩:=id h1;obtain⟨ot,Y,_,nt,k2⟩:=h2;unfold Builtin.SmallTypes.nextOf;refine Q0 (wpAny_callSpecial?_slot (name:=Str.ofString "__next__") h1.typeIs F.slot_tuple_iterator_next (wpAny_call_entry F.slot_tuple_iterator_next h1.typeIs F.entry_tuple_iterator_next ?_ (F.args_tuple_iterator_next_1 _)));show wpAny _ _ (field (.ref j) 0 >>= _) _ _ s;refine Q0 (wpAny_field L J (x:=.ref a) rfl ?_);show wpAny _ _ (if(Value.ref a == Value.none)=true then _ else _) _ _ s;rw[if_neg (show ¬((Value.ref a == Value.none)=true) from Bool.false_ne_true)];show wpAny _ _ (field (.ref j) 1 >>= _) _ _ s;refine Q0 (wpAny_field L J (x:=.int i 0) rfl ?_);show wpAny _ _ (seqItems? (.ref a) >>= _) _ _ s;refine Q0 (wpAny_seqItems Y k2 ?_);simp only[Q1p,hv];refine Q0 (wpAny_setField L J (by simp) (Q02 ⟨v,rfl,Q02 (q _ ?_ (Heap.SameBut.update ..))⟩));exact⟨_,Q1j _ L (Obj.isFreed_of_fields (Obj.data_mapFields J _)),(Obj.cls_mapFields ..).trans U,by rw[Obj.data_mapFields J];simp[rawInt]⟩
theorem xU {j a:Addr}{i:Nat}{vs:Array Value}{Q:Value->Shared->Prop}(U:A.handled=none)(h1:s.heap.IsTupleIter j a i)(h2:s.heap.IsTuple a vs)(hv:vs[i]? =none)
 (q:∀h' e,Heap.ExtBut j s.heap h'->(∃o,h'.get? e=some o/\o.cls=.type "StopIteration")->E (.ref e) { s with heap:=h' }):wpAny (model prog w) A (Builtin.SmallTypes.nextOf (.ref j)) Q E s:=by
 obtain⟨ob,J,g2,L⟩:=id h1;obtain⟨ot,Y,_,nt,k2⟩:=h2;unfold Builtin.SmallTypes.nextOf;refine Q0 (wpAny_callSpecial?_slot (name:=Str.ofString "__next__") h1.typeIs F.slot_tuple_iterator_next (wpAny_call_entry F.slot_tuple_iterator_next h1.typeIs F.entry_tuple_iterator_next ?_ (F.args_tuple_iterator_next_1 _)));show wpAny _ _ (field (.ref j) 0 >>= _) _ _ s;refine Q0 (wpAny_field J L (x:=.ref a) rfl ?_);show wpAny _ _ (if(Value.ref a == Value.none)=true then _ else _) _ _ s;rw[if_neg (show ¬((Value.ref a == Value.none)=true) from Bool.false_ne_true)];show wpAny _ _ (field (.ref j) 1 >>= _) _ _ s;refine Q0 (wpAny_field J L (x:=.int i 0) rfl ?_);show wpAny _ _ (seqItems? (.ref a) >>= _) _ _ s;refine Q0 (wpAny_seqItems Y k2 ?_);simp only[Q1p,hv];refine Q0 (wpAny_rule (Q0 (wpAny_setField J L (by simp) ?_)));show wpAny _ _ (newExc (.type "StopIteration") [] >>= _) _ _ _;refine Q0 ?_;simp only[newExc,newTuple];refine Q0 (wpAny_newObj_type ?_ (by size_fits));refine Q0 (m:=firstArgMember _ _) (wpAny_of_eq (a:=Value.none) (by first|rfl|(simp only[firstArgMember];rfl)) ?_);refine wpAny_newObj_type ?_ (by size_fits);simp only[raiseNew];refine Q0 (wpAny_handled ?_)
 (first|rw[show A.in1.handled=none from U]|rw[U]);refine Q0 (Q02 (wpAny_throw ?_))
 exact q _ _ (((Heap.SameBut.update ..).extBut.push _).push _) ⟨_,Q0i _ rfl,rfl⟩
end
section
variable {X:Cx}
end
end L2
namespace Pb
open L2
end Pb
namespace L2
open Spec PyProof.Rows
section
variable {X:Cx}
theorem xV:ig X (.type "dict") (λxs H Q=>∃a kvs,xs=[.ref a]/\H a=some (.dK kvs)/\∀l,H l=none->Q (.ref l) (upd H l (.dK kvs))):=by
 intro pins s σ H xs us Q I r h;obtain⟨a,kvs,rfl,L,q⟩:=h;obtain⟨u,rfl,U⟩:=vals1 r
 cases U;obtain⟨z,sm,vs,J,Y⟩:=nZ I.hok L;refine kt_call_dict sm Y (by rw[<-J.length];exact z) λh' hd hs=>?_;have hb:(s.heap.objs.size == sysModules)=false:=beq_eq_false_iff_ne.mpr (Q0d I.big);refine⟨.ref s.heap.objs.size,_,I.laid (a:=s.heap.objs.size) (o:=.dK kvs) (t':=s.toks) (λb o e=>?_) (Q00 _) ⟨z,hb,vs,J,hd⟩,rfl,q _ (I.hok.fresh (Q00 _))⟩;exact hs.extBut b o (Q0c (Q03 e)) (Q07 _ e)
end
theorem Df:typeLookup (.type "list") "keys"=pure none:=am_miss_of_fast (by kernel_rfl)
theorem Dg {prog:Program}{w:World}{A:Around}{E:Value->Shared->Prop}{s:Shared}{a:Addr}{xs:Array Value}{k:Nat}{sl:Array (Option Value)}{Q:Option Value->Shared->Prop}
 (U:s.heap.get? a=some { cls:=.type "list",dict:=none,data:=.seq xs k,slots:=sl }) (hA:A.handled=none)
 (h:∀h' tk,(∀b Y,s.heap.get? b=some Y->h'.get? b=some Y)->Q none { s with heap:=h',toks:=tk }):
 wpAny (model prog w) A (getAttr? (.ref a) "keys") Q E s:=by
 obtain⟨hp,g,d,tk,os⟩:=s;have hT:∀J,(⟨hp,g,d,J,os⟩:Shared).TypeIs (.ref a) "list":=λ_=>⟨_,U,rfl⟩;have f1:=sub_AttributeError;have f3:=F.slot_list_getattribute.lookup;have f4:=F.slot_list_getattribute.bind (.ref a);have f5:=am_list_getattr_none;unfold getAttr? getAttrBy? getAttrBy
 repeat (any_goals (first|assumption|exact hT _|((with_reducible show wpAny _ _ (call (Value.builtin "list.__getattribute__") _ _) _ _ _);refine call_meets F.slot_list_getattribute (hT _) am_entry_list_getattribute (F.args_list_getattribute_2 _ _) (meets_getattribute_miss_list a xs k sl "keys" _ Df (by decide +kernel) (by size_fits)) ⟨U,hA,λh' J e L=>?_⟩)|wp_step))
 obtain⟨t',u',he⟩:=L.there;show wpAny _ _ (getattributeRaised _ _ _ _ _ _ _) _ _ _;unfold getattributeRaised
 repeat (any_goals (first|assumption|wp_step))
 exact h h' J L.keeps
theorem jW {a b:String}(h:a≠b):Value.type a≠Value.type b:=λz=>h (by injection z)
theorem xW:entryFor table "dict.update.loop"=some Builtin.«dict.update.loop»:=entryFor_of_tree (by kernel_rfl)
theorem oD:plainId "dict.update.loop"=true:=by decide +kernel
section
variable {prog:Program}{w:World}{K:Type} [DecidableEq K]{knd:KeyKind prog w K}{A:Around}{E:Value->Shared->Prop}{s:Shared}
structure lG (knd:KeyKind prog w K) (h:Heap) (ts:List Addr) (ps:List (K × Value)):Prop where
 len:ts.length=ps.length
 at_:∀(i:Nat) t p,ts[i]? =some t->ps[i]? =some p->∃u,knd.is p.1 u=true/\IsTup h t #[u,p.2]
theorem lG.keep {h h':Heap}{J:List Addr}{ps:List (K × Value)}(x:lG knd h J ps)(k:∀b o,o.cls=.type "tuple"->h.get? b=some o->h'.get? b=some o):lG knd h' J ps:=
 ⟨x.len,λi t p L hp=>by
   obtain⟨u,U,o,e,c,d⟩:=x.at_ i t p L hp;exact⟨u,U,o,k _ _ c e,c,d⟩⟩
noncomputable def iS (l:List (K × Value)):List (K × Value):=l.foldl (λJ p=>stored J p.1 p.2) []
theorem Dh (l:List (K × Value))(k:K)(v:Value):(stored l k v).length<=l.length+1:=by
 unfold stored;split
 . rw[Q09];omega
 . rw[Q08];exact Q00 _
theorem xX (l:List (K × Value)):(iS l).length<=l.length:=by
 unfold iS
 have:∀(l J:List (K × Value)),(l.foldl (λJ p=>stored J p.1 p.2) J).length<=J.length+l.length:=by
  intro l
  induction l with
  |nil=>intro J;exact Q00 _
  |cons p r L=>
   intro J;have h1:=L (stored J p.1 p.2);have h2:=Dh J p.1 p.2;rw[Q1b,Q0e];omega
 have:=this l []
 rwa [Q1r,Q21] at this
theorem Di {l:List (K × Value)}{i:Nat}{p:K × Value}(h:l[i]? =some p):iS (l.take (i+1))=stored (iS (l.take i)) p.1 p.2:=by
 unfold iS;rw[Q1i,h,List.foldl_append];rfl
theorem Dj (hh:A.handled=none)(d I l:Addr)(ts:List Addr)(ps:List (K × Value))(hz:ps.length<=sizeLine){R:Result->Shared->Prop}:
 ∀(k i:Nat) (s:Shared),ps.length - i=k->i<=ps.length->s.heap.IsListIter I l i->s.heap.IsList l (ts.map Value.ref).toArray->lG knd s.heap ts ps->s.heap.DictOf knd d (iS (ps.take i))->
  (∀h' tk,(∀b o,b≠d->b≠I->s.heap.get? b=some o->h'.get? b=some o)->h'.DictOf knd d (iS ps)->R (.ok (.ret .none)) { s with heap:=h',toks:=tk })->
  codeAny (model prog w) A (.builtin "dict.update.loop" ⟨[.ref d,.ref I,rawInt (i:Int),.none],[]⟩) R s:=by
 intro k
 induction k with
 |zero=>
  intro i s hk hi U hl hp hd hR;have am:i=ps.length:=by omega
  subst am;refine codeAny_builtin xW ?_;rw[Around.under_plainId oD _];show wpAny _ A.in1 (pyNext (.ref I) >>= _) _ _ s;refine Q0 (wpAny_pyNext_list_end hh U hl (by simp[hp.len]) λh' eb=>?_);rw[Q1w] at hd;obtain⟨od,es,ep,hg,hc,r⟩:=id hd
  have aa:d≠I:=λz=>by
   obtain⟨oi,J,L,_⟩:=U;rw[z,J] at hg;cases hg;have hc:=hc.1;rw[L] at hc;exact absurd hc (jW (by decide))
  exact Q0 (Q02 (Q02 (hR h' s.toks (λb o _ hb e=>eb b o hb e) (hd.extBut eb aa))))
 |succ k ih=>
  intro i s hk hi U hl hp hd hR;have ab:i<ps.length:=by omega
  have af:ps[i]? =some ps[i]:=Q05 ab;have ag:ts[i]? =some (ts[i]'(by rw[hp.len];exact ab)):=Q05 _;obtain⟨u,hu,o,ho,hc,n,an⟩:=hp.at_ i _ _ ag af;refine codeAny_builtin xW ?_;rw[Around.under_plainId oD _];show wpAny _ A.in1 (pyNext (.ref I) >>= _) _ _ s;refine Q0 (wpAny_pyNext_list_item U hl (x:=.ref (ts[i]'(by rw[hp.len];exact ab))) (by simp[ag]) λh' aj sb=>?_)
  have aa:d≠I:=λz=>by
   obtain⟨od,es,ep,hg,hc,r⟩:=id hd;obtain⟨oi,J,L,_⟩:=U;rw[z,J] at hg;cases hg;have hc:=hc.1;rw[L] at hc;exact absurd hc (jW (by decide))
  have ao:∀b o,o.cls≠ .type "list_iterator"->s.heap.get? b=some o->b≠I:=λb o Y e z=>by
   obtain⟨oi,J,L,_⟩:=U;rw[z,J] at e;cases e;exact Y L
  have ap:∀b o,o.cls≠ .type "dict"->s.heap.get? b=some o->b≠d:=λb o Y e z=>by
   obtain⟨od,es,ep,hg,hc,r⟩:=id hd;rw[z,hg] at e;cases e;exact Y hc.1
  have k1:∀b o,o.cls≠ .type "list_iterator"->s.heap.get? b=some o->h'.get? b=some o:=λb o Y e=>(sb.2 b (ao b o Y e)).trans e;have ah:=k1 _ _ (by rw[hc];exact jW (by decide)) ho
  have aq:h'.DictOf knd d (iS (ps.take i)):=by
   obtain⟨od,es,ep,hg,hc,r⟩:=id hd;exact⟨od,es,ep,k1 _ _ (by rw[hc.1];exact jW (by decide)) hg,hc,r⟩
  dsimp only;refine Q0 (wpAny_holding (Q0 (wpAny_tryCatch ?_)));unfold Builtin.Dict.pairItems;refine Q0 (wpAny_typeOf (T:="tuple") ⟨_,ah,hc⟩ ?_);rw[if_pos (by decide)];refine Q0 (wpAny_seqItems ah an (Q02 ?_));show wpAny _ _ (holding [u,ps[i].2] (dictSet d u ps[i].2)) _ _ _;refine wpAny_holding (wpAny_dictSet_pairs hu aq (λac ak al=>?_) (by have:=xX (ps.take i);rw[Q0n] at this;omega));refine Q02 ⟨plainId_quiet oD _,?_⟩;have k2:∀b o,b≠d->h'.get? b=some o->ac.get? b=some o:=λb o hb e=>(al.2 b hb).trans e;have ai:∀b o,o.cls≠ .type "list_iterator"->o.cls≠ .type "dict"->s.heap.get? b=some o->ac.get? b=some o:=λb o h1 h2 e=>k2 b o (ap b o h2 e) (k1 b o h1 e);refine ih (i+1) { s with heap:=ac,toks:=s.toks+1 } (by omega) (by omega) ?_ ?_ ?_ ?_ ?_
  . obtain⟨oi,J,L,r⟩:=aj;exact⟨oi,k2 _ _ (Ne.symm aa) J,L,r⟩
  . obtain⟨ol,ar,ae,r⟩:=hl;exact⟨ol,ai _ _ (by rw[ae];exact jW (by decide)) (by rw[ae];exact jW (by decide)) ar,ae,r⟩
  . exact hp.keep λb o h1 e=>ai b o (by rw[h1];exact jW (by decide)) (by rw[h1];exact jW (by decide)) e
  . rw[Di af];exact ak
  . intro h3 tk keep au;exact hR h3 tk (λb o hb hI e=>keep b o hb hI (k2 b o hb ((sb.2 b hI).trans e))) au
theorem Dk {U:Addr}{ts:List Addr}{ps:List (K × Value)}{Q:Value->Shared->Prop}(hh:A.handled=none)(hl:PlainL s.heap U (ts.map Value.ref).toArray)(hp:lG knd s.heap ts ps)(hz:ps.length<=sizeLine)
 (h:∀h' tk,h'.DictOf knd s.heap.objs.size (iS ps)->(∀b o,s.heap.get? b=some o->h'.get? b=some o)->Q (.ref s.heap.objs.size) { s with heap:=h',toks:=tk }):
 wpAny (model prog w) A (call (.type "dict") [.ref U]) Q E s:=by
 refine callType_codes (Q₁:=λobj L=>obj=.ref s.heap.objs.size/\L={ s with heap:=s.heap.push { cls:=.type "dict",data:=.dict #[] } }) F.kt_called_dict (F.kt_typeCall_dict_1 _) F.entry_dict_init (kt_code_dict_new _ ⟨rfl,rfl⟩) ?_;rintro obj L ⟨rfl,rfl⟩;have J:(s.heap.push { cls:=.type "dict",data:=.dict #[] }).DictOf knd s.heap.objs.size []:=Heap.DictOf.new s.heap;have Y:∀b o,s.heap.get? b=some o->(s.heap.push { cls:=.type "dict",data:=.dict #[] }).get? b=some o:=λb o e=>Q07 _ e;obtain⟨⟨oc,od,af,ag⟩,n,hg,hc,aa,ab⟩:=hl;dsimp only at hc aa ab;subst hc;subst aa;subst ab;refine⟨J.typeIs,F.args_dict_init_2 _ _,?_⟩;unfold Builtin.«dict.__init__»;refine Q0 ?_;unfold Builtin.Dict.selfAndRest;refine Q0 (wpAny_notOrdered_dict J.typeIs ?_);show wpAny _ _ (pure (s.heap.objs.size,[Value.ref U])) _ _ _;refine Q02 ?_;show wpAny _ _ (Builtin.Dict.updateFrom "dict.__init__" s.heap.objs.size (.ref U) [] .none) _ _ _;unfold Builtin.Dict.updateFrom;refine Q0 (wpAny_typeOf (T:="list") ⟨_,Y _ _ hg,rfl⟩ ?_);rw[if_pos (by decide)];refine Q0 (Dg (Y _ _ hg) hh λh1 ah k1=>?_);rw[if_pos (show(none:Option Value).isNone=true from rfl)];refine Q0 (wpAny_rule ?_);refine Q0 (wpAny_pyIter_list (items:=(ts.map Value.ref).toArray) ⟨_,k1 _ _ (Y _ _ hg),rfl,n,rfl⟩ ?_);refine Q02 ⟨plainId_quiet oD _,?_⟩;have k2:∀b o,s.heap.get? b=some o->(h1.push { cls:=.type "list_iterator",data:=.fields #[.ref U,.int 0 0] }).get? b=some o:=λb o e=>Q07 _ (k1 _ _ (Y _ _ e));have ac:h1.DictOf knd s.heap.objs.size []:=J.keep k1;refine Dj (A:=A.in1) hh s.heap.objs.size h1.objs.size U ts ps hz ps.length 0 _ (Q29 _) (Q06 _) ⟨_,Q0i _ rfl,rfl,rfl⟩ ⟨_,k2 _ _ hg,rfl,n,rfl⟩ (hp.keep λb o _ e=>k2 b o e) (ac.keep λb o e=>Q07 _ e) λh' tk keep ae=>?_;refine⟨rfl,h h' tk ae λb o e=>keep b o (Q0c (Q03 e)) (λz=>?_) (k2 b o e)⟩;have:=Q03 (k1 _ _ (Y _ _ e));rw[z] at this;exact Q0t _ this
end
section
variable {X:Cx}
theorem Dl {k:Key}{u:Value}(h:RelV (kV k) u):jG k u=true:=by
 cases k with
 |inl i=>obtain⟨t,rfl⟩:=h;show(i == i)=true;simp
 |inr s=>obtain⟨t,rfl⟩:=h;show(s == s)=true;simp
theorem xY:∀{cs:List Addr}{J:List Value},Vals (cs.map V.ref) J->J=cs.map Value.ref
 |[],_,h=>by cases h;rfl
 |c::r,_,h=>by
  cases h with
  |cons h t=>rw[xY (cs:=r) t,show _=Value.ref c from h];rfl
theorem xZ {pins:List (Addr × Obj)}{σ:St}{H:Hp}{s:Shared}(I:Inv X pins σ H s):∀(J:List Addr) (kvs:List (Key × V)),J.length=kvs.length->(∀(i:Nat) t p,J[i]? =some t->kvs[i]? =some p->H t=some (.tup [kV p.1,p.2]))->∃ps:List (Key × Value),KV kvs ps/\lG (f9 X.prog X.w) s.heap J ps
 |[],[],_,_=>⟨[],.nil,rfl,λi t p h=>by simp at h⟩
 |t::J,p::kvs,hl,h=>by
  obtain⟨ps,h1,h2⟩:=xZ I J kvs (by simpa using hl) λi t' L a b=>h (i+1) t' L a b;obtain⟨aa,Y,tp,_⟩:=I.tuple (c8.of (h 0 t p rfl rfl));obtain⟨u1,U,rfl,r1,r2⟩:=vals2 Y;refine⟨(p.1,U)::ps,.cons ⟨rfl,r2⟩ h1,by rw[Q0e,Q0e,h2.len],λi t' L a b=>?_⟩
  cases i with
  |zero=>
   have a:some t=some t':=a;have b:some (p.1,U)=some L:=b
   cases a
   cases b;exact⟨u1,Dl r1,tp⟩
  |succ i=>exact h2.at_ i t' L a b
noncomputable def gg (l:List (Key × V)):List (Key × V):=l.foldl (λJ p=>putK J p.1 p.2) []
theorem Dm {kvs:List (Key × V)}{ps:List (Key × Value)}(h:KV kvs ps):KV (gg kvs) (iS ps):=by
 unfold gg iS
 have:∀{kvs:List (Key × V)} {ps:List (Key × Value)},KV kvs ps->∀{a:List (Key × V)} {b:List (Key × Value)},KV a b->KV (kvs.foldl (λJ p=>putK J p.1 p.2) a) (ps.foldl (λJ p=>stored J p.1 p.2) b):=by
  intro kvs ps h
  induction h with
  |nil=>intro a b r;exact r
  |cons h t L=>
   intro a b r;rw[Q1b,Q1b];refine L ?_;rw[<-h.1];exact r.put _ h.2
 exact this h .nil
def Dp (K:W.Frag):List V->Hp->VK->Prop:=λxs H Q=>∃a,∃J:List Addr,∃kvs:List (Key × V),xs=[.ref a]/\dg K H a (J.map V.ref)/\J.length=kvs.length/\(∀(i:Nat) t p,J[i]? =some t->kvs[i]? =some p->H t=some (.tup [kV p.1,p.2]))/\kvs.length<=100/\∀l,H l=none->Q (.ref l) (upd H l (.dK (gg kvs)))
theorem x3 (hc:X.calm=true):ig X (.type "dict") (Dp X.K):=by
 intro pins s σ H xs us Q I r h;obtain⟨a,ts,kvs,rfl,hq,L,U,ab,q⟩:=h;obtain⟨u,rfl,ru⟩:=vals1 r
 cases ru;obtain⟨ac,rv,pl,hz⟩:=I.list hq;obtain rfl:=xY rv;obtain⟨ps,kv,hp⟩:=xZ I ts kvs L U;have Y:kvs.length<=sizeLine:=Q0v (fX (by omega));have J:ps.length<=sizeLine:=by rw[<-kv.length];exact Y
 refine Dk (I.ok.hd hc) pl hp J λh' tk hd hk=>?_;have hb:(s.heap.objs.size == sysModules)=false:=beq_eq_false_iff_ne.mpr (Q0d I.big);have kq:=Dm kv;have aa:(gg kvs).length<=sizeLine:=by rw[kq.length];exact Q0h (xX ps) J
 exact⟨.ref s.heap.objs.size,_,I.laid (a:=s.heap.objs.size) (o:=.dK (gg kvs)) (t':=tk) hk (Q00 _) ⟨aa,hb,_,kq,hd⟩,rfl,q _ (I.hok.fresh (Q00 _))⟩
end
section
variable {prog:Program}{w:World}{A:Around}{E:Value->Shared->Prop}{hp:Heap}{g:Array GenState}{dr:Drawn}{tk:Nat}{os:OsState}{C fI:Addr}{GA:List Value}{B nid GB:String}
end
end L2
namespace L2
open Spec Calls PyProof.Rows W Builtin Builtin.ObjectAttr
section
variable {prog:Program}{w:World}{A:Around}{E:Value->Shared->Prop}{s:Shared}{K:Frag}{x C:Addr}{ox:Obj}{name:Str}{v:Value}
end
end L2
namespace L2
open Spec Calls PyProof.Rows W Builtin Builtin.ObjectAttr Builtin.Getset_descriptor
section
variable {prog:Program}{w:World}{A:Around}{E:Value->Shared->Prop}{K:Frag}{h:Heap}{g:Array GenState}{d:Drawn}{t:Nat}{os:OsState}{a C dx:Addr}{o:Obj}{vs:Array Value}{mA:Str->Option Value}{name:Str}{v:Value}
end
end L2
namespace L2
open Spec PyProof.Rows
section
variable {M:Model}{A:Around}{E:Value->Shared->Prop}{s:Shared}
end
section
variable {X:Cx}{pins:List (Addr × Obj)}{σ:St}{H:Hp}{s:Shared}
end
section
variable {M:Model}{A:Around}{E:Value->Shared->Prop}{s:Shared}
end
section
variable {X:Cx}{pins:List (Addr × Obj)}{σ:St}{H:Hp}{s:Shared}
end
section
variable {X:Cx}{k:Nat}{f:Addr}{fd:FuncData}{ps:List Str}{sp:Sp}{i5:List V}{ds:List Value}{Ek:XK}{x:Str}{p pos:Pos}{e:Expr}{es:List Expr}{t:TA}{te:TE}
end
section
variable {X:Cx}{pins:List (Addr × Obj)}{σ:St}{H:Hp}{s:Shared}
end
section
variable {X:Cx}
end
section
variable {X:Cx}{k:Nat}{f C:Addr}{fd:FuncData}{ps:List Str}{sp:Sp}{Ek:XK}{m:Str}{p pos apos:Pos}{e o:Expr}{es:List Expr}{t:TA}{te ta:TE}
end
noncomputable def hk (l:List Key) (q:Key):Bool:=l.any λx=>decide (x=q)
section
variable {prog:Program}{w:World}{A:Around}{R:Result->Shared->Prop}{I:Addr}{fp wr:List Addr}{G:Array GenState->Array GenState->Prop}{n:Nat}{Pp:Nat->Value->Prop}{St':Nat->Shared->Prop}
end
section
variable {X:Cx}
end
end L2
namespace L2
open StrLaws Builtin Builtin.Str
end L2
namespace L2
open NumText
end L2
namespace L2
end L2
namespace L2
open Builtin Builtin.Str
end L2
namespace L2
open Spec PyProof.Rows
section
variable {X:Cx}
end
end L2
namespace L2
open PyProof.Rows
open Builtin Builtin.Str Builtin.Int
theorem x4:∀{ss:List Str}{J:List Value},Vals (ss.map V.str) J->∃l:List (Str × Tok),strValues l=J/\l.map (·.1)=ss
 |[],[],.nil=>⟨[],rfl,rfl⟩
 |s::ss,_::_,.cons r t=>by
  obtain⟨k,rfl⟩:=r;obtain⟨l,rfl,rfl⟩:=x4 t;exact⟨(s,k)::l,rfl,rfl⟩
section
variable {X:Cx}
theorem Dr:wH X "str.join" (λx vs H Q=>∃z a ss,x=.str z/\vs=[.ref a]/\dg X.K H a (ss.map V.str)/\JoinOk z ss=true/\Q (.str (Txt.join z ss)) H):=by
 intro pins s σ H x vs v us Q I L U h;obtain⟨z,a,ss,rfl,rfl,Y,J,q⟩:=h;obtain⟨t,rfl⟩:=L;obtain⟨u1,rfl,r1⟩:=vals1 U
 cases r1;obtain⟨aa,r',pl,hz⟩:=I.list Y;obtain⟨l,rfl,rfl⟩:=x4 r';exact SC.join pl.isList rfl J λt' k=>⟨.str _,H,I.tok _,⟨_,rfl⟩,q⟩
end
end L2
namespace Pb
open L2
theorem boot_isinstance:bootBuiltins "isinstance"=some (.builtin "isinstance"):=by decide +kernel
theorem boot_sorted:bootBuiltins "sorted"=some (.builtin "sorted"):=by decide +kernel
theorem boot_all:bootBuiltins "all"=some (.builtin "all"):=by decide +kernel
theorem boot_int:bootBuiltins "int"=some (.type "int"):=by decide +kernel
theorem boot_bool:bootBuiltins "bool"=some (.type "bool"):=by decide +kernel
theorem boot_str:bootBuiltins "str"=some (.type "str"):=by decide +kernel
theorem boot_list:bootBuiltins "list"=some (.type "list"):=by decide +kernel
theorem boot_tuple:bootBuiltins "tuple"=some (.type "tuple"):=by decide +kernel
theorem boot_dict:bootBuiltins "dict"=some (.type "dict"):=by decide +kernel
structure Tb (mg:Str->Option Value):Prop where
 fv:mg "len"=none
 d_:mg "isinstance"=none
 mF:mg "sorted"=none
 mG:mg "all"=none
 jw:mg "range"=none
 mH:mg "enumerate"=none
 qC:mg "zip"=none
 qD:mg "int"=none
 qE:mg "bool"=none
 mI:mg "str"=none
 gB:mg "list"=none
 gC:mg "tuple"=none
 gJ:mg "dict"=none
 GC:mg "set"=none
 GD:mg "reversed"=none
structure Dn (K:W.Frag) (mg:Str->Option Value) (x:Str) (ps:List Str) (st:Stmt) (f:Addr) (fd:FuncData):Prop where
 F:jS K x x st f fd
 b:Binds K fd ps []
 m:mg x=some (.ref f)
theorem dq {X:Cx}{k U:Nat}{f:Addr}{fd:FuncData}{ps:List Str}{sp:Sp}{x:Str}{p pos:Pos}{e:Expr}{es:List Expr}{t:TA}{st:Stmt}(F:c_ X.prog X.w X.K X.mg X.base da k f fd ps sp)(Y:eV U X.A)(D:Dn X.K X.mg x ps st f fd)(ha:PA X (e::es) t)(hg:Gl X x:=by rfl)(J:(x == ("__debug__":Str))=false:=by decide)(he:starEach (e::es) X.env=(false,eval e X.env)::starEach es X.env:=by rfl)(L:(backTo pos (starEach es X.env)).any (·.1)=false:=by rfl)(hk:k<=U:=by first|decide|omega):PE X (.Call (.Name x p) (e::es) [] pos) (fT sp [] E0 t):=ml F (Y.mono hk) hg D.m D.F.kp D.b .nil mn ha J he L
theorem dI {X:Cx}(i:Nat){x:Str}{e:Expr}{te:TE}{pos J:Pos}(L:X.N.Nodup)(U:PE X e te)(hi:X.N[i]? =some x:=by rfl)(Y:Loc X.env.scope x:=by exact Or.inl rfl)(hs:swapsWith e (some (.Name x J)) pos.line X.env=pure false:=by rfl)(hf:X.fn x=true\/X.env.scope.names.lookup x=some .local:=by first|exact .inl rfl|exact .inr rfl|assumption):PS X (.Assign [.Name x J] e pos) (iO te (dU i)):=v5 L hi Y U hs hf
theorem i_ {X:Cx}(i:Nat){x:Str}{e:Expr}{te:TE}{pos J:Pos}(L:X.N.Nodup)(U:PE X e te)(hi:X.N[i]? =some x:=by rfl)(Y:Loc X.env.scope x:=by exact Or.inr rfl)(hs:swapsWith e (some (.Name x J)) pos.line X.env=pure false:=by rfl)(hf:X.fn x=true\/X.env.scope.names.lookup x=some .local:=by first|exact .inl rfl|exact .inr rfl|assumption):PS X (.Assign [.Name x J] e pos) (iO te (dU i)):=v5 L hi Y U hs hf
theorem x_:0<=sizeLine:=by decide
theorem fJ:1<=sizeLine:=by decide
theorem er:2<=sizeLine:=by decide
theorem kD:3<=sizeLine:=by decide
theorem qF:4<=sizeLine:=by decide
theorem GF:5<=sizeLine:=by decide
theorem Dt:6<=sizeLine:=by decide
theorem dj {X:Cx}{a b:Expr}{ta tb:TE}{pos:Pos}(J:PE X a ta)(L:PE X b tb)(U:pY b:=by exact λ_ _=>rfl):PE X (.Subscript a b pos) (dY (gO X.K) ta tb):=lq Bu J L U
theorem gh {X:Cx}{a b:Expr}{ta tb:TE}{pos:Pos}(J:PE X a ta)(L:PE X b tb)(U:pY b:=by exact λ_ _=>rfl):PE X (.Subscript a b pos) (dY (pZ X.K) ta tb):=lq Bt J L U
theorem fN {X:Cx}{own N:List Str}{scope sc:Scope}(J:X.env.scope=sc:=by rfl)(L:X.N=N:=by rfl)(k:scope.kind=.function:=by rfl)(c:qf own N scope sc=true:=by decide +kernel):g8 X own scope:=g8.of J L k c
theorem fk {α:Type}{a:α}{p:Prop}:a=a\/p:=Or.inl rfl
theorem eL {N P:List Str}{sc:Scope}(h:(sc.kind == .function && !sc.isCoroutine && !sc.isGenerator && decide N.Nodup && N.take P.length == P && P.all (λx=>sc.names.lookup x == some .local || sc.names.lookup x == some .cell) && sc.names.all (λy=>y.2 != .free))=true:=by decide +kernel):d5 N P sc:=by
 simp only[Bool.and_eq_true,Q18,Bool.or_eq_true,beq_iff_eq,bne_iff_ne,decide_eq_true_eq,Bool.not_eq_true',ne_eq] at h;obtain⟨⟨⟨⟨⟨⟨h1,h2⟩,J⟩,L⟩,U⟩,Y⟩,h7⟩:=h;exact⟨h1,h2,J,L,U,Y,h7⟩
abbrev dQ:List Str:=XE
abbrev fB:List Str:=XI
abbrev fO:List Str:=["kind","value"]
abbrev fP:List Str:=XB
abbrev gm:List Str:=Xh
abbrev hU:List Str:=Xb
abbrev hV:List Str:=XY
abbrev iq:List Str:=["fields","name"]
abbrev ir:List Str:=Xc
abbrev iD:List Str:=XV
abbrev iE:List Str:=XC
abbrev ja:List Str:=XX
abbrev jb:List Str:=XT
abbrev jx:List Str:=["kind","tree"]
abbrev jX:List Str:=Xd
abbrev jY:List Str:=Xa
abbrev kE:List Str:=["kind","row"]
abbrev kG:List Str:=["value"]
abbrev kH:List Str:=XM
abbrev kI:List Str:=["_law_thing"]
abbrev kJ:List Str:=XH
abbrev lH:List Str:=Xm
abbrev lI:List Str:=Xl
abbrev mJ:List Str:=["fields","value"]
abbrev mK:List Str:=Xe
abbrev mL:List Str:=Xj
abbrev mM:List Str:=Xf
abbrev oE:List Str:=Xg
abbrev oF:List Str:=Xk
abbrev oG:List Str:=["_law_fields_here"]
abbrev oI:List Str:=XZ
abbrev oJ:List Str:=XQ
def hZ (K:W.Frag) (H:Hp) (a:Addr) (ns:List Int):Prop:=
 (∃o,H a=some (.e8 o (.lst (ns.map V.int))))\/
   ∃(o:Obj) (J:Array Value) (n:Nat),K.lookup a=some o/\o.cls=.type "list"/\o.dict=none/\o.data=.seq J n/\J.size<=sizeLine/\Vals (ns.map V.int) J.toList
theorem hZ.sq {K:W.Frag}{H:Hp}{a:Addr}{ns:List Int}(h:hZ K H a ns):dg K H a (ns.map V.int):=by
 rcases h with⟨o,h⟩|h
 . exact .inl (.inr ⟨o,h⟩)
 . exact .inr h
def SB (b:Addr) (H H':Hp):Prop:=∀c o,c≠b->H c=some o->H' c=some o
theorem SB.trans {b:Addr}{H H1 H2:Hp}(x:SB b H H1)(y:SB b H1 H2):SB b H H2:=λc o n h=>y c o n (x c o n h)
theorem SB.of {b:Addr}{H H':Hp}(s:Same H H'):SB b H H':=λc o _ h=>s c o h
theorem SB.wr {b:Addr}{H:Hp}{o:HO}:SB b H (upd H b o):=λc u n h=>by rw[dh n];exact h
theorem SB.new {b p:Addr}{H:Hp}{o:HO}(h:H p=none):SB b H (upd H p o):=λc u n q=>by rw[dh (dN q h)];exact q
structure G0 (K:W.Frag) (H:Hp) (a b:Addr) (ns:List Int) (n:Int):Prop where
 iT:hZ K H a ns
 len:ns.length<=63
 at_:H b=some (.lst [.int n])
 pos:0<=n
theorem SB.iT {K:W.Frag}{b:Addr}{H H':Hp}{a:Addr}{ns:List Int}{n:Int}(x:SB b H H')(J:H b=some (.lst [.int n]))(h:hZ K H a ns):hZ K H' a ns:=by
 rcases h with⟨o,h⟩|h
 . exact .inl ⟨o,x a _ (gL h J (by intro z;cases z)) h⟩
 . exact .inr h
theorem SB.tu {b:Addr}{H H':Hp}{n:Int}(x:SB b H H')(J:H b=some (.lst [.int n])):Tu H H':=λc xs h=>x c _ (gL h J (by intro z;cases z)) h
theorem G0.go {K:W.Frag}{H H':Hp}{a b:Addr}{ns:List Int}{n n':Int}(g:G0 K H a b ns n)(x:SB b H H')(h:H' b=some (.lst [.int n']))(J:n<=n'):G0 K H' a b ns n':=
 ⟨x.iT g.at_ g.iT,g.len,h,by have:=g.pos;omega⟩
theorem Same.new {H:Hp}{p:Addr}{o:HO}(h:H p=none):Same H (upd H p o):=λc u q=>by rw[dh (dN q h)];exact q
theorem int_at {ns:List Int}{z:Int}(J:0<=z)(h1:z<ns.length):fW (ns.map V.int) z=some (.int (ns.getD z.toNat 0)):=by
 obtain⟨j,rfl⟩:∃j:Nat,z=(j:Int):=⟨z.toNat,by omega⟩;rw[Q1p];exact fA (by rw[Q0p,Q0j,Q05 (by omega)];rfl)
theorem iF {A B:TS}{D:Ends}{σ:L2.St}{H:Hp}(Pv:L2.St->Hp->Prop)(L:∀J H',Pv J H'->B D J H')(U:(∀J H',Pv J H'->B D J H')->A { D with nx:=B D } σ H):pK A B D σ H:=U L
theorem new1 {H:Hp}{p:Addr}(hp:H p=none)(o:HO):∃H',upd H p o=H'/\Same H H'/\H' p=some o:=⟨_,rfl,Same.new hp,de⟩
def gi (K:W.Frag):Sp:=λvs H Q _=>∃a b ns n,vs=[.ref a,.ref b]/\G0 K H a b ns n/\n<=1000000000000/\
 ∀(r:Int) (H':Hp),0<=r->r<1999999973->SB b H H'->H' b=some (.lst [.int (n+1)])->Q (.int r) H'
def oK (K:W.Frag):Sp:=λvs H Q _=>∃a b ns n,vs=[.ref a,.ref b]/\G0 K H a b ns n/\n<=1000000000000/\
 ∀(v:V) (k:Kd) (H':Hp),SB b H H'->H' b=some (.lst [.int (n+1)])->KA H' v k->gz k->Q v H'
def qG (K:W.Frag):Sp:=λvs H Q _=>∃a b ns n,vs=[.ref a,.ref b]/\G0 K H a b ns n/\n<=1000000000000/\
 ∀(z:Int) (H':Hp),SB b H H'->H' b=some (.lst [.int (n+1)])->Q (.int z) H'
def qH (K:W.Frag):Sp:=λvs H Q _=>∃a b ns n,vs=[.ref a,.ref b]/\G0 K H a b ns n/\n<=1000000000000/\
 ∀(z:Str) (H':Hp),SB b H H'->H' b=some (.lst [.int (n+1)])->Q (.str z) H'
variable {P:Program}{w:World}{K:W.Frag}{mg:Str->Option Value}{base:Heap}
theorem Du:d5 ["_law_script","_law_at","_law_cell","_law_m"] XE (dD (top 31)):=eL
theorem Dv (T:Tb mg)(J:Dn K mg "_law_next" dQ (top 31) L U):c_ P w K mg base da (1) L U dQ (gi K):=by
 refine J.F.ok Du λvs H Q E h=>?_;obtain⟨a,b,ns,n,rfl,g,hn,q⟩:=h;refine⟨rfl,λab A outer s nd hr hu=>?_⟩
 refine⟨_,(c9 (nJ (dm gu (gh (pv 1) cZ) cZ) (AS (pv 1) cZ set_list))
  (c9 (dI 2 nd (gr (dw jO (dG fC (by rfl) T.fv PySem.boot_len (a_ (pv 0) b_)) cZ (di _)) (gh (pv 0) (dm eE (gh (pv 1) cZ) (dG fC (by rfl) T.fv PySem.boot_len (a_ (pv 0) b_)))) cZ))
  (c9 (dI 3 nd (dm eE (dm jn (dm gu (dm gu (dm eE (pv 2) cZ) (dm jn (dm jn (gh (pv 1) cZ) (gh (pv 1) cZ)) cZ)) cZ) cZ) cZ))
  (dc (dk (dm eE (dm jn (pv 3) (pv 3)) cZ)))))),?_⟩
 ac_rfl
 have hb:=g.at_;have hp:=g.pos;have hS:dg K (upd H b (.lst [.int (n+1)])) a (ns.map V.int):=(SB.wr.iT hb g.iT).sq;have Y:upd H b (.lst [.int (n+1)]) b=some (.lst [.int (n+1)]):=de;refine⟨_,rfl,b,_,_,_,rfl,rfl,dg.of hb,rfl,_,_,rfl,rfl,_,rfl,b,_,_,0,rfl,rfl,hb,rfl,?_⟩;dsimp only[dU];refine iF (A:=iO _ _) (λaa H'=>H'=upd H b (.lst [.int (n+1)])/\∃c:Int,aa=[some (.ref a),some (.ref b),some (.int c),none]) ?_ (λhB=>?_);rotate_left
 . refine⟨_,rfl,a,_,rfl,.inl hS,_,_,rfl,rfl,_,rfl,?_⟩;have hl:(ns.map V.int).length=ns.length:=Q09 _;refine eF (λc=>?_) (λc=>?_)
   . have c':(0:Int)<((ns.map V.int).length:Nat):=of_decide_eq_true c;rw[hl] at c';have i0:=Q0s (n+1) (show(ns.length:Int)≠0 by omega);have i1:=Q0u (n+1) c';refine⟨_,rfl,_,rfl,b,_,_,_,rfl,rfl,dg.of Y,rfl,_,rfl,a,_,rfl,.inl hS,_,_,rfl,rfl,by rw[hl];exact c',a,_,_,_,rfl,rfl,hS,by rw[hl];exact int_at i0 i1,?_⟩;exact hB _ _ ⟨rfl,_,rfl⟩
   . exact hB _ _ ⟨rfl,_,rfl⟩
 rintro _ H2 ⟨rfl,c,rfl⟩
 refine⟨_,rfl,_,_,rfl,rfl,(by show(0:Int)<_;decide),_,rfl,b,_,_,_,rfl,rfl,dg.of Y,rfl,_,rfl,b,_,_,_,rfl,rfl,dg.of Y,rfl,_,_,rfl,rfl,.inl ⟨by omega,by omega⟩,_,_,rfl,rfl,.inr ⟨by decide,by decide⟩,
  _,_,rfl,rfl,_,_,rfl,rfl,_,_,rfl,rfl,.inr ⟨by decide,by decide⟩,_,_,rfl,rfl,(by show(0:Int)<_;decide),?_⟩
 refine⟨_,rfl,_,rfl,_,_,rfl,rfl,.inl ⟨?_,?_⟩,_,_,rfl,rfl,(by show(0:Int)<_;decide),q _ _ (Q0s _ (by decide)) (Q0u _ (by decide)) SB.wr Y⟩
 . exact Int.lt_of_lt_of_le (by decide) (Q0s _ (by decide))
 . exact Int.lt_trans (Q0u _ (by decide)) (by decide)
theorem Dw:d5 XE XE (dD (top 35)):=eL
theorem Dx (T:Tb mg)(J:Dn K mg "_law_plain" dQ (top 35) L U)(Y:Dn K mg "_law_next" dQ (top 31) aa ab)(ac:c_ P w K mg base da (1) aa ab dQ (gi K)):c_ P w K mg base da (2) L U dQ (oK K):=by
 refine J.F.ok Dw λvs H Q E h=>?_;obtain⟨a,b,ns,n,rfl,g,hn,q⟩:=h;refine⟨rfl,λaj A outer s nd hr hu=>?_⟩;refine⟨_,(dc (dk (gh (fQ (a_ (dW (a_ dO b_)) (a_ (dW (a_ dO b_)) b_))) (dm eE (dq ac hr Y (a_ (pv 0) (a_ (pv 1) b_))) cZ)))),?_⟩
 ac_rfl
 refine⟨fJ,λp1 ag=>⟨fJ,λp2 af=>⟨er,λp3 ae=>?_⟩⟩⟩;obtain⟨H1,e1,s1,f1⟩:=new1 ag (.tup [.str "number"]);rw[e1] at af ae ⊢;obtain⟨H2,e2,s2,f2⟩:=new1 af (.tup [.str "word"]);rw[e2] at ae ⊢;obtain⟨H3,e3,s3,f3⟩:=new1 ae (.lst [.ref p1,.ref p2]);rw[e3];have t3:=s1.trans (s2.trans s3);refine⟨_,rfl,_,rfl,a,b,ns,n,rfl,g.go (SB.of t3) (t3 _ _ g.at_) (Int.le_refl _),hn,λr H4 r0 r1 s4 h4=>?_⟩;have ah:p3≠b:=λz=>by rw[z,s2 _ _ (s1 _ _ g.at_)] at ae;cases ae
 have f4:=s4 _ _ ah f3;have tu:=s4.tu (t3 _ _ g.at_);have sb:SB b H H4:=(SB.of t3).trans s4;have ai:r % 2=0\/r % 2=1:=by omega
 rcases ai with e|e
 . refine⟨_,_,rfl,rfl,(by show(0:Int)<_;decide),p3,_,_,.ref p1,rfl,rfl,dg.of f4,by show fW [V.ref p1,V.ref p2] (r % 2)=_;rw[e];rfl,q _ .num _ sb h4 (by unfold KA;exact⟨p1,rfl,tu _ _ (s3 _ _ (s2 _ _ f1))⟩) trivial⟩
 . refine⟨_,_,rfl,rfl,(by show(0:Int)<_;decide),p3,_,_,.ref p2,rfl,rfl,dg.of f4,by show fW [V.ref p1,V.ref p2] (r % 2)=_;rw[e];rfl,q _ .fe _ sb h4 (by unfold KA;exact⟨p2,rfl,tu _ _ (s3 _ _ f2)⟩) trivial⟩
theorem Dy (n:Nat)(h:n<=1000):Builtin.Str.tooLong n=false:=by
 have:n<=sizeLine:=Q0v (fX h);unfold Builtin.Str.tooLong;exact decide_eq_false (by omega)
theorem DB {J:Str}{ss:List Str}(h1:ss.length<=1000)(h2:∀x∈ss,x.length<=100)(L:J.length<=100):JoinOk J ss=true:=by
 unfold JoinOk;rw[StrLaws.joinTotal]
 have U:∀(l:List Str),(∀x∈l,x.length<=100)->(l.map (·.length)).sum<=100 * l.length:=by
  intro l
  induction l with
  |nil=>intro _;exact Q00 _
  |cons x l Y=>
   intro h;have a:=h x Q0a;have b:=Y λy hy=>h y (Q04 _ hy);show x.length+(l.map (·.length)).sum<=100 * (l.length+1);omega
 have a:=U ss h2;have b:ss.length * J.length<=1000 * 100:=Q2a h1 L;have c:(ss.map (·.length)).sum+ss.length * J.length<=200000:=by omega
 have d:Builtin.Str.tooLong ((ss.map (·.length)).sum+ss.length * J.length)=false:=by
  unfold Builtin.Str.tooLong;exact decide_eq_false (Nat.not_lt.mpr (Q0h c (by decide)))
 rw[d];rfl
theorem mN {i m:Nat}{te:TE}{σ:L2.St}{H:Hp}{Q:VK}(Pv:Nat->List V->Hp->Prop)(hi:σ[i]? =some (some (.int m)))(hm:m<=1000)(L:Pv 0 [] H)(hl:∀j ys H',Pv j ys H'->ys.length=j)
 (U:∀(j:Nat) ys H',j<m->Pv j ys H'->∀R:V->Hp->Prop,(∀y H2,Pv (j+1) (ys++[y]) H2->R y H2)->te (some (.int j)::σ) H' R) (Y:∀ys H',Pv m ys H'->∀p,H' p=none->Q (.ref p) (upd H' p (.lst ys))):
 ls 1 (pN (dJ (dE i) fc)) (dU 0) fE te σ H Q:=by
 refine⟨_,hi,_,rfl,by omega,by omega,λj k ys H'=>k=m - j/\j<=m/\Pv j ys H',⟨m,by omega,Q06 _,L⟩,?_⟩;rintro j k ys H' ⟨rfl,hj,hp⟩;have em:Int.toNat (m:Int)=m:=by omega
 by_cases J:j<m
 . refine .inr ⟨by show j<Int.toNat (m:Int);omega,by rw[hl _ _ _ hp];exact fX (by omega),λx H2 y=>?_⟩;obtain⟨rfl,rfl⟩:=y;refine⟨rfl,yes (dM ?_)⟩;rw[Int.zero_add];exact U j ys H2 J hp _ λy H3 h=>⟨m - (j+1),by omega,rfl,by omega,h⟩
 . have ej:j=m:=by omega
   subst ej;exact .inl ⟨by show Int.toNat (j:Int)<=j;omega,Y ys H' hp⟩
theorem DC:d5 ["_law_script","_law_at","_law_m","_law_cell"] XE (dD (top 32)):=eL
theorem DE (T:Tb mg)(J:Dn K mg "_law_number" dQ (top 32) L U)(Y:Dn K mg "_law_next" dQ (top 31) aa ab)(ac:c_ P w K mg base da (1) aa ab dQ (gi K)):c_ P w K mg base da (2) L U dQ (qG K):=by
 refine J.F.ok DC λvs H Q E h=>?_;obtain⟨a,b,ns,n,rfl,g,hn,q⟩:=h;refine⟨rfl,λag A outer s nd hr hu=>?_⟩
 refine⟨_,(c9 (dI 2 nd (dq ac hr Y (a_ (pv 0) (a_ (pv 1) b_))))
  (c9 (dI 3 nd (gr (dw jO (dG fC (by rfl) T.fv PySem.boot_len (a_ (pv 0) b_)) cZ (di _)) (gh (pv 0) (dm eE (gh (pv 1) cZ) (dG fC (by rfl) T.fv PySem.boot_len (a_ (pv 0) b_)))) cZ))
  (c9 (dA (dw dX (dm eE (pv 2) cZ) cZ (di _)) (dc (dk (dm jN (dm eE (dm f_ (pv 2) cZ) cZ) cZ))) dz)
  (dc (dk (dm jN (dm eE (dm gu (dm eE (pv 3) (dm nO cZ cZ)) (dm jn (pv 2) (dm nO cZ cZ))) (dm jn cZ (dm nO cZ cZ))) (dm nO cZ cZ))))))),?_⟩
 ac_rfl
 refine⟨_,rfl,_,rfl,a,b,ns,n,rfl,g,hn,λr H1 r0 r1 s1 h1=>?_⟩;have g1:=g.go s1 h1 (by omega);have hS:=g1.iT.sq;have hp:=g.pos;dsimp only[dU];refine iF (A:=iO _ _) (λae H'=>H'=H1/\∃c:Int,ae=[some (.ref a),some (.ref b),some (.int r),some (.int c)]) ?_ (λhB=>?_);rotate_left
 . refine⟨_,rfl,a,_,rfl,.inl hS,_,_,rfl,rfl,_,rfl,?_⟩;have hl:(ns.map V.int).length=ns.length:=Q09 _;refine eF (λc=>?_) (λc=>?_)
   . have c':(0:Int)<((ns.map V.int).length:Nat):=of_decide_eq_true c;rw[hl] at c';have i0:=Q0s (n+1) (show(ns.length:Int)≠0 by omega);have i1:=Q0u (n+1) c';refine⟨_,rfl,_,rfl,b,_,_,_,rfl,rfl,dg.of h1,rfl,_,rfl,a,_,rfl,.inl hS,_,_,rfl,rfl,by rw[hl];exact c',a,_,_,_,rfl,rfl,hS,by rw[hl];exact int_at i0 i1,?_⟩;exact hB _ _ ⟨rfl,_,rfl⟩
   . exact hB _ _ ⟨rfl,_,rfl⟩
 rintro _ H2 ⟨rfl,c,rfl⟩;have pw:pR 10 40:=⟨by decide,by decide,by decide⟩;have af:pR 10 29:=⟨by decide,by decide,by decide⟩;refine⟨_,rfl,_,_,rfl,rfl,(by show(0:Int)<_;decide),rfl,_,rfl,eF (λc2=>?_) (λc2=>?_)⟩
 . exact⟨_,rfl,_,_,rfl,rfl,⟨by decide,by decide⟩,_,_,rfl,rfl,(by show(0:Int)<_;decide),_,_,rfl,rfl,q _ _ s1 h1⟩
 . exact⟨_,rfl,_,_,rfl,rfl,pw,_,_,rfl,rfl,(by show(0:Int)<_;decide),_,rfl,_,_,rfl,rfl,af,_,_,rfl,rfl,.inl ⟨by omega,by omega⟩,_,_,rfl,rfl,_,_,rfl,rfl,pw,_,_,rfl,rfl,.inl ⟨by decide,by decide⟩,_,_,rfl,rfl,(by show(0:Int)<_;decide),_,_,rfl,rfl,pw,_,_,rfl,rfl,q _ _ s1 h1⟩
noncomputable abbrev sgn:Str:=(" !#$&'()*+,-./0123456789:;<=>?@ABCDEFGHIJKLMNOPQRSTUVWXYZ":Str)++("[\\]^_`abcdefghijklmnopqrstuvwxyz{|}~":Str)
theorem lJ:sgn.length=93:=by decide +kernel
theorem DF {z:Int}(J:0<=z)(h1:z<93):∃c,fW sgn.cps.toList z=some c:=by
 have hl:sgn.cps.toList.length=93:=by
  have:=lJ;rw[Q15];exact this
 unfold fW jq;rw[hl,if_pos J,if_pos (show z<((93:Nat):Int) by omega)];exact⟨_,Q05 (by omega)⟩
theorem DG:d5 Xi XE (dD (top 33)):=eL
theorem DH (T:Tb mg)(J:Dn K mg "_law_word" dQ (top 33) L U)(Y:Dn K mg "_law_next" dQ (top 31) aa ab)(ac:c_ P w K mg base da (1) aa ab dQ (gi K)):c_ P w K mg base da (2) L U dQ (qH K):=by
 refine J.F.ok DG λvs H Q E h=>?_;obtain⟨a,b,ns,n,rfl,g,hn,q⟩:=h;refine⟨rfl,λai A outer s nd hr hu=>?_⟩
 refine⟨_,(c9 (i_ 2 nd dO)
  (c9 (i_ 2 nd (dm pT (pv 2) dO))
  (c9 (i_ 3 nd (dq ac hr Y (a_ (pv 0) (a_ (pv 1) b_))))
  (c9 (dI 4 nd (gr (dw dX (dm eE (dm f_ (pv 3) cZ) cZ) cZ (di _)) cZ (dm eE (pv 3) cZ)))
  (dc (dk (wG PySem.F.plainAttrs_str PySem.F.slot_str_join PySem.F.type_str_join Dr dO (a_ (gH (g:=(dU 0)) (tt:=fE) (te:=(dY _ (dE 3) (dY _ (dY _ (dY _ (dE 4) (tC (.int 145))) (dY _ (dY _ (dE 0) (dE 0)) (dY _ (dY _ (dE 4) (tC (.int 7))) (tC (.int 3))))) _))) (own:=["_law_k"]) rfl (fN (N:=Xi) (sc:=dD (top 33))) (jm rfl T.jw (a_ (pv 4) b_)) (λ_ _ _ _ _=>(en (i:=0) (show(["_law_k","_law_script","_law_at","_law_signs","_law_m","_law_many"]:List Str).Nodup by decide +kernel) rfl (Or.inl rfl) (.inr rfl))) (λ_ _ _ _ _=>gc) (λ_ _ _ _ _=>(lq nV (pv 3) (dm eE (dm gu (dm f_ (pv 4) cZ) (dm jn (dm jn (pv 0) (pv 0)) (dm eE (dm f_ (pv 4) cZ) cZ))) (dG BB (by rfl) T.fv PySem.boot_len (a_ (pv 3) b_))) (λ_ _=>rfl)))) b_)))))))),?_⟩
 ac_rfl
 have af:sgn.length<=sizeLine:=by rw[lJ];decide
 refine⟨_,rfl,_,_,rfl,rfl,by decide +kernel,?_⟩;refine⟨_,rfl,_,rfl,a,b,ns,n,rfl,g,hn,λr H1 r0 r1 s1 h1=>?_⟩;dsimp only[dU];refine iF (A:=iO _ _) (λah H'=>H'=H1/\∃m:Nat,m<=40/\ah=[some (.ref a),some (.ref b),some (.str sgn),some (.int r),some (.int m)]) ?_ (λhB=>?_);rotate_left
 . refine⟨_,rfl,_,_,rfl,rfl,⟨by decide,by decide⟩,_,_,rfl,rfl,(by show(0:Int)<_;decide),rfl,_,rfl,eF (λc=>?_) (λc=>?_)⟩
   . exact hB _ _ ⟨rfl,40,Q00 _,rfl⟩
   . exact⟨_,rfl,_,_,rfl,rfl,(by show(0:Int)<_;decide),hB _ _ ⟨rfl,(r % 5).toNat,by omega,by rw[show(((r % 5).toNat:Nat):Int)=r % 5 by omega];rfl⟩⟩
 rintro _ H2 ⟨rfl,m,hm,rfl⟩;have em:Int.toNat (m:Int)=m:=by omega
 refine⟨rfl,mN (λj ys H'=>H'=H2/\∃ss:List Str,ys=ss.map V.str/\ss.length=j/\∀x∈ss,x.length<=1) rfl (by omega) ⟨rfl,[],rfl,rfl,λx hx=>absurd hx (by simp)⟩ (λj ys H' h=>by obtain⟨_,ss,rfl,e,_⟩:=h;rw[Q09];exact e) ?_ ?_⟩
 . rintro j ys H' hj ⟨rfl,ss,rfl,ag,ae⟩ R hR;have i0:=Q0s (r / 145+(j:Int) * (j:Int) * (r / 7 % 3)) (show((sgn.length:Nat):Int)≠0 by rw[lJ];decide);have i1:=Q0u (r / 145+(j:Int) * (j:Int) * (r / 7 % 3)) (show(0:Int)<((sgn.length:Nat):Int) by rw[lJ];decide);obtain⟨c,hc⟩:=DF i0 (by rw[lJ] at i1 ⊢;exact i1);have aj:(j:Int) * (j:Int)<=40 * 40:=Int.mul_le_mul (by omega) (by omega) (by omega) (by omega);have ak:0<=(j:Int) * (j:Int):=Q3 (by omega) (by omega);refine⟨_,rfl,_,rfl,_,_,rfl,rfl,⟨by decide,by decide⟩,_,rfl,_,rfl,_,_,rfl,rfl,.inl ⟨by omega,by omega⟩,_,rfl,_,_,rfl,rfl,⟨by decide,by decide⟩,_,_,rfl,rfl,(by show(0:Int)<_;decide),_,_,rfl,rfl,.inl ⟨by omega,by omega⟩,_,_,rfl,rfl,_,rfl,_,rfl,af,_,_,rfl,rfl,(by show(0:Int)<((sgn.length:Nat):Int);rw[lJ];decide),_,_,c,rfl,rfl,af,hc,hR _ _ ⟨rfl,ss++[⟨#[c]⟩],by rw[Q0k];rfl,by rw[Q08,ag];rfl,λx hx=>?_⟩⟩;rcases List.mem_append.mp hx with h|h
   . exact ae x h
   . rw[List.mem_singleton.mp h];exact Q00 _
 . rintro ys H' ⟨rfl,ss,rfl,ag,ae⟩ p hp;exact⟨_,p,ss,rfl,rfl,dg.of de,DB (by omega) (λx hx=>Q0h (ae x hx) (by decide)) (by decide),q _ _ (s1.trans (SB.new hp)) (by rw[dh (dN h1 hp)];exact h1)⟩
noncomputable def kK (m:Int) (k:Nat):Str:=Txt.mul (lt (m / 4 % 26)) ((k:Int)+1)
noncomputable def jy (m:Int) (k:Nat):Str:=lt ((m / 624+(k:Int) * (2 * (m / 4 % 6)+1)) % 26)
noncomputable def jZ (m:Int) (x:Str):Str:=if m % 4=1 then lt (m / 24 % 26)++x else x++lt (m / 24 % 26)
theorem ya (c:Nat):∀(n m:Nat),m<=n->PySem.Spec.ltCps (List.replicate n c) (List.replicate m c)=false
 |n,0,_=>by cases n <;> rfl
 |0,m+1,h=>absurd h (by omega)
 |n+1,m+1,h=>by
  rw[Q1v,Q1v];have:=ya c n m (by omega);simp[PySem.Spec.ltCps,this]
theorem DJ (m:Int){i j:Nat}(h:i<=j):sle (kK m i) (kK m j):=by
 unfold sle g_;rw[<-xN];unfold kK;rw[xP,xP];exact ya _ _ _ (by omega)
theorem DK (m:Int){i j:Nat}(h:kK m i=kK m j):i=j:=by
 have e:=congrArg Str.length h;unfold kK at e;rw[xI (oA _),xI (oA _)] at e;omega
theorem DL {m:Int}{i j:Nat}(L:0<=m)(hi:i<12)(U:j<12)(h:jy m i=jy m j):i=j:=by
 have e:((m / 624+(i:Int) * (2 * (m / 4 % 6)+1)) % 26).toNat=((m / 624+(j:Int) * (2 * (m / 4 % 6)+1)) % 26).toNat:=by
  have e:=congrArg (λs:Str=>s.cps.toList) h;have e:[97+((m / 624+(i:Int) * (2 * (m / 4 % 6)+1)) % 26).toNat]=[97+((m / 624+(j:Int) * (2 * (m / 4 % 6)+1)) % 26).toNat]:=e;have e:=(List.cons.inj e).1;omega
 have J:m / 4 % 6=0\/m / 4 % 6=1\/m / 4 % 6=2\/m / 4 % 6=3\/m / 4 % 6=4\/m / 4 % 6=5:=by omega
 generalize m / 624=a at e;rcases J with s|s|s|s|s|s <;> rw[s] at e <;> omega
theorem yb {x y:Str}(h:x.cps.toList=y.cps.toList):x=y:=by
 obtain⟨⟨x⟩⟩:=x;obtain⟨⟨y⟩⟩:=y;have h:x=y:=h;rw[h]
theorem DM {m:Int}{x y:Str}(h:jZ m x=jZ m y):x=y:=by
 unfold jZ at h;have e:=congrArg (λs:Str=>s.cps.toList) h;split at e
 . simp only[xJ] at e;exact yb (List.append_cancel_left e)
 . simp only[xJ] at e;exact yb (List.append_cancel_right e)
def oM (K:W.Frag):Sp:=λvs H Q _=>∃a b ns n,∃m:Nat,vs=[.ref a,.ref b,.int m]/\m<=12/\G0 K H a b ns n/\n<=1000000000000/\
 ∀(p:Addr) (ss:List Str) (H':Hp),SB b H H'->H' b=some (.lst [.int (n+1)])->p≠b->H' p=some (.lst (ss.map V.str))->ss.length=m->ss.Nodup->ss.Pairwise sle->Q (.ref p) H'
theorem yc {K:W.Frag}{i:Nat}{a:Addr}{xs:List V}{te:TE}{σ:L2.St}{H:Hp}{Q:VK}(Pv:Nat->List V->Hp->Prop)(hi:σ[i]? =some (some (.ref a)))(Y:dg K H a xs)(hm:xs.length<=1000)(h0:Pv 0 [] H)(hl:∀j ys H',Pv j ys H'->ys.length=j/\dg K H' a xs)
 (hs:∀(j:Nat) x ys H',xs[j]? =some x->Pv j ys H'->∀R:V->Hp->Prop,(∀y H2,Pv (j+1) (ys++[y]) H2->R y H2)->te (some x::σ) H' R) (hd:∀ys H',Pv xs.length ys H'->∀p,H' p=none->Q (.ref p) (upd H' p (.lst ys))):
 ls 1 (pM K (dE i)) (dU 0) fE te σ H Q:=by
 refine⟨_,hi,a,rfl,⟨_,Y⟩,λj k ys H'=>k=xs.length - j/\j<=xs.length/\Pv j ys H',⟨xs.length,by omega,Q06 _,h0⟩,?_⟩;rintro j k ys H' ⟨rfl,hj,hp⟩;obtain⟨L,J⟩:=hl _ _ _ hp;by_cases U:j<xs.length
 . refine .inr ⟨⟨xs,xs[j],J,Q05 U⟩,by rw[L];exact fX (by omega),λx H2 y=>?_⟩;obtain⟨rfl,y⟩:=y;refine⟨rfl,yes (dM ?_)⟩;exact hs j x ys H2 (y xs J) hp _ λy H3 h=>⟨xs.length - (j+1),by omega,rfl,by omega,h⟩
 . have ej:j=xs.length:=by omega
   subst ej;exact .inl ⟨⟨xs,J,Q00 _⟩,hd ys H' hp⟩
noncomputable abbrev abc:Str:="abcdefghijklmnopqrstuvwxyz"
theorem oN (f:Nat->Str)(i:Nat):((List.range (i+1)).map f).map V.str=((List.range i).map f).map V.str++[V.str (f i)]:=by
 rw[List.range_succ,Q0k,Q0k];rfl
theorem DN:d5 XF Xd (dD (top 34)):=eL
theorem DP (T:Tb mg)(J:Dn K mg "_law_names" jX (top 34) L U)(Y:Dn K mg "_law_next" dQ (top 31) aa ab)(ac:c_ P w K mg base da (1) aa ab dQ (gi K)):c_ P w K mg base da (2) L U jX (oM K):=by
 refine J.F.ok DN λvs H Q E h=>?_;obtain⟨a,b,ns,n,m,rfl,hm,g,hn,q⟩:=h;refine⟨rfl,λao A outer s nd hr hu=>?_⟩
 refine⟨_,(c9 (i_ 3 nd dO)
  (c9 (i_ 4 nd (dq ac hr Y (a_ (pv 0) (a_ (pv 1) b_))))
  (c9 (dA (dw dX (dm eE (pv 4) cZ) cZ (di _)) (dc (dk (gH (g:=(dU 0)) (tt:=fE) (te:=(dY _ (dY _ (dE 4) (dY _ (dY _ (dE 5) (tC (.int 4))) (tC (.int 26)))) (dY _ (dE 0) (tC (.int 1))))) (own:=["_law_k"]) rfl (fN (N:=XF) (sc:=dD (top 34))) (jm rfl T.jw (a_ (pv 2) b_)) (λ_ _ _ _ _=>(en (i:=0) (show(XW:List Str).Nodup by decide +kernel) rfl (Or.inl rfl) (.inr rfl))) (λ_ _ _ _ _=>gc) (λ_ _ _ _ _=>(dm Ce (lq nV (pv 4) (dm eE (dm f_ (pv 5) cZ) cZ) (λ_ _=>rfl)) (dm gu (pv 0) cZ)))))) dz)
  (c9 (i_ 5 nd (lq nV (pv 3) (dm eE (dm f_ (pv 4) cZ) cZ) (λ_ _=>rfl)))
  (c9 (lu (i:=6) nd rfl fk (g:=(dU 0)) (tt:=fE) (te:=(dY _ (dE 4) (dY _ (dY _ (dY _ (dE 5) (tC (.int 624))) (dY _ (dE 0) (dY (pZ K) (pV (dJ (tC (.int 1)) (dJ (tC (.int 3)) (dJ (tC (.int 5)) (dJ (tC (.int 7)) (dJ (tC (.int 9)) (dJ (tC (.int 11)) fc))))))) (dY _ (dY _ (dE 5) (tC (.int 4))) (tC (.int 6)))))) (tC (.int 26))))) (own:=["_law_k"]) rfl (fN (N:=XF) (sc:=dD (top 34))) (jm rfl T.jw (a_ (pv 2) b_)) (λ_ _ _ _ _=>(en (i:=0) (show(XW:List Str).Nodup by decide +kernel) rfl (Or.inl rfl) (.inr rfl))) (λ_ _ _ _ _=>gc) (λ_ _ _ _ _=>(lq nV (pv 4) (dm eE (dm gu (dm f_ (pv 5) cZ) (dm jn (pv 0) (gh (fQ (a_ cZ (a_ cZ (a_ cZ (a_ cZ (a_ cZ (a_ cZ b_))))))) (dm eE (dm f_ (pv 5) cZ) cZ)))) cZ) (λ_ _=>rfl))))
  (dc (dk (dG B_ (by rfl) T.mF boot_sorted (a_ (gH (g:=(dU 0)) (tt:=fE) (te:=(pI (iQ (dY jo (dY _ (dE 5) (tC (.int 4))) (tC (.int 1)))) (dY _ (dE 6) (dE 0)) (dY _ (dE 0) (dE 6)))) (own:=["_law_sign"]) rfl (fN (N:=XF) (sc:=dD (top 34))) (jK (pv 6)) (λ_ _ _ _ _=>(en (i:=0) (show(["_law_sign","_law_script","_law_at","_law_many","_law_letters","_law_m","_law_stem","_law_signs"]:List Str).Nodup by decide +kernel) rfl (Or.inl rfl) (.inr rfl))) (λ_ _ _ _ _=>gc) (λ_ _ _ _ _=>(gr (dw dX (dm eE (pv 5) cZ) cZ (di _)) (dm pT (pv 6) (pv 0)) (dm pT (pv 0) (pv 6))))) b_))))))))),?_⟩
 ac_rfl
 refine⟨_,rfl,_,rfl,a,b,ns,n,rfl,g,hn,λr H1 r0 r1 s1 h1=>?_⟩;have hz:(abc).length<=sizeLine:=by decide +kernel
 have l1:0<=r / 4 % 26/\r / 4 % 26<26:=by omega
 have l2:0<=r / 24 % 26/\r / 24 % 26<26:=by omega
 have m6:0<=r / 4 % 6/\r / 4 % 6<6:=by omega
 refine⟨_,rfl,_,_,rfl,rfl,(by show(0:Int)<_;decide),rfl,_,rfl,eF (λc=>?_) (λc=>?_)⟩
 . refine mN (λj ys H'=>H'=H1/\ys=((List.range j).map (kK r)).map V.str) rfl (by omega) ⟨rfl,rfl⟩ (λj ys H' h=>by rw[h.2,Q09,Q09,Q10]) ?_ ?_
   . rintro j ys H' hj ⟨rfl,rfl⟩ R hR;refine⟨_,rfl,_,rfl,_,_,rfl,rfl,⟨by decide,by decide⟩,_,_,rfl,rfl,(by show(0:Int)<_;decide),_,_,_,rfl,rfl,hz,qz l1.1 l1.2,_,rfl,_,_,rfl,rfl,_,_,rfl,rfl,C4 (oA _) (by omega) Dy,hR _ _ ⟨rfl,by rw[oN];rfl⟩⟩
   . rintro ys H' ⟨rfl,rfl⟩ p hp;refine q p _ _ (s1.trans (SB.new hp)) (by rw[dh (dN h1 hp)];exact h1) (λz=>by rw[z,h1] at hp;cases hp) de (by rw[Q09,Q10]) (xK λi j _ _ e=>DK r e) ?_;rw[Q27];exact List.pairwise_lt_range.imp λh=>DJ r (Q0v h)
 refine⟨_,rfl,_,rfl,_,_,rfl,rfl,⟨by decide,by decide⟩,_,_,rfl,rfl,(by show(0:Int)<_;decide),_,_,_,rfl,rfl,hz,qz l2.1 l2.2,?_⟩;dsimp only[dU];refine iF (A:=iO _ _) (λal H'=>∃p,al=[some (.ref a),some (.ref b),some (.int m),some (.str abc),some (.int r),some (.str (lt (r / 24 % 26))),some (.ref p)]/\SB b H H'/\H' b=some (.lst [.int (n+1)])/\H' p=some (.lst (((List.range m).map (jy r)).map V.str))) ?_ (λhB=>?_);rotate_left
 . refine mN (λj ys H'=>SB b H H'/\H' b=some (.lst [.int (n+1)])/\ys=((List.range j).map (jy r)).map V.str) rfl (by omega) ⟨s1,h1,rfl⟩ (λj ys H' h=>by rw[h.2.2,Q09,Q09,Q10]) ?_ ?_
   . rintro j ys H' hj ⟨s2,h2,rfl⟩ R hR;have l3:0<=(r / 624+(j:Int) * (2 * (r / 4 % 6)+1)) % 26/\(r / 624+(j:Int) * (2 * (r / 4 % 6)+1)) % 26<26:=⟨Q0s _ (by decide),Q0u _ (by decide)⟩;refine⟨_,rfl,_,rfl,_,_,rfl,rfl,⟨by decide,by decide⟩,_,rfl,Dt,λp1 ah=>⟨_,rfl,_,_,rfl,rfl,⟨by decide,by decide⟩,_,_,rfl,rfl,(by show(0:Int)<_;decide),p1,_,_,_,rfl,rfl,dg.of de,C3 m6.1 m6.2,_,_,rfl,rfl,.inl ⟨by omega,by omega⟩,_,_,rfl,rfl,_,_,rfl,rfl,(by show(0:Int)<_;decide),_,_,_,rfl,rfl,hz,qz l3.1 l3.2,hR _ _ ⟨s2.trans (SB.new ah),by rw[dh (dN h2 ah)];exact h2,by rw[oN];rfl⟩⟩⟩
   . rintro ys H' ⟨s2,h2,rfl⟩ p hp;exact hB _ _ ⟨p,rfl,s2.trans (SB.new hp),by rw[dh (dN h2 hp)];exact h2,de⟩
 rintro _ H2 ⟨p,rfl,s2,h2,ai⟩;have c':r % 4≠0:=λz=>c (decide_eq_true (show V.int (r % 4)=V.int 0 by rw[z]));dsimp only[ma,lh,dJ];refine yc (K:=K) (xs:=((List.range m).map (jy r)).map V.str) (λj ys H'=>H'=H2/\ys=((List.range j).map λk=>jZ r (jy r k)).map V.str) rfl (dg.of ai) (by rw[Q09,Q09,Q10];omega) ⟨rfl,rfl⟩ (λj ys H' h=>⟨by rw[h.2,Q09,Q09,Q10],by rw[h.1];exact dg.of ai⟩) ?_ ?_
 . rintro j x ys H' hx ⟨rfl,rfl⟩ R hR
   have am:x=.str (jy r j):=by
    rw[Q0p,Q0p] at hx
    cases e:(List.range m)[j]? with
    |none=>rw[e] at hx;cases hx
    |some k=>
     rw[e] at hx;have:=List.getElem?_range (n:=m) (i:=j) (by have:=(List.getElem?_eq_some_iff.mp e).1;rw[Q10] at this;exact this);rw[this] at e
     cases e;exact(Option.some.inj hx).symm
   subst am;refine⟨_,rfl,_,_,rfl,rfl,(by show(0:Int)<_;decide),rfl,_,rfl,eF (λc1=>?_) (λc1=>?_)⟩
   . have e1:r % 4=1:=by
      have:=of_decide_eq_true c1;injection this
     exact⟨_,rfl,_,rfl,_,_,rfl,rfl,er,hR _ _ ⟨rfl,by rw[oN];unfold jZ;rw[if_pos e1]⟩⟩
   . have e1:r % 4≠1:=λz=>c1 (decide_eq_true (show V.int (r % 4)=V.int 1 by rw[z]));exact⟨_,rfl,_,rfl,_,_,rfl,rfl,er,hR _ _ ⟨rfl,by rw[oN];unfold jZ;rw[if_neg e1]⟩⟩
 . rintro ys H' ⟨rfl,rfl⟩ p2 aj;rw[Q09,Q09,Q10];have ag:((List.range m).map λk=>jZ r (jy r k)).length=m:=by rw[Q09,Q10]
   have s3:=Same.new aj (o:=.lst (((List.range m).map λk=>jZ r (jy r k)).map V.str));refine⟨p2,_,rfl,dg.of de,by rw[ag];omega,λp' an af ae ak=>?_⟩;exact q p' an _ ((s2.trans (SB.of s3)).trans (SB.new af)) (by rw[dh (dN (s3 _ _ h2) af)];exact s3 _ _ h2) (λz=>by rw[z,s3 _ _ h2] at af;cases af) de (ae.length_eq.trans ag) (ae.nodup_iff.mpr (xK λi j hi hj e=>DL r0 (by omega) (by omega) (DM e))) (xO ak)
noncomputable def mu:Kd->Nat->Nat
 | .rows key by_ fs,J=>(2 * (fs.dep+1)+1) * 8+J
 |k,J=>(2 * k.dep) * 8+J
theorem Fs.oO:∀{fs:Fs}{i:Nat}{x:Str}{k:Kd},fs.at i=some (x,k)->k.cB<=fs.cB
 | .nil,_,_,_,h=>by cases h
 | .cons y q r,0,x,k,h=>by
   cases h;simp only[Fs.cB];omega
 | .cons y q r,i+1,x,k,h=>by
   have:=Fs.oO (fs:=r) (i:=i) h;simp only[Fs.cB];omega
theorem Fs.yd:∀{fs:Fs}{i:Nat}{x:Str}{k:Kd},fs.at i=some (x,k)->(fs.take i).cB+k.cB<=fs.cB
 | .nil,_,_,_,h=>by cases h
 | .cons y q r,0,x,k,h=>by
   cases h;simp only[Fs.take,Fs.cB];omega
 | .cons y q r,i+1,x,k,h=>by
   have:=Fs.yd (fs:=r) (i:=i) h;simp only[Fs.take,Fs.cB];omega
theorem dv.key {H:Hp}{kvs:List (Key × V)}{m:Ds}{fp:List Addr}{fs:Fs}{x:Str}(h:dv H kvs m fp)(f:dB fs m)(hp:fs.pl x):fU kvs (Sum.inr x)=some (kV (keyOf m x)):=by
 rcases(f.plain hp).2 with⟨z,J,L,_⟩|⟨s,J,L,_⟩
 . obtain⟨v,g,h1,h2,_⟩:=dv.val m h J;unfold Own at h2;rw[h1,L,h2.1];rfl
 . obtain⟨v,g,h1,h2,_⟩:=dv.val m h J;unfold Own at h2;rw[h1,L,h2.1];rfl
mutual
def D.Sm:D->Prop
 | .int _=>True
 | .str _=>True
 | .tup xs=>xs.len<=100/\xs.Sm
 | .lst xs=>xs.len<=100/\xs.Sm
 | .dct m=>m.len<=100/\m.Sm
def Ds.Sm:Ds->Prop
 | .nil=>True
 | .cons _ d r=>d.Sm/\r.Sm
end
theorem Ds.jz:∀{xs:Ds}{i:Nat}{d:D},xs.Sm->xs.at i=some d->d.Sm
 | .nil,_,_,_,h=>by cases h
 | .cons _ d r,0,_,w,h=>by unfold Ds.Sm at w;cases h;exact w.1
 | .cons _ d r,i+1,_,w,h=>by unfold Ds.Sm at w;exact Ds.jz (xs:=r) (i:=i) w.2 h
theorem Ds.oQ:∀{xs:Ds}{x:Str}{d:D},xs.Sm->xs.get x=some d->d.Sm
 | .nil,_,_,_,h=>by cases h
 | .cons y e r,x,d,w,h=>by
   unfold Ds.Sm at w;have h:(if x=y then some e else r.get x)=some d:=h;by_cases c:x=y
   . rw[if_pos c] at h;cases h;exact w.1
   . rw[if_neg c] at h;exact Ds.oQ w.2 h
theorem kL:∀(m:Ds),m.names.length=m.len
 | .nil=>rfl
 | .cons _ _ r=>by show r.names.length+1=r.len+1;rw[kL r]
theorem iu:∀l:List Ds,(d3 l).len=l.length
 |[]=>rfl
 |m::r=>by show(d3 r).len+1=r.length+1;rw[iu r]
theorem ye:∀{l:List Ds},(∀m∈l,(D.dct m).Sm)->(d3 l).Sm
 |[],_=>by unfold d3 Ds.Sm;trivial
 |m::r,h=>by
  unfold d3 Ds.Sm;exact⟨h m Q0a,ye λx J=>h x (Q04 _ J)⟩
theorem yf:∀{l:List Ds},(d3 l).Sm->∀m∈l,(D.dct m).Sm
 |[],_,m,J=>absurd J (by simp)
 |x::r,h,m,J=>by
  unfold d3 Ds.Sm at h;rcases List.mem_cons.mp J with e|e
  . rw[e];exact h.1
  . exact yf h.2 m e
theorem kM:∀{l:List Ds},∀m∈l,m.dep+1<=(d3 l).dep
 |[],m,J=>absurd J (by simp)
 |x::r,m,J=>by
  simp only[d3,Ds.dep,D.dep];rcases List.mem_cons.mp J with e|e
  . rw[e];omega
  . have:=kM (l:=r) m e;omega
theorem DQ {a b:D}(h1:a.Sm)(h2:b.Sm):(pairD a b).Sm:=by
 unfold D.Sm;exact⟨by show 2<=100;decide,by unfold Ds.Sm;exact⟨h1,by unfold Ds.Sm;exact⟨h2,by unfold Ds.Sm;trivial⟩⟩⟩
theorem dR.at {P:D->Prop}:∀{xs:Ds}{i:Nat}{d:D},dR P xs->xs.at i=some d->Tree P d
 | .nil,_,_,_,h=>by cases h
 | .cons _ d r,0,_,w,h=>by unfold dR at w;cases h;exact w.1
 | .cons _ d r,i+1,_,w,h=>by unfold dR at w;exact dR.at (xs:=r) (i:=i) w.2 h
theorem Own.pair {H:Hp}{v:V}{x y:Str}{a b:D}{fp:List Addr}(h:Own H v (.tup (.cons x a (.cons y b .nil))) fp):∃c J L U Y,v=.ref c/\H c=some (.tup [J,L])/\fp=U++Y/\Own H J a U/\Own H L b Y:=by
 unfold Own at h;obtain⟨c,vs,rfl,hc,h⟩:=h;unfold df at h;obtain⟨J,q,U,Y,rfl,rfl,g1,h⟩:=h;unfold df at h;obtain⟨L,q2,g,f3,rfl,rfl,g2,h⟩:=h;unfold df at h;obtain⟨rfl,rfl⟩:=h;exact⟨c,J,L,U,g,rfl,hc,by simp,g1,g2⟩
theorem _root_.L2.eW.tab {P:Addr}{lp:Pos}{J:Str}{H:Hp}(h:eW P lp J H):∃ps,H P=some (.eS ps):=by
 rcases h with e|⟨c,e,_⟩ <;> exact⟨_,e⟩
theorem _root_.L2.eW.keep {P:Addr}{lp:Pos}{J:Str}{H H':Hp}(h:eW P lp J H)(k:∀c o,(∀xs,o≠ .lst xs)->H c=some o->H' c=some o):eW P lp J H':=by
 rcases h with e|⟨c,e,f⟩
 . exact .inl (k _ _ (by intro xs z;cases z) e)
 . exact .inr ⟨c,k _ _ (by intro xs z;cases z) e,k _ _ (by intro xs z;cases z) f⟩
theorem _root_.L2.eW.same {P:Addr}{lp:Pos}{J:Str}{H H':Hp}(h:eW P lp J H)(s:Same H H'):eW P lp J H':=h.keep λc o _ e=>s c o e
theorem _root_.L2.eW.sb {P b:Addr}{lp:Pos}{J:Str}{H H':Hp}{l:List V}(h:eW P lp J H)(L:H b=some (.lst l))(s:SB b H H'):eW P lp J H':=
 h.keep λc o U e=>s c o (gL e L (U l)) e
theorem _root_.L2.eW.wr {P p:Addr}{lp:Pos}{L:Str}{H:Hp}{o:HO}(h:eW P lp L H)(hp:Mu H p):eW P lp L (upd H p o):=by
 have key:∀c u,(∀xs,u≠ .lst xs)->(∀J,u≠ .dK J)->H c=some u->upd H p o c=some u:=λc u h1 h2 e=>by
  rw[dh];· exact e
  intro z;subst z;rcases hp with⟨xs,q⟩|⟨J,q⟩
  . rw[e] at q;exact h1 xs (Option.some.inj q)
  . rw[e] at q;exact h2 J (Option.some.inj q)
 rcases h with e|⟨c,e,f⟩
 . exact .inl (key _ _ (by intro xs z;cases z) (by intro xs z;cases z) e)
 . exact .inr ⟨c,key _ _ (by intro xs z;cases z) (by intro xs z;cases z) e,key _ _ (by intro xs z;cases z) (by intro xs z;cases z) f⟩
def qI:Sp:=λvs H Q _=>∃p r b key by_ fs kvs m fp,vs=[.ref p,.ref r]/\H p=some (.tup [.str "rows",.str key,.str by_,.ref b])/\H r=some (.dK kvs)/\dv H kvs m fp/\dB fs m/\fs.pl key/\(by_=""\/fs.pl by_)/\
 ∀q,H q=none->Q (.ref q) (upd H q (.tup ((rankOf key by_ m).map kV)))
noncomputable def yg (st:Stmt):Pos:=match(fZ st).getLast? with
 |some (.Return (some (.Call _ _ [⟨_,.Lambda _ _ _ lp,_⟩] _)) _)=>lp
 |_=>⟨0,0,0,0⟩
noncomputable abbrev yh:Pos:=yg (top 40)
noncomputable abbrev yi:Str:=("_law_rows":Str)++".<locals>."++"<lambda>"
noncomputable def iU (key by_:Str) (m:Ds):List Key:=[if by_="" then Sum.inl 0 else keyOf m by_,keyOf m key]
def mO:Sp:=λvs H Q _=>∃p r b key by_ fs kvs m fp,vs=[.ref p,.ref r]/\H p=some (.tup [.str "rows",.str key,.str by_,.ref b])/\H r=some (.dK kvs)/\dv H kvs m fp/\dB fs m/\fs.pl key/\(by_=""\/fs.pl by_)/\
 ∀q,H q=none->Q (.ref q) (upd H q (.tup ((iU key by_ m).map kV)))
theorem DR:d5 XX XX (dD (top 39)):=eL
theorem DT (T:Tb mg)(J:Dn K mg "_law_rank" ja (top 39) L U):c_ P w K mg base da (1) L U ja (mO):=by
 refine J.F.ok DR λvs H Q E h=>?_;obtain⟨p,r,b,key,by_,fs,kvs,m,fp,rfl,hp,hR,hO,hF,hk,aa,q⟩:=h;refine⟨rfl,λac A outer s nd hr hu=>?_⟩;refine⟨_,(dc (dk (dW (a_ (gr (dw ij (dj (pv 0) cZ) dO (di _)) (fH hu (pv 1) (dj (pv 0) cZ) (λ_ _=>rfl)) cZ) (a_ (fH hu (pv 1) (dj (pv 0) cZ) (λ_ _=>rfl)) b_))))),?_⟩
 ac_rfl
 have gk:eU H r (.str key) (some (kV (keyOf m key))):=by have:=eU.k (k:=Sum.inr key) hR;rw[hO.key hF hk] at this;exact this
 refine⟨_,rfl,p,_,_,_,rfl,rfl,c8.of hp,rfl,rfl,_,rfl,?_⟩;by_cases c:by_=""
 . refine wU (show V.str by_=V.str "" by rw[c]) ?_;refine⟨_,rfl,_,rfl,p,_,_,_,rfl,rfl,c8.of hp,rfl,r,_,rfl,gk,er,λt Y=>?_⟩;have:=q t Y;unfold iU at this;rw[if_pos c] at this;exact this
 . have ab:fs.pl by_:=aa.resolve_left c;have gb:eU H r (.str by_) (some (kV (keyOf m by_))):=by have:=eU.k (k:=Sum.inr by_) hR;rw[hO.key hF ab] at this;exact this
   rw[decide_eq_false (show ¬V.str by_=V.str "" from λz=>c (by injection z))];refine dM ?_;refine⟨_,rfl,_,rfl,p,_,_,_,rfl,rfl,c8.of hp,rfl,r,_,rfl,gb,_,rfl,_,rfl,p,_,_,_,rfl,rfl,c8.of hp,rfl,r,_,rfl,gk,er,λt Y=>?_⟩;have:=q t Y;unfold iU at this;rw[if_neg c] at this;exact this
theorem DU:d5 ["kind","row","key","by"] ["kind","row"] (dD (top 14)):=eL
theorem yj (T:Tb mg)(J:Dn K mg "rank" kE (top 14) L U):c_ P w K mg base da (1) L U kE (qI):=by
 refine J.F.ok DU λvs H Q E h=>?_;obtain⟨p,r,b,key,by_,fs,kvs,m,fp,rfl,hp,hR,hO,hF,hk,aa,q⟩:=h;refine⟨rfl,λac A outer s nd hr Y=>?_⟩
 refine⟨_,(c9 (dI 2 nd (dj (pv 0) cZ))
  (c9 (dI 3 nd (dj (pv 0) cZ))
  (c9 (dA (dw dX (pv 3) dO (di _)) (dc (dk (dW (a_ (fH Y (pv 1) (pv 2) (λ_ _=>rfl)) b_)))) dz)
  (dc (dk (dW (a_ (fH Y (pv 1) (pv 3) (λ_ _=>rfl)) (a_ (fH Y (pv 1) (pv 2) (λ_ _=>rfl)) b_)))))))),?_⟩
 ac_rfl
 have gk:eU H r (.str key) (some (kV (keyOf m key))):=by have:=eU.k (k:=Sum.inr key) hR;rw[hO.key hF hk] at this;exact this
 refine⟨_,rfl,p,_,_,_,rfl,rfl,c8.of hp,rfl,?_⟩;refine⟨_,rfl,p,_,_,_,rfl,rfl,c8.of hp,rfl,?_⟩;refine⟨_,rfl,rfl,_,rfl,eF (λc=>?_) (λc=>?_)⟩
 . have c':by_="":=by
    have:=of_decide_eq_true c;injection this
   refine⟨_,rfl,_,rfl,r,_,rfl,gk,fJ,λt ht=>?_⟩;have:=q t ht;unfold rankOf at this;rw[if_pos c'] at this;exact this
 . have c':¬by_="":=λz=>c (decide_eq_true (show V.str by_=V.str "" by rw[z]));have ab:fs.pl by_:=aa.resolve_left c';have gb:eU H r (.str by_) (some (kV (keyOf m by_))):=by have:=eU.k (k:=Sum.inr by_) hR;rw[hO.key hF ab] at this;exact this
   refine⟨_,rfl,_,rfl,r,_,rfl,gb,_,rfl,_,rfl,r,_,rfl,gk,er,λt ht=>?_⟩;have:=q t ht;unfold rankOf at this;rw[if_neg c'] at this;exact this
theorem qJ {α J:Type}{F:α->J->Prop}{a:α}{b:J}:∀{as:List α}{bs:List J},Paired F as bs->F a b->Paired F (as++[a]) (bs++[b])
 |_,_,.nil,h=>.cons h .nil
 |_,_,.cons x r,h=>.cons x (qJ r h)
theorem DV {L:List (Key × V)}{J:List Ds}{key:Str}(h:L.map (·.1)=J.map λr=>keyOf r key)(k:Key):(fU L k).isSome=oy key J k:=by
 rw[<-lr];unfold oy;have e:∀(l:List Ds),(l.any λr=>decide (keyOf r key=k))=((l.map λr=>keyOf r key).any λx=>decide (x=k)):=λl=>by rw[List.any_map];rfl
 rw[e,<-h,List.any_map];rfl
theorem dS.keep {H H':Hp}(t:Tu H H'):∀{vs:List V}{L:List Ds}{J:List (List Addr)},dS H vs L J->(∀c∈J.flatten,∀o,H c=some o->H' c=some o)->dS H' vs L J
 |_,_,_,.nil,_=>.nil
 |_,_,_,.cons h r,k=>.cons (h.keep t _ λc hc=>k c (Q0f _ hc)) (dS.keep t r λc hc=>k c (Q01 _ hc))
theorem dS.mu {H:Hp}{vs:List V}{L:List Ds}{J:List (List Addr)}(h:dS H vs L J):∀c∈J.flatten,Mu H c:=df.alive _ h.own
theorem Fs.get_mem:∀{fs:Fs}{x:Str}{k:Kd},fs.get x=some k->x∈fs.names
 | .nil,_,_,h=>by cases h
 | .cons y q r,x,k,h=>by
   have h:(if x=y then some q else r.get x)=some k:=h;by_cases e:x=y
   . rw[e];exact Q0a
   . rw[if_neg e] at h;exact Q04 _ (Fs.get_mem h)
theorem qK:∀{fs:Fs}{x:Str}{v:D},fh fs x v->∃k,fs.get x=some k/\du k v
 | .nil,_,_,h=>by unfold fh at h;exact h.elim
 | .cons y k r,x,v,h=>by
   unfold fh at h;rcases h with⟨e,f⟩|⟨e,h⟩
   . exact⟨k,by show(if x=y then some k else r.get x)=_;rw[if_pos e],f⟩
   . obtain⟨J,L,U⟩:=qK h;exact⟨J,by show(if x=y then some k else r.get x)=_;rw[if_neg e];exact L,U⟩
theorem Fs.mP:∀{fs:Fs}{x:Str}{k:Kd},fs.W->fs.get x=some k->k.W
 | .nil,_,_,_,h=>by cases h
 | .cons y q r,x,k,w,h=>by
   unfold Fs.W at w;have h:(if x=y then some q else r.get x)=some k:=h;by_cases e:x=y
   . rw[if_pos e] at h;cases h;exact w.1
   . rw[if_neg e] at h;exact Fs.mP w.2 h
theorem mQ {K:PySem.W.Frag}{a:Addr}{xs:List V}{g:TG}{tb:TS}{D:Ends}{σ:St}{H:Hp}(Pv:Nat->St->Hp->Prop)(h0:Pv 0 σ H)(hl:∀i σ H,i<=xs.length->Pv i σ H->dg K H a xs)
 (hs:∀(i:Nat) y σ H p,xs[i]? =some y->Pv i σ H->H p=none->g (.ref p) σ (upd H p (.tup [.int i,y])) λJ H2=>tb { D with nx:=Pv (i+1),ct:=Pv (i+1),bk:=D.nx } J H2) (hd:∀σ H,Pv xs.length σ H->D.nx σ H):
 ∃W:Nat->Nat->St->Hp->Prop,(∃m,W 0 m σ H)/\∀i m σ H,W i m σ H->
  ((Ite K a).stop i H/\D.nx σ H)\/((Ite K a).go i H/\∃N:St->Hp->Prop,(∀L H',N L H'->∃Y,Y<m/\W (i+1) Y L H')/\∀x H',(Ite K a).jl i H x H'->g x σ H' λJ H2=>tb { D with nx:=N,ct:=N,bk:=D.nx } J H2):=by
 refine⟨λi m σ H=>m=xs.length - i/\i<=xs.length/\Pv i σ H,⟨xs.length,by simp,Q06 _,h0⟩,?_⟩;rintro i m σ H ⟨rfl,hi,p⟩;by_cases U:i<xs.length
 . refine .inr ⟨⟨xs,xs[i],hl i σ H hi p,by simp[U]⟩,Pv (i+1),λL H' p'=>⟨xs.length - (i+1),by omega,rfl,U,p'⟩,λx H' y=>?_⟩;obtain⟨q,y,hq,rfl,hy,rfl⟩:=y;exact hs i y σ H q (hy xs (hl i σ H hi p)) p hq
 . have e:i=xs.length:=by omega
   subst e;exact .inl ⟨⟨xs,hl _ σ H (Q00 _) p,Q00 _⟩,hd σ H p⟩
def lK:Sp:=λvs H Q _=>∃b x xs fs k,vs=[.ref b,.str x]/\H b=some (.tup xs)/\FA H xs fs/\fs.names.Nodup/\fs.get x=some k/\∀u,KA H u k->u≠ .non->Q u H
def qL:Sp:=λvs H Q _=>∃a x y,vs=[.ref a]/\H a=some (.tup [x,y])/\Q (.bl true) H
def yk:Sp:=λvs H Q _=>∃b a xs kvs fs m fp,vs=[.ref b,.ref a]/\H b=some (.tup xs)/\FA H xs fs/\fs.names.Nodup/\fs.names.length<=12/\H a=some (.dK kvs)/\dv H kvs m fp/\dB fs m/\∀H',Same H H'->Q (.bl true) H'
def iV (n:Nat):Sp:=λvs H Q _=>∃J v k d fp,vs=[J,v]/\KA H J k/\k.W/\Own H v d fp/\du k d/\d.dep<=n/\d.Sm/\∀H',Same H H'->Q .non H'
def qM (n:Nat):Sp:=λvs H Q _=>∃b a xs kvs fs m fp,vs=[.ref b,.ref a]/\H b=some (.tup xs)/\FA H xs fs/\fs.names.Nodup/\fs.names.length<=12/\fs.W/\H a=some (.dK kvs)/\dv H kvs m fp/\dB fs m/\m.dep<=n/\m.Sm/\∀H',Same H H'->Q .non H'
def yl (n:Nat):Sp:=λvs H Q _=>∃L U a xs key by_ fs ys J Y,vs=[.ref L,.ref a]/\H L=some (.tup [.str "rows",.str key,.str by_,.ref U])/\H U=some (.tup xs)/\FA H xs fs/\(Kd.rows key by_ fs).W/\H a=some (.lst ys)/\dS H ys J Y/\(∀m∈J,dB fs m)/\J.Pairwise (mC key by_)/\(J.map λm=>keyOf m key).Nodup/\(∀m∈J,m.dep<=n)/\(∀m∈J,m.Sm)/\ys.length<=100/\∀H',Same H H'->Q .non H'
def mR (n:Nat):Sp:=λvs H Q _=>∃a u v k d fp,vs=[.ref a,v]/\H a=some (.tup [.str "tree",u])/\KA H u k/\k.W/\Own H v d fp/\Tree (du k) d/\d.dep<=n/\d.Sm/\∀H',Same H H'->Q .non H'
def ym (n:Nat):Sp:=λvs H Q _=>∃b t x v xs fs d fp,vs=[.ref b,.ref t]/\H b=some (.tup xs)/\FA H xs fs/\fs.names.Nodup/\fs.W/\H t=some (.tup [.str x,v])/\Own H v d fp/\fh fs x d/\d.dep<=n/\d.Sm/\∀H',Same H H'->Q .non H'
theorem KA.DW {H:Hp}:∀{u:V}{k:Kd},KA H u k->u≠ .non
 |_,.num,h=>by unfold KA at h;obtain⟨a,rfl,_⟩:=h;intro z;cases z
 |_,.fe,h=>by unfold KA at h;obtain⟨a,rfl,_⟩:=h;intro z;cases z
 |_,.eQ _,h=>by unfold KA at h;obtain⟨a,b,vs,rfl,_⟩:=h;intro z;cases z
 |_,.rows _ _ _,h=>by unfold KA at h;obtain⟨a,b,vs,rfl,_⟩:=h;intro z;cases z
 |_,.tree _,h=>by unfold KA at h;obtain⟨a,b,rfl,_⟩:=h;intro z;cases z
 |_,.fg _,h=>by unfold KA at h;obtain⟨a,b,vs,rfl,_⟩:=h;intro z;cases z
theorem DX:d5 ["fields","name","pair"] ["fields","name"] (dD (top 5)):=eL
theorem yo (T:Tb mg)(J:Dn K mg "kind_at" iq (top 5) L U):c_ P w K mg base da (1) L U iq (lK):=by
 refine J.F.ok DX λvs H Q E h=>?_;obtain⟨b,x,xs,fs,k,rfl,hb,ab,ae,Y,q⟩:=h;refine⟨rfl,λag A outer s nd hr hu=>?_⟩
 refine⟨_,(c9 (iP PassesOwn.never rfl (km (pv 0)) (en (i:=2) nd rfl fk) (dc (dA (dw dX (dj (pv 2) cZ) (pv 1) (di _)) (dc (dk (dj (pv 2) cZ))) dz)))
  (dc (dk el))),?_⟩
 ac_rfl
 refine⟨_,rfl,b,rfl,⟨_,c8.of hb⟩,v9 (xs:=xs) (λi σ H'=>H'=H/\(∃z,σ=[some (.ref b),some (.str x),z])/\∀j,j<i->fs.names[j]? ≠some x) ⟨rfl,⟨_,rfl⟩,λj hj=>absurd hj (by omega)⟩ ?_ ?_ ?_⟩
 . rintro i σ H' _ ⟨rfl,_⟩;exact c8.of hb
 . rintro i v σ H' hv ⟨rfl,⟨z,rfl⟩,aa⟩;obtain⟨c,u,nm,k',rfl,ac,hc,hk⟩:=FA.get fs ab hv;have af:fs.names[i]? =some nm:=by rw[Fs.iR,ac];rfl
   refine⟨_,rfl,c,_,_,_,rfl,rfl,c8.of hc,rfl,_,rfl,rfl,_,rfl,eF (λcc=>?_) (λcc=>?_)⟩
   . have e:nm=x:=by
      have:=of_decide_eq_true cc;injection this
     subst e;have ek:=Fs.jv ae ac;rw[Y] at ek
     cases ek;exact⟨_,rfl,c,_,_,_,rfl,rfl,c8.of hc,rfl,q u hk hk.DW⟩
   . refine⟨rfl,⟨_,rfl⟩,λj hj=>?_⟩;by_cases e:j<i
     . exact aa j e
     . have:j=i:=by omega
       subst this;rw[af];intro z
       cases z;exact cc (decide_eq_true rfl)
 . rintro σ H' ⟨rfl,_,aa⟩;obtain⟨j,hj,e⟩:=Q19 (Fs.get_mem Y);exact absurd (by rw[Q05 hj,e]) (aa j (by rw[FA.len fs ab];exact hj))
theorem DY:d5 ["value"] ["value"] (dD (top 11)):=eL
theorem DZ (T:Tb mg)(J:Dn K mg "is_pair" kG (top 11) L U):c_ P w K mg base da (1) L U kG (qL):=by
 refine J.F.ok DY λvs H Q E h=>?_;obtain⟨a,x,y,rfl,Y,q⟩:=h;refine⟨rfl,λaa A outer s nd hr hu=>?_⟩;refine⟨_,(dc (dk (ib (dG d8 (by rfl) T.d_ boot_isinstance (a_ (pv 0) (a_ (d4 (v:=.ty "tuple") rfl T.gC boot_tuple rfl) b_))) (ia (gZ dX (dG fC (by rfl) T.fv PySem.boot_len (a_ (pv 0) b_)) cZ (di _)))))),?_⟩
 ac_rfl
 refine⟨_,rfl,_,_,_,true,rfl,.tup Y,rfl,true,rfl,dM ?_⟩;exact⟨_,rfl,a,_,rfl,.inr (c8.of Y),rfl,q⟩
theorem D0:d5 XV XV (dD (top 9)):=eL
theorem D1 (T:Tb mg)(J:Dn K mg "has_just" iD (top 9) L U):c_ P w K mg base da (1) L U iD (yk):=by
 refine J.F.ok D0 λvs H Q E h=>?_;obtain⟨b,a,xs,kvs,fs,m,fp,rfl,hb,Y,ac,hx,ha,hO,hF,q⟩:=h;refine⟨rfl,λaf A outer s nd hr hu=>?_⟩;refine⟨_,(dc (dk (ib (gZ dX (dG qb (by rfl) T.fv PySem.boot_len (a_ (pv 1) b_)) (dG fC (by rfl) T.fv PySem.boot_len (a_ (pv 0) b_)) (di _)) (ia (dG (mr rfl) (by rfl) T.mG boot_all (a_ (gH (g:=(mh K 2 (jk (dU 0) (jk (dU 1) me)))) (tt:=fE) (te:=_) (own:=["name","inner"]) rfl (fN (N:=XV) (sc:=dD (top 9))) (km (pv 0)) (λ_ _ _ _ _=>(ie rfl (fy (en (i:=0) (show(["name","inner","fields","record"]:List Str).Nodup by decide +kernel) rfl (Or.inl rfl) (.inr rfl)) (fy (en (i:=1) (show(["name","inner","fields","record"]:List Str).Nodup by decide +kernel) rfl (Or.inl rfl) (.inr rfl)) ic)))) (λ_ _ _ _ _=>gc) (λ_ _ _ _ _=>(vS (p_ hu (pv 0) (pv 3)) (by with_unfolding_all rfl)))) b_)))))),?_⟩
 ac_rfl
 have e1:kvs.length=xs.length:=by rw[dv.len hO,FA.len fs Y,hF.names]
 have ag:xs.length<=12:=by rw[FA.len fs Y];exact hx
 refine⟨_,rfl,a,_,rfl,ha,_,rfl,b,_,rfl,.inr (c8.of hb),rfl,_,rfl,?_⟩;rw[decide_eq_true (show V.int (kvs.length:Nat)=V.int (xs.length:Nat) by rw[e1])];refine dM ?_;refine⟨_,rfl,b,rfl,⟨_,c8.of hb⟩,λi m ys H'=>H'=H/\m=xs.length - i/\i<=xs.length/\ys=(List.replicate i true).map V.bl,⟨xs.length,rfl,by simp,Q06 _,rfl⟩,?_⟩;rintro i m ys H' ⟨rfl,rfl,hi,rfl⟩;by_cases aa:i<xs.length
 . refine .inr ⟨⟨xs,xs[i],c8.of hb,by simp[aa]⟩,by rw[Q09,Q1c];exact fX (by omega),λx H' y=>?_⟩;obtain⟨rfl,y⟩:=y;have hv:=y xs (c8.of hb);obtain⟨c,u,nm,k,rfl,ae,hc,hk⟩:=FA.get fs Y hv;obtain⟨d,hd,_⟩:=hF.get (Fs.jv ac ae);obtain⟨v,f,ab,_⟩:=dv.val _ hO hd;refine⟨c,_,rfl,c8.of hc,rfl,_,_,rfl,_,_,rfl,rfl,rfl,yes (dM ?_)⟩;refine⟨_,rfl,_,rfl,a,_,rfl,eU.k (k:=Sum.inr nm) ha,?_⟩;rw[ab];refine⟨xs.length - (i+1),by omega,rfl,rfl,aa,?_⟩;rw[List.replicate_succ',Q0k];rfl
 . refine .inl ⟨⟨xs,c8.of hb,Q1e aa⟩,λp hp=>⟨p,List.replicate i true,rfl,dg.of de,?_⟩⟩
   have e:(List.replicate i true).all id=true:=by
    rw[Q18];intro z hz;rw[Q30 hz];rfl
   rw[e];exact q _ (Same.new hp)
theorem D2:d5 ["fields","record","name","inner","place"] XV (dD (top 8)):=eL
theorem D3 (n:Nat)(T:Tb mg)(J:Dn K mg "record_misfit" iD (top 8) L U)(Y:Dn K mg "has_just" iD (top 9) aa ab)(ac:c_ P w K mg base da (1) aa ab iD (yk))(ae:Dn K mg "misfit" fO (top 7) af ag)(ah:c_ P w K mg base da (4 * n+3) af ag fO (iV n)):c_ P w K mg base da (4 * n+4) L U iD (qM n):=by
 refine J.F.ok D2 λvs H Q E h=>?_;obtain⟨b,a,xs,kvs,fs,m,fp,rfl,hb,ai,aj,hx,ao,ha,hO,hF,ap,aq,q⟩:=h;refine⟨rfl,λar A outer s nd hr hu=>?_⟩
 refine⟨_,(c9 (dA (PW.pt (gG (jI (eO (dG d8 (by rfl) T.d_ boot_isinstance (a_ (pv 1) (a_ (d4 (v:=.ty "dict") rfl T.gJ boot_dict rfl) b_))))) (gN (jI (eO (dq ac hr Y (a_ (pv 0) (a_ (pv 1) b_)))))))) (dc (dk (fQ b_))) dz)
  (c9 (iP PassesOwn.never rfl (km (pv 0)) (ie rfl (fy (en (i:=2) nd rfl fk) (fy (en (i:=3) nd rfl fk) ic))) (c9 (dI 4 nd (dq ah hr ae (a_ (pv 3) (a_ (fH hu (pv 1) (pv 2) (λ_ _=>rfl)) b_))))
  (dc (dA (dw gY (pv 4) el (di _)) (dc (dk kr)) dz))))
  (dc (dk el)))),?_⟩
 ac_rfl
 refine⟨_,rfl,_,_,_,true,rfl,.dK ha,rfl,true,rfl,dy ?_⟩;refine⟨_,rfl,_,rfl,b,a,xs,kvs,fs,m,fp,rfl,hb,ai,aj,hx,ha,hO,hF,λH1 s1=>⟨true,rfl,dy ?_⟩⟩;refine⟨_,rfl,b,rfl,⟨_,c8.of (s1 _ _ hb)⟩,v9 (xs:=xs) (λi σ H'=>Same H H'/\∃x y z,σ=[some (.ref b),some (.ref a),x,y,z]) ⟨s1,_,_,_,rfl⟩ ?_ ?_ ?_⟩
 . rintro i σ H' _ ⟨s2,_⟩;exact c8.of (s2 _ _ hb)
 . rintro i v σ H' hv ⟨s2,x,y,z,rfl⟩;obtain⟨c,u,nm,k,rfl,ak,hc,hk⟩:=FA.get fs ai hv;obtain⟨d,hd,al⟩:=hF.get (Fs.jv aj ak);obtain⟨e,f,am,an,_⟩:=dv.val _ hO hd;refine⟨c,_,rfl,c8.of (s2 _ _ hc),rfl,_,_,rfl,_,_,rfl,rfl,?_⟩;refine⟨_,rfl,_,rfl,_,rfl,a,e,rfl,(by have:=eU.k (k:=Sum.inr nm) (s2 _ _ ha);rw[am] at this;exact this),u,e,k,d,f,rfl,KA.mono (Tu.of s2) k hk,Fs.lB ao ak,Own.same s2 an,al,Q0h (Ds.jV hd) ap,Ds.oQ aq hd,λH3 s3=>?_⟩;refine⟨_,rfl,rfl,_,rfl,?_⟩;rw[decide_eq_true rfl];refine dy ?_;exact⟨s2.trans s3,_,_,_,rfl⟩
 . rintro σ H' ⟨s2,_⟩;exact q _ s2
theorem D4:d5 ["kind","rows","earlier","number","row","place"] Xb (dD (top 10)):=eL
theorem D5 (n:Nat)(T:Tb mg)(aa:Dn K mg "rows_misfit" hU (top 10) ab ac)(J:Dn K mg "record_misfit" iD (top 8) L U)(Y:c_ P w K mg base da (4 * n+4) L U iD (qM n))(aj:Dn K mg "rank" kE (top 14) au av)(ak:c_ P w K mg base da (1) au av kE (qI)):c_ P w K mg base da (4 * n+5) ab ac hU (yl n):=by
 refine aa.F.ok D4 λvs H Q E h=>?_;obtain⟨pk,pb,a,xs,key,by_,fs,ys,rs,fl,rfl,ai,aI,aJ,hW,ha,an,ae,az,aK,aL,aM,a1,q⟩:=h;refine⟨rfl,λa4 A outer s nd hr hu=>?_⟩;have aN:=hr.wj;unfold Kd.W at hW;obtain⟨aO,aP,aQ,ah,ap⟩:=hW
 refine⟨_,(c9 (dA (jI (eO (dG d8 (by rfl) T.d_ boot_isinstance (a_ (pv 1) (a_ (d4 (v:=.ty "list") rfl T.gB boot_list rfl) b_))))) (dc (dk (fQ b_))) dz)
  (c9 (dI 2 nd wO)
  (c9 (iP PassesOwn.never rfl (mv rfl T.mH (a_ (pv 1) b_)) (ie rfl (fy (en (i:=3) nd rfl fk) (fy (en (i:=4) nd rfl fk) ic))) (c9 (dI 5 nd (dq Y hr J (a_ (dj (pv 0) cZ) (a_ (pv 4) b_))))
  (c9 (dA (dw gY (pv 5) el (di _)) (dc (dk kr)) dz)
  (c9 (dA (PW.pt (gF (dw jO (pv 3) cZ (di _)) (gW (dw (CO aN) (dq ak hr aj (a_ (pv 0) (a_ (pv 4) b_))) (dq ak hr aj (a_ (pv 0) (a_ (gh (pv 1) (dm jN (pv 3) cZ)) b_))) (di _))))) (dc (dk kr)) dz)
  (c9 (dA (AI (p_ hu (fH hu (pv 4) (dj (pv 0) cZ) (λ_ _=>rfl)) (pv 2)) (by with_unfolding_all rfl)) (dc (dk kr)) dz)
  (dc (n9 hu (pv 2) (fH hu (pv 4) (dj (pv 0) cZ) (λ_ _=>rfl)) nF rfl)))))))
  (dc (dk el))))),?_⟩
 ac_rfl
 refine⟨_,rfl,_,_,_,true,rfl,.lst ha,rfl,true,rfl,dy ?_⟩;intro p hp;have s0:Same H (upd H p (.dK [])):=Same.new hp;obtain⟨a2,a3⟩:=A3.len an;refine⟨_,rfl,a,rfl,⟨_,dg.of (s0 _ _ ha)⟩,mQ (xs:=ys) (λi σ H'=>∃x y z ek,σ=[some (.ref pk),some (.ref a),some (.ref p),x,y,z]/\Same H H'/\H' p=some (.dK ek)/\ek.map (·.1)=(rs.take i).map λm=>keyOf m key) ⟨_,_,_,[],rfl,s0,de,rfl⟩ ?_ ?_ ?_⟩
 . intro i σ H' _ zq;obtain⟨x,y,z,ek,rfl,s2,_⟩:=zq;exact dg.of (s2 _ _ ha)
 . rintro i yv σ H' t hy ⟨x,y,z,ek,rfl,s2,aT,ax⟩ ht;have hi:i<ys.length:=(List.getElem?_eq_some_iff.mp hy).1;have st:Same H' (upd H' t (.tup [.int i,yv])):=Same.new ht;have s3:=s2.trans st
   have row:∀j,j<ys.length->∃rr kvs fq,ys[j]? =some (.ref rr)/\H rr=some (.dK kvs)/\dv H kvs (rs.getD j .nil) fq/\rs.getD j .nil∈rs:=λj hj=>by
    have h:=A3.at (a0:=V.non) (b0:=Ds.nil) (c0:=[]) an j hj;unfold Own at h;obtain⟨rr,kvs,fq,e,al,_,am⟩:=h;refine⟨rr,kvs,fq,?_,al,am,?_⟩
    . rw[<-e,Q0j,Q05 hj];rfl
    . rw[Q0j,Q05 (by omega)];exact Q14 _
   obtain⟨rr,kvs,fq,aA,al,am,af⟩:=row i hi;rw[hy] at aA
   cases aA;have aB:upd H' t (.tup [.int i,.ref rr]) p=some (.dK ek):=st _ _ aT
   have gk:∀H4,Same H H4->eU H4 rr (.str key) (some (kV (keyOf (rs.getD i .nil) key))):=λH4 s4=>by
    have:=eU.k (k:=Sum.inr key) (s4 _ _ al);rw[am.key (ae _ af) ah] at this;exact this
   refine⟨t,_,rfl,c8.of de,rfl,_,_,rfl,_,_,rfl,rfl,?_⟩;refine⟨_,rfl,pk,_,_,_,rfl,rfl,c8.of (s3 _ _ ai),rfl,_,rfl,pb,rr,xs,kvs,fs,_,fq,rfl,s3 _ _ aI,FA.mono (Tu.of s3) fs aJ,aO,aP,aQ,s3 _ _ al,dv.same s3 am,ae _ af,aL _ af,aM _ af,λH4 s4=>?_⟩;have ag:=s3.trans s4;refine⟨_,rfl,rfl,_,rfl,?_⟩;rw[decide_eq_true rfl];refine dy ?_
   have aq:fU ek (keyOf (rs.getD i .nil) key)=none:=by
    have sv:=DV ax (keyOf (rs.getD i .nil) key)
    have:oy key (rs.take i) (keyOf (rs.getD i .nil) key)=false:=by
     cases z:oy key (rs.take i) (keyOf (rs.getD i .nil) key) with
     |false=>rfl
     |true=>
      obtain⟨m,hm,e⟩:=List.any_eq_true.mp z;have e:=of_decide_eq_true e;obtain⟨j,hj,ej⟩:=Q19 hm;rw[Q0n] at hj;rw[Q31] at ej;have aC:i<rs.length:=by omega
      have e2:rs.getD i .nil=rs[i]:=by rw[Q0j,Q05 aC];rfl
      have:=List.pairwise_iff_getElem.mp (List.pairwise_map.mp aK) j i (by omega) aC (by omega);rw[ej,<-e2] at this;exact absurd e this
    rw[this] at sv
    cases z:fU ek (keyOf (rs.getD i .nil) key) with
    |none=>rfl
    |some o=>rw[z] at sv;cases sv
   have fin:∀H5,Same (upd H' t (.tup [.int i,.ref rr])) H5->∀(DD:Ends),DD.nx=(λσ H'=>∃x y z ek,σ=[some (.ref pk),some (.ref a),some (.ref p),x,y,z]/\Same H H'/\H' p=some (.dK ek)/\ek.map (·.1)=(rs.take (i+1)).map λm=>keyOf m key)->∀z':Option V,
    DD.nx [some (.ref pk),some (.ref a),some (.ref p),some (.int i),some (.ref rr),z'] (upd H5 p (.dK (ek++[(keyOf (rs.getD i .nil) key,.bl true)]))):=λH5 s5 DD aU z'=>by
    rw[aU];refine⟨_,_,_,_,rfl,λc o e=>?_,de,?_⟩
    . rw[dh (dN e hp)];exact s5 _ _ (s3 _ _ e)
    . rw[Q0k,ax,Q1i,Q0k];congr 1;rw[Q05 (by omega),Q0j,Q05 (by omega)];rfl
   have aw:ek.length<sizeLine:=by
    have e1:=congrArg List.length ax;rw[Q09,Q09,Q0n] at e1;have:=hr.wj;exact fX (by omega)
   refine⟨_,rfl,_,_,rfl,rfl,_,rfl,eF (λc=>?_) (λc=>dy ?_)⟩
   . have a5:0<i:=by
      have:(0:Int)<(i:Int):=of_decide_eq_true c;omega
     obtain⟨rp,aV,aW,aG,aX,aH,ao⟩:=row (i - 1) (by omega);refine⟨_,rfl,_,rfl,pk,rr,pb,key,by_,fs,kvs,_,fq,rfl,ag _ _ ai,ag _ _ al,dv.same ag am,ae _ af,ah,ap,λt1 ht1=>?_⟩;have ay:Same H4 (upd H4 t1 (.tup ((rankOf key by_ (rs.getD i .nil)).map kV))):=Same.new ht1;have s5:=ag.trans ay
     have aY:fW ys ((i:Int) - 1)=some (.ref rp):=by
      have e:(i:Int) - 1=((i - 1:Nat):Int):=by omega
      rw[e];exact fA aG
     refine⟨_,rfl,_,rfl,_,rfl,_,_,rfl,rfl,a,_,_,_,rfl,rfl,dg.of (s5 _ _ ha),aY,pk,rp,pb,key,by_,fs,aV,_,aW,rfl,s5 _ _ ai,s5 _ _ aX,dv.same s5 aH,ae _ ao,ah,ap,λt2 gR=>?_⟩;have ar:Same (upd H4 t1 (.tup ((rankOf key by_ (rs.getD i .nil)).map kV))) (upd (upd H4 t1 (.tup ((rankOf key by_ (rs.getD i .nil)).map kV))) t2 (.tup ((rankOf key by_ (rs.getD (i - 1) .nil)).map kV))):=Same.new gR;have s6:=s5.trans ar
     have aZ:eY (rankOf key by_ (rs.getD (i - 1) .nil)) (rankOf key by_ (rs.getD i .nil))=true:=by
      have ge:∀j (h:j<rs.length),rs.getD j .nil=rs[j]:=λj h=>by rw[Q0j,Q05 h];rfl
      rw[ge (i - 1) (by omega),ge i (by omega)];exact List.pairwise_iff_getElem.mp az (i - 1) i (by omega) (by omega) (by omega)
     refine⟨t1,t2,_,_,rfl,rfl,c8.of (ar _ _ de),c8.of de,(qt (ae _ af) ah ap).trans (qt (ae _ ao) ah ap).symm,_,rfl,?_⟩;rw[aZ];refine dy ?_;have aD:=ar _ _ (ay _ _ (s4 _ _ aB));refine⟨_,rfl,_,rfl,pk,_,_,_,rfl,rfl,c8.of (s6 _ _ ai),rfl,rr,_,rfl,gk _ s6,_,rfl,p,_,rfl,eU.k aD,_,rfl,?_⟩;rw[aq];refine dy ?_;refine⟨_,rfl,_,rfl,_,rfl,pk,_,_,_,rfl,rfl,c8.of (s6 _ _ ai),rfl,rr,_,rfl,gk _ s6,p,_,rfl,jr.k aD aw,?_⟩;rw[qy aq];exact fin _ (s4.trans (ay.trans ar)) _ rfl _
   . have aE:=s4 _ _ aB;refine⟨_,rfl,_,rfl,pk,_,_,_,rfl,rfl,c8.of (ag _ _ ai),rfl,rr,_,rfl,gk _ ag,_,rfl,p,_,rfl,eU.k aE,_,rfl,?_⟩;rw[aq];refine dy ?_;refine⟨_,rfl,_,rfl,_,rfl,pk,_,_,_,rfl,rfl,c8.of (ag _ _ ai),rfl,rr,_,rfl,gk _ ag,p,_,rfl,jr.k aE aw,?_⟩;rw[qy aq];exact fin _ s4 _ rfl _
 . intro σ H' zq;obtain⟨x,y,z,ek,rfl,s2,_⟩:=zq;exact q _ s2
theorem yp:d5 ["kind","tree","place","number","arm"] ["kind","tree"] (dD (top 12)):=eL
theorem D6 (T:Tb mg)(J:Dn K mg "tree_misfit" jx (top 12) L U):c_ P w K mg base da (4 * 0+2) L U jx (mR 0):=by
 refine J.F.ok yp λvs H Q E h=>?_;obtain⟨a,u,v,k,d,fp,rfl,_,_,_,_,_,Y,_⟩:=h;refine⟨rfl,λaa A outer s nd hr hu=>?_⟩;exact absurd Y (by have:=d.gI;omega)
theorem D7 (n:Nat)(T:Tb mg)(J:Dn K mg "tree_misfit" jx (top 12) L U)(Y:c_ P w K mg base da (4 * n+2) L U jx (mR n))(aa:Dn K mg "is_pair" kG (top 11) ab ac)(ae:c_ P w K mg base da (1) ab ac kG (qL))(af:Dn K mg "misfit" fO (top 7) ag ah)(ai:c_ P w K mg base da (4 * n+3) ag ah fO (iV n)):c_ P w K mg base da (4 * (n+1)+2) L U jx (mR (n+1)):=by
 refine J.F.ok yp λvs H Q E h=>?_;obtain⟨a,u,v,k,d,fp,rfl,ha,hk,hW,hO,pB,ap,al,q⟩:=h;refine⟨rfl,λaz A outer s nd hr hu=>?_⟩;obtain⟨x,y,t,as,rfl,aq,ar⟩:=pB.shape;obtain⟨c,v1,v2,f1,f2,rfl,hc,rfl,au,am⟩:=hO.pair;unfold Own at am;obtain⟨pl,ys,fq,rfl,aj,rfl,av⟩:=am;simp only[D.dep,Ds.dep] at ap;unfold D.Sm Ds.Sm at al;obtain⟨_,aw,an⟩:=al;unfold Ds.Sm at an;have ao:=an.1;unfold D.Sm at ao
 refine⟨_,(c9 (dA (PW.pt (gG (jI (eO (dq ae hr aa (a_ (pv 1) b_)))) (gN (jI (eO (dG d8 (by rfl) T.d_ boot_isinstance (a_ (dj (pv 1) cZ) (a_ (d4 (v:=.ty "list") rfl T.gB boot_list rfl) b_)))))))) (dc (dk (fQ b_))) dz)
  (c9 (dI 2 nd (dq ai hr af (a_ (dj (pv 0) cZ) (a_ (dj (pv 1) cZ) b_))))
  (c9 (dA (dw gY (pv 2) el (di _)) (dc (dk kr)) dz)
  (c9 (iP PassesOwn.never rfl (mv rfl T.mH (a_ (dj (pv 1) cZ) b_)) (ie rfl (fy (en (i:=3) nd rfl fk) (fy (en (i:=4) nd rfl fk) ic))) (c9 (dI 2 nd (dq Y hr J (a_ (pv 0) (a_ (pv 4) b_))))
  (dc (dA (dw gY (pv 2) el (di _)) (dc (dk kr)) dz))))
  (dc (dk el)))))),?_⟩
 ac_rfl
 refine⟨_,rfl,c,v1,.ref pl,rfl,hc,true,rfl,dy ?_⟩;refine⟨_,rfl,c,_,_,_,rfl,rfl,c8.of hc,rfl,_,_,_,true,rfl,.lst aj,rfl,true,rfl,dy ?_⟩;refine⟨_,rfl,a,_,_,_,rfl,rfl,c8.of ha,rfl,_,rfl,c,_,_,_,rfl,rfl,c8.of hc,rfl,u,v1,k,t,f1,rfl,hk,hW,au,aq,by omega,aw,λH1 s1=>?_⟩;refine⟨_,rfl,rfl,_,rfl,?_⟩;rw[decide_eq_true rfl];refine dy ?_;refine⟨_,rfl,c,_,_,_,rfl,rfl,c8.of (s1 _ _ hc),rfl,pl,rfl,⟨_,dg.of (s1 _ _ aj)⟩,mQ (xs:=ys) (λi σ H'=>Same H H'/\∃x y z,σ=[some (.ref a),some (.ref c),x,y,z]) ⟨s1,_,_,_,rfl⟩ ?_ ?_ ?_⟩
 . rintro i σ H' _ ⟨s2,_⟩;exact dg.of (s2 _ _ aj)
 . rintro i yv σ H' tt hy ⟨s2,x,y,z,rfl⟩ ax;have st:Same H' (upd H' tt (.tup [.int i,yv])):=Same.new ax;have s3:=s2.trans st;obtain⟨d',f,ak,ay,_⟩:=df.get _ av hy;have aA:=Ds.i9 ak;refine⟨tt,_,rfl,c8.of de,rfl,_,_,rfl,_,_,rfl,rfl,?_⟩;refine⟨_,rfl,_,rfl,a,u,yv,k,d',f,rfl,s3 _ _ ha,KA.mono (Tu.of s3) k hk,hW,Own.same s3 ay,dR.at ar ak,by omega,Ds.jz ao.2 ak,λH4 s4=>?_⟩;refine⟨_,rfl,rfl,_,rfl,?_⟩;rw[decide_eq_true rfl];refine dy ?_;exact⟨s3.trans s4,_,_,_,rfl⟩
 . rintro σ H' ⟨s2,_⟩;exact q _ s2
theorem D8:d5 ["fields","value","inner","place"] ["fields","value"] (dD (top 13)):=eL
theorem D9 (n:Nat)(T:Tb mg)(J:Dn K mg "either_misfit" mJ (top 13) L U)(Y:Dn K mg "is_pair" kG (top 11) aa ab)(ac:c_ P w K mg base da (1) aa ab kG (qL))(ae:Dn K mg "kind_at" iq (top 5) af ag)(ah:c_ P w K mg base da (1) af ag iq (lK))(ai:Dn K mg "misfit" fO (top 7) aj ak)(al:c_ P w K mg base da (4 * n+3) aj ak fO (iV n)):c_ P w K mg base da (4 * n+4) L U mJ (ym n):=by
 refine J.F.ok D8 λvs H Q E h=>?_;obtain⟨b,t,x,v,xs,fs,d,fp,rfl,hb,ao,ap,aq,ht,hO,hE,ar,au,q⟩:=h;refine⟨rfl,λaw A outer s nd hr hu=>?_⟩
 refine⟨_,(c9 (dA (jI (eO (dq ac hr Y (a_ (pv 1) b_)))) (dc (dk (fQ b_))) dz)
  (c9 (dI 2 nd (dq ah hr ae (a_ (pv 0) (a_ (dj (pv 1) cZ) b_))))
  (c9 (dA (dw gX (pv 2) el (di _)) (dc (dk (fQ b_))) dz)
  (c9 (dI 3 nd (dq al hr ai (a_ (pv 2) (a_ (dj (pv 1) cZ) b_))))
  (c9 (dA (dw gY (pv 3) el (di _)) (dc (dk kr)) dz)
  (dc (dk el))))))),?_⟩
 ac_rfl
 obtain⟨k,am,an⟩:=qK hE;refine⟨_,rfl,t,_,_,rfl,ht,true,rfl,dy ?_⟩;refine⟨_,rfl,_,rfl,t,_,_,_,rfl,rfl,c8.of ht,rfl,b,x,xs,fs,k,rfl,hb,ao,ap,am,λu hu av=>?_⟩;refine⟨_,rfl,rfl,_,rfl,?_⟩;rw[decide_eq_false av];refine dy ?_;refine⟨_,rfl,_,rfl,t,_,_,_,rfl,rfl,c8.of ht,rfl,u,v,k,d,fp,rfl,hu,Fs.mP aq am,hO,an,ar,au,λH1 s1=>?_⟩;refine⟨_,rfl,rfl,_,rfl,?_⟩;rw[decide_eq_true rfl];refine dy ?_;exact q _ s1
theorem yq:d5 ["kind","value","form"] ["kind","value"] (dD (top 7)):=eL
theorem D_ (T:Tb mg)(J:Dn K mg "misfit" fO (top 7) L U):c_ P w K mg base da (4 * 0+3) L U fO (iV 0):=by
 refine J.F.ok yq λvs H Q E h=>?_;obtain⟨kv,v,k,d,fp,rfl,_,_,_,_,Y,_⟩:=h;refine⟨rfl,λaa A outer s nd hr hu=>?_⟩;exact absurd Y (by have:=d.gI;omega)
theorem Ea (n:Nat)(T:Tb mg)(ao:Dn K mg "misfit" fO (top 7) ap aq)(J:Dn K mg "record_misfit" iD (top 8) L U)(Y:c_ P w K mg base da (4 * n+4) L U iD (qM n))(af:Dn K mg "rows_misfit" hU (top 10) ag ah)(ai:c_ P w K mg base da (4 * n+5) ag ah hU (yl n))(aj:Dn K mg "tree_misfit" jx (top 12) ak al)(am:c_ P w K mg base da (4 * (n+1)+2) ak al jx (mR (n+1)))(aa:Dn K mg "either_misfit" mJ (top 13) ab ac)(ae:c_ P w K mg base da (4 * n+4) ab ac mJ (ym n)):
 c_ P w K mg base da (4 * (n+1)+3) ap aq fO (iV (n+1)):=by
 refine ao.F.ok yq λvs H Q E h=>?_;obtain⟨kv,v,k,d,fp,rfl,hk,hW,hO,hF,av,an,q⟩:=h;refine⟨rfl,λaC A outer s nd hr hu=>?_⟩
 refine⟨_,(c9 (dI 2 nd (dj (pv 0) cZ))
  (c9 (dA (dw dX (pv 2) dO (di _)) (dc (dk (gr (PW.pt (gF (eO (dG d8 (by rfl) T.d_ boot_isinstance (a_ (pv 1) (a_ (d4 (v:=.ty "int") rfl T.qD boot_int rfl) b_)))) (gW (jI (eO (dG d8 (by rfl) T.d_ boot_isinstance (a_ (pv 1) (a_ (d4 (v:=.ty "bool") rfl T.qE boot_bool rfl) b_)))))))) el (fQ b_)))) dz)
  (c9 (dA (dw dX (pv 2) dO (di _)) (dc (dk (gr (eO (dG d8 (by rfl) T.d_ boot_isinstance (a_ (pv 1) (a_ (d4 (v:=.ty "str") rfl T.mI boot_str rfl) b_)))) el (fQ b_)))) dz)
  (c9 (dA (dw dX (pv 2) dO (di _)) (dc (dk (dq Y hr J (a_ (dj (pv 0) cZ) (a_ (pv 1) b_))))) dz)
  (c9 (dA (dw dX (pv 2) dO (di _)) (dc (dk (dq ai hr af (a_ (pv 0) (a_ (pv 1) b_))))) dz)
  (c9 (dA (dw dX (pv 2) dO (di _)) (dc (dk (dq am hr aj (a_ (pv 0) (a_ (pv 1) b_))))) dz)
  (dc (dk (dq ae hr aa (a_ (dj (pv 0) cZ) (a_ (pv 1) b_))))))))))),?_⟩
 ac_rfl
 cases k with
 |num=>
  unfold KA at hk;obtain⟨a,rfl,ha⟩:=hk;unfold du at hF;obtain⟨z,rfl⟩:=hF;unfold Own at hO;obtain⟨rfl,rfl⟩:=hO;refine⟨_,rfl,a,_,_,_,rfl,rfl,c8.of ha,rfl,?_⟩;refine mw rfl (by decide +kernel) ?_;refine⟨_,rfl,_,_,_,true,rfl,.int z,rfl,true,rfl,dM ?_⟩;refine⟨_,rfl,_,_,_,false,rfl,.int z,rfl,false,rfl,dM ?_⟩;exact q _ (Same.refl _)
 |fe=>
  unfold KA at hk;obtain⟨a,rfl,ha⟩:=hk;unfold du at hF;obtain⟨z,rfl⟩:=hF;unfold Own at hO;obtain⟨rfl,rfl⟩:=hO;refine⟨_,rfl,a,_,_,_,rfl,rfl,c8.of ha,rfl,?_⟩;refine gQ rfl (by decide +kernel) ?_;refine mw rfl (by decide +kernel) ?_;refine⟨_,rfl,_,_,_,true,rfl,.str z,rfl,true,rfl,dM ?_⟩;exact q _ (Same.refl _)
 |eQ fs=>
  unfold KA at hk;obtain⟨a,b,xs,rfl,ha,hb,ar⟩:=hk;unfold du at hF;obtain⟨m,rfl,hF⟩:=hF;unfold Own at hO;obtain⟨c,kvs,fq,rfl,hc,rfl,hO⟩:=hO;unfold Kd.W at hW;unfold D.Sm at an;simp only[D.dep] at av;refine⟨_,rfl,a,_,_,_,rfl,rfl,c8.of ha,rfl,?_⟩;refine gQ rfl (by decide +kernel) ?_;refine gQ rfl (by decide +kernel) ?_;refine mw rfl (by decide +kernel) ?_;exact⟨_,rfl,a,_,_,_,rfl,rfl,c8.of ha,rfl,_,rfl,b,c,xs,kvs,fs,m,fq,rfl,hb,ar,hW.1,hW.2.1,hW.2.2,hc,hO,hF,by omega,an.2,q⟩
 |rows key by_ fs=>
  unfold KA at hk;obtain⟨a,b,xs,rfl,ha,hb,ar⟩:=hk;unfold du at hF;obtain⟨rs,rfl,az,aw,aA⟩:=hF;unfold Own at hO;obtain⟨c,ys,fq,rfl,hc,rfl,hO⟩:=hO;obtain⟨fl,au,rfl⟩:=df.rows hO;unfold D.Sm at an;simp only[D.dep] at av;refine⟨_,rfl,a,_,_,_,rfl,rfl,c8.of ha,rfl,?_⟩;refine gQ rfl (by decide +kernel) ?_;refine gQ rfl (by decide +kernel) ?_;refine gQ rfl (by decide +kernel) ?_;refine mw rfl (by decide +kernel) ?_;refine⟨_,rfl,_,rfl,a,b,c,xs,key,by_,fs,ys,rs,fl,rfl,ha,hb,ar,hW,hc,au,az,aw,aA,λm hm=>?_,λm hm=>?_,?_,q⟩
  . have:=kM m hm;omega
  . have:=yf an.2 m hm;unfold D.Sm at this;exact this.2
  . have h1:=(A3.len au).1;have h2:=an.1;rw[iu] at h2;omega
 |tree k=>
  unfold KA at hk;obtain⟨a,u,rfl,ha,hu⟩:=hk;unfold du at hF;unfold Kd.W at hW;refine⟨_,rfl,a,_,_,_,rfl,rfl,c8.of ha,rfl,?_⟩;refine gQ rfl (by decide +kernel) ?_;refine gQ rfl (by decide +kernel) ?_;refine gQ rfl (by decide +kernel) ?_;refine gQ rfl (by decide +kernel) ?_;refine mw rfl (by decide +kernel) ?_;exact⟨_,rfl,_,rfl,a,u,v,k,d,fp,rfl,ha,hu,hW,hO,hF,av,an,q⟩
 |fg fs=>
  unfold KA at hk;obtain⟨a,b,xs,rfl,ha,hb,ar⟩:=hk;unfold du at hF;obtain⟨x,v',rfl,hE⟩:=hF;obtain⟨c,v1,v2,f1,f2,rfl,hc,rfl,ax,aB⟩:=hO.pair;unfold Own at ax;obtain⟨rfl,rfl⟩:=ax;unfold Kd.W at hW;simp only[D.dep,Ds.dep] at av;unfold D.Sm Ds.Sm at an;obtain⟨_,aD,ay⟩:=an;unfold Ds.Sm at ay;refine⟨_,rfl,a,_,_,_,rfl,rfl,c8.of ha,rfl,?_⟩;refine gQ rfl (by decide +kernel) ?_;refine gQ rfl (by decide +kernel) ?_;refine gQ rfl (by decide +kernel) ?_;refine gQ rfl (by decide +kernel) ?_;refine gQ rfl (by decide +kernel) ?_;exact⟨_,rfl,a,_,_,_,rfl,rfl,c8.of ha,rfl,_,rfl,b,c,x,v2,xs,fs,v',f2,rfl,hb,ar,hW.1,hW.2.2.2,hc,aB,hE,by omega,ay.1,q⟩
theorem yr (T:Tb mg)(Y:Dn K mg "misfit" fO (top 7) ai aj)(J:Dn K mg "record_misfit" iD (top 8) ak al)(ac:Dn K mg "has_just" iD (top 9) aq ar)(aa:Dn K mg "rows_misfit" hU (top 10) ao ap)(ah:Dn K mg "rank" kE (top 14) az aA)(L:Dn K mg "tree_misfit" jx (top 12) af ag)(ab:Dn K mg "is_pair" kG (top 11) au av)(U:Dn K mg "either_misfit" mJ (top 13) am an)(ae:Dn K mg "kind_at" iq (top 5) aw ax):∀n:Nat,c_ P w K mg base da (4 * n+3) ai aj fO (iV n)/\c_ P w K mg base da (4 * n+2) af ag jx (mR n)
 |0=>⟨D_ T Y,D6 T L⟩
 |n+1=>by
  obtain⟨M,Tr⟩:=yr T Y J ac aa ah L ab U ae n;have Ip:=DZ (P:=P) (w:=w) (base:=base) T ab;have R:=D3 n T J ac (D1 T ac) Y M;have Ro:=D5 n T aa J R ah (yj T ah);have ay:=D7 n T L Tr ab Ip Y M;have Ei:=D9 n T U ab Ip ae (yo T ae) Y M;exact⟨Ea n T Y J R aa Ro L ay U Ei,ay⟩
end Pb
namespace PySem
namespace F
end F
namespace F
end F
open PyProof.Rows
section
variable {prog:Program}{w:World}{A:Around}{E:Value->Shared->Prop}{s:Shared}
end
section
variable {prog:Program}{w:World}{A:Around}{E:Value->Shared->Prop}{s:Shared}
end
end PySem
namespace L2
open PyProof.Rows
section
variable {X:Cx}{e:Expr}{te:TE}{p p2 pos pos2:Pos}
end
end L2
namespace L2
open Spec PyProof.Rows
section
variable {prog:Program}{w:World}{A:Around}{E:Value->Shared->Prop}{s:Shared}
theorem gS {h h':Heap}{it a c:Addr}{i:Nat}(x:h.IsTupleIter it a i)(k:Heap.ExtBut c h h')(n:it≠c):h'.IsTupleIter it a i:=let⟨o,J,r⟩:=x;⟨o,k _ _ n J,r⟩
theorem jA {h h':Heap}{a c:Addr}{vs:Array Value}(x:h.IsTuple a vs)(k:Heap.ExtBut c h h')(n:a≠c):h'.IsTuple a vs:=let⟨o,J,r⟩:=x;⟨o,k _ _ n J,r⟩
theorem Eb {z TI TO L U l1 l2:Addr}{k:Nat}{xs ys:Array Value}{x y a b:Value}{Q:Value->Shared->Prop}(D:ZipApart z TI TO L U l1 l2)
 (hz:IsZip s.heap z TI TO .none) (aa:IsPair s.heap TI (.ref L) (.ref U)) (ab:IsPair s.heap TO a b)
 (h1:s.heap.IsTupleIter L l1 k) (h2:s.heap.IsTupleIter U l2 k) (g1:s.heap.IsTuple l1 xs) (g2:s.heap.IsTuple l2 ys) (hx:xs[k]? =some x) (hy:ys[k]? =some y)
 (hQ:∀h',IsZip h' z TI TO (rawInt s.heap.objs.size)->IsPair h' TO x y->h'.IsTupleIter L l1 (k+1)->h'.IsTupleIter U l2 (k+1)->IsPair h' s.heap.objs.size x y->
   (∀c o,c≠z->c≠TO->c≠L->c≠U->s.heap.get? c=some o->h'.get? c=some o)->Q (.ref s.heap.objs.size) { s with heap:=h' }):
 wpAny (model prog w) A (Builtin.«zip.__next__» ⟨[.ref z],[]⟩) (λfin s'=>∃v,fin=.done (.ret v)/\Q v s') E s:=by
 show wpAny _ _ (field (.ref z) 2 >>= _) _ _ _;refine Q0 (wpAny_field hz rfl (x:=.bool false) rfl ?_);show wpAny _ _ (field (.ref z) 3 >>= _) _ _ _;refine Q0 (wpAny_field hz rfl (x:=.ref TI) rfl ?_);refine Q0 (wpAny_seqItems aa rfl ?_);show wpAny _ _ (Builtin.SmallTypes.ownedTupleIsFree (.ref z) >>= _) _ _ _;refine Q0 ?_;unfold Builtin.SmallTypes.ownedTupleIsFree;refine Q0 (wpAny_field hz rfl (x:=.none) rfl (Q02 ?_));simp only[if_true];refine Q0 (wpAny_rule ?_);refine Q0 (wpAny_field hz rfl (x:=.ref TO) rfl ?_);refine Q0 (wpAny_setField_rec hz (by simp) λha za Y=>?_);have za:IsZip ha z TI TO .ellipsis:=za;refine Q0 ?_;simp only[Q32,Q33,Q1f,Q1x];refine Q0 (Q0 (wpAny_onRaise ?_));show wpAny _ _ (Builtin.SmallTypes.nextOf (.ref L) >>= _) _ _ _;refine Q0 (qB (gS h1 Y.extBut D.i1z) (jA g1 Y.extBut D.l1z) hx λhb b1 sb=>Q02 ?_);have tb:IsPair hb TO a b:=sb.extBut _ _ D.TOi1 (Y.extBut _ _ D.TOz ab);refine Q0 (wpAny_seqItems tb rfl ?_);refine Q0 (wpAny_updateSeq_pair tb λhc tc sc=>?_);have tc:IsPair hc TO x b:=tc;refine Q0 (wpAny_letGo (Q02 ?_));refine Q0 (Q0 (wpAny_onRaise ?_));show wpAny _ _ (Builtin.SmallTypes.nextOf (.ref U) >>= _) _ _ _;refine Q0 (qB (gS (gS (gS h2 Y.extBut D.i2z) sb.extBut D.i12.symm) sc.extBut D.TOi2.symm) (jA (jA (jA g2 Y.extBut D.l2z) sb.extBut D.l2i1) sc.extBut D.l2TO) hy λhd d2 sd=>Q02 ?_);have td:IsPair hd TO x b:=sd.extBut _ _ D.TOi2 tc;refine Q0 (wpAny_seqItems td rfl ?_);refine Q0 (wpAny_updateSeq_pair td λJ te se=>?_);have te:IsPair J TO x y:=te;refine Q0 (wpAny_letGo (Q02 (Q02 ?_)));refine Q0 (wpAny_seqItems te rfl ?_);refine Q0 (wpAny_newTuple ?_);have sz:J.objs.size=s.heap.objs.size:=by rw[se.1,sd.1,sc.1,sb.1,Y.1]
 have ze:IsZip J z TI TO .ellipsis:=se.extBut _ _ D.TOz.symm (sd.extBut _ _ D.i2z.symm (sc.extBut _ _ D.TOz.symm (sb.extBut _ _ D.i1z.symm za)));have ke:∀c o,c≠z->c≠TO->c≠L->c≠U->s.heap.get? c=some o->J.get? c=some o:=λc o c1 c2 c3 c4 q=>se.extBut _ _ c2 (sd.extBut _ _ c4 (sc.extBut _ _ c2 (sb.extBut _ _ c3 (Y.extBut _ _ c1 q))));have e1:J.IsTupleIter L l1 (k+1):=gS (gS (gS b1 sc.extBut D.TOi1.symm) sd.extBut D.i12) se.extBut D.TOi1.symm;have e2:J.IsTupleIter U l2 (k+1):=gS d2 se.extBut D.TOi2.symm;have zl:z<J.objs.size:=Q03 ze;show wpAny _ _ (Builtin.SmallTypes.ownedTupleHandOut (.ref z) (.ref J.objs.size) >>= _) _ _ _;refine Q0 ?_;unfold Builtin.SmallTypes.ownedTupleHandOut;have zf:IsZip (J.push { cls:=.type "tuple",data:=.seq #[x,y] }) z TI TO .ellipsis:=Q07 _ ze;refine Q0 (wpAny_setField_rec zf (by simp) λhg zg sg=>?_);have zg:IsZip hg z TI TO (rawInt J.objs.size):=zg;refine wpAny_setField_rec zg (by simp) λhh zh sh=>?_;have zh:IsZip hh z TI TO (rawInt J.objs.size):=zh;have up:∀c o,c≠z->J.get? c=some o->hh.get? c=some o:=λc o c1 q=>sh.extBut _ _ c1 (sg.extBut _ _ c1 (Q07 _ q));have pr:IsPair hh J.objs.size x y:=sh.extBut _ _ (Q0d zl) (sg.extBut _ _ (Q0d zl) (Q0i _ rfl));rw[sz] at zh pr;refine Q02 ⟨_,rfl,?_⟩;show Q (.ref J.objs.size) _;rw[sz];exact hQ hh zh (up _ _ D.TOz te) (let⟨o,ho,r⟩:=e1;⟨o,up _ _ D.i1z ho,r⟩) (let⟨o,ho,r⟩:=e2;⟨o,up _ _ D.i2z ho,r⟩) pr λc o c1 c2 c3 c4 q=>up c o c1 (ke c o c1 c2 c3 c4 q)
theorem Ec {z TI TO U Y l1 l2:Addr}{k:Nat}{xs ys:Array Value}{a b:Value}{Q:Fin->Shared->Prop}(h0:A.handled=none)(D:ZipApart z TI TO U Y l1 l2)
 (hz:IsZip s.heap z TI TO .none) (ab:IsPair s.heap TI (.ref U) (.ref Y)) (ac:IsPair s.heap TO a b)
 (h1:s.heap.IsTupleIter U l1 k) (h2:s.heap.IsTupleIter Y l2 k) (g1:s.heap.IsTuple l1 xs) (g2:s.heap.IsTuple l2 ys) (aa:xs[k]? =none\/ys[k]? =none)
 (hE:∀h' e,(∀c o,c≠z->c≠TO->c≠U->c≠Y->s.heap.get? c=some o->h'.get? c=some o)->(∃o,h'.get? e=some o/\o.cls=.type "StopIteration")->E (.ref e) { s with heap:=h' }):
 wpAny (model prog w) A (Builtin.«zip.__next__» ⟨[.ref z],[]⟩) Q E s:=by
 show wpAny _ _ (field (.ref z) 2 >>= _) _ _ _;refine Q0 (wpAny_field hz rfl (x:=.bool false) rfl ?_);show wpAny _ _ (field (.ref z) 3 >>= _) _ _ _;refine Q0 (wpAny_field hz rfl (x:=.ref TI) rfl ?_);refine Q0 (wpAny_seqItems ab rfl ?_);show wpAny _ _ (Builtin.SmallTypes.ownedTupleIsFree (.ref z) >>= _) _ _ _;refine Q0 ?_;unfold Builtin.SmallTypes.ownedTupleIsFree;refine Q0 (wpAny_field hz rfl (x:=.none) rfl (Q02 ?_));simp only[if_true];refine Q0 (wpAny_rule ?_);refine Q0 (wpAny_field hz rfl (x:=.ref TO) rfl ?_);refine Q0 (wpAny_setField_rec hz (by simp) λha za J=>?_);have za:IsZip ha z TI TO .ellipsis:=za;refine Q0 ?_;simp only[Q32,Q33,Q1f,Q1x];refine Q0 (Q0 (wpAny_onRaise ?_));show wpAny _ _ (Builtin.SmallTypes.nextOf (.ref U) >>= _) _ _ _
 cases hx:xs[k]? with
 |none=>
  refine Q0 (xU h0 (gS h1 J.extBut D.i1z) (jA g1 J.extBut D.l1z) hx λhb e sb he=>?_);obtain⟨oe,L,q2⟩:=he;have zb:IsZip hb z TI TO .ellipsis:=sb _ _ D.i1z.symm za;have ez:e≠z:=λv=>by subst v;rw[zb] at L;cases L;simp at q2
  exact wpAny_setField_rec zb (by simp) λhc _ sc=>hE hc e (λc o c1 _ c3 _ v=>sc.extBut _ _ c1 (sb _ _ c3 (J.extBut _ _ c1 v))) ⟨oe,sc.extBut _ _ ez L,q2⟩
 |some x=>
  have hy:ys[k]? =none:=by rcases aa with v|v;rw[hx] at v;cases v;exact v
  refine Q0 (qB (gS h1 J.extBut D.i1z) (jA g1 J.extBut D.l1z) hx λhb b1 sb=>Q02 ?_);have tb:IsPair hb TO a b:=sb.extBut _ _ D.TOi1 (J.extBut _ _ D.TOz ac);refine Q0 (wpAny_seqItems tb rfl ?_);refine Q0 (wpAny_updateSeq_pair tb λhc tc sc=>?_);refine Q0 (wpAny_letGo (Q02 ?_));refine Q0 (Q0 (wpAny_onRaise ?_));show wpAny _ _ (Builtin.SmallTypes.nextOf (.ref Y) >>= _) _ _ _;refine Q0 (xU h0 (gS (gS (gS h2 J.extBut D.i2z) sb.extBut D.i12.symm) sc.extBut D.TOi2.symm) (jA (jA (jA g2 J.extBut D.l2z) sb.extBut D.l2i1) sc.extBut D.l2TO) hy λhd e sd he=>?_);obtain⟨oe,L,q2⟩:=he;have zd:IsZip hd z TI TO .ellipsis:=sd _ _ D.i2z.symm (sc.extBut _ _ D.TOz.symm (sb.extBut _ _ D.i1z.symm za));have ez:e≠z:=λv=>by subst v;rw[zd] at L;cases L;simp at q2
  exact wpAny_setField_rec zd (by simp) λhg _ sg=>hE hg e (λc o c1 c2 c3 c4 v=>sg.extBut _ _ c1 (sd _ _ c4 (sc.extBut _ _ c2 (sb.extBut _ _ c3 (J.extBut _ _ c1 v))))) ⟨oe,sg.extBut _ _ ez L,q2⟩
theorem Ed {z TI TO J L l1 l2:Addr}{k:Nat}{xs ys:Array Value}{x y a b:Value}{Q:Option Value->Shared->Prop}(D:ZipApart z TI TO J L l1 l2)
 (hz:IsZip s.heap z TI TO .none) (U:IsPair s.heap TI (.ref J) (.ref L)) (Y:IsPair s.heap TO a b)
 (h1:s.heap.IsTupleIter J l1 k) (h2:s.heap.IsTupleIter L l2 k) (g1:s.heap.IsTuple l1 xs) (g2:s.heap.IsTuple l2 ys) (hx:xs[k]? =some x) (hy:ys[k]? =some y)
 (hQ:∀h',IsZip h' z TI TO (rawInt s.heap.objs.size)->IsPair h' TO x y->h'.IsTupleIter J l1 (k+1)->h'.IsTupleIter L l2 (k+1)->IsPair h' s.heap.objs.size x y->
   (∀c o,c≠z->c≠TO->c≠J->c≠L->s.heap.get? c=some o->h'.get? c=some o)->Q (some (.ref s.heap.objs.size)) { s with heap:=h' }):
 wpAny (model prog w) A (pyNext (.ref z)) Q E s:=by
 have hT:s.TypeIs (.ref z) "zip":=⟨_,hz,rfl⟩;unfold pyNext;exact Q0 (wpAny_attempt (wpAny_callSpecial?_slot (name:=Str.ofString "__next__") hT F.slot_zip_next (wpAny_call_entry F.slot_zip_next hT F.entry_zip_next (Eb D hz U Y h1 h2 g1 g2 hx hy λh' a1 a2 a3 a4 a5 a6=>Q02 (hQ h' a1 a2 a3 a4 a5 a6)) (F.args_zip_next_1 _))))
theorem Ee {z TI TO L U l1 l2:Addr}{k:Nat}{xs ys:Array Value}{a b:Value}{Q:Option Value->Shared->Prop}(h0:A.handled=none)(D:ZipApart z TI TO L U l1 l2)
 (hz:IsZip s.heap z TI TO .none) (Y:IsPair s.heap TI (.ref L) (.ref U)) (aa:IsPair s.heap TO a b)
 (h1:s.heap.IsTupleIter L l1 k) (h2:s.heap.IsTupleIter U l2 k) (g1:s.heap.IsTuple l1 xs) (g2:s.heap.IsTuple l2 ys) (J:xs[k]? =none\/ys[k]? =none)
 (hQ:∀h',(∀c o,c≠z->c≠TO->c≠L->c≠U->s.heap.get? c=some o->h'.get? c=some o)->Q none { s with heap:=h' }):wpAny (model prog w) A (pyNext (.ref z)) Q E s:=by
 have hT:s.TypeIs (.ref z) "zip":=⟨_,hz,rfl⟩;unfold pyNext;refine Q0 (wpAny_attempt (wpAny_callSpecial?_slot (name:=Str.ofString "__next__") hT F.slot_zip_next (wpAny_call_entry F.slot_zip_next hT F.entry_zip_next (Ec h0 D hz Y aa h1 h2 g1 g2 J λh' e hk he=>?_) (F.args_zip_next_1 _))));obtain⟨o,ho,hc⟩:=he;exact Q0 (wpAny_isInstance (T:="StopIteration") (b:=true) ⟨o,ho,hc⟩ isSubtype_stop (Q02 (hQ _ hk)))
noncomputable abbrev oR (h:Heap) (l1:Addr):Heap:=h.push { cls:=.type "tuple_iterator",data:=.fields #[.ref l1,.int 0 0] }
noncomputable abbrev oS (h:Heap) (l1 l2:Addr):Heap:=(oR h l1).push { cls:=.type "tuple_iterator",data:=.fields #[.ref l2,.int 0 0] }
noncomputable abbrev oU (h:Heap) (l1 l2:Addr):Heap:=(oS h l1 l2).push { cls:=.type "tuple",data:=.seq #[.ref h.objs.size,.ref (oR h l1).objs.size] }
noncomputable abbrev oV (h:Heap) (l1 l2:Addr):Heap:=(oU h l1 l2).push { cls:=.type "tuple",data:=.seq #[.none,.none] }
noncomputable abbrev lL (h:Heap) (l1 l2:Addr):Heap:=(oV h l1 l2).push { cls:=.type "zip",data:=.fields #[.none,.bool false,.bool false,.ref (oS h l1 l2).objs.size,.ref (oU h l1 l2).objs.size] }
theorem Ef (l1 l2:Addr)(xs ys:Array Value):Meets (Builtin.«zip.__new__» ⟨[.type "zip",.ref l1,.ref l2],[]⟩) (λ_ R s=>s.heap.IsTuple l1 xs/\s.heap.IsTuple l2 ys/\R (.ok (.ret (.ref (oV s.heap l1 l2).objs.size))) { s with heap:=lL s.heap l1 l2 }):=
 .of_wp λprog w A R s h=>by
   obtain⟨hp,g,d,tk,os⟩:=s;obtain⟨L,U,h⟩:=h;have J:=sub_zip;have Y:Heap.IsTuple (Shared.heap ⟨hp,g,d,tk,os⟩) l1 xs:=L;have L2:Heap.IsTuple (Shared.heap ⟨hp.push { cls:=.type "tuple_iterator",data:=.fields #[.ref l1,.int 0 0] },g,d,tk,os⟩) l2 ys:=let⟨o,ho,r⟩:=U;⟨o,Q07 _ ho,r⟩
   wp_walk using wpAny_pyIter_tuple Y,wpAny_pyIter_tuple L2
   exact⟨_,rfl,h⟩
theorem Eg {l1 l2:Addr}{xs ys:Array Value}{Q:Value->Shared->Prop}(t1:s.heap.IsTuple l1 xs)(t2:s.heap.IsTuple l2 ys)
 (h:∀h',IsZip h' (s.heap.objs.size+4) (s.heap.objs.size+2) (s.heap.objs.size+3) .none->IsPair h' (s.heap.objs.size+2) (.ref s.heap.objs.size) (.ref (s.heap.objs.size+1))->
   IsPair h' (s.heap.objs.size+3) .none .none->h'.IsTupleIter s.heap.objs.size l1 0->h'.IsTupleIter (s.heap.objs.size+1) l2 0->
   (∀c o,s.heap.get? c=some o->h'.get? c=some o)->Q (.ref (s.heap.objs.size+4)) { s with heap:=h' }):
 wpAny (model prog w) A (call (.type "zip") [.ref l1,.ref l2]) Q E s:=by
 refine callType_new F.called_zip (by decide) (F.typeCall_zip_2 _ _) (F.newCall_zip_2 _ _) (λobj=>F.args_object_init_3 obj _ _) F.entry_zip_new (Ef l1 l2 xs ys) ⟨t1,t2,?_⟩;have J:(oR s.heap l1).objs.size=s.heap.objs.size+1:=Q1g ..;have L:(oS s.heap l1 l2).objs.size=s.heap.objs.size+2:=by rw[Q1g,J]
 have U:(oU s.heap l1 l2).objs.size=s.heap.objs.size+3:=by rw[Q1g,L]
 have z4:(oV s.heap l1 l2).objs.size=s.heap.objs.size+4:=by rw[Q1g,U]
 have Y:(lL s.heap l1 l2).get? (oV s.heap l1 l2).objs.size=some _:=Q0i _ rfl;have q4:(lL s.heap l1 l2).get? (oU s.heap l1 l2).objs.size=some _:=Q07 _ (Q0i _ rfl);have q3:(lL s.heap l1 l2).get? (oS s.heap l1 l2).objs.size=some _:=Q07 _ (Q07 _ (Q0i _ rfl));have q2:(lL s.heap l1 l2).get? (oR s.heap l1).objs.size=some _:=Q07 _ (Q07 _ (Q07 _ (Q0i _ rfl)));have q1:(lL s.heap l1 l2).get? s.heap.objs.size=some _:=Q07 _ (Q07 _ (Q07 _ (Q07 _ (Q0i _ rfl))));show _/\_;rw[L,U,z4] at Y;rw[J,L] at q3;rw[U] at q4;rw[J] at q2;rw[z4];exact⟨⟨_,Y,rfl⟩,h _ Y q3 q4 ⟨_,q1,rfl,rfl⟩ ⟨_,q2,rfl,rfl⟩ λc o v=>Q07 _ (Q07 _ (Q07 _ (Q07 _ (Q07 _ v))))⟩
end
noncomputable def yt (K:W.Frag) (a b:Addr):It:=
 ⟨λi H=>∃xs ys x y,c8 K H a xs/\c8 K H b ys/\xs[i]? =some x/\ys[i]? =some y,
  λi H v H'=>∃p x y,H p=none/\v=.ref p/\(∀xs,c8 K H a xs->xs[i]? =some x)/\(∀ys,c8 K H b ys->ys[i]? =some y)/\H'=upd H p (.tup [x,y]),
  λi H=>∃xs ys,c8 K H a xs/\c8 K H b ys/\(xs.length<=i\/ys.length<=i)⟩
theorem Eh {P:Program}{w:World}{K:W.Frag}{ai:List Expr}{k:Nat}{tpos:Pos}{z TI TO J L l1 l2:Addr}(D:ZipApart z TI TO J L l1 l2):
 Turn P w K (.Tuple ai k tpos) (yt K l1 l2) [z,TI,TO,J,L] z (λi h=>∃oa ob,IsZip h z TI TO .none/\IsPair h TI (.ref J) (.ref L)/\IsPair h TO oa ob/\h.IsTupleIter J l1 i/\h.IsTupleIter L l2 i) where
 mem:=by simp
 obj:=λi h st b U=>by
  obtain⟨oa,ob,h1,h2,h3,h4,h5⟩:=st;have U:b=z\/b=TI\/b=TO\/b=J\/b=L:=by simpa using U
  rcases U with rfl|rfl|rfl|rfl|rfl
  . exact⟨_,h1,λv y=>by
     have y:Data.fields _=Data.cell v:=y
     cases y⟩
  . exact⟨_,h2,λv y=>by
     have y:Data.seq _ _=Data.cell v:=y
     cases y⟩
  . exact⟨_,h3,λv y=>by
     have y:Data.seq _ _=Data.cell v:=y
     cases y⟩
  . obtain⟨o,q,c,d⟩:=h4;exact⟨o,q,λv y=>by rw[d] at y;cases y⟩
  . obtain⟨o,q,c,d⟩:=h5;exact⟨o,q,λv y=>by rw[d] at y;cases y⟩
 keep:=λi h h' st k=>by
  obtain⟨oa,ob,h1,h2,h3,h4,h5⟩:=st;exact⟨oa,ob,k z (by simp) _ h1,k TI (by simp) _ h2,k TO (by simp) _ h3,(let⟨o,ho,r⟩:=h4;⟨o,k J (by simp) o ho,r⟩),(let⟨o,ho,r⟩:=h5;⟨o,k L (by simp) o ho,r⟩)⟩
 item:=by
  intro X hP hw hK hc i pins s σ H E I Y st hg;subst hP hw hK;obtain⟨oa,ob,h1,h2,h3,h4,h5⟩:=st;obtain⟨xs,ys,x,y,aa,ab,hx,hy⟩:=hg;obtain⟨aj,ae,p1,am⟩:=I.tuple aa;obtain⟨ak,af,p2,an⟩:=I.tuple ab;obtain⟨u1,ao,ap⟩:=ae.get hx;obtain⟨u2,aq,ar⟩:=af.get hy;have fr:H s.heap.objs.size=none:=I.hok.fresh (Q00 _);refine Ed D h1 h2 h3 h4 h5 p1 p2 (x:=u1) (y:=u2) (by simpa using ao) (by simpa using aq) λh' q1 q2 q3 q4 q5 q7=>?_;refine⟨_,rfl,wpAny_letOwnedTupleGo_zip (s:={ s with heap:=h' }) q1 λac g1 g2=>?_⟩
  have au:∀b∈[z,TI,TO,J,L],b<s.heap.objs.size:=λb U=>by
   have U:b=z\/b=TI\/b=TO\/b=J\/b=L:=by simpa using U
   rcases U with rfl|rfl|rfl|rfl|rfl
   . exact Q03 h1
   . exact Q03 h2
   . exact Q03 h3
   . obtain⟨o,q,_⟩:=h4;exact Q03 q
   . obtain⟨o,q,_⟩:=h5;exact Q03 q
  have av:∀b o,s.heap.get? b=some o->b≠s.heap.objs.size:=λb o q=>Q0c (Q03 q);have kk:∀b o,b≠z->b≠TO->b≠J->b≠L->s.heap.get? b=some o->ac.get? b=some o:=λb o n1 n2 n3 n4 q=>g2.extBut b o n1 (q7 b o n1 n2 n3 n4 q);have kn:∀b o,b ∉ [z,TO,J,L]->s.heap.get? b=some o->ac.get? b=some o:=λb o n q=>kk b o (λy=>n (by simp[y])) (λy=>n (by simp[y])) (λy=>n (by simp[y])) (λy=>n (by simp[y])) q;have tup:ac.get? s.heap.objs.size=some { cls:=.type "tuple",data:=.seq #[u1,u2] }:=g2.extBut _ _ (Q0d (Q03 h1)) q5
  have I1:Inv X pins σ (upd H s.heap.objs.size (.tup [x,y])) { s with heap:=ac }:=by
   refine I.step (g':=s.gens) (d':=s.drawn) (t':=s.toks) (ch:=[z,TO,J,L]) (λb U=>?_) (λb o _ _ hc q _=>kn b o hc q) (λb o _ _ hc q _=>⟨o.slots,kn b o hc q⟩) (λb o _ q n=>?_) (λb o hc q=>⟨o,kn b o hc q⟩) (λb ws q=>?_) (λb o v q=>?_) (λb ps q=>?_) (λm hm=>?_) (λb o q=>?_) I.bare
   . have ag:b∈[z,TI,TO,J,L]:=by
      have U:b=z\/b=TO\/b=J\/b=L:=by simpa using U
      rcases U with rfl|rfl|rfl|rfl <;> simp
     obtain⟨f0,f1,f2,f3,f4,f5⟩:=Y b ag;exact⟨f3,f1,f4,f5⟩
   . rw[dh (av b o q)];exact n
   . rw[dh (dN q fr)];exact q
   . rw[dh (dN q fr)];exact q
   . exact⟨#[],by rw[dh (dN q fr),q];simp⟩
   . obtain⟨o,es,ep,ho,r⟩:=hm;exact⟨o,es,ep,kk _ o (Ne.symm (Y z (by simp)).2.1) (Ne.symm (Y TO (by simp)).2.1) (Ne.symm (Y J (by simp)).2.1) (Ne.symm (Y L (by simp)).2.1) ho,r⟩
   . by_cases U:b=s.heap.objs.size
     . subst U;rw[de] at q;cases q;exact⟨by show 2<=sizeLine;decide,[u1,u2],.cons ap (.cons ar .nil),⟨_,tup,rfl,_,rfl⟩⟩
     . rw[dh U] at q
       have nn:∀c v,H c=some v->c ∉ [z,TO,J,L]:=λc v e hm=>by
        have aw:c∈[z,TI,TO,J,L]:=by
         have hm:c=z\/c=TO\/c=J\/c=L:=by simpa using hm
         rcases hm with rfl|rfl|rfl|rfl <;> simp
        have:=(Y c aw).1;rw[e] at this;cases this
       refine(I.hok b o q).stay (λc v ah y=>kn c v ?_ y) (λc y=>by rw[dh (dN y fr)];exact y) λc ws y=>by rw[dh (dN y fr)];exact y
       rcases ah with y|y
       . rw[y];exact nn b o q
       . exact nn c _ y
  refine⟨.ref s.heap.objs.size,_,I1,rfl,⟨s.heap.objs.size,x,y,fr,rfl,λws hw=>by rw[I.pJ hw aa];exact hx,λws hw=>by rw[I.pJ hw ab];exact hy,rfl⟩,⟨u1,u2,g1,?_,?_,?_,?_⟩,λb U=>?_⟩
  . exact kk TI _ D.TIz D.TITO D.TIi1 D.TIi2 h2
  . exact g2.extBut _ _ D.TOz q2
  . exact gS q3 g2.extBut D.i1z
  . exact gS q4 g2.extBut D.i2z
  . rw[dh (Q0c (au b U))];exact(Y b U).1
 done:=by
  intro X hP hw hK hc i pins s σ H E I Y st hg;subst hP hw hK;obtain⟨oa,ob,h1,h2,h3,h4,h5⟩:=st;obtain⟨xs,ys,aa,ab,al⟩:=hg;obtain⟨aj,ae,p1,am⟩:=I.tuple aa;obtain⟨ak,af,p2,an⟩:=I.tuple ab;have e1:=ae.length;have e2:=af.length
  refine Ee (I.ok.hd hc) D h1 h2 h3 h4 h5 p1 p2 (by
   rcases al with q|q
   . exact .inl (by simp;omega)
   . exact .inr (by simp;omega)) λh' hk=>⟨rfl,?_⟩
  refine I.step (g':=s.gens) (d':=s.drawn) (t':=s.toks) (ch:=[z,TO,J,L]) (λb U=>?_) (λb o _ _ hc q _=>?_) (λb o _ _ hc q _=>?_) (λb o _ q n=>n) (λb o hc q=>?_) (λb ys q=>q) (λb o v q=>q) (λb ps q=>⟨#[],by rw[q];simp⟩) (λm hm=>?_) (λb o q=>?_) I.bare
  . have ag:b∈[z,TI,TO,J,L]:=by
     have U:b=z\/b=TO\/b=J\/b=L:=by simpa using U
     rcases U with rfl|rfl|rfl|rfl <;> simp
    obtain⟨f0,f1,f2,f3,f4,f5⟩:=Y b ag;exact⟨f3,f1,f4,f5⟩
  . exact hk b o (λy=>hc (by simp[y])) (λy=>hc (by simp[y])) (λy=>hc (by simp[y])) (λy=>hc (by simp[y])) q
  . exact⟨o.slots,hk b o (λy=>hc (by simp[y])) (λy=>hc (by simp[y])) (λy=>hc (by simp[y])) (λy=>hc (by simp[y])) q⟩
  . exact⟨o,hk b o (λy=>hc (by simp[y])) (λy=>hc (by simp[y])) (λy=>hc (by simp[y])) (λy=>hc (by simp[y])) q⟩
  . obtain⟨o,es,ep,ho,r⟩:=hm;exact⟨o,es,ep,hk _ o (Ne.symm (Y z (by simp)).2.1) (Ne.symm (Y TO (by simp)).2.1) (Ne.symm (Y J (by simp)).2.1) (Ne.symm (Y L (by simp)).2.1) ho,r⟩
  . have nn:∀c v,H c=some v->∀y∈[z,TI,TO,J,L],c≠y:=λc v e y hy=>dN e (Y y hy).1;refine(I.hok b o q).stay (λc v ah y=>hk c v ?_ ?_ ?_ ?_ y) (λ_ y=>y) λ_ _ y=>y <;> (rcases ah with y|y)
    all_goals first
     |(rw[y];exact nn b o q _ (by simp))
     |exact nn c _ y _ (by simp)
 self:=λA i s Q E st q=>by
  obtain⟨oa,ob,h1,_⟩:=st;exact wpAny_pyIter_zip h1 q
def Ej (K:W.Frag) (ta:TA):TI:=λσ H R=>ta σ H λvs H1=>∃a b,vs=[.ref a,.ref b]/\(∃xs,c8 K H1 a xs)/\(∃ys,c8 K H1 b ys)/\R (yt K a b) H1
section
variable {X:Cx}
theorem El {aa:List Expr}{k:Nat}{tpos:Pos}{a b:Expr}{ta:TA}{p pos:Pos}(hg:Gl X "zip")(hm:X.mg "zip"=none)(ha:PA X [a,b] ta)(hs:starEach [a,b] X.env=[(false,eval a X.env),(false,eval b X.env)]:=by rfl)
 (Y:starEach [b] X.env=[(false,eval b X.env)]:=by rfl):PI X (.Tuple aa k tpos) (.Call (.Name "zip" p) [a,b] [] pos) (Ej X.K ta):=by
 intro pins s σ H R I h;refine Call_ (iZ I hg hm boot_zip (PyProof.Rows.callWith_type1 (dH (ha pos pins s σ H _ I h) λus J zq=>?_) (by rw[hs,Y]) (by rw[Y];rfl)));obtain⟨vs,H1,U,r1,q1⟩:=zq;obtain⟨l1,l2,e,⟨xs,ab⟩,⟨ys,ac⟩,q⟩:=q1;subst e;obtain⟨u1,u2,rfl,ae,af⟩:=vals2 r1
 cases ae
 cases af;obtain⟨ag,ai,p1,aj⟩:=U.tuple ab;obtain⟨ah,ak,p2,al⟩:=U.tuple ac;have a1:l1<J.heap.objs.size:=by obtain⟨_,e,_⟩:=p1;exact Q03 e
 have a2:l2<J.heap.objs.size:=by obtain⟨_,e,_⟩:=p2;exact Q03 e
 refine Eg p1 p2 λh' q1 q2 q3 q4 q5 q7=>?_;refine wpAny_pyIter_zip q1 ?_;have I2:Inv X pins σ H1 { J with heap:=h' }:=U.kept (t':=J.toks) q7
 have Dz:ZipApart (J.heap.objs.size+4) (J.heap.objs.size+2) (J.heap.objs.size+3) J.heap.objs.size (J.heap.objs.size+1) l1 l2:=by
  have b1:@LT.lt Nat _ l1 J.heap.objs.size:=a1;have b2:@LT.lt Nat _ l2 J.heap.objs.size:=a2;constructor <;> (intro z;have z':(_:Nat)=_:=z;omega)
 refine⟨J.heap.objs.size+4,[J.heap.objs.size+4,J.heap.objs.size+2,J.heap.objs.size+3,J.heap.objs.size,J.heap.objs.size+1],_,_,H1,rfl,I2,Eh Dz,⟨.none,.none,q1,q2,q3,q4,q5⟩,λb L=>?_,q⟩
 have L:J.heap.objs.size<=b:=by
  have L:b=J.heap.objs.size+4\/b=J.heap.objs.size+2\/b=J.heap.objs.size+3\/b=J.heap.objs.size\/b=J.heap.objs.size+1:=by simpa using L
  rcases L with z|z|z|z|z <;> rw[z]
  . exact Q0q _ _
  . exact Q0q _ _
  . exact Q0q _ _
  . exact Q00 _
  . exact Q0q _ _
 exact U.i3 L (U.hok.fresh L)
end
end L2
namespace Pb
open L2 PyProof.Rows
theorem fw {H H1:Hp}{p:Addr}(s:Same H H1)(h:H1 p=none):H p=none:=by
 cases e:H p with
 |none=>rfl
 |some o=>rw[s _ _ e] at h;cases h
theorem jB {H:Hp}{v:V}{xs:Ds}{fp:List Addr}(h:Own H v (.lst xs) fp):∃t vs f,v=.ref t/\H t=some (.lst vs)/\df H vs xs f:=by
 unfold Own at h;obtain⟨t,vs,f,e,J,_,L⟩:=h;exact⟨t,vs,f,e,J,L⟩
theorem kN {H:Hp}{v:V}{m:Ds}{fp:List Addr}(h:Own H v (.dct m) fp):∃t kvs f,v=.ref t/\H t=some (.dK kvs)/\dv H kvs m f:=by
 unfold Own at h;obtain⟨t,vs,f,e,J,_,L⟩:=h;exact⟨t,vs,f,e,J,L⟩
theorem iw {H:Hp}{v:V}{x:Str}{fp:List Addr}(h:Own H v (.str x) fp):v=.str x:=by unfold Own at h;exact h.1
theorem jc {H:Hp}{v:V}{i:Int}{fp:List Addr}(h:Own H v (.int i) fp):v=.int i:=by unfold Own at h;exact h.1
mutual
theorem Own.jd {H:Hp}:∀{v:V}(d d':D) {f f':List Addr},Own H v d f->Own H v d' f'->d.dep=d'.dep
 |v,.int z,d',f,f',h,h'=>by
  have e:=jc h;subst e
  cases d' with
  |int z'=>rfl
  |str x=>have:=iw h';cases this
  |tup xs=>unfold Own at h';obtain⟨a,vs,e,_⟩:=h';cases e
  |lst xs=>obtain⟨a,vs,f,e,_⟩:=jB h';cases e
  |dct m=>obtain⟨a,vs,f,e,_⟩:=kN h';cases e
 |v,.str x,d',f,f',h,h'=>by
  have e:=iw h;subst e
  cases d' with
  |int z'=>have:=jc h';cases this
  |str x=>rfl
  |tup xs=>unfold Own at h';obtain⟨a,vs,e,_⟩:=h';cases e
  |lst xs=>obtain⟨a,vs,f,e,_⟩:=jB h';cases e
  |dct m=>obtain⟨a,vs,f,e,_⟩:=kN h';cases e
 |v,.tup xs,d',f,f',h,h'=>by
  unfold Own at h;obtain⟨a,vs,rfl,U,h⟩:=h
  cases d' with
  |int z'=>have:=jc h';cases this
  |str x=>have:=iw h';cases this
  |tup ys=>
   unfold Own at h';obtain⟨Y,L,e,J,h'⟩:=h'
   cases e;rw[U] at J;cases J;have:=df.jd xs ys h h';simp only[D.dep];omega
  |lst ys=>obtain⟨Y,L,f,e,J,_⟩:=jB h';cases e;rw[U] at J;cases J
  |dct m=>obtain⟨Y,L,f,e,J,_⟩:=kN h';cases e;rw[U] at J;cases J
 |v,.lst xs,d',f,f',h,h'=>by
  obtain⟨a,vs,f,rfl,U,h⟩:=jB h
  cases d' with
  |int z'=>have:=jc h';cases this
  |str x=>have:=iw h';cases this
  |tup ys=>unfold Own at h';obtain⟨Y,L,e,J,_⟩:=h';cases e;rw[U] at J;cases J
  |lst ys=>
   obtain⟨Y,L,f,e,J,h'⟩:=jB h'
   cases e;rw[U] at J;cases J;have:=df.jd xs ys h h';simp only[D.dep];omega
  |dct m=>obtain⟨Y,L,f,e,J,_⟩:=kN h';cases e;rw[U] at J;cases J
 |v,.dct m,d',f,f',h,h'=>by
  obtain⟨a,vs,f,rfl,U,h⟩:=kN h
  cases d' with
  |int z'=>have:=jc h';cases this
  |str x=>have:=iw h';cases this
  |tup ys=>unfold Own at h';obtain⟨Y,L,e,J,_⟩:=h';cases e;rw[U] at J;cases J
  |lst ys=>obtain⟨Y,L,f,e,J,h'⟩:=jB h';cases e;rw[U] at J;cases J
  |dct m'=>
   obtain⟨Y,L,f,e,J,h'⟩:=kN h'
   cases e;rw[U] at J;cases J;have:=dv.jd m m' h h';simp only[D.dep];omega
theorem df.jd {H:Hp}:∀{vs:List V}(xs ys:Ds) {f J:List Addr},df H vs xs f->df H vs ys J->xs.dep=ys.dep
 |vs,.nil,ys,f,J,h,h'=>by
  unfold df at h
  cases ys with
  |nil=>rfl
  |cons y d r=>unfold df at h';obtain⟨v,q,Y,f2,e,_⟩:=h';rw[h.1] at e;cases e
 |vs,.cons x d r,ys,f,J,h,h'=>by
  unfold df at h;obtain⟨v,q,Y,f2,rfl,rfl,h1,h2⟩:=h
  cases ys with
  |nil=>unfold df at h';cases h'.1
  |cons y d' r'=>
   unfold df at h';obtain⟨v',q',aa,ab,e,rfl,L,U⟩:=h'
   cases e;have a1:=Own.jd d d' h1 L;have a2:=df.jd r r' h2 U;simp only[Ds.dep];omega
theorem dv.jd {H:Hp}:∀{vs:List (Key × V)}(xs ys:Ds) {f J:List Addr},dv H vs xs f->dv H vs ys J->xs.dep=ys.dep
 |vs,.nil,ys,f,J,h,h'=>by
  unfold dv at h
  cases ys with
  |nil=>rfl
  |cons y d r=>unfold dv at h';obtain⟨v,q,Y,f2,e,_⟩:=h';rw[h.1] at e;cases e
 |vs,.cons x d r,ys,f,J,h,h'=>by
  unfold dv at h;obtain⟨v,q,Y,f2,rfl,rfl,h1,h2⟩:=h
  cases ys with
  |nil=>unfold dv at h';cases h'.1
  |cons y d' r'=>
   unfold dv at h';obtain⟨v',q',aa,ab,e,rfl,L,U⟩:=h'
   cases e;have a1:=Own.jd d d' h1 L;have a2:=dv.jd r r' h2 U;simp only[Ds.dep];omega
end
mutual
theorem Own.in {H:Hp}{b:Addr}:∀{v:V}(d:D) {f:List Addr},Own H v d f->b∈f->∃d' L,Own H (.ref b) d' L/\d'.dep<=d.dep
 |v,.int z,f,h,J=>by unfold Own at h;rw[h.2] at J;cases J
 |v,.str z,f,h,J=>by unfold Own at h;rw[h.2] at J;cases J
 |v,.tup xs,f,h,J=>by
  unfold Own at h;obtain⟨a,vs,rfl,Y,h⟩:=h;obtain⟨d',L,h1,h2⟩:=df.in xs h J;exact⟨d',L,h1,by simp only[D.dep];omega⟩
 |v,.lst xs,f,h,J=>by
  have U:=h;unfold Own at h;obtain⟨a,vs,fq,rfl,Y,rfl,h⟩:=h;rcases List.mem_cons.mp J with rfl|J
  . exact⟨_,_,U,Q00 _⟩
  obtain⟨d',L,h1,h2⟩:=df.in xs h J;exact⟨d',L,h1,by simp only[D.dep];omega⟩
 |v,.dct m,f,h,J=>by
  have U:=h;unfold Own at h;obtain⟨a,vs,fq,rfl,Y,rfl,h⟩:=h;rcases List.mem_cons.mp J with rfl|J
  . exact⟨_,_,U,Q00 _⟩
  obtain⟨d',L,h1,h2⟩:=dv.in m h J;exact⟨d',L,h1,by simp only[D.dep];omega⟩
theorem df.in {H:Hp}{b:Addr}:∀{vs:List V}(xs:Ds) {f:List Addr},df H vs xs f->b∈f->∃d' L,Own H (.ref b) d' L/\d'.dep<=xs.dep
 |vs,.nil,f,h,J=>by unfold df at h;rw[h.2] at J;cases J
 |vs,.cons x d r,f,h,J=>by
  unfold df at h;obtain⟨v,q,f1,f2,rfl,rfl,h1,h2⟩:=h;rcases List.mem_append.mp J with J|J
  . obtain⟨d',L,U,Y⟩:=Own.in d h1 J;exact⟨d',L,U,by simp only[Ds.dep];omega⟩
  . obtain⟨d',L,U,Y⟩:=df.in r h2 J;exact⟨d',L,U,by simp only[Ds.dep];omega⟩
theorem dv.in {H:Hp}{b:Addr}:∀{vs:List (Key × V)}(xs:Ds) {f:List Addr},dv H vs xs f->b∈f->∃d' L,Own H (.ref b) d' L/\d'.dep<=xs.dep
 |vs,.nil,f,h,J=>by unfold dv at h;rw[h.2] at J;cases J
 |vs,.cons x d r,f,h,J=>by
  unfold dv at h;obtain⟨v,q,f1,f2,rfl,rfl,h1,h2⟩:=h;rcases List.mem_append.mp J with J|J
  . obtain⟨d',L,U,Y⟩:=Own.in d h1 J;exact⟨d',L,U,by simp only[Ds.dep];omega⟩
  . obtain⟨d',L,U,Y⟩:=dv.in r h2 J;exact⟨d',L,U,by simp only[Ds.dep];omega⟩
end
theorem dv.yu {H:Hp}{b:Addr}{kvs:List (Key × V)}{m:Ds}{f:List Addr}(J:H b=some (.dK kvs))(h:dv H kvs m f):b ∉ f:=λz=>by
 obtain⟨d',U,h1,h2⟩:=dv.in m h z;have L:Own H (.ref b) (.dct m) (b::f):=by unfold Own;exact⟨b,kvs,f,rfl,J,rfl,h⟩
 have:=Own.jd _ _ h1 L;simp only[D.dep] at this;omega
theorem Ds.get_mem:∀{m:Ds}{x:Str},x∈m.names->∃d,m.get x=some d
 | .nil,x,h=>by cases h
 | .cons y d r,x,h=>by
   show ∃d',(if x=y then some d else r.get x)=some d';by_cases e:x=y
   . exact⟨d,by rw[if_pos e]⟩
   . rw[if_neg e];rcases List.mem_cons.mp h with z|z
     . exact absurd z e
     . exact Ds.get_mem z
theorem dv.kO {H:Hp}{kvs:List (Key × V)}{m:Ds}{f:List Addr}{i:Nat}{p:Key × V}(h:dv H kvs m f)(e:kvs[i]? =some p):∃x,p.1=Sum.inr x/\m.names[i]? =some x:=by
 have k:=h.keys m;have:(kvs.map (·.1))[i]? =some p.1:=by rw[Q0p,e];rfl
 rw[k,Q0p] at this
 cases J:m.names[i]? with
 |none=>rw[J] at this;cases this
 |some x=>rw[J] at this;exact⟨x,(Option.some.inj this).symm,rfl⟩
theorem qO (i:Nat):(List.replicate i true).all id=true:=by
 rw[Q18];intro x J;rw[Q30 J];rfl
def kP (n:Nat):Sp:=λvs H Q _=>∃v u d J L,vs=[v,u]/\Own H v d J/\Own H u d L/\(∀c∈L,c ∉ J)/\d.dep<=n/\d.Sm/\∀H',Same H H'->Q (.bl true) H'
variable {P:Program}{w:World}{K:W.Frag}{mg:Str->Option Value}{base:Heap}
theorem Em:d5 XM XM (dD (top 42)):=eL
theorem En (n:Nat)(T:Tb mg)(J:Dn K mg "_law_same" kH (top 42) Y aa)(L:c_ P w K mg base da (n+1) Y aa kH (kP n)):c_ P w K mg base da ((n+1)+1) Y aa kH (kP (n+1)):=by
 refine J.F.ok Em λvs H Q E h=>?_;obtain⟨v,u,d,f1,f2,rfl,hv,ab,ae,ah,ai,q⟩:=h;refine⟨rfl,λau A outer s nd hr hu=>?_⟩
 cases d with
 |int i=>
  cases jc hv
  cases jc ab;refine⟨_,(c9 (dA (eO (dG d8 (by rfl) T.d_ boot_isinstance (a_ (pv 1) (a_ (d4 (v:=.ty "dict") rfl T.gJ boot_dict rfl) b_)))) (c9 dZ
  (dc dZ)) dz)
  (c9 (dA (PW.pt (gG (eO (dG d8 (by rfl) T.d_ boot_isinstance (a_ (pv 1) (a_ (d4 (v:=.ty "list") rfl T.gB boot_list rfl) b_)))) (gN (eO (dG d8 (by rfl) T.d_ boot_isinstance (a_ (pv 1) (a_ (d4 (v:=.ty "tuple") rfl T.gC boot_tuple rfl) b_))))))) (c9 dZ
  (dc dZ)) dz)
  (c9 (dA (eO (dG d8 (by rfl) T.d_ boot_isinstance (a_ (pv 1) (a_ (d4 (v:=.ty "str") rfl T.mI boot_str rfl) b_)))) (dc (dk (ib (dG d8 (by rfl) T.d_ boot_isinstance (a_ (pv 0) (a_ (d4 (v:=.ty "str") rfl T.mI boot_str rfl) b_))) (ia (gZ dX (pv 0) (pv 1) (di _)))))) dz)
  (dc (dk (ib (dG d8 (by rfl) T.d_ boot_isinstance (a_ (pv 0) (a_ (d4 (v:=.ty "int") rfl T.qD boot_int rfl) b_))) (ib (vW (dG d8 (by rfl) T.d_ boot_isinstance (a_ (pv 0) (a_ (d4 (v:=.ty "bool") rfl T.qE boot_bool rfl) b_)))) (ia (gZ dX (pv 0) (pv 1) (di _)))))))))),?_⟩
  refine⟨_,rfl,_,_,_,false,rfl,.int i,rfl,false,rfl,dy ?_⟩;refine⟨_,rfl,_,_,_,false,rfl,.int i,rfl,false,rfl,dy ?_⟩;refine⟨_,rfl,_,_,_,false,rfl,.int i,rfl,false,rfl,dy ?_⟩;refine⟨_,rfl,_,_,_,false,rfl,.int i,rfl,false,rfl,dy ?_⟩;refine⟨_,rfl,_,_,_,true,rfl,.int i,rfl,true,rfl,dM ?_⟩;refine⟨_,rfl,_,_,_,false,rfl,.int i,rfl,false,rfl,true,rfl,dM ?_⟩;refine⟨_,rfl,_,rfl,rfl,?_⟩;rw[decide_eq_true rfl];exact q _ (Same.refl _)
 |str x=>
  cases iw hv
  cases iw ab;refine⟨_,(c9 (dA (eO (dG d8 (by rfl) T.d_ boot_isinstance (a_ (pv 1) (a_ (d4 (v:=.ty "dict") rfl T.gJ boot_dict rfl) b_)))) (c9 dZ
  (dc dZ)) dz)
  (c9 (dA (PW.pt (gG (eO (dG d8 (by rfl) T.d_ boot_isinstance (a_ (pv 1) (a_ (d4 (v:=.ty "list") rfl T.gB boot_list rfl) b_)))) (gN (eO (dG d8 (by rfl) T.d_ boot_isinstance (a_ (pv 1) (a_ (d4 (v:=.ty "tuple") rfl T.gC boot_tuple rfl) b_))))))) (c9 dZ
  (dc dZ)) dz)
  (c9 (dA (eO (dG d8 (by rfl) T.d_ boot_isinstance (a_ (pv 1) (a_ (d4 (v:=.ty "str") rfl T.mI boot_str rfl) b_)))) (dc (dk (ib (dG d8 (by rfl) T.d_ boot_isinstance (a_ (pv 0) (a_ (d4 (v:=.ty "str") rfl T.mI boot_str rfl) b_))) (ia (gZ dX (pv 0) (pv 1) (di _)))))) dz)
  (dc (dk (ib (dG d8 (by rfl) T.d_ boot_isinstance (a_ (pv 0) (a_ (d4 (v:=.ty "int") rfl T.qD boot_int rfl) b_))) (ib (vW (dG d8 (by rfl) T.d_ boot_isinstance (a_ (pv 0) (a_ (d4 (v:=.ty "bool") rfl T.qE boot_bool rfl) b_)))) (ia (gZ dX (pv 0) (pv 1) (di _)))))))))),?_⟩
  refine⟨_,rfl,_,_,_,false,rfl,.str x,rfl,false,rfl,dy ?_⟩;refine⟨_,rfl,_,_,_,false,rfl,.str x,rfl,false,rfl,dy ?_⟩;refine⟨_,rfl,_,_,_,false,rfl,.str x,rfl,false,rfl,dy ?_⟩;refine⟨_,rfl,_,_,_,true,rfl,.str x,rfl,true,rfl,dM ?_⟩;refine⟨_,rfl,_,_,_,true,rfl,.str x,rfl,true,rfl,dM ?_⟩;refine⟨_,rfl,_,rfl,rfl,?_⟩;rw[decide_eq_true rfl];exact q _ (Same.refl _)
 |tup ds=>
  unfold Own at hv ab;obtain⟨a,xs,rfl,ha,hx⟩:=hv;obtain⟨b,ys,rfl,hb,hy⟩:=ab;have hl:xs.length=ys.length:=by rw[hx.len,hy.len]
  have U:=ai;unfold D.Sm at U;have ag:xs.length<=100:=by rw[hx.len];exact U.1
  refine⟨_,(c9 (dA (eO (dG d8 (by rfl) T.d_ boot_isinstance (a_ (pv 1) (a_ (d4 (v:=.ty "dict") rfl T.gJ boot_dict rfl) b_)))) (c9 dZ
  (dc dZ)) dz)
  (c9 (dA (PW.pt (gG (eO (dG d8 (by rfl) T.d_ boot_isinstance (a_ (pv 1) (a_ (d4 (v:=.ty "list") rfl T.gB boot_list rfl) b_)))) (gN (eO (dG d8 (by rfl) T.d_ boot_isinstance (a_ (pv 1) (a_ (d4 (v:=.ty "tuple") rfl T.gC boot_tuple rfl) b_))))))) (c9 (dA (PW.pt (gG (dw ij (dG d8 (by rfl) T.d_ boot_isinstance (a_ (pv 0) (a_ (d4 (v:=.ty "list") rfl T.gB boot_list rfl) b_))) (dG d8 (by rfl) T.d_ boot_isinstance (a_ (pv 1) (a_ (d4 (v:=.ty "list") rfl T.gB boot_list rfl) b_))) (di _)) (gN (dw ij (dG d8 (by rfl) T.d_ boot_isinstance (a_ (pv 0) (a_ (d4 (v:=.ty "tuple") rfl T.gC boot_tuple rfl) b_))) (dG d8 (by rfl) T.d_ boot_isinstance (a_ (pv 1) (a_ (d4 (v:=.ty "tuple") rfl T.gC boot_tuple rfl) b_))) (di _))))) (dc (dk nF)) dz)
  (dc (dk (ib (gZ dX (dG fC (by rfl) T.fv PySem.boot_len (a_ (pv 0) b_)) (dG fC (by rfl) T.fv PySem.boot_len (a_ (pv 1) b_)) (di _)) (ia (dG (mr rfl) (by rfl) T.mG boot_all (a_ (gH (g:=(mh K 2 (jk (dU 0) (jk (dU 1) me)))) (tt:=fE) (te:=(fT _ _ _ (dJ (dE 0) (dJ (dE 1) fc)))) (own:=["_law_a","_law_b"]) rfl (fN (N:=XM) (sc:=dD (top 42))) (El rfl T.qC (a_ (pv 0) (a_ (pv 1) b_))) (λ_ _ _ _ _=>(ie rfl (fy (en (i:=0) (show(XR:List Str).Nodup by decide +kernel) rfl (Or.inl rfl) (.inr rfl)) (fy (en (i:=1) (show(XR:List Str).Nodup by decide +kernel) rfl (Or.inl rfl) (.inr rfl)) ic)))) (λ_ _ _ _ _=>gc) (λ_ _ _ _ _=>(dq L hr J (a_ (pv 0) (a_ (pv 1) b_))))) b_))))))) dz)
  (c9 dZ
  (dc dZ)))),?_⟩
  refine⟨_,rfl,_,_,_,false,rfl,.tup hb,rfl,false,rfl,dy ?_⟩;refine⟨_,rfl,_,_,_,false,rfl,.tup hb,rfl,false,rfl,dy ?_⟩;refine⟨_,rfl,_,_,_,true,rfl,.tup hb,rfl,true,rfl,dM ?_⟩;refine⟨_,rfl,_,_,_,false,rfl,.tup ha,rfl,_,rfl,_,_,_,false,rfl,.tup hb,rfl,rfl,_,rfl,dy ?_⟩;refine⟨_,rfl,_,_,_,true,rfl,.tup ha,rfl,_,rfl,_,_,_,true,rfl,.tup hb,rfl,rfl,_,rfl,dy ?_⟩;refine⟨_,rfl,a,_,rfl,.inr (c8.of ha),_,rfl,b,_,rfl,.inr (c8.of hb),rfl,_,rfl,?_⟩;refine eF (λ_=>?_) (λc=>absurd (decide_eq_true (show V.int (xs.length:Nat)=V.int (ys.length:Nat) by rw[hl])) c);refine⟨_,rfl,_,rfl,a,b,rfl,⟨_,c8.of ha⟩,⟨_,c8.of hb⟩,λi m zs H'=>m=xs.length - i/\i<=xs.length/\zs=(List.replicate i true).map V.bl/\Same H H',⟨xs.length,rfl,Q06 _,rfl,Same.refl _⟩,?_⟩;rintro i m zs H' ⟨rfl,ak,rfl,s2⟩;by_cases hi:i<xs.length
  . have aj:i<ys.length:=by omega
    refine .inr ⟨⟨xs,ys,xs[i],ys[i],c8.of (s2 _ _ ha),c8.of (s2 _ _ hb),Q05 hi,Q05 aj⟩,by rw[Q09,Q1c];exact fX (by omega),λx ac y=>?_⟩;obtain⟨p,x1,x2,hp,rfl,e1,e2,rfl⟩:=y;obtain⟨d1,g1,q1,o1,i1⟩:=hx.get ds (e1 _ (c8.of (s2 _ _ ha)));obtain⟨d2,g2,q2,o2,i2⟩:=hy.get ds (e2 _ (c8.of (s2 _ _ hb)))
    cases q1.symm.trans q2;have sa:=s2.trans (Same.new hp (o:=.tup [x1,x2]));refine⟨p,_,rfl,c8.of de,rfl,_,_,rfl,_,_,rfl,rfl,rfl,L2.yes (dM ?_)⟩;refine⟨_,rfl,_,rfl,x1,x2,d1,g1,g2,rfl,o1.same sa,o2.same sa,λc h2 h1=>ae c (i2 c h2) (i1 c h1),?_,?_,λH3 s4=>?_⟩
    . have:=Ds.i9 q1;simp only[D.dep] at ah;omega
    . exact Ds.jz U.2 q1
    refine⟨xs.length - (i+1),by omega,rfl,hi,?_,sa.trans s4⟩;rw[List.replicate_succ',Q0k];rfl
  . refine .inl ⟨⟨xs,ys,c8.of (s2 _ _ ha),c8.of (s2 _ _ hb),.inl (Q1e hi)⟩,λp hp=>⟨p,List.replicate i true,rfl,dg.of de,?_⟩⟩;rw[qO];exact q _ (s2.trans (Same.new hp))
 |lst ds=>
  unfold Own at hv ab;obtain⟨a,xs,f1,rfl,ha,rfl,hx⟩:=hv;obtain⟨b,ys,f2,rfl,hb,rfl,hy⟩:=ab;have hl:xs.length=ys.length:=by rw[hx.len,hy.len]
  have U:=ai;unfold D.Sm at U;have ag:xs.length<=100:=by rw[hx.len];exact U.1
  refine⟨_,(c9 (dA (eO (dG d8 (by rfl) T.d_ boot_isinstance (a_ (pv 1) (a_ (d4 (v:=.ty "dict") rfl T.gJ boot_dict rfl) b_)))) (c9 dZ
  (dc dZ)) dz)
  (c9 (dA (PW.pt (gG (eO (dG d8 (by rfl) T.d_ boot_isinstance (a_ (pv 1) (a_ (d4 (v:=.ty "list") rfl T.gB boot_list rfl) b_)))) (gN (eO (dG d8 (by rfl) T.d_ boot_isinstance (a_ (pv 1) (a_ (d4 (v:=.ty "tuple") rfl T.gC boot_tuple rfl) b_))))))) (c9 (dA (PW.pt (gG (dw ij (dG d8 (by rfl) T.d_ boot_isinstance (a_ (pv 0) (a_ (d4 (v:=.ty "list") rfl T.gB boot_list rfl) b_))) (dG d8 (by rfl) T.d_ boot_isinstance (a_ (pv 1) (a_ (d4 (v:=.ty "list") rfl T.gB boot_list rfl) b_))) (di _)) (gN (dw ij (dG d8 (by rfl) T.d_ boot_isinstance (a_ (pv 0) (a_ (d4 (v:=.ty "tuple") rfl T.gC boot_tuple rfl) b_))) (dG d8 (by rfl) T.d_ boot_isinstance (a_ (pv 1) (a_ (d4 (v:=.ty "tuple") rfl T.gC boot_tuple rfl) b_))) (di _))))) (dc (dk nF)) dz)
  (dc (dk (ib (gZ dX (dG fC (by rfl) T.fv PySem.boot_len (a_ (pv 0) b_)) (dG fC (by rfl) T.fv PySem.boot_len (a_ (pv 1) b_)) (di _)) (ia (dG (mr rfl) (by rfl) T.mG boot_all (a_ (gH (g:=(mh K 2 (jk (dU 0) (jk (dU 1) me)))) (tt:=fE) (te:=(fT _ _ _ (dJ (dE 0) (dJ (dE 1) fc)))) (own:=["_law_a","_law_b"]) rfl (fN (N:=XM) (sc:=dD (top 42))) (CI rfl T.qC (a_ (pv 0) (a_ (pv 1) b_))) (λ_ _ _ _ _=>(ie rfl (fy (en (i:=0) (show(XR:List Str).Nodup by decide +kernel) rfl (Or.inl rfl) (.inr rfl)) (fy (en (i:=1) (show(XR:List Str).Nodup by decide +kernel) rfl (Or.inl rfl) (.inr rfl)) ic)))) (λ_ _ _ _ _=>gc) (λ_ _ _ _ _=>(dq L hr J (a_ (pv 0) (a_ (pv 1) b_))))) b_))))))) dz)
  (c9 dZ
  (dc dZ)))),?_⟩
  refine⟨_,rfl,_,_,_,false,rfl,.lst hb,rfl,false,rfl,dy ?_⟩;refine⟨_,rfl,_,_,_,true,rfl,.lst hb,rfl,true,rfl,dM ?_⟩;refine⟨_,rfl,_,_,_,true,rfl,.lst ha,rfl,_,rfl,_,_,_,true,rfl,.lst hb,rfl,rfl,_,rfl,dy ?_⟩;refine⟨_,rfl,_,_,_,false,rfl,.lst ha,rfl,_,rfl,_,_,_,false,rfl,.lst hb,rfl,rfl,_,rfl,dy ?_⟩;refine⟨_,rfl,a,_,rfl,.inl (dg.of ha),_,rfl,b,_,rfl,.inl (dg.of hb),rfl,_,rfl,?_⟩;refine eF (λ_=>?_) (λc=>absurd (decide_eq_true (show V.int (xs.length:Nat)=V.int (ys.length:Nat) by rw[hl])) c);refine⟨_,rfl,_,rfl,a,b,rfl,⟨_,dg.of ha⟩,⟨_,dg.of hb⟩,λi m zs H'=>m=xs.length - i/\i<=xs.length/\zs=(List.replicate i true).map V.bl/\Same H H',⟨xs.length,rfl,Q06 _,rfl,Same.refl _⟩,?_⟩;rintro i m zs H' ⟨rfl,ak,rfl,s2⟩;by_cases hi:i<xs.length
  . have aj:i<ys.length:=by omega
    refine .inr ⟨⟨xs,ys,xs[i],ys[i],dg.of (s2 _ _ ha),dg.of (s2 _ _ hb),Q05 hi,Q05 aj⟩,by rw[Q09,Q1c];exact fX (by omega),λx ac y=>?_⟩;obtain⟨p,x1,x2,hp,rfl,e1,e2,rfl⟩:=y;obtain⟨d1,g1,q1,o1,i1⟩:=hx.get ds (e1 _ (dg.of (s2 _ _ ha)));obtain⟨d2,g2,q2,o2,i2⟩:=hy.get ds (e2 _ (dg.of (s2 _ _ hb)))
    cases q1.symm.trans q2;have sa:=s2.trans (Same.new hp (o:=.tup [x1,x2]));refine⟨p,_,rfl,c8.of de,rfl,_,_,rfl,_,_,rfl,rfl,rfl,L2.yes (dM ?_)⟩;refine⟨_,rfl,_,rfl,x1,x2,d1,g1,g2,rfl,o1.same sa,o2.same sa,λc h2 h1=>ae c (Q04 _ (i2 c h2)) (Q04 _ (i1 c h1)),?_,?_,λH3 s4=>?_⟩
    . have:=Ds.i9 q1;simp only[D.dep] at ah;omega
    . exact Ds.jz U.2 q1
    refine⟨xs.length - (i+1),by omega,rfl,hi,?_,sa.trans s4⟩;rw[List.replicate_succ',Q0k];rfl
  . refine .inl ⟨⟨xs,ys,dg.of (s2 _ _ ha),dg.of (s2 _ _ hb),.inl (Q1e hi)⟩,λp hp=>⟨p,List.replicate i true,rfl,dg.of de,?_⟩⟩;rw[qO];exact q _ (s2.trans (Same.new hp))
 |dct md=>
  unfold Own at hv ab;obtain⟨a,ka,f1,rfl,ha,rfl,hx⟩:=hv;obtain⟨b,kb,f2,rfl,hb,rfl,hy⟩:=ab;have al:b ∉ f2:=hy.yu hb;have am:a≠b:=λz=>ae b Q0a (by rw[z];exact Q0a);have hl:ka.length=kb.length:=by rw[hx.len,hy.len]
  have U:=ai;unfold D.Sm at U;have ag:kb.length<=100:=by rw[hy.len,kL];exact U.1
  refine⟨_,(c9 (dA (eO (dG d8 (by rfl) T.d_ boot_isinstance (a_ (pv 1) (a_ (d4 (v:=.ty "dict") rfl T.gJ boot_dict rfl) b_)))) (c9 (dA (PW.pt (gG (jI (eO (dG d8 (by rfl) T.d_ boot_isinstance (a_ (pv 0) (a_ (d4 (v:=.ty "dict") rfl T.gJ boot_dict rfl) b_))))) (gN (dw ij (dG qb (by rfl) T.fv PySem.boot_len (a_ (pv 0) b_)) (dG qb (by rfl) T.fv PySem.boot_len (a_ (pv 1) b_)) (di _))))) (dc (dk nF)) dz)
  (dc (dk (dG (mr rfl) (by rfl) T.mG boot_all (a_ (xT rfl (gH (g:=(dU 0)) (tt:=fE) (te:=(pH _ (fT _ _ _ (dJ (jR (dE 1) (dE 0)) (dJ (jR (dE 2) (dE 0)) fc))))) (own:=["_law_name"]) rfl (fN (N:=XM) (sc:=dD (top 42))) (xS rfl (pv 1)) (λ_ _ _ _ _=>(en (i:=0) (show(["_law_name","_law_found","_law_due"]:List Str).Nodup by decide +kernel) rfl (Or.inl rfl) (.inr rfl))) (λ_ _ _ _ _=>gc) (λ_ _ _ _ _=>(ib (vS (p_ hu (pv 0) (pv 1)) (by with_unfolding_all rfl)) (ia (dq L hr J (a_ (fH hu (pv 1) (pv 0) (λ_ _=>rfl)) (a_ (fH hu (pv 2) (pv 0) (λ_ _=>rfl)) b_)))))))) b_))))) dz)
  (c9 dZ
  (c9 dZ
  (dc dZ)))),?_⟩
  refine⟨_,rfl,_,_,_,true,rfl,.dK hb,rfl,true,rfl,dM ?_⟩;refine⟨_,rfl,_,_,_,true,rfl,.dK ha,rfl,true,rfl,dy ?_⟩;refine⟨_,rfl,a,_,rfl,ha,_,rfl,b,_,rfl,hb,rfl,_,rfl,?_⟩;refine wU (show V.int (ka.length:Nat)=V.int (kb.length:Nat) by rw[hl]) ?_;refine⟨_,rfl,b,_,rfl,hb,λo hz=>?_⟩;have kf:∀c u,c≠b->H c=some u->upd H b (.e8 o (.dK kb)) c=some u:=λc u hc e=>by rw[dh hc];exact e
  have tf:Tu H (upd H b (.e8 o (.dK kb))):=Tu.wr λxs z=>by rw[hb] at z;cases z
  refine⟨λi m zs H'=>m=kb.length - i/\i<=kb.length/\zs=(List.replicate i true).map V.bl/\Same (upd H b (.e8 o (.dK kb))) H',⟨kb.length,rfl,Q06 _,rfl,Same.refl _⟩,?_⟩;rintro i m zs H' ⟨rfl,ak,rfl,s2⟩;have af:=s2 _ _ (de (H:=H) (a:=b) (o:=.e8 o (.dK kb)));by_cases hi:i<kb.length
  . refine .inr ⟨⟨hi,af⟩,by rw[Q09,Q1c];exact fX (by omega),λx ac y=>?_⟩;obtain⟨rfl,pr,an,rfl⟩:=y;obtain⟨x,ex,ao⟩:=hy.kO an;obtain⟨d1,hg⟩:=Ds.get_mem (Q0w ao);obtain⟨v1,g1,ap,o1,i1⟩:=hx.val md hg;obtain⟨v2,g2,aq,o2,i2⟩:=hy.val md hg;rw[ex]
    have ga:eU ac a (.str x) (some v1):=by
     have:=eU.k (k:=Sum.inr x) (s2 _ _ (kf _ _ am ha));rw[ap] at this;exact this
    have gb:eU ac b (.str x) (some v2):=.inl ⟨_,Sum.inr x,.inr ⟨_,af⟩,rfl,by rw[aq]⟩;have k1:Own ac v1 d1 g1:=(o1.keep tf d1 λc hc u e=>kf _ _ (λz=>ae b Q0a (by rw[<-z];exact Q04 _ (i1 c hc))) e).same s2;have k2:Own ac v2 d1 g2:=(o2.keep tf d1 λc hc u e=>kf _ _ (λz=>al (by rw[<-z];exact i2 c hc)) e).same s2;refine⟨rfl,L2.yes (dM ?_)⟩;refine⟨_,rfl,_,rfl,a,_,rfl,ga,true,rfl,dM ?_⟩;refine⟨_,rfl,_,rfl,a,_,rfl,ga,_,rfl,_,rfl,b,_,rfl,gb,v1,v2,d1,g1,g2,rfl,k1,k2,λc h2 h1=>ae c (Q04 _ (i2 c h2)) (Q04 _ (i1 c h1)),?_,?_,λH3 s4=>?_⟩
    . have:=Ds.jV hg;simp only[D.dep] at ah;omega
    . exact Ds.oQ U.2 hg
    refine⟨kb.length - (i+1),by omega,rfl,hi,?_,s2.trans s4⟩;rw[List.replicate_succ',Q0k];rfl
  . refine .inl ⟨⟨by omega,af⟩,λp hp=>?_⟩;have s5:=Same.new hp (o:=.lst ((List.replicate i true).map V.bl));refine⟨b,o,_,hz,s5 _ _ af,?_⟩;have ar:p≠b:=λz=>by rw[z,af] at hp;cases hp
    refine⟨p,List.replicate i true,rfl,dg.of (by rw[dh ar,de]),?_⟩;rw[qO];refine q _ λc u e=>?_;by_cases hc:c=b
    . subst hc;rw[de,<-hb];exact e
    . rw[dh hc];exact s5 _ _ (s2 _ _ (kf _ _ hc e))
theorem yw (T:Tb mg)(J:Dn K mg "_law_same" kH (top 42) L U):∀n:Nat,c_ P w K mg base da (n+1) L U kH (kP n)
 |0=>by
  have Y:∀vs H Q E,¬kP 0 vs H Q E:=λvs H Q E ⟨_,_,d,_,_,_,_,_,_,hd,_⟩=>absurd d.gI (by omega);exact⟨λvs H Q E h=>absurd h (Y vs H Q E),λA outer s H args us vs Q E _ _ _ _ h=>absurd h (Y vs H Q E)⟩
 |n+1=>En n T J (yw T J n)
end Pb
namespace Pb
open L2
def yx (J:It) (H:Hp) (xs:List V):Prop:=(∀i x,xs[i]? =some x->J.go i H)/\(∀i x H',J.jl i H x H'->H'=H/\xs[i]? =some x)/\J.stop xs.length H
theorem Eo {J:It}{xs:List V}{g:TG}{tb:TS}{D:Ends}{σ:St}{H:Hp}(Pv:Nat->St->Hp->Prop)(h0:Pv 0 σ H)(hl:∀i σ H,i<=xs.length->Pv i σ H->yx J H xs)
 (hs:∀i x σ H,xs[i]? =some x->Pv i σ H->g x σ H λU H2=>tb { D with nx:=Pv (i+1),ct:=Pv (i+1),bk:=D.nx } U H2) (hd:∀σ H,Pv xs.length σ H->D.nx σ H):
 ∃W:Nat->Nat->St->Hp->Prop,(∃m,W 0 m σ H)/\∀i m σ H,W i m σ H->
  (J.stop i H/\D.nx σ H)\/(J.go i H/\∃N:St->Hp->Prop,(∀Y H',N Y H'->∃m',m'<m/\W (i+1) m' Y H')/\∀x H',J.jl i H x H'->g x σ H' λU H2=>tb { D with nx:=N,ct:=N,bk:=D.nx } U H2):=by
 refine⟨λi m σ H=>m=xs.length - i/\i<=xs.length/\Pv i σ H,⟨xs.length,rfl,Q06 _,h0⟩,?_⟩;rintro i m σ H ⟨rfl,hi,p⟩;have q:=hl i σ H hi p;by_cases L:i<xs.length
 . refine .inr ⟨q.1 i _ (Q05 L),Pv (i+1),λY H' p'=>⟨_,Nat.sub_succ_lt_self _ _ L,rfl,L,p'⟩,λx H' y=>?_⟩;obtain⟨rfl,hx⟩:=q.2.1 _ _ _ y;exact hs i x σ _ hx p
 . cases Nat.le_antisymm hi (Q1e L);exact .inl ⟨q.2.2,hd _ _ p⟩
end Pb
namespace Pb
open L2 PyProof.Rows
mutual
def D.Nd:D->Prop
 | .int _=>True
 | .str _=>True
 | .tup xs=>xs.Nd
 | .lst xs=>xs.Nd
 | .dct m=>m.names.Nodup/\m.Nd
def Ds.Nd:Ds->Prop
 | .nil=>True
 | .cons _ d r=>d.Nd/\r.Nd
end
theorem Ds.oW:∀{xs:Ds}{i:Nat}{d:D},xs.Nd->xs.at i=some d->d.Nd
 | .nil,i,d,_,h=>by cases i <;> cases h
 | .cons _ d r,0,_,w,h=>by unfold Ds.Nd at w;cases h;exact w.1
 | .cons _ d r,i+1,_,w,h=>by unfold Ds.Nd at w;exact Ds.oW (xs:=r) (i:=i) w.2 h
theorem Ds.iR:∀{m:Ds}{i:Nat}{x:Str},m.names[i]? =some x->∃d,m.at i=some d
 | .nil,i,d,h=>by cases i <;> cases h
 | .cons x c r,0,d,h=>⟨c,rfl⟩
 | .cons x c r,i+1,d,h=>Ds.iR (m:=r) (i:=i) h
theorem Ds.name_at:∀{m:Ds}{i:Nat}{d:D},m.at i=some d->∃x,m.names[i]? =some x
 | .nil,i,d,h=>by cases i <;> cases h
 | .cons x c r,0,d,h=>⟨x,rfl⟩
 | .cons x c r,i+1,d,h=>Ds.name_at (m:=r) (i:=i) h
theorem Ds.jv:∀{m:Ds}{i:Nat}{x:Str}{d:D},m.names.Nodup->m.names[i]? =some x->m.at i=some d->m.get x=some d
 | .nil,i,x,d,_,h,_=>by cases i <;> cases h
 | .cons y c r,0,x,d,_,h,e=>by
   have J:y=x:=Option.some.inj h;have L:c=d:=Option.some.inj e;subst J L;exact if_pos rfl
 | .cons y c r,i+1,x,d,nd,h,e=>by
   have nd:(y::r.names).Nodup:=nd;obtain⟨U,Y⟩:=List.nodup_cons.mp nd;have h:r.names[i]? =some x:=h;show(if x=y then _ else r.get x)=_;rw[if_neg λz=>U (by rw[<-z];exact Q0w h)];exact Ds.jv Y h e
noncomputable def Ds.take:Ds->Nat->Ds
 | .nil,_=>.nil
 | .cons _ _ _,0=>.nil
 | .cons x d r,i+1=>.cons x d (r.take i)
theorem Ds.take_zero (m:Ds):m.take 0=.nil:=by cases m <;> rfl
theorem Ds.take_snoc:∀{m:Ds}{i:Nat}{x:Str}{d:D},m.names[i]? =some x->m.at i=some d->m.take (i+1)=(m.take i).snoc x d
 | .nil,i,x,d,h,_=>by cases i <;> cases h
 | .cons y c r,0,x,d,h,e=>by
   cases h;cases e;show Ds.cons _ _ (r.take 0)=Ds.nil.snoc _ _;rw[Ds.take_zero];rfl
 | .cons y c r,i+1,x,d,h,e=>by
   have h:r.names[i]? =some x:=h;have e:r.at i=some d:=e;show Ds.cons y c (r.take (i+1))=Ds.cons y c ((r.take i).snoc x d);rw[Ds.take_snoc (m:=r) (i:=i) h e]
theorem Ds.take_all:∀(m:Ds),m.take m.names.length=m
 | .nil=>rfl
 | .cons x d r=>by show Ds.cons x d (r.take r.names.length)=_;rw[Ds.take_all r]
theorem Ds.qP:∀(m:Ds) (i:Nat),(m.take i).names=m.names.take i
 | .nil,i=>by cases i <;> rfl
 | .cons x d r,0=>rfl
 | .cons x d r,i+1=>by show x::(r.take i).names=x::r.names.take i;rw[Ds.qP r i]
theorem Ep {a:Addr}{o:Obj}{kvs:List (Key × V)}{H:Hp}(h:H a=some (.e8 o (.dK kvs))):yx (qA a o kvs) H (kvs.map λp=>kV p.1):=by
 refine⟨λi x e=>⟨?_,h⟩,λi x H' y=>?_,?_⟩
 . obtain⟨hi,_⟩:=List.getElem?_eq_some_iff.mp e;rw[Q09] at hi;exact hi
 . obtain⟨rfl,p,hp,rfl⟩:=y;exact⟨rfl,by rw[Q0p,hp];rfl⟩
 . exact⟨by rw[Q09];exact Q00 _,h⟩
def mS (n:Nat):Sp:=λvs H Q _=>∃v d fp,vs=[v]/\Own H v d fp/\d.dep<=n/\d.Sm/\d.Nd/\∀L J H',Same H H'->Own H' L d J->(∀c∈J,H c=none)->Q L H'
variable {P:Program}{w:World}{K:W.Frag}{mg:Str->Option Value}{base:Heap}
theorem Er:d5 XJ ["_law_thing"] (dD (top 43)):=eL
theorem Es (n:Nat)(T:Tb mg)(J:Dn K mg "_law_twin" kI (top 43) aa ab)(L:c_ P w K mg base da (n+1) aa ab kI (mS n)):c_ P w K mg base da ((n+1)+1) aa ab kI (mS (n+1)):=by
 refine J.F.ok Er λvs H Q E h=>?_;obtain⟨v,d,fp,rfl,hv,ao,ap,aq,fin⟩:=h;refine⟨rfl,λaN A outer s nd hr hu=>?_⟩
 cases d with
 |int i=>
  cases jc hv;refine⟨_,(c9 (dA (eO (dG d8 (by rfl) T.d_ boot_isinstance (a_ (pv 0) (a_ (d4 (v:=.ty "list") rfl T.gB boot_list rfl) b_)))) (dc (dk (gH (g:=(dU 0)) (tt:=fE) (te:=(fT _ _ _ (dJ (dE 0) fc))) (own:=["_law_part"]) rfl (fN (N:=XJ) (sc:=dD (top 43))) (jK (pv 0)) (λ_ _ _ _ _=>(en (i:=0) (show(XN:List Str).Nodup by decide +kernel) rfl (Or.inl rfl) (.inr rfl))) (λ_ _ _ _ _=>gc) (λ_ _ _ _ _=>(dq L hr J (a_ (pv 0) b_)))))) dz)
  (c9 (dA (eO (dG d8 (by rfl) T.d_ boot_isinstance (a_ (pv 0) (a_ (d4 (v:=.ty "tuple") rfl T.gC boot_tuple rfl) b_)))) (dc dZ) dz)
  (c9 (dA (eO (dG d8 (by rfl) T.d_ boot_isinstance (a_ (pv 0) (a_ (d4 (v:=.ty "dict") rfl T.gJ boot_dict rfl) b_)))) (c9 dZ
  (c9 dZ
  (dc dZ))) dz)
  (dc (dk (pv 0)))))),?_⟩
  refine⟨_,rfl,_,_,_,false,rfl,.int i,rfl,false,rfl,dy ?_⟩;refine⟨_,rfl,_,_,_,false,rfl,.int i,rfl,false,rfl,dy ?_⟩;refine⟨_,rfl,_,_,_,false,rfl,.int i,rfl,false,rfl,dy ?_⟩;exact⟨_,rfl,fin _ [] _ (Same.refl _) (by unfold Own;exact⟨rfl,rfl⟩) λc hc=>(nomatch hc)⟩
 |str x=>
  cases iw hv;refine⟨_,(c9 (dA (eO (dG d8 (by rfl) T.d_ boot_isinstance (a_ (pv 0) (a_ (d4 (v:=.ty "list") rfl T.gB boot_list rfl) b_)))) (dc (dk (gH (g:=(dU 0)) (tt:=fE) (te:=(fT _ _ _ (dJ (dE 0) fc))) (own:=["_law_part"]) rfl (fN (N:=XJ) (sc:=dD (top 43))) (jK (pv 0)) (λ_ _ _ _ _=>(en (i:=0) (show(XN:List Str).Nodup by decide +kernel) rfl (Or.inl rfl) (.inr rfl))) (λ_ _ _ _ _=>gc) (λ_ _ _ _ _=>(dq L hr J (a_ (pv 0) b_)))))) dz)
  (c9 (dA (eO (dG d8 (by rfl) T.d_ boot_isinstance (a_ (pv 0) (a_ (d4 (v:=.ty "tuple") rfl T.gC boot_tuple rfl) b_)))) (dc dZ) dz)
  (c9 (dA (eO (dG d8 (by rfl) T.d_ boot_isinstance (a_ (pv 0) (a_ (d4 (v:=.ty "dict") rfl T.gJ boot_dict rfl) b_)))) (c9 dZ
  (c9 dZ
  (dc dZ))) dz)
  (dc (dk (pv 0)))))),?_⟩
  refine⟨_,rfl,_,_,_,false,rfl,.str x,rfl,false,rfl,dy ?_⟩;refine⟨_,rfl,_,_,_,false,rfl,.str x,rfl,false,rfl,dy ?_⟩;refine⟨_,rfl,_,_,_,false,rfl,.str x,rfl,false,rfl,dy ?_⟩;exact⟨_,rfl,fin _ [] _ (Same.refl _) (by unfold Own;exact⟨rfl,rfl⟩) λc hc=>(nomatch hc)⟩
 |lst xs=>
  unfold Own at hv;obtain⟨a,vs,fq,rfl,ha,rfl,hx⟩:=hv;have ae:=hx.len;have U:=ap;unfold D.Sm at U;have Y:=aq;unfold D.Nd at Y;have aB:vs.length<=100:=by rw[ae];exact U.1
  refine⟨_,(c9 (dA (eO (dG d8 (by rfl) T.d_ boot_isinstance (a_ (pv 0) (a_ (d4 (v:=.ty "list") rfl T.gB boot_list rfl) b_)))) (dc (dk (gH (g:=(dU 0)) (tt:=fE) (te:=(fT _ _ _ (dJ (dE 0) fc))) (own:=["_law_part"]) rfl (fN (N:=XJ) (sc:=dD (top 43))) (jK (pv 0)) (λ_ _ _ _ _=>(en (i:=0) (show(XN:List Str).Nodup by decide +kernel) rfl (Or.inl rfl) (.inr rfl))) (λ_ _ _ _ _=>gc) (λ_ _ _ _ _=>(dq L hr J (a_ (pv 0) b_)))))) dz)
  (c9 (dA (eO (dG d8 (by rfl) T.d_ boot_isinstance (a_ (pv 0) (a_ (d4 (v:=.ty "tuple") rfl T.gC boot_tuple rfl) b_)))) (dc dZ) dz)
  (c9 (dA (eO (dG d8 (by rfl) T.d_ boot_isinstance (a_ (pv 0) (a_ (d4 (v:=.ty "dict") rfl T.gJ boot_dict rfl) b_)))) (c9 dZ
  (c9 dZ
  (dc dZ))) dz)
  (dc (dk (pv 0)))))),?_⟩
  refine⟨_,rfl,_,_,_,true,rfl,.lst ha,rfl,true,rfl,dM ?_⟩;refine⟨_,rfl,a,rfl,⟨_,dg.of ha⟩,λi m' zs H'=>m'=vs.length - i/\i<=vs.length/\Same H H'/\∃g,df H' zs (xs.take i) g/\zs.length=i/\∀c∈g,H c=none,⟨vs.length,rfl,Q06 _,Same.refl _,[],by rw[Ds.take_zero];unfold df;exact⟨rfl,rfl⟩,rfl,λc hc=>(nomatch hc)⟩,?_⟩;intro i m' zs H' zq;obtain⟨rfl,aD,s2,g,hO,ag,ac⟩:=zq;by_cases hi:i<vs.length
  . refine .inr ⟨⟨_,_,dg.of (s2 _ _ ha),Q05 hi⟩,by rw[ag];exact fX (by omega),λx aE y=>?_⟩;obtain⟨rfl,y⟩:=y;obtain⟨d1,g1,q1,o1,i1⟩:=hx.get xs (y _ (dg.of (s2 _ _ ha)));obtain⟨y,ar⟩:=Ds.name_at q1;refine⟨rfl,L2.yes (dM ?_)⟩;refine⟨_,rfl,x,d1,g1,rfl,o1.same s2,?_,Ds.jz U.2 q1,Ds.oW Y q1,λv7 f7 H7 s7 ah af=>?_⟩
    . have:=Ds.i9 q1;simp only[D.dep] at ao;omega
    refine⟨vs.length - (i+1),by omega,rfl,hi,s2.trans s7,g++f7,?_,by rw[Q08,ag];rfl,λc hc=>?_⟩
    . rw[Ds.take_snoc ar q1];exact df.snoc ah _ (hO.same s7)
    . rcases List.mem_append.mp hc with hc|hc
      . exact ac c hc
      . exact fw s2 (af c hc)
  . have ei:i=vs.length:=by omega
    subst ei
    have et:xs.take vs.length=xs:=by
     have:=Ds.take_all xs;rw[kL,<-ae] at this;exact this
    rw[et] at hO;refine .inl ⟨⟨_,dg.of (s2 _ _ ha),Q00 _⟩,λp hp=>?_⟩;have s3:=Same.new hp (o:=.lst zs);refine fin _ (p::g) _ (s2.trans s3) ?_ λc hc=>?_
    . unfold Own;exact⟨p,_,g,rfl,de,rfl,hO.same s3⟩
    . rcases List.mem_cons.mp hc with rfl|hc
      . exact fw s2 hp
      . exact ac c hc
 |tup xs=>
  unfold Own at hv;obtain⟨a,vs,rfl,ha,hx⟩:=hv;have ae:=hx.len;have U:=ap;unfold D.Sm at U;have Y:=aq;unfold D.Nd at Y;have aB:vs.length<=100:=by rw[ae];exact U.1
  refine⟨_,(c9 (dA (eO (dG d8 (by rfl) T.d_ boot_isinstance (a_ (pv 0) (a_ (d4 (v:=.ty "list") rfl T.gB boot_list rfl) b_)))) (dc dZ) dz)
  (c9 (dA (eO (dG d8 (by rfl) T.d_ boot_isinstance (a_ (pv 0) (a_ (d4 (v:=.ty "tuple") rfl T.gC boot_tuple rfl) b_)))) (dc (dk (jP wD (by rfl) T.gC boot_tuple (a_ (gH (g:=(dU 0)) (tt:=fE) (te:=(fT _ _ _ (dJ (dE 0) fc))) (own:=["_law_part"]) rfl (fN (N:=XJ) (sc:=dD (top 43))) (km (pv 0)) (λ_ _ _ _ _=>(en (i:=0) (show(XN:List Str).Nodup by decide +kernel) rfl (Or.inl rfl) (.inr rfl))) (λ_ _ _ _ _=>gc) (λ_ _ _ _ _=>(dq L hr J (a_ (pv 0) b_)))) b_)))) dz)
  (c9 (dA (eO (dG d8 (by rfl) T.d_ boot_isinstance (a_ (pv 0) (a_ (d4 (v:=.ty "dict") rfl T.gJ boot_dict rfl) b_)))) (c9 dZ
  (c9 dZ
  (dc dZ))) dz)
  (dc dZ)))),?_⟩
  refine⟨_,rfl,_,_,_,false,rfl,.tup ha,rfl,false,rfl,dy ?_⟩;refine⟨_,rfl,_,_,_,true,rfl,.tup ha,rfl,true,rfl,dM ?_⟩;refine⟨_,rfl,a,rfl,⟨_,c8.of ha⟩,λi m' zs H'=>m'=vs.length - i/\i<=vs.length/\Same H H'/\∃g,df H' zs (xs.take i) g/\zs.length=i/\∀c∈g,H c=none,⟨vs.length,rfl,Q06 _,Same.refl _,[],by rw[Ds.take_zero];unfold df;exact⟨rfl,rfl⟩,rfl,λc hc=>(nomatch hc)⟩,?_⟩;intro i m' zs H' zq;obtain⟨rfl,aD,s2,g,hO,ag,ac⟩:=zq;by_cases hi:i<vs.length
  . refine .inr ⟨⟨_,_,c8.of (s2 _ _ ha),Q05 hi⟩,by rw[ag];exact fX (by omega),λx aE y=>?_⟩;obtain⟨rfl,y⟩:=y;obtain⟨d1,g1,q1,o1,i1⟩:=hx.get xs (y _ (c8.of (s2 _ _ ha)));obtain⟨y,ar⟩:=Ds.name_at q1;refine⟨rfl,L2.yes (dM ?_)⟩;refine⟨_,rfl,x,d1,g1,rfl,o1.same s2,?_,Ds.jz U.2 q1,Ds.oW Y q1,λv7 f7 H7 s7 ah af=>?_⟩
    . have:=Ds.i9 q1;simp only[D.dep] at ao;omega
    refine⟨vs.length - (i+1),by omega,rfl,hi,s2.trans s7,g++f7,?_,by rw[Q08,ag];rfl,λc hc=>?_⟩
    . rw[Ds.take_snoc ar q1];exact df.snoc ah _ (hO.same s7)
    . rcases List.mem_append.mp hc with hc|hc
      . exact ac c hc
      . exact fw s2 (af c hc)
  . have ei:i=vs.length:=by omega
    subst ei
    have et:xs.take vs.length=xs:=by
     have:=Ds.take_all xs;rw[kL,<-ae] at this;exact this
    rw[et] at hO;refine .inl ⟨⟨_,c8.of (s2 _ _ ha),Q00 _⟩,λp hp=>?_⟩;have s3:=Same.new hp (o:=.lst zs);refine⟨p,zs,rfl,.inl ⟨dg.of de,λl hl=>?_⟩⟩;have s4:=Same.new hl (o:=.tup zs);refine fin _ g _ ((s2.trans s3).trans s4) ?_ ac;unfold Own;exact⟨l,zs,rfl,de,(hO.same s3).same s4⟩
 |dct m=>
  unfold Own at hv;obtain⟨b,kb,fq,rfl,hb,rfl,hy⟩:=hv;have aG:b ∉ fq:=hy.yu hb;have U:=ap;unfold D.Sm at U;have Y:=aq;unfold D.Nd at Y;have ax:=Y.1;have ay:kb.length=m.names.length:=hy.len;have aO:m.names.length<=100:=by rw[kL];exact U.1
  refine⟨_,(c9 (dA (eO (dG d8 (by rfl) T.d_ boot_isinstance (a_ (pv 0) (a_ (d4 (v:=.ty "list") rfl T.gB boot_list rfl) b_)))) (dc dZ) dz)
  (c9 (dA (eO (dG d8 (by rfl) T.d_ boot_isinstance (a_ (pv 0) (a_ (d4 (v:=.ty "tuple") rfl T.gC boot_tuple rfl) b_)))) (dc dZ) dz)
  (c9 (dA (eO (dG d8 (by rfl) T.d_ boot_isinstance (a_ (pv 0) (a_ (d4 (v:=.ty "dict") rfl T.gJ boot_dict rfl) b_)))) (c9 (dI 1 nd wO)
  (c9 (iP PassesOwn.never rfl (xS rfl (pv 0)) (en (i:=2) nd rfl fk) (dc (n9 hu (pv 1) (pv 2) (dq L hr J (a_ (fH hu (pv 0) (pv 2) (λ_ _=>rfl)) b_)) rfl)))
  (dc (dk (xT rfl (pv 1)))))) dz)
  (dc dZ)))),?_⟩
  refine⟨_,rfl,_,_,_,false,rfl,.dK hb,rfl,false,rfl,dy ?_⟩;refine⟨_,rfl,_,_,_,false,rfl,.dK hb,rfl,false,rfl,dy ?_⟩;refine⟨_,rfl,_,_,_,true,rfl,.dK hb,rfl,true,rfl,dM ?_⟩;intro p hp;have al:b≠p:=dN hb hp;refine⟨_,rfl,b,kb,rfl,by rw[dh al];exact hb,λo hz=>?_⟩;have kf:∀c u,c≠b->H c=some u->upd H b (.e8 o (.dK kb)) c=some u:=λc u hc e=>by rw[dh hc];exact e
  have tf:Tu H (upd H b (.e8 o (.dK kb))):=Tu.wr λxs z=>by rw[hb] at z;cases z
  refine Eo (xs:=kb.map λp=>kV p.1) (λj σ H'=>(Same (upd H b (.e8 o (.dK kb))) H'/\∃kvs fp,H' p=some (.dK kvs)/\dv H' kvs (m.take j) fp/\(∀c∈fp,H c=none)/\p ∉ fp)/\∃y,σ=[some (.ref b),some (.ref p),y]) ?_ ?_ ?_ ?_
  . refine⟨⟨λc u e=>?_,[],[],?_,by rw[Ds.take_zero];unfold dv;exact⟨rfl,rfl⟩,λc hc=>(nomatch hc),λz=>(nomatch z)⟩,_,rfl⟩
    . by_cases hc:c=b
      . subst hc;rw[de] at e ⊢;exact e
      . rw[dh hc] at e ⊢;rw[dh (dN e hp)];exact e
    . rw[dh al.symm,de]
  . rintro j σ H' _ ⟨⟨s2,_⟩,_⟩;exact Ep (s2 _ _ de)
  . rintro j x σ H' hx ⟨⟨s2,kvs,f2,am,hO,ac,au⟩,y0,rfl⟩;have ai:=s2 _ _ (de (H:=H) (a:=b) (o:=.e8 o (.dK kb)));rw[Q0p] at hx
    cases av:kb[j]? with
    |none=>rw[av] at hx;cases hx
    |some pr=>
     rw[av] at hx
     cases hx;obtain⟨x,ex,aj⟩:=hy.kO av;obtain⟨d,ak⟩:=Ds.iR aj;have hg:=Ds.jv ax aj ak;obtain⟨v2,g2,aH,o2,i2⟩:=hy.val m hg;show dU 2 (kV pr.1) _ _ _;rw[ex];have gb:eU H' b (.str x) (some v2):=.inl ⟨_,Sum.inr x,.inr ⟨_,ai⟩,rfl,by rw[aH]⟩;have k2:Own H' v2 d g2:=(o2.keep tf d λc hc u e=>kf _ _ (λz=>aG (by rw[<-z];exact i2 c hc)) e).same s2;have hj:j<m.names.length:=by obtain⟨hj,_⟩:=List.getElem?_eq_some_iff.mp aj;exact hj
     dsimp only[dU];refine⟨_,rfl,_,rfl,b,v2,rfl,gb,v2,d,g2,rfl,k2,?_,Ds.jz U.2 ak,Ds.oW Y.2 ak,λv7 f7 H7 s7 ah af=>?_⟩
     . have:=Ds.i9 ak;simp only[D.dep] at ao;omega
     have an:=s7 _ _ am;have aw:=hO.same s7
     have aC:∀c∈f7,H c=none:=λc hc=>by
      have z:=af c hc;by_cases az:c=b
      . subst az;rw[ai] at z;cases z
      . have z1:=fw s2 z;rw[dh az] at z1;exact z1
     have aA:p ∉ f7:=λz=>by
      have:=af p z;rw[am] at this;cases this
     have aI:x ∉ (m.take j).names:=by
      rw[Ds.qP];intro z;obtain⟨j',aJ,e'⟩:=Q19 z;rw[Q0n] at aJ;rw[Q31] at e';obtain⟨hj,aK⟩:=List.getElem?_eq_some_iff.mp aj;have:=(Q23 ax).mp (e'.trans aK.symm);omega
     have ay:kvs.length<=100:=by
      rw[aw.len,Ds.qP,Q0n];omega
     refine⟨_,rfl,_,rfl,p,_,rfl,jr.k (k:=Sum.inr x) an (fX (by omega)),?_⟩;rw[qy (aw.CZ aI)];have kp:∀c u,c≠p->H7 c=some u->upd H7 p (.dK (kvs++[(Sum.inr x,v7)])) c=some u:=λc u hc e=>by rw[dh hc];exact e
     have tp:Tu H7 (upd H7 p (.dK (kvs++[(Sum.inr x,v7)]))):=Tu.wr λxs z=>by rw[an] at z;cases z
     refine⟨⟨λc u e=>?_,_,f2++f7,de,?_,?_,?_⟩,_,rfl⟩
     . have aL:c≠p:=λz=>by
        rw[z,dh al.symm,hp] at e;cases e
       exact kp _ _ aL (s7 _ _ (s2 _ _ e))
     . rw[Ds.take_snoc aj ak];exact dv.snoc (ah.keep tp _ λc hc u e=>kp _ _ (λz=>aA (by rw[<-z];exact hc)) e) _ (aw.keep tp _ λc hc u e=>kp _ _ (λz=>au (by rw[<-z];exact hc)) e)
     . intro c hc;rcases List.mem_append.mp hc with hc|hc
       . exact ac c hc
       . exact aC c hc
     . intro z;rcases List.mem_append.mp z with z|z
       . exact au z
       . exact aA z
  . rintro σ H' ⟨⟨s2,kvs,f2,am,hO,ac,au⟩,y0,rfl⟩;have ai:=s2 _ _ (de (H:=H) (a:=b) (o:=.e8 o (.dK kb)))
    have et:m.take (kb.map λp=>kV p.1).length=m:=by
     rw[Q09,ay];exact Ds.take_all _
    rw[et] at hO
    have aM:b ∉ f2:=λz=>by
     have:=ac b z;rw[hb] at this;cases this
    refine⟨_,rfl,b,o,kb,hz,ai,?_⟩;have tb:Tu H' (upd H' b (.dK kb)):=Tu.wr λxs z=>by rw[ai] at z;cases z
    refine fin _ (p::f2) _ (λc u e=>?_) ?_ λc hc=>?_
    . by_cases hc:c=b
      . subst hc;rw[de,<-hb];exact e
      . rw[dh hc];exact s2 _ _ (kf _ _ hc e)
    . unfold Own;exact⟨p,kvs,f2,rfl,by rw[dh al.symm];exact am,rfl,hO.keep tb _ λc hc u e=>by rw[dh (λz=>aM (by rw[<-z];exact hc))];exact e⟩
    . rcases List.mem_cons.mp hc with rfl|hc
      . exact hp
      . exact ac c hc
theorem yy (T:Tb mg)(J:Dn K mg "_law_twin" kI (top 43) L U):∀n:Nat,c_ P w K mg base da (n+1) L U kI (mS n)
 |0=>by
  have Y:∀vs H Q E,¬mS 0 vs H Q E:=λvs H Q E ⟨_,d,_,_,_,hd,_⟩=>absurd d.gI (by omega);exact⟨λvs H Q E h=>absurd h (Y vs H Q E),λA outer s H args us vs Q E _ _ _ _ h=>absurd h (Y vs H Q E)⟩
 |n+1=>Es n T J (yy T J n)
noncomputable def Ds.set:Ds->Str->D->Ds
 | .nil,_,_=>.nil
 | .cons y d r,x,e=>if x=y then .cons y e r else .cons y d (r.set x e)
noncomputable def Ds.put:Ds->Nat->D->Ds
 | .nil,_,_=>.nil
 | .cons y _ r,0,e=>.cons y e r
 | .cons y d r,i+1,e=>.cons y d (r.put i e)
noncomputable def fL:Key->D
 | .inl z=>.int z
 | .inr x=>.str x
inductive eR:Kd->D->Str->D->List Key->D->Prop where
 |kQ {k:Kd} {d f:D}:gz k->du k f->eR k d "set" f [] f
 |lM {fs:Fs} {d f:D}:du (.fg fs) f->eR (.fg fs) d "set" f [] f
 |add {key by_:Str} {fs:Fs} {rs:List Ds} {m:Ds}:dB fs m->keyOf m key ∉ rs.map (λr=>keyOf r key)->
   eR (.rows key by_ fs) (.lst (d3 rs)) "add" (.dct m) [] (.lst (d3 (gA key by_ (rs++[m]))))
 |cut {key by_:Str} {fs:Fs} {l1 l2:List Ds} {m:Ds}:eR (.rows key by_ fs) (.lst (d3 (l1++m::l2))) "cut" (fL (keyOf m key)) [] (.lst (d3 (l1++l2)))
 |grow {k:Kd} {x y:Str} {t f:D} {as:Ds}:du (.tree k) f->eR (.tree k) (.tup (.cons x t (.cons y (.lst as) .nil))) "grow" f [] (.tup (.cons x t (.cons y (.lst (as.snoc "" f)) .nil)))
 |trim {k:Kd} {x y z:Str} {t c a:D} {as:Ds}:eR (.tree k) (.tup (.cons x t (.cons y (.lst (as.snoc z c)) .nil))) "trim" a [] (.tup (.cons x t (.cons y (.lst as) .nil)))
 |fld {fs:Fs} {m:Ds} {x deed:Str} {k:Kd} {e a e':D} {p:List Key}:fs.get x=some k->m.get x=some e->eR k e deed a p e'->eR (.eQ fs) (.dct m) deed a (.inr x::p) (.dct (m.set x e'))
 |row {key by_:Str} {fs:Fs} {l1 l2:List Ds} {m:Ds} {x deed:Str} {k:Kd} {e a e':D} {p:List Key}:x≠key->fs.get x=some k->m.get x=some e->eR k e deed a p e'->
   eR (.rows key by_ fs) (.lst (d3 (l1++m::l2))) deed a (keyOf m key:: .inr x::p) (.lst (d3 (gA key by_ (l1++m.set x e'::l2))))
 |knot {k:Kd} {x y deed:Str} {t a t':D} {as:Ds} {p:List Key}:eR k t deed a p t'->eR (.tree k) (.tup (.cons x t (.cons y (.lst as) .nil))) deed a (.inr "knot"::p) (.tup (.cons x t' (.cons y (.lst as) .nil)))
 |arm {k:Kd} {x y deed:Str} {t a c c':D} {as:Ds} {i:Nat} {p:List Key}:as.at i=some c->eR (.tree k) c deed a p c'->eR (.tree k) (.tup (.cons x t (.cons y (.lst as) .nil))) deed a (.inl i::p) (.tup (.cons x t (.cons y (.lst (as.put i c')) .nil)))
 |alt {fs:Fs} {x deed:Str} {k:Kd} {v a v':D} {p:List Key}:fs.get x=some k->eR k v deed a p v'->eR (.fg fs) (pairD (.str x) v) deed a (.inr x::p) (pairD (.str x) v')
theorem Ds.yz:∀{m:Ds}{x z:Str}{e:D},z≠x->(m.set x e).get z=m.get z
 | .nil,_,_,_,_=>rfl
 | .cons y c r,x,z,e,h=>by
   show(if x=y then Ds.cons y e r else .cons y c (r.set x e)).get z=_;by_cases w:x=y
   . rw[if_pos w];show(if z=y then _ else _)=(if z=y then _ else _);rw[if_neg (by rw[<-w];exact h),if_neg (by rw[<-w];exact h)]
   . rw[if_neg w];show(if z=y then _ else(r.set x e).get z)=(if z=y then _ else r.get z);rw[Ds.yz h]
theorem qQ {m:Ds}{x z:Str}{e:D}(h:z≠x):keyOf (m.set x e) z=keyOf m z:=by
 unfold keyOf;rw[Ds.yz h]
theorem dB.set:∀{fs:Fs}{m:Ds}{x:Str}{k:Kd}{e:D},dB fs m->fs.get x=some k->du k e->dB fs (m.set x e)
 | .nil,m,x,k,e,_,h,_=>by cases h
 | .cons y q r,m,x,k,e,f,h,J=>by
   unfold dB at f;obtain⟨d,s,rfl,U,L⟩:=f;have h:(if x=y then some q else r.get x)=some k:=h;show dB _ (if x=y then Ds.cons y e s else .cons y d (s.set x e));by_cases z:x=y
   . rw[if_pos z] at h ⊢
     cases h;unfold dB;exact⟨_,_,rfl,J,L⟩
   . rw[if_neg z] at h ⊢;unfold dB;exact⟨_,_,rfl,U,dB.set L h J⟩
theorem fh.get:∀{fs:Fs}{x:Str}{v:D}{k:Kd},fh fs x v->fs.get x=some k->du k v
 | .nil,x,v,k,h,_=>by unfold fh at h;exact h.elim
 | .cons y q r,x,v,k,h,e=>by
   unfold fh at h;have e:(if x=y then some q else r.get x)=some k:=e;rcases h with⟨z,h⟩|⟨z,h⟩
   . rw[if_pos z] at e;cases e;exact h
   . rw[if_neg z] at e;exact fh.get h e
theorem fh.of:∀{fs:Fs}{x:Str}{v:D}{k:Kd},fs.get x=some k->du k v->fh fs x v
 | .nil,x,v,k,h,_=>by cases h
 | .cons y q r,x,v,k,h,e=>by
   have h:(if x=y then some q else r.get x)=some k:=h;unfold fh;by_cases z:x=y
   . rw[if_pos z] at h;cases h;exact .inl ⟨z,e⟩
   . rw[if_neg z] at h;exact .inr ⟨z,fh.of h e⟩
theorem dR.put {P:D->Prop}:∀{as:Ds}{i:Nat}{c:D},dR P as->Tree P c->dR P (as.put i c)
 | .nil,_,_,h,_=>h
 | .cons y d r,0,c,h,hc=>by unfold dR at h;show dR P (.cons y c r);unfold dR;exact⟨hc,h.2⟩
 | .cons y d r,i+1,c,h,hc=>by unfold dR at h;show dR P (.cons y d (r.put i c));unfold dR;exact⟨h.1,dR.put h.2 hc⟩
theorem dR.snoc {P:D->Prop}{z:Str}{c:D}:∀{as:Ds},dR P as->Tree P c->dR P (as.snoc z c)
 | .nil,h,hc=>by show dR P (.cons z c .nil);unfold dR;exact⟨hc,by unfold dR;trivial⟩
 | .cons y d r,h,hc=>by unfold dR at h;show dR P (.cons y d (r.snoc z c));unfold dR;exact⟨h.1,dR.snoc h.2 hc⟩
theorem dR.lN {P:D->Prop}{z:Str}{c:D}:∀{as:Ds},dR P (as.snoc z c)->dR P as/\Tree P c
 | .nil,h=>by
   have h:dR P (.cons z c .nil):=h;unfold dR at h;exact⟨by unfold dR;trivial,h.1⟩
 | .cons y d r,h=>by
   have h:dR P (.cons y d (r.snoc z c)):=h;unfold dR at h;obtain⟨a,b⟩:=dR.lN h.2;exact⟨by unfold dR;exact⟨h.1,a⟩,b⟩
theorem kT:∀{a b:List Ds},d3 a=d3 b->a=b
 |[],[],_=>rfl
 |[],_::_,h=>by cases h
 |_::_,[],h=>by cases h
 |m::r,n::s,h=>by
  have h:Ds.cons "" (.dct m) (d3 r)=Ds.cons "" (.dct n) (d3 s):=h;injection h with _ h1 h2
  injection h1 with h1
  rw[h1,kT h2]
theorem eR.fit {k:Kd}{d:D}{deed:Str}{a:D}{p:List Key}{d':D}(h:eR k d deed a p d'):du k d->du k d':=by
 induction h with
 |kQ _ f=>exact λ_=>f
 |lM f=>exact λ_=>f
 |@add key by_ fs rs m hm hk=>
  intro h;unfold du at h ⊢;obtain⟨aa,e,h1,h2,h3⟩:=h;injection e with e
  cases kT e;have pm:=iC key by_ (rs++[m])
  have kn:((rs++[m]).map λr=>keyOf r key).Nodup:=by
   rw[Q0k];exact List.nodup_append.mpr ⟨h3,List.nodup_cons.mpr ⟨λz=>(nomatch z),Q1q⟩,λx hx y hy e=>hk (by rw[e,List.mem_singleton.mp hy] at hx;exact hx)⟩
  have L:=(pm.map λr=>keyOf r key).nodup_iff.mpr kn;refine⟨_,rfl,λr hr=>?_,mD (lC key by_ _) L,L⟩;rcases List.mem_append.mp (pm.mem_iff.mp hr) with z|z
  . exact h1 r z
  . rw[List.mem_singleton.mp z];exact hm
 |@cut key by_ fs l1 l2 m=>
  intro h;unfold du at h ⊢;obtain⟨aa,e,h1,h2,h3⟩:=h;injection e with e
  cases kT e;have sub:(l1++l2).Sublist (l1++m::l2):=List.Sublist.append (List.Sublist.refl _) (List.sublist_cons_self _ _);exact⟨_,rfl,λr hr=>h1 r (sub.subset hr),h2.sublist sub,h3.sublist (sub.map _)⟩
 |@grow k x y t f as hf=>
  intro h;unfold du at h hf ⊢;unfold Tree eG at h ⊢;exact⟨h.1,dR.snoc h.2 hf⟩
 |@trim k x y z t c a as=>
  intro h;unfold du at h ⊢;unfold Tree eG at h ⊢;exact⟨h.1,(dR.lN h.2).1⟩
 |@fld fs m x deed k e a e' p Y hm _ U=>
  intro h;unfold du at h ⊢;obtain⟨m',J,f⟩:=h;injection J with J
  cases J;obtain⟨d0,h0,f0⟩:=dB.get f Y;rw[hm] at h0
  cases h0;exact⟨_,rfl,dB.set f Y (U f0)⟩
 |@row key by_ fs l1 l2 m x deed k e a e' p hx Y hm _ U=>
  intro h;unfold du at h ⊢;obtain⟨aa,J,h1,h2,h3⟩:=h;injection J with J
  cases kT J;have fm:=h1 m (Q01 _ Q0a);obtain⟨d0,h0,f0⟩:=dB.get fm Y;rw[hm] at h0
  cases h0;have pm:=iC key by_ (l1++m.set x e'::l2)
  have ek:(l1++m.set x e'::l2).map (λr=>keyOf r key)=(l1++m::l2).map (λr=>keyOf r key):=by
   rw[Q0k,Q0k,Q0o,Q0o,qQ (Ne.symm hx)]
  have L:=(pm.map λr=>keyOf r key).nodup_iff.mpr (by rw[ek];exact h3);refine⟨_,rfl,λr hr=>?_,mD (lC key by_ _) L,L⟩;rcases List.mem_append.mp (pm.mem_iff.mp hr) with z|z
  . exact h1 r (Q0f _ z)
  . rcases List.mem_cons.mp z with z|z
    . rw[z];exact dB.set fm Y (U f0)
    . exact h1 r (Q01 _ (Q04 _ z))
 |@knot k x y deed t a t' as p _ U=>
  intro h;unfold du at h ⊢;unfold Tree eG at h ⊢;exact⟨U h.1,h.2⟩
 |@arm k x y deed t a c c' as i p hi _ U=>
  intro h;unfold du at h U ⊢;unfold Tree eG at h ⊢;exact⟨h.1,dR.put h.2 (U (dR.at h.2 hi))⟩
 |@alt fs x deed k v a v' p Y _ U=>
  intro h;unfold du at h ⊢;obtain⟨x',v0,e,f⟩:=h;injection e with e
  injection e with _ J e2
  injection J with J
  injection e2 with _ e2 _
  subst J e2;exact⟨_,_,rfl,fh.of Y (U (fh.get f Y))⟩
theorem oX (xs:List V)(i:Nat)(h:i<=xs.length):gw xs none (some (i:Int))=xs.take i:=by
 unfold gw;have J:HT.dP xs.length 0 none=0:=rfl
 have L:HT.dP xs.length xs.length (some (i:Int))=i:=by
  unfold HT.dP;simp only;rw[if_neg (by omega)];omega
 rw[J,L];rfl
theorem oY (xs:List V)(i:Nat)(h:i<=xs.length):gw xs (some (i:Int)) none=xs.drop i:=by
 unfold gw
 have J:HT.dP xs.length 0 (some (i:Int))=i:=by
  unfold HT.dP;simp only;rw[if_neg (by omega)];omega
 have L:HT.dP xs.length xs.length none=xs.length:=rfl;rw[J,L,Q34 (by rw[Q16];exact Q00 _)]
def oZ:Sp:=λvs H Q _=>∃l xs v,∃i:Nat,vs=[.ref l,.int i,v]/\H l=some (.lst xs)/\i<xs.length/\xs.length<=100/\∀p H',Same H H'->H p=none->H' p=some (.lst (xs.take i++v::xs.drop (i+1)))->Q (.ref p) H'
theorem Et:d5 Xa Xa (dD (top 23)):=eL
theorem Eu (T:Tb mg)(J:Dn K mg "with_at" jY (top 23) L U):c_ P w K mg base da (1) L U jY (oZ):=by
 refine J.F.ok Et λvs H Q E h=>?_;obtain⟨l,xs,v,i,rfl,hl,hi,af,fin⟩:=h;refine⟨rfl,λag A outer s nd hr hu=>?_⟩;refine⟨_,(dc (dk (dm i6 (dm i6 (g7 jQ (pv 0) g5 (g6 (pv 1))) (fQ (a_ (pv 2) b_))) (g7 jQ (pv 0) (g6 (dm gu (pv 1) cZ)) g5)))),?_⟩
 ac_rfl
 refine⟨_,rfl,_,rfl,i,rfl,l,xs,rfl,dg.of hl,λp1 aa=>?_⟩;rw[oX xs i (by omega)];have s1:=Same.new aa (o:=.lst (xs.take i));have e1:upd H p1 (.lst (xs.take i)) p1=some (.lst (xs.take i)):=de;generalize upd H p1 (.lst (xs.take i))=H1 at s1 e1 ⊢;refine⟨_,rfl,fJ,λp2 ab=>?_⟩;have s2:=Same.new ab (o:=.lst [v]);have e2:upd H1 p2 (.lst [v]) p2=some (.lst [v]):=de;generalize upd H1 p2 (.lst [v])=H2 at s2 e2 ⊢;have hsz:201<=sizeLine:=by decide
 refine⟨p1,p2,_,_,rfl,rfl,s2 _ _ e1,e2,by rw[Q0n];show _+1<=_;omega,λp3 ac=>?_⟩;have s3:=Same.new ac (o:=.lst (xs.take i++[v]));have e3:upd H2 p3 (.lst (xs.take i++[v])) p3=some (.lst (xs.take i++[v])):=de;generalize upd H2 p3 (.lst (xs.take i++[v]))=H3 at s3 e3 ⊢;have sa:=(s1.trans s2).trans s3;refine⟨_,rfl,_,rfl,_,_,rfl,rfl,_,rfl,l,xs,rfl,dg.of (sa _ _ hl),λp4 ae=>?_⟩;have ec:gw xs (some ((i:Int)+1)) none=xs.drop (i+1):=oY xs (i+1) (by omega);rw[ec];have s4:=Same.new ae (o:=.lst (xs.drop (i+1)));have e4:upd H3 p4 (.lst (xs.drop (i+1))) p4=some (.lst (xs.drop (i+1))):=de;generalize upd H3 p4 (.lst (xs.drop (i+1)))=H4 at s4 e4 ⊢;refine⟨p3,p4,_,_,rfl,rfl,s4 _ _ e3,e4,by rw[Q08,Q0n,Q16];show _+1+_<=_;omega,λp5 Y=>?_⟩;refine fin p5 _ ((sa.trans s4).trans (Same.new Y)) (fw (sa.trans s4) Y) ?_;rw[de,Q0r];rfl
theorem o3 {H:Hp}(κ:Key):Own H (kV κ) (fL κ) []:=by
 cases κ <;> (unfold fL Own;exact⟨rfl,rfl⟩)
theorem Ew {k:Kd}{κ:Key}(h:du k (fL κ)):(fL κ).Sm/\(fL κ).dep=1:=by
 cases κ <;> exact⟨by unfold fL D.Sm;trivial,rfl⟩
theorem yA {a b:Key}(h:kV a=kV b):a=b:=by
 cases a <;> cases b <;> cases h <;> rfl
def mT:Sp:=λvs H Q _=>∃L U l xs key by_ fs ws J fl κ Y,vs=[.ref L,.ref l,kV κ]/\H L=some (.tup [.str "rows",.str key,.str by_,.ref U])/\H U=some (.tup xs)/\FA H xs fs/\(Kd.rows key by_ fs).W/\H l=some (.lst ws)/\dS H ws J fl/\(∀m∈J,dB fs m)/\fs.get key=some Y/\du Y (fL κ)/\
 (∀(i:Nat) m H',Same H H'->J[i]? =some m->keyOf m key=κ->Q (.int i) H')/\((∀m∈J,keyOf m key≠κ)->∀H',Same H H'->Q .non H')
theorem Ex:d5 ["kind","rows","key","number","row"] XY (dD (top 22)):=eL
theorem Ey (T:Tb mg)(J:Dn K mg "row_number" hV (top 22) L U)(af:Dn K mg "misfit" fO (top 7) ag ah)(ai:c_ P w K mg base da (7) ag ah fO (iV 1))(aa:Dn K mg "kind_at" iq (top 5) ab ac)(ae:c_ P w K mg base da (1) ab ac iq (lK)):c_ P w K mg base da (8) L U hV (mT):=by
 refine J.F.ok Ex λvs H Q E h=>?_;obtain⟨pk,pb,l,xs,key,by_,fs,ws,rs,fl,κ,kk,rfl,aj,aw,ax,hW,hl,Y,ap,am,an,q1,q2⟩:=h;refine⟨rfl,λaE A outer s nd hr hu=>?_⟩;have ao:=hW;unfold Kd.W at ao;obtain⟨ay,aG,az,aq,aH⟩:=ao;obtain⟨aA,aI⟩:=Ew an
 refine⟨_,(c9 (dA (dw gY (dq ai hr af (a_ (dq ae hr aa (a_ (dj (pv 0) cZ) (a_ (dj (pv 0) cZ) b_))) (a_ (pv 2) b_))) el (di _)) (dc (dk el)) dz)
  (c9 (iP PassesOwn.never rfl (mv rfl T.mH (a_ (pv 1) b_)) (ie rfl (fy (en (i:=3) nd rfl fk) (fy (en (i:=4) nd rfl fk) ic))) (dc (dA (dw dX (fH hu (pv 4) (dj (pv 0) cZ) (λ_ _=>rfl)) (pv 2) (di _)) (dc (dk (pv 3))) dz)))
  (dc (dk el)))),?_⟩
 ac_rfl
 refine⟨_,rfl,pk,_,_,_,rfl,rfl,c8.of aj,rfl,_,rfl,pk,_,_,_,rfl,rfl,c8.of aj,rfl,pb,key,xs,fs,kk,rfl,aw,ax,ay,am,λu aB _=>?_⟩;refine⟨_,rfl,u,_,kk,fL κ,[],rfl,aB,Fs.mP az am,o3 κ,an,by omega,aA,λH1 s1=>?_⟩;refine⟨rfl,_,rfl,?_⟩;rw[decide_eq_true rfl];refine dy ?_;refine⟨_,rfl,l,rfl,⟨_,dg.of (s1 _ _ hl)⟩,mQ (xs:=ws) (λi σ H'=>Same H H'/\(∀j m,j<i->rs[j]? =some m->keyOf m key≠κ)/\∃x y,σ=[some (.ref pk),some (.ref l),some (kV κ),x,y]) ⟨s1,λj m hj=>absurd hj (Q26 _),_,_,rfl⟩ ?_ ?_ ?_⟩
 . rintro i σ H' _ ⟨s2,_⟩;exact dg.of (s2 _ _ hl)
 . rintro i yv σ H' t hy ⟨s2,ak,x0,y0,rfl⟩ ht;have hi:i<ws.length:=(List.getElem?_eq_some_iff.mp hy).1;obtain⟨ar,au⟩:=A3.len Y;have s3:=s2.trans (Same.new ht (o:=.tup [.int i,yv]));have hm:rs[i]? =some (rs[i]'(by omega)):=Q05 (by omega);have av:rs[i]'(by omega)∈rs:=Q14 _;have h:=A3.at (a0:=V.non) (b0:=Ds.nil) (c0:=[]) Y i hi;rw[Q0j,hy,Q0j,hm] at h;unfold Own at h;obtain⟨rr,kvs,fq,e,aC,_,al⟩:=h;have e:yv=.ref rr:=e;subst e;have al:dv H kvs (rs[i]'(by omega)) fq:=al
   have gk:eU (upd H' t (.tup [.int i,.ref rr])) rr (.str key) (some (kV (keyOf (rs[i]'(by omega)) key))):=by
    have:=eU.k (k:=Sum.inr key) (s3 _ _ aC);rw[al.key (ap _ av) aq] at this;exact this
   refine⟨t,_,rfl,c8.of de,rfl,_,_,rfl,_,_,rfl,rfl,?_⟩;refine⟨_,rfl,_,rfl,pk,_,_,_,rfl,rfl,c8.of (s3 _ _ aj),rfl,rr,_,rfl,gk,_,rfl,?_⟩;have pl:∀a b:Key,nQ (kV a) (kV b)=true:=λa b=>by cases a <;> cases b <;> rfl
   refine⟨pl _ _,_,rfl,eF (λc=>?_) (λc=>?_)⟩
   . exact⟨_,rfl,q1 i _ _ s3 hm (yA (of_decide_eq_true c))⟩
   . refine⟨s3,λj m hj e=>?_,_,_,rfl⟩;by_cases aD:j=i
     . subst aD;rw[hm] at e
       cases e;exact λz=>c (decide_eq_true (by rw[z]))
     . exact ak j m (by omega) e
 . rintro σ H' ⟨s2,ak,x0,y0,rfl⟩;refine q2 (λm hm=>?_) _ s2;obtain⟨j,hj,e⟩:=Q19 hm;obtain⟨ar,au⟩:=A3.len Y;exact ak j m (by omega) (by rw[<-e];exact Q05 hj)
def qR:Sp:=λvs H Q _=>∃J L t key by_ κ x p,vs=[.ref J,.ref t]/\H J=some (.tup [.str "rows",.str key,.str by_,.ref L])/\H t=some (.tup ((κ::Sum.inr x::p:List Key).map kV))/\x≠key/\Q (.bl false) H
def yB:Sp:=λvs H Q _=>∃J L l xs key by_ fs ws l1 m l2 Y U,vs=[.ref J,.ref l,kV (keyOf m key)]/\H J=some (.tup [.str "rows",.str key,.str by_,.ref L])/\H L=some (.tup xs)/\FA H xs fs/\(Kd.rows key by_ fs).W/\H l=some (.lst ws)/\dS H ws (l1++m::l2) Y/\(∀r∈l1++m::l2,dB fs r)/\((l1++m::l2).map λr=>keyOf r key).Nodup/\fs.get key=some U/\du U (fL (keyOf m key))/\ws.length<=100/\
 ∀p H',Same H H'->H p=none->H' p=some (.lst (ws.take l1.length++ws.drop (l1.length+1)))->Q (.ref p) H'
theorem yC {key:Str}{l1 l2:List Ds}{m r:Ds}{i:Nat}(nd:((l1++m::l2).map λr=>keyOf r key).Nodup)(h:(l1++m::l2)[i]? =some r)(e:keyOf r key=keyOf m key):i=l1.length:=by
 have h1:((l1++m::l2).map λr=>keyOf r key)[i]? =some (keyOf m key):=by rw[Q0p,h];exact congrArg some e
 have h2:((l1++m::l2).map λr=>keyOf r key)[l1.length]? =some (keyOf m key):=by rw[Q0p,Q0z (Q00 _),Q2b];rfl
 obtain⟨U,J⟩:=List.getElem?_eq_some_iff.mp h1;obtain⟨Y,L⟩:=List.getElem?_eq_some_iff.mp h2;exact(Q23 nd).mp (J.trans L.symm)
theorem Ez:d5 Xm Xm (dD (top 21)):=eL
theorem EB (T:Tb mg)(J:Dn K mg "ends_at_key" lH (top 21) L U):c_ P w K mg base da (1) L U lH (qR):=by
 refine J.F.ok Ez λvs H Q E h=>?_;obtain⟨pk,pb,t,key,by_,κ,x,p,rfl,Y,ht,hx,q⟩:=h;refine⟨rfl,λaa A outer s nd hr hu=>?_⟩;refine⟨_,(dc (dk (ib (gZ dX (dG fC (by rfl) T.fv PySem.boot_len (a_ (pv 1) b_)) cZ (di _)) (ia (gZ dX (dj (pv 1) cZ) (dj (pv 0) cZ) (di _)))))),?_⟩
 ac_rfl
 refine⟨_,rfl,t,_,rfl,.inr (c8.of ht),rfl,_,rfl,eF (λc=>?_) (λc=>q)⟩;refine⟨_,rfl,t,_,_,.str x,rfl,rfl,c8.of ht,fA (j:=1) rfl,_,rfl,pk,_,_,.str key,rfl,rfl,c8.of Y,rfl,rfl,?_⟩;rw[decide_eq_false (show ¬V.str x=V.str key from λz=>hx (by injection z))];exact q
theorem EC:d5 ["kind","rows","key","number"] XY (dD (top 29)):=eL
theorem ED (T:Tb mg)(J:Dn K mg "without_row" hV (top 29) L U)(Y:Dn K mg "row_number" hV (top 22) aa ab)(ac:c_ P w K mg base da (8) aa ab hV (mT)):c_ P w K mg base da (9) L U hV (yB):=by
 refine J.F.ok EC λvs H Q E h=>?_;obtain⟨pk,pb,l,xs,key,by_,fs,ws,l1,m,l2,fl,kk,rfl,ah,ai,aj,hW,hl,ae,ag,ak,al,am,aq,fin⟩:=h;refine⟨rfl,λar A outer s nd hr hu=>?_⟩
 refine⟨_,(c9 (dI 3 nd (dq ac hr Y (a_ (pv 0) (a_ (pv 1) (a_ (pv 2) b_)))))
  (dc (dk (gr (dw gX (pv 3) el (di _)) el (dm i6 (g7 jQ (pv 1) g5 (g6 (pv 3))) (g7 jQ (pv 1) (g6 (dm gu (pv 3) cZ)) g5)))))),?_⟩
 ac_rfl
 have au:ws.length=l1.length+(l2.length+1):=by rw[(A3.len ae).1,Q08,Q0e]
 refine⟨_,rfl,_,rfl,_,rfl,pk,pb,l,xs,key,by_,fs,ws,_,fl,_,kk,rfl,ah,ai,aj,hW,hl,ae,ag,al,am,λi r H1 s1 hi he=>?_,λan=>absurd rfl (an m (Q01 _ Q0a))⟩;have ei:=yC ak hi he;subst ei;refine⟨_,rfl,rfl,_,rfl,dy ?_⟩;refine⟨_,rfl,_,rfl,_,rfl,l,ws,rfl,dg.of (s1 _ _ hl),λp1 ao=>?_⟩;rw[oX ws l1.length (by omega)];have s2:=Same.new ao (o:=.lst (ws.take l1.length));have e2:upd H1 p1 (.lst (ws.take l1.length)) p1=some (.lst (ws.take l1.length)):=de;generalize upd H1 p1 (.lst (ws.take l1.length))=H2 at s2 e2 ⊢;have sa:=s1.trans s2;refine⟨_,rfl,_,rfl,_,_,rfl,rfl,_,rfl,l,ws,rfl,dg.of (sa _ _ hl),λp3 ap=>?_⟩;have ec:gw ws (some ((l1.length:Int)+1)) none=ws.drop (l1.length+1):=oY ws (l1.length+1) (by omega);rw[ec];have s3:=Same.new ap (o:=.lst (ws.drop (l1.length+1)));have e3:upd H2 p3 (.lst (ws.drop (l1.length+1))) p3=some (.lst (ws.drop (l1.length+1))):=de;generalize upd H2 p3 (.lst (ws.drop (l1.length+1)))=H3 at s3 e3 ⊢;have hsz:201<=sizeLine:=by decide
 refine⟨p1,p3,_,_,rfl,rfl,s3 _ _ e2,e3,by rw[Q0n,Q16];omega,λp5 af=>?_⟩;exact fin p5 _ ((sa.trans s3).trans (Same.new af)) (fw (sa.trans s3) af) de
end Pb
namespace L2
open Spec PyProof.Rows
def o4 (K:PySem.W.Frag) (P:Addr) (lp:Pos) (qual:Str) (te:TE) (σ:St) (Q:VK):VK:=λx H1=>∃a xs ps,x=.ref a/\dg K H1 a xs/\xs.length<64/\mz P lp qual ps H1/\
 ∀c' H2,ky P lp qual ps c' H2->(∀b o,b≠P->H1 b=some o->H2 b=some o)->
 ∃W:List V->Hp->Prop,W [] H2/\(∀ks J,W ks J->J c'=some (.ext (jU c' qual)))/\(∀ks J y,W ks J->xs[ks.length]? =some y->te (some y::σ) J λk U=>W (ks++[k]) U)/\
 ∀ks J,W ks J->ks.length=xs.length->∃L,lA J ks L/\xq L/\∀p:List Nat,p.Perm (List.range xs.length)->(p.map λi=>L.getD i []).Pairwise g_->∀D,J D=none->Q (.ref D) (upd J D (.lst (p.map λi=>xs.getD i .non)))
def EE (K:W.Frag) (P:Addr) (lp:Pos) (qual:Str) (tl te:TE):TE:=λσ H Q=>tl σ H (o4 K P lp qual te σ Q)
section
variable {X:Cx}
theorem o5 {x:Str}{N':List Str}{l body:Expr}{L:Arguments}{scope:Scope}{lp kp p pos:Pos}{qual:Str}{c P:Addr}{tl te:TE}{k:Nat}(hg:Gl X "sorted")(hm:X.mg "sorted"=none)(hv:bootBuiltins "sorted"=some (.builtin "sorted"))(hr:eV k X.A)(hq:X.env.qual++"<lambda>"=qual)(Y:X.env.code=.ref c)(C:PySem.W.CodeHd X.base c P)
 (B:BM X.mg X.base) (S:ju X x N' scope) (ab:defaultsOf L X.env=([],[])) (hb:∀(cl:List (Str × Addr)) (pm:Value) (c':Addr) (U u:Value),bindArgs (PySem.W.kla_fn "<lambda>" qual L body scope cl pm (.ref c') U) ⟨[u],[]⟩=pure [(x,u)])
 (hl:PE X l tl) (he:∀(cl:List (Str × Addr)) (f c':Addr) (s:Shared) (H:Hp),PE (om X x N' scope cl qual f c' s H) body te) (hs:starEach [l] X.env=[(false,eval l X.env)]:=by rfl):
 PE X (.Call (.Name "sorted" p) [l] [⟨some "key",.Lambda L body scope lp,kp⟩] pos) (EE X.K P lp qual tl te):=by
 intro pins s σ H Q I h;refine wpAny_Call_Name_kw (iZ I hg hm hv ?_);have ha:PA X [l] (dJ tl fc):=a_ hl b_ (by rw[hs];rfl);refine callWith_kw (dH (ha pos pins s σ H (λvs H1=>match vs with|[x]=>o4 X.K P lp qual te σ Q x H1|_=>False) I h) λus s1 zq=>?_) (by rw[hs];rfl) (by rw[hs];rfl);obtain⟨vs,H1,I1,r1,q1⟩:=zq
 obtain⟨x',rfl⟩:∃x',vs=[x']:=by
  match vs,q1 with
  |[x'],_=>exact⟨x',rfl⟩
 have q1:o4 X.K P lp qual te σ Q x' H1:=q1;obtain⟨a,xs,ps,rfl,ag,ah,T,cont⟩:=q1;obtain⟨u,rfl,ru⟩:=vals1 r1
 cases ru;show wpAny _ _ (evalAll [do let v <-eval (.Lambda L body scope lp) X.env;standAt pos;pure v]) _ _ s1;obtain⟨cl,aa,ac,ae⟩:=qd (scope:=scope) (env:=X.env) λy hy hf=>I1.ok.has y.1 (S.free y hy hf);refine wpAny_evalAll_cons (Q0 (PySem.W.kla_eval ab ?_));rw[hq];refine Co I1 Y C B T aa λf c' pm U H2 s2 I2 ai mono=>?_;refine Q0 (wpAny_standAt (Q02 (wpAny_evalAll_nil ?_)));show wpAny _ _ (call (.builtin "sorted") [.ref a] [(Str.ofString "key",.ref f)]) _ _ s2;obtain⟨W,w0,wL,wt,wf⟩:=cont c' H2 ai mono;have aj:∃ps,H1 P=some (.eS ps):=⟨_,T.1⟩
 have ak:dg X.K H2 a xs:=by
  obtain⟨ps,hP⟩:=aj;rcases ag with(z|⟨o,z⟩)|z
  . exact .inl (.inl (mono a _ (gL z hP (by intro z;cases z)) z))
  . exact .inl (.inr ⟨o,mono a _ (gL z hP (by intro z;cases z)) z⟩)
  . exact .inr z
 refine dH (Cw (Q:=Q) (W:=W) I2 ak ah w0 (λpl s' H' ks y u J wk hy ry=>?_) λpl s' H' ks us J wk af rk=>?_) λr s' ⟨v,H',J,rv,q⟩=>⟨v,H',J.jL,rv,q⟩
 . exact Cp J S hr.hd hr.depth ac ae (Q0f _ (Q01 _ Q0a)) (wL ks H' wk) (hb cl pm c' U) ry (he cl f c') (wt ks H' y wk hy)
 . obtain⟨al,k1,k2,k3⟩:=wf ks H' wk af;exact⟨oq,_,CF J rk k1 k2,λp p1 p2 D hD=>k3 p p1 p2 D hD⟩
end
end L2
namespace Pb
open L2
abbrev fo (Pt:Addr) (H H':Hp):Prop:=Kp (λc=>c=Pt) H H'
theorem EF {P:Addr}{lp:Pos}{J:Str}{ps:Array Value}{c':Addr}{H H':Hp}(h:ky P lp J ps c' H)(s:Same H H'):ky P lp J ps c' H':=by
 obtain⟨h1|h1,h2⟩:=h
 . exact⟨.inl ⟨h1.1,s _ _ h1.2⟩,s _ _ h2⟩
 . exact⟨.inr ⟨h1.1,s _ _ h1.2⟩,s _ _ h2⟩
theorem yD {P:Addr}{lp:Pos}{L:Str}{H:Hp}(h:eW P lp L H):∃ps,mz P lp L ps H/\∀c' H',ky P lp L ps c' H'->eW P lp L H':=by
 rcases h with e|⟨k,Y,e2⟩
 . refine⟨#[],⟨e,trivial,.inl rfl⟩,λc' H' h=>?_⟩;obtain⟨⟨_,h1⟩|⟨J,_⟩,h2⟩:=h
   . exact .inr ⟨c',by simpa using h1,h2⟩
   . cases J
 . have U:codeAmong lp #[rawInt lp.line,rawInt lp.col,.ref k].toList=some (.ref k):=by simp[codeAmong,rawInt]
   refine⟨#[rawInt lp.line,rawInt lp.col,.ref k],⟨Y,by simp[TriplesOk,rawInt],.inr ⟨k,U,e2⟩⟩,λc' H' h=>?_⟩;obtain⟨⟨J,_⟩|⟨J,h1⟩,h2⟩:=h
   . rw[U] at J;cases J
   . rw[U] at J;cases J;exact .inr ⟨_,h1,h2⟩
theorem o6 {ps:Array Value}{sp:Sp}{rk:Ds->List Key}{K:W.Frag}{P:Addr}{lp:Pos}{ql:Str}{j:Nat}{σ:L2.St}{Q:VK}{H:Hp}{pr pk pb:Addr}{vs:List V}{ms:List Ds}{fl:List (List Addr)}{key by_:Str}{fs:Fs}(hr:dg K H pr vs)(J:dS H vs ms fl)(hl:vs.length<64)(hT:mz P lp ql ps H)(aw:σ[j]? =some (some (.ref pk)))
 (ax:H pk=some (.tup [.str "rows",.str key,.str by_,.ref pb])) (ah:∀m∈ms,dB fs m)
 (ay:∀(rr:Addr) (kvs:List (Key × V)) (m:Ds) (fq:List Addr) (H:Hp) (Q:VK) (E:XK),H pk=some (.tup [.str "rows",.str key,.str by_,.ref pb])->H rr=some (.dK kvs)->dv H kvs m fq->dB fs m->(∀q,H q=none->Q (.ref q) (upd H q (.tup ((rk m).map kV))))->sp [.ref pk,.ref rr] H Q E)
 (tg:List Bool) (az:tg≠[]) (ao:∀m∈ms,(rk m).map fb=tg) (ap:∀a b,g_ (rk a) (rk b)->i8 key by_ a b) (aA:(ms.map λm=>keyOf m key).Nodup)
 (q:∀D aj ak c' H',fo P H H'->ky P lp ql ps c' H'->H D=none->H' D=some (.lst aj)->dS H' aj (gA key by_ ms) ak->ak.Perm fl->Q (.ref D) H'):
 o4 K P lp ql (fT sp [] E0 (dJ (dE (j+1)) (dJ (dE 0) fc))) σ Q (.ref pr) H:=by
 obtain⟨ac,aq⟩:=A3.len J;refine⟨pr,vs,ps,rfl,hr,hl,hT,λc' H2 af mono=>?_⟩
 have np:∀U o,(∀ps,o≠ .eS ps)->H U=some o->H2 U=some o:=λU o ho e=>by
  exact mono U o (gL e hT.1 (ho ps)) e
 have al:Tu H H2:=λU ys e=>np U _ (by intro ps z;cases z) e
 have L:dS H2 vs ms fl:=dS.keep al J λU hc o e=>np U o (by
  intro ps z;rcases dS.mu J U hc with⟨_,q⟩|⟨_,q⟩ <;> rw[e] at q <;> rw[z] at q <;> cases q) e
 have ar:H2 pk=some (.tup [.str "rows",.str key,.str by_,.ref pb]):=al _ _ ax;refine⟨λks H3=>Same H2 H3/\ks.length<=vs.length/\lA H3 ks ((ms.map rk).take ks.length),⟨Same.refl _,Q06 _,.nil⟩,λks H3 hw=>hw.1 _ _ af.2,?_,?_⟩
 . rintro ks H3 yv ⟨s3,aB,aa⟩ hy;have am:ks.length<vs.length:=(List.getElem?_eq_some_iff.mp hy).1;have ae:=A3.at (a0:=V.non) (b0:=Ds.nil) (c0:=[]) L ks.length am;have ey:vs.getD ks.length .non=yv:=by rw[Q0j,hy];rfl
   rw[ey] at ae
   have au:ms.getD ks.length .nil∈ms:=by
    rw[Q0j,Q05 (by omega)];exact Q14 _
   have Y:=Own.same s3 ae;unfold Own at Y;obtain⟨rr,kvs,fq,rfl,aC,_,aD⟩:=Y;refine⟨_,aw,_,rfl,ay rr kvs _ fq _ _ _ (s3 _ _ ar) aC aD (ah _ au) λt ht=>⟨s3.trans (Same.new ht),by rw[Q08];exact am,?_⟩⟩
   have et:(ms.map rk).take (ks++[V.ref t]).length=(ms.map rk).take ks.length++[rk (ms.getD ks.length .nil)]:=by
    rw[Q08];show List.take (ks.length+1) _=_;rw[Q1i,Q0p,Q0j,Q05 (by omega)];rfl
   rw[et];refine qJ (Paired.nz aa λk kl z=>?_) ⟨t,rfl,de⟩;obtain⟨pp,e,hh⟩:=z;exact⟨pp,e,by rw[dh (dN hh ht)];exact hh⟩
 . rintro ks H3 ⟨s3,aB,aa⟩ av
   have aE:(ms.map rk).take ks.length=ms.map rk:=by
    rw[av,ac,Q34 (by rw[Q09];exact Q00 _)]
   rw[aE] at aa;refine⟨_,aa,⟨tg,az,λkl aG=>?_⟩,λp hp hs D hD=>?_⟩
   . obtain⟨m,hm,rfl⟩:=List.mem_map.mp aG;exact ao m hm
   have ag:∀i∈p,i<vs.length:=λi hi=>by
    have:=hp.mem_iff.mp hi;simpa using this
   have aH:p.Perm (List.range ms.length):=by rw[<-ac];exact hp
   have hz:(p.map λi=>ms.getD i .nil)=gA key by_ ms:=by
    refine xF (xH _ aH) ?_ aA;rw[Q27] at hs ⊢;refine List.Pairwise.imp_of_mem (λ{i j} hi hj h=>?_) hs;have aI:=ag i hi;have aJ:=ag j hj
    have ge:∀i,i<vs.length->(ms.map rk).getD i []=rk (ms.getD i .nil):=λi hi=>by
     rw[Q0j,Q0j,Q0p,Q05 (by omega)];rfl
    rw[ge i aI,ge j aJ] at h;exact ap _ _ h
   have sD:Same H3 (upd H3 D (.lst (p.map λi=>vs.getD i .non))):=Same.new hD;have ab:dS (upd H3 D (.lst (p.map λi=>vs.getD i .non))) vs ms fl:=dS.keep (Tu.of (s3.trans sD)) L λU _ o e=>sD _ _ (s3 U o e);have ai:=A3.pick (a0:=V.non) (b0:=Ds.nil) (c0:=[]) ab p ag;have aK:(p.map λi=>fl.getD i []).Perm fl:=xH _ (by rw[<-aq];exact hp)
   have aL:D≠P:=λe=>by
    rcases af.1 with z|z <;> rw[e,s3 _ _ z.2] at hD <;> cases hD
   have an:=s3.free hD
   have aM:H D=none:=by
    cases e:H D with
    |none=>rfl
    |some o=>rw[mono D o aL e] at an;cases an
   exact q D _ _ c' _ (λU o nc e=>sD _ _ (s3 _ _ (mono U o nc e))) (EF af (s3.trans sD)) aM de (by rw[<-hz];exact ai) aK
noncomputable abbrev iG:Pos:=yg (top 15)
noncomputable abbrev iH:Str:=("in_order":Str)++".<locals>."++"<lambda>"
def o7 (P:Addr) (lp:Pos) (U:Str):Sp:=λvs H Q _=>∃Y pr pb key by_ fs ws ms fl,vs=[.ref Y,.ref pr]/\H Y=some (.tup [.str "rows",.str key,.str by_,.ref pb])/\H pr=some (.lst ws)/\dS H ws ms fl/\ws.length<64/\eW P lp U H/\(∀m∈ms,dB fs m)/\fs.pl key/\(by_=""\/fs.pl by_)/\(ms.map λm=>keyOf m key).Nodup/\
 ∀D J L H',fo P H H'->eW P lp U H'->H D=none->H' D=some (.lst J)->dS H' J (gA key by_ ms) L->L.Perm fl->Q (.ref D) H'
theorem qT {key by_:Str}(a b:Ds)(h:g_ (iU key by_ a) (iU key by_ b)):i8 key by_ a b:=by
 unfold iU at h;unfold i8 rankOf;by_cases c:by_=""
 . rw[if_pos c,if_pos c] at h;rw[if_pos c,if_pos c];unfold g_ at h ⊢;have e:eY [Sum.inl 0,keyOf b key] [Sum.inl 0,keyOf a key]=eY [keyOf b key] [keyOf a key]:=if_pos rfl;rw[e] at h;exact h
 . rw[if_neg c,if_neg c] at h;rw[if_neg c,if_neg c];exact h
variable {P:Program}{w:World}{K:W.Frag}{mg:Str->Option Value}{base:Heap}
theorem yE:d5 Xb Xb (dD (top 15)):=eL
theorem EG {Pi c:Addr}(T:Tb mg)(U:Dn K mg "in_order" hU (top 15) Y J)(ae:J.code=.ref c)(ah:W.CodeHd base c Pi)(ai:BM mg base)(L:Dn K mg "rank" kE (top 14) aa ab)(ac:c_ P w K mg base da (1) aa ab kE (qI)):c_ P w K mg base da (8) Y J hU (o7 Pi iG iH):=by
 refine U.F.qq ae yE (λvs H Q E h=>?_) (λA outer s H vs Q E hr h=>?_)
 . obtain⟨pk,pr,pb,key,by_,fs,ws,ms,fl,rfl,_⟩:=h;rfl
 obtain⟨pk,pr,pb,key,by_,fs,ws,ms,fl,rfl,aj,ak,af,hl,hT,hf,hk,ag,al,q⟩:=h;have nd:=yE.nd;refine⟨_,(dc (dk (o5 (te:=(fT _ _ _ (dJ (dE 1) (dJ (dE 0) fc)))) (x:="row") (N':=["kind",""]) rfl T.mF boot_sorted hr rfl rfl ah ai (ju.of (N:=Xb) (sc:=dD (top 15)) rfl rfl rfl rfl rfl (by decide +kernel)) rfl (λ_ _ _ _ _=>rfl) (pv 1) (λ_ _ _ _ _=>(ml ac (eV.deeper (k:=1) (eV.in1 (k:=2) (eV.in1 (k:=3) (hr.mono (by decide)))) _) rfl L.m L.F.kp L.b .nil mn (a_ (pv 1) (a_ (pv 0) b_))))))),?_⟩
 ac_rfl
 obtain⟨ps,hX,hY⟩:=yD hT;exact⟨_,rfl,o6 (rk:=rankOf key by_) (dg.of ak) af hl hX rfl aj hf (λrr kvs m fq H' Q' E' h1 h2 h3 h4 h5=>⟨pk,rr,pb,key,by_,fs,kvs,m,fq,rfl,h1,h2,h3,h4,hk,ag,h5⟩) _ (by split <;> simp) (λm hm=>qt (hf m hm) hk ag) (λ_ _ h=>h) al λD am an c' H' kp hy h1 h2 h3 h4=>q D am an H' kp (hY c' H' hy) h1 h2 h3 h4⟩
theorem dB.key {fs:Fs}{m:Ds}{key:Str}{U:Kd}(f:dB fs m)(hk:fs.get key=some U)(hp:fs.pl key):du U (fL (keyOf m key)):=by
 obtain⟨k',e,J⟩:=hp;rw[hk] at e
 cases e;obtain⟨d,Y,L⟩:=dB.get f hk
 cases U with
 |num=>unfold du at L;obtain⟨z,rfl⟩:=L;unfold keyOf;rw[Y];unfold du;exact⟨_,rfl⟩
 |fe=>unfold du at L;obtain⟨z,rfl⟩:=L;unfold keyOf;rw[Y];unfold du;exact⟨_,rfl⟩
 |eQ _=>exact J.elim
 |rows _ _ _=>exact J.elim
 |tree _=>exact J.elim
 |fg _=>exact J.elim
def yF (n:Nat) (Pi:Addr):Sp:=λvs H Q _=>∃Y pb l r xs key by_ fs ws J fl kvs m fq kk,vs=[.ref Y,.ref l,.ref r]/\H Y=some (.tup [.str "rows",.str key,.str by_,.ref pb])/\H pb=some (.tup xs)/\FA H xs fs/\(Kd.rows key by_ fs).W/\H l=some (.lst ws)/\dS H ws J fl/\(∀m∈J,dB fs m)/\(J.map λm=>keyOf m key).Nodup/\fs.get key=some kk/\ws.length<=60/\
 H r=some (.dK kvs)/\dv H kvs m fq/\dB fs m/\(D.dct m).dep<=n/\(D.dct m).Sm/\keyOf m key ∉ J.map (λm=>keyOf m key)/\eW Pi iG iH H/\
 ∀D L U H',fo Pi H H'->eW Pi iG iH H'->H D=none->H' D=some (.lst L)->dS H' L (gA key by_ (J++[m])) U->U.Perm (fl++[r::fq])->Q (.ref D) H'
section
variable {P:Program}{w:World}{K:W.Frag}{mg:Str->Option Value}{base:Heap}
variable {Pi:Addr}
theorem EH:d5 Xg Xg (dD (top 28)):=eL
theorem EI (n:Nat)(hn:2<=n)(T:Tb mg)(aa:Dn K mg "with_row" oE (top 28) ab ac)(ai:Dn K mg "misfit" fO (top 7) aj ak)(al:c_ P w K mg base da (4 * n+3) aj ak fO (iV n))(J:Dn K mg "row_number" hV (top 22) L U)(Y:c_ P w K mg base da (8) L U hV (mT))(ae:Dn K mg "in_order" hU (top 15) af ag)(ah:c_ P w K mg base da (8) af ag hU (o7 Pi iG iH)):c_ P w K mg base da (4 * n+4) ab ac oE (yF n Pi):=by
 refine aa.F.ok EH λvs H Q E h=>?_;obtain⟨pk,pb,l,r,xs,key,by_,fs,ws,rs,fl,kvs,m,fq,kk,rfl,ao,av,aw,hW,hl,an,aq,aC,ax,aT,ay,hO,ap,aD,aE,az,hT,fin⟩:=h;refine⟨rfl,λaU A outer s nd hr hu=>?_⟩;have aA:=hW;unfold Kd.W at aA;obtain⟨aG,aH,aI,am,aJ⟩:=aA
 refine⟨_,(c9 (dA (dw gY (dq al hr ai (a_ (dW (a_ dO (a_ (dj (pv 0) cZ) b_))) (a_ (pv 2) b_))) el (di _)) (dc (dk el)) dz)
  (c9 (dA (dw gY (dq Y hr J (a_ (pv 0) (a_ (pv 1) (a_ (fH hu (pv 2) (dj (pv 0) cZ) (λ_ _=>rfl)) b_)))) el (di _)) (dc (dk el)) dz)
  (dc (dk (dq ah hr ae (a_ (pv 0) (a_ (dm i6 (pv 1) (fQ (a_ (pv 2) b_))) b_))))))),?_⟩
 ac_rfl
 refine⟨_,rfl,pk,_,_,_,rfl,rfl,c8.of ao,rfl,er,λt ht=>?_⟩;have s1:=Same.new ht (o:=.tup [.str "record",.ref pb]);have e1:upd H t (.tup [.str "record",.ref pb]) t=some (.tup [.str "record",.ref pb]):=de;generalize upd H t (.tup [.str "record",.ref pb])=H1 at s1 e1 ⊢;have aK:KA H1 (.ref t) (.eQ fs):=by unfold KA;exact⟨t,pb,xs,rfl,e1,s1 _ _ av,FA.mono (Tu.of s1) fs aw⟩
 have aB:Own H (.ref r) (.dct m) (r::fq):=by unfold Own;exact⟨r,kvs,fq,rfl,ay,rfl,hO⟩
 refine⟨_,rfl,.ref t,.ref r,.eQ fs,.dct m,r::fq,rfl,aK,by unfold Kd.W;exact⟨aG,aH,aI⟩,aB.same s1,by unfold du;exact⟨m,rfl,ap⟩,aD,aE,λH2 s2=>?_⟩;have sa:=s1.trans s2;refine⟨rfl,_,rfl,?_⟩;rw[decide_eq_true rfl];refine dy ?_;have gk:eU H2 r (.str key) (some (kV (keyOf m key))):=by have:=eU.k (k:=Sum.inr key) (sa _ _ ay);rw[hO.key ap am] at this;exact this
 refine⟨_,rfl,_,rfl,_,rfl,_,rfl,pk,_,_,_,rfl,rfl,c8.of (sa _ _ ao),rfl,r,_,rfl,gk,?_⟩;refine⟨pk,pb,l,xs,key,by_,fs,ws,rs,fl,_,kk,rfl,sa _ _ ao,sa _ _ av,FA.mono (Tu.of sa) fs aw,hW,sa _ _ hl,dS.keep (Tu.of sa) an λc _ o e=>sa _ _ e,aq,ax,ap.key ax am,λi m' H3 _ hi he=>absurd (List.mem_map.mpr ⟨m',Q0w hi,he⟩) az,λ_ H3 s3=>?_⟩;have sb:=sa.trans s3;refine⟨rfl,_,rfl,?_⟩;rw[decide_eq_true rfl];refine dy ?_;refine⟨_,rfl,_,rfl,_,rfl,fJ,λp4 aL=>?_⟩;have s4:=Same.new aL (o:=.lst [.ref r]);have e4:upd H3 p4 (.lst [.ref r]) p4=some (.lst [.ref r]):=de;generalize upd H3 p4 (.lst [.ref r])=H4 at s4 e4 ⊢;have sc:=sb.trans s4;have hsz:100<=sizeLine:=by decide
 refine⟨l,p4,_,_,rfl,rfl,sc _ _ hl,e4,by show _+1<=_;omega,λp5 aM=>?_⟩;have s5:=Same.new aM (o:=.lst (ws++[.ref r]));have e5:upd H4 p5 (.lst (ws++[.ref r])) p5=some (.lst (ws++[.ref r])):=de;generalize upd H4 p5 (.lst (ws++[.ref r]))=H5 at s5 e5 ⊢;have sd:=sc.trans s5;have ar:dS H5 (ws++[.ref r]) (rs++[m]) (fl++[r::fq]):=A3.snoc (R:=λv m f=>Own H5 v (.dct m) f) (aB.same sd) (dS.keep (Tu.of sd) an λc _ o e=>sd _ _ e);refine⟨pk,p5,pb,key,by_,fs,_,_,_,rfl,sd _ _ ao,e5,ar,by rw[Q08];show _+1<64;omega,hT.same sd,λx hx=>?_,am,aJ,?_,λD aN aO H' kp aP hD aQ hR au=>?_⟩
 . rcases List.mem_append.mp hx with z|z
   . exact aq x z
   . rw[List.mem_singleton.mp z];exact ap
 . rw[Q0k];exact List.nodup_append.mpr ⟨aC,List.nodup_cons.mpr ⟨λz=>(nomatch z),Q1q⟩,λx hx y hy e=>az (by rw[e,List.mem_singleton.mp hy] at hx;exact hx)⟩
 . exact fin D aN aO H' (λc o hc e=>kp c o hc (sd _ _ e)) aP (fw sd hD) aQ hR au
end
def yG:Sp:=λvs H Q _=>∃u k,vs=[u]/\KA H u k/\((gz k/\∀H',Same H H'->Q (.bl true) H')\/((∃fs,k=.fg fs)/\∀H',Same H H'->Q (.bl false) H'))
theorem str1 {f g:Str}{rest:List V}{K:W.Frag}{H:Hp}:xx K H 0 (.str f::rest) [.str g] (λ_=>decide (f=g)):=λj x y h1 h2=>by
 cases j with
 |zero=>
  cases h1
  cases h2;exact ip.str f g
 |succ j=>cases h2
theorem EJ:d5 ["kind"] ["kind"] (dD (top 4)):=eL
theorem EK (T:Tb mg)(J:Dn K mg "is_plain" ["kind"] (top 4) L U):c_ P w K mg base da (1) L U ["kind"] (yG):=by
 refine J.F.ok EJ λvs H Q E h=>?_;obtain⟨u,k,rfl,hk,hq⟩:=h;refine⟨rfl,λaa A outer s nd hr hu=>?_⟩;refine⟨_,(dc (dk (vV (gZ (ou (n:=0) hu) (pv 0) (dW (a_ dO b_)) (di _)) (ia (gZ (ou (n:=0) hu) (pv 0) (dW (a_ dO b_)) (di _)))))),?_⟩
 ac_rfl
 refine⟨_,rfl,fJ,λt ht=>?_⟩;have s1:Same H (upd H t (.tup [.str "number"])):=Same.new ht;rcases hq with⟨hp,q⟩|⟨⟨fs,rfl⟩,q⟩
 . cases k with
   |num=>
    unfold KA at hk;obtain⟨a,rfl,Y⟩:=hk;exact .inr ⟨a,t,_,_,_,rfl,rfl,str1 (f:="number") (g:="number") (rest:=[]),.inr ⟨c8.of (s1 _ _ Y),c8.of de,_,rfl,dM (q _ s1)⟩⟩
   |fe=>
    unfold KA at hk;obtain⟨a,rfl,Y⟩:=hk;refine .inr ⟨a,t,_,_,_,rfl,rfl,str1 (f:="word") (g:="number") (rest:=[]),.inr ⟨c8.of (s1 _ _ Y),c8.of de,_,rfl,dy ?_⟩⟩;refine⟨_,rfl,fJ,λt2 gR=>?_⟩;have s2:=s1.trans (Same.new (o:=.tup [.str "word"]) gR);exact .inr ⟨a,t2,_,_,_,rfl,rfl,str1 (f:="word") (g:="word") (rest:=[]),.inr ⟨c8.of (s2 _ _ Y),c8.of de,q _ s2⟩⟩
   |_=>exact hp.elim
 . unfold KA at hk;obtain⟨a,b,ys,rfl,Y,_⟩:=hk;refine .inr ⟨a,t,_,_,_,rfl,rfl,str1 (f:="either") (g:="number") (rest:=[.ref b]),.inr ⟨c8.of (s1 _ _ Y),c8.of de,_,rfl,dy ?_⟩⟩;refine⟨_,rfl,fJ,λt2 gR=>?_⟩;have s2:=s1.trans (Same.new (o:=.tup [.str "word"]) gR);exact .inr ⟨a,t2,_,_,_,rfl,rfl,str1 (f:="either") (g:="word") (rest:=[.ref b]),.inr ⟨c8.of (s2 _ _ Y),c8.of de,q _ s2⟩⟩
def lO (H:Hp) (st:Addr) (deed:Str) (a:D) (L:List Addr):Prop:=∃pv rest,H st=some (.tup (.str deed::pv::rest))/\(deed="trim"\/∃J,rest=[J]/\Own H J a L)
def qU (n:Nat) (Pi:Addr):Sp:=λvs H Q _=>∃U st v k d d' deed a fp Y,vs=[U,.ref st,v]/\KA H U k/\k.W/\Own H v d fp/\du k d/\lO H st deed a Y/\eR k d deed a [] d'/\a.dep<=n/\a.Sm/\(∀xs,d=.lst xs->xs.len<=60)/\d.Sm/\eW Pi iG iH H/\
 ∀L J H',fo Pi H H'->eW Pi iG iH H'->Own H' L d' J->(∀c∈J,H c=none\/c∈fp\/c∈Y)->L≠ .non->Q L H'
theorem Own.nn {H:Hp}{v:V}{d:D}{fp:List Addr}(h:Own H v d fp):v≠ .non:=by
 cases d with
 |int z=>rw[jc h];exact λz=>(nomatch z)
 |str z=>rw[iw h];exact λz=>(nomatch z)
 |tup xs=>unfold Own at h;obtain⟨a,_,e,_⟩:=h;rw[e];exact λz=>(nomatch z)
 |lst xs=>obtain⟨a,_,_,e,_⟩:=jB h;rw[e];exact λz=>(nomatch z)
 |dct m=>obtain⟨a,_,_,e,_⟩:=kN h;rw[e];exact λz=>(nomatch z)
theorem yH {H:Hp}{v:V}{κ:Key}{f:List Addr}(h:Own H v (fL κ) f):v=kV κ:=by
 cases κ with
 |inl z=>exact jc h
 |inr x=>exact iw h
theorem yI {H:Hp}{m:Ds}{l2:List Ds}:∀{l1:List Ds}{ws:List V}{U:List (List Addr)},dS H ws (l1++m::l2) U->∃J,dS H (ws.take l1.length++ws.drop (l1.length+1)) (l1++l2) J/\∀c∈J.flatten,c∈U.flatten
 |[],_,_,.cons (a:=a) (c:=c) h t=>⟨_,t,λx L=>by rw[Q0x];exact Q01 _ L⟩
 |q::l1,_,_,.cons (a:=a) (c:=c) h t=>by
  obtain⟨J,h1,h2⟩:=yI t;refine⟨c::J,.cons h h1,λx L=>?_⟩;rw[Q0x] at L ⊢;rcases List.mem_append.mp L with z|z
  . exact Q0f _ z
  . exact Q01 _ (h2 x z)
theorem kU {H:Hp}{v:V}{a b:Str}{x y:D}{fp:List Addr}(h:Own H v (.tup (.cons a x (.cons b y .nil))) fp):∃t u w f g,v=.ref t/\H t=some (.tup [u,w])/\Own H u x f/\Own H w y g/\fp=f++g:=by
 unfold Own at h;obtain⟨t,vs,rfl,J,h⟩:=h;unfold df at h;obtain⟨u,q,L,Y,rfl,rfl,h1,h⟩:=h;unfold df at h;obtain⟨w,q,U,g2,rfl,rfl,h2,h⟩:=h;unfold df at h;obtain⟨rfl,rfl⟩:=h;exact⟨t,u,w,L,U,rfl,J,h1,h2,by rw[Q0m]⟩
theorem ix {H:Hp}{t:Addr}{u w:V}{a b:Str}{x y:D}{f g:List Addr}(J:H t=some (.tup [u,w]))(h1:Own H u x f)(h2:Own H w y g):Own H (.ref t) (.tup (.cons a x (.cons b y .nil))) (f++g):=by
 unfold Own;refine⟨t,_,rfl,J,?_⟩;rw[df];refine⟨u,[w],f,g,rfl,rfl,h1,?_⟩;rw[df];refine⟨w,[],g,[],rfl,by rw[Q0m],h2,?_⟩;unfold df;exact⟨rfl,rfl⟩
theorem df.lN {H:Hp}{z:Str}{c:D}:∀{as:Ds}{ws:List V}{f:List Addr},df H ws (as.snoc z c) f->∃J u U,ws=J++[u]/\df H J as U/\∀x∈U,x∈f
 | .nil,ws,f,h=>by
   have h:df H ws (.cons z c .nil) f:=h;unfold df at h;obtain⟨v,q,U,f2,rfl,rfl,h1,h2⟩:=h;unfold df at h2;obtain⟨rfl,rfl⟩:=h2;exact⟨[],v,[],rfl,by unfold df;exact⟨rfl,rfl⟩,λx L=>(nomatch L)⟩
 | .cons y d r,ws,f,h=>by
   have h:df H ws (.cons y d (r.snoc z c)) f:=h;unfold df at h;obtain⟨v,q,U,f2,rfl,rfl,h1,h2⟩:=h;obtain⟨J,u,Y,rfl,h3,h4⟩:=df.lN h2;refine⟨v::J,u,U++Y,rfl,by unfold df;exact⟨v,J,U,Y,rfl,rfl,h1,h3⟩,λx L=>?_⟩;rcases List.mem_append.mp L with L|L
   . exact Q0f _ L
   . exact Q01 _ (h4 x L)
theorem EL (ws:List V)(u:V):gw (ws++[u]) none (some (-1))=ws:=by
 unfold gw;have J:HT.dP (ws++[u]).length 0 none=0:=rfl
 have L:HT.dP (ws++[u]).length (ws++[u]).length (some (-1))=ws.length:=by
  unfold HT.dP;simp only;rw[if_pos (by decide),Q08];show((-1:Int)+((ws.length+1:Nat):Int)).toNat=_;omega
 rw[J,L];show List.take (ws.length - 0) (List.drop 0 (ws++[u]))=ws;rw[List.drop_zero,Q29,Q35]
section
variable {P:Program}{w:World}{K:W.Frag}{mg:Str->Option Value}{base:Heap}
variable {Pi:Addr}
theorem EM:d5 ["kind","step","value","deed","form"] Xl (dD (top 27)):=eL
theorem EN (n:Nat)(hn:2<=n)(T:Tb mg)(aD:Dn K mg "acted" lI (top 27) aE aG)(ak:Dn K mg "is_plain" ["kind"] (top 4) al am)(an:c_ P w K mg base da (1) al am ["kind"] (yG))(ah:Dn K mg "misfit" fO (top 7) ay az)(ai:c_ P w K mg base da (4 * n+3) ay az fO (iV n))(ao:Dn K mg "with_row" oE (top 28) ap aq)(ar:c_ P w K mg base da (4 * n+4) ap aq oE (yF n Pi))(ac:Dn K mg "without_row" hV (top 29) ae af)(ag:c_ P w K mg base da (9) ae af hV (yB)):c_ P w K mg base da (4 * n+5) aE aG lI (qU n Pi):=by
 refine aD.F.ok EM λvs H Q E h=>?_;obtain⟨kv,st,v,k,d,d',deed,a,fp,fa,rfl,hk,hW,hv,au,⟨be,rest,L,ab⟩,hS,aH,aI,aV,aY,hT,fin⟩:=h;refine⟨rfl,λbf A outer s nd hr hu=>?_⟩
 refine⟨_,(c9 (dI 3 nd (dj (pv 1) cZ))
  (c9 (dI 4 nd (dj (pv 0) cZ))
  (c9 (dA (PW.pt (gF (dw dX (pv 3) dO (di _)) (gW (PW.pt (gG (eO (dq an hr ak (a_ (pv 0) b_))) (gN (dw dX (pv 4) dO (di _)))))))) (dc (dk (gr (dw gX (dq ai hr ah (a_ (pv 0) (a_ (dj (pv 1) cZ) b_))) el (di _)) (dj (pv 1) cZ) el))) dz)
  (c9 (dA (PW.pt (gF (dw dX (pv 3) dO (di _)) (gW (dw dX (pv 4) dO (di _))))) (dc (dk (dq ar hr ao (a_ (pv 0) (a_ (pv 2) (a_ (dj (pv 1) cZ) b_)))))) dz)
  (c9 (dA (PW.pt (gF (dw dX (pv 3) dO (di _)) (gW (dw dX (pv 4) dO (di _))))) (dc (dk (dq ag hr ac (a_ (pv 0) (a_ (pv 2) (a_ (dj (pv 1) cZ) b_)))))) dz)
  (c9 (dA (PW.pt (gF (dw dX (pv 3) dO (di _)) (gW (dw dX (pv 4) dO (di _))))) (dc (dk (gr (dw gX (dq ai hr ah (a_ (pv 0) (a_ (dj (pv 1) cZ) b_))) el (di _)) (dW (a_ (dj (pv 2) cZ) (a_ (dm i6 (dj (pv 2) cZ) (fQ (a_ (dj (pv 1) cZ) b_))) b_))) el))) dz)
  (c9 (dA (PW.pt (gF (dw dX (pv 3) dO (di _)) (gW (dw dX (pv 4) dO (di _))))) (dc (dk (gr (dw jO (dG fC (by rfl) T.fv PySem.boot_len (a_ (dj (pv 2) cZ) b_)) cZ (di _)) (dW (a_ (dj (pv 2) cZ) (a_ (g7 jQ (dj (pv 2) cZ) g5 (g6 (A2 A6 cZ))) b_))) el))) dz)
  (dc (dk el))))))))),?_⟩
 ac_rfl
 cases hS with
 |kQ hp hf=>
  obtain⟨av,rfl,J⟩:=ab.resolve_left (by decide +kernel)
  obtain⟨ka,kt,rs,rfl,Y⟩:∃ka kt rs,kv=.ref ka/\H ka=some (.tup (.str kt::rs)):=by
   cases k with
   |num=>unfold KA at hk;obtain⟨a,rfl,ha⟩:=hk;exact⟨a,_,_,rfl,ha⟩
   |fe=>unfold KA at hk;obtain⟨a,rfl,ha⟩:=hk;exact⟨a,_,_,rfl,ha⟩
   |_=>exact hp.elim
  refine⟨_,rfl,st,_,_,_,rfl,rfl,c8.of L,rfl,_,rfl,ka,_,_,_,rfl,rfl,c8.of Y,fA (j:=0) rfl,?_⟩;refine⟨_,rfl,rfl,_,rfl,dM ?_⟩;refine⟨_,rfl,.ref ka,k,rfl,hk,.inl ⟨hp,λH1 s1=>⟨true,rfl,dM (dM ?_)⟩⟩⟩;refine⟨_,rfl,_,rfl,st,_,_,_,rfl,rfl,c8.of (s1 _ _ L),rfl,.ref ka,av,k,_,fa,rfl,KA.mono (Tu.of s1) k hk,hW,J.same s1,hf,aH,aI,λH2 s2=>⟨rfl,_,rfl,dM ?_⟩⟩;have sa:=s1.trans s2;exact⟨_,rfl,st,_,_,_,rfl,rfl,c8.of (sa _ _ L),rfl,fin av fa _ (Kp.of sa) (hT.same sa) (J.same sa) (λc hc=>.inr (.inr hc)) J.nn⟩
 |lM hf=>
  obtain⟨av,rfl,J⟩:=ab.resolve_left (by decide +kernel);have U:=hk;unfold KA at U;obtain⟨ka,kb,ys,rfl,Y,_⟩:=U;refine⟨_,rfl,st,_,_,_,rfl,rfl,c8.of L,rfl,_,rfl,ka,_,_,_,rfl,rfl,c8.of Y,rfl,?_⟩;refine⟨_,rfl,rfl,_,rfl,dM ?_⟩;refine⟨_,rfl,.ref ka,_,rfl,hk,.inr ⟨⟨_,rfl⟩,λH1 s1=>⟨false,rfl,dy ⟨_,rfl,rfl,_,rfl,dM ?_⟩⟩⟩⟩;refine⟨_,rfl,_,rfl,st,_,_,_,rfl,rfl,c8.of (s1 _ _ L),rfl,.ref ka,av,_,_,fa,rfl,KA.mono (Tu.of s1) _ hk,hW,J.same s1,hf,aH,aI,λH2 s2=>⟨rfl,_,rfl,dM ?_⟩⟩;have sa:=s1.trans s2;exact⟨_,rfl,st,_,_,_,rfl,rfl,c8.of (sa _ _ L),rfl,fin av fa _ (Kp.of sa) (hT.same sa) (J.same sa) (λc hc=>.inr (.inr hc)) J.nn⟩
 |@add key by_ fs rs m hm aZ=>
  obtain⟨av,rfl,J⟩:=ab.resolve_left (by decide +kernel);have U:=hk;unfold KA at U;obtain⟨ka,kb,xs,rfl,Y,aM,aN⟩:=U;have aw:=aV _ rfl;rw[iu] at aw;unfold Own at hv J;obtain⟨l,ws,fq,rfl,hl,rfl,aj⟩:=hv;obtain⟨r,kvs,fr,rfl,a1,rfl,a2⟩:=J;obtain⟨fl,aa,rfl⟩:=aj.rows;have ax:=hW;unfold Kd.W at ax;obtain⟨kk,aJ,aW⟩:=ax.2.2.2.1;unfold du at au;obtain⟨a3,e,aK,a4,aO⟩:=au;injection e with e
  cases kT e;refine⟨_,rfl,st,_,_,_,rfl,rfl,c8.of L,rfl,_,rfl,ka,_,_,_,rfl,rfl,c8.of Y,rfl,?_⟩;refine⟨_,rfl,rfl,_,rfl,?_⟩;rw[show decide (V.str "add"=V.str "set")=false by decide +kernel];refine dy (dy ?_);refine⟨_,rfl,rfl,_,rfl,dM ⟨_,rfl,rfl,_,rfl,dM ?_⟩⟩;refine⟨_,rfl,_,rfl,_,rfl,st,_,_,_,rfl,rfl,c8.of L,rfl,ka,kb,l,r,xs,key,by_,fs,ws,rs,fl,kvs,m,fr,kk,rfl,Y,aM,aN,hW,hl,aa,aK,aO,aJ,by rw[(A3.len aa).1];exact aw,a1,a2,hm,aH,aI,aZ,hT,λD a5 aP H' kp a6 hD a7 hR aU=>?_⟩;refine fin _ (D::aP.flatten) _ kp a6 (by unfold Own;exact⟨D,a5,_,rfl,a7,rfl,hR.own⟩) (λc hc=>?_) (λz=>(nomatch z));rcases List.mem_cons.mp hc with rfl|hc
  . exact .inl hD
  . have:=(mE aU).mem_iff.mp hc;rw[Q1y] at this;rcases List.mem_append.mp this with z|z
    . exact .inr (.inl (Q04 _ z))
    . rw[Q0x,Q1z,Q0m] at z;exact .inr (.inr z)
 |@cut key by_ fs l1 l2 m=>
  obtain⟨av,rfl,J⟩:=ab.resolve_left (by decide +kernel)
  cases yH J;have U:=hk;unfold KA at U;obtain⟨ka,kb,xs,rfl,Y,aM,aN⟩:=U;have aw:=aV _ rfl;rw[iu] at aw;unfold Own at hv;obtain⟨l,ws,fq,rfl,hl,rfl,aj⟩:=hv;obtain⟨fl,aa,rfl⟩:=aj.rows;have ax:=hW;unfold Kd.W at ax;have aW:=ax.2.2.2.1;obtain⟨kk,aJ,_⟩:=ax.2.2.2.1;unfold du at au;obtain⟨a3,e,aK,a4,aO⟩:=au;injection e with e
  cases kT e;refine⟨_,rfl,st,_,_,_,rfl,rfl,c8.of L,rfl,_,rfl,ka,_,_,_,rfl,rfl,c8.of Y,rfl,?_⟩;refine⟨_,rfl,rfl,_,rfl,?_⟩;rw[show decide (V.str "cut"=V.str "set")=false by decide +kernel];refine dy (dy ?_);refine⟨_,rfl,rfl,_,rfl,?_⟩;rw[show decide (V.str "cut"=V.str "add")=false by decide +kernel];refine dy (dy ?_);refine⟨_,rfl,rfl,_,rfl,dM ⟨_,rfl,rfl,_,rfl,dM ?_⟩⟩;refine⟨_,rfl,_,rfl,_,rfl,st,_,_,_,rfl,rfl,c8.of L,rfl,ka,kb,l,xs,key,by_,fs,ws,l1,m,l2,fl,kk,rfl,Y,aM,aN,hW,hl,aa,aK,aO,aJ,(aK m (Q01 _ Q0a)).key aJ aW,by rw[(A3.len aa).1];omega,λp H' s1 hp a8=>?_⟩;obtain⟨aP,a9,ba⟩:=yI aa;refine fin _ (p::aP.flatten) _ (Kp.of s1) (hT.same s1) (by unfold Own;exact⟨p,_,_,rfl,a8,rfl,a9.own.same s1⟩) (λc hc=>?_) (λz=>(nomatch z));rcases List.mem_cons.mp hc with rfl|hc
  . exact .inl hp
  . exact .inr (.inl (Q04 _ (ba c hc)))
 |@grow k x y t f as hf=>
  obtain⟨av,rfl,J⟩:=ab.resolve_left (by decide +kernel);have U:=hk;unfold KA at U;obtain⟨ka,ku,rfl,Y,bb⟩:=U;obtain⟨c,u1,u2,f1,f2,rfl,hc,aQ,aA,rfl⟩:=kU hv;unfold Own at aA;obtain⟨l,ws,fq,rfl,hl,rfl,aj⟩:=aA;have aL:=aY;unfold D.Sm Ds.Sm at aL
  have bd:ws.length<=100:=by
   rw[aj.len];have:=aL.2.2;unfold Ds.Sm at this;have:=this.1;unfold D.Sm at this;exact this.1
  refine⟨_,rfl,st,_,_,_,rfl,rfl,c8.of L,rfl,_,rfl,ka,_,_,_,rfl,rfl,c8.of Y,rfl,?_⟩;refine⟨_,rfl,rfl,_,rfl,?_⟩;rw[show decide (V.str "grow"=V.str "set")=false by decide +kernel];refine dy (dy ?_);refine⟨_,rfl,rfl,_,rfl,?_⟩;rw[show decide (V.str "grow"=V.str "add")=false by decide +kernel];refine dy (dy ?_);refine⟨_,rfl,rfl,_,rfl,?_⟩;rw[show decide (V.str "grow"=V.str "cut")=false by decide +kernel];refine dy (dy ?_);refine⟨_,rfl,rfl,_,rfl,dM ⟨_,rfl,rfl,_,rfl,dM ?_⟩⟩;refine⟨_,rfl,_,rfl,st,_,_,_,rfl,rfl,c8.of L,rfl,.ref ka,av,_,_,fa,rfl,hk,hW,J,hf,aH,aI,λH1 s1=>⟨rfl,_,rfl,dM ?_⟩⟩;refine⟨_,rfl,c,_,_,_,rfl,rfl,c8.of (s1 _ _ hc),rfl,_,rfl,c,_,_,_,rfl,rfl,c8.of (s1 _ _ hc),rfl,_,rfl,st,_,_,_,rfl,rfl,c8.of (s1 _ _ L),rfl,fJ,λp1 bc=>?_⟩;have s2:=Same.new bc (o:=.lst [av]);have e2:upd H1 p1 (.lst [av]) p1=some (.lst [av]):=de;generalize upd H1 p1 (.lst [av])=H2 at s2 e2 ⊢;have sa:=s1.trans s2;have hsz:200<=sizeLine:=by decide
  refine⟨l,p1,_,_,rfl,rfl,sa _ _ hl,e2,by show _+1<=_;omega,λp2 aB=>?_⟩;have s3:=Same.new aB (o:=.lst (ws++[av]));have e3:upd H2 p2 (.lst (ws++[av])) p2=some (.lst (ws++[av])):=de;generalize upd H2 p2 (.lst (ws++[av]))=H3 at s3 e3 ⊢;have sb:=sa.trans s3;refine⟨er,λtq aT=>?_⟩;have s4:=Same.new aT (o:=.tup [u1,.ref p2]);have sc:=sb.trans s4
  have ol:Own (upd H3 tq (.tup [u1,.ref p2])) (.ref p2) (.lst (as.snoc "" a)) (p2::(fq++fa)):=by
   unfold Own;exact⟨p2,_,_,rfl,s4 _ _ e3,rfl,df.snoc (J.same sc) _ (aj.same sc)⟩
  refine fin _ _ _ (Kp.of sc) (hT.same sc) (ix de (aQ.same sc) ol) (λz hz=>?_) (λz=>(nomatch z));rcases List.mem_append.mp hz with hz|hz
  . exact .inr (.inl (Q0f _ hz))
  . rcases List.mem_cons.mp hz with rfl|hz
    . exact .inl (fw sa aB)
    . rcases List.mem_append.mp hz with hz|hz
      . exact .inr (.inl (Q01 _ (Q04 _ hz)))
      . exact .inr (.inr hz)
 |@trim k x y z t c0 a0 as=>
  have U:=hk;unfold KA at U;obtain⟨ka,ku,rfl,Y,bb⟩:=U;obtain⟨c,u1,u2,f1,f2,rfl,hc,aQ,aA,rfl⟩:=kU hv;unfold Own at aA;obtain⟨l,ws,fq,rfl,hl,rfl,aj⟩:=aA;obtain⟨aC,u,g1,rfl,aX,hg⟩:=aj.lN;refine⟨_,rfl,st,_,_,.str "trim",rfl,rfl,c8.of L,fA (j:=0) rfl,_,rfl,ka,_,_,_,rfl,rfl,c8.of Y,rfl,?_⟩;refine⟨_,rfl,rfl,_,rfl,?_⟩;rw[show decide (V.str "trim"=V.str "set")=false by decide +kernel];refine dy (dy ?_);refine⟨_,rfl,rfl,_,rfl,?_⟩;rw[show decide (V.str "trim"=V.str "add")=false by decide +kernel];refine dy (dy ?_);refine⟨_,rfl,rfl,_,rfl,?_⟩;rw[show decide (V.str "trim"=V.str "cut")=false by decide +kernel];refine dy (dy ?_);refine⟨_,rfl,rfl,_,rfl,?_⟩;rw[show decide (V.str "trim"=V.str "grow")=false by decide +kernel];refine dy (dy ?_);refine⟨_,rfl,rfl,_,rfl,dM ⟨_,rfl,rfl,_,rfl,dM ?_⟩⟩;refine⟨_,rfl,c,_,_,_,rfl,rfl,c8.of hc,rfl,l,_,rfl,.inl (dg.of hl),_,_,rfl,rfl,_,rfl,eF (λ_=>?_) (λcc=>absurd (decide_eq_true (by rw[Q08];show((aC.length+1:Nat):Int) > 0;omega)) cc)⟩;refine⟨_,rfl,c,_,_,_,rfl,rfl,c8.of hc,rfl,_,rfl,c,_,_,_,rfl,rfl,c8.of hc,rfl,1,rfl,_,rfl,l,_,rfl,dg.of hl,λp2 aB=>?_⟩;rw[EL];have s3:=Same.new aB (o:=.lst aC);have e3:upd H p2 (.lst aC) p2=some (.lst aC):=de;generalize upd H p2 (.lst aC)=H3 at s3 e3 ⊢;refine⟨er,λtq aT=>?_⟩;have s4:=Same.new aT (o:=.tup [u1,.ref p2]);have sc:=s3.trans s4
  have ol:Own (upd H3 tq (.tup [u1,.ref p2])) (.ref p2) (.lst as) (p2::g1):=by
   unfold Own;exact⟨p2,_,_,rfl,s4 _ _ e3,rfl,aX.same sc⟩
  refine fin _ _ _ (Kp.of sc) (hT.same sc) (ix de (aQ.same sc) ol) (λz hz=>?_) (λz=>(nomatch z));rcases List.mem_append.mp hz with hz|hz
  . exact .inr (.inl (Q0f _ hz))
  . rcases List.mem_cons.mp hz with rfl|hz
    . exact .inl aB
    . exact .inr (.inl (Q01 _ (Q04 _ (hg _ hz))))
end
mutual
def D.SL (n:Nat):D->Prop
 | .int _=>True
 | .str _=>True
 | .tup xs=>xs.SL n
 | .lst xs=>xs.len<=n/\xs.SL n
 | .dct m=>m.SL n
def Ds.SL (n:Nat):Ds->Prop
 | .nil=>True
 | .cons _ d r=>d.SL n/\r.SL n
end
theorem Ds.mU {n:Nat}:∀{xs:Ds}{i:Nat}{d:D},xs.SL n->xs.at i=some d->d.SL n
 | .nil,i,_,_,h=>by cases i <;> cases h
 | .cons _ d r,0,_,w,h=>by unfold Ds.SL at w;cases h;exact w.1
 | .cons _ d r,i+1,_,w,h=>by unfold Ds.SL at w;exact Ds.mU (xs:=r) (i:=i) w.2 h
theorem Ds.mV {n:Nat}:∀{xs:Ds}{x:Str}{d:D},xs.SL n->xs.get x=some d->d.SL n
 | .nil,_,_,_,h=>by cases h
 | .cons y c r,x,d,w,h=>by
   unfold Ds.SL at w;have h:(if x=y then some c else r.get x)=some d:=h;by_cases z:x=y
   . rw[if_pos z] at h;cases h;exact w.1
   . rw[if_neg z] at h;exact Ds.mV w.2 h
theorem EO {l1 l2:List Ds}{m:Ds}:(d3 (l1++m::l2)).at l1.length=some (.dct m):=by
 induction l1 with
 |nil=>rfl
 |cons a r J=>exact J
abbrev SQ (Pi:Addr) (H:Hp) (fp U:List Addr) (d':D) (Q:VK):Prop:=∀L J H',fo Pi H H'->eW Pi iG iH H'->Own H' L d' J->(∀c∈J,H c=none\/c∈fp\/c∈U)->Q L H'
def SE (n:Nat) (Pi:Addr) (H:Hp) (st pt:Addr) (deed:Str) (a:D) (J:List Addr) (p:List Key):Prop:=lO H st deed a J/\H pt=some (.tup (p.map kV))/\a.dep<=n/\a.Sm/\eW Pi iG iH H
def SD (H:Hp) (v:V) (d:D) (fp:List Addr):Prop:=Own H v d fp/\d.Sm/\d.SL 60
def jC (n:Nat) (Pi:Addr) (j:Nat):Sp:=λvs H Q _=>∃J st pt v k d d' deed a fp L p,vs=[J,.ref st,.ref pt,v]/\KA H J k/\k.W/\SD H v d fp/\du k d/\SE n Pi H st pt deed a L p/\eR k d deed a p d'/\p.length=j/\SQ Pi H fp L d' Q
def yJ (n:Nat) (Pi:Addr) (j:Nat):Sp:=λvs H Q _=>∃J xs fs st pt v m x k e L deed a fp U p,vs=[.ref J,.ref st,.ref pt,v]/\H J=some (.tup xs)/\FA H xs fs/\(Kd.eQ fs).W/\SD H v (.dct m) fp/\dB fs m/\fs.get x=some k/\m.get x=some e/\SE n Pi H st pt deed a U (.inr x::p)/\eR k e deed a p L/\p.length=j/\SQ Pi H fp U (.dct (m.set x L)) Q
def yK (n:Nat) (Pi:Addr) (j:Nat):Sp:=λvs H Q _=>∃J st pt v key by_ fs l1 m l2 x k e L deed a fp U p,vs=[J,.ref st,.ref pt,v]/\KA H J (.rows key by_ fs)/\(Kd.rows key by_ fs).W/\SD H v (.lst (d3 (l1++m::l2))) fp/\du (.rows key by_ fs) (.lst (d3 (l1++m::l2)))/\x≠key/\fs.get x=some k/\m.get x=some e/\SE n Pi H st pt deed a U (keyOf m key:: .inr x::p)/\eR k e deed a p L/\p.length+1=j/\SQ Pi H fp U (.lst (d3 (gA key by_ (l1++m.set x L::l2)))) Q
def qV (n:Nat) (Pi:Addr) (j:Nat):Sp:=λvs H Q _=>∃J st pt v k x y t as c c' deed a fp L p,∃i:Nat,vs=[J,.ref st,.ref pt,v]/\KA H J (.tree k)/\(Kd.tree k).W/\SD H v (.tup (.cons x t (.cons y (.lst as) .nil))) fp/\as.at i=some c/\du (.tree k) c/\SE n Pi H st pt deed a L (.inl i::p)/\eR (.tree k) c deed a p c'/\p.length=j/\SQ Pi H fp L (.tup (.cons x t (.cons y (.lst (as.put i c')) .nil))) Q
def yL (n:Nat) (Pi:Addr) (j:Nat):Sp:=λvs H Q E=>qV n Pi j vs H Q E\/∃J st pt v k x y t t' as deed a fp L p,vs=[J,.ref st,.ref pt,v]/\KA H J (.tree k)/\(Kd.tree k).W/\SD H v (.tup (.cons x t (.cons y (.lst as) .nil))) fp/\du k t/\SE n Pi H st pt deed a L (.inr "knot"::p)/\eR k t deed a p t'/\p.length=j/\SQ Pi H fp L (.tup (.cons x t' (.cons y (.lst as) .nil))) Q
def yM (n:Nat) (Pi:Addr) (j:Nat):Sp:=λvs H Q _=>∃J xs fs st pt v x k u L deed a fp U p,vs=[.ref J,.ref st,.ref pt,v]/\H J=some (.tup xs)/\FA H xs fs/\(Kd.fg fs).W/\SD H v (pairD (.str x) u) fp/\fs.get x=some k/\du k u/\SE n Pi H st pt deed a U (.inr x::p)/\eR k u deed a p L/\p.length=j/\SQ Pi H fp U (pairD (.str x) L) Q
theorem fo.at {Pi c:Addr}{H H':Hp}{lp:Pos}{J:Str}{o:HO}(x:fo Pi H H')(hT:eW Pi lp J H)(h2:∀ps,o≠ .eS ps)(e:H c=some o):H' c=some o:=by
 obtain⟨ps,L⟩:=hT.tab;exact x c o (λz=>gL e L (h2 ps) z) e
theorem fo.tu {Pi:Addr}{H H':Hp}{lp:Pos}{J:Str}(x:fo Pi H H')(hT:eW Pi lp J H):Tu H H':=λa xs e=>x.at hT (by intro ps z;cases z) e
theorem fo.mu {Pi c:Addr}{H H':Hp}{lp:Pos}{J:Str}{o:HO}(x:fo Pi H H')(hT:eW Pi lp J H)(L:Mu H c)(e:H c=some o):H' c=some o:=x.at hT (by
 intro ps z;rcases L with⟨_,q⟩|⟨_,q⟩ <;> rw[e] at q <;> rw[z] at q <;> cases q) e
theorem Own.kW {Pi:Addr}{H H':Hp}{lp:Pos}{J:Str}{v:V}{d:D}{fp:List Addr}(h:Own H v d fp)(x:fo Pi H H')(hT:eW Pi lp J H):Own H' v d fp:=
 h.keep (x.tu hT) d λc hc o e=>x.mu hT (Own.alive d h c hc) e
theorem df.kW {Pi:Addr}{H H':Hp}{lp:Pos}{J:Str}{v:List V}{d:Ds}{fp:List Addr}(h:df H v d fp)(x:fo Pi H H')(hT:eW Pi lp J H):df H' v d fp:=
 h.keep (x.tu hT) d λc hc o e=>x.mu hT (df.alive d h c hc) e
theorem dv.kW {Pi:Addr}{H H':Hp}{lp:Pos}{J:Str}{v:List (Key × V)}{d:Ds}{fp:List Addr}(h:dv H v d fp)(x:fo Pi H H')(hT:eW Pi lp J H):dv H' v d fp:=
 h.keep (x.tu hT) d λc hc o e=>x.mu hT (dv.alive d h c hc) e
theorem fo.eX {Pi c:Addr}{H H':Hp}{lp:Pos}{L:Str}(x:fo Pi H H')(hT:eW Pi lp L H)(J:eW Pi lp L H')(h:H' c=none):H c=none:=by
 refine Kp.eX x (λz=>?_) h;obtain⟨ps,U⟩:=J.tab;rw[z,U] at h;cases h
theorem lO.same {H H':Hp}{st:Addr}{deed:Str}{a:D}{J:List Addr}(h:lO H st deed a J)(s:Same H H'):lO H' st deed a J:=by
 obtain⟨pv,rest,h1,h2⟩:=h;refine⟨pv,rest,s _ _ h1,?_⟩;rcases h2 with h2|⟨L,e,h2⟩
 . exact .inl h2
 . exact .inr ⟨L,e,h2.same s⟩
theorem SE.same {n:Nat}{Pi:Addr}{H H':Hp}{st pt J:Addr}{deed:Str}{a:D}{L:List Addr}{p q:List Key}(h:SE n Pi H st pt deed a L p)(s:Same H H')(U:H' J=some (.tup (q.map kV))):SE n Pi H' st J deed a L q:=
 ⟨h.1.same s,U,h.2.2.1,h.2.2.2.1,h.2.2.2.2.same s⟩
theorem mW (k:Key)(p:List Key):gw ((k::p).map kV) (some 1) none=p.map kV:=by
 have:=oY ((k::p).map kV) 1 (by rw[Q09,Q0e];omega);exact this
theorem mY (k:Key)(p:List Key):¬(HT.dP ((k::p).map kV).length 0 (some 1)=0/\HT.dP ((k::p).map kV).length ((k::p).map kV).length none=((k::p).map kV).length):=by
 intro h;have:=h.1;rw[Q09,Q0e] at this;unfold HT.dP at this;simp only at this;rw[if_neg (by omega)] at this;omega
theorem dv.set {H:Hp}{x:Str}{Y:V}{e':D}{g:List Addr}(hv:Own H Y e' g):∀{kvs:List (Key × V)}(m:Ds) {f:List Addr},dv H kvs m f->m.names.Nodup->∃L,dv H (kvs.map λJ=>if J.1=Sum.inr x then(J.1,Y) else J) (m.set x e') L/\∀c∈L,c∈f\/c∈g
 |kvs,.nil,f,h,_=>by
  unfold dv at h;obtain⟨rfl,rfl⟩:=h;exact⟨[],by show dv H [] .nil [];unfold dv;exact⟨rfl,rfl⟩,λc hc=>(nomatch hc)⟩
 |kvs,.cons y d r,f,h,nd=>by
  unfold dv at h;obtain⟨v,q,f1,f2,rfl,rfl,h1,h2⟩:=h;have nd:(y::r.names).Nodup:=nd;obtain⟨n1,n2⟩:=List.nodup_cons.mp nd;rw[Q0o];show ∃L,dv H _ (if x=y then Ds.cons y e' r else .cons y d (r.set x e')) L/\_;by_cases z:x=y
  . subst z;rw[if_pos rfl,if_pos rfl]
    have eq:(q.map λJ=>if J.1=Sum.inr x then(J.1,Y) else J)=q:=by
     have hk:=h2.keys r
     have:∀J∈q,J.1≠Sum.inr x:=λJ U e=>by
      have:J.1∈q.map (·.1):=List.mem_map.mpr ⟨J,U,rfl⟩;rw[hk,e] at this;obtain⟨y,hy,ey⟩:=List.mem_map.mp this
      cases ey;exact n1 hy
     exact(Q1s λJ U=>if_neg (this J U)).trans (List.map_id' q)
    rw[eq];exact⟨g++f2,by unfold dv;exact⟨Y,q,g,f2,rfl,rfl,hv,h2⟩,λc hc=>(List.mem_append.mp hc).elim .inr λz=>.inl (Q01 _ z)⟩
  . rw[if_neg z,if_neg (show ¬(Sum.inr y:Key)=Sum.inr x from λe=>z (Sum.inr.inj e).symm)];obtain⟨L,hf,hm⟩:=dv.set hv r h2 n2;refine⟨f1++L,by unfold dv;exact⟨v,_,f1,L,rfl,rfl,h1,hf⟩,λc hc=>?_⟩;rcases List.mem_append.mp hc with hc|hc
    . exact .inl (Q0f _ hc)
    . rcases hm c hc with hc|hc
      . exact .inl (Q01 _ hc)
      . exact .inr hc
theorem yN {kvs:List (Key × V)}{k:Key}{v u:V}(h:fU kvs k=some u):putK kvs k v=kvs.map λJ=>if J.1=k then(J.1,v) else J:=by
 unfold putK;rw[lr,h];exact if_pos rfl
theorem qW {H:Hp}{m:Ds}{l2:List Ds}:∀{l1:List Ds}{ws:List V}{U:List (List Addr)},dS H ws (l1++m::l2) U->∃v f,ws[l1.length]? =some v/\Own H v (.dct m) f/\(∀c∈f,c∈U.flatten)/\
 ∀{H':Hp} {Y:V} {m2:Ds} {g:List Addr},dS H' ws (l1++m::l2) U->Own H' Y (.dct m2) g->∃L,dS H' (ws.take l1.length++Y::ws.drop (l1.length+1)) (l1++m2::l2) L/\∀c∈L.flatten,c∈U.flatten\/c∈g
 |[],_,_,.cons (a:=a) (c:=c) h t=>⟨a,c,rfl,h,λx J=>by rw[Q0x];exact Q0f _ J,λ{H' Y m2 g} hr ho=>by
    cases hr with
    |cons h' t'=>
     refine⟨g::_,.cons ho t',λx J=>?_⟩;rw[Q0x] at J ⊢;rcases List.mem_append.mp J with z|z
     . exact .inr z
     . exact .inl (Q01 _ z)⟩
 |q::l1,_,_,.cons (a:=a) (c:=c) h t=>by
  obtain⟨v,f,h1,h2,h3,h4⟩:=qW t;refine⟨v,f,h1,h2,λx J=>by rw[Q0x];exact Q01 _ (h3 x J),λ{H' Y m2 g} hr ho=>?_⟩
  cases hr with
  |cons h' t'=>
   obtain⟨L,h5,h6⟩:=h4 t' ho;refine⟨c::L,.cons h' h5,λx J=>?_⟩;rw[Q0x] at J ⊢;rcases List.mem_append.mp J with z|z
   . exact .inl (Q0f _ z)
   . rcases h6 x z with z|z
     . exact .inl (Q01 _ z)
     . exact .inr z
theorem df.put {H:Hp}{L:V}{U:D}{g:List Addr}(hv:Own H L U g):∀{ws:List V}(as:Ds) {f:List Addr}{i:Nat},df H ws as f->i<ws.length->∃J,df H (ws.take i++L::ws.drop (i+1)) (as.put i U) J/\∀c∈J,c∈f\/c∈g
 |ws,.nil,f,i,h,hi=>by
  unfold df at h;rw[h.1] at hi;exact absurd hi (Q26 _)
 |ws,.cons y d r,f,i,h,hi=>by
  unfold df at h;obtain⟨v,q,Y,f2,rfl,rfl,h1,h2⟩:=h
  cases i with
  |zero=>
   show ∃J,df H (L::q) (.cons y U r) J/\_;exact⟨g++f2,by unfold df;exact⟨L,q,g,f2,rfl,rfl,hv,h2⟩,λc hc=>(List.mem_append.mp hc).elim .inr λz=>.inl (Q01 _ z)⟩
  |succ i=>
   obtain⟨J,h3,h4⟩:=df.put hv r h2 (Nat.lt_of_succ_lt_succ hi);refine⟨Y++J,?_,λc hc=>?_⟩
   . show df H (v::(q.take i++L::q.drop (i+1))) (.cons y d (r.put i U)) _;unfold df;exact⟨v,_,Y,J,rfl,rfl,h1,h3⟩
   . rcases List.mem_append.mp hc with hc|hc
     . exact .inl (Q0f _ hc)
     . rcases h4 c hc with hc|hc
       . exact .inl (Q01 _ hc)
       . exact .inr hc
section
variable {P:Program}{w:World}{K:W.Frag}{mg:Str->Option Value}{base:Heap}
variable {Pi:Addr}
theorem ER:d5 ["fields","step","path","record","name","inner","part","fresh"] Xe (dD (top 19)):=eL
theorem ES (n L j:Nat)(hL:8<=L)(T:Tb mg)(J:Dn K mg "stepped_in_record" mK (top 19) U Y)(aa:Dn K mg "kind_at" iq (top 5) ab ac)(ae:c_ P w K mg base da (1) ab ac iq (lK))(af:Dn K mg "stepped" gm (top 18) ag ah)(ai:c_ P w K mg base da (L) ag ah gm (jC n Pi j)):c_ P w K mg base da (L+1) U Y mK (yJ n Pi j):=by
 refine J.F.ok ER λvs H Q E h=>?_;obtain⟨pb,xs,fs,st,pt,v,m,x,k,e,e',deed,a,fp,fa,p,rfl,aw,ax,hW,⟨hv,an,ao⟩,al,hk,he,aj,hS,hj,fin⟩:=h;refine⟨rfl,λaJ A outer s nd hr hu=>?_⟩;have ap:=aj.2.1;have ak:=hW;unfold Kd.W at ak;unfold Own at hv;obtain⟨r,kvs,f,rfl,aq,rfl,hO⟩:=hv;unfold D.Sm at an;unfold D.SL at ao;obtain⟨u,g,ar,ay,az⟩:=hO.val m he;obtain⟨d0,au,f0⟩:=dB.get al hk;rw[he] at au
 cases au
 refine⟨_,(c9 (dI 4 nd (dj (pv 2) cZ))
  (c9 (dI 5 nd (dq ae hr aa (a_ (pv 0) (a_ (pv 4) b_))))
  (c9 (dA (dw gX (pv 5) el (di _)) (dc dZ) dz)
  (c9 (dI 6 nd (dq ai hr af (a_ (pv 5) (a_ (pv 1) (a_ (g7 ll (pv 2) (g6 cZ) g5) (a_ (fH hu (pv 3) (pv 4) (λ_ _=>rfl)) b_))))))
  (c9 (dA (dw gX (pv 6) el (di _)) (dc dZ) dz)
  (c9 (dI 7 nd (jP xV (by rfl) T.gJ boot_dict (a_ (pv 3) b_)))
  (c9 (n9 hu (pv 7) (pv 4) (pv 6) rfl)
  (dc (dk (pv 7)))))))))),?_⟩
 ac_rfl
 refine⟨_,rfl,pt,_,_,.str x,rfl,rfl,c8.of ap,fA (j:=0) rfl,?_⟩;refine⟨_,rfl,_,rfl,pb,x,xs,fs,k,rfl,aw,ax,ak.1,hk,λkv aA aB=>?_⟩;refine⟨_,rfl,rfl,_,rfl,?_⟩;rw[decide_eq_false aB];refine dy ?_;refine⟨_,rfl,_,rfl,_,rfl,1,rfl,pt,_,rfl,c8.of ap,mY _ _,λq hq=>?_⟩;rw[mW];have s1:=Same.new hq (o:=.tup (p.map kV));have e1:upd H q (.tup (p.map kV)) q=some (.tup (p.map kV)):=de;generalize upd H q (.tup (p.map kV))=H1 at s1 e1 ⊢;have gx:eU H1 r (.str x) (some u):=by have:=eU.k (k:=Sum.inr x) (s1 _ _ aq);rw[ar] at this;exact this
 refine⟨_,rfl,_,rfl,r,_,rfl,gx,?_⟩;refine⟨kv,st,q,u,k,e,e',deed,a,g,fa,p,rfl,KA.mono (Tu.of s1) k aA,Fs.mP ak.2.2 hk,⟨ay.same s1,Ds.oQ an.2 he,Ds.mV ao he⟩,f0,aj.same s1 e1,hS,hj,λv' aK H2 kp av ho hf=>?_⟩;have aL:=aj.2.2.2.2.same s1;have am:fo Pi H H2:=(Kp.of s1).trans kp;refine⟨_,rfl,rfl,_,rfl,?_⟩;rw[decide_eq_false ho.nn];refine dy ?_;have aC:H2 r=some (.dK kvs):=am.at aj.2.2.2.2 (by intro ps z;cases z) aq;refine⟨_,rfl,r,kvs,rfl,aC,λl hl=>?_⟩;have s3:=Same.new hl (o:=.dK kvs);have e3:upd H2 l (.dK kvs) l=some (.dK kvs):=de;generalize aM:upd H2 l (.dK kvs)=H3 at s3 e3 ⊢;have aD:m.names.Nodup:=by rw[dB.names al];exact ak.1
 have aE:kvs.length<sizeLine:=by
  rw[hO.len,dB.names al];exact Q17 ak.2.1 (by decide)
 refine⟨_,rfl,_,rfl,_,rfl,l,_,rfl,jr.k (k:=Sum.inr x) e3 aE,?_⟩;rw[yN ar]
 have kl:∀c o,H2 c=some o->upd H3 l (.dK (kvs.map λkv=>if kv.1=Sum.inr x then(kv.1,v') else kv)) c=some o:=λc o ec=>by
  rw[dh (dN ec hl)];exact s3 _ _ ec
 have aG:dv H2 kvs m f:=hO.kW am aj.2.2.2.2;obtain⟨f',aH,aI⟩:=dv.set (x:=x) ho m aG aD;refine⟨_,rfl,?_⟩;refine fin _ (l::f') _ (λc o hc ec=>kl c o (am c o hc ec)) (av.same kl) ?_ λc hc=>?_
 . unfold Own;exact⟨l,_,f',rfl,de,rfl,aH.same kl⟩
 . rcases List.mem_cons.mp hc with rfl|hc
   . exact .inl (am.eX aj.2.2.2.2 av hl)
   . rcases aI c hc with hc|hc
     . exact .inr (.inl (Q04 _ hc))
     . rcases hf c hc with z|z|z
       . exact .inl (fw s1 z)
       . exact .inr (.inl (Q04 _ (az c z)))
       . exact .inr (.inr z)
theorem ET:d5 ["kind","step","path","rows","number","row"] Xj (dD (top 20)):=eL
theorem EU (n L j:Nat)(hL:8<=L)(T:Tb mg)(J:Dn K mg "stepped_in_rows" mL (top 20) U Y)(ag:Dn K mg "row_number" hV (top 22) ah ai)(aj:c_ P w K mg base da (8) ah ai hV (mT))(ab:Dn K mg "ends_at_key" lH (top 21) ac ae)(af:c_ P w K mg base da (1) ac ae lH (qR))(ao:Dn K mg "stepped" gm (top 18) ap aq)(ar:c_ P w K mg base da (L) ap aq gm (jC n Pi j))(au:Dn K mg "with_at" jY (top 23) av aw)(ax:c_ P w K mg base da (1) av aw jY (oZ))(ak:Dn K mg "in_order" hU (top 15) al am)(an:c_ P w K mg base da (8) al am hU (o7 Pi iG iH)):c_ P w K mg base da (L+1) U Y mL (yK n Pi j):=by
 refine J.F.ok ET λvs H Q E h=>?_;obtain⟨kv,st,pt,v,key,by_,fs,l1,m,l2,x,k,e,e',deed,a,fp,fa,p,rfl,aZ,hW,⟨hv,aK,aG⟩,aD,aL,hk,he,aH,hS,hj,fin⟩:=h;refine⟨rfl,λbm A outer s nd hr hu=>?_⟩;have aI:=aH.2.1;have hT0:=aH.2.2.2.2;have aE:=aZ;unfold KA at aE;obtain⟨pk,pb,xs,rfl,aA,aM,aN⟩:=aE;have aO:=hW;unfold Kd.W at aO;obtain⟨a1,a2,a3,az,a4⟩:=aO;have a5:=az;obtain⟨kk,aP,_⟩:=a5;unfold Own at hv;obtain⟨l,ws,fq,rfl,hl,rfl,a6⟩:=hv;obtain⟨fl,aa,rfl⟩:=a6.rows;unfold du at aD;obtain⟨bn,e0,aB,bo,aQ⟩:=aD;injection e0 with e0
 cases kT e0;unfold D.Sm at aK;unfold D.SL at aG;have bp:ws.length=l1.length+(l2.length+1):=by rw[(A3.len aa).1,Q08,Q0e]
 have bq:ws.length<=60:=by rw[(A3.len aa).1,<-iu];exact aG.1
 have fm:=aB m (Q01 _ Q0a);obtain⟨rv,rf,a7,a8,a9,aW⟩:=qW aa
 refine⟨_,(c9 (dI 4 nd (dq aj hr ag (a_ (pv 0) (a_ (pv 3) (a_ (dj (pv 2) cZ) b_)))))
  (c9 (dA (PW.pt (gG (dw gX (pv 4) el (di _)) (gN (eO (dq af hr ab (a_ (pv 0) (a_ (pv 2) b_))))))) (dc dZ) dz)
  (c9 (dI 5 nd (dq ar hr ao (a_ (dW (a_ dO (a_ (dj (pv 0) cZ) b_))) (a_ (pv 1) (a_ (g7 ll (pv 2) (g6 cZ) g5) (a_ (gh (pv 3) (pv 4)) b_))))))
  (c9 (dA (dw gX (pv 5) el (di _)) (dc dZ) dz)
  (dc (dk (dq an hr ak (a_ (pv 0) (a_ (dq ax hr au (a_ (pv 3) (a_ (pv 4) (a_ (pv 5) b_)))) b_))))))))),?_⟩
 ac_rfl
 refine⟨_,rfl,_,rfl,_,rfl,pt,_,_,kV (keyOf m key),rfl,rfl,c8.of aI,fA (j:=0) rfl,?_⟩;refine⟨pk,pb,l,xs,key,by_,fs,ws,_,fl,_,kk,rfl,aA,aM,aN,hW,hl,aa,aB,aP,fm.key aP az,λi r H1 s1 hi ba=>?_,λbb=>absurd rfl (bb m (Q01 _ Q0a))⟩;have ei:=yC aQ hi ba;subst ei;refine⟨_,rfl,rfl,_,rfl,dy ?_⟩;refine⟨_,rfl,_,rfl,pk,pb,pt,key,by_,_,x,p,rfl,s1 _ _ aA,s1 _ _ aI,aL,_,rfl,dy ?_⟩;refine⟨_,rfl,pk,_,_,_,rfl,rfl,c8.of (s1 _ _ aA),rfl,er,λt ht=>?_⟩;have s2:=Same.new ht (o:=.tup [.str "record",.ref pb]);have e2:upd H1 t (.tup [.str "record",.ref pb]) t=some (.tup [.str "record",.ref pb]):=de;generalize upd H1 t (.tup [.str "record",.ref pb])=H2 at s2 e2 ⊢;have sa:=s1.trans s2;refine⟨_,rfl,_,rfl,1,rfl,pt,_,rfl,c8.of (sa _ _ aI),mY _ _,λq hq=>?_⟩;rw[mW];have s3:=Same.new hq (o:=.tup ((Sum.inr x::p:List Key).map kV));have e3:upd H2 q (.tup ((Sum.inr x::p:List Key).map kV)) q=some (.tup ((Sum.inr x::p:List Key).map kV)):=de;generalize upd H2 q (.tup ((Sum.inr x::p:List Key).map kV))=H3 at s3 e3 ⊢;have sb:=sa.trans s3;refine⟨_,rfl,_,rfl,l,ws,_,rv,rfl,rfl,dg.of (sb _ _ hl),fA a7,?_⟩;have aX:KA H3 (.ref t) (.eQ fs):=by unfold KA;exact⟨t,pb,xs,rfl,s3 _ _ e2,sb _ _ aM,FA.mono (Tu.of sb) fs aN⟩
 have aT:=EO (l1:=l1) (m:=m) (l2:=l2);refine⟨.ref t,st,q,rv,.eQ fs,.dct m,_,deed,a,rf,fa,_,rfl,aX,by unfold Kd.W;exact⟨a1,a2,a3⟩,⟨a8.same sb,Ds.jz aK.2 aT,Ds.mU aG.2 aT⟩,by unfold du;exact⟨m,rfl,fm⟩,aH.same sb e3,.fld hk he hS,hj,λv' br H4 kp aU ho hf=>?_⟩;have ay:fo Pi H H4:=(Kp.of sb).trans kp;refine⟨_,rfl,rfl,_,rfl,?_⟩;rw[decide_eq_false ho.nn];refine dy ?_;have tu:=ay.tu hT0;have bc:H4 l=some (.lst ws):=ay.at hT0 (by intro ps z;cases z) hl;have aC:dS H4 ws (l1++m::l2) fl:=dS.keep tu aa λc hc o ec=>ay.mu hT0 (dS.mu aa c hc) ec;refine⟨_,rfl,_,rfl,_,rfl,_,rfl,l,ws,v',l1.length,rfl,bc,by omega,by omega,λp5 H5 s5 bt e5=>?_⟩;obtain⟨bd,be,bf⟩:=aW (dS.keep (Tu.of s5) aC λc _ o ec=>s5 _ _ ec) (ho.same s5)
 have ek:(l1++m.set x e'::l2).map (λr=>keyOf r key)=(l1++m::l2).map (λr=>keyOf r key):=by
  rw[Q0k,Q0k,Q0o,Q0o,qQ (Ne.symm aL)]
 obtain⟨d0,aV,f0⟩:=dB.get fm hk;rw[he] at aV
 cases aV;refine⟨pk,p5,pb,key,by_,fs,_,_,bd,rfl,s5 _ _ (tu _ _ aA),e5,be,?_,aU.same s5,λr hr=>?_,az,a4,by rw[ek];exact aQ,λD bg aY H6 bh bi hD bj hR aJ=>?_⟩
 . rw[Q08,Q0n,Q0e,Q16];omega
 . rcases List.mem_append.mp hr with z|z
   . exact aB r (Q0f _ z)
   . rcases List.mem_cons.mp z with z|z
     . rw[z];exact dB.set fm hk (hS.fit f0)
     . exact aB r (Q01 _ (Q04 _ z))
 . refine fin _ (D::aY.flatten) _ (ay.trans ((Kp.of s5).trans bh)) bi (by unfold Own;exact⟨D,bg,_,rfl,bj,rfl,hR.own⟩) λc hc=>?_;rcases List.mem_cons.mp hc with rfl|hc
   . exact .inl (ay.eX hT0 aU (fw s5 hD))
   . rcases bf c ((mE aJ).mem_iff.mp hc) with z|z
     . exact .inr (.inl (Q04 _ z))
     . rcases hf c z with z|z|z
       . exact .inl (fw sb z)
       . exact .inr (.inl (Q04 _ (a9 c z)))
       . exact .inr (.inr z)
end
theorem Ds.kB:∀{as:Ds}{i:Nat}{c:D},as.at i=some c->i<as.len
 | .nil,i,_,h=>by cases i <;> cases h
 | .cons _ d r,0,_,h=>by show 0<r.len+1;omega
 | .cons _ d r,i+1,_,h=>by
   have:=Ds.kB (as:=r) (i:=i) h;show i+1<r.len+1;omega
theorem df.EV {H:Hp}{ws:List V}{as:Ds}{f:List Addr}{i:Nat}{c:D}(h:df H ws as f)(e:as.at i=some c):∃v g,ws[i]? =some v/\Own H v c g/\∀x∈g,x∈f:=by
 have hi:=Ds.kB e;rw[<-h.len] at hi;obtain⟨d,g,h1,h2,J⟩:=h.get as (Q05 hi);rw[e] at h1
 cases h1;exact⟨_,g,Q05 hi,h2,J⟩
section
variable {P:Program}{w:World}{K:W.Frag}{mg:Str->Option Value}{base:Heap}
variable {Pi:Addr}
theorem EW:d5 ["kind","step","path","tree","number","arms","arm"] XT (dD (top 25)):=eL
theorem EX (n L j:Nat)(hL:8<=L)(T:Tb mg)(J:Dn K mg "stepped_in_arm" jb (top 25) U Y)(ak:Dn K mg "misfit" fO (top 7) al am)(an:c_ P w K mg base da (7) al am fO (iV 1))(aa:Dn K mg "stepped" gm (top 18) ab ac)(ae:c_ P w K mg base da (L) ab ac gm (jC n Pi j))(af:Dn K mg "with_at" jY (top 23) ag ah)(ai:c_ P w K mg base da (1) ag ah jY (oZ)):c_ P w K mg base da (L+1) U Y jb (qV n Pi j):=by
 refine J.F.ok EW λvs H Q E h=>?_;obtain⟨kv,st,pt,v,k,x,y,t,as,c,c',deed,a,fp,fa,p,i,rfl,aA,hW,⟨hv,au,av⟩,ap,aB,aq,hS,hj,fin⟩:=h;refine⟨rfl,λaO A outer s nd hr hu=>?_⟩;have aw:=aq.2.1;have hT0:=aq.2.2.2.2;obtain⟨tr,u1,u2,g1,g2,rfl,ax,aC,ay,rfl⟩:=kU hv;unfold Own at ay;obtain⟨l,ws,fq,rfl,hl,rfl,ar⟩:=ay;unfold D.Sm Ds.Sm Ds.Sm D.Sm at au;unfold D.SL Ds.SL Ds.SL D.SL at av;obtain⟨wv,wg,aD,aE,aG⟩:=ar.EV ap;have aN:=ar.len;have hi:=Ds.kB ap
 refine⟨_,(c9 (dI 4 nd (dj (pv 2) cZ))
  (c9 (dI 5 nd (dj (pv 3) cZ))
  (c9 (dA (PW.pt (gG (dw gY (dq an hr ak (a_ (dW (a_ dO b_)) (a_ (pv 4) b_))) el (di _)) (gG (dw i4 (pv 4) cZ (di _)) (gN (dw A8 (pv 4) (dG fC (by rfl) T.fv PySem.boot_len (a_ (pv 5) b_)) (di _)))))) (dc dZ) dz)
  (c9 (dI 6 nd (dq ae hr aa (a_ (pv 0) (a_ (pv 1) (a_ (g7 ll (pv 2) (g6 cZ) g5) (a_ (gh (pv 5) (pv 4)) b_))))))
  (dc (dk (gr (dw gX (pv 6) el (di _)) el (dW (a_ (dj (pv 3) cZ) (a_ (dq ai hr af (a_ (pv 5) (a_ (pv 4) (a_ (pv 6) b_)))) b_)))))))))),?_⟩
 ac_rfl
 refine⟨_,rfl,pt,_,_,.int i,rfl,rfl,c8.of aw,fA (j:=0) rfl,?_⟩;refine⟨_,rfl,tr,_,_,.ref l,rfl,rfl,c8.of ax,rfl,?_⟩;refine⟨fJ,λtq aH=>?_⟩;have s1:=Same.new aH (o:=.tup [.str "number"]);have e1:upd H tq (.tup [.str "number"]) tq=some (.tup [.str "number"]):=de;generalize upd H tq (.tup [.str "number"])=H1 at s1 e1 ⊢;refine⟨_,rfl,.ref tq,.int i,.num,.int i,[],rfl,by unfold KA;exact⟨tq,rfl,e1⟩,trivial,by unfold Own;exact⟨rfl,rfl⟩,by unfold du;exact⟨_,rfl⟩,Q00 _,by unfold D.Sm;trivial,λH2 s2=>?_⟩;have sa:=s1.trans s2;refine⟨rfl,_,rfl,?_⟩;rw[decide_eq_true rfl];refine dy ?_;refine⟨_,rfl,_,_,rfl,rfl,_,rfl,eF (λz=>absurd (of_decide_eq_true z) (by omega)) (λ_=>?_)⟩;refine⟨_,rfl,_,rfl,l,_,rfl,.inl (dg.of (sa _ _ hl)),_,_,rfl,rfl,_,rfl,eF (λz=>absurd (of_decide_eq_true z) (by omega)) (λ_=>?_)⟩;refine⟨_,rfl,_,rfl,_,rfl,1,rfl,pt,_,rfl,c8.of (sa _ _ aw),mY _ _,λq hq=>?_⟩;rw[mW];have s3:=Same.new hq (o:=.tup (p.map kV));have e3:upd H2 q (.tup (p.map kV)) q=some (.tup (p.map kV)):=de;generalize upd H2 q (.tup (p.map kV))=H3 at s3 e3 ⊢;have sb:=sa.trans s3;refine⟨_,rfl,_,rfl,l,ws,_,wv,rfl,rfl,dg.of (sb _ _ hl),fA aD,?_⟩;refine⟨_,st,q,wv,.tree k,c,c',deed,a,wg,fa,p,rfl,KA.mono (Tu.of sb) _ aA,hW,⟨aE.same sb,Ds.jz au.2.2.1.2 ap,Ds.mU av.2.1.2 ap⟩,aB,aq.same sb e3,hS,hj,λv' aP H4 kp az ho hf=>?_⟩;have aj:fo Pi H H4:=(Kp.of sb).trans kp;refine⟨_,rfl,rfl,_,rfl,?_⟩;rw[decide_eq_false ho.nn];refine dy ?_;have tu:=aj.tu hT0;have aI:H4 l=some (.lst ws):=aj.at hT0 (by intro ps z;cases z) hl;refine⟨_,rfl,tr,_,_,u1,rfl,rfl,c8.of (tu _ _ ax),rfl,?_⟩;refine⟨_,rfl,_,rfl,_,rfl,l,ws,v',i,rfl,aI,by omega,by omega,λp5 H5 s5 aJ e5=>?_⟩;refine⟨er,λp6 aK=>?_⟩;have s6:=Same.new aK (o:=.tup [u1,.ref p5]);have ao:=s5.trans s6;obtain⟨f',aL,aM⟩:=df.put (H:=upd H5 p6 (.tup [u1,.ref p5])) (i:=i) (ho.same ao) as ((ar.kW aj hT0).same ao) (by omega)
 have ol:Own (upd H5 p6 (.tup [u1,.ref p5])) (.ref p5) (.lst (as.put i c')) (p5::f'):=by
  unfold Own;exact⟨p5,_,_,rfl,s6 _ _ e5,rfl,aL⟩
 refine fin _ _ _ (aj.trans (Kp.of ao)) (az.same ao) (ix de ((aC.kW aj hT0).same ao) ol) λz hz=>?_;rcases List.mem_append.mp hz with hz|hz
 . exact .inr (.inl (Q0f _ hz))
 . rcases List.mem_cons.mp hz with rfl|hz
   . exact .inl (aj.eX hT0 az aJ)
   . rcases aM z hz with hz|hz
     . exact .inr (.inl (Q01 _ (Q04 _ hz)))
     . rcases hf z hz with z1|z1|z1
       . exact .inl (fw sb z1)
       . exact .inr (.inl (Q01 _ (Q04 _ (aG _ z1))))
       . exact .inr (.inr z1)
theorem yO:d5 ["kind","step","path","tree","knot"] XT (dD (top 24)):=eL
theorem EY (n L j:Nat)(hL:8<=L)(T:Tb mg)(Y:Dn K mg "stepped_in_tree" jb (top 24) aa ab)(af:Dn K mg "stepped" gm (top 18) ah ai)(ag:c_ P w K mg base da (L) ah ai gm (jC n Pi j))(J:Dn K mg "stepped_in_arm" jb (top 25) ac ae)(U:c_ P w K mg base da (L+1) ac ae jb (qV n Pi j)):c_ P w K mg base da (L+2) aa ab jb (yL n Pi j):=by
 refine Y.F.ok yO λvs H Q E h=>?_;refine⟨by
  rcases h with⟨kv,st,pt,v,k,x,y,t,as,c,c',deed,a,fp,fa,p,i,rfl,_⟩|⟨kv,st,pt,v,k,x,y,t,t',as,deed,a,fp,fa,p,rfl,_⟩ <;> rfl,λaz A outer s nd hr hu=>?_⟩
 rcases h with h|⟨kv,st,pt,v,k,x,y,t,t',as,deed,a,fp,fa,p,rfl,ak,hW,⟨hv,am,an⟩,aq,aj,hS,hj,fin⟩
 . have h0:=h;obtain⟨kv,st,pt,v,k,x,y,t,as,c,c',deed,a,fp,fa,p,i,rfl,ak,hW,_,_,_,aj,_⟩:=h0;refine⟨_,(c9 (dA (dw ij (dj (pv 2) cZ) dO (di _)) (dc (dk (dq U hr J (a_ (pv 0) (a_ (pv 1) (a_ (pv 2) (a_ (pv 3) b_))))))) dz)
   (c9 (dI 4 nd (dq ag hr af (a_ (dj (pv 0) cZ) (a_ (pv 1) (a_ (g7 ll (pv 2) (g6 cZ) g5) (a_ (dj (pv 3) cZ) b_))))))
   (dc (dk (gr (dw gX (pv 4) el (di _)) el (dW (a_ (pv 4) (a_ (dj (pv 3) cZ) b_)))))))),?_⟩
   refine⟨_,rfl,pt,_,_,.int i,rfl,rfl,c8.of aj.2.1,fA (j:=0) rfl,rfl,_,rfl,dM ?_⟩;exact⟨_,rfl,_,rfl,_,rfl,_,rfl,h⟩
 have ao:=aj.2.1;have hT0:=aj.2.2.2.2;obtain⟨tr,u1,u2,g1,g2,rfl,ap,ar,au,rfl⟩:=kU hv;unfold KA at ak;obtain⟨pk,ku,rfl,av,aw⟩:=ak;unfold Kd.W at hW;unfold D.Sm Ds.Sm at am;unfold D.SL Ds.SL at an
 refine⟨_,(c9 (dA (dw ij (dj (pv 2) cZ) dO (di _)) (dc (dk (dq U hr J (a_ (pv 0) (a_ (pv 1) (a_ (pv 2) (a_ (pv 3) b_))))))) dz)
  (c9 (dI 4 nd (dq ag hr af (a_ (dj (pv 0) cZ) (a_ (pv 1) (a_ (g7 ll (pv 2) (g6 cZ) g5) (a_ (dj (pv 3) cZ) b_))))))
  (dc (dk (gr (dw gX (pv 4) el (di _)) el (dW (a_ (pv 4) (a_ (dj (pv 3) cZ) b_)))))))),?_⟩
 ac_rfl
 refine⟨_,rfl,pt,_,_,.str "knot",rfl,rfl,c8.of ao,fA (j:=0) rfl,rfl,_,rfl,?_⟩;rw[show decide (V.str "knot"=V.str "knot")=true from decide_eq_true rfl];refine dy ?_;refine⟨_,rfl,pk,_,_,ku,rfl,rfl,c8.of av,rfl,_,rfl,_,rfl,1,rfl,pt,_,rfl,c8.of ao,mY _ _,λq hq=>?_⟩;rw[mW];have s1:=Same.new hq (o:=.tup (p.map kV));have e1:upd H q (.tup (p.map kV)) q=some (.tup (p.map kV)):=de;generalize upd H q (.tup (p.map kV))=H1 at s1 e1 ⊢;refine⟨_,rfl,tr,_,_,u1,rfl,rfl,c8.of (s1 _ _ ap),rfl,?_⟩;refine⟨ku,st,q,u1,k,t,t',deed,a,g1,fa,p,rfl,KA.mono (Tu.of s1) _ aw,hW,⟨ar.same s1,am.2.1,an.1⟩,aq,aj.same s1 e1,hS,hj,λv' aA H4 kp ax ho hf=>?_⟩;have al:fo Pi H H4:=(Kp.of s1).trans kp;refine⟨_,rfl,rfl,_,rfl,?_⟩;rw[decide_eq_false ho.nn];refine dy ?_;have tu:=al.tu hT0;refine⟨_,rfl,_,rfl,tr,_,_,u2,rfl,rfl,c8.of (tu _ _ ap),rfl,er,λp6 ay=>?_⟩;have s6:=Same.new ay (o:=.tup [v',u2]);refine fin _ _ _ (al.trans (Kp.of s6)) (ax.same s6) (ix de (ho.same s6) ((au.kW al hT0).same s6)) λz hz=>?_;rcases List.mem_append.mp hz with hz|hz
 . rcases hf z hz with z1|z1|z1
   . exact .inl (fw s1 z1)
   . exact .inr (.inl (Q0f _ z1))
   . exact .inr (.inr z1)
 . exact .inr (.inl (Q01 _ hz))
theorem EZ:d5 ["fields","step","path","value","name","part"] Xf (dD (top 26)):=eL
theorem E1 (n L j:Nat)(hL:8<=L)(T:Tb mg)(J:Dn K mg "stepped_in_either" mM (top 26) U Y)(aa:Dn K mg "kind_at" iq (top 5) ab ac)(ae:c_ P w K mg base da (1) ab ac iq (lK))(af:Dn K mg "stepped" gm (top 18) ag ah)(ai:c_ P w K mg base da (L) ag ah gm (jC n Pi j)):c_ P w K mg base da (L+1) U Y mM (yM n Pi j):=by
 refine J.F.ok EZ λvs H Q E h=>?_;obtain⟨pb,xs,fs,st,pt,v,x,k,u,u',deed,a,fp,fa,p,rfl,ap,aq,hW,⟨hv,aj,ak⟩,hk,ar,al,hS,hj,fin⟩:=h;refine⟨rfl,λaA A outer s nd hr hu=>?_⟩;have an:=al.2.1;have hT0:=al.2.2.2.2;unfold pairD at hv aj ak;obtain⟨tr,u1,u2,g1,g2,rfl,ao,au,av,rfl⟩:=kU hv
 cases iw au;have am:=hW;unfold Kd.W at am;unfold D.Sm Ds.Sm Ds.Sm at aj;unfold D.SL Ds.SL Ds.SL at ak
 refine⟨_,(c9 (dI 4 nd (dj (pv 3) cZ))
  (c9 (dA (dw ij (dj (pv 2) cZ) (pv 4) (di _)) (dc dZ) dz)
  (c9 (dI 5 nd (dq ai hr af (a_ (dq ae hr aa (a_ (pv 0) (a_ (pv 4) b_))) (a_ (pv 1) (a_ (g7 ll (pv 2) (g6 cZ) g5) (a_ (dj (pv 3) cZ) b_))))))
  (dc (dk (gr (dw gX (pv 5) el (di _)) el (dW (a_ (pv 4) (a_ (pv 5) b_))))))))),?_⟩
 ac_rfl
 refine⟨_,rfl,tr,_,_,.str x,rfl,rfl,c8.of ao,rfl,?_⟩;refine⟨_,rfl,pt,_,_,.str x,rfl,rfl,c8.of an,fA (j:=0) rfl,_,rfl,rfl,_,rfl,?_⟩;rw[decide_eq_true (show V.str x=V.str x from rfl)];refine dy ?_;refine⟨_,rfl,_,rfl,pb,x,xs,fs,k,rfl,ap,aq,am.1,hk,λkv aw aB=>?_⟩;refine⟨_,rfl,_,rfl,1,rfl,pt,_,rfl,c8.of an,mY _ _,λq hq=>?_⟩;rw[mW];have s1:=Same.new hq (o:=.tup (p.map kV));have e1:upd H q (.tup (p.map kV)) q=some (.tup (p.map kV)):=de;generalize upd H q (.tup (p.map kV))=H1 at s1 e1 ⊢;refine⟨_,rfl,tr,_,_,u2,rfl,rfl,c8.of (s1 _ _ ao),rfl,?_⟩;refine⟨kv,st,q,u2,k,u,u',deed,a,g2,fa,p,rfl,KA.mono (Tu.of s1) _ aw,Fs.mP am.2.2.2 hk,⟨av.same s1,aj.2.2.1,ak.2.1⟩,ar,al.same s1 e1,hS,hj,λv' aC H4 kp ax ho hf=>?_⟩;have ay:fo Pi H H4:=(Kp.of s1).trans kp;refine⟨_,rfl,rfl,_,rfl,?_⟩;rw[decide_eq_false ho.nn];refine dy ?_;refine⟨_,rfl,_,rfl,er,λp6 az=>?_⟩;have s6:=Same.new az (o:=.tup [.str x,v']);unfold pairD at fin;refine fin _ _ _ (ay.trans (Kp.of s6)) (ax.same s6) (ix de (f:=[]) (by unfold Own;exact⟨rfl,rfl⟩) (ho.same s6)) λz hz=>?_;rcases hf z hz with z1|z1|z1
 . exact .inl (fw s1 z1)
 . exact .inr (.inl (Q01 _ z1))
 . exact .inr (.inr z1)
end
def yP (n:Nat) (Pi:Addr) (J:Nat):Sp:=λvs H Q _=>∃L pl v,vs=[L,.ref pl,v]/\((H pl=some (.lst [])/\Q v H)\/∃st pt rest k d d' deed a fp U p,H pl=some (.lst [.ref st])/\H st=some (.tup (.str deed:: .ref pt::rest))/\KA H L k/\k.W/\SD H v d fp/\du k d/\SE n Pi H st pt deed a U p/\eR k d deed a p d'/\p.length<=J/\SQ Pi H fp U d' Q)
section
variable {P:Program}{w:World}{K:W.Frag}{mg:Str->Option Value}{base:Heap}
variable {Pi:Addr}
theorem yQ:d5 ["kind","step","path","value","form"] Xh (dD (top 18)):=eL
theorem E2 (n:Nat)(T:Tb mg)(J:Dn K mg "stepped" gm (top 18) L U)(aa:Dn K mg "acted" lI (top 27) ab ac)(ae:c_ P w K mg base da (4 * n+5) ab ac lI (qU n Pi)):c_ P w K mg base da (4 * n+6) L U gm (jC n Pi 0):=by
 refine J.F.ok yQ λvs H Q E h=>?_;obtain⟨kv,st,pt,v,k,d,d',deed,a,fp,fa,p,rfl,ah,hW,⟨hv,ai,af⟩,ag,Y,hS,hj,fin⟩:=h;refine⟨rfl,λak A outer s nd hr hu=>?_⟩
 cases p with
 |cons=>cases hj
 |nil=>
 refine⟨_,(c9 (dA (dw dX (dG fC (by rfl) T.fv PySem.boot_len (a_ (pv 2) b_)) cZ (di _)) (dc (dk (dq ae hr aa (a_ (pv 0) (a_ (pv 1) (a_ (pv 3) b_)))))) dz)
  (c9 dZ
  (c9 dZ
  (c9 dZ
  (c9 dZ
  (c9 dZ
  (dc dZ))))))),?_⟩
 ac_rfl
 refine⟨_,rfl,pt,_,rfl,.inr (c8.of Y.2.1),rfl,_,rfl,dM ?_⟩;refine⟨_,rfl,_,rfl,_,rfl,kv,st,v,k,d,d',deed,a,fp,fa,rfl,ah,hW,hv,ag,Y.1,hS,Y.2.2.1,Y.2.2.2.1,λxs e=>?_,ai,Y.2.2.2.2,λv' aj H' k1 k2 k3 k4 _=>fin v' aj H' k1 k2 k3 k4⟩;subst e;unfold D.SL at af;exact af.1
theorem E3 (n L j:Nat)(T:Tb mg)(au:Dn K mg "stepped" gm (top 18) av aw)(Y:Dn K mg "stepped_in_record" mK (top 19) aa ab)(ac:c_ P w K mg base da (L+1) aa ab mK (yJ n Pi j))(ai:Dn K mg "stepped_in_rows" mL (top 20) aj ak)(al:c_ P w K mg base da (L+1) aj ak mL (yK n Pi j))(am:Dn K mg "stepped_in_tree" jb (top 24) an ao)(ap:c_ P w K mg base da (L+2) an ao jb (yL n Pi j))(ae:Dn K mg "stepped_in_either" mM (top 26) af ag)(ah:c_ P w K mg base da (L+1) af ag mM (yM n Pi j)):c_ P w K mg base da (L+3) av aw gm (jC n Pi (j+1)):=by
 refine au.F.ok yQ λvs H Q E h=>?_;obtain⟨kv,st,pt,v,k,d,d',deed,a,fp,fa,p,rfl,ar,hW,ay,U,ax,hS,hj,fin⟩:=h;refine⟨rfl,λaC A outer s nd hr hu=>?_⟩
 obtain⟨κ,p',rfl⟩:∃κ p',p=κ::p':=by
  cases p with
  |nil=>cases hj
  |cons κ p'=>exact⟨κ,p',rfl⟩
 have hj:p'.length+1=j+1:=hj
 refine⟨_,(c9 (dA (dw dX (dG fC (by rfl) T.fv PySem.boot_len (a_ (pv 2) b_)) cZ (di _)) (dc dZ) dz)
  (c9 (dI 4 nd (dj (pv 0) cZ))
  (c9 (dA (dw dX (pv 4) dO (di _)) (dc (dk (dq ac hr Y (a_ (dj (pv 0) cZ) (a_ (pv 1) (a_ (pv 2) (a_ (pv 3) b_))))))) dz)
  (c9 (dA (dw dX (pv 4) dO (di _)) (dc (dk (dq al hr ai (a_ (pv 0) (a_ (pv 1) (a_ (pv 2) (a_ (pv 3) b_))))))) dz)
  (c9 (dA (dw dX (pv 4) dO (di _)) (dc (dk (dq ap hr am (a_ (pv 0) (a_ (pv 1) (a_ (pv 2) (a_ (pv 3) b_))))))) dz)
  (c9 (dA (dw dX (pv 4) dO (di _)) (dc (dk (dq ah hr ae (a_ (dj (pv 0) cZ) (a_ (pv 1) (a_ (pv 2) (a_ (pv 3) b_))))))) dz)
  (dc dZ))))))),?_⟩
 ac_rfl
 refine⟨_,rfl,pt,_,rfl,.inr (c8.of ax.2.1),rfl,_,rfl,eF (λz=>absurd (of_decide_eq_true z) (by simp;omega)) (λ_=>?_)⟩
 cases hS with
 |@fld fs m x deed k e a e' p hg hm hS=>
  have J:=ar;unfold KA at J;obtain⟨pk,pb,xs,rfl,aq,az,aA⟩:=J;unfold du at U;obtain⟨m',e1,hF⟩:=U;injection e1 with e1
  cases e1;refine⟨_,rfl,pk,_,_,.str "record",rfl,rfl,c8.of aq,rfl,?_⟩;refine⟨_,rfl,rfl,_,rfl,dM ?_⟩;exact⟨_,rfl,pk,_,_,.ref pb,rfl,rfl,c8.of aq,rfl,_,rfl,_,rfl,_,rfl,pb,xs,fs,st,pt,v,m,x,k,e,e',deed,a,fp,fa,_,rfl,az,aA,hW,ay,hF,hg,hm,ax,hS,by omega,fin⟩
 |@row key by_ fs l1 l2 m x deed k e a e' p hx hg hm hS=>
  have J:=ar;unfold KA at J;obtain⟨pk,pb,xs,rfl,aq,az,aA⟩:=J;refine⟨_,rfl,pk,_,_,.str "rows",rfl,rfl,c8.of aq,rfl,?_⟩;refine⟨_,rfl,rfl,_,rfl,?_⟩;rw[show decide (V.str "rows"=V.str "record")=false by decide +kernel];refine dy ?_;refine⟨_,rfl,rfl,_,rfl,dM ?_⟩;exact⟨_,rfl,_,rfl,_,rfl,_,rfl,.ref pk,st,pt,v,key,by_,fs,l1,m,l2,x,k,e,e',deed,a,fp,fa,p,rfl,ar,hW,ay,U,hx,hg,hm,ax,hS,by have hj:p.length+1+1=j+1:=hj;omega,fin⟩
 |@knot k x y deed t a t' as p hS=>
  have J:=ar;unfold KA at J;obtain⟨pk,ku,rfl,aq,aB⟩:=J;unfold du at U;unfold Tree eG at U;refine⟨_,rfl,pk,_,_,.str "tree",rfl,rfl,c8.of aq,rfl,?_⟩;refine⟨_,rfl,rfl,_,rfl,?_⟩;rw[show decide (V.str "tree"=V.str "record")=false by decide +kernel];refine dy ?_;refine⟨_,rfl,rfl,_,rfl,?_⟩;rw[show decide (V.str "tree"=V.str "rows")=false by decide +kernel];refine dy ?_;refine⟨_,rfl,rfl,_,rfl,dM ?_⟩;exact⟨_,rfl,_,rfl,_,rfl,_,rfl,.inr ⟨.ref pk,st,pt,v,k,x,y,t,t',as,deed,a,fp,fa,_,rfl,ar,hW,ay,U.1,ax,hS,by omega,fin⟩⟩
 |@arm k x y deed t a c c' as i p hi hS=>
  have J:=ar;unfold KA at J;obtain⟨pk,ku,rfl,aq,aB⟩:=J;unfold du at U;unfold Tree eG at U;refine⟨_,rfl,pk,_,_,.str "tree",rfl,rfl,c8.of aq,rfl,?_⟩;refine⟨_,rfl,rfl,_,rfl,?_⟩;rw[show decide (V.str "tree"=V.str "record")=false by decide +kernel];refine dy ?_;refine⟨_,rfl,rfl,_,rfl,?_⟩;rw[show decide (V.str "tree"=V.str "rows")=false by decide +kernel];refine dy ?_;refine⟨_,rfl,rfl,_,rfl,dM ?_⟩;exact⟨_,rfl,_,rfl,_,rfl,_,rfl,.inl ⟨.ref pk,st,pt,v,k,x,y,t,as,c,c',deed,a,fp,fa,_,i,rfl,ar,hW,ay,hi,by unfold du;exact dR.at U.2 hi,ax,hS,by omega,fin⟩⟩
 |@alt fs x deed k u a u' p hg hS=>
  have J:=ar;unfold KA at J;obtain⟨pk,pb,xs,rfl,aq,az,aA⟩:=J;unfold du at U;obtain⟨x',v0,e,f⟩:=U;unfold pairD at e;injection e with e
  injection e with _ e1 e2
  injection e1 with e1
  injection e2 with _ e2 _
  subst e1 e2;refine⟨_,rfl,pk,_,_,.str "either",rfl,rfl,c8.of aq,rfl,?_⟩;refine⟨_,rfl,rfl,_,rfl,?_⟩;rw[show decide (V.str "either"=V.str "record")=false by decide +kernel];refine dy ?_;refine⟨_,rfl,rfl,_,rfl,?_⟩;rw[show decide (V.str "either"=V.str "rows")=false by decide +kernel];refine dy ?_;refine⟨_,rfl,rfl,_,rfl,?_⟩;rw[show decide (V.str "either"=V.str "tree")=false by decide +kernel];refine dy ?_;refine⟨_,rfl,rfl,_,rfl,dM ?_⟩;exact⟨_,rfl,pk,_,_,.ref pb,rfl,rfl,c8.of aq,rfl,_,rfl,_,rfl,_,rfl,pb,xs,fs,st,pt,v,x,k,u,u',deed,a,fp,fa,_,rfl,az,aA,hW,ay,hg,fh.get f hg,ax,hS,by omega,fin⟩
theorem yR (n:Nat)(T:Tb mg)(J:Dn K mg "stepped" gm (top 18) aD aE)(av:Dn K mg "acted" lI (top 27) aU aV)(aw:c_ P w K mg base da (4 * n+5) aU aV lI (qU n Pi))(L:Dn K mg "stepped_in_record" mK (top 19) az aA)(Y:Dn K mg "stepped_in_rows" mL (top 20) aK aL)(aa:Dn K mg "stepped_in_tree" jb (top 24) aM aN)(ab:Dn K mg "stepped_in_arm" jb (top 25) aO aP)(U:Dn K mg "stepped_in_either" mM (top 26) aB aC)(ah:Dn K mg "kind_at" iq (top 5) aG aH)(ai:c_ P w K mg base da (1) aG aH iq (lK))(ar:Dn K mg "misfit" fO (top 7) aQ aT)(au:c_ P w K mg base da (7) aQ aT fO (iV 1))(aj:Dn K mg "with_at" jY (top 23) aI aJ)(ak:c_ P w K mg base da (1) aI aJ jY (oZ))(af:Dn K mg "row_number" hV (top 22) ap aq)(ag:c_ P w K mg base da (8) ap aq hV (mT))(ac:Dn K mg "ends_at_key" lH (top 21) an ao)(ae:c_ P w K mg base da (1) an ao lH (qR))(al:Dn K mg "in_order" hU (top 15) ax ay)(am:c_ P w K mg base da (8) ax ay hU (o7 Pi iG iH)):∀j:Nat,c_ P w K mg base da (4 * n+6+(3 * j+2)) aD aE gm (jC n Pi j)
 |0=>(E2 n T J av aw).mono (by omega)
 |j+1=>by
  have G:=yR n T J av aw L Y aa ab U ah ai ar au aj ak af ag ac ae al am j
  exact E3 n (4 * n+6+(3 * j+2)) j T J
   L (ES n _ j (by omega) T L ah ai J G)
   Y (EU n _ j (by omega) T Y af ag ac ae J G aj ak al am)
   aa (EY n _ j (by omega) T aa J G ab (EX n _ j (by omega) T ab ar au J G aj ak))
   U (E1 n _ j (by omega) T U ah ai J G)
theorem E4:d5 ["kind","paper","value","now","number","step"] Xk (dD (top 17)):=eL
theorem E5 (n J L:Nat)(T:Tb mg)(ae:Dn K mg "done" oF (top 17) af ag)(Y:Dn K mg "stepped" gm (top 18) aa ab)(U:∀j,j<=J->c_ P w K mg base da (L) aa ab gm (jC n Pi j)):c_ P w K mg base da (L+1) af ag oF (yP n Pi J):=by
 refine ae.F.ok E4 λvs H Q E h=>?_;obtain⟨kv,pl,v,rfl,h⟩:=h;refine⟨rfl,λap A outer s nd hr hu=>?_⟩;rcases h with⟨ac,fin⟩|⟨st,pt,rest,k,d,d',deed,a,fp,fa,p,ac,al,am,hW,ai,ak,ah,hS,hj,fin⟩
 . have U:=U 0 (Q06 _);refine⟨_,(c9 (dI 3 nd (pv 2))
   (c9 (iP PassesOwn.never rfl (mv rfl T.mH (a_ (pv 1) b_)) (ie rfl (fy (en (i:=4) nd rfl fk) (fy (en (i:=5) nd rfl fk) ic))) (c9 (dI 3 nd (dq U hr Y (a_ (pv 0) (a_ (pv 5) (a_ (dj (pv 5) cZ) (a_ (pv 3) b_))))))
   (dc (dA (dw gX (pv 3) el (di _)) (dc dZ) dz))))
   (dc (dk (pv 3))))),?_⟩
   refine⟨_,rfl,_,rfl,pl,rfl,⟨_,dg.of ac⟩,mQ (xs:=[]) (λi σ H'=>H'=H/\σ=[some kv,some (.ref pl),some v,some v,none,none]) ⟨rfl,rfl⟩ ?_ ?_ ?_⟩
   . rintro i σ H' _ ⟨rfl,_⟩;exact dg.of ac
   . rintro i y σ H' p hy
     cases hy
   . rintro σ H' ⟨rfl,rfl⟩;exact⟨_,rfl,fin⟩
 . have U:=U p.length hj;refine⟨_,(c9 (dI 3 nd (pv 2))
   (c9 (iP PassesOwn.never rfl (mv rfl T.mH (a_ (pv 1) b_)) (ie rfl (fy (en (i:=4) nd rfl fk) (fy (en (i:=5) nd rfl fk) ic))) (c9 (dI 3 nd (dq U hr Y (a_ (pv 0) (a_ (pv 5) (a_ (dj (pv 5) cZ) (a_ (pv 3) b_))))))
   (dc (dA (dw gX (pv 3) el (di _)) (dc dZ) dz))))
   (dc (dk (pv 3))))),?_⟩
   refine⟨_,rfl,_,rfl,pl,rfl,⟨_,dg.of ac⟩,mQ (xs:=[.ref st]) (λi σ H'=>dg K H' pl [.ref st]/\((i=0/\H'=H/\σ=[some kv,some (.ref pl),some v,some v,none,none])\/(i=1/\∃v' x y,Q v' H'/\σ=[some kv,some (.ref pl),some v,some v',x,y]))) ⟨dg.of ac,.inl ⟨rfl,rfl,rfl⟩⟩ ?_ ?_ ?_⟩
   . rintro i σ H' _ ⟨h,_⟩;exact h
   . rintro i y σ H' q hy ⟨_,h⟩ hq
     obtain⟨rfl,rfl,rfl⟩:i=0/\H'=H/\σ=[some kv,some (.ref pl),some v,some v,none,none]:=by
      rcases h with h|⟨rfl,_⟩
      . exact h
      . cases hy
     cases hy;have s1:=Same.new hq (o:=.tup [.int 0,.ref st]);refine⟨q,_,rfl,c8.of de,rfl,_,_,rfl,_,_,rfl,rfl,?_⟩;refine⟨_,rfl,_,rfl,_,rfl,st,_,_,.ref pt,rfl,rfl,c8.of (s1 _ _ al),fA (j:=1) rfl,_,rfl,?_⟩;refine⟨kv,st,pt,v,k,d,d',deed,a,fp,fa,p,rfl,KA.mono (Tu.of s1) k am,hW,⟨ai.1.same s1,ai.2⟩,ak,ah.same s1 (s1 _ _ ah.2.1),hS,rfl,λv' an H2 kp ao ho hf=>?_⟩;have aj:fo Pi H' H2:=(Kp.of s1).trans kp;refine⟨_,rfl,rfl,_,rfl,?_⟩;rw[decide_eq_false ho.nn];refine dy ⟨dg.of (aj.at ah.2.2.2.2 (by intro ps z;cases z) ac),.inr ⟨rfl,v',_,_,?_,rfl⟩⟩;refine fin v' an H2 aj ao ho λc hc=>?_;rcases hf c hc with z|z|z
     . exact .inl (fw s1 z)
     . exact .inr (.inl z)
     . exact .inr (.inr z)
   . rintro σ H' ⟨_,h⟩;rcases h with⟨z,_⟩|⟨_,v',x,y,hq,rfl⟩
     . cases z
     . exact⟨_,rfl,hq⟩
end
end Pb
namespace PySem
open PyProof.Rows
abbrev kX (h:Heap) (z TI TO a:Addr) (f:Bool):Prop:=
 h.get? z=some { cls:=.type "zip",dict:=none,data:=.fields #[rawInt a,.bool f,.bool false,.ref TI,.ref TO],slots:=#[] }
namespace F
theorem E6:typeLookup (.type "zip") "__len__"=pure none:=by rw[typeLookup_type,builtinLookup_eq_fast];kernel_rfl
theorem E7:typeLookup (.type "zip") "__length_hint__"=pure none:=by rw[typeLookup_type,builtinLookup_eq_fast];kernel_rfl
end F
section
variable {prog:Program}{w:World}{A:Around}{E:Value->Shared->Prop}{s:Shared}
theorem yS {z TI TO a:Addr}{f:Bool}{Y:Obj}{Q:Bool->Shared->Prop}(J:kX s.heap z TI TO a f)(ha:s.heap.get? a=some Y)
 (h:∀h',kX h' z TI TO a true->Heap.SameBut z s.heap h'->Q false { s with heap:=h' }):wpAny (model prog w) A (Builtin.SmallTypes.ownedTupleIsFree (.ref z)) Q E s:=by
 unfold Builtin.SmallTypes.ownedTupleIsFree;refine Q0 (wpAny_field J rfl (x:=rawInt a) rfl ?_);show wpAny _ _ (loadIfAlive ((a:Int).toNat) >>= _) _ _ _;rw[Q1p];refine Q0 (W.kdx_alive ha ?_);simp only[Option.isNone_some,Bool.false_eq_true,if_false];refine Q0 (wpAny_field J rfl (x:=.bool f) rfl ?_)
 cases f with
 |true=>
  rw[if_neg (show ¬((Value.bool true != Value.bool true)=true) from Bool.false_ne_true)];exact Q02 (h _ J (Heap.SameBut.refl _ _))
 |false=>
  rw[if_pos (show(Value.bool false != Value.bool true)=true from rfl)];exact Q0 (wpAny_setField_rec J (by simp) λh' L U=>Q02 (h h' L U))
theorem E8 {z TI TO Y i2 l1 l2 a:Addr}{f:Bool}{oa:Obj}{k:Nat}{xs ys:Array Value}{x y:Value}{Q:Option Value->Shared->Prop}(D:ZipApart z TI TO Y i2 l1 l2)
 (hz:kX s.heap z TI TO a f) (ha:s.heap.get? a=some oa) (aa:IsPair s.heap TI (.ref Y) (.ref i2))
 (h1:s.heap.IsListIter Y l1 k) (h2:s.heap.IsListIter i2 l2 k) (ab:s.heap.IsList l1 xs) (ac:s.heap.IsList l2 ys) (hx:xs[k]? =some x) (hy:ys[k]? =some y)
 (hQ:∀h',kX h' z TI TO a true->h'.IsListIter Y l1 (k+1)->h'.IsListIter i2 l2 (k+1)->IsPair h' s.heap.objs.size x y->h'.objs.size=s.heap.objs.size+1->
   (∀c o,c≠z->c≠Y->c≠i2->s.heap.get? c=some o->h'.get? c=some o)->Q (some (.ref s.heap.objs.size)) { s with heap:=h' }):
 wpAny (model prog w) A (pyNext (.ref z)) Q E s:=by
 have hT:s.TypeIs (.ref z) "zip":=⟨_,hz,rfl⟩;unfold pyNext;refine Q0 (wpAny_attempt (wpAny_callSpecial?_slot (name:=Str.ofString "__next__") hT F.slot_zip_next (wpAny_call_entry F.slot_zip_next hT F.entry_zip_next ?_ (F.args_zip_next_1 _))));show wpAny _ _ (field (.ref z) 2 >>= _) _ _ _;refine Q0 (wpAny_field hz rfl (x:=.bool false) rfl ?_);show wpAny _ _ (field (.ref z) 3 >>= _) _ _ _;refine Q0 (wpAny_field hz rfl (x:=.ref TI) rfl ?_);refine Q0 (wpAny_seqItems aa rfl ?_);show wpAny _ _ (Builtin.SmallTypes.ownedTupleIsFree (.ref z) >>= _) _ _ _;refine Q0 (yS hz ha λaf ae J=>?_);simp only[Bool.false_eq_true,if_false];refine Q0 ?_;simp only[Q28,Q1f,Q1x];refine Q0 (Q0 (wpAny_holding ?_));show wpAny _ _ (Builtin.SmallTypes.nextOf (.ref Y) >>= _) _ _ _;refine Q0 (wpAny_nextOf_list_item (h1.extBut J.extBut D.i1z) (ab.extBut J.extBut D.l1z) hx λhb b1 L=>Q02 ?_);refine Q02 ?_;dsimp only;refine Q0 (Q0 (wpAny_holding ?_));show wpAny _ _ (Builtin.SmallTypes.nextOf (.ref i2) >>= _) _ _ _;refine Q0 (wpAny_nextOf_list_item ((h2.extBut J.extBut D.i2z).extBut L.extBut D.i12.symm) ((ac.extBut J.extBut D.l2z).extBut L.extBut D.l2i1) hy λhc c2 U=>Q02 ?_);refine Q02 (Q02 ?_);dsimp only;refine Q0 (wpAny_newTuple ?_ (pq));have sz:hc.objs.size=s.heap.objs.size:=by rw[U.1,L.1,J.1]
 have zc:kX hc z TI TO a true:=U.extBut _ _ D.i2z.symm (L.extBut _ _ D.i1z.symm ae);have up:∀c o,hc.get? c=some o->(hc.push { cls:=.type "tuple",data:=.seq #[x,y] }).get? c=some o:=λc o e=>Q07 _ e;refine Q02 ⟨_,rfl,Q02 ?_⟩;show Q (some (.ref hc.objs.size)) _;rw[sz];refine hQ _ (up _ _ zc) ((b1.extBut U.extBut D.i12).at λo e=>up _ o e) (c2.at λo e=>up _ o e) ?_ ?_ λc o n1 n2 n3 e=>up _ _ (U.extBut _ _ n3 (L.extBut _ _ n2 (J.extBut _ _ n1 e)))
 . rw[<-sz];exact Q0i _ rfl
 . rw[<-sz];exact Q1g ..
theorem E9 {z TI TO L i2 l1 l2 a:Addr}{f:Bool}{oa:Obj}{k:Nat}{xs:Array Value}{Q:Option Value->Shared->Prop}(hh:A.handled=none)(D:ZipApart z TI TO L i2 l1 l2)
 (U:kX s.heap z TI TO a f) (ha:s.heap.get? a=some oa) (Y:IsPair s.heap TI (.ref L) (.ref i2))
 (h1:s.heap.IsListIter L l1 k) (aa:s.heap.IsList l1 xs) (hx:xs[k]? =none)
 (hQ:∀h',(∀c o,c≠z->c≠L->s.heap.get? c=some o->h'.get? c=some o)->Q none { s with heap:=h' }):
 wpAny (model prog w) A (pyNext (.ref z)) Q E s:=by
 have hT:s.TypeIs (.ref z) "zip":=⟨_,U,rfl⟩;unfold pyNext;refine Q0 (wpAny_attempt (wpAny_callSpecial?_slot (name:=Str.ofString "__next__") hT F.slot_zip_next (wpAny_call_entry F.slot_zip_next hT F.entry_zip_next ?_ (F.args_zip_next_1 _))));show wpAny _ _ (field (.ref z) 2 >>= _) _ _ _;refine Q0 (wpAny_field U rfl (x:=.bool false) rfl ?_);show wpAny _ _ (field (.ref z) 3 >>= _) _ _ _;refine Q0 (wpAny_field U rfl (x:=.ref TI) rfl ?_);refine Q0 (wpAny_seqItems Y rfl ?_);show wpAny _ _ (Builtin.SmallTypes.ownedTupleIsFree (.ref z) >>= _) _ _ _;refine Q0 (yS U ha λab ac J=>?_);simp only[Bool.false_eq_true,if_false];refine Q0 ?_;simp only[Q28,Q1f,Q1x];refine Q0 (Q0 (wpAny_holding ?_));show wpAny _ _ (Builtin.SmallTypes.nextOf (.ref L) >>= _) _ _ _;refine Q0 (wpAny_nextOf_list_end hh (h1.extBut J.extBut D.i1z) (aa.extBut J.extBut D.l1z) hx λhb e sb he=>?_);obtain⟨oe,q1,q2⟩:=he;exact Q0 (wpAny_isInstance (T:="StopIteration") (b:=true) ⟨oe,q1,q2⟩ isSubtype_stop (Q02 (hQ _ λc o n1 n2 v=>sb _ _ n2 (J.extBut _ _ n1 v))))
def kY (h:Heap) (z TI TO J L l1 l2 S:Addr) (xs ys:Array Value) (i:Nat):Prop:=
 IsPair h TI (.ref J) (.ref L)/\h.IsListIter J l1 i/\h.IsListIter L l2 i/\h.IsList l1 xs/\h.IsList l2 ys/\
 ((i=0/\∃a b,IsZip h z TI TO .none/\IsPair h TO a b)\/∃a f U,kX h z TI TO a f/\h.get? a=some U/\a≠z/\a≠TO/\a≠J/\a≠L/\a≠S)
theorem kY.keep {h h':Heap}{z TI TO J L l1 l2 S:Addr}{xs ys:Array Value}{i:Nat}(x:kY h z TI TO J L l1 l2 S xs ys i)(hk:∀b o,b≠S->h.get? b=some o->h'.get? b=some o)(hS:S≠z/\S≠TI/\S≠TO/\S≠J/\S≠L/\S≠l1/\S≠l2):kY h' z TI TO J L l1 l2 S xs ys i:=by
 obtain⟨n1,n2,n3,n4,n5,n6,n7⟩:=hS;obtain⟨a1,a2,a3,a4,a5,a6⟩:=x;refine⟨hk _ _ n2.symm a1,a2.at λo e=>hk _ o n4.symm e,a3.at λo e=>hk _ o n5.symm e,a4.at λo e=>hk _ o n6.symm e,a5.at λo e=>hk _ o n7.symm e,?_⟩;rcases a6 with⟨e,a,b,U,Y⟩|⟨a,f,oa,U,Y,c3⟩
 . exact .inl ⟨e,a,b,hk _ _ n1.symm U,hk _ _ n3.symm Y⟩
 . exact .inr ⟨a,f,oa,hk _ _ n1.symm U,hk _ _ c3.2.2.2.2 Y,c3⟩
theorem E_ {z TI TO J L l1 l2 S:Addr}{i:Nat}{xs ys:Array Value}{x y:Value}{Q:Option Value->Shared->Prop}(D:ZipApart z TI TO J L l1 l2)(hS:S<s.heap.objs.size)
 (st:kY s.heap z TI TO J L l1 l2 S xs ys i) (hx:xs[i]? =some x) (hy:ys[i]? =some y)
 (hQ:∀h',kY h' z TI TO J L l1 l2 S xs ys (i+1)->IsPair h' s.heap.objs.size x y->h'.objs.size=s.heap.objs.size+1->
   (∀c o,c≠z->c≠TO->c≠J->c≠L->s.heap.get? c=some o->h'.get? c=some o)->Q (some (.ref s.heap.objs.size)) { s with heap:=h' }):
 wpAny (model prog w) A (pyNext (.ref z)) Q E s:=by
 obtain⟨a1,a2,a3,a4,a5,a6⟩:=st;have k1:∀{h':Heap} {l:Addr} {ws:Array Value},(∀c o,c≠z->c≠TO->c≠J->c≠L->s.heap.get? c=some o->h'.get? c=some o)->l≠z->l≠TO->l≠J->l≠L->s.heap.IsList l ws->h'.IsList l ws:=λhk n1 n2 n3 n4 t=>t.at λo e=>hk _ o n1 n2 n3 n4 e;have j1:J<s.heap.objs.size:=by obtain⟨_,e,_⟩:=a2;exact Q03 e
 have j2:L<s.heap.objs.size:=by obtain⟨_,e,_⟩:=a3;exact Q03 e
 rcases a6 with⟨rfl,a,b,c1,c2⟩|⟨a,f,oa,c1,c2,c3,c4,c5,c6,c7⟩
 . refine wpAny_pyNext_zip_item D c1 a1 c2 a2 a3 a4 a5 hx hy λh' q1 q2 q3 q4 q5 q6 U=>hQ h' ⟨U _ _ D.TIz D.TITO D.TIi1 D.TIi2 a1,q3,q4,k1 U D.l1z D.l1TO D.l1i1 D.l1i2 a4,k1 U D.l2z D.l2TO D.l2i1 D.l2i2 a5,.inr ⟨_,false,_,q1,q5,?_,?_,?_,?_,?_⟩⟩ q5 q6 U
   . exact Q0d (Q03 c1)
   . exact Q0d (Q03 c2)
   . exact Q0d j1
   . exact Q0d j2
   . exact Q0d hS
 . refine E8 D c1 c2 a1 a2 a3 a4 a5 hx hy λh' q1 q3 q4 q5 q6 U=>?_;have Y:∀c o,c≠z->c≠TO->c≠J->c≠L->s.heap.get? c=some o->h'.get? c=some o:=λc o n1 _ n3 n4 e=>U c o n1 n3 n4 e;exact hQ h' ⟨U _ _ D.TIz D.TIi1 D.TIi2 a1,q3,q4,k1 Y D.l1z D.l1TO D.l1i1 D.l1i2 a4,k1 Y D.l2z D.l2TO D.l2i1 D.l2i2 a5,.inr ⟨a,true,oa,q1,U _ _ c3 c5 c6 c2,c3,c4,c5,c6,c7⟩⟩ q5 q6 Y
theorem Fb {z TI TO J L l1 l2 S:Addr}{i:Nat}{xs ys:Array Value}{Q:Option Value->Shared->Prop}(hh:A.handled=none)(D:ZipApart z TI TO J L l1 l2)
 (st:kY s.heap z TI TO J L l1 l2 S xs ys i) (hx:xs[i]? =none)
 (hQ:∀h',(∀c o,c≠z->c≠TO->c≠J->c≠L->s.heap.get? c=some o->h'.get? c=some o)->Q none { s with heap:=h' }):
 wpAny (model prog w) A (pyNext (.ref z)) Q E s:=by
 obtain⟨a1,a2,a3,a4,a5,a6⟩:=st;rcases a6 with⟨rfl,a,b,U,Y⟩|⟨a,f,oa,U,Y,c3,c4,c5,c6,c7⟩
 . exact wpAny_pyNext_zip_end hh D U a1 Y a2 a3 a4 a5 (.inl hx) hQ
 . exact E9 hh D U Y a1 a2 a4 hx λh' hk=>hQ h' λc o n1 _ n3 _ e=>hk c o n1 n3 e
end
structure o8 (xs ys:Array Value) (lo:Addr) (h:Heap) (as:List Addr):Prop where
 rise:as.Pairwise (· < ·)
 above:∀a∈as,lo<a
 pairs:∀(j:Nat) (a:Addr),as[j]? =some a->∃x y,xs[j]? =some x/\ys[j]? =some y/\IsPair h a x y
section
variable {prog:Program}{w:World}{A:Around}{s:Shared}{R:Result->Shared->Prop}
theorem Fc {z TI TO i1 i2 l1 l2 S:Addr}{xs ys:Array Value}(hh:A.handled=none)(D:ZipApart z TI TO i1 i2 l1 l2)(L:S≠z/\S≠TI/\S≠TO/\S≠i1/\S≠i2/\S≠l1/\S≠l2)(U:z<S/\TO<S/\i1<S/\i2<S)(he:xs.size=ys.size)(hn:xs.size<=sizeLine)(res:Value){h₁:Heap}
 (hR:∀h' tk J c as,(∀b o,b≠S->b≠z->b≠TO->b≠i1->b≠i2->h₁.get? b=some o->h'.get? b=some o)->h'.get? S=some { cls:=.type "list",dict:=none,data:=.seq J c,slots:=#[] }->as.length=xs.size->o8 xs ys S h' as->
   J.toList=as.map Value.ref->R (.ok (.ret res)) { s with heap:=h',toks:=tk }):
 ∀(k i:Nat) (h:Heap) (tk c:Nat) (J:Array Value) (as:List Addr),xs.size - i=k->i<=xs.size->kY h z TI TO i1 i2 l1 l2 S xs ys i->(∀b o,b≠S->b≠z->b≠TO->b≠i1->b≠i2->h₁.get? b=some o->h.get? b=some o)->
  h.get? S=some { cls:=.type "list",dict:=none,data:=.seq J c,slots:=#[] }->J.toList=as.map Value.ref->as.length=i->o8 xs ys S h as->
  codeAny (model prog w) A (.builtin "list.extend.loop" ⟨[.ref S,.ref z,res],[]⟩) R { s with heap:=h,toks:=tk }:=by
 intro k
 induction k with
 |zero=>
  intro i h tk c J as hk hi ae Y hS aa ab hG;have al:i=xs.size:=by omega
  refine codeAny_builtin PySem.F.entry_extend_loop ?_;rw[Around.under_plainId PySem.F.plain_extend_loop _];show wpAny _ A.in1 (pyNext (.ref z) >>= _) _ _ _;refine Q0 (Fb (s:={ s with heap:=h,toks:=tk }) (A:=A.in1) hh D ae (Array.getElem?_eq_none (by omega)) λh' af=>?_);refine Q02 (hR h' tk J c as (λb o h0 h1 h2 h3 h4 e=>af b o h1 h2 h3 h4 (Y b o h0 h1 h2 h3 h4 e)) (af S _ L.1 L.2.2.1 L.2.2.2.1 L.2.2.2.2.1 hS) (by omega) ⟨hG.rise,hG.above,λj a hj=>?_⟩ aa);obtain⟨x,y,e1,e2,e3⟩:=hG.pairs j a hj;have ha:=hG.above a (Q0w hj);exact⟨x,y,e1,e2,af a _ (Q0d (Q1 U.1 ha)) (Q0d (Q1 U.2.1 ha)) (Q0d (Q1 U.2.2.1 ha)) (Q0d (Q1 U.2.2.2 ha)) e3⟩
 |succ k ih=>
  intro i h tk c J as hk hi ae Y hS aa ab hG;have ah:i<xs.size:=by omega
  have hx:xs[i]? =some xs[i]:=Q1t ah;have hy:ys[i]? =some (ys[i]'(by omega)):=Q1t (by omega);have hsz:J.size=i:=by rw[<-Q15,aa,Q09,ab]
  refine codeAny_builtin PySem.F.entry_extend_loop ?_;rw[Around.under_plainId PySem.F.plain_extend_loop _];show wpAny _ A.in1 (pyNext (.ref z) >>= _) _ _ _;refine Q0 (E_ (s:={ s with heap:=h,toks:=tk }) (S:=S) D (Q03 hS) ae hx hy λh' ak ht hz ac=>?_);dsimp only at ht hz ac ⊢;have ai:=ac S _ L.1 L.2.2.1 L.2.2.2.1 L.2.2.2.2.1 hS;have up:∀b o,b≠S->h'.get? b=some o->(h'.update S (Obj.mapSeq (·.push (Value.ref h.objs.size)))).get? b=some o:=λb o hb e=>(Q1k _ _ (Ne.symm hb)).trans e;have aj:S<h.objs.size:=Q03 hS;show wpAny _ A.in1 (updateSeq S (·.push (Value.ref h.objs.size)) >>= _) _ _ _;refine Q0 ?_
  refine wpAny_updateSeq ai rfl (Q02 ⟨plainId_quiet PySem.F.plain_extend_loop _,ih (i+1) _ tk _ (J.push (Value.ref h.objs.size)) (as++[h.objs.size]) (by omega) ah (ak.keep up L)
   (λb o h0 h1 h2 h3 h4 e=>up b o h0 (ac b o h1 h2 h3 h4 (Y b o h0 h1 h2 h3 h4 e))) (Q1j _ ai rfl) (by rw[Array.toList_push,aa,Q0k];rfl) (by rw[Q08,ab];rfl) ⟨?_,?_,?_⟩⟩) (by rw[hsz];omega) (by show(J.push _).size<=sizeLine+1;rw[Q2v,hsz];omega)
  . refine List.pairwise_append.mpr ⟨hG.rise,Q1u _ _,λa ha b hb=>?_⟩;rw[List.mem_singleton.mp hb];obtain⟨j,hj⟩:=List.mem_iff_getElem?.mp ha;obtain⟨_,_,_,_,e⟩:=hG.pairs j a hj;exact Q03 e
  . intro a ha;rcases List.mem_append.mp ha with ha|ha
    . exact hG.above a ha
    . rw[List.mem_singleton.mp ha];exact aj
  . intro j b hj;rcases Nat.lt_trichotomy j as.length with h1|h1|h1
    . rw[Q12 h1] at hj;obtain⟨x',y',e1,e2,e3⟩:=hG.pairs j b hj;have hb:=hG.above b (Q0w hj);exact⟨x',y',e1,e2,up b _ (Q0d hb) (ac b _ (Q0d (Q1 U.1 hb)) (Q0d (Q1 U.2.1 hb)) (Q0d (Q1 U.2.2.1 hb)) (Q0d (Q1 U.2.2.2 hb)) e3)⟩
    . subst h1;have hb:h.objs.size=b:=by simpa using hj
      subst hb;exact⟨_,_,by rw[ab];exact hx,by rw[ab];exact hy,up _ _ (Q0d aj) ht⟩
    . have ag:(as++[h.objs.size])[j]? =none:=Q2z (by rw[Q08,Q13];omega);rw[ag] at hj;cases hj
end
section
variable {prog:Program}{w:World}{A:Around}{E:Value->Shared->Prop}{s:Shared}
theorem Fe {z TI TO i1 i2 l1 l2:Addr}{xs ys:Array Value}{Q:List Value->Shared->Prop}(hh:A.handled=none)(D:ZipApart z TI TO i1 i2 l1 l2)(J:∀b∈[z,TI,TO,i1,i2,l1,l2],b<s.heap.objs.size)(he:xs.size=ys.size)(hn:xs.size<=sizeLine)
 (h1:IsZip s.heap z TI TO .none) (h2:IsPair s.heap TI (.ref i1) (.ref i2)) (h3:IsPair s.heap TO .none .none) (h4:s.heap.IsListIter i1 l1 0) (h5:s.heap.IsListIter i2 l2 0) (h6:s.heap.IsList l1 xs) (h7:s.heap.IsList l2 ys)
 (hQ:∀(h':Heap) (tk:Nat) (as:List Addr),(∀b o,b≠z->b≠TO->b≠i1->b≠i2->s.heap.get? b=some o->h'.get? b=some o)->as.length=xs.size->o8 xs ys s.heap.objs.size h' as->Q (as.map Value.ref) { s with heap:=h',toks:=tk }):
 wpAny (model prog w) A (collect (.ref z)) Q E s:=by
 have ab:s.heap.objs.size≠z/\s.heap.objs.size≠TI/\s.heap.objs.size≠TO/\s.heap.objs.size≠i1/\s.heap.objs.size≠i2/\s.heap.objs.size≠l1/\s.heap.objs.size≠l2:=
  ⟨Q0d (J _ (by simp)),Q0d (J _ (by simp)),Q0d (J _ (by simp)),Q0d (J _ (by simp)),Q0d (J _ (by simp)),Q0d (J _ (by simp)),Q0d (J _ (by simp))⟩
 unfold collect;refine Q0 (wpAny_runValue (codeAny_builtin F.entry_proto_collect ?_));rw[Around.under_plainId F.plain_proto_collect _];show wpAny _ A.in1 (newList [] >>= λl=>again (.builtin "list.__iadd__" ⟨[l,.ref z],[]⟩)) _ _ s;refine Q0 (wpAny_newObj_type ?_);refine Q02 ⟨plainId_quiet F.plain_list_iadd _,codeAny_builtin F.entry_list_iadd ?_⟩;rw[Around.under_plainId F.plain_list_iadd _];have up:∀b o,s.heap.get? b=some o->(s.heap.push { cls:=.type "list",data:=.seq ([]:List Value).toArray }).get? b=some o:=λb o e=>Q07 _ e;have ac:IsZip (s.heap.push { cls:=.type "list",data:=.seq ([]:List Value).toArray }) z TI TO .none:=up _ _ h1;have hT:Shared.TypeIs { s with heap:=s.heap.push { cls:=.type "list",data:=.seq ([]:List Value).toArray } } (.ref z) "zip":=⟨_,ac,rfl⟩;have U:(s.heap.push { cls:=.type "list",data:=.seq ([]:List Value).toArray }).get? s.heap.objs.size=some { cls:=.type "list",data:=.seq ([]:List Value).toArray }:=Q0i _ rfl;have g1:Builtin.List.listSameRef (.ref s.heap.objs.size) (.ref z)=false:=by simp[Builtin.List.listSameRef,ab.1]
 have g2:(Value.type "zip" == Value.type "list")=false:=by decide
 have g3:(Value.type "zip" == Value.type "tuple")=false:=by decide
 show wpAny _ A.in1 (Builtin.List.listExtendWith (.ref s.heap.objs.size) (.ref z) (.ref s.heap.objs.size)) _ _ _;unfold Builtin.List.listExtendWith;refine Q0 (wpAny_typeOf hT ?_);simp only[g1,g2,g3,Bool.or_false,Bool.false_eq_true,if_false];refine Q0 (wpAny_pyIter_zip ac ?_);refine Q0 (wpAny_holding ?_);unfold Builtin.List.listLengthHint;refine Q0 (wpAny_specialOf hT F.E6 ?_);show wpAny _ A.in1 (specialOf (Value.ref z) (Str.ofString "__length_hint__") >>= _) _ _ _;refine Q0 (wpAny_specialOf hT F.E7 ?_);refine Q02 ?_;rw[if_pos (show(true || _)=true from rfl)];refine Q0 (wpAny_rule ?_);refine Q0 ?_;show wpAny _ A.in1 (updateSeq s.heap.objs.size (·.push .none) >>= λ_=>updateSeq s.heap.objs.size (·.pop)) _ _ _;refine Q0 (wpAny_updateSeq U rfl ?_);have Y:=Q1j (Obj.mapSeq (·.push Value.none)) U rfl;refine wpAny_updateSeq Y rfl ?_;have aa:=Q1j (Obj.mapSeq (·.pop)) Y rfl
 have ae:∀b o,b≠s.heap.objs.size->s.heap.get? b=some o->
  (((s.heap.push { cls:=.type "list",data:=.seq ([]:List Value).toArray }).update s.heap.objs.size (Obj.mapSeq (·.push Value.none))).update s.heap.objs.size (Obj.mapSeq (·.pop))).get? b=some o:=
  λb o hb e=>(Q1k _ _ (Ne.symm hb)).trans ((Q1k _ _ (Ne.symm hb)).trans (up _ _ e))
 have nn:∀b o,s.heap.get? b=some o->b≠s.heap.objs.size:=λb o e=>Q0c (Q03 e);have L:∀b o,s.heap.get? b=some o->_:=λb o e=>ae b o (nn b o e) e;refine Q02 ⟨plainId_quiet F.plain_extend_loop _,Fc (xs:=xs) (ys:=ys) (s:=s) (h₁:=s.heap) hh D ab ⟨J _ (by simp),J _ (by simp),J _ (by simp),J _ (by simp)⟩ he hn _ (λh' tk ag c as hk ah hl hG af=>?_) xs.size 0 _ s.toks _ #[] [] (Q29 _) (Q06 _) ⟨L _ _ h2,h4.at λo e=>L _ o e,h5.at λo e=>L _ o e,h6.at λo e=>L _ o e,h7.at λo e=>L _ o e,.inl ⟨rfl,_,_,L _ _ h1,L _ _ h3⟩⟩ (λb o hb _ _ _ _ e=>ae b o hb e) aa rfl rfl ⟨List.Pairwise.nil,(λ_ ha=>nomatch ha),(λj a hj=>by simp at hj)⟩⟩;show wpAny _ A (load s.heap.objs.size >>= _) _ _ _;refine Q0 (wpAny_load ah (Q02 ?_));show Q ag.toList _;rw[af];exact hQ h' tk as (λb o n1 n2 n3 n4 e=>hk b o (nn b o e) n1 n2 n3 n4 e) hl hG
theorem Ff {z TI TO L U l1 l2:Addr}{xs ys:Array Value}{Q:Value->Shared->Prop}(hh:A.handled=none)(D:ZipApart z TI TO L U l1 l2)(Y:∀b∈[z,TI,TO,L,U,l1,l2],b<s.heap.objs.size)(he:xs.size=ys.size)(hn:xs.size<=sizeLine)
 (h1:IsZip s.heap z TI TO .none) (h2:IsPair s.heap TI (.ref L) (.ref U)) (h3:IsPair s.heap TO .none .none) (h4:s.heap.IsListIter L l1 0) (h5:s.heap.IsListIter U l2 0) (h6:s.heap.IsList l1 xs) (h7:s.heap.IsList l2 ys)
 (hQ:∀(h':Heap) (tk:Nat) (as:List Addr),(∀b o,b≠z->b≠TO->b≠L->b≠U->s.heap.get? b=some o->h'.get? b=some o)->as.length=xs.size->o8 xs ys s.heap.objs.size h' as->Q (.ref h'.objs.size) { s with heap:=h'.push { cls:=.type "tuple",data:=.seq (as.map Value.ref).toArray },toks:=tk }):
 wpAny (model prog w) A (call (.type "tuple") [.ref z]) Q E s:=by
 refine callType_codes (Q₁:=λobj J=>J.TypeIs obj "tuple"/\Q obj J) F.called_tuple (F.typeCall_tuple_1 _) F.entry_object_init ?_ λobj J h₁=>
  ⟨h₁.1,F.args_object_init_2 obj _,object_init_meets F.called_tuple.init.lookup F.called_tuple.made (by decide) prog w A.in1 _ J ⟨h₁.1,rfl,h₁.2⟩⟩
 refine codeAny_of_tree ?_;show wpAny _ _ (do checkBuiltinCall "tuple.__new__" ⟨[.type "tuple",.ref z],[]⟩;again (.builtin "tuple.__new__" ⟨[.type "tuple",.ref z],[]⟩)) _ _ s;refine Q0 (wpAny_of_eq (F.newCall_tuple_1 _) (Q02 ⟨plainId_quiet F.plain_tuple_new _,codeAny_builtin F.entry_tuple_new ?_⟩));rw[Around.under_plainId F.plain_tuple_new _];have ae:=sub_tuple_self;have ac:=init_tuple_lookup;have af:=madeHere_tuple;have aa:s.TypeIs (.ref z) "zip":=⟨_,h1,rfl⟩;have ab:A.in1.in1.handled=none:=hh
 wp_walk using wpAny_typeOf aa,Fe ab D Y he hn h1 h2 h3 h4 h5 h6 h7
 intro h' tk as hk hl hG;show wpAny _ _ (Builtin.Tuple.tupleExact (as.map Value.ref).toArray >>= λv=>ret v) _ _ _;unfold Builtin.Tuple.tupleExact;refine Q0 (wpAny_newObj_type ?_ (by show(as.map Value.ref).toArray.size<=sizeLine;rw[Q0b,Q09,hl];exact hn));refine Q02 ?_;exact⟨⟨_,Q0i _ rfl,rfl⟩,hQ h' tk as hk hl hG⟩
end
end PySem
namespace L2
open PyProof.Rows
def o9 (H:Hp) (cs:List Addr) (xs ys:List V):Prop:=cs.length=xs.length/\∀(i:Nat) c x y,cs[i]? =some c->xs[i]? =some x->ys[i]? =some y->H c=some (.tup [x,y])
def Fg (K:W.Frag) (ta:TA):TE:=λσ H Q=>ta σ H λvs H1=>∃a b xs ys,vs=[.ref a,.ref b]/\dg K H1 a xs/\dg K H1 b ys/\xs.length=ys.length/\∀l cs H2,Same H1 H2->H1 l=none->H2 l=some (.tup (cs.map V.ref))->o9 H2 cs xs ys->Q (.ref l) H2
section
variable {X:Cx}
theorem yT:∀as:List Addr,Vals (as.map V.ref) (as.map Value.ref)
 |[]=>.nil
 |c::r=>.cons rfl (yT r)
theorem yU {pins:List (Addr × Obj)}{σ:St}{s:Shared}:∀(as:List Addr) (xs ys:List V) (U ws:List Value) (H:Hp),Inv X pins σ H s->as.Nodup->(∀a∈as,fV X pins H a)->as.length=xs.length->Vals xs U->Vals ys ws->
 (∀(i:Nat) a,as[i]? =some a->∃u w,U[i]? =some u/\ws[i]? =some w/\IsPair s.heap a u w)->∃H',Inv X pins σ H' s/\Same H H'/\(∀b,b ∉ as->H' b=H b)/\o9 H' as xs ys
 |[],xs,ys,U,ws,H,I,_,_,hl,_,_,_=>⟨H,I,Same.refl _,λ_ _=>rfl,hl,λi c x y h=>by simp at h⟩
 |a::as,[],ys,U,ws,H,I,_,_,hl,_,_,_=>by cases hl
 |a::as,x::xs,ys,U,ws,H,I,nd,fp,hl,rx,Y,hp=>by
  obtain⟨u,v,e1,e2,e3⟩:=hp 0 a rfl
  obtain⟨y,ys,rfl⟩:∃y L,ys=y::L:=by
   cases ys with
   |nil=>cases Y;cases e2
   |cons y L=>exact⟨y,L,rfl⟩
  cases rx with
  |cons r1 rx=>
  cases Y with
  |cons r2 Y=>
  have e1:=Option.some.inj e1;have e2:=Option.some.inj e2;subst e1 e2;obtain⟨n1,n2⟩:=List.nodup_cons.mp nd;obtain⟨f0,fr⟩:=fp a Q0a;have I1:Inv X pins σ (upd H a (.tup [x,y])) s:=I.adopt (h':=s.heap) (t':=s.toks) ⟨f0,fr⟩ (λ_ _ _ e=>e) ⟨by show 2<=sizeLine;decide,_,.cons r1 (.cons r2 .nil),⟨_,e3,rfl,_,rfl⟩⟩;have s1:Same H (upd H a (.tup [x,y])):=λb o e=>by rw[dh (dN e f0)];exact e
  obtain⟨H',I',s',o',p1,p2⟩:=yU as xs ys _ _ _ I1 n2 (λb J=>⟨by rw[dh (λz=>n1 (by rw[<-z];exact J))];exact(fp b (Q04 _ J)).1,(fp b (Q04 _ J)).2⟩) (Nat.succ.inj hl) rx Y (λi b J=>hp (i+1) b J);refine⟨H',I',s1.trans s',λb J=>?_,by rw[Q0e,Q0e,p1],λi c x' y' hc hx hy=>?_⟩
  . rw[o' b (λz=>J (Q04 _ z)),dh (λz=>J (by rw[z];exact Q0a))]
  . cases i with
    |zero=>
     have hc:=Option.some.inj hc;have hx:=Option.some.inj hx;have hy:=Option.some.inj hy;subst hc hx hy;exact s' _ _ de
    |succ i=>exact p2 i c x' y' hc hx hy
theorem Fh {a b:Expr}{ta:TA}{p p2 pos pos2:Pos}(hc:X.calm=true)(hg:Gl X "tuple")(hm:X.mg "tuple"=none)(hb:bootBuiltins "tuple"=some (.type "tuple"))(aj:Gl X "zip")(ak:X.mg "zip"=none)(ha:PA X [a,b] ta)
 (hs:starEach [a,b] X.env=[(false,eval a X.env),(false,eval b X.env)]:=by rfl) (af:starEach [b] X.env=[(false,eval b X.env)]:=by rfl)
 (ag:starEach [.Call (.Name "zip" p2) [a,b] [] pos2] X.env=(false,eval (.Call (.Name "zip" p2) [a,b] [] pos2) X.env)::starEach [] X.env:=by rfl):
 PE X (.Call (.Name "tuple" p) [.Call (.Name "zip" p2) [a,b] [] pos2] [] pos) (Fg X.K ta):=by
 intro pins s σ H Q I h;refine wpAny_Call_Name_kw (iZ I hg hm hb ?_ (by decide) (by decide));refine PyProof.Rows.callWith_type1 ?_ ag rfl;rw[ag];show wpAny _ _ (spliced ((false,eval (.Call (.Name "zip" p2) [a,b] [] pos2) X.env)::[])) _ _ s;refine Calls.spliced_cons ?_;refine Call_ (iZ I aj ak boot_zip (PyProof.Rows.callWith_type1 (dH (ha pos2 pins s σ H _ I h) λus J zq=>?_) (by rw[hs,af]) (by rw[af];rfl)));obtain⟨vs,H1,I1,r1,q1⟩:=zq;obtain⟨l1,l2,xs,ys,e,al,am,aq,q⟩:=q1;subst e;obtain⟨u1,u2,rfl,an,ao⟩:=vals2 r1
 cases an
 cases ao;obtain⟨U,ah,p1,ap⟩:=I1.list al;obtain⟨Y,ai,ac,ar⟩:=I1.list am;have b1:@LT.lt Nat _ l1 J.heap.objs.size:=by obtain⟨_,e,_⟩:=p1.isList;exact Q03 e
 have b2:@LT.lt Nat _ l2 J.heap.objs.size:=by obtain⟨_,e,_⟩:=ac.isList;exact Q03 e
 refine call_zip_2 p1.isList ac.isList λh' q1 q2 q3 q4 q5 q6 q7=>?_;refine Calls.spliced_nil ?_
 have Dz:ZipApart (J.heap.objs.size+4) (J.heap.objs.size+2) (J.heap.objs.size+3) J.heap.objs.size (J.heap.objs.size+1) l1 l2:=by
  constructor <;> (intro z;have z':(_:Nat)=_:=z;omega)
 have e1:=ah.length;have e2:=ai.length;refine Ff (s:={ J with heap:=h' }) (xs:=U.toArray) (ys:=Y.toArray) (I1.ok.hd hc) Dz ?_ (by rw[Q0b,Q0b];omega) (by rw[Q0b];omega) q1 q2 q3 q4 q5 (p1.isList.at λo e=>q7 _ o e) (ac.isList.at λo e=>q7 _ o e) ?_
 . intro b ae;show @LT.lt Nat _ b h'.objs.size;rw[q6];have ae:b=J.heap.objs.size+4\/b=J.heap.objs.size+2\/b=J.heap.objs.size+3\/b=J.heap.objs.size\/b=J.heap.objs.size+1\/b=l1\/b=l2:=by simpa using ae
   rcases ae with z|z|z|z|z|z|z <;> rw[z]
   . exact Q1m _
   . exact Q2c (by decide) _
   . exact Q2c (by decide) _
   . exact Nat.lt_add_of_pos_right (by decide)
   . exact Q2c (by decide) _
   . exact Q0g b1 (Q0q _ _)
   . exact Q0g b2 (Q0q _ _)
 . intro h2 tk as hk hl hG
   have kp:∀b o,J.heap.get? b=some o->h2.get? b=some o:=λb o e=>by
    have hb:@LT.lt Nat _ b J.heap.objs.size:=Q03 e;exact hk b o (Q0c (Q0g hb (Q0q _ _))) (Q0c (Q0g hb (Q0q _ _))) (Q0c hb) (Q0c (Q0g hb (Q0q _ _))) (q7 _ _ e)
   have I2:Inv X pins σ H1 { J with heap:=h2,toks:=tk }:=I1.kept (t':=tk) kp
   have ab:∀c∈as,J.heap.objs.size<=c:=λc L=>by
    have:@LT.lt Nat _ h'.objs.size c:=hG.above c L;rw[q6] at this;exact Q0v (Q17 (Q0q _ _) this)
   have aa:as.length=xs.length:=by rw[hl,Q0b,e1]
   obtain⟨H',I',s',o',pr⟩:=yU as xs ys U Y H1 I2 (hG.rise.imp λz=>Q0c z) (λc L=>I1.i3 (ab c L) (I1.hok.fresh (ab c L))) aa ah ai (λi c L=>by
    obtain⟨x,y,g1,g2,g3⟩:=hG.pairs i c L;exact⟨x,y,by simpa using g1,by simpa using g2,g3⟩)
   have hf:H' h2.objs.size=none:=by
    rw[o' _ (λz=>by
     obtain⟨j,hj⟩:=List.mem_iff_getElem?.mp z;obtain⟨_,_,_,_,e⟩:=hG.pairs j _ hj;exact Q0t _ (Q03 e))]
    exact I2.hok.fresh (Q00 _)
   have I3:Inv X pins σ (upd H' h2.objs.size (.tup (as.map V.ref))) { J with heap:=h2.push { cls:=.type "tuple",data:=.seq (as.map Value.ref).toArray },toks:=tk }:=
    I'.laid (t':=tk) (λb o e=>Q07 _ e) (Q00 _) (show fi X.prog X.w _ _ _ (.tup (as.map V.ref)) from⟨by rw[Q09,aa];exact ap,as.map Value.ref,?_,IsTup.new h2 _⟩)
   . refine⟨.ref h2.objs.size,_,I3,rfl,?_⟩;have s2:Same H' (upd H' h2.objs.size (.tup (as.map V.ref))):=λb o e=>by rw[dh (dN e hf)];exact e
     exact q h2.objs.size as _ (s'.trans s2) (I2.hok.fresh (Q00 _)) de ⟨pr.1,λi c x y g1 g2 g3=>s2 _ _ (pr.2 i c x y g1 g2 g3)⟩
   . exact yT as
end
end L2
namespace L2
open Spec PyProof.Rows
theorem yV:∀{kvs:List (Key × V)}{vs:List (Key × Value)},KV kvs vs->∀(J:List Value),J.length=vs.length->(∀(j:Nat) (v:Value),J[j]? =some v->∃k,vs[j]? =some (k,v))->Vals (kvs.map (·.2)) J
 |_,_,.nil,J,hl,_=>by
  cases J with
  |nil=>exact .nil
  |cons _ _=>cases hl
 |_,_,.cons (a:=p) (b:=q) h r,J,hl,hk=>by
  cases J with
  |nil=>cases hl
  |cons u t=>
   obtain⟨k,e⟩:=hk 0 u rfl;have e:some q=some (k,u):=e
   cases e;exact .cons h.2 (yV r t (by simpa using hl) λj v L=>hk (j+1) v (by simpa using L))
section
variable {X:Cx}
noncomputable def lP (r a:Addr):HO:=.ext λh=>h.IsValuesView r a
def Fi:V->List V->Hp->VK->Prop:=λx vs H Q=>∃a kvs,x=.ref a/\vs=[]/\H a=some (.dK kvs)/\∀r,H r=none->Q (.ref r) (upd H r (lP r a))
theorem Fj:nU X "dict.values" Fi:=by
 intro pins s σ H x vs v us Q I U Y h;obtain⟨a,kvs,rfl,rfl,hH,q⟩:=h
 cases U;have J:=Y.zero;subst J;obtain⟨z,hd,ws,aa,L⟩:=nZ I.hok hH;refine call_meetsIn PySem.F.slot_dict_values L.typeIs PySem.F.entry_dict_values (PySem.F.args_dict_values_1 _) (meets_dict_values (f9 X.prog X.w) a hd) ⟨⟨ws,L⟩,?_⟩;refine⟨.ref s.heap.objs.size,_,I.laid (t':=s.toks) (λb o e=>Q07 _ e) (Q00 _) ?_,rfl,q _ (I.hok.fresh (Q00 _))⟩;exact⟨⟨_,Q0i _ rfl,rfl,rfl⟩,⟨_,Q0i _ rfl⟩,λh1 h2 ⟨o,ho,x⟩ k=>⟨o,k o ho,x⟩⟩
theorem Fk (hc:X.calm=true):ig X (.type "list") (λxs H Q=>∃r a kvs,xs=[.ref r]/\H r=some (lP r a)/\H a=some (.dK kvs)/\∀l,H l=none->Q (.ref l) (upd H l (.lst (kvs.map (·.2))))):=by
 intro pins s σ H xs us Q I rr h;obtain⟨r,a,kvs,rfl,hr,hH,q⟩:=h;obtain⟨u,rfl,ru⟩:=vals1 rr
 cases ru;obtain⟨z,hd,vs,J,o,es,ep,e1,e2,e3,e4,e5,e6⟩:=nZ I.hok hH;have Y:s.heap.IsValuesView r a:=(I.hok r _ hr).1;have aa:=J.length;refine W.kdl_call (W.kdl_values (knd:=f9 X.prog X.w) (kvs:=vs) (ep:=ep)) (I.ok.hd hc) ⟨Y,o,es,e1,e2,e3,e4,e5,e6⟩ (by omega) λh' tk L c kp hl U=>?_;refine⟨.ref s.heap.objs.size,_,I.laid (t':=tk) (h':=h') kp (Q00 _) (show fi X.prog X.w _ h' _ (.lst (kvs.map (·.2))) from⟨by rw[Q09];omega,L.toList,c,?_,?_⟩),rfl,q _ (I.hok.fresh (Q00 _))⟩
 . exact yV J L.toList (by rw[Q15];exact U.1) λj v hj=>U.2 j v (by simpa using hj)
 . rw[Q2i];exact hl
end
end L2
namespace Pb
open L2
noncomputable def ck:Nat->Nat
 |0=>2
 |d+1=>4 * ck d+6
theorem mZ:∀{e d:Nat},e<=d->ck e<=ck d
 |e,0,h=>by rw[show e=0 by omega];exact Q00 _
 |e,d+1,h=>by
  by_cases z:e=d+1
  . rw[z];exact Q00 _
  . have:=mZ (show e<=d by omega);have J:ck (d+1)=4 * ck d+6:=rfl;omega
def lQ (K:W.Frag) (d:Nat):Sp:=λvs H Q _=>∃a b ns n,vs=[.ref a,.ref b,.int d]/\G0 K H a b ns n/\n+ck d<=1000000000000/\
 ∀(v:V) (k:Kd) (n':Int) (H':Hp),SB b H H'->H' b=some (.lst [.int n'])->n<=n'->n'<=n+ck d->KA H' v k->k.dep<=d+1->k.W->(d=0->gz k)->Q v H'
def yW (K:W.Frag) (d:Nat):Sp:=λvs H Q E=>∃e,e<=d/\lQ K e vs H Q E
def yX (K:W.Frag) (d:Nat):Sp:=λvs H Q _=>∃a b ns n,∃m:Nat,vs=[.ref a,.ref b,.int m,.int d]/\m<=3/\G0 K H a b ns n/\n+1+3 * ck d<=1000000000000/\
 ∀(t:Addr) (xs:List V) (fs:Fs) (n':Int) (H':Hp),SB b H H'->H' b=some (.lst [.int n'])->n<=n'->n'<=n+1+3 * ck d->H' t=some (.tup xs)->FA H' xs fs->fs.names.Nodup->fs.names.length=m->fs.dep<=d+1->fs.W->Q (.ref t) H'
def qX (K:W.Frag) (d:Nat):Sp:=λvs H Q _=>∃a b ns n,∃m:Nat,vs=[.ref a,.ref b,.int m,.int d]/\1<=m/\m<=4/\G0 K H a b ns n/\n+5+4 * ck d<=1000000000000/\
 ∀(v:V) (k:Kd) (n':Int) (H':Hp),SB b H H'->H' b=some (.lst [.int n'])->n<=n'->n'<=n+5+4 * ck d->KA H' v k->k.dep<=d+2->k.W->Q v H'
theorem lT {te:TE}{g:TG}{B:TS}{D:Ends}{σ:L2.St}{H:Hp}(h:te σ H λx H1=>g x σ H1 (B D)):pK (iO te g) B D σ H:=h
theorem yY {k:Kd}(h:gz k):k.dep=1:=by cases k <;> first|rfl|exact h.elim
theorem yZ {k:Kd}(h:gz k):k.W:=by cases k <;> first|exact h.elim|(unfold Kd.W;trivial)
theorem c_.ex {P:Program}{w:World}{K:W.Frag}{mg:Str->Option Value}{base:Heap}{CX:il}{k:Nat}{f:Addr}{fd:FuncData}{ps:List Str}{J:Type}{R:J->Prop}{sp:J->Sp}(F:∀i,R i->c_ P w K mg base CX k f fd ps (sp i)):
 c_ P w K mg base CX k f fd ps (λvs H Q E=>∃i,R i/\sp i vs H Q E):=
 ⟨λvs H Q E ⟨i,hi,h⟩=>(F i hi).len vs H Q E h,λA outer s H args L vs Q E U Y hb r ⟨i,hi,h⟩=>(F i hi).run A outer s H args L vs Q E U Y hb r h⟩
theorem y7 {ss:List Str}{z:Int}(J:0<=z)(h1:z<ss.length):∃x:Str,fW (ss.map V.str) z=some (.str x)/\ss[z.toNat]? =some x:=by
 obtain⟨j,rfl⟩:∃j:Nat,z=(j:Int):=⟨z.toNat,by omega⟩;exact⟨ss[j]'(by omega),fA (by rw[Q0p,Q05 (by omega)];rfl),by rw[Q1p];exact Q05 (by omega)⟩
abbrev j3 (H:Hp):List V->List Kd->Prop:=Paired λv k=>KA H v k
theorem j3.mono {H H':Hp}(t:Tu H H'):∀{ys:List V}{ks:List Kd},j3 H ys ks->j3 H' ys ks
 |_,_,.nil=>.nil
 |_,_,.cons h r=>.cons (KA.mono t _ h) (j3.mono t r)
noncomputable def gn:List Str->List Kd->Fs
 |x::ss,k::ks=>.cons x k (gn ss ks)
 |_,_=>.nil
theorem qY:∀{ss:List Str}{ks:List Kd},ks.length=ss.length->(gn ss ks).names=ss
 |[],[],_=>rfl
 |[],_::_,h=>by cases h
 |_::_,[],h=>by cases h
 |x::ss,k::ks,h=>by
  show x::(gn ss ks).names=x::ss;rw[qY (Nat.succ.inj h)]
theorem y8 {n:Nat}:∀{ss:List Str}{ks:List Kd},(∀k∈ks,k.dep<=n)->(gn ss ks).dep<=n
 |[],[],_=>Q06 _
 |[],_::_,_=>Q06 _
 |_::_,[],_=>Q06 _
 |x::ss,k::ks,h=>Nat.max_le.mpr ⟨h k Q0a,y8 λk hk=>h k (Q04 _ hk)⟩
theorem y9:∀{ss:List Str}{ks:List Kd},(∀k∈ks,k.W)->(gn ss ks).W
 |[],[],_=>by unfold gn Fs.W;trivial
 |[],_::_,_=>by unfold gn Fs.W;trivial
 |_::_,[],_=>by unfold gn Fs.W;trivial
 |x::ss,k::ks,h=>by
  unfold gn Fs.W;exact⟨h k Q0a,y9 λk hk=>h k (Q04 _ hk)⟩
theorem y_:∀{ss:List Str}{ks:List Kd}{i:Nat}{x:Str}{k:Kd},ss.Nodup->ss[i]? =some x->ks[i]? =some k->(gn ss ks).get x=some k
 |[],_,i,_,_,_,h,_=>by simp at h
 |_::_,[],i,_,_,_,_,h=>by simp at h
 |y::ss,q::ks,0,x,k,_,h1,h2=>by
  cases h1;cases h2;exact if_pos rfl
 |y::ss,q::ks,i+1,x,k,nd,h1,h2=>by
  obtain⟨J,L⟩:=List.nodup_cons.mp nd;have h1:ss[i]? =some x:=h1;show(if x=y then _ else(gn ss ks).get x)=_;rw[if_neg (λz=>J (by rw[<-z];exact Q0w h1))];exact y_ L h1 h2
theorem zi {H:Hp}:∀{cs:List Addr}{ss:List Str}{ys:List V}{ks:List Kd},j3 H ys ks->ks.length=ss.length->o9 H cs (ss.map V.str) ys->FA H (cs.map V.ref) (gn ss ks)
 |[],[],_,[],_,_,_=>by show FA H [] .nil;unfold FA;rfl
 |[],x::ss,_,_,_,_,h=>by cases h.1
 |c::cs,[],_,_,_,_,h=>by cases h.1
 |_,[],_,_::_,_,h,_=>by cases h
 |_,_::_,_,[],_,h,_=>by cases h
 |c::cs,x::ss,_,k::ks,.cons (a:=y) hk r,hl,h=>by
  show FA H (.ref c::cs.map V.ref) (.cons x k (gn ss ks));unfold FA;refine⟨c,y,_,rfl,h.2 0 c (.str x) y rfl rfl rfl,hk,zi r (Nat.succ.inj hl) ⟨?_,λi c' J L U Y e3=>h.2 (i+1) c' J L U Y e3⟩⟩;have:=h.1;rw[Q0e,Q0o,Q0e] at this;exact Nat.succ.inj this
variable {P:Program}{w:World}{K:W.Frag}{mg:Str->Option Value}{base:Heap}
theorem Fl:d5 XC XC (dD (top 36)):=eL
theorem Fm (d:Nat)(T:Tb mg)(J:Dn K mg "_law_fields" iE (top 36) L U)(Y:Dn K mg "_law_names" jX (top 34) aa ab)(ac:c_ P w K mg base da (2) aa ab jX (oM K))(ae:Dn K mg "_law_kind" ir (top 38) af ag)(ah:c_ P w K mg base da (2 * d+4) af ag ir (lQ K d)):c_ P w K mg base da (2 * d+5) L U iE (yX K d):=by
 refine J.F.ok Fl λvs H Q E h=>?_;obtain⟨a,b,ns,n,m,rfl,hm,g,hn,q⟩:=h;refine⟨rfl,λaC A outer s nd hr hu=>?_⟩;refine⟨_,(dc (dk (jP wD (by rfl) T.gC boot_tuple (a_ (gH (g:=(dU 0)) (tt:=fE) (te:=(ko (dJ (dE 0) (dJ (fT _ _ _ (dJ (dE 1) (dJ (dE 2) (dJ (dE 4) fc)))) fc)))) (own:=["_law_name"]) rfl (fN (N:=XC) (sc:=dD (top 36))) (jK (dq ac hr Y (a_ (pv 0) (a_ (pv 1) (a_ (pv 2) b_))))) (λ_ _ _ _ _=>(en (i:=0) (show(["_law_name","_law_script","_law_at","_law_many","_law_deep"]:List Str).Nodup by decide +kernel) rfl (Or.inl rfl) (.inr rfl))) (λ_ _ _ _ _=>gc) (λ_ _ _ _ _=>(dW (a_ (pv 0) (a_ (dq ah hr ae (a_ (pv 1) (a_ (pv 2) (a_ (pv 4) b_)))) b_))))) b_)))),?_⟩
 ac_rfl
 have aq:n<=1000000000000:=by omega
 refine⟨_,rfl,_,rfl,_,rfl,a,b,ns,n,m,rfl,by omega,g,aq,λp ss H1 s1 h1 ar hp hl au aD=>?_⟩
 refine⟨p,rfl,⟨_,dg.of hp⟩,λi m' ys H'=>m'=ss.length - i/\i<=ss.length/\∃(fs:Fs) (n':Int),SB b H H'/\H' b=some (.lst [.int n'])/\n<=n'/\n'<=n+1+i * ck d/\H' p=some (.lst (ss.map V.str))/\FA H' ys fs/\fs.names=ss.take i/\fs.dep<=d+1/\ys.length=i/\fs.W,
  ⟨_,rfl,Q06 _,.nil,n+1,s1,h1,by omega,by omega,hp,by unfold FA;rfl,by simp[Fs.names],by simp[Fs.dep],rfl,by unfold Fs.W;trivial⟩,?_⟩
 intro i m' ys H' zq;obtain⟨rfl,aB,fs,n',sb,aj,z1,z2,ak,hf,al,av,hy,hW⟩:=zq;by_cases hi:i<ss.length
 . refine .inr ⟨⟨_,.str ss[i],dg.of ak,by rw[Q0p,Q05 hi];rfl⟩,fX (by omega),λx aw y=>?_⟩;obtain⟨rfl,y⟩:=y;have hx:=y _ (dg.of ak)
   have ex:x=.str ss[i]:=by
    rw[Q0p,Q05 hi] at hx;exact(Option.some.inj hx).symm
   subst ex;refine⟨rfl,yes (dM ?_)⟩;have ax:(i:Int)<=2:=by omega
   have aE:(i:Int) * ck d<=2 * ck d:=Q2 ax (by omega);refine⟨_,rfl,_,rfl,_,rfl,_,rfl,a,b,ns,n',rfl,g.go sb aj z1,by omega,λv k ay H2 s2 h2 y1 y2 hk aG az _=>?_⟩;refine⟨er,λt ht=>?_⟩;have aA:t≠b:=λz=>by rw[z,h2] at ht;cases ht
   have am:Tu H2 (upd H2 t (.tup [.str ss[i],v])):=Tu.of (λc o h=>by rw[dh (dN h ht)];exact h);have tu:Tu aw (upd H2 t (.tup [.str ss[i],v])):=(s2.tu aj).trans am;refine⟨_,Nat.sub_lt_sub_left hi (Q1m i),rfl,hi,fs.snoc ss[i] k,ay,sb.trans (s2.trans (SB.new ht)),by rw[dh (Ne.symm aA)];exact h2,by omega,?_,?_,FA.snoc de (KA.mono am k hk) fs (FA.mono tu fs hf),?_,?_,?_,Fs.xC az hW⟩
   . have e:((i+1:Nat):Int) * ck d=(i:Int) * ck d+ck d:=by
      rw[Q36,Int.add_mul];simp
     rw[e];omega
   . have h3:=s2 p _ ar ak;rw[dh (dN h3 ht)];exact h3
   . rw[Fs.xA,al,Q1i,Q05 hi];rfl
   . rw[Fs.xB];omega
   . rw[Q08,hy];rfl
 . have ei:i=m:=by omega
   subst ei;refine .inl ⟨⟨_,dg.of ak,by rw[Q09];omega⟩,λp' ai=>?_⟩;have e3:(i:Int) * ck d<=3 * ck d:=Q2 (by omega) (by omega);refine⟨p',ys,rfl,.inl ⟨dg.of de,λt ht=>?_⟩⟩;have ap:p'≠b:=λz=>by rw[z,aj] at ai;cases ai
   have an:upd H' p' (.lst ys) b=some (.lst [.int n']):=by rw[dh (Ne.symm ap)];exact aj
   have tu:Tu H' (upd (upd H' p' (.lst ys)) t (.tup ys)):=λc xs h=>by
    rw[dh (dN (show upd H' p' (.lst ys) c=some (.tup xs) by rw[dh (dN h ai)];exact h) ht),dh (dN h ai)];exact h
   have ao:ss.take i=ss:=by rw[<-hl,Q1w]
   refine q t ys fs n' _ (sb.trans ((SB.new ai).trans (SB.new ht))) (by rw[dh (dN an ht)];exact an) z1 (by omega) de (FA.mono tu fs hf) ?_ ?_ av hW
   . rw[al,ao];exact au
   . rw[al,ao];exact hl
theorem Fn:d5 XS XC (dD (top 37)):=eL
theorem zj (d:Nat)(T:Tb mg)(J:Dn K mg "_law_rows_kind" iE (top 37) L U)(ac:Dn K mg "_law_names" jX (top 34) ae af)(ag:c_ P w K mg base da (2) ae af jX (oM K))(ah:Dn K mg "_law_next" dQ (top 31) ai aj)(ak:c_ P w K mg base da (1) ai aj dQ (gi K))(al:Dn K mg "_law_kind" ir (top 38) am an)(ao:c_ P w K mg base da (2 * d+4) am an ir (yW K d)):
 c_ P w K mg base da (2 * d+5) L U iE (qX K d):=by
 refine J.F.ok Fn λvs H Q E h=>?_;obtain⟨a,b,ns,n,m,rfl,aV,hm,g,hn,q⟩:=h;refine⟨rfl,λaW A outer s nd hr hu=>?_⟩;have aX:(0:Int)<=(m:Int) * ck d:=Q3 (by omega) (by omega);have aY:(m:Int) * ck d<=4 * ck d:=Q2 (by omega) (by omega)
 refine⟨_,(c9 (dI 4 nd (dq ag hr ac (a_ (pv 0) (a_ (pv 1) (a_ (pv 2) b_)))))
  (c9 (dI 5 nd (dq ak hr ah (a_ (pv 0) (a_ (pv 1) b_))))
  (c9 (i_ 6 nd (dm eE (pv 5) (pv 2)))
  (c9 (i_ 7 nd (dm eE (dm f_ (pv 5) (pv 2)) (dm gu (pv 2) cZ)))
  (c9 (lu (i:=8) nd rfl fk (g:=(dU 0)) (tt:=fE) (te:=(fT _ _ _ (dJ (dE 1) (dJ (dE 2) (dJ (pI (vT (iQ (dY jo (dE 0) (dE 7))) (iQ (dY jo (dE 0) (dE 8)))) (tC (.int 0)) (dE 4)) fc))))) (own:=["_law_k"]) rfl (fN (N:=XS) (sc:=dD (top 37))) (jm rfl T.jw (a_ (pv 2) b_)) (λ_ _ _ _ _=>(en (i:=0) (show(["_law_k","_law_script","_law_at","_law_many","_law_deep","_law_names_here","_law_m","_law_lead","_law_by","_law_some","_law_name"]:List Str).Nodup by decide +kernel) rfl (Or.inl rfl) (.inr rfl))) (λ_ _ _ _ _=>gc) (λ_ _ _ _ _=>(dq ao hr al (a_ (pv 1) (a_ (pv 2) (a_ (gr (PW.pt (gG (dw dX (pv 0) (pv 7) (di _)) (gN (dw dX (pv 0) (pv 8) (di _))))) cZ (pv 4)) b_))))))
  (c9 (dI 9 nd (gr (PW.pt (gF (dw i4 (pv 7) (pv 2) (di _)) (gW (dw ij (pv 7) (pv 6) (di _))))) (gh (pv 4) (pv 7)) dO))
  (dc (dk (dW (a_ dO (a_ (gh (pv 4) (pv 6)) (a_ (pv 9) (a_ (Fh rfl (by rfl) T.gC boot_tuple (by rfl) T.qC (a_ (pv 4) (a_ (pv 8) b_))) b_))))))))))))),?_⟩
 ac_rfl
 refine⟨_,rfl,_,rfl,_,rfl,a,b,ns,n,m,rfl,by omega,g,by omega,λp ss H1 s1 h1 aE hp hl aG aZ=>?_⟩;refine⟨_,rfl,_,rfl,a,b,ns,n+1,rfl,g.go s1 h1 (by omega),by omega,λr H2 r0 r1 s2 h2=>?_⟩;have aJ:H2 p=some (.lst (ss.map V.str)):=s2 p _ aE hp;have aK:SB b H H2:=s1.trans s2;refine⟨_,rfl,_,rfl,_,_,rfl,rfl,by omega,?_⟩;refine⟨_,rfl,_,rfl,_,_,rfl,rfl,⟨by omega,by omega⟩,_,rfl,_,_,rfl,rfl,_,_,rfl,rfl,by omega,?_⟩;dsimp only[dU];refine lT ?_;refine mN (m:=m) (λi ys H'=>∃(n':Int) (ks:List Kd),SB b H H'/\H' b=some (.lst [.int n'])/\n<=n'/\n'<=n+2+i * ck d/\H' p=some (.lst (ss.map V.str))/\ys.length=i/\j3 H' ys ks/\(∀k∈ks,k.dep<=d+1/\k.W)/\∀j:Nat,((j:Int)=r % m\/(j:Int)=r / m % (m+1))->∀k,ks[j]? =some k->gz k) (by rfl) (by omega) ⟨n+1+1,[],aK,h2,by omega,by omega,aJ,rfl,.nil,λk hk=>(nomatch hk),λj _ k hk=>by simp at hk⟩ (λj ys H' h=>by obtain⟨_,_,_,_,_,_,_,e,_⟩:=h;exact e) ?_ ?_
 . rintro i ys H' hi ⟨n',ks,sb,ap,z1,z2,aB,hy,aw,ab,aC⟩ R hR
   have e1:((i+1:Nat):Int) * ck d=(i:Int) * ck d+ck d:=by
    rw[Q36,Int.add_mul];simp
   have aL:((i+1:Nat):Int) * ck d<=(m:Int) * ck d:=Q2 (by omega) (by omega);rw[e1] at aL;have az:ks.length=i:=by rw[<-hy];exact aw.length.symm
   have ay:∀(e:Nat),e<=d->(((i:Int)=r % m\/(i:Int)=r / m % (m+1))->e=0)->∀(v:V) (k:Kd) (n2:Int) (H3:Hp),SB b H' H3->H3 b=some (.lst [.int n2])->n'<=n2->n2<=n'+ck d->KA H3 v k->k.dep<=e+1->k.W->(e=0->gz k)->R v H3:=by
    intro e he ax v k n2 H3 s3 h3 w1 w2 hk aT aq ar;refine hR v H3 ⟨n2,ks++[k],sb.trans s3,h3,by omega,by rw[e1];omega,s3 p _ aE aB,by rw[Q08,hy];rfl,qJ (j3.mono (s3.tu ap) aw) hk,λx hx=>?_,λj hj x hx=>?_⟩
    . rcases List.mem_append.mp hx with z|z
      . exact ab x z
      . rw[List.mem_singleton.mp z];exact⟨by omega,aq⟩
    . by_cases aM:j<ks.length
      . rw[Q12 aM] at hx;exact aC j hj x hx
      . have ej:j=i:=by
         have:=(List.getElem?_eq_some_iff.mp hx).1;rw[Q08,Q13] at this;omega
        subst ej;rw[Q0z (by omega),show j - ks.length=0 by omega] at hx
        cases hx;exact ar (ax hj)
   refine⟨_,rfl,_,rfl,_,rfl,_,rfl,rfl,_,rfl,eF (λc=>dM ?_) (λcL=>⟨_,rfl,_,rfl,rfl,_,rfl,eF (λc=>?_) (λc=>?_)⟩)⟩
   . exact⟨0,Q06 _,a,b,ns,n',rfl,g.go sb ap z1,by have:=mZ (Q06 d);omega,λv k n2 H3 s3 h3 w1 w2 hk ab aq ar=>ay 0 (Q06 _) (λ_=>rfl) v k n2 H3 s3 h3 w1 (by have:=mZ (Q06 d);omega) hk ab aq ar⟩
   . exact⟨0,Q06 _,a,b,ns,n',rfl,g.go sb ap z1,by have:=mZ (Q06 d);omega,λv k n2 H3 s3 h3 w1 w2 hk ab aq ar=>ay 0 (Q06 _) (λ_=>rfl) v k n2 H3 s3 h3 w1 (by have:=mZ (Q06 d);omega) hk ab aq ar⟩
   . refine⟨_,rfl,d,Q00 _,a,b,ns,n',rfl,g.go sb ap z1,by omega,λv k n2 H3 s3 h3 w1 w2 hk ab aq ar=>ay d (Q00 _) (λax=>?_) v k n2 H3 s3 h3 w1 w2 hk ab aq ar⟩;rcases ax with e|e
     . exact absurd (decide_eq_true (show V.int (i:Int)=V.int (r % m) by rw[<-e])) cL
     . exact absurd (decide_eq_true (show V.int (i:Int)=V.int (r / m % (m+1)) by rw[<-e])) c
 . rintro ys H' ⟨n',ks,sb,ap,z1,z2,aB,hy,aw,ab,aC⟩ pf aN;have l0:0<=r % (m:Int):=Q0s _ (by omega);have l1:r % (m:Int)<m:=Q0u _ (by omega);have b0:0<=r / (m:Int) % ((m:Int)+1):=Q0s _ (by omega);have az:ks.length=ss.length:=by rw[<-aw.length];omega
   obtain⟨xk,aD,aO⟩:=y7 (ss:=ss) l0 (by omega);have sN:=Same.new aN (o:=.lst ys);have aA:upd H' pf (.lst ys) pf=some (.lst ys):=de;generalize upd H' pf (.lst ys)=HN at sN aA ⊢;have au:=sN _ _ aB;have a1:=sN _ _ ap
   have pl:∀(z:Int) (x:Str),0<=z->z<m->(z=r % m\/z=r / m % (m+1))->ss[z.toNat]? =some x->(gn ss ks).pl x:=λz x h0 h1 ax hx=>by
    have hk:=Q05 (l:=ks) (i:=z.toNat) (by omega);refine⟨_,y_ aG hx hk,aC z.toNat (by rw[Int.toNat_of_nonneg h0];exact ax) _ hk⟩
   have aP:(gn ss ks).pl xk:=pl _ _ l0 l1 (.inl rfl) aO
   have fin:∀(nm:Str),(nm=""\/(gn ss ks).pl nm)->∀(l:Addr) (cs:List Addr) (H3:Hp),Same HN H3->HN l=none->H3 l=some (.tup (cs.map V.ref))->o9 H3 cs (ss.map V.str) ys->∀v:Addr,H3 v=none->Q (.ref v) (upd H3 v (.tup [.str "rows",.str xk,.str nm,.ref l])):=by
    intro nm aQ l cs H3 s3 av aa Y v hv;have s4:=Same.new hv (o:=.tup [.str "rows",.str xk,.str nm,.ref l]);have sa:=sN.trans (s3.trans s4);refine q (.ref v) (.rows xk nm (gn ss ks)) n' _ (sb.trans (SB.of sa)) (sa _ _ ap) z1 (by omega) ?_ ?_ ?_
    . unfold KA;exact⟨v,l,_,rfl,de,s4 _ _ aa,zi (j3.mono (Tu.of sa) aw) az ⟨Y.1,λi c x y e1 e2 e3=>s4 _ _ (Y.2 i c x y e1 e2 e3)⟩⟩
    . have:=y8 (ss:=ss) (ks:=ks) (n:=d+1) λk hk=>(ab k hk).1;simp only[Kd.dep];omega
    . unfold Kd.W;exact⟨by rw[qY az];exact aG,by rw[qY az];omega,y9 λk hk=>(ab k hk).2,aP,aQ⟩
   have aU:∀(nm:Str),(nm=""\/(gn ss ks).pl nm)->∃x,x=V.str nm/\True:=λnm _=>⟨_,rfl,trivial⟩;refine⟨_,rfl,_,rfl,_,_,rfl,rfl,_,rfl,?_⟩;refine eF (λc=>⟨_,rfl,_,rfl,rfl,_,rfl,eF (λc2=>?_) (λc2=>?_)⟩) (λc=>dy ?_)
   . have c':r / (m:Int) % ((m:Int)+1)<m:=of_decide_eq_true c;obtain⟨nm,aH,aI⟩:=y7 (ss:=ss) b0 (by omega);refine⟨_,rfl,_,rfl,p,_,_,_,rfl,rfl,dg.of au,aH,?_⟩;exact⟨_,rfl,_,rfl,p,_,_,_,rfl,rfl,dg.of au,aD,_,rfl,_,rfl,_,rfl,p,pf,_,_,rfl,dg.of au,dg.of aA,by rw[Q09];omega,λl cs H3 s3 av aa Y=>⟨qF,λv hv=>fin nm (.inr (pl _ _ b0 c' (.inr rfl) aI)) l cs H3 s3 av aa Y v hv⟩⟩
   . exact⟨_,rfl,_,rfl,p,_,_,_,rfl,rfl,dg.of au,aD,_,rfl,_,rfl,_,rfl,p,pf,_,_,rfl,dg.of au,dg.of aA,by rw[Q09];omega,λl cs H3 s3 av aa Y=>⟨qF,λv hv=>fin _ (.inl rfl) l cs H3 s3 av aa Y v hv⟩⟩
   . exact⟨_,rfl,_,rfl,p,_,_,_,rfl,rfl,dg.of au,aD,_,rfl,_,rfl,_,rfl,p,pf,_,_,rfl,dg.of au,dg.of aA,by rw[Q09];omega,λl cs H3 s3 av aa Y=>⟨qF,λv hv=>fin _ (.inl rfl) l cs H3 s3 av aa Y v hv⟩⟩
theorem zk:d5 ["_law_script","_law_at","_law_deep","_law_m"] Xc (dD (top 38)):=eL
theorem Fo (T:Tb mg)(aa:Dn K mg "_law_kind" ir (top 38) ab ac)(ae:Dn K mg "_law_next" dQ (top 31) af ag)(ah:c_ P w K mg base da (1) af ag dQ (gi K))(J:Dn K mg "_law_plain" dQ (top 35) L U)(Y:c_ P w K mg base da (2) L U dQ (oK K)):c_ P w K mg base da (2 * 0+4) ab ac ir (lQ K 0):=by
 refine aa.F.ok zk λvs H Q E h=>?_;obtain⟨a,b,ns,n,rfl,g,hn,q⟩:=h;refine⟨rfl,λaj A outer s nd hr hu=>?_⟩;have ai:ck 0=2:=rfl;rw[ai] at hn q
 refine⟨_,(c9 (dI 3 nd (dq ah hr ae (a_ (pv 0) (a_ (pv 1) b_))))
  (c9 (dA (PW.pt (gG (dw we (pv 2) cZ (di _)) (gN B9))) (dc (dk (dq Y hr J (a_ (pv 0) (a_ (pv 1) b_))))) dz) AQ)),?_⟩
 ac_rfl
 refine⟨_,rfl,_,rfl,a,b,ns,n,rfl,g,by omega,λr H1 r0 r1 s1 h1=>?_⟩;refine⟨_,rfl,_,_,rfl,rfl,_,rfl,?_⟩;refine eF (λc=>dM ?_) (λc=>(c (by decide)).elim);refine⟨_,rfl,_,rfl,a,b,ns,n+1,rfl,g.go s1 h1 (by omega),by omega,λv k H2 s2 h2 hk hp=>?_⟩;exact q v k (n+1+1) H2 (s1.trans s2) h2 (by omega) (by omega) hk (by rw[yY hp];omega) (yZ hp) (λ_=>hp)
theorem Fp (d:Nat)(T:Tb mg)(U:Dn K mg "_law_kind" ir (top 38) Y aa)(am:Dn K mg "_law_next" dQ (top 31) an ao)(ap:c_ P w K mg base da (1) an ao dQ (gi K))(ai:Dn K mg "_law_plain" dQ (top 35) aj ak)(al:c_ P w K mg base da (2) aj ak dQ (oK K))(J:Dn K mg "_law_fields" iE (top 36) ag ah)(L:c_ P w K mg base da (2 * d+5) ag ah iE (yX K d))(ab:Dn K mg "_law_rows_kind" iE (top 37) ac ae)(af:c_ P w K mg base da (2 * d+5) ac ae iE (qX K d))
 (aq:c_ P w K mg base da (2 * d+4) Y aa ir (lQ K d)):c_ P w K mg base da (2 * (d+1)+4) Y aa ir (lQ K (d+1)):=by
 refine U.F.ok zk λvs H Q E h=>?_;obtain⟨a,b,ns,n,rfl,g,hn,q⟩:=h;refine⟨rfl,λax A outer s nd hr hu=>?_⟩
 have ar:(ck (d+1):Int)=4 * ck d+6:=by
  have:ck (d+1)=4 * ck d+6:=rfl;omega
 rw[ar] at hn
 refine⟨_,(c9 (dI 3 nd (dq ap hr am (a_ (pv 0) (a_ (pv 1) b_))))
  (c9 (dA (PW.pt (gG (dw we (pv 2) cZ (di _)) (gN (dw i4 (dm eE (pv 3) cZ) cZ (di _))))) (dc (dk (dq al hr ai (a_ (pv 0) (a_ (pv 1) b_))))) dz)
  (c9 (dA (dw i4 (dm eE (pv 3) cZ) cZ (di _)) (dc (dk (dW (a_ dO (a_ (dq L hr J (a_ (pv 0) (a_ (pv 1) (a_ (dm eE (dm f_ (pv 3) cZ) cZ) (a_ (dm jN (pv 2) cZ) b_))))) b_))))) dz)
  (c9 (dA (dw i4 (dm eE (pv 3) cZ) cZ (di _)) (dc (dk (dq af hr ab (a_ (pv 0) (a_ (pv 1) (a_ (dm gu cZ (dm eE (dm f_ (pv 3) cZ) cZ)) (a_ (dm jN (pv 2) cZ) b_))))))) dz)
  (c9 (dA (dw dX (dm eE (pv 3) cZ) cZ (di _)) (dc (dk (dW (a_ dO (a_ (dq aq hr U (a_ (pv 0) (a_ (pv 1) (a_ (dm jN (pv 2) cZ) b_)))) b_))))) dz)
  (dc (dk (dW (a_ dO (a_ (dq L hr J (a_ (pv 0) (a_ (pv 1) (a_ (dm gu cZ (dm eE (dm f_ (pv 3) cZ) cZ)) (a_ (dm jN (pv 2) cZ) b_))))) b_)))))))))),?_⟩
 ac_rfl
 refine⟨_,rfl,_,rfl,a,b,ns,n,rfl,g,by omega,λr H1 r0 r1 s1 h1=>?_⟩;have g1:=g.go s1 h1 (by omega);have e2:(((d+1:Nat):Int)) - 1=(d:Int):=by omega
 have e0:(if decide ((((d+1:Nat):Int))<=0)=true then True else False)=False:=by
  rw[if_neg (by rw[decide_eq_true_iff];omega)]
 refine⟨_,rfl,_,_,rfl,rfl,_,rfl,eF (λc=>?_) (λc=>?_)⟩
 . exact absurd (of_decide_eq_true c) (by omega)
 refine⟨_,rfl,_,_,rfl,rfl,(by show(0:Int)<_;decide),_,_,rfl,rfl,_,rfl,eF (λc1=>?_) (λc1=>?_)⟩
 . refine⟨_,rfl,_,rfl,a,b,ns,n+1,rfl,g1,by omega,λv k H2 s2 h2 hk hp=>?_⟩;exact q v k (n+1+1) H2 (s1.trans s2) h2 (by omega) (by rw[ar];omega) hk (by rw[yY hp];omega) (yZ hp) (λ_=>hp)
 refine⟨_,rfl,_,_,rfl,rfl,(by show(0:Int)<_;decide),_,_,rfl,rfl,_,rfl,eF (λc2=>?_) (λc2=>?_)⟩
 . obtain⟨m,hm⟩:∃m:Nat,r / 10 % 4=(m:Int):=⟨(r / 10 % 4).toNat,by omega⟩;refine⟨_,rfl,_,rfl,_,rfl,_,_,rfl,rfl,⟨by decide,by decide⟩,_,_,rfl,rfl,(by show(0:Int)<_;decide),_,rfl,_,_,rfl,rfl,a,b,ns,n+1,m,(by show [V.ref a,V.ref b,V.int (r / 10 % 4),V.int (((d+1:Nat):Int) - 1)]=_;rw[hm,e2]),by omega,g1,by omega,λt xs fs n' H2 s2 h2 w1 w2 ht au av hl aw hW=>?_⟩;refine⟨er,λv hv=>?_⟩;have tu:Tu H2 (upd H2 v (.tup [.str "record",.ref t])):=λc ys h=>by rw[dh (dN h hv)];exact h
   refine q (.ref v) (.eQ fs) n' _ (s1.trans (s2.trans (SB.new hv))) (by rw[dh (dN h2 hv)];exact h2) (by omega) (by rw[ar];omega) ?_ (by simp only[Kd.dep];omega) (by unfold Kd.W;exact⟨av,by omega,hW⟩) (λz=>by omega);unfold KA;exact⟨v,t,xs,rfl,de,tu _ _ ht,FA.mono tu fs au⟩
 refine⟨_,rfl,_,_,rfl,rfl,(by show(0:Int)<_;decide),_,_,rfl,rfl,_,rfl,eF (λc3=>?_) (λc3=>?_)⟩
 . obtain⟨m,hm⟩:∃m:Nat,1+r / 10 % 3=(m:Int):=⟨(1+r / 10 % 3).toNat,by omega⟩;refine⟨_,rfl,_,rfl,_,rfl,_,_,rfl,rfl,⟨by decide,by decide⟩,_,_,rfl,rfl,(by show(0:Int)<_;decide),_,_,rfl,rfl,_,rfl,_,_,rfl,rfl,a,b,ns,n+1,m,(by show [V.ref a,V.ref b,V.int (1+r / 10 % 3),V.int (((d+1:Nat):Int) - 1)]=_;rw[hm,e2]),by omega,by omega,g1,by omega,λv k n' H2 s2 h2 w1 w2 hk aw hw=>?_⟩;exact q v k n' H2 (s1.trans s2) h2 (by omega) (by rw[ar];omega) hk (by omega) hw (λz=>by omega)
 refine⟨_,rfl,_,_,rfl,rfl,(by show(0:Int)<_;decide),rfl,_,rfl,eF (λc4=>?_) (λc4=>?_)⟩
 . refine⟨_,rfl,_,rfl,_,rfl,_,_,rfl,rfl,a,b,ns,n+1,(by show [V.ref a,V.ref b,V.int (((d+1:Nat):Int) - 1)]=_;rw[e2]),g1,by omega,λu k n' H2 s2 h2 w1 w2 hk aw hw _=>?_⟩;refine⟨er,λv hv=>?_⟩;have tu:Tu H2 (upd H2 v (.tup [.str "tree",u])):=λc ys h=>by rw[dh (dN h hv)];exact h
   refine q (.ref v) (.tree k) n' _ (s1.trans (s2.trans (SB.new hv))) (by rw[dh (dN h2 hv)];exact h2) (by omega) (by rw[ar];omega) ?_ (by simp only[Kd.dep];omega) (by unfold Kd.W;exact hw) (λz=>by omega);unfold KA;exact⟨v,u,rfl,de,KA.mono tu k hk⟩
 . obtain⟨m,hm⟩:∃m:Nat,1+r / 10 % 3=(m:Int):=⟨(1+r / 10 % 3).toNat,by omega⟩;refine⟨_,rfl,_,rfl,_,rfl,_,_,rfl,rfl,⟨by decide,by decide⟩,_,_,rfl,rfl,(by show(0:Int)<_;decide),_,_,rfl,rfl,_,rfl,_,_,rfl,rfl,a,b,ns,n+1,m,(by show [V.ref a,V.ref b,V.int (1+r / 10 % 3),V.int (((d+1:Nat):Int) - 1)]=_;rw[hm,e2]),by omega,g1,by omega,λt xs fs n' H2 s2 h2 w1 w2 ht au av hl aw hW=>?_⟩;refine⟨er,λv hv=>?_⟩;have tu:Tu H2 (upd H2 v (.tup [.str "either",.ref t])):=λc ys h=>by rw[dh (dN h hv)];exact h
   refine q (.ref v) (.fg fs) n' _ (s1.trans (s2.trans (SB.new hv))) (by rw[dh (dN h2 hv)];exact h2) (by omega) (by rw[ar];omega) ?_ (by simp only[Kd.dep];omega) (by unfold Kd.W;exact⟨av,by omega,by omega,hW⟩) (λz=>by omega);unfold KA;exact⟨v,t,xs,rfl,de,tu _ _ ht,FA.mono tu fs au⟩
theorem kind_all (T:Tb mg)(J:Dn K mg "_law_kind" ir (top 38) ak al)(U:Dn K mg "_law_next" dQ (top 31) am an)(Y:c_ P w K mg base da (1) am an dQ (gi K))(ab:Dn K mg "_law_plain" dQ (top 35) ag ah)(ac:c_ P w K mg base da (2) ag ah dQ (oK K))(ae:Dn K mg "_law_names" jX (top 34) ai aj)(af:c_ P w K mg base da (2) ai aj jX (oM K))(aa:Dn K mg "_law_fields" iE (top 36) aq ar)(L:Dn K mg "_law_rows_kind" iE (top 37) ao ap):∀d:Nat,∀e:Nat,e<=d->c_ P w K mg base da (2 * d+4) ak al ir (lQ K e)
 |0,e,he=>by
  rw[show e=0 by omega];exact Fo T J U Y ab ac
 |d+1,e,he=>by
  have ih:=kind_all T J U Y ab ac ae af aa L d;by_cases z:e<=d
  . exact(ih e z).mono (by omega)
  . rw[show e=d+1 by omega];have Fd:=Fm d T aa ae af J (ih d (Q00 _));have Rw:=zj d T L ae af U Y J (c_.ex ih);exact Fp d T J U Y ab ac aa Fd L Rw (ih d (Q00 _))
mutual
theorem D.fG {n m:Nat}(h:n<=m):∀(d:D),d.SL n->d.SL m
 | .int _,_=>by unfold D.SL;trivial
 | .str _,_=>by unfold D.SL;trivial
 | .tup xs,w=>by unfold D.SL at w ⊢;exact Ds.fG h xs w
 | .lst xs,w=>by unfold D.SL at w ⊢;exact⟨Q0h w.1 h,Ds.fG h xs w.2⟩
 | .dct xs,w=>by unfold D.SL at w ⊢;exact Ds.fG h xs w
theorem Ds.fG {n m:Nat}(h:n<=m):∀(xs:Ds),xs.SL n->xs.SL m
 | .nil,_=>by unfold Ds.SL;trivial
 | .cons _ d r,w=>by unfold Ds.SL at w ⊢;exact⟨D.fG h d w.1,Ds.fG h r w.2⟩
end
theorem lU {n:Nat}{x y:Str}{t:D}{as:Ds}:(D.tup (.cons x t (.cons y (.lst as) .nil))).SL n↔t.SL n/\as.len<=n/\as.SL n:=by simp[D.SL,Ds.SL]
theorem Fq {a b:D}(h1:a.Nd)(h2:b.Nd):(pairD a b).Nd:=by simp[pairD,D.Nd,Ds.Nd,h1,h2]
theorem zm:∀{l:List Ds},(∀m∈l,(D.dct m).Nd)->(d3 l).Nd
 |[],_=>by unfold d3 Ds.Nd;trivial
 |m::r,h=>by unfold d3 Ds.Nd;exact⟨h m Q0a,zm λx J=>h x (Q04 _ J)⟩
theorem m4 {n:Nat}:∀{l:List Ds},(∀m∈l,m.SL n)->(d3 l).SL n
 |[],_=>by unfold d3 Ds.SL;trivial
 |m::r,h=>by unfold d3 Ds.SL D.SL;exact⟨h m Q0a,m4 λx J=>h x (Q04 _ J)⟩
theorem j4 {n:Nat}:∀{l:List Ds},(d3 l).SL n->∀m∈l,m.SL n
 |[],_,m,h=>(nomatch h)
 |q::r,w,m,h=>by
  unfold d3 Ds.SL D.SL at w;rcases List.mem_cons.mp h with z|z
  . rw[z];exact w.1
  . exact j4 w.2 m z
mutual
theorem Tree.nd {P:D->Prop}(J:∀d,P d->d.Nd):∀(d:D),Tree P d->d.Nd
 | .int _,h=>by unfold Tree at h;exact h.elim
 | .str _,h=>by unfold Tree at h;exact h.elim
 | .lst _,h=>by unfold Tree at h;exact h.elim
 | .dct _,h=>by unfold Tree at h;exact h.elim
 | .tup xs,h=>by unfold Tree at h;unfold D.Nd;exact eG.nd J xs h
theorem eG.nd {P:D->Prop}(J:∀d,P d->d.Nd):∀(xs:Ds),eG P xs->xs.Nd
 | .cons _ t (.cons _ (.lst as) .nil),h=>by
   unfold eG at h;unfold Ds.Nd;refine⟨J _ h.1,?_⟩;unfold Ds.Nd D.Nd;exact⟨dR.nd J as h.2,by unfold Ds.Nd;trivial⟩
 | .nil,h=>by unfold eG at h;exact h.elim
 | .cons _ _ .nil,h=>by unfold eG at h;exact h.elim
 | .cons _ _ (.cons _ (.int _) _),h=>by unfold eG at h;exact h.elim
 | .cons _ _ (.cons _ (.str _) _),h=>by unfold eG at h;exact h.elim
 | .cons _ _ (.cons _ (.tup _) _),h=>by unfold eG at h;exact h.elim
 | .cons _ _ (.cons _ (.dct _) _),h=>by unfold eG at h;exact h.elim
 | .cons _ _ (.cons _ (.lst _) (.cons _ _ _)),h=>by unfold eG at h;exact h.elim
theorem dR.nd {P:D->Prop}(J:∀d,P d->d.Nd):∀(xs:Ds),dR P xs->xs.Nd
 | .nil,_=>by unfold Ds.Nd;trivial
 | .cons _ d r,h=>by
   unfold dR at h;unfold Ds.Nd;exact⟨Tree.nd J d h.1,dR.nd J r h.2⟩
end
mutual
theorem Tree.sm {P:D->Prop}{n:Nat}(J:n<=100)(L:∀d,P d->d.SL n->d.Sm):∀(d:D),Tree P d->d.SL n->d.Sm
 | .int _,h,_=>by unfold Tree at h;exact h.elim
 | .str _,h,_=>by unfold Tree at h;exact h.elim
 | .lst _,h,_=>by unfold Tree at h;exact h.elim
 | .dct _,h,_=>by unfold Tree at h;exact h.elim
 | .tup xs,h,w=>by unfold Tree at h;unfold D.SL at w;unfold D.Sm;exact eG.sm J L xs h w
theorem eG.sm {P:D->Prop}{n:Nat}(J:n<=100)(L:∀d,P d->d.SL n->d.Sm):∀(xs:Ds),eG P xs->xs.SL n->xs.len<=100/\xs.Sm
 | .cons _ t (.cons _ (.lst as) .nil),h,w=>by
   unfold eG at h;simp only[Ds.SL,D.SL] at w;refine⟨by show 2<=100;decide,?_⟩;unfold Ds.Sm;refine⟨L _ h.1 w.1,?_⟩;unfold Ds.Sm D.Sm;exact⟨⟨Q0h w.2.1.1 J,dR.sm J L as h.2 w.2.1.2⟩,by unfold Ds.Sm;trivial⟩
 | .nil,h,_=>by unfold eG at h;exact h.elim
 | .cons _ _ .nil,h,_=>by unfold eG at h;exact h.elim
 | .cons _ _ (.cons _ (.int _) _),h,_=>by unfold eG at h;exact h.elim
 | .cons _ _ (.cons _ (.str _) _),h,_=>by unfold eG at h;exact h.elim
 | .cons _ _ (.cons _ (.tup _) _),h,_=>by unfold eG at h;exact h.elim
 | .cons _ _ (.cons _ (.dct _) _),h,_=>by unfold eG at h;exact h.elim
 | .cons _ _ (.cons _ (.lst _) (.cons _ _ _)),h,_=>by unfold eG at h;exact h.elim
theorem dR.sm {P:D->Prop}{n:Nat}(J:n<=100)(L:∀d,P d->d.SL n->d.Sm):∀(xs:Ds),dR P xs->xs.SL n->xs.Sm
 | .nil,_,_=>by unfold Ds.Sm;trivial
 | .cons _ d r,h,w=>by
   unfold dR at h;unfold Ds.SL at w;unfold Ds.Sm;exact⟨Tree.sm J L d h.1 w.1,dR.sm J L r h.2 w.2⟩
end
mutual
theorem du.nd:∀(k:Kd) (d:D),k.W->du k d->d.Nd
 | .num,d,_,h=>by unfold du at h;obtain⟨z,rfl⟩:=h;unfold D.Nd;trivial
 | .fe,d,_,h=>by unfold du at h;obtain⟨z,rfl⟩:=h;unfold D.Nd;trivial
 | .eQ fs,d,w,h=>by
   unfold du at h;obtain⟨m,rfl,f⟩:=h;unfold Kd.W at w;unfold D.Nd;exact⟨by rw[dB.names f];exact w.1,dB.nd fs m w.2.2 f⟩
 | .rows key by_ fs,d,w,h=>by
   unfold du at h;obtain⟨L,rfl,f,_⟩:=h;unfold Kd.W at w;unfold D.Nd;refine zm λm J=>?_;unfold D.Nd;exact⟨by rw[dB.names (f m J)];exact w.1,dB.nd fs m w.2.2.1 (f m J)⟩
 | .tree k,d,w,h=>by
   unfold du at h;unfold Kd.W at w;exact Tree.nd (λd h=>du.nd k d w h) d h
 | .fg fs,d,w,h=>by
   unfold du at h;obtain⟨x,v,rfl,f⟩:=h;unfold Kd.W at w;exact Fq (by unfold D.Nd;trivial) (fh.nd fs x v w.2.2.2 f)
theorem dB.nd:∀(fs:Fs) (m:Ds),fs.W->dB fs m->m.Nd
 | .nil,m,_,h=>by unfold dB at h;subst h;unfold Ds.Nd;trivial
 | .cons x k r,m,w,h=>by
   unfold dB at h;obtain⟨d,q,rfl,h1,h2⟩:=h;unfold Fs.W at w;unfold Ds.Nd;exact⟨du.nd k d w.1 h1,dB.nd r q w.2 h2⟩
theorem fh.nd:∀(fs:Fs) (x:Str) (v:D),fs.W->fh fs x v->v.Nd
 | .nil,_,_,_,h=>by unfold fh at h;exact h.elim
 | .cons y k r,x,v,w,h=>by
   unfold fh at h;unfold Fs.W at w;rcases h with⟨_,h⟩|⟨_,h⟩
   . exact du.nd k v w.1 h
   . exact fh.nd r x v w.2 h
end
mutual
theorem du.sm {n:Nat}(J:n<=100):∀(k:Kd) (d:D),k.W->du k d->d.SL n->d.Sm
 | .num,d,_,h,_=>by unfold du at h;obtain⟨z,rfl⟩:=h;unfold D.Sm;trivial
 | .fe,d,_,h,_=>by unfold du at h;obtain⟨z,rfl⟩:=h;unfold D.Sm;trivial
 | .eQ fs,d,w,h,l=>by
   unfold du at h;obtain⟨m,rfl,f⟩:=h;unfold Kd.W at w;unfold D.SL at l;unfold D.Sm;exact⟨by rw[<-kL,dB.names f];have:=w.2.1;omega,dB.sm J fs m w.2.2 f l⟩
 | .rows key by_ fs,d,w,h,l=>by
   unfold du at h;obtain⟨U,rfl,f,_⟩:=h;unfold Kd.W at w;unfold D.SL at l;unfold D.Sm;refine⟨Q0h l.1 J,ye λm L=>?_⟩;unfold D.Sm;exact⟨by rw[<-kL,dB.names (f m L)];have:=w.2.1;omega,dB.sm J fs m w.2.2.1 (f m L) (j4 l.2 m L)⟩
 | .tree k,d,w,h,l=>by
   unfold du at h;unfold Kd.W at w;exact Tree.sm J (λd h l=>du.sm J k d w h l) d h l
 | .fg fs,d,w,h,l=>by
   unfold du at h;obtain⟨x,v,rfl,f⟩:=h;unfold Kd.W at w;unfold pairD D.SL Ds.SL Ds.SL at l;exact DQ (by unfold D.Sm;trivial) (fh.sm J fs x v w.2.2.2 f l.2.1)
theorem dB.sm {n:Nat}(J:n<=100):∀(fs:Fs) (m:Ds),fs.W->dB fs m->m.SL n->m.Sm
 | .nil,m,_,h,_=>by unfold dB at h;subst h;unfold Ds.Sm;trivial
 | .cons x k r,m,w,h,l=>by
   unfold dB at h;obtain⟨d,q,rfl,h1,h2⟩:=h;unfold Fs.W at w;unfold Ds.SL at l;unfold Ds.Sm;exact⟨du.sm J k d w.1 h1 l.1,dB.sm J r q w.2 h2 l.2⟩
theorem fh.sm {n:Nat}(J:n<=100):∀(fs:Fs) (x:Str) (v:D),fs.W->fh fs x v->v.SL n->v.Sm
 | .nil,_,_,_,h,_=>by unfold fh at h;exact h.elim
 | .cons y k r,x,v,w,h,l=>by
   unfold fh at h;unfold Fs.W at w;rcases h with⟨_,h⟩|⟨_,h⟩
   . exact du.sm J k v w.1 h l
   . exact fh.sm J r x v w.2 h l
end
theorem Ds.qZ {x:Str}{e:D}:∀(m:Ds),(m.set x e).dep<=max m.dep e.dep
 | .nil=>Q06 _
 | .cons y d r=>by
   have h:=Ds.qZ (x:=x) (e:=e) r;show(if x=y then Ds.cons y e r else .cons y d (r.set x e)).dep<=max (max d.dep r.dep) e.dep;split
   . show max e.dep r.dep<=_;omega
   . show max d.dep (r.set x e).dep<=_;omega
theorem Ds.zo {e:D}:∀(m:Ds) (i:Nat),(m.put i e).dep<=max m.dep e.dep
 | .nil,_=>Q06 _
 | .cons y d r,0=>by show max e.dep r.dep<=max (max d.dep r.dep) e.dep;omega
 | .cons y d r,i+1=>by
   have h:=Ds.zo (e:=e) r i;show max d.dep (r.put i e).dep<=max (max d.dep r.dep) e.dep;omega
theorem Ds.m7 {z:Str}{e:D}:∀(m:Ds),(m.snoc z e).dep=max m.dep e.dep
 | .nil=>by show max e.dep 0=max 0 e.dep;omega
 | .cons y d r=>by
   have h:=Ds.m7 (z:=z) (e:=e) r;show max d.dep (r.snoc z e).dep=max (max d.dep r.dep) e.dep;omega
theorem Ds.q9 {n:Nat}{x:Str}{e:D}(J:e.SL n):∀(m:Ds),m.SL n->(m.set x e).SL n
 | .nil,h=>h
 | .cons y d r,h=>by
   unfold Ds.SL at h;show(if x=y then Ds.cons y e r else .cons y d (r.set x e)).SL n;split
   . unfold Ds.SL;exact⟨J,h.2⟩
   . unfold Ds.SL;exact⟨h.1,Ds.q9 J r h.2⟩
theorem Ds.zp {n:Nat}{e:D}(J:e.SL n):∀(m:Ds) (i:Nat),m.SL n->(m.put i e).SL n
 | .nil,_,h=>h
 | .cons y d r,0,h=>by unfold Ds.SL at h;show(Ds.cons y e r).SL n;unfold Ds.SL;exact⟨J,h.2⟩
 | .cons y d r,i+1,h=>by unfold Ds.SL at h;show(Ds.cons y d (r.put i e)).SL n;unfold Ds.SL;exact⟨h.1,Ds.zp J r i h.2⟩
theorem Ds.o_ {n:Nat}{z:Str}{e:D}(J:e.SL n):∀(m:Ds),m.SL n->(m.snoc z e).SL n
 | .nil,h=>by show(Ds.cons z e .nil).SL n;unfold Ds.SL;exact⟨J,by unfold Ds.SL;trivial⟩
 | .cons y d r,h=>by unfold Ds.SL at h;show(Ds.cons y d (r.snoc z e)).SL n;unfold Ds.SL;exact⟨h.1,Ds.o_ J r h.2⟩
theorem Ds.zq {n:Nat}{z:Str}{e:D}:∀{m:Ds},(m.snoc z e).SL n->m.SL n
 | .nil,h=>by unfold Ds.SL;trivial
 | .cons y d r,h=>by
   have h:(Ds.cons y d (r.snoc z e)).SL n:=h;unfold Ds.SL at h ⊢;exact⟨h.1,Ds.zq h.2⟩
theorem Ds.zr {e:D}:∀(m:Ds) (i:Nat),(m.put i e).len=m.len
 | .nil,_=>rfl
 | .cons y d r,0=>rfl
 | .cons y d r,i+1=>by show(r.put i e).len+1=r.len+1;rw[Ds.zr r i]
theorem q_ {key by_:Str}{l:List Ds}{N:Nat}(h:∀m∈l,m.dep<=N):(D.lst (d3 (gA key by_ l))).dep<=N+2:=by
 have:=qu (l:=gA key by_ l) (n:=N) λm J=>h m ((iC key by_ l).mem_iff.mp J);simp only[D.dep];omega
theorem eR.dep {k:Kd}{d:D}{deed:Str}{a:D}{p:List Key}{d':D}(h:eR k d deed a p d'):d'.dep<=d.dep+a.dep+2:=by
 induction h with
 |kQ _ _=>omega
 |lM _=>omega
 |@add key by_ fs L m U hk=>
  have h1:∀x∈L,x.dep<=(d3 L).dep:=λx J=>by have:=kM x J;omega
  have:=q_ (key:=key) (by_:=by_) (l:=L++[m]) (N:=(d3 L).dep+m.dep) λx J=>by
   rcases List.mem_append.mp J with z|z
   . have:=h1 x z;omega
   . rw[List.mem_singleton.mp z];omega
  simp only[D.dep] at this ⊢;omega
 |@cut key by_ fs l1 l2 m=>
  have:=qu (l:=l1++l2) (n:=(d3 (l1++m::l2)).dep) λx J=>by
   have:=kM (l:=l1++m::l2) x (by
    rcases List.mem_append.mp J with z|z
    . exact Q0f _ z
    . exact Q01 _ (Q04 _ z))
   omega
  simp only[D.dep];omega
 |@grow k x y t f as hf=>
  have:=Ds.m7 (z:="") (e:=f) as;simp only[D.dep,Ds.dep,this];omega
 |@trim k x y z t c a as=>
  have:=Ds.m7 (z:=z) (e:=c) as;simp only[D.dep,Ds.dep,this];omega
 |@fld fs m x deed k e a Y p hg U _ ih=>
  have h1:=Ds.qZ (x:=x) (e:=Y) m;have h2:=Ds.jV U;simp only[D.dep];omega
 |@row key by_ fs l1 l2 m x deed k e a Y p J hg U _ ih=>
  have h1:=Ds.qZ (x:=x) (e:=Y) m;have h2:=Ds.jV U;have h3:∀x∈l1++m::l2,x.dep+1<=(d3 (l1++m::l2)).dep:=λx J=>kM x J;have aa:=h3 m (Q01 _ Q0a)
  have:=q_ (key:=key) (by_:=by_) (l:=l1++m.set x Y::l2) (N:=(d3 (l1++m::l2)).dep+a.dep+1) λy hy=>by
   rcases List.mem_append.mp hy with z|z
   . have:=h3 y (Q0f _ z);omega
   . rcases List.mem_cons.mp z with z|z
     . rw[z];omega
     . have:=h3 y (Q01 _ (Q04 _ z));omega
  simp only[D.dep] at this ⊢;omega
 |@knot k x y deed t a t' as p _ ih=>
  simp only[D.dep,Ds.dep];omega
 |@arm k x y deed t a c c' as i p hi _ ih=>
  have h1:=Ds.zo (e:=c') as i;have h2:=Ds.i9 hi;simp only[D.dep,Ds.dep];omega
 |@alt fs x deed k v a v' p hg _ ih=>
  unfold pairD;simp only[D.dep,Ds.dep];omega
theorem eR.len {k:Kd}{d:D}{deed:Str}{a:D}{p:List Key}{d':D}(h:eR k d deed a p d'):p.length<=d.dep:=by
 induction h with
 |kQ _ _=>exact Q06 _
 |lM _=>exact Q06 _
 |add _ _=>exact Q06 _
 |cut=>exact Q06 _
 |grow _=>exact Q06 _
 |trim=>exact Q06 _
 |@fld fs m x deed k e a Y p U L _ J=>
  have h2:=Ds.jV L;simp only[D.dep,Q0e];omega
 |@row key by_ fs l1 l2 m x deed k e a Y p hx U L _ J=>
  have h2:=Ds.jV L;have:=kM (l:=l1++m::l2) m (Q01 _ Q0a);simp only[D.dep,Q0e];omega
 |@knot k x y deed t a t' as p _ J=>simp only[D.dep,Ds.dep,Q0e];omega
 |@arm k x y deed t a c c' as i p hi _ J=>
  have h2:=Ds.i9 hi;simp only[D.dep,Ds.dep,Q0e];omega
 |@alt fs x deed k v a v' p U _ J=>unfold pairD;simp only[D.dep,Ds.dep,Q0e];omega
theorem eR.sl {n:Nat}{k:Kd}{d:D}{deed:Str}{a:D}{p:List Key}{d':D}(h:eR k d deed a p d'):d.SL n->a.SL n->d'.SL (n+1):=by
 induction h with
 |kQ _ _=>exact λ_ h=>D.fG (Q0l _) _ h
 |lM _=>exact λ_ h=>D.fG (Q0l _) _ h
 |@add key by_ fs rs m hm hk=>
  intro J L;unfold D.SL at J L ⊢;rw[iu] at J;refine⟨by rw[iu,(iC key by_ _).length_eq,Q08];show _+1<=_;omega,m4 λx hx=>?_⟩;rcases List.mem_append.mp ((iC key by_ _).mem_iff.mp hx) with z|z
  . exact Ds.fG (Q0l _) _ (j4 J.2 x z)
  . rw[List.mem_singleton.mp z];exact Ds.fG (Q0l _) _ L
 |@cut key by_ fs l1 l2 m=>
  intro J L;unfold D.SL at J ⊢;rw[iu,Q08,Q0e] at J;refine⟨by rw[iu,Q08];omega,m4 λx hx=>Ds.fG (Q0l _) _ (j4 J.2 x ?_)⟩;rcases List.mem_append.mp hx with z|z
  . exact Q0f _ z
  . exact Q01 _ (Q04 _ z)
 |@grow k x y t f as hf=>
  intro J L;rw[lU] at J ⊢;exact⟨D.fG (Q0l _) _ J.1,by rw[Ds.qx];have:=J.2.1;omega,Ds.o_ (D.fG (Q0l _) _ L) _ (Ds.fG (Q0l _) _ J.2.2)⟩
 |@trim k x y z t c a as=>
  intro J L;rw[lU] at J ⊢;have:=J.2.1;rw[Ds.qx] at this;exact⟨D.fG (Q0l _) _ J.1,by omega,Ds.fG (Q0l _) _ (Ds.zq J.2.2)⟩
 |@fld fs m x deed k e a e' p hg hm _ U=>
  intro J L;unfold D.SL at J ⊢;exact Ds.q9 (U (Ds.mV J hm) L) _ (Ds.fG (Q0l _) _ J)
 |@row key by_ fs l1 l2 m x deed k e a e' p hx hg hm _ U=>
  intro J L;unfold D.SL at J ⊢;rw[iu,Q08,Q0e] at J;have Y:=j4 J.2 m (Q01 _ Q0a);refine⟨by rw[iu,(iC key by_ _).length_eq,Q08,Q0e];omega,m4 λy hy=>?_⟩;rcases List.mem_append.mp ((iC key by_ _).mem_iff.mp hy) with z|z
  . exact Ds.fG (Q0l _) _ (j4 J.2 y (Q0f _ z))
  . rcases List.mem_cons.mp z with z|z
    . rw[z];exact Ds.q9 (U (Ds.mV Y hm) L) _ (Ds.fG (Q0l _) _ Y)
    . exact Ds.fG (Q0l _) _ (j4 J.2 y (Q01 _ (Q04 _ z)))
 |@knot k x y deed t a t' as p _ U=>
  intro J L;unfold D.SL Ds.SL at J ⊢;exact⟨U J.1 L,Ds.fG (Q0l _) _ J.2⟩
 |@arm k x y deed t a c c' as i p hi _ U=>
  intro J L;rw[lU] at J ⊢;exact⟨D.fG (Q0l _) _ J.1,by rw[Ds.zr];have:=J.2.1;omega,Ds.zp (U (Ds.mU J.2.2 hi) L) _ _ (Ds.fG (Q0l _) _ J.2.2)⟩
 |@alt fs x deed k v a v' p hg _ U=>
  intro J L;unfold pairD D.SL Ds.SL Ds.SL at J ⊢;exact⟨by unfold D.SL;trivial,U J.2.1 L,by unfold Ds.SL;trivial⟩
end Pb
namespace L2
open Spec PyProof.Rows
section
variable {X:Cx}{N':List Str}{e:Expr}{t:TE}
structure lV (X:Cx) (N':List Str):Prop where
 len:N'.length=X.N.length
 old:∀(i:Nat) y,N'[i]? =some y->X.N[i]? =some y\/¬nB X.env.scope y
theorem Inv.Ft {pins:List (Addr × Obj)}{σ:St}{H:Hp}{s:Shared}(r:lV X N')(I:Inv X pins σ H s):Inv { X with N:=N' } pins σ H s:=by
 refine⟨⟨I.ok.mod,I.ok.kind,I.ok.glob,I.ok.blt,I.ok.above,I.ok.inj,I.ok.has,I.ok.cab,I.ok.hd,I.ok.frames,I.ok.stk,I.ok.nE,I.ok.bs,I.ok.iN,I.ok.kg,I.ok.k_,I.ok.h_,I.ok.jH⟩,I.os,I.bare,I.base,?_,I.cell,I.free,I.gM,I.pin,I.hok,I.len.trans r.len.symm⟩;obtain⟨m,h1,h2⟩:=I.loc;refine⟨m,h1,λi x v hi L J=>?_⟩;rcases r.old i x hi with h|h
 . exact h2 i x v h L J
 . exact absurd J h
theorem Inv.Fu {pins:List (Addr × Obj)}{σ:St}{H:Hp}{s:Shared}(r:lV X N')(L:∀(i:Nat) v,X.N[i]? ≠N'[i]? ->σ[i]? ≠some (some v))(I:Inv { X with N:=N' } pins σ H s):Inv X pins σ H s:=by
 refine⟨⟨I.ok.mod,I.ok.kind,I.ok.glob,I.ok.blt,I.ok.above,I.ok.inj,I.ok.has,I.ok.cab,I.ok.hd,I.ok.frames,I.ok.stk,I.ok.nE,I.ok.bs,I.ok.iN,I.ok.kg,I.ok.k_,I.ok.h_,I.ok.jH⟩,I.os,I.bare,I.base,?_,I.cell,I.free,I.gM,I.pin,I.hok,I.len.trans r.len⟩;obtain⟨m,h1,h2⟩:=I.loc;refine⟨m,h1,λi x v hi U J=>?_⟩;by_cases Y:X.N[i]? =N'[i]?
 . exact h2 i x v (by rw[<-Y];exact hi) U J
 . exact absurd U (L i v Y)
def Fv (N N':List Str) (t:TE):TE:=λσ H Q=>(∀(i:Nat) v,N[i]? ≠N'[i]? ->σ[i]? ≠some (some v))/\t σ H Q
theorem Fw (r:lV X N')(h:PE { X with N:=N' } e t):PE X e (Fv X.N N' t):=by
 intro pins s σ H Q I q;refine dH (h pins s σ H Q (I.Ft r) q.2) λv Y zq=>?_;obtain⟨x,H1,J,L,U⟩:=zq;exact⟨x,H1,J.Fu r q.1,L,U⟩
theorem lV.of {N:List Str}{sc:Scope}(U:X.N=N)(Y:X.env.scope=sc)(hl:N'.length=N.length)(hb:(List.zip N' N).all (λp=>p.1 == p.2 || ((sc.names.lookup p.1 != some .local) && (sc.names.lookup p.1 != some .cell) && (sc.names.lookup p.1 != some .free)))=true):lV X N':=by
 subst U;subst Y;refine⟨hl,λi y J=>?_⟩;have hi:=(List.getElem?_eq_some_iff.mp J).1;have L:X.N[i]? =some (X.N[i]'(by omega)):=Q05 _
 have hm:(y,X.N[i]'(by omega))∈List.zip N' X.N:=by
  refine Q0w (i:=i) ?_;rw[List.getElem?_zip_eq_some];exact⟨J,L⟩
 have:=List.all_eq_true.mp hb _ hm;simp only[Bool.or_eq_true,Bool.and_eq_true,beq_iff_eq,bne_iff_ne] at this;rcases this with h|⟨⟨h1,h2⟩,h3⟩
 . exact .inl (by rw[L,h])
 . exact .inr λz=>z.elim h1 λz=>z.elim h2 h3
end
end L2
namespace Pb
open L2
noncomputable abbrev zt:Pos:=⟨305,83,305,135⟩
noncomputable abbrev zu:Pos:=⟨310,81,310,133⟩
noncomputable abbrev rd:Str:=("_law_deed_rows":Str)++".<locals>."++"<lambda>"
def j5 (lp:Pos) (ps:Array Value) (H:Hp):Prop:=codeAmong lp ps.toList=none\/∃c',codeAmong lp ps.toList=some (.ref c')/\H c'=some (.ext (jU c' rd))
def je (P:Addr) (H:Hp):Prop:=∃ps,H P=some (.eS ps)/\TriplesOk ps.toList/\j5 zt ps H/\j5 zu ps H
theorem j5.keep {lp:Pos}{ps:Array Value}{H H':Hp}(h:j5 lp ps H)(k:∀c o,(∀xs,o≠ .lst xs)->(∀ps,o≠ .eS ps)->H c=some o->H' c=some o):j5 lp ps H':=by
 rcases h with h|⟨c,e,f⟩
 . exact .inl h
 . exact .inr ⟨c,e,k _ _ (by intro xs z;cases z) (by intro xs z;cases z) f⟩
theorem je.keep {P:Addr}{H H':Hp}(h:je P H)(J:∀ps,H P=some (.eS ps)->H' P=some (.eS ps))(k:∀c o,(∀xs,o≠ .lst xs)->(∀ps,o≠ .eS ps)->H c=some o->H' c=some o):je P H':=by
 obtain⟨ps,e,t,L,U⟩:=h;exact⟨ps,J _ e,t,L.keep k,U.keep k⟩
theorem zv {lp q:Pos}{c:Value}:∀(l:List Value),TriplesOk l->codeAmong lp (l++[rawInt q.line,rawInt q.col,c])=(codeAmong lp l).or (if(((q.line:Nat):Int) == ((lp.line:Nat):Int) && ((q.col:Nat):Int) == ((lp.col:Nat):Int))=true then some c else none)
 |[],_=>by
  show codeAmong lp [rawInt q.line,rawInt q.col,c]=_;simp only[codeAmong,rawInt];rfl
 | .int i _:: .int j _::v::rest,h=>by
   have J:=zv (lp:=lp) (q:=q) (c:=c) rest h;simp only[List.cons_append,codeAmong];split
   . rfl
   . exact J
theorem zw {x y:Int}{c:Value}:∀(l:List Value),TriplesOk l->TriplesOk (l++[rawInt x,rawInt y,c])
 |[],_=>trivial
 | .int i _:: .int j _::v::rest,h=>zw rest h
theorem je.pick {P:Addr}{H:Hp}{lp:Pos}(h:je P H)(hl:lp=zt\/lp=zu):∃ps,mz P lp rd ps H/\∀c' H',fo P H H'->ky P lp rd ps c' H'->je P H':=by
 obtain⟨ps,e,t,L,U⟩:=h;have Y:∀{H':Hp},fo P H H'->∀c o,(∀xs,o≠ .lst xs)->(∀ps,o≠ .eS ps)->H c=some o->H' c=some o:=λJ c o _ ho e'=>J c o (λz=>by rw[z,e] at e';cases e';exact ho _ rfl) e';refine⟨ps,⟨e,t,?_⟩,λc' H' J hy=>?_⟩
 . rcases hl with rfl|rfl
   . exact L
   . exact U
 obtain⟨⟨h0,h1⟩|⟨h0,h1⟩,h2⟩:=hy
 . have ea:(ps++#[rawInt lp.line,rawInt lp.col,.ref c']).toList=ps.toList++[rawInt lp.line,rawInt lp.col,.ref c']:=by simp
   have step:∀q,j5 q ps H->j5 q (ps++#[rawInt lp.line,rawInt lp.col,.ref c']) H':=λq hq=>by
    unfold j5;rw[ea,zv _ t];rcases hq with z|⟨c,z,f⟩
    . rw[z];show(if _ then _ else _)=none\/_;split
      . exact .inr ⟨c',rfl,h2⟩
      . exact .inl rfl
    . rw[z];exact .inr ⟨c,rfl,Y J _ _ (by intro xs z;cases z) (by intro xs z;cases z) f⟩
   exact⟨_,h1,by rw[ea];exact zw _ t,step _ L,step _ U⟩
 . exact⟨ps,h1,t,L.keep (Y J),U.keep (Y J)⟩
abbrev KW (b Pt Pd:Addr):Hp->Hp->Prop:=Kp (λc=>c=b\/c=Pt\/c=Pd)
structure WS (K:W.Frag) (Pt Pd Pi a b:Addr) (ns:List Int) (H:Hp) (n:Int):Prop where
 g:G0 K H a b ns n
 t:eW Pt yh yi H
 d:je Pd H
 i:eW Pi iG iH H
 ne:Pt≠Pd/\Pi≠Pt/\Pi≠Pd
theorem je.tab {P:Addr}{H:Hp}(h:je P H):∃ps,H P=some (.eS ps):=by obtain⟨ps,e,_⟩:=h;exact⟨_,e⟩
section
variable {K:W.Frag}{Pt Pd Pi a b:Addr}{ns:List Int}{H H':Hp}{n n':Int}
theorem WS.at (w:WS K Pt Pd Pi a b ns H n)(x:KW b Pt Pd H H'){c:Addr}{o:HO}(h1:o≠ .lst [.int n])(h2:∀ps,o≠ .eS ps)(e:H c=some o):H' c=some o:=by
 refine x c o (λz=>?_) e;rcases z with z|z|z
 . exact gL e w.g.at_ h1 z
 . obtain⟨ps,J⟩:=w.t.tab;exact gL e J (h2 ps) z
 . obtain⟨ps,J⟩:=w.d.tab;exact gL e J (h2 ps) z
theorem WS.tu (w:WS K Pt Pd Pi a b ns H n)(x:KW b Pt Pd H H'):Tu H H':=λc xs e=>w.at x (by intro z;cases z) (by intro ps z;cases z) e
theorem WS.same (w:WS K Pt Pd Pi a b ns H n)(s:Same H H'):WS K Pt Pd Pi a b ns H' n:=
 ⟨⟨SB.iT (SB.of s) w.g.at_ w.g.iT,w.g.len,s _ _ w.g.at_,w.g.pos⟩,w.t.same s,w.d.keep (λ_ e=>s _ _ e) (λc o _ _ e=>s _ _ e),w.i.same s,w.ne⟩
theorem WS.sb (w:WS K Pt Pd Pi a b ns H n)(s:SB b H H')(h:H' b=some (.lst [.int n']))(J:n<=n'):WS K Pt Pd Pi a b ns H' n':=
 ⟨w.g.go s h J,w.t.sb w.g.at_ s,w.d.keep (λps e=>s _ _ (gL e w.g.at_ (by intro z;cases z)) e) (λc o L _ e=>s _ _ (gL e w.g.at_ (L _)) e),w.i.sb w.g.at_ s,w.ne⟩
theorem WS.kt (w:WS K Pt Pd Pi a b ns H n)(x:fo Pt H H')(h:eW Pt yh yi H'):WS K Pt Pd Pi a b ns H' n:=by
 obtain⟨ps,U⟩:=w.t.tab;have J:∀c o,(∀ps,o≠ .eS ps)->H c=some o->H' c=some o:=λc o L e=>x.at w.t L e;refine⟨⟨?_,w.g.len,J _ _ (by intro ps z;cases z) w.g.at_,w.g.pos⟩,h,w.d.keep (λps e=>x _ _ (λz=>w.ne.1 z.symm) e) (λc o _ L e=>J _ _ L e),?_,w.ne⟩
 . rcases w.g.iT with⟨o,e⟩|e
   . exact .inl ⟨o,J _ _ (by intro ps z;cases z) e⟩
   . exact .inr e
 . rcases w.i with e|⟨c,e,f⟩
   . exact .inl (x _ _ w.ne.2.1 e)
   . exact .inr ⟨c,x _ _ w.ne.2.1 e,J _ _ (by intro ps z;cases z) f⟩
theorem WS.kd (w:WS K Pt Pd Pi a b ns H n)(x:fo Pd H H')(h:je Pd H'):WS K Pt Pd Pi a b ns H' n:=by
 obtain⟨ps,Y⟩:=w.d.tab;have J:∀c o,(∀ps,o≠ .eS ps)->H c=some o->H' c=some o:=λc o ho e=>x c o (λz=>gL e Y (ho ps) z) e
 have lt:∀{Q:Addr} {lp:Pos} {L:Str},Q≠Pd->eW Q lp L H->eW Q lp L H':=λU h=>by
  rcases h with e|⟨c,e,f⟩
  . exact .inl (x _ _ U e)
  . exact .inr ⟨c,x _ _ U e,J _ _ (by intro ps z;cases z) f⟩
 refine⟨⟨?_,w.g.len,J _ _ (by intro ps z;cases z) w.g.at_,w.g.pos⟩,lt w.ne.1 w.t,h,lt w.ne.2.2 w.i,w.ne⟩;rcases w.g.iT with⟨o,e⟩|e
 . exact .inl ⟨o,J _ _ (by intro ps z;cases z) e⟩
 . exact .inr e
theorem KW.sb (s:SB b H H'):KW b Pt Pd H H':=λc o n e=>s c o (λz=>n (.inl z)) e
theorem KW.kt (s:fo Pt H H'):KW b Pt Pd H H':=s.mono λ_ z=>.inr (.inl z)
theorem KW.kd (s:fo Pd H H'):KW b Pt Pd H H':=s.mono λ_ z=>.inr (.inr z)
theorem WS.own {H₀:Hp}{v:V}{d:D}{fp:List Addr}(w:WS K Pt Pd Pi a b ns H n)(x:KW b Pt Pd H H')(L:∃o,H₀ b=some o)(h:Own H v d fp)(U:∀c∈fp,H₀ c=none):Own H' v d fp:=by
 refine h.keep (w.tu x) d λc hc o e=>x c o (λz=>?_) e;have mu:=Own.alive d h c hc;rcases z with z|z|z
 . obtain⟨o',Y⟩:=L;have:=U c hc;rw[z,Y] at this;cases this
 . obtain⟨ps,J⟩:=w.t.tab;rcases mu with⟨xs,q⟩|⟨xs,q⟩ <;> rw[z,J] at q <;> cases q
 . obtain⟨ps,J⟩:=w.d.tab;rcases mu with⟨xs,q⟩|⟨xs,q⟩ <;> rw[z,J] at q <;> cases q
theorem WS.eX (J:WS K Pt Pd Pi a b ns H' n')(x:KW b Pt Pd H H'){c:Addr}(h:H' c=none):H c=none:=by
 refine Kp.eX x (λz=>?_) h;rcases z with z|z|z
 . rw[z,J.g.at_] at h;cases h
 . obtain⟨ps,L⟩:=J.t.tab;rw[z,L] at h;cases h
 . obtain⟨ps,L⟩:=J.d.tab;rw[z,L] at h;cases h
theorem WS.rows {H₀:Hp}{vs:List V}{U:List Ds}{L:List (List Addr)}(w:WS K Pt Pd Pi a b ns H n)(x:KW b Pt Pd H H')(J:∃o,H₀ b=some o)(h:dS H vs U L)(Y:∀c∈L.flatten,H₀ c=none):dS H' vs U L:=
 match vs,U,L,h with
 |_,_,_,.nil=>.nil
 |_,_,_,.cons h r=>.cons (w.own x J h λc hc=>Y c (Q0f _ hc)) (WS.rows w x J r λc hc=>Y c (Q01 _ hc))
end
mutual
noncomputable def Kd.hv:Kd->Nat
 | .num=>1
 | .fe=>1
 | .eQ fs=>fs.hv+1
 | .rows _ _ fs=>fs.hv+3
 | .tree k=>k.hv+5
 | .fg fs=>fs.hv+1
noncomputable def Fs.hv:Fs->Nat
 | .nil=>0
 | .cons _ k r=>max k.hv r.hv
end
mutual
noncomputable def Kd.dF (f:Nat):Kd->Nat
 | .num=>1
 | .fe=>1
 | .eQ fs=>fs.dF f+1
 | .rows _ _ fs=>fs.dF f+2
 | .tree k=>k.dF f+2 * (f+1)
 | .fg fs=>fs.dF f+2
noncomputable def Fs.dF (f:Nat):Fs->Nat
 | .nil=>0
 | .cons _ k r=>max (k.dF f) (r.dF f)
end
theorem Kd.Fx (k:Kd):1<=k.hv:=by cases k <;> simp[Kd.hv]
theorem Kd.Fy (f:Nat)(k:Kd):1<=k.dF f:=by
 cases k with
 |tree k=>simp only[Kd.dF];omega
 |_=>simp[Kd.dF]
def Fs.flat:Fs->Prop
 | .nil=>True
 | .cons _ k r=>gz k/\r.flat
def Kd.flat:Kd->Prop
 | .num=>True
 | .fe=>True
 | .eQ fs=>fs.flat
 |_=>False
theorem zx {k:Kd}(h:gz k):k.flat:=by cases k <;> first|trivial|exact h.elim
theorem Fs.rg:∀{fs:Fs}{i:Nat}{x:Str}{k:Kd},fs.flat->fs.at i=some (x,k)->gz k
 | .nil,_,_,_,_,h=>by cases h
 | .cons _ _ _,0,_,_,w,h=>by cases h;exact w.1
 | .cons _ _ r,i+1,_,_,w,h=>Fs.rg (fs:=r) (i:=i) w.2 h
theorem Fs.m8:∀{fs:Fs}{i:Nat}{x:Str}{k:Kd},fs.at i=some (x,k)->k.hv<=fs.hv
 | .nil,_,_,_,h=>by cases h
 | .cons x k r,0,_,_,h=>by cases h;exact Q1a _ _
 | .cons x k r,i+1,_,_,h=>Q0h (Fs.m8 (fs:=r) (i:=i) h) (Q1h _ _)
theorem Fs.m9 {f:Nat}:∀{fs:Fs}{i:Nat}{x:Str}{k:Kd},fs.at i=some (x,k)->k.dF f<=fs.dF f
 | .nil,_,_,_,h=>by cases h
 | .cons x k r,0,_,_,h=>by cases h;exact Q1a _ _
 | .cons x k r,i+1,_,_,h=>Q0h (Fs.m9 (fs:=r) (i:=i) h) (Q1h _ _)
noncomputable def lv:Kd->Nat->Nat
 | .tree k,f=>k.hv+2+f
 |k,_=>k.hv
noncomputable def vc:Kd->Nat->Nat
 | .tree k,f=>(k.cB+1) * gj (f+1)
 |k,_=>k.cB
theorem lW (k:Kd){f:Nat}(h:f<=3):lv k f<=k.hv:=by cases k <;> simp only[lv,Kd.hv] <;> omega
theorem Fz (k:Kd)(f:Nat):1<=lv k f:=by
 cases k with
 |tree k=>simp only[lv];omega
 |_=>exact Kd.Fx _
theorem FC:∀f,f<=3->gj (f+1)<=585:=by decide
theorem kZ (k:Kd){f:Nat}(h:f<=3):vc k f<=k.cB:=by
 cases k with
 |tree k=>exact Nat.mul_le_mul_left _ (FC f h)
 |_=>exact Q00 _
structure k7 (k:Kd) (f:Nat) (d:D):Prop where
 fit:du k d
 sl:d.SL 40
 dp:d.dep<=k.dF f
def Rm (k:Kd) (J f:Nat):Prop:=(J<2 ^ f/\f<=3)\/k.flat
def iW (K:W.Frag) (Pt Pd Pi:Addr) (M:Nat):Sp:=λvs H Q _=>∃a b ns n L k,∃J f:Nat,vs=[.ref a,.ref b,L,.int J]/\WS K Pt Pd Pi a b ns H n/\KA H L k/\k.W/\lv k f<=M/\Rm k J f/\n+vc k f<=1000000000000/\
 ∀v d fp H' n',KW b Pt Pd H H'->WS K Pt Pd Pi a b ns H' n'->n<=n'->n'<=n+vc k f->Own H' v d fp->(∀c∈fp,H c=none)->k7 k f d->Q v H'
def m_ (K:W.Frag) (Pt Pd Pi:Addr) (M:Nat):Sp:=λvs H Q _=>∃a b ns n L key by_ fs,∃J f:Nat,vs=[.ref a,.ref b,L,.int J]/\WS K Pt Pd Pi a b ns H n/\KA H L (.rows key by_ fs)/\(Kd.rows key by_ fs).W/\fs.hv+1<=M/\((J<2 ^ f/\f<=3)\/(fs.flat/\J<=40))/\n+1+(J * fs.cB:Nat)<=1000000000000/\
 ∀v d fp H' n',KW b Pt Pd H H'->WS K Pt Pd Pi a b ns H' n'->n<=n'->n'<=n+1+(J * fs.cB:Nat)->Own H' v d fp->(∀c∈fp,H c=none)->k7 (.rows key by_ fs) f d->Q v H'
theorem rh {fs:Fs}{key by_:Str}{m:Ds}(f:dB fs m)(h1:fs.pl key)(h2:by_=""\/fs.pl by_):(iU key by_ m).map fb=[if by_="" then true else lD (fs.get by_),lD (fs.get key)]:=by
 unfold iU;show [fb _,fb _]=_;rw[f.tag h1];split
 . rfl
 . rename_i e;rw[f.tag (h2.resolve_left e)]
theorem FD {l:List (Key × V)}{k:Key}{v:V}(h:(l.map (·.1)).Nodup):((putK l k v).map (·.1)).Nodup:=by
 unfold putK;split
 . have e:(l.map λJ=>if J.1=k then(J.1,v) else J).map (·.1)=l.map (·.1):=by
    rw[Q20];refine Q1s λJ _=>?_;show(if J.1=k then(J.1,v) else J).1=J.1;split <;> rfl
   rw[e];exact h
 . rename_i e;rw[Q0k];refine List.nodup_append.mpr ⟨h,List.nodup_cons.mpr ⟨λz=>(nomatch z),Q1q⟩,λx L y U z=>e ?_⟩;rw[z] at L;obtain⟨J,h1,h2⟩:=List.mem_map.mp L;exact List.any_eq_true.mpr ⟨J,h1,decide_eq_true (h2.trans (List.mem_singleton.mp U))⟩
theorem FE {l:List (Key × V)}{k:Key}{v:V}{x:Key × V}(h:x∈putK l k v):x∈l\/x=(k,v):=by
 unfold putK at h;split at h
 . obtain⟨J,h1,h2⟩:=List.mem_map.mp h;by_cases e:J.1=k
   . have h2:(if J.1=k then(J.1,v) else J)=x:=h2;rw[if_pos e,e] at h2;exact .inr h2.symm
   . have h2:(if J.1=k then(J.1,v) else J)=x:=h2;rw[if_neg e] at h2;exact .inl (h2 ▸ h1)
 . rcases List.mem_append.mp h with z|z
   . exact .inl z
   . exact .inr (List.mem_singleton.mp z)
theorem FF {l:List (Key × V)}{k:Key}{v:V}:(putK l k v).length<=l.length+1:=by
 unfold putK;split
 . rw[Q09];omega
 . rw[Q08];exact Q00 _
theorem FG (L:List (Key × V)):((gg L).map (·.1)).Nodup/\(∀x∈gg L,x∈L)/\(gg L).length<=L.length:=by
 unfold gg
 have:∀(L J:List (Key × V)),(J.map (·.1)).Nodup->(((L.foldl (λJ p=>putK J p.1 p.2) J).map (·.1)).Nodup/\(∀x∈L.foldl (λJ p=>putK J p.1 p.2) J,x∈J\/x∈L)/\(L.foldl (λJ p=>putK J p.1 p.2) J).length<=J.length+L.length):=by
  intro L
  induction L with
  |nil=>intro J h;exact⟨h,λx U=>.inl U,Q00 _⟩
  |cons p r ih=>
   intro J h;rw[Q1b];obtain⟨h1,h2,Y⟩:=ih (putK J p.1 p.2) (FD h);refine⟨h1,λx U=>?_,?_⟩
   . rcases h2 x U with z|z
     . rcases FE z with z|z
       . exact .inl z
       . exact .inr (by rw[z];exact Q0a)
     . exact .inr (Q04 _ z)
   . have:=FF (l:=J) (k:=p.1) (v:=p.2);rw[Q0e];omega
 obtain⟨h1,h2,Y⟩:=this L [] Q1q;exact⟨h1,λx U=>(h2 x U).elim (λz=>(nomatch z)) id,by rw[Q1r,Q21] at Y;exact Y⟩
theorem FH (L:List (Key × V))(h:(L.map (·.1)).Nodup):gg L=L:=by
 unfold gg
 have:∀(L J:List (Key × V)),((J++L).map (·.1)).Nodup->L.foldl (λJ p=>putK J p.1 p.2) J=J++L:=by
  intro L
  induction L with
  |nil=>intro J _;exact(Q0m _).symm
  |cons p r Y=>
   intro J h;rw[Q1b]
   have hp:putK J p.1 p.2=J++[p]:=by
    unfold putK;rw[if_neg];intro z;obtain⟨U,h1,h2⟩:=List.any_eq_true.mp z;rw[Q0k,Q0o] at h;exact(List.nodup_append.mp h).2.2 U.1 (List.mem_map.mpr ⟨U,h1,rfl⟩) p.1 Q0a (of_decide_eq_true h2)
   rw[hp,Y (J++[p]) (by rw[Q0r];exact h),Q0r];rfl
 exact this L [] h
theorem picks {α:Type}(J:α){L:List α}:∀(l:List α),(∀x∈l,x∈L)->∃p:List Nat,(∀i∈p,i<L.length)/\l=p.map λi=>L.getD i J
 |[],_=>⟨[],λi hi=>(nomatch hi),rfl⟩
 |x::r,h=>by
  obtain⟨p,h1,h2⟩:=picks J r λy U=>h y (Q04 _ U);obtain⟨i,hi,e⟩:=Q19 (h x Q0a);refine⟨i::p,λj Y=>?_,?_⟩
  . rcases List.mem_cons.mp Y with z|z
    . rw[z];exact hi
    . exact h1 j z
  . rw[Q0o,<-h2];show x::r=L.getD i J::r;rw[Q0j,Q05 hi,<-e];rfl
noncomputable def gK (key:Str):List Ds->List V->List (Key × V)
 |m::ms,v::vs=>(keyOf m key,v)::gK key ms vs
 |_,_=>[]
theorem rj {key:Str}:∀{ms:List Ds}{vs:List V}{i:Nat}{p:Key × V},(gK key ms vs)[i]? =some p->∃m v,ms[i]? =some m/\vs[i]? =some v/\p=(keyOf m key,v)
 |[],_,i,p,h=>by cases h
 |_::_,[],i,p,h=>by cases h
 |m::ms,v::vs,0,p,h=>by cases h;exact⟨m,v,rfl,rfl,rfl⟩
 |m::ms,v::vs,i+1,p,h=>rj (ms:=ms) (vs:=vs) (i:=i) h
theorem lX {key:Str}:∀{ms:List Ds}{vs:List V},vs.length=ms.length->(gK key ms vs).length=vs.length
 |[],[],_=>rfl
 |[],_::_,h=>by cases h
 |_::_,[],h=>by cases h
 |m::ms,v::vs,h=>by
  show(gK key ms vs).length+1=vs.length+1;rw[lX (Nat.succ.inj h)]
theorem FI {key:Str}{ms:List Ds}{vs:List V}{i:Nat}(hl:vs.length=ms.length)(hi:i<vs.length):(gK key ms vs).getD i (.inl 0,.non)=(keyOf (ms.getD i .nil) key,vs.getD i .non):=by
 have h:=Q05 (l:=gK key ms vs) (i:=i) (by rw[lX hl];exact hi);obtain⟨m,v,h1,h2,J⟩:=rj h;rw[Q0j,h,Q0j,Q0j,h1,h2,J];rfl
theorem FJ {H:Hp}{key:Str}{vs:List V}{ms:List Ds}{U:List (List Addr)}(h:dS H vs ms U):∃J L,dS H ((gg (gK key ms vs)).map (·.2)) J L/\(J.map λm=>keyOf m key).Nodup/\(∀m∈J,m∈ms)/\(∀c∈L.flatten,c∈U.flatten)/\J.length<=ms.length:=by
 obtain⟨l1,l2⟩:=A3.len h;obtain⟨Y,k2,k3⟩:=FG (gK key ms vs);obtain⟨p,p1,p2⟩:=picks (Sum.inl 0,V.non) (gg (gK key ms vs)) k2;have hp:∀i∈p,i<vs.length:=λi hi=>by have:=p1 i hi;rw[lX l1] at this;exact this
 have e:gg (gK key ms vs)=p.map λi=>(keyOf (ms.getD i .nil) key,vs.getD i .non):=by
  rw[p2];exact Q1s λi hi=>FI l1 (hp i hi)
 have pk:=A3.pick (a0:=V.non) (b0:=Ds.nil) (c0:=[]) h p hp
 have pl:p.length<=ms.length:=by
  rw[e,Q09,lX l1] at k3;omega
 have mem:∀{α:Type} (d0:α) (l:List α) (i:Nat),i<l.length->l.getD i d0∈l:=λd0 l i hi=>by
  rw[Q0j,Q05 hi];exact Q14 _
 refine⟨_,_,by rw[e,Q20];exact pk,?_,λm hm=>?_,λc hc=>?_,by rw[Q09];exact pl⟩
 . rw[e,Q20] at Y;rw[Q20];exact Y
 . obtain⟨i,hi,rfl⟩:=List.mem_map.mp hm;exact mem _ _ _ (by have:=hp i hi;omega)
 . obtain⟨x,hx,hc⟩:=List.mem_flatten.mp hc;obtain⟨i,hi,rfl⟩:=List.mem_map.mp hx;exact List.mem_flatten.mpr ⟨_,mem _ _ _ (by have:=hp i hi;omega),hc⟩
theorem FK {key by_:Str}{fs:Fs}{f:Nat}{ms:List Ds}(h:∀m∈ms,k7 (.eQ fs) f (.dct m))(hk:(ms.map λm=>keyOf m key).Nodup)(hl:ms.length<=40):k7 (.rows key by_ fs) f (.lst (d3 (gA key by_ ms))):=by
 have Y:=iC key by_ ms
 have U:∀m∈ms,dB fs m:=λm J=>by
  have:=(h m J).fit;unfold du at this;obtain⟨m',e,f⟩:=this
  cases e;exact f
 have L:=(Y.map λr=>keyOf r key).nodup_iff.mpr hk;refine⟨?_,?_,?_⟩
 . unfold du;exact⟨_,rfl,λm J=>U m (Y.mem_iff.mp J),mD (lC key by_ _) L,L⟩
 . unfold D.SL;refine⟨by rw[iu,Y.length_eq];exact hl,m4 λm J=>?_⟩;have:=(h m (Y.mem_iff.mp J)).sl;unfold D.SL at this;exact this
 . have:=q_ (key:=key) (by_:=by_) (l:=ms) (N:=fs.dF f) λm J=>by
    have:=(h m J).dp;simp only[D.dep,Kd.dF] at this;omega
   simp only[Kd.dF];exact this
section
variable {P:Program}{w:World}{K:W.Frag}{mg:Str->Option Value}{base:Heap}
variable {Pt Pd Pi:Addr}
theorem zy:d5 XD XI (dD (top 40)):=eL
theorem FN {c:Addr}(M:Nat)(T:Tb mg)(af:Dn K mg "_law_rows" fB (top 40) ag U)(aN:U.code=.ref c)(a2:W.CodeHd base c Pt)(a3:BM mg base)(ah:Dn K mg "_law_next" dQ (top 31) ai aj)(ak:c_ P w K mg base da (1) ai aj dQ (gi K))(Y:Dn K mg "_law_value" fB (top 41) aa ab)(ac:c_ P w K mg base da (M+6) aa ab fB (iW K Pt Pd Pi M))(L:Dn K mg "_law_rank" ja (top 39) al am)(an:c_ P w K mg base da (1) al am ja (mO)):
 c_ P w K mg base da (M+7) ag U fB (m_ K Pt Pd Pi M):=by
 refine af.F.qq aN zy (λvs H Q E h=>?_) (λA outer s H vs Q E hr h=>?_)
 . obtain⟨a,b,ns,n,kv,key,by_,fs,J,f,rfl,_⟩:=h;rfl
 obtain⟨a,b,ns,n,kv,key,by_,fs,J,f,rfl,hw,aP,hW,hM,ay,hn,q⟩:=h;have nd:=zy.nd;have hu:=qa hr;unfold KA at aP;obtain⟨pk,pb,xs,rfl,aH,a4,a5⟩:=aP;unfold Kd.W at hW;obtain⟨a6,a7,a8,au,aQ⟩:=hW
 have bt:J<=40:=by
  rcases ay with⟨h1,h2⟩|⟨_,h⟩
  . have:2 ^ f<=2 ^ 3:=Q2d (by decide) h2;omega
  . exact h
 refine⟨_,(c9 (dI 4 nd (dm eE (dq ak hr ah (a_ (pv 0) (a_ (pv 1) b_))) (dm gu (pv 3) cZ)))
  (c9 (lu (i:=5) nd rfl fk (g:=(dU 0)) (tt:=fE) (te:=(fT _ _ _ (dJ (dE 1) (dJ (dE 2) (dJ (ko (dJ (tC (.str "record")) (dJ (dY (gO K) (dE 3) (tC (.int 3))) fc))) (dJ (dY _ (dE 4) (tC (.int 2))) fc)))))) (own:=["_law_k"]) rfl (fN (N:=XD) (sc:=dD (top 40))) (jm rfl T.jw (a_ (pv 4) b_)) (λ_ _ _ _ _=>(en (i:=0) (show(["_law_k","_law_script","_law_at","_law_kind_here","_law_room","_law_many","_law_rows_here","_law_firsts"]:List Str).Nodup by decide +kernel) rfl (Or.inl rfl) (.inr rfl))) (λ_ _ _ _ _=>gc) (λ_ _ _ _ _=>(dq ac hr Y (a_ (pv 1) (a_ (pv 2) (a_ (dW (a_ dO (a_ (dj (pv 3) cZ) b_))) (a_ (dm f_ (pv 4) cZ) b_)))))))
  (c9 (dI 6 nd (jP (x3 rfl) (by rfl) T.gJ boot_dict (a_ (gH (g:=(dU 0)) (tt:=fE) (te:=(ko (dJ (jR (dE 0) (dY (gO K) (dE 3) (tC (.int 1)))) (dJ (dE 0) fc)))) (own:=["_law_row"]) rfl (fN (N:=XD) (sc:=dD (top 40))) (jK (pv 5)) (λ_ _ _ _ _=>(en (i:=0) (show(["_law_row","_law_script","_law_at","_law_kind_here","_law_room","_law_many","_law_rows_here","_law_firsts"]:List Str).Nodup by decide +kernel) rfl (Or.inl rfl) (.inr rfl))) (λ_ _ _ _ _=>gc) (λ_ _ _ _ _=>(dW (a_ (fH hu (pv 0) (dj (pv 3) cZ) (λ_ _=>rfl)) (a_ (pv 0) b_))))) b_)))
  (dc (dk (o5 (te:=(fT _ _ _ (dJ (dE 3) (dJ (dE 0) fc)))) (x:="_law_row") (N':=["","","_law_kind_here","","","",""]) rfl T.mF boot_sorted hr rfl rfl a2 a3 (ju.of (N:=XD) (sc:=dD (top 40)) rfl rfl rfl rfl rfl (by decide +kernel)) rfl (λ_ _ _ _ _=>rfl) (jP (Fk rfl) (by rfl) T.gB boot_list (a_ (BF PySem.F.plainAttrs_dict PySem.F.slot_dict_values PySem.F.type_dict_values Fj (pv 6)) b_)) (λ_ _ _ _ _=>(ml an (eV.deeper (k:=1) (eV.in1 (k:=2) (eV.in1 (k:=3) (hr.mono (by omega)))) _) rfl L.m L.F.kp L.b .nil mn (a_ (pv 3) (a_ (pv 0) b_)))))))))),?_⟩
 ac_rfl
 refine⟨_,rfl,_,rfl,a,b,ns,n,rfl,hw.g,by omega,λr H1 r0 r1 s1 h1=>?_⟩;have a9:=hw.sb s1 h1 (by omega);have aT:KW b Pt Pd H H1:=KW.sb s1;refine⟨_,rfl,_,_,rfl,rfl,_,_,rfl,rfl,by omega,?_⟩;obtain⟨m,hm⟩:∃m:Nat,r % ((J:Int)+1)=(m:Int):=⟨(r % ((J:Int)+1)).toNat,by have:=Q0s r (show((J:Int)+1)≠0 by omega);omega⟩;have ba:m<=J:=by have:=Q0u r (show(0:Int)<(J:Int)+1 by omega);omega
 have bb:∃o,H b=some o:=⟨_,hw.g.at_⟩;show dU 4 (V.int (r % ((J:Int)+1))) _ _ _;rw[hm];dsimp only[dU];refine lT ?_;have bw:=hw.tu aT;refine mN (m:=m) (λi ys H'=>∃n' ms fl,KW b Pt Pd H H'/\WS K Pt Pd Pi a b ns H' n'/\n<=n'/\n'<=n+1+(i * fs.cB:Nat)/\ys.length=i/\dS H' ys ms fl/\(∀c∈fl.flatten,H c=none)/\∀m∈ms,k7 (.eQ fs) f (.dct m)) (by rfl) (by omega) ⟨n+1,[],[],aT,a9,by omega,by omega,rfl,.nil,λc hc=>(nomatch hc),λm hm=>(nomatch hm)⟩ (λj ys H' h=>by obtain⟨_,_,_,_,_,_,_,e,_⟩:=h;exact e) ?_ ?_
 . rintro i ys H' hi ⟨n',ms,fl,kw,ap,z1,z2,hy,ae,aC,aD⟩ R hR;have e1:(i+1) * fs.cB=i * fs.cB+fs.cB:=Q1o _ _;have e2:(i+1) * fs.cB<=J * fs.cB:=Q11 _ (by omega);have tu:=hw.tu kw;refine⟨_,rfl,_,rfl,_,rfl,pk,_,_,_,rfl,rfl,c8.of (tu _ _ aH),rfl,er,λt ht=>?_⟩;have sN:=Same.new ht (o:=.tup [.str "record",.ref pb]);have eN:upd H' t (.tup [.str "record",.ref pb]) t=some (.tup [.str "record",.ref pb]):=de;generalize upd H' t (.tup [.str "record",.ref pb])=HN at sN eN ⊢;have aE:=ap.same sN;have aq:=tu.trans (Tu.of sN);refine⟨_,rfl,_,_,rfl,rfl,⟨by decide,by decide⟩,a,b,ns,n',.ref t,.eQ fs,J / 2,f,?_,aE,?_,by unfold Kd.W;exact⟨a6,a7,a8⟩,hM,?_,?_,λv d fp H3 n3 bc bd w1 w2 ho be aU=>?_⟩
   . show [V.ref a,V.ref b,V.ref t,V.int ((J:Int) / 2)]=_;rw[show(J:Int) / 2=((J / 2:Nat):Int) by omega]
   . unfold KA;exact⟨t,pb,xs,rfl,eN,aq _ _ a4,FA.mono aq fs a5⟩
   . rcases ay with⟨h1,h2⟩|⟨h1,_⟩
     . exact .inl ⟨by omega,h2⟩
     . exact .inr h1
   . show n'+((Kd.eQ fs).cB:Nat)<=_;simp only[Kd.cB];omega
   have ao:KW b Pt Pd H' H3:=(Kp.of sN).trans bc;obtain⟨m',rfl,bx⟩:∃m',d=.dct m'/\dB fs m':=by have:=aU.fit;unfold du at this;exact this
   have w2:n3<=n'+((Kd.eQ fs).cB:Nat):=w2;simp only[Kd.cB] at w2;refine hR v H3 ⟨n3,ms++[m'],fl++[fp],kw.trans ao,bd,by omega,by omega,by rw[Q08,hy];rfl,A3.snoc (R:=λv m f=>Own H3 v (.dct m) f) ho (WS.rows ap ao bb ae aC),λc hc=>?_,λx hx=>?_⟩
   . rw[Q1y] at hc;rcases List.mem_append.mp hc with z|z
     . exact aC c z
     . rw[Q0x,Q1z,Q0m] at z;exact WS.eX ap kw (fw sN (be c z))
   . rcases List.mem_append.mp hx with z|z
     . exact aD x z
     . rw[List.mem_singleton.mp z];exact aU
 . rintro ws H' ⟨n',ms,fl,kw,ap,z1,z2,hy,ae,aC,aD⟩ pr bf;obtain⟨aG,bu⟩:=A3.len ae
   have z2:n'<=n+1+(J * fs.cB:Nat):=by
    have:=Q11 fs.cB ba;omega
   have sN:=Same.new bf (o:=.lst ws);have aI:upd H' pr (.lst ws) pr=some (.lst ws):=de;generalize upd H' pr (.lst ws)=HN at sN aI ⊢;have aE:=ap.same sN;have ao:KW b Pt Pd H HN:=kw.trans (Kp.of sN);have aq:=hw.tu ao;have az:dS HN ws ms fl:=dS.keep (Tu.of sN) ae λc _ o e=>sN _ _ e
   have av:∀m∈ms,dB fs m:=λm hm=>by
    have:=(aD m hm).fit;unfold du at this;obtain⟨m',e,f⟩:=this
    cases e;exact f
   dsimp only[dU];refine lT ?_;dsimp only[lh,dJ];refine yc (i:=5) (a:=pr) (xs:=ws) (λj ys H2=>Same HN H2/\∃ts:List Addr,ys=ts.map V.ref/\ts.length=j/\∀(i:Nat) t v m,ts[i]? =some t->ws[i]? =some v->ms[i]? =some m->H2 t=some (.tup [kV (keyOf m key),v])) rfl (dg.of aI) (by omega) ⟨Same.refl _,[],rfl,rfl,λi t v m h=>by simp at h⟩ (λj ys H2 h=>?_) ?_ ?_
   . obtain⟨s2,ts,rfl,e,_⟩:=h;exact⟨by rw[Q09];exact e,dg.of (s2 _ _ aI)⟩
   . rintro j x ys H2 hx ⟨s2,ts,rfl,aJ,aK⟩ R hR;have hj:j<ws.length:=(List.getElem?_eq_some_iff.mp hx).1;have aV:ms[j]? =some (ms[j]'(by omega)):=Q05 (by omega);have aY:ms[j]'(by omega)∈ms:=Q14 _;have aw:=A3.at (a0:=V.non) (b0:=Ds.nil) (c0:=[]) az j hj;rw[Q0j,hx,Q0j,aV] at aw;unfold Own at aw;obtain⟨rr,kvs,fq,e,bg,_,aL⟩:=aw;have e:x=.ref rr:=e;subst e;have aL:dv HN kvs (ms[j]'(by omega)) fq:=aL
     have gk:eU H2 rr (.str key) (some (kV (keyOf (ms[j]'(by omega)) key))):=by
      have:=eU.k (k:=Sum.inr key) (s2 _ _ bg);rw[aL.key (av _ aY) au] at this;exact this
     refine⟨_,rfl,_,rfl,pk,_,_,_,rfl,rfl,c8.of (s2 _ _ (aq _ _ aH)),rfl,rr,_,rfl,gk,_,rfl,er,λt ht=>?_⟩;have s3:=Same.new ht (o:=.tup [kV (keyOf (ms[j]'(by omega)) key),.ref rr]);refine hR _ _ ⟨s2.trans s3,ts++[t],by rw[Q0k];rfl,by rw[Q08,aJ];rfl,λi t' v m' g1 g2 g3=>?_⟩;by_cases hi:i<ts.length
     . rw[Q12 hi] at g1;exact s3 _ _ (aK i t' v m' g1 g2 g3)
     . have ei:i=j:=by
        have:=(List.getElem?_eq_some_iff.mp g1).1;rw[Q08,Q13] at this;omega
       subst ei;rw[Q0z (by omega),show i - ts.length=0 by omega] at g1
       cases g1;rw[hx] at g2;cases g2;rw[aV] at g3;cases g3;exact de
   . rintro ys H2 ⟨s2,ts,rfl,aJ,aK⟩ p2 bh;have s3:=Same.new bh (o:=.lst (ts.map V.ref));have e3:upd H2 p2 (.lst (ts.map V.ref)) p2=some (.lst (ts.map V.ref)):=de;generalize upd H2 p2 (.lst (ts.map V.ref))=H3 at s3 e3 ⊢;refine⟨p2,ts,gK key ms ws,rfl,dg.of e3,by rw[lX aG];exact aJ,λi t p g1 g2=>?_,by rw[lX aG];omega,λl hl=>?_⟩
     . obtain⟨m',v,g3,g4,rfl⟩:=rj g2;exact s3 _ _ (aK i t v m' g1 g4 g3)
     have s4:=Same.new hl (o:=.dK (gg (gK key ms ws)));have e4:upd H3 l (.dK (gg (gK key ms ws))) l=some (.dK (gg (gK key ms ws))):=de;generalize upd H3 l (.dK (gg (gK key ms ws)))=H4 at s4 e4 ⊢;refine⟨_,rfl,.inr (.inr (.inl ⟨rfl,.inl ⟨_,e4⟩⟩)),l,_,rfl,rfl,e4,λrv bi=>?_⟩;have s5:=Same.new bi (o:=lP rv l);have e5:upd H4 rv (lP rv l) rv=some (lP rv l):=de;generalize upd H4 rv (lP rv l)=H5 at s5 e5 ⊢;refine⟨rv,l,_,rfl,e5,s5 _ _ e4,λl6 bj=>?_⟩;obtain⟨aM,bm,aA,aW,ax,aZ,bv⟩:=FJ (key:=key) az;generalize (gg (gK key ms ws)).map (·.2)=ar at aA ⊢;have s6:=Same.new bj (o:=.lst ar);have e6:upd H5 l6 (.lst ar) l6=some (.lst ar):=de;generalize upd H5 l6 (.lst ar)=H6 at s6 e6 ⊢;have sa:=s2.trans (s3.trans (s4.trans (s5.trans s6)));have aX:=aE.same sa;obtain⟨ps,hX,hY⟩:=yD aX.t;have aB:dS H6 ar aM bm:=dS.keep (Tu.of sa) aA λc _ o e=>sa _ _ e;have bn:aM.length<=40:=by omega
     refine o6 (rk:=iU key by_) (dg.of e6) aB (by rw[(A3.len aB).1];omega) hX rfl (sa _ _ (aq _ _ aH)) (λm hm=>av m (ax m hm)) (λrr kvs m fq H' Q' E' h1 h2 h3 h4 h5=>⟨pk,rr,pb,key,by_,fs,kvs,m,fq,rfl,h1,h2,h3,h4,au,aQ,h5⟩) _ (by simp) (λm hm=>rh (av m (ax m hm)) au aQ) (λx y h=>qT x y h) aW λD bo a1 c' H7 kp bp hD bq hR aO=>?_;have br:=hY c' H7 bp;refine q _ (.lst (d3 (gA key by_ aM))) (D::a1.flatten) H7 n' (ao.trans ((Kp.of sa).trans (KW.kt kp))) (aX.kt kp br) z1 z2 (by unfold Own;exact⟨D,bo,_,rfl,bq,rfl,hR.own⟩) (λc hc=>?_) (FK (λm hm=>aD m (ax m hm)) aW bn);rcases List.mem_cons.mp hc with rfl|hc
     . exact WS.eX aE ao (fw sa hD)
     . exact aC c (aZ c ((mE aO).mem_iff.mp hc))
end
theorem Fs.zA (x:Str)(k:Kd):∀fs:Fs,(fs.snoc x k).cB=fs.cB+k.cB
 | .nil=>by show k.cB+0=0+k.cB;omega
 | .cons y q r=>by
   show q.cB+(r.snoc x k).cB=q.cB+r.cB+k.cB;rw[Fs.zA x k r];omega
theorem dB.snoc {x:Str}{k:Kd}{d:D}(J:du k d):∀{fs:Fs}{m:Ds},dB fs m->dB (fs.snoc x k) (m.snoc x d)
 | .nil,m,h=>by
   unfold dB at h;subst h;show dB (.cons x k .nil) (.cons x d .nil);unfold dB;exact⟨d,.nil,rfl,J,by unfold dB;rfl⟩
 | .cons y q r,m,h=>by
   unfold dB at h;obtain⟨e,s,rfl,h1,h2⟩:=h;show dB (.cons y q (r.snoc x k)) (.cons y e (s.snoc x d));unfold dB;exact⟨e,_,rfl,h1,dB.snoc J h2⟩
mutual
theorem Kd.jD {f g:Nat}(h:f<=g):∀k:Kd,k.dF f<=k.dF g
 | .num=>Q00 _
 | .fe=>Q00 _
 | .eQ fs=>Q2e (Fs.jD h fs) _
 | .rows _ _ fs=>Q2e (Fs.jD h fs) _
 | .tree k=>by have:=Kd.jD h k;simp only[Kd.dF];omega
 | .fg fs=>Q2e (Fs.jD h fs) _
theorem Fs.jD {f g:Nat}(h:f<=g):∀fs:Fs,fs.dF f<=fs.dF g
 | .nil=>Q00 _
 | .cons _ k r=>by have h1:=Kd.jD h k;have h2:=Fs.jD h r;simp only[Fs.dF];omega
end
theorem FO {k:Kd}{f:Nat}(h:f<=3\/k.flat):lv k f<=k.hv:=by
 rcases h with h|h
 . exact lW k h
 . cases k <;> first|exact Q00 _|exact h.elim
theorem FP {k:Kd}{f:Nat}(h:f<=3\/k.flat):vc k f<=k.cB:=by
 rcases h with h|h
 . exact kZ k h
 . cases k <;> first|exact Q00 _|exact h.elim
section
variable {K:W.Frag}{Pt Pd Pi a b:Addr}{ns:List Int}{H H':Hp}{n n':Int}
theorem WS.stay {H₀:Hp}{fp:List Addr}(w:WS K Pt Pd Pi a b ns H n)(x:KW b Pt Pd H H')(L:∃o,H₀ b=some o)(mu:∀c∈fp,Mu H c)(U:∀c∈fp,H₀ c=none):∀c∈fp,∀o,H c=some o->H' c=some o:=λc hc o e=>by
 refine x c o (λz=>?_) e;rcases z with z|z|z
 . obtain⟨o',Y⟩:=L;have:=U c hc;rw[z,Y] at this;cases this
 . obtain⟨ps,J⟩:=w.t.tab;rcases mu c hc with⟨xs,q⟩|⟨xs,q⟩ <;> rw[z,J] at q <;> cases q
 . obtain⟨ps,J⟩:=w.d.tab;rcases mu c hc with⟨xs,q⟩|⟨xs,q⟩ <;> rw[z,J] at q <;> cases q
end
theorem FQ {m:Nat}{L te:TE}{σ:L2.St}{H:Hp}{Q:VK}(Pv:Nat->List V->Hp->Prop)(hi:∀R:VK,R (.int m) H->L σ H R)(hm:m<=1000)(U:Pv 0 [] H)(hl:∀j ys H',Pv j ys H'->ys.length=j)
 (Y:∀(j:Nat) ys H',j<m->Pv j ys H'->∀R:V->Hp->Prop,(∀y H2,Pv (j+1) (ys++[y]) H2->R y H2)->te (some (.int j)::σ) H' R) (hd:∀ys H',Pv m ys H'->∀p,H' p=none->Q (.ref p) (upd H' p (.lst ys))):
 ls 1 (pN (dJ L fc)) (dU 0) fE te σ H Q:=by
 refine hi _ ⟨_,rfl,by omega,by omega,λj k ys H'=>k=m - j/\j<=m/\Pv j ys H',⟨m,by omega,Q06 _,U⟩,?_⟩;rintro j k ys H' ⟨rfl,hj,hp⟩;have em:Int.toNat (m:Int)=m:=by omega
 by_cases J:j<m
 . refine .inr ⟨by show j<Int.toNat (m:Int);omega,by rw[hl _ _ _ hp];exact fX (by omega),λx H2 y=>?_⟩;obtain⟨rfl,rfl⟩:=y;refine⟨rfl,yes (dM ?_)⟩;rw[Int.zero_add];exact Y j ys H2 J hp _ λy H3 h=>⟨m - (j+1),by omega,rfl,by omega,h⟩
 . have ej:j=m:=by omega
   subst ej;exact .inl ⟨by show Int.toNat (j:Int)<=j;omega,hd ys H' hp⟩
section
variable {P:Program}{w:World}{K:W.Frag}{mg:Str->Option Value}{base:Heap}
variable {Pt Pd Pi:Addr}
theorem FR:d5 XG XI (dD (top 41)):=eL
theorem FT (M:Nat)(T:Tb mg)(L:Dn K mg "_law_value" fB (top 41) aa ab)(U:c_ P w K mg base da (M+6) aa ab fB (iW K Pt Pd Pi M))(ao:Dn K mg "_law_rows" fB (top 40) ap aq)(ar:c_ P w K mg base da (M+6) ap aq fB (m_ K Pt Pd Pi (M - 1)))(au:Dn K mg "_law_next" dQ (top 31) av aw)(ax:c_ P w K mg base da (1) av aw dQ (gi K))(aj:Dn K mg "_law_number" dQ (top 32) ak al)(am:c_ P w K mg base da (2) ak al dQ (qG K))(ay:Dn K mg "_law_word" dQ (top 33) az aA)(aB:c_ P w K mg base da (2) az aA dQ (qH K)):
 c_ P w K mg base da ((M+1)+6) aa ab fB (iW K Pt Pd Pi (M+1)):=by
 refine L.F.ok FR λvs H Q E h=>?_;obtain⟨a,b,ns,n,kv,k,J,f,rfl,hw,hk,aL,hM,ai,hn,q⟩:=h;refine⟨rfl,λbA A outer s nd hr hu=>?_⟩;have aV:∃o,H b=some o:=⟨_,hw.g.at_⟩
 refine⟨_,(c9 (dA (dw dX (dj (pv 2) cZ) dO (di _)) (dc (dk (dq am hr aj (a_ (pv 0) (a_ (pv 1) b_))))) dz)
  (c9 (dA (dw dX (dj (pv 2) cZ) dO (di _)) (dc (dk (dq aB hr ay (a_ (pv 0) (a_ (pv 1) b_))))) dz)
  (c9 (dA (dw dX (dj (pv 2) cZ) dO (di _)) (dc (dk (Fw (N':=["_law_script","_law_at","_law_kind_here","_law_room","_law_m","_law_top","~6","~7"]) (lV.of (N:=XG) (sc:=dD (top 41)) rfl rfl rfl (by decide +kernel)) (jP (x3 rfl) (by rfl) T.gJ boot_dict (a_ (gH (g:=(mh K 2 (jk (dU 0) (jk (dU 1) me)))) (tt:=fE) (te:=(ko (dJ (dE 0) (dJ (fT _ _ _ (dJ (dE 2) (dJ (dE 3) (dJ (dE 1) (dJ (dE 5) fc))))) fc)))) (own:=["_law_name","_law_inner"]) rfl (fN (N:=["_law_script","_law_at","_law_kind_here","_law_room","_law_m","_law_top","~6","~7"]) (sc:=dD (top 41))) (km (dj (pv 2) cZ)) (λ_ _ _ _ _=>(ie rfl (fy (en (i:=0) (show(["_law_name","_law_inner","_law_script","_law_at","_law_kind_here","_law_room","_law_m","_law_top","~6","~7"]:List Str).Nodup by decide +kernel) rfl (Or.inl rfl) (.inr rfl)) (fy (en (i:=1) (show(["_law_name","_law_inner","_law_script","_law_at","_law_kind_here","_law_room","_law_m","_law_top","~6","~7"]:List Str).Nodup by decide +kernel) rfl (Or.inl rfl) (.inr rfl)) ic)))) (λ_ _ _ _ _=>gc) (λ_ _ _ _ _=>(dW (a_ (pv 0) (a_ (dq U hr L (a_ (pv 2) (a_ (pv 3) (a_ (pv 1) (a_ (pv 5) b_))))) b_))))) b_))))) dz)
  (c9 (dA (dw dX (dj (pv 2) cZ) dO (di _)) (dc (dk (dq ar hr ao (a_ (pv 0) (a_ (pv 1) (a_ (pv 2) (a_ (pv 3) b_))))))) dz)
  (c9 (dI 4 nd (dq ax hr au (a_ (pv 0) (a_ (pv 1) b_))))
  (c9 (dA (dw dX (dj (pv 2) cZ) dO (di _)) (c9 (dI 5 nd (dq U hr L (a_ (pv 0) (a_ (pv 1) (a_ (dj (pv 2) cZ) (a_ (dm f_ (pv 3) cZ) b_))))))
  (dc (dk (dW (a_ (pv 5) (a_ (gH (g:=(dU 0)) (tt:=fE) (te:=(fT _ _ _ (dJ (dE 1) (dJ (dE 2) (dJ (dE 3) (dJ (dY _ (dE 4) (tC (.int 2))) fc)))))) (own:=["_law_k"]) rfl (fN (N:=XG) (sc:=dD (top 41))) (jm rfl T.jw (a_ (dm eE (pv 4) (dm gu (pv 3) cZ)) b_)) (λ_ _ _ _ _=>(en (i:=0) (show(["_law_k","_law_script","_law_at","_law_kind_here","_law_room","_law_m","_law_top","_law_name","_law_inner"]:List Str).Nodup by decide +kernel) rfl (Or.inl rfl) (.inr rfl))) (λ_ _ _ _ _=>gc) (λ_ _ _ _ _=>(dq U hr L (a_ (pv 1) (a_ (pv 2) (a_ (pv 3) (a_ (dm f_ (pv 4) cZ) b_))))))) b_)))))) dz)
  (c9 (nJ (dj (dj (pv 2) cZ) (dm eE (pv 4) (dG fC (by rfl) T.fv PySem.boot_len (a_ (dj (pv 2) cZ) b_)))) (ie rfl (fy (en (i:=6) nd rfl fk) (fy (en (i:=7) nd rfl fk) ic))))
  (dc (dk (dW (a_ (pv 6) (a_ (dq U hr L (a_ (pv 0) (a_ (pv 1) (a_ (pv 7) (a_ (pv 3) b_))))) b_)))))))))))),?_⟩
 ac_rfl
 cases k with
 |num=>
  unfold KA at hk;obtain⟨c,rfl,hc⟩:=hk;refine jT rfl hc rfl (by decide +kernel) ?_
  exact⟨_,rfl,_,rfl,a,b,ns,n,rfl,hw.g,by have:(0:Int)<=(vc .num f:Nat):=by omega
                                         omega,λz H1 s1 h1=>q _ (.int z) [] _ _ (KW.sb s1) (hw.sb s1 h1 (by omega)) (by omega) (by show n+1<=n+((1:Nat):Int);omega) (by unfold Own;exact⟨rfl,rfl⟩) (λc hc=>(nomatch hc)) ⟨by unfold du;exact⟨z,rfl⟩,by unfold D.SL;trivial,Q00 _⟩⟩
 |fe=>
  unfold KA at hk;obtain⟨c,rfl,hc⟩:=hk;refine fx rfl hc rfl (by decide +kernel) ?_;refine jT rfl hc rfl (by decide +kernel) ?_
  exact⟨_,rfl,_,rfl,a,b,ns,n,rfl,hw.g,by have:(0:Int)<=(vc .fe f:Nat):=by omega
                                         omega,λz H1 s1 h1=>q _ (.str z) [] _ _ (KW.sb s1) (hw.sb s1 h1 (by omega)) (by omega) (by show n+1<=n+((1:Nat):Int);omega) (by unfold Own;exact⟨rfl,rfl⟩) (λc hc=>(nomatch hc)) ⟨by unfold du;exact⟨z,rfl⟩,by unfold D.SL;trivial,Q00 _⟩⟩
 |eQ fs=>
  unfold KA at hk;obtain⟨kk,t,xs,rfl,Y,ht,aI⟩:=hk;have ae:=aL;unfold Kd.W at ae;obtain⟨aW,be,aX⟩:=ae;have hM:fs.hv+1<=M+1:=hM;have hn:n+(fs.cB:Nat)<=1000000000000:=hn;refine fx rfl Y rfl (by decide +kernel) ?_;refine fx rfl Y rfl (by decide +kernel) ?_;refine jT rfl Y rfl (by decide +kernel) ?_;have a8:xs.length=fs.names.length:=FA.len fs aI;refine⟨λi v aE=>?_,?_⟩
  . match i with
    |0=>exact absurd rfl aE
    |1=>exact absurd rfl aE
    |2=>exact absurd rfl aE
    |3=>exact absurd rfl aE
    |4=>exact absurd rfl aE
    |5=>exact absurd rfl aE
    |6=>exact λz=>by cases z
    |7=>exact λz=>by cases z
    |i+8=>exact absurd rfl aE
  dsimp only[ma,lh,dJ]
  refine⟨_,rfl,kk,_,_,_,rfl,rfl,c8.of Y,rfl,t,rfl,⟨_,c8.of ht⟩,λi m' ys H'=>m'=xs.length - i/\i<=xs.length/\∃(ts:List Addr) (kvs:List (Key × V)) (m:Ds) (fp:List Addr) (n':Int),ys=ts.map V.ref/\ts.length=i/\ts.length=kvs.length/\(∀(j:Nat) c p,ts[j]? =some c->kvs[j]? =some p->H' c=some (.tup [kV p.1,p.2]))/\KW b Pt Pd H H'/\WS K Pt Pd Pi a b ns H' n'/\n<=n'/\n'<=n+((fs.take i).cB:Nat)/\dv H' kvs m fp/\(∀c∈fp,H c=none)/\dB (fs.take i) m/\m.SL 40/\m.dep<=fs.dF f,
   ⟨_,rfl,Q06 _,[],[],.nil,[],n,rfl,rfl,rfl,λj c p h=>by simp at h,Kp.refl _ _,hw,by omega,by omega,by unfold dv;exact⟨rfl,rfl⟩,λc hc=>(nomatch hc),by rw[Fs.take_zero];unfold dB;rfl,by unfold Ds.SL;trivial,Q06 _⟩,?_⟩
  intro i m' ys H' zq;obtain⟨rfl,bz,ts,kvs,m,fp,n',rfl,bf,aY,an,kw,ac,z1,z2,hO,aC,aT,aJ,aZ⟩:=zq;have tu:Tu H H':=hw.tu kw;by_cases hi:i<xs.length
  . refine .inr ⟨⟨xs,xs[i],c8.of (tu _ _ ht),Q05 hi⟩,by rw[Q09];exact fX (by omega),λx bg y=>?_⟩;obtain⟨rfl,y⟩:=y;obtain⟨c,u,nm,k,rfl,af,hc,hk⟩:=FA.get fs aI (y xs (c8.of (tu _ _ ht)));refine⟨c,_,rfl,c8.of (tu _ _ hc),rfl,_,_,rfl,_,_,rfl,rfl,rfl,yes (dM ?_)⟩
    have a9:f<=3\/k.flat:=by
     rcases ai with⟨_,h⟩|h
     . exact .inl h
     . exact .inr (zx (Fs.rg h af))
    have bh:=Fs.yd af;have bB:=FP a9;refine⟨_,rfl,_,rfl,_,rfl,_,rfl,_,rfl,a,b,ns,n',u,k,J,f,rfl,ac,KA.mono tu k hk,Fs.lB aX af,by have:=FO a9;have:=Fs.m8 af;omega,?_,by omega,λv d aU H3 n3 aD aM w1 w2 ho aN aG=>⟨er,λt2 gR=>?_⟩⟩
    . rcases ai with h|h
      . exact .inl h
      . exact .inr (zx (Fs.rg h af))
    have s3:=Same.new gR (o:=.tup [.str nm,v]);have a1:KW b Pt Pd bg (upd H3 t2 (.tup [.str nm,v])):=aD.trans (Kp.of s3);have ba:=ac.tu a1;have bi:∀c∈aU,H c=none:=λc hc=>WS.eX ac kw (aN c hc);refine⟨xs.length - (i+1),by omega,rfl,hi,ts++[t2],kvs++[(Sum.inr nm,v)],m.snoc nm d,fp++aU,n3,by rw[Q0k];rfl,by rw[Q08,bf];rfl,by rw[Q08,Q08,aY];rfl,λj c' p hj aK=>?_,kw.trans a1,aM.same s3,by omega,?_,dv.snoc (ho.same s3) _ (hO.keep ba _ (ac.stay a1 aV (dv.alive _ hO) aC)),λc hc=>?_,?_,Ds.o_ aG.sl _ aJ,?_⟩
    . by_cases bj:j<ts.length
      . rw[Q12 bj] at hj;rw[Q12 (by omega)] at aK;exact ba _ _ (an j c' p hj aK)
      . have ej:j=ts.length:=by
         have:=(List.getElem?_eq_some_iff.mp hj).1;rw[Q08,Q13] at this;omega
        subst ej;rw[Q0z (Q00 _),Q2b] at hj;rw[aY,Q0z (Q00 _),Q2b] at aK
        cases hj;cases aK;exact de
    . rw[Fs.take_succ af,Fs.zA];omega
    . rcases List.mem_append.mp hc with z|z
      . exact aC c z
      . exact bi c z
    . rw[Fs.take_succ af];exact dB.snoc aG.fit aT
    . rw[Ds.m7];have:=aG.dp;have:=Fs.m9 (f:=f) af;omega
  . have ei:i=xs.length:=by omega
    subst ei;have et:fs.take xs.length=fs:=by rw[a8];exact Fs.take_all fs
    rw[et] at z2 aT;refine .inl ⟨⟨_,c8.of (tu _ _ ht),Q00 _⟩,λp' bb=>?_⟩;have s3:=Same.new bb (o:=.lst (ts.map V.ref));have e3:upd H' p' (.lst (ts.map V.ref)) p'=some (.lst (ts.map V.ref)):=de;generalize upd H' p' (.lst (ts.map V.ref))=H3 at s3 e3 ⊢
    have bm:(kvs.map (·.1)).Nodup:=by
     rw[hO.keys m,dB.names aT];exact List.Pairwise.map _ (λa b h z=>h (Sum.inr.inj z)) aW
    refine⟨p',ts,kvs,rfl,dg.of e3,aY,λj c p hj aK=>s3 _ _ (an j c p hj aK),by omega,λl hl=>?_⟩;rw[FH kvs bm];have s4:=Same.new hl (o:=.dK kvs);have sa:=s3.trans s4;refine q _ (.dct m) (l::fp) _ n' (kw.trans (Kp.of sa)) (ac.same sa) z1 z2 (by unfold Own;exact⟨l,kvs,fp,rfl,de,rfl,hO.same sa⟩) (λc hc=>?_) ⟨by unfold du;exact⟨m,rfl,aT⟩,by unfold D.SL;exact aJ,Nat.succ_le_succ aZ⟩;rcases List.mem_cons.mp hc with rfl|hc
    . exact WS.eX ac kw (fw s3 hl)
    . exact aC c hc
 |rows key by_ fs=>
  have aO:=hk;unfold KA at aO;obtain⟨kk,t,xs,rfl,Y,ht,aI⟩:=aO;have hM:fs.hv+3<=M+1:=hM;have hn:n+((8 * fs.cB+1:Nat):Int)<=1000000000000:=hn
  obtain⟨aP,ag⟩:J<2 ^ f/\f<=3:=by
   rcases ai with h|h
   . exact h
   . exact h.elim
  have h8:J<=8:=by
   have:2 ^ f<=2 ^ 3:=Q2d (by decide) ag;omega
  have bh:J * fs.cB<=8 * fs.cB:=Q11 _ h8;refine fx rfl Y rfl (by decide +kernel) ?_;refine fx rfl Y rfl (by decide +kernel) ?_;refine fx rfl Y rfl (by decide +kernel) ?_;refine jT rfl Y rfl (by decide +kernel) ?_;exact⟨_,rfl,_,rfl,_,rfl,_,rfl,a,b,ns,n,.ref kk,key,by_,fs,J,f,rfl,hw,hk,aL,by omega,.inl ⟨aP,ag⟩,by omega,λv d fp H3 n3 aD aM w1 w2 ho aN aG=>q v d fp H3 n3 aD aM w1 (by show n3<=n+((8 * fs.cB+1:Nat):Int);omega) ho aN aG⟩
 |tree k=>
  have aO:=hk;unfold KA at aO;obtain⟨kk,u,rfl,Y,hu⟩:=aO;have ae:=aL;unfold Kd.W at ae;have hM:k.hv+2+f<=M+1:=hM;have hn:n+(((k.cB+1) * gj (f+1):Nat):Int)<=1000000000000:=hn
  obtain⟨aP,ag⟩:J<2 ^ f/\f<=3:=by
   rcases ai with h|h
   . exact h
   . exact h.elim
  have h7:J<=7:=by
   have:2 ^ f<=2 ^ 3:=Q2d (by decide) ag;omega
  have eg:(k.cB+1) * gj (f+1)=8 * ((k.cB+1) * gj f)+(k.cB+1):=by
   show(k.cB+1) * (8 * gj f+1)=_;rw[Nat.mul_add,Nat.mul_left_comm,Nat.mul_one]
  have aG:=kZ k ag;have bn:=lW k ag;refine fx rfl Y rfl (by decide +kernel) ?_;refine fx rfl Y rfl (by decide +kernel) ?_;refine fx rfl Y rfl (by decide +kernel) ?_;refine fx rfl Y rfl (by decide +kernel) ?_;refine⟨_,rfl,_,rfl,a,b,ns,n,rfl,hw.g,by omega,λr H1 r0 r1 s1 h1=>?_⟩;have aQ:=hw.sb s1 h1 (by omega);have aH:KW b Pt Pd H H1:=KW.sb s1;have ah:=hw.tu aH;refine jT rfl (ah _ _ Y) rfl (by decide +kernel) ?_;refine⟨_,rfl,_,rfl,_,rfl,kk,_,_,_,rfl,rfl,c8.of (ah _ _ Y),rfl,_,rfl,_,_,rfl,rfl,⟨by decide,by decide⟩,a,b,ns,n+1,u,k,J / 2,f,?_,aQ,KA.mono ah k hu,ae,by omega,.inl ⟨by omega,ag⟩,by omega,λvt dt bc H2 n2 a2 a3 w1 w2 bo bp a4=>?_⟩
  . show [V.ref a,V.ref b,u,V.int ((J:Int) / 2)]=_;rw[show(J:Int) / 2=((J / 2:Nat):Int) by omega]
  have bq:KW b Pt Pd H H2:=aH.trans a2;have bd:∀c∈bc,H c=none:=λc hc=>WS.eX aQ aH (bp c hc);obtain⟨m,hm⟩:∃m:Nat,r % ((J:Int)+1)=(m:Int):=⟨(r % ((J:Int)+1)).toNat,by have:=Q0s r (show((J:Int)+1)≠0 by omega);omega⟩;have bC:m<=J:=by have:=Q0u r (show(0:Int)<(J:Int)+1 by omega);omega
  refine⟨_,rfl,?_⟩;refine FQ (m:=m) (λi ys H'=>∃n' as fp,KW b Pt Pd H H'/\WS K Pt Pd Pi a b ns H' n'/\n<=n'/\n'<=n+1+(k.cB:Nat)+((i * ((k.cB+1) * gj f):Nat):Int)/\ys.length=i/\df H' ys as fp/\Own H' vt dt bc/\(∀c∈fp,H c=none)/\dR (du k) as/\as.SL 40/\as.dep+1<=k.dF f+2 * f+1) ?_ (by omega) ⟨n2,.nil,[],bq,a3,by omega,by omega,rfl,by unfold df;exact⟨rfl,rfl⟩,bo,λc hc=>(nomatch hc),by unfold dR;trivial,by unfold Ds.SL;trivial,by show 0+1<=_;omega⟩ (λj ys H' h=>by obtain⟨_,_,_,_,_,_,_,e,_⟩:=h;exact e) ?_ ?_
  . intro R hR;refine⟨_,rfl,_,rfl,_,_,rfl,rfl,_,_,rfl,rfl,by omega,?_⟩;show R (V.int (r % ((J:Int)+1))) _;rw[hm];exact hR
  . rintro i ys H' hi ⟨n',as,fp,kw,ac,z1,z2,hy,hO,a5,aC,hT,aJ,aZ⟩ R hR
    obtain⟨f',rfl⟩:∃f',f=f'+1:=by
     cases f with
     |zero=>simp at aP;omega
     |succ f'=>exact⟨f',rfl⟩
    have tu:=hw.tu kw;have bb:2 ^ (f'+1)=2 * 2 ^ f':=by rw[Nat.pow_succ];omega
    have e1:(i+1) * ((k.cB+1) * gj (f'+1))=i * ((k.cB+1) * gj (f'+1))+(k.cB+1) * gj (f'+1):=Q1o _ _;have e2:(i+1) * ((k.cB+1) * gj (f'+1))<=8 * ((k.cB+1) * gj (f'+1)):=Q11 _ (by omega);refine⟨_,rfl,_,rfl,_,rfl,_,rfl,_,_,rfl,rfl,⟨by decide,by decide⟩,a,b,ns,n',.ref kk,.tree k,J / 2,f',?_,ac,KA.mono tu _ hk,aL,by show k.hv+2+f'<=M;omega,.inl ⟨by omega,by omega⟩,by show n'+(((k.cB+1) * gj (f'+1):Nat):Int)<=_;omega,λv d aU H3 n3 aD aM w1 w2 ho aN a6=>?_⟩
    . show [V.ref a,V.ref b,V.ref kk,V.int ((J:Int) / 2)]=_;rw[show(J:Int) / 2=((J / 2:Nat):Int) by omega]
    have w2:n3<=n'+(((k.cB+1) * gj (f'+1):Nat):Int):=w2;have br:=ac.tu aD;refine hR v H3 ⟨n3,as.snoc "" d,fp++aU,kw.trans aD,aM,by omega,by omega,by rw[Q08,hy];rfl,df.snoc ho _ (hO.keep br _ (ac.stay aD aV (df.alive _ hO) aC)),ac.own aD aV a5 bd,λc hc=>?_,dR.snoc hT (by have:=a6.fit;unfold du at this;exact this),Ds.o_ a6.sl _ aJ,?_⟩
    . rcases List.mem_append.mp hc with z|z
      . exact aC c z
      . exact WS.eX ac kw (aN c z)
    . rw[Ds.m7];have h1:=a6.dp;have h2:k.dF f'<=k.dF (f'+1):=Kd.jD (Q0l f') k;simp only[Kd.dF] at h1;omega
  . rintro ys H' ⟨n',as,fp,kw,ac,z1,z2,hy,hO,a5,aC,hT,aJ,aZ⟩ p hp;have s3:=Same.new hp (o:=.lst ys);have e3:upd H' p (.lst ys) p=some (.lst ys):=de;generalize upd H' p (.lst ys)=H3 at s3 e3 ⊢;refine⟨er,λt ht=>?_⟩;have s4:=Same.new ht (o:=.tup [vt,.ref p]);have sa:=s3.trans s4
    have ol:Own (upd H3 t (.tup [vt,.ref p])) (.ref p) (.lst as) (p::fp):=by
     unfold Own;exact⟨p,_,_,rfl,s4 _ _ e3,rfl,hO.same sa⟩
    have e2:m * ((k.cB+1) * gj f)<=8 * ((k.cB+1) * gj f):=Q11 _ (by omega);have bt:as.len<=40:=by rw[<-hO.len,hy];omega
    refine q _ (.tup (.cons "" dt (.cons "" (.lst as) .nil))) _ _ n' (kw.trans (Kp.of sa)) (ac.same sa) z1 (by show n'<=n+(((k.cB+1) * gj (f+1):Nat):Int);omega) (ix de (a5.same sa) ol) (λc hc=>?_) ⟨?_,?_,?_⟩
    . rcases List.mem_append.mp hc with z|z
      . exact bd c z
      . rcases List.mem_cons.mp z with rfl|z
        . exact WS.eX ac kw hp
        . exact aC c z
    . unfold du Tree eG;exact⟨a4.fit,hT⟩
    . rw[lU];exact⟨a4.sl,bt,aJ⟩
    . have h1:=a4.dp;simp only[D.dep,Ds.dep,Kd.dF];omega
 |fg fs=>
  unfold KA at hk;obtain⟨kk,t,xs,rfl,Y,ht,aI⟩:=hk;have ae:=aL;unfold Kd.W at ae;obtain⟨aW,be,bD,aX⟩:=ae;have hM:fs.hv+1<=M+1:=hM;have hn:n+((fs.cB+1:Nat):Int)<=1000000000000:=hn
  obtain⟨aP,ag⟩:J<2 ^ f/\f<=3:=by
   rcases ai with h|h
   . exact h
   . exact h.elim
  have a8:xs.length=fs.names.length:=FA.len fs aI;refine fx rfl Y rfl (by decide +kernel) ?_;refine fx rfl Y rfl (by decide +kernel) ?_;refine fx rfl Y rfl (by decide +kernel) ?_;refine fx rfl Y rfl (by decide +kernel) ?_;refine⟨_,rfl,_,rfl,a,b,ns,n,rfl,hw.g,by omega,λr H1 r0 r1 s1 h1=>?_⟩;have aQ:=hw.sb s1 h1 (by omega);have aH:KW b Pt Pd H H1:=KW.sb s1;have ah:=hw.tu aH;refine fx rfl (ah _ _ Y) rfl (by decide +kernel) ?_;obtain⟨j,hj⟩:∃j:Nat,r % (xs.length:Int)=(j:Int):=⟨(r % (xs.length:Int)).toNat,by have:=Q0s r (show(xs.length:Int)≠0 by omega);omega⟩;have bE:j<xs.length:=by have:=Q0u r (show(0:Int)<(xs.length:Int) by omega);omega
  obtain⟨x,k,an⟩:=Fs.kB (fs:=fs) (i:=j) (by omega);obtain⟨c,u,bu,bv,bw⟩:=FA.at aI an;have aG:=kZ k ag;have bn:=lW k ag;have bF:=Fs.m8 an;have bG:=Fs.oO an;refine⟨_,rfl,kk,_,_,_,rfl,rfl,c8.of (ah _ _ Y),rfl,_,rfl,_,rfl,kk,_,_,_,rfl,rfl,c8.of (ah _ _ Y),rfl,t,_,rfl,.inr (c8.of (ah _ _ ht)),_,_,rfl,rfl,(by show(0:Int)<(xs.length:Int);omega),t,xs,_,.ref c,rfl,rfl,c8.of (ah _ _ ht),(by show fW xs (r % (xs.length:Int))=_;rw[hj];exact fA bu),?_⟩;refine⟨c,_,rfl,c8.of (ah _ _ bv),rfl,_,_,rfl,_,_,rfl,rfl,?_⟩;refine⟨_,rfl,_,rfl,_,rfl,_,rfl,_,rfl,a,b,ns,n+1,u,k,J,f,rfl,aQ,KA.mono ah k bw,Fs.lB aX an,by omega,.inl ⟨aP,ag⟩,by omega,λv d fp H2 n2 a2 a3 w1 w2 ho hf a7=>⟨er,λtq bx=>?_⟩⟩;have s3:=Same.new bx (o:=.tup [.str x,v]);refine q _ (pairD (.str x) d) fp _ n2 (aH.trans (a2.trans (Kp.of s3))) (a3.same s3) (by omega) (by show n2<=n+((fs.cB+1:Nat):Int);omega) (ix (f:=[]) de (by unfold Own;exact⟨rfl,rfl⟩) (ho.same s3)) (λc hc=>WS.eX aQ aH (hf c hc)) ⟨?_,?_,?_⟩
  . unfold du;exact⟨x,d,rfl,fh.of (Fs.jv aW an) a7.fit⟩
  . unfold pairD D.SL Ds.SL Ds.SL;exact⟨by unfold D.SL;trivial,a7.sl,by unfold Ds.SL;trivial⟩
  . have h1:=a7.dp;have h2:=Fs.m9 (f:=f) an;have h3:=Kd.Fy f k;unfold pairD;simp only[D.dep,Ds.dep,Kd.dF];omega
theorem zB {c:Addr}(T:Tb mg)(L:Dn K mg "_law_rows" fB (top 40) am ac)(av:ac.code=.ref c)(aw:W.CodeHd base c Pt)(ax:BM mg base)(U:Dn K mg "_law_next" dQ (top 31) an ao)(Y:c_ P w K mg base da (1) an ao dQ (gi K))(J:Dn K mg "_law_value" fB (top 41) ak al)(ae:Dn K mg "_law_rank" ja (top 39) ap aq)(af:c_ P w K mg base da (1) ap aq ja (mO))(aa:Dn K mg "_law_number" dQ (top 32) ai aj)(ab:c_ P w K mg base da (2) ai aj dQ (qG K))(ag:Dn K mg "_law_word" dQ (top 33) ar au)(ah:c_ P w K mg base da (2) ar au dQ (qH K)):
 ∀M:Nat,c_ P w K mg base da (M+6) ak al fB (iW K Pt Pd Pi M)/\c_ P w K mg base da (M+6) am ac fB (m_ K Pt Pd Pi (M - 1))
 |0=>by
  have n1:∀vs H Q E,¬iW K Pt Pd Pi 0 vs H Q E:=λvs H Q E h=>by
   obtain⟨a,b,ns,n,kv,k,ay,f,_,_,_,_,h,_⟩:=h;have:=Fz k f;omega
  have n2:∀vs H Q E,¬m_ K Pt Pd Pi (0 - 1) vs H Q E:=λvs H Q E h=>by
   obtain⟨a,b,ns,n,kv,key,by_,fs,ay,f,_,_,_,_,h,_⟩:=h;omega
  exact⟨⟨λvs H Q E h=>absurd h (n1 vs H Q E),λA outer s H args us vs Q E _ _ _ _ h=>absurd h (n1 vs H Q E)⟩,⟨λvs H Q E h=>absurd h (n2 vs H Q E),λA outer s H args us vs Q E _ _ _ _ h=>absurd h (n2 vs H Q E)⟩⟩
 |M+1=>by
  obtain⟨g1,g2⟩:=zB T L av aw ax U Y J ae af aa ab ag ah M;exact⟨FT M T J g1 L g2 U Y aa ab ag ah,FN M T L av aw ax U Y J g1 ae af⟩
end
end Pb
namespace L2
open Spec PyProof.Rows
def zC (K:W.Frag):R2:=λx y H Q=>∃a b xs ys,x=.ref a/\y=.ref b/\c8 K H a xs/\c8 K H b ys/\ys≠[]/\xs.length+ys.length<=sizeLine/\
 (xs=[]->Q (.ref b) H)/\(xs≠[]->∀p,H p=none->Q (.ref p) (upd H p (.tup (xs++ys))))
theorem ng {X:Cx}:fu X (binaryOp .Add) (zC X.K):=by
 intro pins s σ H x y v u Q I rx ry h;obtain⟨a,b,xs,ys,rfl,rfl,ha,hb,hy,hz,q1,q2⟩:=h;by_cases hx:xs=[]
 . cases rx
   cases ry;obtain⟨ae,r1,p1,_⟩:=I.tuple ha;obtain⟨Y,r2,p2,_⟩:=I.tuple hb;have hv:=r1.nS.mpr hx;subst hv;obtain⟨⟨cls,dd,data,sl⟩,ho,hc,n,hd⟩:=id p1;obtain⟨⟨ac,aa,data2,ab⟩,J,L,n2,U⟩:=id p2;simp only at hc hd L U;subst hc hd L U
   exact concat_meets ⟨_,ho,rfl⟩ ⟨_,J,rfl⟩ noFill_tuple_add seq_tuple_add PySem.F.slot_tuple_add PySem.F.entry_tuple_add (PySem.F.args_tuple_add_2 _ _)
    (tuple_addW0 a b _ Y.toArray n n2 dd aa sl ab rfl) ⟨ho,J,.ref b,H,I,rfl,q1 hx⟩
 . exact Br pins s σ H _ _ v u Q I rx ry ⟨a,b,xs,ys,rfl,rfl,ha,hb,hx,hz,λz=>absurd z hy,λ_=>q2 hx⟩
end L2
namespace Pb
open L2
mutual
noncomputable def Kd.nn:Kd->Nat
 | .num=>0
 | .fe=>0
 | .eQ fs=>fs.names.length * fs.nn+1
 | .rows _ _ fs=>fs.names.length * fs.nn+1
 | .tree k=>k.nn
 | .fg fs=>fs.nn
noncomputable def Fs.nn:Fs->Nat
 | .nil=>0
 | .cons _ k r=>max k.nn r.nn
end
theorem Fs.nh:∀{fs:Fs}{i:Nat}{x:Str}{k:Kd},fs.at i=some (x,k)->k.nn<=fs.nn
 | .nil,_,_,_,h=>by cases h
 | .cons x k r,0,_,_,h=>by cases h;exact Q1a _ _
 | .cons x k r,i+1,_,_,h=>Q0h (Fs.nh (fs:=r) (i:=i) h) (Q1h _ _)
theorem Fs.zD:∀{fs:Fs}{x:Str}{k:Kd},fs.get x=some k->∃i,fs.at i=some (x,k)
 | .nil,_,_,h=>by cases h
 | .cons y q r,x,k,h=>by
   have h:(if x=y then some q else r.get x)=some k:=h;by_cases e:x=y
   . rw[if_pos e] at h
     cases h;exact⟨0,by rw[e];rfl⟩
   . rw[if_neg e] at h;obtain⟨i,hi⟩:=Fs.zD h;exact⟨i+1,hi⟩
structure KB (k:Kd):Prop where
 W:k.W
 c:k.nn+k.cB+4<=2000000
 a:k.dF 1<=9
 h:k.hv<=11
theorem FU {fs:Fs}{i:Nat}{x:Str}{k:Kd}(h:fs.at i=some (x,k)):fs.nn<=fs.names.length * fs.nn:=by
 have:1<=fs.names.length:=by
  cases fs with
  |nil=>cases h
  |cons y q r=>show 1<=r.names.length+1;omega
 exact Nat.le_mul_of_pos_left _ this
theorem KB.fld {fs:Fs}{i:Nat}{x:Str}{k:Kd}(h:KB (.eQ fs))(e:fs.at i=some (x,k)):KB k:=by
 obtain⟨W,c,a,J⟩:=h;unfold Kd.W at W;have h1:=Fs.nh e;have h2:=Fs.oO e;have L:=Fs.m9 (f:=1) e;have U:=Fs.m8 e;have Y:=FU e;simp only[Kd.nn,Kd.cB,Kd.dF,Kd.hv] at c a J;exact⟨Fs.lB W.2.2 e,by omega,by omega,by omega⟩
theorem KB.FV {key by_:Str}{fs:Fs}(h:KB (.rows key by_ fs)):KB (.eQ fs):=by
 obtain⟨W,c,a,J⟩:=h;unfold Kd.W at W;simp only[Kd.nn,Kd.cB,Kd.dF,Kd.hv] at c a J;exact⟨by unfold Kd.W;exact⟨W.1,W.2.1,W.2.2.1⟩,by simp only[Kd.nn,Kd.cB];omega,by simp only[Kd.dF];omega,by simp only[Kd.hv];omega⟩
theorem KB.zE {k:Kd}(h:KB (.tree k)):KB k:=by
 obtain⟨W,c,a,J⟩:=h;unfold Kd.W at W;simp only[Kd.nn,Kd.cB,Kd.dF,Kd.hv] at c a J;exact⟨W,by omega,by omega,by omega⟩
theorem KB.alt {fs:Fs}{i:Nat}{x:Str}{k:Kd}(h:KB (.fg fs))(e:fs.at i=some (x,k)):KB k:=by
 obtain⟨W,c,a,J⟩:=h;unfold Kd.W at W;have h1:=Fs.nh e;have h2:=Fs.oO e;have L:=Fs.m9 (f:=1) e;have U:=Fs.m8 e;simp only[Kd.nn,Kd.cB,Kd.dF,Kd.hv] at c a J;exact⟨Fs.lB W.2.2.2 e,by omega,by omega,by omega⟩
structure k8 (x:D):Prop where
 dp:x.dep<=9
 sm:x.Sm
 nd:x.Nd
 sl:x.SL 40
theorem k7.j6 {k:Kd}{x:D}(h:k7 k 1 x)(w:k.W)(a:k.dF 1<=9):k8 x:=⟨Q0h h.dp a,du.sm (by decide) k x w h.fit h.sl,du.nd k x w h.fit,h.sl⟩
theorem ni (κ:Key):k8 (fL κ):=by
 cases κ <;> exact⟨by show 1<=9;decide,by unfold fL D.Sm;trivial,by unfold fL D.Nd;trivial,by unfold fL D.SL;trivial⟩
def Arg (H:Hp) (deed:Str) (rest:List V) (x:D) (L:List Addr):Prop:=(deed="trim"/\rest=[])\/(deed≠"trim"/\∃J,rest=[J]/\Own H J x L)
theorem Arg.keep {H H':Hp}{deed:Str}{rest:List V}{x:D}{J:List Addr}(h:Arg H deed rest x J)(t:Tu H H')(k:∀c∈J,∀o,H c=some o->H' c=some o):Arg H' deed rest x J:=by
 rcases h with h|⟨h,L,e,o⟩
 . exact .inl h
 . exact .inr ⟨h,L,e,o.keep t _ k⟩
structure jf (H:Hp) (st:Addr) (deed:Str) (q:List Key) (x:D) (fa:List Addr):Prop where
 ex:∃pt rest,H st=some (.tup (.str deed:: .ref pt::rest))/\H pt=some (.tup (q.map kV))/\Arg H deed rest x fa
 j6:k8 x
theorem jf.keep {H H':Hp}{st:Addr}{deed:Str}{q:List Key}{x:D}{J:List Addr}(h:jf H st deed q x J)(t:Tu H H')(k:∀c∈J,∀o,H c=some o->H' c=some o):jf H' st deed q x J:=by
 obtain⟨⟨pt,rest,h1,h2,L⟩,U⟩:=h;exact⟨⟨pt,rest,t _ _ h1,t _ _ h2,L.keep t k⟩,U⟩
theorem jf.same {H H':Hp}{st:Addr}{deed:Str}{q:List Key}{x:D}{J:List Addr}(h:jf H st deed q x J)(s:Same H H'):jf H' st deed q x J:=h.keep (Tu.of s) λc _ o e=>s _ _ e
abbrev pd (K:W.Frag) (Pt Pd Pi a b:Addr) (ns:List Int) (H:Hp) (L:List Key) (n B:Int) (fp:List Addr) (S:Str->D->List Key->D->Prop) (Q:VK):Prop:=
 ∀r st U deed x p d' J Y H' n',KW b Pt Pd H H'->WS K Pt Pd Pi a b ns H' n'->n<=n'->n'<=B->H' r=some (.tup [.ref st,U])->jf H' st deed (L++p) x Y->(∀c∈Y,H c=none)->S deed x p d'->Own H' U d' J->(∀c∈J,H c=none\/c∈fp)->Q (.ref r) H'
def k9 (K:W.Frag) (Pt Pd Pi:Addr) (N:Nat):Sp:=λvs H Q _=>∃a b ns n L k v d fp pt J,vs=[.ref a,.ref b,L,v,.ref pt]/\WS K Pt Pd Pi a b ns H n/\KA H L k/\KB k/\Own H v d fp/\b ∉ fp/\du k d/\d.SL 40/\d.dep<=N/\H pt=some (.tup (J.map kV))/\J.length+d.dep<=200/\n+((2000000 * d.dep:Nat):Int)<=1000000000000/\
 pd K Pt Pd Pi a b ns H J n (n+((2000000 * d.dep:Nat):Int)) fp (λdeed x p d'=>eR k d deed x p d') Q/\∀fs H' n',KW b Pt Pd H H'->WS K Pt Pd Pi a b ns H' n'->n<=n'->n'<=n+(k.nn:Nat)->k=.eQ fs->Q .non H'
def FW (fs:Fs) (m:Ds) (J:Str) (deed:Str) (x:D) (p:List Key) (d':D):Prop:=∃nm k e L U,p=.inr nm::U/\nm≠J/\fs.get nm=some k/\m.get nm=some e/\eR k e deed x U L/\d'=.dct (m.set nm L)
def rl (K:W.Frag) (Pt Pd Pi:Addr) (N:Nat):Sp:=λvs H Q _=>∃a b ns n U xs fs J v m fp pt L,vs=[.ref a,.ref b,.ref U,.str J,v,.ref pt]/\WS K Pt Pd Pi a b ns H n/\H U=some (.tup xs)/\FA H xs fs/\KB (.eQ fs)/\Own H v (.dct m) fp/\b ∉ fp/\dB fs m/\m.SL 40/\m.dep<=N/\H pt=some (.tup (L.map kV))/\L.length+m.dep+1<=200/\n+((2000000 * (m.dep+1):Nat):Int)<=1000000000000/\
 pd K Pt Pd Pi a b ns H L n (n+((2000000 * (m.dep+1):Nat):Int)) fp (FW fs m J) Q/\∀H' n',KW b Pt Pd H H'->WS K Pt Pd Pi a b ns H' n'->n<=n'->n'<=n+((fs.names.length * fs.nn+1:Nat):Int)->Q .non H'
def zF (K:W.Frag) (Pt Pd Pi:Addr) (N:Nat):Sp:=λvs H Q _=>∃a b ns n L key by_ fs v d fp pt J,vs=[.ref a,.ref b,L,v,.ref pt]/\WS K Pt Pd Pi a b ns H n/\KA H L (.rows key by_ fs)/\KB (.rows key by_ fs)/\Own H v d fp/\b ∉ fp/\du (.rows key by_ fs) d/\d.SL 40/\d.dep<=N/\H pt=some (.tup (J.map kV))/\J.length+d.dep<=200/\n+((2000000 * d.dep:Nat):Int)<=1000000000000/\
 pd K Pt Pd Pi a b ns H J n (n+((2000000 * d.dep:Nat):Int)) fp (λdeed x p d'=>eR (.rows key by_ fs) d deed x p d') Q
def zG (K:W.Frag) (Pt Pd Pi:Addr) (N:Nat):Sp:=λvs H Q _=>∃a b ns n L k v d fp pt J,vs=[.ref a,.ref b,L,v,.ref pt]/\WS K Pt Pd Pi a b ns H n/\KA H L (.tree k)/\KB (.tree k)/\Own H v d fp/\b ∉ fp/\du (.tree k) d/\d.SL 40/\d.dep<=N/\H pt=some (.tup (J.map kV))/\J.length+d.dep<=200/\n+((2000000 * d.dep:Nat):Int)<=1000000000000/\
 pd K Pt Pd Pi a b ns H J n (n+((2000000 * d.dep:Nat):Int)) fp (λdeed x p d'=>eR (.tree k) d deed x p d') Q
theorem nj {K:W.Frag}{H:Hp}{pt t:Addr}{Q:VK}{J:List Key}{κ:Key}(L:H pt=some (.tup (J.map kV)))(U:H t=some (.tup [kV κ]))(hl:J.length<=200)(q:∀q H',Same H H'->H' q=some (.tup ((J++[κ]).map kV))->Q (.ref q) H'):zC K (.ref pt) (.ref t) H Q:=by
 refine⟨pt,t,_,_,rfl,rfl,c8.of L,c8.of U,(λz=>nomatch z),Q0v (fX (by rw[Q09];show _+1<=1000;omega)),λz=>q _ _ (Same.refl _) ?_,λ_ p hp=>q _ _ (Same.new hp) ?_⟩
 . have:J=[]:=by
    cases J with
    |nil=>rfl
    |cons x r=>cases z
   subst this;exact U
 . rw[de,Q0k];rfl
section
variable {K:W.Frag}{Pt Pd Pi a b:Addr}{ns:List Int}{H H':Hp}{n n':Int}
theorem WS.jg {fp:List Addr}(w:WS K Pt Pd Pi a b ns H n)(x:KW b Pt Pd H H')(mu:∀c∈fp,Mu H c)(L:b ∉ fp):∀c∈fp,∀o,H c=some o->H' c=some o:=λc hc o e=>by
 refine x c o (λz=>?_) e;rcases z with z|z|z
 . exact L (z ▸ hc)
 . obtain⟨ps,J⟩:=w.t.tab;rcases mu c hc with⟨xs,q⟩|⟨xs,q⟩ <;> rw[z,J] at q <;> cases q
 . obtain⟨ps,J⟩:=w.d.tab;rcases mu c hc with⟨xs,q⟩|⟨xs,q⟩ <;> rw[z,J] at q <;> cases q
theorem WS.nq {v:V}{d:D}{fp:List Addr}(w:WS K Pt Pd Pi a b ns H n)(x:KW b Pt Pd H H')(h:Own H v d fp)(J:b ∉ fp):Own H' v d fp:=h.keep (w.tu x) d (w.jg x (Own.alive d h) J)
end
section
variable {P:Program}{w:World}{K:W.Frag}{mg:Str->Option Value}{base:Heap}
variable {Pt Pd Pi:Addr}
theorem FX:d5 ["_law_script","_law_at","_law_fields_here","_law_lead","_law_value_here","_law_path","_law_m","_law_k","_law_name","_law_inner","_law_deed_here","_law_made"] XH (dD (top 45)):=eL
theorem FY (N L:Nat)(hL:2<=L)(T:Tb mg)(J:Dn K mg "_law_deed_in" kJ (top 45) U Y)(aa:Dn K mg "_law_next" dQ (top 31) ab ac)(ae:c_ P w K mg base da (1) ab ac dQ (gi K))(af:Dn K mg "_law_deed" fP (top 44) ag ah)(ai:c_ P w K mg base da (L) ag ah fP (k9 K Pt Pd Pi N)):c_ P w K mg base da (L+1) U Y kJ (rl K Pt Pd Pi N):=by
 refine J.F.ok FX λvs H Q E h=>?_;obtain⟨a,b,ns,n,pb,xs,fs,ak,v,m,fp,pt,aM,rfl,hw,au,ay,av,hv,am,al,aN,a9,aO,ba,hn,qS,qN⟩:=h;refine⟨rfl,λbb A outer s nd hr hu=>?_⟩;have hW:=av.W;unfold Kd.W at hW;have hc:=av.c;simp only[Kd.nn] at hc;have bc:xs.length=fs.names.length:=FA.len fs ay;have az:=hv;unfold Own at hv;obtain⟨rr,kvs,f,rfl,aA,rfl,hO⟩:=hv
 refine⟨_,(c9 (dI 6 nd (dq ae hr aa (a_ (pv 0) (a_ (pv 1) b_))))
  (c9 (iP PassesOwn.never rfl (jm rfl T.jw (a_ (dG fC (by rfl) T.fv PySem.boot_len (a_ (pv 2) b_)) b_)) (en (i:=7) nd rfl fk) (c9 (nJ (dj (pv 2) (dm eE (dm gu (pv 6) (pv 7)) (dG fC (by rfl) T.fv PySem.boot_len (a_ (pv 2) b_)))) (ie rfl (fy (en (i:=8) nd rfl fk) (fy (en (i:=9) nd rfl fk) ic))))
  (dc (dA (dw ij (pv 8) (pv 3) (di _)) (c9 (dI 10 nd (dq ai hr af (a_ (pv 0) (a_ (pv 1) (a_ (pv 9) (a_ (fH hu (pv 4) (pv 8) (λ_ _=>rfl)) (a_ (dm ng (pv 5) (dW (a_ (pv 8) b_))) b_)))))))
  (dc (dA (dw gY (pv 10) el (di _)) (c9 (dI 11 nd (jP xV (by rfl) T.gJ boot_dict (a_ (pv 4) b_)))
  (c9 (n9 hu (pv 11) (pv 8) (dj (pv 10) cZ) rfl)
  (dc (dk (dW (a_ (dj (pv 10) cZ) (a_ (pv 11) b_))))))) dz))) dz))))
  (dc (dk el)))),?_⟩
 ac_rfl
 refine⟨_,rfl,_,rfl,a,b,ns,n,rfl,hw.g,by omega,λr H1 r0 r1 s1 h1=>?_⟩;have aP:=hw.sb s1 h1 (by omega);have aB:KW b Pt Pd H H1:=KW.sb s1;have aQ:=hw.tu aB;refine⟨_,rfl,pb,_,rfl,.inr (c8.of (aQ _ _ au)),_,rfl,by omega,by omega,pO (n:=Int.toNat (xs.length:Int)) (λi σ H'=>∃(x7 x8 x9 aw ax:Option V) (n':Int),σ=[some (.ref a),some (.ref b),some (.ref pb),some (.str ak),some (.ref rr),some (.ref pt),some (.int r),x7,x8,x9,aw,ax]/\KW b Pt Pd H H'/\WS K Pt Pd Pi a b ns H' n'/\n<=n'/\n'<=n+1+((i * fs.nn:Nat):Int)) ?_ ?_ ?_⟩
 . exact⟨_,_,_,_,_,n+1,rfl,aB,aP,by omega,by omega⟩
 . intro i σ H' hi zq;obtain⟨x7,x8,x9,aw,ax,n',rfl,kw,an,z1,z2⟩:=zq;have em:Int.toNat (xs.length:Int)=xs.length:=by omega
   rw[em] at hi;have tu:=hw.tu kw;have e1:(i+1) * fs.nn=i * fs.nn+fs.nn:=Q1o _ _;have e2:(i+1) * fs.nn<=fs.names.length * fs.nn:=Q11 _ (by omega);dsimp only[dU];obtain⟨j,hj⟩:∃j:Nat,(r+(0+(i:Int))) % (xs.length:Int)=(j:Int):=⟨((r+(0+(i:Int))) % (xs.length:Int)).toNat,by have:=Q0s (r+(0+(i:Int))) (show(xs.length:Int)≠0 by omega);omega⟩;have bd:j<xs.length:=by have:=Q0u (r+(0+(i:Int))) (show(0:Int)<(xs.length:Int) by omega);omega
   obtain⟨nm,k,ao⟩:=Fs.kB (fs:=fs) (i:=j) (by omega);obtain⟨c,u,aT,aU,aV⟩:=FA.at ay ao;have aC:=Fs.jv hW.1 ao;have aW:=av.fld ao;have be:=Fs.nh ao;refine⟨_,rfl,_,rfl,_,rfl,_,_,rfl,rfl,_,rfl,pb,_,rfl,.inr (c8.of (tu _ _ au)),_,_,rfl,rfl,(by show(0:Int)<(xs.length:Int);omega),pb,xs,_,.ref c,rfl,rfl,c8.of (tu _ _ au),(by show fW xs ((r+(0+(i:Int))) % (xs.length:Int))=_;rw[hj];exact fA aT),?_⟩;refine⟨c,_,rfl,c8.of (tu _ _ aU),rfl,_,_,rfl,_,_,rfl,rfl,?_⟩;refine⟨_,rfl,_,rfl,rfl,_,rfl,eF (λcc=>?_) (λ_=>⟨_,_,_,_,_,n',rfl,kw,an,z1,by omega⟩)⟩
   have aX:nm≠ak:=λz=>by
    rw[decide_eq_true (show V.str nm=V.str ak by rw[z])] at cc
    cases cc
   obtain⟨e,he,aY⟩:=dB.get al aC;obtain⟨ev,eg,aD,aZ,aE⟩:=hO.val m he;have bf:=Ds.jV he;have aJ:H' rr=some (.dK kvs):=hw.jg kw (Own.alive _ az) am rr Q0a _ aA;have gx:eU H' rr (.str nm) (some ev):=by have:=eU.k (k:=Sum.inr nm) aJ;rw[aD] at this;exact this
   refine⟨_,rfl,_,rfl,_,rfl,_,rfl,_,rfl,rr,_,rfl,gx,_,rfl,_,rfl,fJ,λt ht=>?_⟩;have sT:=Same.new ht (o:=.tup [.str nm]);have eT:upd H' t (.tup [.str nm]) t=some (.tup [kV (.inr nm)]):=de;generalize upd H' t (.tup [.str nm])=HT at sT eT ⊢;refine nj (κ:=.inr nm) (sT _ _ (tu _ _ aO)) eT (by omega) λq HC sC eC=>?_;have sA:=sT.trans sC;have aG:=an.same sA;have aj:KW b Pt Pd H HC:=kw.trans (Kp.of sA);have a1:=hw.tu aj;have aH:b ∉ eg:=λz=>am (Q04 _ (aE b z));refine⟨a,b,ns,n',u,k,ev,e,eg,q,aM++[.inr nm],rfl,aG,KA.mono a1 k aV,aW,hw.nq aj aZ aH,aH,aY,Ds.mV aN he,by omega,eC,by rw[Q08];show _+1+_<=_;omega,by omega,?_,?_⟩
   . intro rq st v' deed x p d' bg fa H3 n3 ap aq w1 w2 aI a2 aK hS ho a3;have ar:KW b Pt Pd H H3:=aj.trans ap;refine⟨_,rfl,rfl,_,rfl,dM ?_⟩;have aL:H3 rr=some (.dK kvs):=hw.jg ar (Own.alive _ az) am rr Q0a _ aA;refine⟨_,rfl,rr,kvs,rfl,aL,λl hl=>?_⟩;have s4:=Same.new hl (o:=.dK kvs);have e4:upd H3 l (.dK kvs) l=some (.dK kvs):=de;generalize bh:upd H3 l (.dK kvs)=H4 at s4 e4 ⊢
     have a4:kvs.length<sizeLine:=by
      rw[hO.len,dB.names al];exact Q17 hW.2.1 (by decide)
     refine⟨_,rfl,rq,_,_,v',rfl,rfl,c8.of (s4 _ _ aI),rfl,_,rfl,_,rfl,l,_,rfl,jr.k (k:=Sum.inr nm) e4 a4,?_⟩;rw[yN aD]
     have k5:Same H3 (upd H4 l (.dK (kvs.map λkv=>if kv.1=Sum.inr nm then(kv.1,v') else kv))):=λc o ec=>by
      rw[dh (dN ec hl)];exact s4 _ _ ec
     have e5:upd H4 l (.dK (kvs.map λkv=>if kv.1=Sum.inr nm then(kv.1,v') else kv)) l=some (.dK (kvs.map λkv=>if kv.1=Sum.inr nm then(kv.1,v') else kv)):=de;generalize upd H4 l (.dK (kvs.map λkv=>if kv.1=Sum.inr nm then(kv.1,v') else kv))=H5 at k5 e5 ⊢;refine⟨_,rfl,rq,_,_,.ref st,rfl,rfl,c8.of (k5 _ _ aI),rfl,_,rfl,er,λrz a5=>?_⟩;have s6:=Same.new a5 (o:=.tup [.ref st,.ref l]);have k6:=k5.trans s6;have a6:dv H3 kvs m f:=hO.keep (hw.tu ar) _ (hw.jg ar (dv.alive _ hO) (λz=>am (Q04 _ z)));obtain⟨f',a7,a8⟩:=dv.set (x:=nm) ho m a6 (by rw[dB.names al];exact hW.1);have dn:∀{c},HC c=none->H c=none:=λh=>WS.eX aG aj h;refine qS rz st (.ref l) deed x (.inr nm::p) _ (l::f') fa _ n3 (ar.trans (Kp.of k6)) (aq.same k6) (by omega) (by omega) de ?_ (λc hc=>dn (aK c hc)) ⟨nm,k,e,d',p,rfl,aX,aC,he,hS,rfl⟩ ?_ λc hc=>?_
     . have:=a2.same k6;rw[Q0r] at this;exact this
     . unfold Own;exact⟨l,_,f',rfl,s6 _ _ e5,rfl,a7.same k6⟩
     . rcases List.mem_cons.mp hc with rfl|hc
       . exact .inl (dn (WS.eX aq ap hl))
       . rcases a8 c hc with z|z
         . exact .inr (Q04 _ z)
         . rcases a3 c z with z|z
           . exact .inl (dn z)
           . exact .inr (Q04 _ (aE c z))
   . intro fs' H3 n3 ap aq w1 w2 _;refine⟨_,rfl,rfl,_,rfl,dy ⟨_,_,_,_,_,n3,rfl,aj.trans ap,aq,by omega,by omega⟩⟩
 . intro σ H' zq;obtain⟨x7,x8,x9,aw,ax,n',rfl,kw,an,z1,z2⟩:=zq;have em:Int.toNat (xs.length:Int)=fs.names.length:=by omega
   rw[em] at z2;exact qN H' n' kw an z1 (by omega)
end
theorem Tree.dest {P:D->Prop}:∀{d:D},Tree P d->∃x t y as,d=.tup (.cons x t (.cons y (.lst as) .nil))/\P t/\dR P as
 | .int _,h=>by unfold Tree at h;exact h.elim
 | .str _,h=>by unfold Tree at h;exact h.elim
 | .lst _,h=>by unfold Tree at h;exact h.elim
 | .dct _,h=>by unfold Tree at h;exact h.elim
 | .tup (.cons x t (.cons y (.lst as) .nil)),h=>by unfold Tree eG at h;exact⟨x,t,y,as,rfl,h.1,h.2⟩
 | .tup .nil,h=>by unfold Tree eG at h;exact h.elim
 | .tup (.cons _ _ .nil),h=>by unfold Tree eG at h;exact h.elim
 | .tup (.cons _ _ (.cons _ (.int _) _)),h=>by unfold Tree eG at h;exact h.elim
 | .tup (.cons _ _ (.cons _ (.str _) _)),h=>by unfold Tree eG at h;exact h.elim
 | .tup (.cons _ _ (.cons _ (.tup _) _)),h=>by unfold Tree eG at h;exact h.elim
 | .tup (.cons _ _ (.cons _ (.dct _) _)),h=>by unfold Tree eG at h;exact h.elim
 | .tup (.cons _ _ (.cons _ (.lst _) (.cons _ _ _))),h=>by unfold Tree eG at h;exact h.elim
theorem Ds.last:∀(as:Ds),0<as.len->∃(J:Ds) (z:Str) (c:D),as=J.snoc z c
 | .nil,h=>absurd h (Q0t _)
 | .cons x d .nil,_=>⟨.nil,x,d,rfl⟩
 | .cons x d (.cons y e r),_=>by
   obtain⟨J,z,c,h⟩:=Ds.last (.cons y e r) (by show 0<r.len+1;omega);exact⟨.cons x d J,z,c,by rw[h];rfl⟩
section
variable {P:Program}{w:World}{K:W.Frag}{mg:Str->Option Value}{base:Heap}
variable {Pt Pd Pi:Addr}
theorem FZ:d5 ["_law_script","_law_at","_law_kind_here","_law_value_here","_law_path","_law_m","_law_many","_law_k","_law_deed_here","_law_fresh"] XB (dD (top 47)):=eL
theorem F0 (N L:Nat)(hL:17<=L)(T:Tb mg)(ab:Dn K mg "_law_deed_tree" fP (top 47) ac ae)(aw:Dn K mg "_law_next" dQ (top 31) ax ay)(az:c_ P w K mg base da (1) ax ay dQ (gi K))(Y:Dn K mg "_law_deed" fP (top 44) aA aB)(aa:c_ P w K mg base da (L) aA aB fP (k9 K Pt Pd Pi N))(al:Dn K mg "_law_value" fB (top 41) am ao)(ap:c_ P w K mg base da (11+6) am ao fB (iW K Pt Pd Pi 11)):c_ P w K mg base da (L+1) ac ae fP (zG K Pt Pd Pi (N+1)):=by
 refine ab.F.ok FZ λvs H Q E h=>?_;obtain⟨a,b,ns,n,kv,k,v,d,fp,pt,a7,rfl,hw,hk,aC,hv,a8,aQ,aU,br,aJ,bt,hn,qS⟩:=h;refine⟨rfl,λbO A outer s nd hr hu=>?_⟩;have bu:=aC.zE;have hc:=aC.c;have hh:=aC.h;simp only[Kd.nn,Kd.hv] at hc hh;have bL:=aQ;unfold du at aQ;obtain⟨xn,t,yn,as,rfl,bv,bo⟩:=aQ.dest;have a9:=hk;unfold KA at a9;obtain⟨kk,ku,rfl,bw,bx⟩:=a9;have bP:=hv;obtain⟨tr,u1,u2,g1,g2,rfl,af,bz,aZ,rfl⟩:=kU hv;have bp:=aZ;unfold Own at aZ;obtain⟨l,ws,fq,rfl,hl,rfl,a1⟩:=aZ;have bM:=a1.len;have bN:=aU;rw[lU] at aU;simp only[D.dep,Ds.dep] at br bt hn;have bQ:(1:Nat)<=t.dep:=t.gI;have ba:b ∉ g1:=λz=>a8 (Q0f _ z);have bb:b ∉ l::fq:=λz=>a8 (Q01 _ z);have bc:b ∉ fq:=λz=>bb (Q04 _ z)
 refine⟨_,(c9 (dI 5 nd (dq az hr aw (a_ (pv 0) (a_ (pv 1) b_))))
  (c9 (dI 6 nd (dG fC (by rfl) T.fv PySem.boot_len (a_ (dj (pv 3) cZ) b_)))
  (c9 (dA (PW.pt (gF (dw jO (pv 6) cZ (di _)) (gW (dw dX (dm eE (pv 5) cZ) cZ (di _))))) (dc (dk (dW (a_ (dW (a_ dO (a_ (pv 4) b_))) (a_ (dW (a_ (dj (pv 3) cZ) (a_ (g7 jQ (dj (pv 3) cZ) g5 (g6 (dm jN (pv 6) cZ))) b_))) b_))))) dz)
  (c9 (dA (PW.pt (gF (dw jO (pv 6) cZ (di _)) (gF (dw i4 (dm eE (pv 5) cZ) cZ (di _)) (gW (dw i4 (dG fC (by rfl) T.fv PySem.boot_len (a_ (pv 4) b_)) cZ (di _)))))) (c9 (dI 7 nd (dm eE (dm f_ (pv 5) cZ) (pv 6)))
  (c9 (dI 8 nd (dq aa hr Y (a_ (pv 0) (a_ (pv 1) (a_ (pv 2) (a_ (gh (dj (pv 3) cZ) (pv 7)) (a_ (dm ng (pv 4) (dW (a_ (pv 7) b_))) b_)))))))
  (dc (dk (dW (a_ (dj (pv 8) cZ) (a_ (dW (a_ (dj (pv 3) cZ) (a_ (dm i6 (dm i6 (g7 jQ (dj (pv 3) cZ) g5 (g6 (pv 7))) (fQ (a_ (dj (pv 8) cZ) b_))) (g7 jQ (dj (pv 3) cZ) (g6 (dm gu (pv 7) cZ)) g5)) b_))) b_))))))) dz)
  (c9 (dA (dw dX (dm eE (pv 5) cZ) cZ (di _)) (c9 (dI 8 nd (dq aa hr Y (a_ (pv 0) (a_ (pv 1) (a_ (dj (pv 2) cZ) (a_ (dj (pv 3) cZ) (a_ (dm ng (pv 4) (dW (a_ dO b_))) b_)))))))
  (dc (dA (dw gY (pv 8) el (di _)) (dc (dk (dW (a_ (dj (pv 8) cZ) (a_ (dW (a_ (dj (pv 8) cZ) (a_ (jP BC (by rfl) T.gB boot_list (a_ (dj (pv 3) cZ) b_)) b_))) b_))))) dz))) dz)
  (c9 (dI 9 nd (dq ap hr al (a_ (pv 0) (a_ (pv 1) (a_ (pv 2) (a_ cZ b_))))))
  (dc (dk (dW (a_ (dW (a_ dO (a_ (pv 4) (a_ (pv 9) b_)))) (a_ (dW (a_ (dj (pv 3) cZ) (a_ (dm i6 (dj (pv 3) cZ) (fQ (a_ (pv 9) b_))) b_))) b_))))))))))),?_⟩
 ac_rfl
 refine⟨_,rfl,_,rfl,a,b,ns,n,rfl,hw.g,by omega,λr H1 r0 r1 s1 h1=>?_⟩;have aK:=hw.sb s1 h1 (by omega);have ag:KW b Pt Pd H H1:=KW.sb s1;have ah:=hw.tu ag;have aG:∀{H':Hp},KW b Pt Pd H H'->H' l=some (.lst ws):=λkw=>hw.jg kw (Own.alive _ bp) bb l Q0a _ hl;have aL:∀{H':Hp},KW b Pt Pd H H'->df H' ws as fq:=λkw=>a1.keep (hw.tu kw) _ (hw.jg kw (df.alive _ a1) bc);have aV:∀{H':Hp},KW b Pt Pd H H'->Own H' u1 t g1:=λkw=>hw.nq kw bz ba;have a2:=aG ag;refine⟨_,rfl,tr,_,_,.ref l,rfl,rfl,c8.of (ah _ _ af),rfl,l,_,rfl,.inl (dg.of a2),?_⟩;dsimp only[dU];refine iF (A:=iA _ _ _) (λaM H'=>aM=[some (.ref a),some (.ref b),some (.ref kk),some (.ref tr),some (.ref pt),some (.int r),some (.int (ws.length:Int)),none,none,none]/\H1=H') ?_ (λhB=>?_);rotate_left
 . -- trim
   refine⟨_,rfl,_,_,rfl,rfl,_,rfl,eF (λc1=>?_) (λ_=>dy (hB _ _ ⟨rfl,rfl⟩))⟩;refine⟨_,rfl,_,_,rfl,rfl,(by show(0:Int)<5;decide),rfl,_,rfl,eF (λ_=>?_) (λ_=>hB _ _ ⟨rfl,rfl⟩)⟩;have bq:0<ws.length:=by have:=of_decide_eq_true c1;omega
   obtain⟨bA,z,c,rfl⟩:=Ds.last as (by omega);obtain⟨ai,u,gf,rfl,bB,bC⟩:=(aL ag).lN;refine⟨_,rfl,er,λst aD=>?_⟩;have sA:=Same.new aD (o:=.tup [.str "trim",.ref pt]);have eA:upd H1 st (.tup [.str "trim",.ref pt]) st=some (.tup [.str "trim",.ref pt]):=de;generalize upd H1 st (.tup [.str "trim",.ref pt])=HA at sA eA ⊢;refine⟨_,rfl,tr,_,_,u1,rfl,rfl,c8.of (sA _ _ (ah _ _ af)),rfl,_,rfl,tr,_,_,.ref l,rfl,rfl,c8.of (sA _ _ (ah _ _ af)),rfl,_,rfl,_,_,rfl,rfl,_,rfl,l,_,rfl,dg.of (sA _ _ a2),λp2 aH=>?_⟩
   have ec:gw (ai++[u]) none (some (((ai++[u]).length:Int) - 1))=ai:=by
    rw[show(((ai++[u]).length:Int) - 1)=((ai.length:Nat):Int) by rw[Q08];show((ai.length+1:Nat):Int) - 1=_;omega,oX _ _ (by rw[Q08];omega),Q35]
   rw[ec];have sB:=Same.new aH (o:=.lst ai);have eB:upd HA p2 (.lst ai) p2=some (.lst ai):=de;generalize upd HA p2 (.lst ai)=HB at sB eB ⊢;refine⟨er,λt2 gR=>?_⟩;have sC:=Same.new gR (o:=.tup [u1,.ref p2]);have eC:upd HB t2 (.tup [u1,.ref p2]) t2=some (.tup [u1,.ref p2]):=de;generalize upd HB t2 (.tup [u1,.ref p2])=HC at sC eC ⊢;refine⟨er,λrz aE=>?_⟩;have sD:=Same.new aE (o:=.tup [.ref st,.ref t2]);have sx:=sA.trans (sB.trans (sC.trans sD))
   have ol:Own (upd HC rz (.tup [.ref st,.ref t2])) (.ref p2) (.lst bA) (p2::gf):=by
    unfold Own;exact⟨p2,_,_,rfl,sD _ _ (sC _ _ eB),rfl,bB.same sx⟩
   refine qS rz st (.ref t2) "trim" (.int 0) [] _ (g1++p2::gf) [] _ (n+1) (ag.trans (Kp.of sx)) (aK.same sx) (by omega) (by simp only[D.dep,Ds.dep];omega) de ⟨⟨pt,[],sD _ _ (sC _ _ (sB _ _ eA)),by rw[Q0m];exact sx _ _ (ah _ _ aJ),.inl ⟨rfl,rfl⟩⟩,ni (.inl 0)⟩ (λc hc=>(nomatch hc)) .trim (ix (sD _ _ eC) ((aV ag).same sx) ol) λz J=>?_;rcases List.mem_append.mp J with J|J
   . exact .inr (Q0f _ J)
   . rcases List.mem_cons.mp J with rfl|J
     . exact .inl (WS.eX aK ag (fw sA aH))
     . exact .inr (Q01 _ (Q04 _ (bC _ J)))
 rintro _ _ ⟨rfl,rfl⟩;refine iF (A:=iA _ _ _) (λaM H'=>aM=[some (.ref a),some (.ref b),some (.ref kk),some (.ref tr),some (.ref pt),some (.int r),some (.int (ws.length:Int)),none,none,none]/\H1=H') ?_ (λhB=>?_);rotate_left
 . -- an arm
   refine⟨_,rfl,_,_,rfl,rfl,_,rfl,eF (λc1=>?_) (λ_=>dy (hB _ _ ⟨rfl,rfl⟩))⟩;refine⟨_,rfl,_,_,rfl,rfl,(by show(0:Int)<5;decide),_,_,rfl,rfl,_,rfl,eF (λ_=>?_) (λ_=>dy (hB _ _ ⟨rfl,rfl⟩))⟩;refine⟨_,rfl,pt,_,rfl,.inr (c8.of (ah _ _ aJ)),_,_,rfl,rfl,_,rfl,eF (λ_=>?_) (λ_=>hB _ _ ⟨rfl,rfl⟩)⟩;have bq:0<ws.length:=by have:=of_decide_eq_true c1;omega
   refine⟨_,rfl,_,_,rfl,rfl,⟨by decide,by decide⟩,_,rfl,_,_,rfl,rfl,(by show(0:Int)<(ws.length:Int);omega),?_⟩;obtain⟨j,hj⟩:∃j:Nat,r / 5 % (ws.length:Int)=(j:Int):=⟨(r / 5 % (ws.length:Int)).toNat,by have:=Q0s (r / 5) (show(ws.length:Int)≠0 by omega);omega⟩;have bd:j<ws.length:=by have:=Q0u (r / 5) (show(0:Int)<(ws.length:Int) by omega);omega
   show dU 7 (V.int (r / 5 % (ws.length:Int))) _ _ _;rw[hj];dsimp only[dU];have be:=Q05 bd;obtain⟨c,cf,aW,bD,bf⟩:=(aL ag).get as be;have bR:=Ds.i9 aW;refine⟨_,rfl,_,rfl,_,rfl,_,rfl,tr,_,_,.ref l,rfl,rfl,c8.of (ah _ _ af),rfl,_,rfl,l,ws,_,_,rfl,rfl,dg.of a2,fA be,_,rfl,_,rfl,fJ,λtq a3=>?_⟩;have sT:=Same.new a3 (o:=.tup [.int j]);have eT:upd H1 tq (.tup [.int j]) tq=some (.tup [kV (.inl j)]):=de;generalize upd H1 tq (.tup [.int j])=HT at sT eT ⊢;refine nj (κ:=.inl j) (sT _ _ (ah _ _ aJ)) eT (by omega) λq HC sC eC=>?_;have sA:=sT.trans sC;have aN:=aK.same sA;have ar:KW b Pt Pd H HC:=ag.trans (Kp.of sA);have a4:=hw.tu ar;have bE:b ∉ cf:=λz=>bc (bf b z);refine⟨a,b,ns,n+1,.ref kk,.tree k,_,c,cf,q,a7++[.inl j],rfl,aN,KA.mono a4 _ hk,aC,bD.same sA,bE,by unfold du;exact dR.at bo aW,Ds.mU aU.2.2 aW,by omega,eC,by rw[Q08];show _+1+_<=_;omega,by omega,?_,λfs' H3 n3 _ _ _ _ e=>by cases e⟩;intro rq st v' deed x p d' bg fa H3 n3 aj ak w1 w2 aO aD aq hS ho a5;have U:KW b Pt Pd H H3:=ar.trans aj;have au:=hw.tu U;have aI:=aG U;refine⟨_,rfl,rq,_,_,.ref st,rfl,rfl,c8.of aO,rfl,_,rfl,tr,_,_,u1,rfl,rfl,c8.of (au _ _ af),rfl,_,rfl,tr,_,_,.ref l,rfl,rfl,c8.of (au _ _ af),rfl,_,rfl,j,rfl,l,ws,rfl,dg.of aI,λp1 aX=>?_⟩;rw[oX ws j (by omega)];have sa:=Same.new aX (o:=.lst (ws.take j));have ea:upd H3 p1 (.lst (ws.take j)) p1=some (.lst (ws.take j)):=de;generalize upd H3 p1 (.lst (ws.take j))=Ha at sa ea ⊢;refine⟨_,rfl,rq,_,_,v',rfl,rfl,c8.of (sa _ _ aO),rfl,fJ,λp2 aH=>?_⟩;have sb:=Same.new aH (o:=.lst [v']);have eb:upd Ha p2 (.lst [v']) p2=some (.lst [v']):=de;generalize upd Ha p2 (.lst [v'])=Hb at sb eb ⊢;have hsz:201<=sizeLine:=by decide
   have bS:ws.length<=40:=by omega
   refine⟨p1,p2,_,_,rfl,rfl,sb _ _ ea,eb,by rw[Q0n];show _+1<=_;omega,λp3 aY=>?_⟩;have sc:=Same.new aY (o:=.lst (ws.take j++[v']));have ec:upd Hb p3 (.lst (ws.take j++[v'])) p3=some (.lst (ws.take j++[v'])):=de;generalize upd Hb p3 (.lst (ws.take j++[v']))=Hc at sc ec ⊢;have aT:=sa.trans (sb.trans sc);refine⟨_,rfl,tr,_,_,.ref l,rfl,rfl,c8.of (aT _ _ (au _ _ af)),rfl,_,rfl,_,_,rfl,rfl,_,rfl,l,ws,rfl,dg.of (aT _ _ aI),λp4 bF=>?_⟩;have bG:gw ws (some ((j:Int)+1)) none=ws.drop (j+1):=oY ws (j+1) (by omega);rw[bG];have sd:=Same.new bF (o:=.lst (ws.drop (j+1)));have ed:upd Hc p4 (.lst (ws.drop (j+1))) p4=some (.lst (ws.drop (j+1))):=de;generalize upd Hc p4 (.lst (ws.drop (j+1)))=Hd at sd ed ⊢;refine⟨p3,p4,_,_,rfl,rfl,sd _ _ ec,ed,by rw[Q08,Q0n,Q16];show _+1+_<=_;omega,λp5 bh=>?_⟩;rw[show ws.take j++[v']++ws.drop (j+1)=ws.take j++v'::ws.drop (j+1) by rw[Q0r];rfl];have se:=Same.new bh (o:=.lst (ws.take j++v'::ws.drop (j+1)));have ee:upd Hd p5 (.lst (ws.take j++v'::ws.drop (j+1))) p5=some (.lst (ws.take j++v'::ws.drop (j+1))):=de;generalize upd Hd p5 (.lst (ws.take j++v'::ws.drop (j+1)))=He at se ee ⊢;refine⟨er,λt6 aP=>?_⟩;have sf:=Same.new aP (o:=.tup [u1,.ref p5]);have ef:upd He t6 (.tup [u1,.ref p5]) t6=some (.tup [u1,.ref p5]):=de;generalize upd He t6 (.tup [u1,.ref p5])=Hf at sf ef ⊢;refine⟨er,λrz aE=>?_⟩;have sg:=Same.new aE (o:=.tup [.ref st,.ref t6]);have bi:=aT.trans sd;have sx:=bi.trans (se.trans (sf.trans sg));obtain⟨f',bH,bI⟩:=df.put (H:=upd Hf rz (.tup [.ref st,.ref t6])) (i:=j) (ho.same sx) as ((aL U).same sx) bd
   have ol:Own (upd Hf rz (.tup [.ref st,.ref t6])) (.ref p5) (.lst (as.put j d')) (p5::f'):=by
    unfold Own;exact⟨p5,_,_,rfl,sg _ _ (sf _ _ ee),rfl,bH⟩
   have dn:∀{c},HC c=none->H c=none:=λh=>WS.eX aN ar h;refine qS rz st (.ref t6) deed x (.inl j::p) _ (g1++p5::f') fa _ n3 (U.trans (Kp.of sx)) (ak.same sx) (by omega) (by simp only[D.dep,Ds.dep];omega) de ?_ (λc hc=>dn (aq c hc)) (.arm aW hS) (ix (sg _ _ ef) ((aV U).same sx) ol) λz J=>?_
   . have:=aD.same sx;rw[Q0r] at this;exact this
   . rcases List.mem_append.mp J with J|J
     . exact .inr (Q0f _ J)
     . rcases List.mem_cons.mp J with rfl|J
       . exact .inl (dn (WS.eX ak aj (fw bi bh)))
       . rcases bI z J with J|J
         . exact .inr (Q01 _ (Q04 _ J))
         . rcases a5 z J with J|J
           . exact .inl (dn J)
           . exact .inr (Q01 _ (Q04 _ (bf _ J)))
 rintro _ _ ⟨rfl,rfl⟩;refine iF (A:=iA _ _ _) (λaM H'=>∃(x8:Option V) (n':Int),aM=[some (.ref a),some (.ref b),some (.ref kk),some (.ref tr),some (.ref pt),some (.int r),some (.int (ws.length:Int)),none,x8,none]/\KW b Pt Pd H H'/\WS K Pt Pd Pi a b ns H' n'/\n<=n'/\n'<=n+1+(k.nn:Nat)) ?_ (λhB=>?_);rotate_left
 . -- bT knot
   refine⟨_,rfl,_,_,rfl,rfl,(by show(0:Int)<5;decide),rfl,_,rfl,eF (λ_=>?_) (λ_=>hB _ _ ⟨_,n+1,rfl,ag,aK,by omega,by omega⟩)⟩;refine⟨_,rfl,_,rfl,_,rfl,kk,_,_,ku,rfl,rfl,c8.of (ah _ _ bw),rfl,_,rfl,tr,_,_,u1,rfl,rfl,c8.of (ah _ _ af),rfl,_,rfl,fJ,λtq a3=>?_⟩;have sT:=Same.new a3 (o:=.tup [.str "knot"]);have eT:upd H1 tq (.tup [.str "knot"]) tq=some (.tup [kV (.inr "knot")]):=de;generalize upd H1 tq (.tup [.str "knot"])=HT at sT eT ⊢;refine nj (κ:=.inr "knot") (sT _ _ (ah _ _ aJ)) eT (by omega) λq HC sC eC=>?_;have sA:=sT.trans sC;have aN:=aK.same sA;have ar:KW b Pt Pd H HC:=ag.trans (Kp.of sA);have a4:=hw.tu ar;have dn:∀{c},HC c=none->H c=none:=λh=>WS.eX aN ar h;refine⟨a,b,ns,n+1,ku,k,u1,t,g1,q,a7++[.inr "knot"],rfl,aN,KA.mono a4 _ bx,bu,aV ar,ba,bv,aU.1,by omega,eC,by rw[Q08];show _+1+_<=_;omega,by omega,?_,?_⟩
   . intro rq st v' deed x p d' bg fa H3 n3 aj ak w1 w2 aO aD aq hS ho a5;have U:KW b Pt Pd H H3:=ar.trans aj;have au:=hw.tu U;have aI:=aG U;refine⟨_,rfl,rfl,_,rfl,dM ?_⟩;refine⟨_,rfl,rq,_,_,.ref st,rfl,rfl,c8.of aO,rfl,_,rfl,rq,_,_,v',rfl,rfl,c8.of aO,rfl,_,rfl,tr,_,_,.ref l,rfl,rfl,c8.of (au _ _ af),rfl,l,ws,rfl,.inl (dg.of aI),λp1 aX=>?_⟩;have sa:=Same.new aX (o:=.lst ws);have ea:upd H3 p1 (.lst ws) p1=some (.lst ws):=de;generalize upd H3 p1 (.lst ws)=Ha at sa ea ⊢;refine⟨er,λt6 aP=>?_⟩;have sf:=Same.new aP (o:=.tup [v',.ref p1]);have ef:upd Ha t6 (.tup [v',.ref p1]) t6=some (.tup [v',.ref p1]):=de;generalize upd Ha t6 (.tup [v',.ref p1])=Hf at sf ef ⊢;refine⟨er,λrz aE=>?_⟩;have sg:=Same.new aE (o:=.tup [.ref st,.ref t6]);have sx:=sa.trans (sf.trans sg)
     have ol:Own (upd Hf rz (.tup [.ref st,.ref t6])) (.ref p1) (.lst as) (p1::fq):=by
      unfold Own;exact⟨p1,_,_,rfl,sg _ _ (sf _ _ ea),rfl,(aL U).same sx⟩
     refine qS rz st (.ref t6) deed x (.inr "knot"::p) _ (bg++p1::fq) fa _ n3 (U.trans (Kp.of sx)) (ak.same sx) (by omega) (by simp only[D.dep,Ds.dep];omega) de ?_ (λc hc=>dn (aq c hc)) (.knot hS) (ix (sg _ _ ef) (ho.same sx) ol) λz J=>?_
     . have:=aD.same sx;rw[Q0r] at this;exact this
     . rcases List.mem_append.mp J with J|J
       . rcases a5 z J with J|J
         . exact .inl (dn J)
         . exact .inr (Q0f _ J)
       . rcases List.mem_cons.mp J with rfl|J
         . exact .inl (dn (WS.eX ak aj aX))
         . exact .inr (Q01 _ (Q04 _ J))
   . intro fs' H3 n3 aj ak w1 w2 _;exact⟨_,rfl,rfl,_,rfl,dy (hB _ _ ⟨_,n3,rfl,ar.trans aj,ak,by omega,by omega⟩)⟩
 intro _ H2 zq;obtain⟨x8,n2,rfl,a6,bj,y1,y2⟩:=zq;have bJ:=hw.tu a6;have bU:=kZ (.tree k) (f:=1) (by decide);refine⟨_,rfl,_,rfl,_,rfl,a,b,ns,n2,.ref kk,.tree k,1,1,rfl,bj,KA.mono bJ _ hk,aC.W,by show k.hv+2+1<=11;omega,.inl ⟨by decide,by decide⟩,by omega,λav x fa H3 n3 aj ak w1 w2 ho aq bm=>?_⟩;have U:KW b Pt Pd H H3:=a6.trans aj;have au:=hw.tu U;have aI:=aG U;refine⟨_,rfl,_,rfl,kD,λst aD=>?_⟩;have sa:=Same.new aD (o:=.tup [.str "grow",.ref pt,av]);have ea:upd H3 st (.tup [.str "grow",.ref pt,av]) st=some (.tup [.str "grow",.ref pt,av]):=de;generalize upd H3 st (.tup [.str "grow",.ref pt,av])=Ha at sa ea ⊢;refine⟨_,rfl,tr,_,_,u1,rfl,rfl,c8.of (sa _ _ (au _ _ af)),rfl,_,rfl,tr,_,_,.ref l,rfl,rfl,c8.of (sa _ _ (au _ _ af)),rfl,_,rfl,fJ,λp2 aH=>?_⟩;have sb:=Same.new aH (o:=.lst [av]);have eb:upd Ha p2 (.lst [av]) p2=some (.lst [av]):=de;generalize upd Ha p2 (.lst [av])=Hb at sb eb ⊢;have hsz:201<=sizeLine:=by decide
 refine⟨l,p2,_,_,rfl,rfl,sb _ _ (sa _ _ aI),eb,by show _+1<=_;omega,λp3 aY=>?_⟩;have sc:=Same.new aY (o:=.lst (ws++[av]));have ec:upd Hb p3 (.lst (ws++[av])) p3=some (.lst (ws++[av])):=de;generalize upd Hb p3 (.lst (ws++[av]))=Hc at sc ec ⊢;refine⟨er,λt6 aP=>?_⟩;have sf:=Same.new aP (o:=.tup [u1,.ref p3]);have ef:upd Hc t6 (.tup [u1,.ref p3]) t6=some (.tup [u1,.ref p3]):=de;generalize upd Hc t6 (.tup [u1,.ref p3])=Hf at sf ef ⊢;refine⟨er,λrz aE=>?_⟩;have sg:=Same.new aE (o:=.tup [.ref st,.ref t6]);have bn:=sa.trans sb;have bK:=sc.trans (sf.trans sg);have sx:=bn.trans bK
 have ol:Own (upd Hf rz (.tup [.ref st,.ref t6])) (.ref p3) (.lst (as.snoc "" x)) (p3::(fq++fa)):=by
  unfold Own;exact⟨p3,_,_,rfl,sg _ _ (sf _ _ ec),rfl,df.snoc (ho.same sx) _ ((aL U).same sx)⟩
 have dn:∀{c},H2 c=none->H c=none:=λh=>WS.eX bj a6 h;refine qS rz st (.ref t6) "grow" x [] _ (g1++p3::(fq++fa)) fa _ n3 (U.trans (Kp.of sx)) (ak.same sx) (by omega) (by simp only[D.dep,Ds.dep];omega) de ⟨⟨pt,[av],sg _ _ (sf _ _ (sc _ _ (sb _ _ ea))),by rw[Q0m];exact sx _ _ (au _ _ aJ),.inr ⟨by decide +kernel,av,rfl,ho.same sx⟩⟩,bm.j6 aC.W aC.a⟩ (λc hc=>dn (aq c hc)) (.grow bm.fit) (ix (sg _ _ ef) ((aV U).same sx) ol) λz J=>?_;rcases List.mem_append.mp J with J|J
 . exact .inr (Q0f _ J)
 . rcases List.mem_cons.mp J with rfl|J
   . exact .inl (dn (WS.eX ak aj (fw bn aY)))
   . rcases List.mem_append.mp J with J|J
     . exact .inr (Q01 _ (Q04 _ J))
     . exact .inl (dn (aq _ J))
end
noncomputable def gT (key:Str) (κ:Key):List Ds->List V->List V
 |m::ms,v::vs=>if keyOf m key=κ then gT key κ ms vs else v::gT key κ ms vs
 |_,_=>[]
theorem zH {key:Str}{κ:Key}{m:Ds}{v:V}:∀{ms:List Ds}{vs:List V},vs.length=ms.length->gT key κ (ms++[m]) (vs++[v])=if keyOf m key=κ then gT key κ ms vs else gT key κ ms vs++[v]
 |[],[],_=>by
  show(if keyOf m key=κ then [] else [v])=if keyOf m key=κ then [] else []++[v]
  split <;> rfl
 |[],_::_,h=>by cases h
 |_::_,[],h=>by cases h
 |q::ms,u::vs,h=>by
  have J:=zH (key:=key) (κ:=κ) (m:=m) (v:=v) (Nat.succ.inj h);show(if keyOf q key=κ then gT key κ (ms++[m]) (vs++[v]) else u::gT key κ (ms++[m]) (vs++[v]))=_;rw[J];by_cases e:keyOf q key=κ
  . rw[if_pos e];show _=if keyOf m key=κ then(if keyOf q key=κ then _ else _) else(if keyOf q key=κ then _ else _)++[v]
    rw[if_pos e]
  . rw[if_neg e];show _=if keyOf m key=κ then(if keyOf q key=κ then _ else _) else(if keyOf q key=κ then _ else _)++[v]
    rw[if_neg e];split <;> rfl
theorem zI {key:Str}{κ:Key}:∀{ms:List Ds}{vs:List V},(gT key κ ms vs).length<=vs.length
 |[],vs=>Q06 _
 |_::_,[]=>Q06 _
 |q::ms,u::vs=>by
  have J:=zI (key:=key) (κ:=κ) (ms:=ms) (vs:=vs);show(if keyOf q key=κ then gT key κ ms vs else u::gT key κ ms vs).length<=vs.length+1;split
  . omega
  . rw[Q0e];omega
theorem rm {H:Hp}{key:Str}{κ:Key}:∀{ws:List V}{ms:List Ds}{L:List (List Addr)},dS H ws ms L->∃J,dS H (gT key κ ms ws) (ms.filter λm=>decide (keyOf m key≠κ)) J/\∀c∈J.flatten,c∈L.flatten
 |_,_,_,.nil=>⟨[],.nil,λc hc=>(nomatch hc)⟩
 |_,_,_,.cons (a:=v) (b:=m) (c:=f) (as:=vs) (bs:=ms) h t=>by
  obtain⟨J,h1,h2⟩:=rm (key:=key) (κ:=κ) t;by_cases e:keyOf m key=κ
  . refine⟨J,?_,λc hc=>by rw[Q0x];exact Q01 _ (h2 c hc)⟩;show dS H (if keyOf m key=κ then _ else _) _ _;rw[if_pos e,Q37 (by simp[e])];exact h1
  . refine⟨f::J,?_,λc hc=>?_⟩
    . show dS H (if keyOf m key=κ then _ else _) _ _;rw[if_neg e,List.filter_cons_of_pos (by simp[e])];exact .cons h h1
    . rw[Q0x] at hc ⊢;rcases List.mem_append.mp hc with z|z
      . exact Q0f _ z
      . exact Q01 _ (h2 c z)
theorem zJ {key:Str}{l1 l2:List Ds}{m:Ds}(nd:((l1++m::l2).map λr=>keyOf r key).Nodup):(l1++m::l2).filter (λr=>decide (keyOf r key≠keyOf m key))=l1++l2:=by
 rw[Q0k,Q0o] at nd;obtain⟨_,L,U⟩:=List.nodup_append.mp nd;obtain⟨Y,_⟩:=List.nodup_cons.mp L;rw[List.filter_append,Q37 (by simp)];congr 1
 . refine List.filter_eq_self.mpr λr J=>decide_eq_true ?_;exact U _ (List.mem_map.mpr ⟨r,J,rfl⟩) _ Q0a
 . refine List.filter_eq_self.mpr λr J=>decide_eq_true λz=>Y ?_;rw[<-z];exact List.mem_map.mpr ⟨r,J,rfl⟩
theorem zK {key:Str}{ms:List Ds}{κ:Key}(h:κ ∉ ms.map λr=>keyOf r key):ms.filter (λr=>decide (keyOf r key≠κ))=ms:=
 List.filter_eq_self.mpr λr J=>decide_eq_true λz=>h (by rw[<-z];exact List.mem_map.mpr ⟨r,J,rfl⟩)
theorem zL {K:W.Frag}{i:Nat}{a:Addr}{ws:List V}{ms:List Ds}{tt:TT}{σ:L2.St}{H:Hp}{Q:VK}{key:Str}{κ:Key}(hi:σ[i]? =some (some (.ref a)))(U:H a=some (.lst ws))(hl:ws.length=ms.length)(hm:ws.length<=100)
 (ht:∀(j:Nat) v m,ws[j]? =some v->ms[j]? =some m->∀R:Bool->Hp->Prop,R (decide (keyOf m key≠κ)) H->tt (some v::σ) H R) (q:∀p,H p=none->Q (.ref p) (upd H p (.lst (gT key κ ms ws)))):
 ls 1 (pM K (dE i)) (dU 0) tt (dE 0) σ H Q:=by
 refine⟨_,hi,a,rfl,⟨_,dg.of U⟩,λj k ys H'=>k=ws.length - j/\j<=ws.length/\H=H'/\ys=gT key κ (ms.take j) (ws.take j),⟨ws.length,by omega,Q06 _,rfl,rfl⟩,?_⟩;rintro j k ys _ ⟨rfl,hj,rfl,rfl⟩;by_cases J:j<ws.length
 . have hb:=zI (key:=key) (κ:=κ) (ms:=ms.take j) (vs:=ws.take j);rw[Q0n] at hb;refine .inr ⟨⟨ws,ws[j],dg.of U,Q05 J⟩,fX (by omega),λx H2 y=>?_⟩;obtain⟨rfl,y⟩:=y;have Y:=y ws (dg.of U);have L:ms[j]? =some (ms[j]'(by omega)):=Q05 (by omega);have e:=zH (key:=key) (κ:=κ) (m:=ms[j]'(by omega)) (v:=x) (ms:=ms.take j) (vs:=ws.take j) (by rw[Q0n,Q0n];omega);have e1:ms.take (j+1)=ms.take j++[ms[j]'(by omega)]:=by rw[Q1i,L];rfl
   have e2:ws.take (j+1)=ws.take j++[x]:=by rw[Q1i,Y];rfl
   refine⟨rfl,ht j x _ Y L _ ?_⟩;by_cases hk:keyOf (ms[j]'(by omega)) key=κ
   . rw[if_neg (by simp[hk])];refine⟨ws.length - (j+1),by omega,rfl,J,rfl,?_⟩;rw[e1,e2,e,if_pos hk]
   . rw[if_pos (by simp[hk])];refine⟨x,rfl,ws.length - (j+1),by omega,rfl,J,rfl,?_⟩;rw[e1,e2,e,if_neg hk]
 . have ej:j=ws.length:=by omega
   subst ej;rw[Q1w,show ms.take ws.length=ms by rw[hl,Q1w]];exact .inl ⟨⟨ws,dg.of U,Q00 _⟩,q⟩
theorem F1 {key by_:Str}{l ms:List Ds}(h:l.Perm ms)(nd:(ms.map λm=>keyOf m key).Nodup):gA key by_ l=gA key by_ ms:=
 xF ((iC key by_ l).trans h) (lC key by_ l) nd
theorem rn {α:Type}:∀{l:List α}{i:Nat}{x:α},l[i]? =some x->∃l1 l2,l=l1++x::l2/\l1.length=i
 |[],i,x,h=>by simp at h
 |y::r,0,x,h=>by cases h;exact⟨[],r,rfl,rfl⟩
 |y::r,i+1,x,h=>by
  obtain⟨l1,l2,e,hl⟩:=rn (l:=r) (i:=i) h;exact⟨y::l1,l2,by rw[e];rfl,by rw[Q0e,hl]⟩
section
variable {P:Program}{w:World}{K:W.Frag}{mg:Str->Option Value}{base:Heap}
variable {Pt Pd Pi:Addr}
theorem zM:d5 XA XB (dD (top 46)):=eL
theorem F2 {c:Addr}(N L:Nat)(hL:17<=L)(T:Tb mg)(ae:Dn K mg "_law_deed_rows" fP (top 46) af U)(bK:U.code=.ref c)(bL:W.CodeHd base c Pd)(bM:BM mg base)(aG:Dn K mg "_law_next" dQ (top 31) aH aI)(aJ:c_ P w K mg base da (1) aH aI dQ (gi K))(ak:Dn K mg "_law_deed_in" kJ (top 45) al am)(an:c_ P w K mg base da (L) al am kJ (rl K Pt Pd Pi N))(ar:Dn K mg "_law_value" fB (top 41) au aw)(ax:c_ P w K mg base da (11+6) au aw fB (iW K Pt Pd Pi 11))(J:Dn K mg "_law_rank" ja (top 39) aK aL)(ac:c_ P w K mg base da (1) aK aL ja (mO)):c_ P w K mg base da (L+1) af U fP (zF K Pt Pd Pi (N+1)):=by
 refine ae.F.qq bK zM (λvs H Q E h=>?_) (λA outer s H vs Q E hr h=>?_)
 . obtain⟨a,b,ns,n,kv,key,by_,fs,v,d,fp,pt,bN,rfl,_⟩:=h;rfl
 obtain⟨a,b,ns,n,kv,key,by_,fs,v,d,fp,pt,bN,rfl,hw,hk,bc,hv,bO,a5,bd,cg,be,ci,hn,qS⟩:=h;have nd:=zM.nd;have hu:=qa hr;have bf:=bc.FV;have hc:=bc.c;have hh:=bc.h;simp only[Kd.nn,Kd.cB,Kd.hv] at hc hh;have hW:=bc.W;unfold Kd.W at hW;obtain⟨cQ,cR,cS,ay,bg⟩:=hW;have cJ:=a5;unfold du at a5;obtain⟨ms,rfl,aa,cL,bh⟩:=a5;have bP:=hk;unfold KA at bP;obtain⟨pk,pb,xs,rfl,ah,bQ,bR⟩:=bP;have cj:=hv;unfold Own at hv;obtain⟨l,ws,fq,rfl,hl,rfl,cm⟩:=hv;obtain⟨fl,aU,rfl⟩:=cm.rows;obtain⟨a6,cM⟩:=A3.len aU;have cN:=bd;unfold D.SL at bd;rw[iu] at bd;simp only[D.dep] at cg ci hn;have bu:b ∉ fl.flatten:=λz=>bO (Q04 _ z);have cn:∀m∈ms,m.dep+1<=(d3 ms).dep:=λm hm=>kM m hm;have br:∀{H':Hp},KW b Pt Pd H H'->H' l=some (.lst ws):=λkw=>hw.jg kw (Own.alive _ cj) bO l Q0a _ hl;have ab:∀{H':Hp},KW b Pt Pd H H'->dS H' ws ms fl:=λkw=>dS.keep (hw.tu kw) aU (hw.jg kw (dS.mu aU) bu)
 have kO:∀{H':Hp} {bv:List V} {bi:List Ds} {bS:List (List Addr)} {j:Nat} {v:V} {m:Ds},dS H' bv bi bS->(∀m∈bi,dB fs m)->bv[j]? =some v->bi[j]? =some m->∃rr,v=.ref rr/\eU H' rr (.str key) (some (kV (keyOf m key))):=λ{H' bv bi bS j v m} hR hF h1 h2=>by
  have hj:=(List.getElem?_eq_some_iff.mp h1).1;have h:=A3.at (a0:=V.non) (b0:=Ds.nil) (c0:=[]) hR j hj;rw[Q0j,h1,Q0j,h2] at h;unfold Own at h;obtain⟨rr,kvs,fq,e,co,_,a1⟩:=h;have a1:dv H' kvs m fq:=a1;refine⟨rr,e,?_⟩;have:=eU.k (k:=Sum.inr key) co;rw[a1.key (hF m (Q0w h2)) ay] at this;exact this
 have bT:∀a b:Key,nQ (kV a) (kV b)=true:=λa b=>by cases a <;> cases b <;> rfl
 have bU:∀a b:Key,(!decide (kV a=kV b))=decide (a≠b):=λa b=>by
  by_cases e:a=b
  . simp[e]
  . have:kV a≠kV b:=λz=>e (yA z);simp[e,this]
 refine⟨_,(c9 (dI 5 nd (dq aJ hr aG (a_ (pv 0) (a_ (pv 1) b_))))
  (c9 (dA (PW.pt (gF (dw jO (dG fC (by rfl) T.fv PySem.boot_len (a_ (pv 3) b_)) cZ (di _)) (gW (dw i4 (dm eE (pv 5) cZ) cZ (di _))))) (c9 (i_ 6 nd (gh (pv 3) (dm eE (dm f_ (pv 5) cZ) (dG fC (by rfl) T.fv PySem.boot_len (a_ (pv 3) b_)))))
  (c9 (lu (i:=7) nd rfl fk (g:=(dU 0)) (tt:=(iQ (dY _ (jR (dE 0) (dY (gO K) (dE 3) (tC (.int 1)))) (jR (dE 7) (dY (gO K) (dE 3) (tC (.int 1))))))) (te:=(dE 0)) (own:=["_law_other"]) rfl (fN (N:=XA) (sc:=dD (top 46))) (jK (pv 3)) (λ_ _ _ _ _=>(en (i:=0) (show(XO:List Str).Nodup by decide +kernel) rfl (Or.inl rfl) (.inr rfl))) (λ_ _ _ _ _=>(qe (dw ij (fH hu (pv 0) (dj (pv 3) cZ) (λ_ _=>rfl)) (fH hu (pv 7) (dj (pv 3) cZ) (λ_ _=>rfl)) (di _)))) (λ_ _ _ _ _=>(pv 0)))
  (c9 (dA (dw dX (dm eE (pv 5) cZ) cZ (di _)) (dc (dk (dW (a_ (dW (a_ dO (a_ (pv 4) (a_ (fH hu (pv 6) (dj (pv 2) cZ) (λ_ _=>rfl)) b_)))) (a_ (pv 7) b_))))) dz)
  (c9 (dI 8 nd (dq an hr ak (a_ (pv 0) (a_ (pv 1) (a_ (dj (pv 2) cZ) (a_ (dj (pv 2) cZ) (a_ (pv 6) (a_ (dm ng (pv 4) (dW (a_ (fH hu (pv 6) (dj (pv 2) cZ) (λ_ _=>rfl)) b_))) b_))))))))
  (dc (dA (dw gY (pv 8) el (di _)) (dc (dk (dW (a_ (dj (pv 8) cZ) (a_ (o5 (te:=(fT _ _ _ (dJ (dE 3) (dJ (dE 0) fc)))) (x:="_law_one") (N':=["","","_law_kind_here","","","","","","",""]) rfl T.mF boot_sorted hr rfl rfl bL bM (ju.of (N:=XA) (sc:=dD (top 46)) rfl rfl rfl rfl rfl (by decide +kernel)) rfl (λ_ _ _ _ _=>rfl) (dm i6 (pv 7) (fQ (a_ (dj (pv 8) cZ) b_))) (λ_ _ _ _ _=>(ml ac (eV.deeper (k:=1) (eV.in1 (k:=2) (eV.in1 (k:=3) (hr.mono (by omega)))) _) rfl J.m J.F.kp J.b .nil mn (a_ (pv 3) (a_ (pv 0) b_))))) b_))))) dz)))))) dz)
  (c9 (i_ 9 nd (dq ax hr ar (a_ (pv 0) (a_ (pv 1) (a_ (dW (a_ dO (a_ (dj (pv 2) cZ) b_))) (a_ cZ b_))))))
  (c9 (lu (i:=7) nd rfl fk (g:=(dU 0)) (tt:=(iQ (dY _ (jR (dE 0) (dY (gO K) (dE 3) (tC (.int 1)))) (jR (dE 10) (dY (gO K) (dE 3) (tC (.int 1))))))) (te:=(dE 0)) (own:=["_law_other"]) rfl (fN (N:=XA) (sc:=dD (top 46))) (jK (pv 3)) (λ_ _ _ _ _=>(en (i:=0) (show(XO:List Str).Nodup by decide +kernel) rfl (Or.inl rfl) (.inr rfl))) (λ_ _ _ _ _=>(qe (dw ij (fH hu (pv 0) (dj (pv 3) cZ) (λ_ _=>rfl)) (fH hu (pv 10) (dj (pv 3) cZ) (λ_ _=>rfl)) (di _)))) (λ_ _ _ _ _=>(pv 0)))
  (c9 (dA (dw i4 (dG fC (by rfl) T.fv PySem.boot_len (a_ (pv 7) b_)) (dG fC (by rfl) T.fv PySem.boot_len (a_ (pv 3) b_)) (di _)) (dc (dk (dW (a_ (dW (a_ dO (a_ (pv 4) (a_ (fH hu (pv 9) (dj (pv 2) cZ) (λ_ _=>rfl)) b_)))) (a_ (pv 7) b_))))) dz)
  (dc (dk (dW (a_ (dW (a_ dO (a_ (pv 4) (a_ (pv 9) b_)))) (a_ (o5 (te:=(fT _ _ _ (dJ (dE 3) (dJ (dE 0) fc)))) (x:="_law_one") (N':=["","","_law_kind_here","","","","","","",""]) rfl T.mF boot_sorted hr rfl rfl bL bM (ju.of (N:=XA) (sc:=dD (top 46)) rfl rfl rfl rfl rfl (by decide +kernel)) rfl (λ_ _ _ _ _=>rfl) (dm i6 (pv 7) (fQ (a_ (pv 9) b_))) (λ_ _ _ _ _=>(ml ac (eV.deeper (k:=1) (eV.in1 (k:=2) (eV.in1 (k:=3) (hr.mono (by omega)))) _) rfl J.m J.F.kp J.b .nil mn (a_ (pv 3) (a_ (pv 0) b_))))) b_)))))))))),?_⟩
 ac_rfl
 refine⟨_,rfl,_,rfl,a,b,ns,n,rfl,hw.g,by omega,λr H1 r0 r1 s1 h1=>?_⟩;have aN:=hw.sb s1 h1 (by omega);have aA:KW b Pt Pd H H1:=KW.sb s1;have bV:=hw.tu aA;have bj:=br aA;dsimp only[dU];refine iF (A:=iA _ _ _) (λcp H'=>∃(x6 x7 x8:Option V) (n':Int),cp=[some (.ref a),some (.ref b),some (.ref pk),some (.ref l),some (.ref pt),some (.int r),x6,x7,x8,none]/\KW b Pt Pd H H'/\WS K Pt Pd Pi a b ns H' n'/\n<=n'/\n'<=n+1+((fs.names.length * fs.nn+1:Nat):Int)) ?_ (λhB=>?_);rotate_left
 . refine⟨_,rfl,l,_,rfl,.inl (dg.of bj),_,_,rfl,rfl,_,rfl,eF (λc1=>?_) (λ_=>dy (hB _ _ ⟨_,_,_,n+1,rfl,aA,aN,by omega,by omega⟩))⟩;refine⟨_,rfl,_,_,rfl,rfl,(by show(0:Int)<4;decide),_,_,rfl,rfl,_,rfl,eF (λ_=>?_) (λ_=>hB _ _ ⟨_,_,_,n+1,rfl,aA,aN,by omega,by omega⟩)⟩;have cO:0<ws.length:=by have:=of_decide_eq_true c1;omega
   obtain⟨j,hj⟩:∃j:Nat,r / 4 % (ws.length:Int)=(j:Int):=⟨(r / 4 % (ws.length:Int)).toNat,by have:=Q0s (r / 4) (show(ws.length:Int)≠0 by omega);omega⟩;have cq:j<ws.length:=by have:=Q0u (r / 4) (show(0:Int)<(ws.length:Int) by omega);omega
   have a2:=Q05 cq;have a3:ms[j]? =some (ms[j]'(by omega)):=Q05 (by omega);generalize ws[j]=wv at a2;generalize ms[j]'(by omega)=Y at a3;have ao:Y∈ms:=Q0w a3;obtain⟨l1,l2,rfl,cd⟩:=rn a3;subst cd;obtain⟨rr,rfl,cr⟩:=kO (ab aA) aa a2 a3;refine⟨_,rfl,_,rfl,_,_,rfl,rfl,⟨by decide,by decide⟩,_,rfl,l,_,rfl,.inl (dg.of bj),_,_,rfl,rfl,(by show(0:Int)<(ws.length:Int);omega),l,ws,_,.ref rr,rfl,rfl,dg.of bj,(by show fW ws (r / 4 % (ws.length:Int))=_;rw[hj];exact fA a2),?_⟩;dsimp only[dU];refine lT ?_;refine zL (i:=3) (a:=l) (ws:=ws) (ms:=l1++Y::l2) (key:=key) (κ:=keyOf Y key) rfl bj a6 (by omega) (λi v m h1 h2 R hR=>?_) λp7 ai=>?_
   . obtain⟨rv,rfl,gv⟩:=kO (ab aA) aa h1 h2;refine⟨_,rfl,_,rfl,pk,_,_,_,rfl,rfl,c8.of (bV _ _ ah),rfl,rv,_,rfl,gv,_,rfl,_,rfl,pk,_,_,_,rfl,rfl,c8.of (bV _ _ ah),rfl,rr,_,rfl,cr,bT _ _,_,rfl,?_⟩;rw[bU];exact hR
   obtain⟨aM,ag,aO⟩:=rm (key:=key) (κ:=keyOf Y key) (ab aA);rw[zJ bh] at ag;generalize gT key (keyOf Y key) (l1++Y::l2) ws=wk at ag ⊢;have aX:=(A3.len ag).1;rw[Q08] at aX;have cP:ws.length=l1.length+(l2.length+1):=by rw[a6,Q08,Q0e]
   have s7:=Same.new ai (o:=.lst wk);have e7:upd H1 p7 (.lst wk) p7=some (.lst wk):=de;generalize upd H1 p7 (.lst wk)=H7 at s7 e7 ⊢;have aP:=aN.same s7;have aB:KW b Pt Pd H H7:=aA.trans (Kp.of s7);have aC:=hw.tu aB;have cT:∀{c},H7 c=none->H c=none:=λh=>WS.eX aP aB h;obtain⟨cU,e2,bW⟩:=kO (ab aB) aa a2 a3
   cases e2;dsimp only[dU];refine⟨_,rfl,_,_,rfl,rfl,(by show(0:Int)<4;decide),rfl,_,rfl,eF (λ_=>?_) (λ_=>?_)⟩
   . -- cut
     refine⟨_,rfl,_,rfl,_,rfl,pk,_,_,_,rfl,rfl,c8.of (aC _ _ ah),rfl,rr,_,rfl,bW,kD,λst aQ=>?_⟩;have sa:=Same.new aQ (o:=.tup [.str "cut",.ref pt,kV (keyOf Y key)]);have ea:upd H7 st (.tup [.str "cut",.ref pt,kV (keyOf Y key)]) st=some (.tup [.str "cut",.ref pt,kV (keyOf Y key)]):=de;generalize upd H7 st (.tup [.str "cut",.ref pt,kV (keyOf Y key)])=Ha at sa ea ⊢;refine⟨_,rfl,er,λrz aT=>?_⟩;have sb:=Same.new aT (o:=.tup [.ref st,.ref p7]);have sx:=sa.trans sb;refine qS rz st (.ref p7) "cut" (fL (keyOf Y key)) [] (.lst (d3 (l1++l2))) (p7::aM.flatten) [] _ (n+1) (aB.trans (Kp.of sx)) (aP.same sx) (by omega) (by simp only[D.dep];omega) de ⟨⟨pt,[_],sb _ _ ea,by rw[Q0m];exact sx _ _ (aC _ _ be),.inr ⟨by decide +kernel,_,rfl,o3 _⟩⟩,ni _⟩ (λc hc=>(nomatch hc)) .cut (by unfold Own;exact⟨p7,wk,_,rfl,sx _ _ e7,rfl,(ag.own.same s7).same sx⟩) λz hz=>?_;rcases List.mem_cons.mp hz with rfl|hz
     . exact .inl (WS.eX aN aA ai)
     . exact .inr (Q04 _ (aO _ hz))
   obtain⟨rv,rf,bX,cu,bY,_⟩:=qW (ab aB);rw[a2] at bX
   cases bX;have cw:b ∉ rf:=λz=>bu (bY b z);have cV:=cn Y ao;refine⟨_,rfl,_,rfl,_,rfl,pk,_,_,_,rfl,rfl,c8.of (aC _ _ ah),rfl,_,rfl,pk,_,_,_,rfl,rfl,c8.of (aC _ _ ah),rfl,_,rfl,_,rfl,_,rfl,_,rfl,pk,_,_,_,rfl,rfl,c8.of (aC _ _ ah),rfl,rr,_,rfl,bW,fJ,λtq cx=>?_⟩;have sT:=Same.new cx (o:=.tup [kV (keyOf Y key)]);have eT:upd H7 tq (.tup [kV (keyOf Y key)]) tq=some (.tup [kV (keyOf Y key)]):=de;generalize upd H7 tq (.tup [kV (keyOf Y key)])=HT at sT eT ⊢;refine nj (sT _ _ (aC _ _ be)) eT (by omega) λq HC sC eC=>?_;have sA:=sT.trans sC;have bm:=aP.same sA;have bn:KW b Pt Pd H HC:=aB.trans (Kp.of sA);have bZ:=hw.tu bn;have dn:∀{c},HC c=none->H c=none:=λh=>WS.eX bm bn h;have fm:=aa Y ao;refine⟨a,b,ns,n+1,pb,xs,fs,key,.ref rr,Y,rf,q,bN++[keyOf Y key],rfl,bm,bZ _ _ bQ,FA.mono bZ fs bR,bf,cu.same sA,cw,fm,j4 bd.2 Y ao,by omega,eC,by rw[Q08];show _+1+_+1<=_;omega,by omega,?_,?_⟩
   . intro rq st v' deed x p d' cy fa H3 n3 aD aj w1 w2 b1 aQ ap hS ho cz;obtain⟨nm,kf,e,e',p',rfl,b2,bw,he,b3,rfl⟩:=hS;have aE:KW b Pt Pd H H3:=bn.trans aD;have aY:=hw.tu aE
     have cW:∀c∈p7::aM.flatten,H1 c=none\/c∈fl.flatten:=λc hc=>by
      rcases List.mem_cons.mp hc with rfl|hc
      . exact .inl ai
      . exact .inr (aO c hc)
     have cA:b ∉ aM.flatten:=λz=>bu (aO b z);have bt:=dS.keep (Tu.of s7) ag λc _ o e=>s7 _ _ e;have a7:KW b Pt Pd H7 H3:=(Kp.of sA).trans aD
     have ce:H3 p7=some (.lst wk):=by
      refine a7 p7 _ (λz=>?_) e7;rcases z with z|z|z
      . rw[z,aN.g.at_] at ai;cases ai
      . obtain⟨ps,hP⟩:=aN.t.tab;rw[z,hP] at ai;cases ai
      . obtain⟨ps,hP⟩:=aN.d.tab;rw[z,hP] at ai;cases ai
     have cf:dS H3 wk (l1++l2) aM:=dS.keep (aP.tu a7) bt (aP.jg a7 (dS.mu bt) cA);refine⟨_,rfl,rfl,_,rfl,dM ?_⟩;refine⟨_,rfl,rq,_,_,.ref st,rfl,rfl,c8.of b1,rfl,_,rfl,_,rfl,rq,_,_,v',rfl,rfl,c8.of b1,rfl,fJ,λp2 bx=>?_⟩;have sb:=Same.new bx (o:=.lst [v']);have eb:upd H3 p2 (.lst [v']) p2=some (.lst [v']):=de;generalize upd H3 p2 (.lst [v'])=Hb at sb eb ⊢;have hsz:201<=sizeLine:=by decide
     refine⟨p7,p2,_,_,rfl,rfl,sb _ _ ce,eb,by show _+1<=_;omega,λp3 bz=>?_⟩;have sc:=Same.new bz (o:=.lst (wk++[v']));have ec:upd Hb p3 (.lst (wk++[v'])) p3=some (.lst (wk++[v'])):=de;generalize upd Hb p3 (.lst (wk++[v']))=Hc at sc ec ⊢;have sx:=sb.trans sc;have aZ:=aj.same sx;obtain⟨ps,hX,hY⟩:=aZ.d.pick (.inl rfl);have aV:dS Hc (wk++[v']) (l1++l2++[Y.set nm e']) (aM++[cy]):=A3.snoc (R:=λv m f=>Own Hc v (.dct m) f) (ho.same sx) (dS.keep (Tu.of sx) cf λc _ o e=>sx _ _ e)
     have cC:(l1++Y.set nm e'::l2).map (λr=>keyOf r key)=(l1++Y::l2).map (λr=>keyOf r key):=by
      rw[Q0k,Q0k,Q0o,Q0o,qQ (Ne.symm b2)]
     have b4:(l1++l2++[Y.set nm e']).Perm (l1++Y.set nm e'::l2):=by
      rw[Q0r];exact List.Perm.append_left _ List.perm_append_comm
     have bo:((l1++Y.set nm e'::l2).map λr=>keyOf r key).Nodup:=by rw[cC];exact bh
     obtain⟨e0,b5,cD⟩:=dB.get fm bw;rw[he] at b5
     cases b5
     have aq:∀m∈l1++l2++[Y.set nm e'],dB fs m:=λm hm=>by
      rcases List.mem_append.mp hm with z|z
      . rcases List.mem_append.mp z with z|z
        . exact aa m (Q0f _ z)
        . exact aa m (Q01 _ (Q04 _ z))
      . rw[List.mem_singleton.mp z];exact dB.set fm bw (b3.fit cD)
     refine o6 (rk:=iU key by_) (dg.of ec) aV (by rw[Q08];show _+1<64;omega) hX rfl (sx _ _ (aY _ _ ah)) aq (λrr kvs m fq H' Q' E' h1 h2 h3 h4 h5=>⟨pk,rr,pb,key,by_,fs,kvs,m,fq,rfl,h1,h2,h3,h4,ay,bg,h5⟩) _ (by simp) (λm hm=>rh (aq m hm) ay bg) (λx y h=>qT x y h) ((b4.map _).nodup_iff.mpr bo) λDq bA a8 c' H8 kp bB hD bC hR aW=>?_;rw[F1 b4 bo] at hR;have bD:=aZ.kd kp (hY c' H8 kp bB);have bE:KW b Pt Pd H H8:=aE.trans ((Kp.of sx).trans (KW.kd kp));have az:KW b Pt Pd H3 H8:=(Kp.of sx).trans (KW.kd kp);refine⟨er,λrz aT=>?_⟩;have sg:=Same.new aT (o:=.tup [.ref st,.ref Dq]);have a9:b ∉ fa:=λz=>by have:=dn (ap b z);rw[hw.g.at_] at this;cases this
     have ba:∀c∈fa,∀o,H3 c=some o->H8 c=some o:=λc hc o eo=>by
      refine az c o (λz=>?_) eo;have bp:=ap c hc;rcases z with z|z|z
      . exact a9 (z ▸ hc)
      . obtain⟨ps,hP⟩:=bm.t.tab;rw[z,hP] at bp;cases bp
      . obtain⟨ps,hP⟩:=bm.d.tab;rw[z,hP] at bp;cases bp
     refine qS rz st (.ref Dq) deed x (keyOf Y key:: .inr nm::p') _ (Dq::a8.flatten) fa _ n3 (bE.trans (Kp.of sg)) (bD.same sg) (by omega) (by simp only[D.dep];omega) de ?_ (λc hc=>dn (ap c hc)) (.row b2 bw he b3) (by unfold Own;exact⟨Dq,bA,_,rfl,sg _ _ bC,rfl,hR.own.same sg⟩) λz hz=>?_
     . have:=(aQ.keep (aj.tu az) ba).same sg;rw[Q0r] at this;exact this
     . rcases List.mem_cons.mp hz with rfl|hz
       . exact .inl (dn (WS.eX aj aD (fw sx hD)))
       . have hm:=(mE aW).mem_iff.mp hz;rw[Q1y] at hm;rcases List.mem_append.mp hm with hm|hm
         . exact .inr (Q04 _ (aO _ hm))
         . rw[Q0x,Q1z,Q0m] at hm;rcases cz z hm with hm|hm
           . exact .inl (dn hm)
           . exact .inr (Q04 _ (bY _ hm))
   . intro H3 n3 aD aj w1 w2;exact⟨_,rfl,rfl,_,rfl,dy (hB _ _ ⟨_,_,_,n3,rfl,bn.trans aD,aj,by omega,by omega⟩)⟩
 intro _ H2 zq;obtain⟨x6,x7,x8,n2,rfl,bF,b6,y1,y2⟩:=zq;have cE:=hw.tu bF;have cX:∀{c},H2 c=none->H c=none:=λh=>WS.eX b6 bF h;refine⟨_,rfl,_,rfl,_,rfl,pk,_,_,_,rfl,rfl,c8.of (cE _ _ ah),rfl,er,λt ht=>?_⟩;have sN:=Same.new ht (o:=.tup [.str "record",.ref pb]);have eN:upd H2 t (.tup [.str "record",.ref pb]) t=some (.tup [.str "record",.ref pb]):=de;generalize upd H2 t (.tup [.str "record",.ref pb])=HN at sN eN ⊢;have b7:=b6.same sN;have bG:KW b Pt Pd H HN:=bF.trans (Kp.of sN);have b8:=hw.tu bG;have a4:∀{c},HN c=none->H c=none:=λh=>WS.eX b7 bG h;refine⟨a,b,ns,n2,.ref t,.eQ fs,1,1,rfl,b7,by unfold KA;exact⟨t,pb,xs,rfl,eN,b8 _ _ bQ,FA.mono b8 fs bR⟩,bf.W,by show fs.hv+1<=11;omega,.inl ⟨by decide,by decide⟩,by show n2+(fs.cB:Nat)<=_;omega,λav x fa H3 n3 aD aj w1 w2 ho ap b9=>?_⟩;have w2:n3<=n2+(fs.cB:Nat):=w2;have aE:KW b Pt Pd H H3:=bG.trans aD;have aY:=hw.tu aE;have ca:=br aE;obtain⟨mf,rfl,bH⟩:∃m',x=.dct m'/\dB fs m':=by have:=b9.fit;unfold du at this;exact this
 have bI:=ho;unfold Own at ho;obtain⟨ra,kvs,ff,rfl,cF,rfl,a1⟩:=ho
 have gf:∀{H':Hp},Same H3 H'->eU H' ra (.str key) (some (kV (keyOf mf key))):=λsm=>by
  have:=eU.k (k:=Sum.inr key) (sm _ _ cF);rw[a1.key bH ay] at this;exact this
 dsimp only[dU];refine lT ?_;refine zL (i:=3) (a:=l) (ws:=ws) (ms:=ms) (key:=key) (κ:=keyOf mf key) rfl ca a6 (by omega) (λi v m h1 h2 R hR=>?_) λp7 ai=>?_
 . obtain⟨rv,rfl,gv⟩:=kO (ab aE) aa h1 h2;refine⟨_,rfl,_,rfl,pk,_,_,_,rfl,rfl,c8.of (aY _ _ ah),rfl,rv,_,rfl,gv,_,rfl,_,rfl,pk,_,_,_,rfl,rfl,c8.of (aY _ _ ah),rfl,ra,_,rfl,gf (Same.refl _),bT _ _,_,rfl,?_⟩;rw[bU];exact hR
 obtain⟨aM,ag,aO⟩:=rm (key:=key) (κ:=keyOf mf key) (ab aE);have aX:=(A3.len ag).1;generalize gT key (keyOf mf key) ms ws=wk at ag aX ⊢;have s7:=Same.new ai (o:=.lst wk);have e7:upd H3 p7 (.lst wk) p7=some (.lst wk):=de;generalize upd H3 p7 (.lst wk)=H7 at s7 e7 ⊢;have aP:=aj.same s7;have aB:KW b Pt Pd H H7:=aE.trans (Kp.of s7);have aC:=hw.tu aB;dsimp only[dU];refine⟨_,rfl,p7,_,rfl,.inl (dg.of e7),_,rfl,l,_,rfl,.inl (dg.of (s7 _ _ ca)),_,_,rfl,rfl,_,rfl,eF (λcc=>?_) (λcc=>?_)⟩
 . -- cY key is there: cut
   have cG:wk.length<ws.length:=by have:=of_decide_eq_true cc;omega
   have bJ:keyOf mf key∈ms.map λr=>keyOf r key:=by
    refine Classical.byContradiction λz=>?_;rw[zK z] at aX;omega
   obtain⟨Y,ao,bq⟩:=List.mem_map.mp bJ;obtain⟨i,hi,ei⟩:=Q19 ao;have cH:ms[i]? =some Y:=by rw[Q05 hi,ei]
   obtain⟨l1,l2,rfl,_⟩:=rn cH;rw[<-bq,zJ bh] at ag;refine⟨_,rfl,_,rfl,_,rfl,pk,_,_,_,rfl,rfl,c8.of (aC _ _ ah),rfl,ra,_,rfl,gf s7,kD,λst aQ=>?_⟩;rw[<-bq];have sa:=Same.new aQ (o:=.tup [.str "cut",.ref pt,kV (keyOf Y key)]);have ea:upd H7 st (.tup [.str "cut",.ref pt,kV (keyOf Y key)]) st=some (.tup [.str "cut",.ref pt,kV (keyOf Y key)]):=de;generalize upd H7 st (.tup [.str "cut",.ref pt,kV (keyOf Y key)])=Ha at sa ea ⊢;refine⟨_,rfl,er,λrz aT=>?_⟩;have sb:=Same.new aT (o:=.tup [.ref st,.ref p7]);have sx:=sa.trans sb;refine qS rz st (.ref p7) "cut" (fL (keyOf Y key)) [] (.lst (d3 (l1++l2))) (p7::aM.flatten) [] _ n3 (aB.trans (Kp.of sx)) (aP.same sx) (by omega) (by simp only[D.dep];omega) de ⟨⟨pt,[_],sb _ _ ea,by rw[Q0m];exact sx _ _ (aC _ _ be),.inr ⟨by decide +kernel,_,rfl,o3 _⟩⟩,ni _⟩ (λc hc=>(nomatch hc)) .cut (by unfold Own;exact⟨p7,wk,_,rfl,sx _ _ e7,rfl,(ag.own.same s7).same sx⟩) λz hz=>?_;rcases List.mem_cons.mp hz with rfl|hz
   . exact .inl (a4 (WS.eX aj aD ai))
   . exact .inr (Q04 _ (aO _ hz))
 . -- add
   have bb:keyOf mf key ∉ ms.map λr=>keyOf r key:=λbJ=>by
    obtain⟨Y,ao,bq⟩:=List.mem_map.mp bJ
    have cG:(ms.filter λm=>decide (keyOf m key≠keyOf mf key)).length<ms.length:=by
     refine List.length_filter_lt_length_iff_exists.mpr ⟨Y,ao,?_⟩;simp[bq]
    exact cc (decide_eq_true (by omega))
   rw[zK bb] at ag;refine⟨_,rfl,_,rfl,kD,λst aQ=>?_⟩;have sa:=Same.new aQ (o:=.tup [.str "add",.ref pt,.ref ra]);have ea:upd H7 st (.tup [.str "add",.ref pt,.ref ra]) st=some (.tup [.str "add",.ref pt,.ref ra]):=de;generalize upd H7 st (.tup [.str "add",.ref pt,.ref ra])=Ha at sa ea ⊢;refine⟨_,rfl,_,rfl,fJ,λp2 bx=>?_⟩;have sb:=Same.new bx (o:=.lst [.ref ra]);have eb:upd Ha p2 (.lst [.ref ra]) p2=some (.lst [.ref ra]):=de;generalize upd Ha p2 (.lst [.ref ra])=Hb at sb eb ⊢;have hsz:201<=sizeLine:=by decide
   have cK:=(A3.len ag).1;refine⟨p7,p2,_,_,rfl,rfl,sb _ _ (sa _ _ e7),eb,by show _+1<=_;omega,λp3 bz=>?_⟩;have sc:=Same.new bz (o:=.lst (wk++[.ref ra]));have ec:upd Hb p3 (.lst (wk++[.ref ra])) p3=some (.lst (wk++[.ref ra])):=de;generalize upd Hb p3 (.lst (wk++[.ref ra]))=Hc at sc ec ⊢;have cI:=sa.trans (sb.trans sc);have sx:=s7.trans cI;have aZ:=aj.same sx;obtain⟨ps,hX,hY⟩:=aZ.d.pick (.inr rfl);have aV:dS Hc (wk++[.ref ra]) (ms++[mf]) (aM++[ra::ff]):=A3.snoc (R:=λv m f=>Own Hc v (.dct m) f) (bI.same sx) (dS.keep (Tu.of sx) ag λc _ o e=>sx _ _ e)
   have aq:∀m∈ms++[mf],dB fs m:=λm hm=>by
    rcases List.mem_append.mp hm with z|z
    . exact aa m z
    . rw[List.mem_singleton.mp z];exact bH
   have bo:((ms++[mf]).map λr=>keyOf r key).Nodup:=by
    rw[Q0k];exact List.nodup_append.mpr ⟨bh,List.nodup_cons.mpr ⟨λz=>(nomatch z),Q1q⟩,λx hx y hy e=>bb (by rw[e,List.mem_singleton.mp hy] at hx;exact hx)⟩
   refine o6 (rk:=iU key by_) (dg.of ec) aV (by rw[Q08];show _+1<64;omega) hX rfl (sx _ _ (aY _ _ ah)) aq (λrr kvs m fq H' Q' E' h1 h2 h3 h4 h5=>⟨pk,rr,pb,key,by_,fs,kvs,m,fq,rfl,h1,h2,h3,h4,ay,bg,h5⟩) _ (by simp) (λm hm=>rh (aq m hm) ay bg) (λx y h=>qT x y h) bo λDq bA a8 c' H8 kp bB hD bC hR aW=>?_;have bD:=aZ.kd kp (hY c' H8 kp bB);have az:KW b Pt Pd H3 H8:=(Kp.of sx).trans (KW.kd kp);have bE:KW b Pt Pd H H8:=aE.trans az;refine⟨er,λrz aT=>?_⟩;have sg:=Same.new aT (o:=.tup [.ref st,.ref Dq]);have cb:Tu Hc H8:=aZ.tu (KW.kd kp);have a9:b ∉ ra::ff:=λz=>by have:=a4 (ap b z);rw[hw.g.at_] at this;cases this
   have ba:=aj.jg az (Own.alive _ bI) a9;refine qS rz st (.ref Dq) "add" (.dct mf) [] _ (Dq::a8.flatten) (ra::ff) _ n3 (bE.trans (Kp.of sg)) (bD.same sg) (by omega) (by simp only[D.dep];omega) de ⟨⟨pt,[.ref ra],sg _ _ (cb _ _ (sc _ _ (sb _ _ ea))),by rw[Q0m];exact sg _ _ (cb _ _ (sx _ _ (aY _ _ be))),.inr ⟨by decide +kernel,_,rfl,(bI.keep (aj.tu az) _ ba).same sg⟩⟩,b9.j6 bf.W bf.a⟩ (λc hc=>a4 (ap c hc)) (.add bH bb) (by unfold Own;exact⟨Dq,bA,_,rfl,sg _ _ bC,rfl,hR.own.same sg⟩) λz hz=>?_;rcases List.mem_cons.mp hz with rfl|hz
   . exact .inl (a4 (WS.eX aj aD (fw sx hD)))
   . have hm:=(mE aW).mem_iff.mp hz;rw[Q1y] at hm;rcases List.mem_append.mp hm with hm|hm
     . exact .inr (Q04 _ (aO _ hm))
     . rw[Q0x,Q1z,Q0m] at hm;exact .inl (a4 (ap z hm))
end
section
variable {P:Program}{w:World}{K:W.Frag}{mg:Str->Option Value}{base:Heap}
variable {Pt Pd Pi:Addr}
theorem F3:d5 XU XB (dD (top 44)):=eL
theorem F4 (N L:Nat)(hL:17<=L)(T:Tb mg)(ac:Dn K mg "_law_deed" fP (top 44) ae af)(aD:c_ P w K mg base da (L) ae af fP (k9 K Pt Pd Pi N))(aE:Dn K mg "_law_next" dQ (top 31) aG aH)(aI:c_ P w K mg base da (1) aG aH dQ (gi K))(ao:Dn K mg "_law_deed_in" kJ (top 45) ap aq)(ar:c_ P w K mg base da (L+1) ap aq kJ (rl K Pt Pd Pi N))(ag:Dn K mg "_law_deed_rows" fP (top 46) ah ai)(aj:c_ P w K mg base da (L+2) ah ai fP (zF K Pt Pd Pi (N+1)))(ak:Dn K mg "_law_deed_tree" fP (top 47) al am)(an:c_ P w K mg base da (L+1) al am fP (zG K Pt Pd Pi (N+1)))(ax:Dn K mg "_law_value" fB (top 41) ay az)(aA:c_ P w K mg base da (11+6) ay az fB (iW K Pt Pd Pi 11)):c_ P w K mg base da (L+3) ae af fP (k9 K Pt Pd Pi (N+1)):=by
 refine ac.F.ok F3 λvs H Q E h=>?_;obtain⟨a,b,ns,n,kv,k,v,d,fp,pt,aV,rfl,hw,hk,au,hv,aW,aJ,aL,aX,aM,aY,hn,qS,qN⟩:=h;refine⟨rfl,λbH A outer s nd hr hu=>?_⟩;have bI:=d.gI
 refine⟨_,(c9 (dA (dw dX (dj (pv 2) cZ) dO (di _)) (dc (dk (dq ar hr ao (a_ (pv 0) (a_ (pv 1) (a_ (dj (pv 2) cZ) (a_ dO (a_ (pv 3) (a_ (pv 4) b_))))))))) dz)
  (c9 (dA (dw dX (dj (pv 2) cZ) dO (di _)) (dc (dk (dq aj hr ag (a_ (pv 0) (a_ (pv 1) (a_ (pv 2) (a_ (pv 3) (a_ (pv 4) b_)))))))) dz)
  (c9 (dA (dw dX (dj (pv 2) cZ) dO (di _)) (dc (dk (dq an hr ak (a_ (pv 0) (a_ (pv 1) (a_ (pv 2) (a_ (pv 3) (a_ (pv 4) b_)))))))) dz)
  (c9 (dA (PW.pt (gF (dw dX (dj (pv 2) cZ) dO (di _)) (gW (dw jO (dm eE (dq aI hr aE (a_ (pv 0) (a_ (pv 1) b_))) cZ) cZ (di _))))) (c9 (lu (i:=5) nd rfl fk (g:=(dU 0)) (tt:=(iQ (dY jo (dY (gO K) (dE 0) (tC (.int 0))) (dY (gO K) (dE 4) (tC (.int 0)))))) (te:=(dY (gO K) (dE 0) (tC (.int 1)))) (own:=["_law_pair"]) rfl (fN (N:=XU) (sc:=dD (top 44))) (km (dj (pv 2) cZ)) (λ_ _ _ _ _=>(en (i:=0) (show(["_law_pair","_law_script","_law_at","_law_kind_here","_law_value_here","_law_path","_law_inner","_law_deed_here","_law_fresh"]:List Str).Nodup by decide +kernel) rfl (Or.inl rfl) (.inr rfl))) (λ_ _ _ _ _=>(qe (dw dX (dj (pv 0) cZ) (dj (pv 4) cZ) (di _)))) (λ_ _ _ _ _=>(dj (pv 0) cZ)))
  (c9 (dI 6 nd (dq aD hr ac (a_ (pv 0) (a_ (pv 1) (a_ (gh (pv 5) cZ) (a_ (dj (pv 3) cZ) (a_ (dm ng (pv 4) (dW (a_ (dj (pv 3) cZ) b_))) b_)))))))
  (dc (dA (dw gY (pv 6) el (di _)) (dc (dk (dW (a_ (dj (pv 6) cZ) (a_ (dW (a_ (dj (pv 3) cZ) (a_ (dj (pv 6) cZ) b_))) b_))))) dz)))) dz)
  (c9 (dI 7 nd (dq aA hr ax (a_ (pv 0) (a_ (pv 1) (a_ (pv 2) (a_ cZ b_))))))
  (dc (dk (dW (a_ (dW (a_ dO (a_ (pv 4) (a_ (pv 7) b_)))) (a_ (pv 7) b_)))))))))),?_⟩
 ac_rfl
 have aO:∀{kk:Addr} {H2:Hp} {n2:Int},kv=.ref kk->(∀x,du k x->eR k d "set" x [] x)->KW b Pt Pd H H2->WS K Pt Pd Pi a b ns H2 n2->n<=n2->n2<=n+1+(k.nn:Nat)->∀{Q':VK},(∀av x fa H3 n3,KW b Pt Pd H H3->WS K Pt Pd Pi a b ns H3 n3->n<=n3->n3<=n+((2000000 * d.dep:Nat):Int)->Own H3 av x fa->(∀c∈fa,H c=none)->k8 x->eR k d "set" x [] x->Q' av H3)->iW K Pt Pd Pi 11 [.ref a,.ref b,.ref kk,.int 1] H2 Q' E0:=λ{kk H2 n2} ek hS aN aZ y1 y2 {Q'} q=>by
  subst ek;have hc:=au.c;have bJ:=kZ k (f:=1) (by decide);refine⟨a,b,ns,n2,.ref kk,k,1,1,rfl,aZ,KA.mono (hw.tu aN) k hk,au.W,by have:=lW k (f:=1) (by decide);have:=au.h;omega,.inl ⟨by decide,by decide⟩,by omega,λav x fa H3 n3 U aa w1 w2 ho Y bb=>?_⟩;exact q av x fa H3 n3 (aN.trans U) aa (by omega) (by omega) ho (λc hc=>WS.eX aZ aN (Y c hc)) (bb.j6 au.W au.a) (hS x bb.fit)
 have aP:∀{av:V} {x:D} {fa:List Addr} {H3:Hp} {n3:Int},KW b Pt Pd H H3->WS K Pt Pd Pi a b ns H3 n3->n<=n3->n3<=n+((2000000 * d.dep:Nat):Int)->Own H3 av x fa->(∀c∈fa,H c=none)->k8 x->eR k d "set" x [] x->∀st,H3 st=none->∀rz,upd H3 st (.tup [.str "set",.ref pt,av]) rz=none->Q (.ref rz) (upd (upd H3 st (.tup [.str "set",.ref pt,av])) rz (.tup [.ref st,av])):=λ{av x fa H3 n3} U aa w1 w2 ho Y hA hS st aw rz aB=>by
  have sa:=Same.new aw (o:=.tup [.str "set",.ref pt,av]);have sb:=Same.new aB (o:=.tup [.ref st,av]);have sx:=sa.trans sb;exact qS rz st av "set" x [] x fa fa _ n3 (U.trans (Kp.of sx)) (aa.same sx) w1 w2 de ⟨⟨pt,[av],sb _ _ de,by rw[Q0m];exact sx _ _ (hw.tu U _ _ aM),.inr ⟨by decide +kernel,av,rfl,ho.same sx⟩⟩,hA⟩ Y hS (ho.same sx) λz hz=>.inl (Y z hz)
 cases k with
 |eQ fs=>
  unfold KA at hk;obtain⟨kk,t,xs,rfl,J,ht,Y⟩:=hk;unfold du at aJ;obtain⟨m,rfl,hF⟩:=aJ;unfold D.SL at aL;simp only[D.dep] at aX aY hn;refine jT rfl J rfl (by decide +kernel) ?_;refine⟨_,rfl,_,rfl,_,rfl,kk,_,_,_,rfl,rfl,c8.of J,rfl,_,rfl,_,rfl,a,b,ns,n,t,xs,fs,"",v,m,fp,pt,aV,rfl,hw,ht,Y,au,hv,aW,hF,aL,by omega,aM,by omega,by omega,?_,λH' n' kw bp w1 w2=>qN fs H' n' kw bp w1 (by simp only[Kd.nn];omega) rfl⟩;intro rq st v' deed x p d' a5 fa H3 n3 U aa w1 w2 a1 aw aQ hS ho a6;obtain⟨nm,kf,e,e',p',rfl,bK,bq,he,br,rfl⟩:=hS;exact qS rq st v' deed x _ _ a5 fa H3 n3 U aa w1 (by simp only[D.dep];omega) a1 aw aQ (.fld bq he br) ho a6
 |rows key by_ fs=>
  have ab:=hk;unfold KA at ab;obtain⟨kk,t,xs,rfl,J,ht,Y⟩:=ab;refine fx rfl J rfl (by decide +kernel) ?_;refine jT rfl J rfl (by decide +kernel) ?_;exact⟨_,rfl,_,rfl,_,rfl,_,rfl,_,rfl,a,b,ns,n,.ref kk,key,by_,fs,v,d,fp,pt,aV,rfl,hw,hk,au,hv,aW,aJ,aL,aX,aM,aY,hn,qS⟩
 |tree k=>
  have ab:=hk;unfold KA at ab;obtain⟨kk,u,rfl,J,hu⟩:=ab;refine fx rfl J rfl (by decide +kernel) ?_;refine fx rfl J rfl (by decide +kernel) ?_;refine jT rfl J rfl (by decide +kernel) ?_;exact⟨_,rfl,_,rfl,_,rfl,_,rfl,_,rfl,a,b,ns,n,.ref kk,k,v,d,fp,pt,aV,rfl,hw,hk,au,hv,aW,aJ,aL,aX,aM,aY,hn,qS⟩
 |num=>
  have ab:=hk;unfold KA at ab;obtain⟨kk,rfl,J⟩:=ab;refine fx rfl J rfl (by decide +kernel) ?_;refine fx rfl J rfl (by decide +kernel) ?_;refine fx rfl J rfl (by decide +kernel) ?_;refine⟨_,rfl,kk,_,_,_,rfl,rfl,c8.of J,fA (j:=0) rfl,rfl,_,rfl,?_⟩;rw[show decide (V.str "number"=V.str "either")=false by decide +kernel];refine dy (dy ?_);refine⟨_,rfl,_,rfl,_,rfl,aO rfl (λx h=>.kQ trivial h) (Kp.refl _ _) hw (by omega) (by omega) λav x fa H3 n3 U aa w1 w2 ho Y hA hS=>?_⟩;exact⟨_,rfl,_,rfl,kD,λst aw=>⟨_,rfl,er,λrz aB=>aP U aa w1 w2 ho Y hA hS st aw rz aB⟩⟩
 |fe=>
  have ab:=hk;unfold KA at ab;obtain⟨kk,rfl,J⟩:=ab;refine fx rfl J rfl (by decide +kernel) ?_;refine fx rfl J rfl (by decide +kernel) ?_;refine fx rfl J rfl (by decide +kernel) ?_;refine⟨_,rfl,kk,_,_,_,rfl,rfl,c8.of J,fA (j:=0) rfl,rfl,_,rfl,?_⟩;rw[show decide (V.str "word"=V.str "either")=false by decide +kernel];refine dy (dy ?_);refine⟨_,rfl,_,rfl,_,rfl,aO rfl (λx h=>.kQ trivial h) (Kp.refl _ _) hw (by omega) (by omega) λav x fa H3 n3 U aa w1 w2 ho Y hA hS=>?_⟩;exact⟨_,rfl,_,rfl,kD,λst aw=>⟨_,rfl,er,λrz aB=>aP U aa w1 w2 ho Y hA hS st aw rz aB⟩⟩
 |fg fs=>
  have ab:=hk;unfold KA at ab;obtain⟨kk,t,xs,rfl,J,ht,Y⟩:=ab;have bL:xs.length=fs.names.length:=FA.len fs Y;have hW:=au.W;unfold Kd.W at hW;have aU:=aJ;unfold du at aU;obtain⟨x0,u0,rfl,bt⟩:=aU;obtain⟨k0,bc,bu⟩:=qK bt;obtain⟨j0,aK⟩:=Fs.zD bc;have bM:=hv;unfold pairD at hv aL;obtain⟨tr,bN,bd,g1,g2,rfl,a2,bv,bw,rfl⟩:=kU hv
  cases iw bv;unfold D.SL Ds.SL Ds.SL at aL;have be:(pairD (.str x0) u0).dep=max 1 (max u0.dep 0)+1:=rfl;rw[be] at aX aY hn;have bf:b ∉ g2:=λz=>aW (Q01 _ z);refine fx rfl J rfl (by decide +kernel) ?_;refine fx rfl J rfl (by decide +kernel) ?_;refine fx rfl J rfl (by decide +kernel) ?_;dsimp only[vX];refine iF (A:=iA _ _ _) (λbx H'=>∃(x5 x6:Option V) (n':Int),bx=[some (.ref a),some (.ref b),some (.ref kk),some (.ref tr),some (.ref pt),x5,x6,none]/\KW b Pt Pd H H'/\WS K Pt Pd Pi a b ns H' n'/\n<=n'/\n'<=n+1+(fs.nn:Nat)) ?_ (λhB=>?_)
  . intro _ H2 zq;obtain⟨x5,x6,n2,rfl,aN,aZ,y1,y2⟩:=zq;refine⟨_,rfl,_,rfl,_,rfl,aO rfl (λx h=>.lM h) aN aZ y1 y2 λav x fa H3 n3 U aa w1 w2 ho Y hA hS=>?_⟩;exact⟨_,rfl,_,rfl,kD,λst aw=>⟨_,rfl,er,λrz aB=>aP U aa w1 w2 ho Y hA hS st aw rz aB⟩⟩
  refine⟨_,rfl,kk,_,_,_,rfl,rfl,c8.of J,fA (j:=0) rfl,rfl,_,rfl,dM ?_⟩;refine⟨_,rfl,_,rfl,a,b,ns,n,rfl,hw.g,by omega,λr H1 r0 r1 s1 h1=>?_⟩;have bg:=hw.sb s1 h1 (by omega);have a7:KW b Pt Pd H H1:=KW.sb s1;have aC:=hw.tu a7;refine⟨_,_,rfl,rfl,(by show(0:Int)<3;decide),_,_,rfl,rfl,_,rfl,eF (λ_=>?_) (λ_=>hB _ _ ⟨_,_,n+1,rfl,a7,bg,by omega,by omega⟩)⟩;refine lT ?_;refine⟨_,rfl,kk,_,_,.ref t,rfl,rfl,c8.of (aC _ _ J),rfl,t,rfl,⟨_,c8.of (aC _ _ ht)⟩,λi m' ys H'=>m'=xs.length - i/\i<=xs.length/\H1=H'/\((ys=[]/\i<=j0)\/(∃u,ys=[u]/\j0<i/\KA H1 u k0)),⟨_,rfl,Q06 _,rfl,.inl ⟨rfl,Q06 _⟩⟩,?_⟩;rintro i m' ys _ ⟨rfl,bG,rfl,a3⟩
  have bO:j0<xs.length:=by
   have:fs.names[j0]? =some x0:=by rw[Fs.iR,aK];rfl
   have:=(List.getElem?_eq_some_iff.mp this).1;omega
  by_cases hi:i<xs.length
  . refine .inr ⟨⟨xs,xs[i],c8.of (aC _ _ ht),Q05 hi⟩,?_,λxv bP y=>?_⟩
    . rcases a3 with⟨rfl,_⟩|⟨u,rfl,_⟩
      . show 0<sizeLine;decide
      . show 1<sizeLine;decide
    obtain⟨rfl,y⟩:=y;obtain⟨c,u,nm,k,rfl,aT,hc,a8⟩:=FA.get fs Y (y xs (c8.of (aC _ _ ht)));have bh:fs.names[i]? =some nm:=by rw[Fs.iR,aT];rfl
    have a9:fs.names[j0]? =some x0:=by rw[Fs.iR,aK];rfl
    refine⟨rfl,_,rfl,c,_,_,.str nm,rfl,rfl,c8.of (aC _ _ hc),rfl,_,rfl,tr,_,_,.str x0,rfl,rfl,c8.of (aC _ _ a2),rfl,rfl,_,rfl,?_⟩;by_cases e:nm=x0
    . have bz:i=j0:=by
       have:=(List.getElem?_inj (by omega) hW.1).mp (bh.trans (by rw[e];exact a9.symm));exact this
      subst bz;rw[decide_eq_true (show V.str nm=V.str x0 by rw[e])];rw[aK] at aT
      cases aT;refine dM ⟨_,rfl,c,_,_,u,rfl,rfl,c8.of (aC _ _ hc),rfl,xs.length - (i+1),by omega,rfl,hi,rfl,.inr ⟨u,?_,Q1m _,KA.mono aC _ a8⟩⟩;rcases a3 with⟨rfl,_⟩|⟨u',_,bi,_⟩
      . rfl
      . exact absurd bi (Q0t _)
    . rw[decide_eq_false (show ¬V.str nm=V.str x0 from λz=>e (by injection z))];refine dy ⟨xs.length - (i+1),by omega,rfl,hi,rfl,?_⟩;rcases a3 with⟨rfl,bQ⟩|⟨u',rfl,bi,bo⟩
      . refine .inl ⟨rfl,?_⟩
        have:i≠j0:=λz=>by
         subst z;rw[bh] at a9;exact e (Option.some.inj a9)
        omega
      . exact .inr ⟨u',rfl,by omega,bo⟩
  refine .inl ⟨⟨_,c8.of (aC _ _ ht),by omega⟩,λp5 bA=>?_⟩
  obtain⟨u,rfl,_,a8⟩:∃u,ys=[u]/\j0<i/\KA H1 u k0:=by
   rcases a3 with⟨_,h⟩|h
   . omega
   . exact h
  have s5:=Same.new bA (o:=.lst [u]);have e5:upd H1 p5 (.lst [u]) p5=some (.lst [u]):=de;generalize upd H1 p5 (.lst [u])=H5 at s5 e5 ⊢;have bB:=bg.same s5;have bj:KW b Pt Pd H H5:=a7.trans (Kp.of s5);have ba:=hw.tu bj;dsimp only[dU];refine⟨_,rfl,_,rfl,_,rfl,p5,_,_,u,rfl,rfl,dg.of e5,rfl,_,rfl,tr,_,_,bd,rfl,rfl,c8.of (ba _ _ a2),rfl,_,rfl,_,rfl,tr,_,_,.str x0,rfl,rfl,c8.of (ba _ _ a2),rfl,fJ,λtq bC=>?_⟩;have sT:=Same.new bC (o:=.tup [.str x0]);have eT:upd H5 tq (.tup [.str x0]) tq=some (.tup [kV (.inr x0)]):=de;generalize upd H5 tq (.tup [.str x0])=HT at sT eT ⊢;refine nj (κ:=.inr x0) (sT _ _ (ba _ _ aM)) eT (by omega) λq HC sC eC=>?_;have sA:=sT.trans sC;have bm:=bB.same sA;have a4:KW b Pt Pd H HC:=bj.trans (Kp.of sA);have dn:∀{c},HC c=none->H c=none:=λh=>WS.eX bm a4 h;have bR:=Fs.nh aK;have bD:=au.c;simp only[Kd.nn] at bD;refine⟨a,b,ns,n+1,u,k0,bd,u0,g2,q,aV++[.inr x0],rfl,bm,KA.mono (Tu.of (s5.trans sA)) _ a8,au.alt aK,hw.nq a4 bw bf,bf,bu,aL.2.1,by omega,eC,by rw[Q08];show _+1+_<=_;omega,by omega,?_,?_⟩
  . intro rq st v' deed x p d' a5 fa H3 n3 U aa w1 w2 a1 aw aQ hS ho a6;have bn:KW b Pt Pd H H3:=a4.trans U;have bE:=hw.tu bn;refine⟨_,rfl,rfl,_,rfl,dM ?_⟩;refine⟨_,rfl,rq,_,_,.ref st,rfl,rfl,c8.of a1,rfl,_,rfl,tr,_,_,.str x0,rfl,rfl,c8.of (bE _ _ a2),rfl,_,rfl,rq,_,_,v',rfl,rfl,c8.of a1,rfl,er,λt6 bF=>?_⟩;have sf:=Same.new bF (o:=.tup [.str x0,v']);have ef:upd H3 t6 (.tup [.str x0,v']) t6=some (.tup [.str x0,v']):=de;generalize upd H3 t6 (.tup [.str x0,v'])=Hf at sf ef ⊢;refine⟨er,λrz aB=>?_⟩;have sg:=Same.new aB (o:=.tup [.ref st,.ref t6]);have sx:=sf.trans sg;refine qS rz st (.ref t6) deed x (.inr x0::p) (pairD (.str x0) d') a5 fa _ n3 (bn.trans (Kp.of sx)) (aa.same sx) (by omega) (by rw[be];omega) de ?_ (λc hc=>dn (aQ c hc)) (.alt bc hS) (ix (f:=[]) (sg _ _ ef) (by unfold Own;exact⟨rfl,rfl⟩) (ho.same sx)) λz hz=>?_
    . have:=aw.same sx;rw[Q0r] at this;exact this
    . rcases a6 z hz with hz|hz
      . exact .inl (dn hz)
      . exact .inr (Q01 _ hz)
  . intro fs' H3 n3 U aa w1 w2 _;exact⟨_,rfl,rfl,_,rfl,dy (hB _ _ ⟨_,_,n3,rfl,a4.trans U,aa,by omega,by omega⟩)⟩
theorem zN {c:Addr}(T:Tb mg)(ae:Dn K mg "_law_deed" fP (top 44) ak al)(L:Dn K mg "_law_next" dQ (top 31) am an)(U:c_ P w K mg base da (1) am an dQ (gi K))(J:Dn K mg "_law_deed_in" kJ (top 45) av aw)(Y:Dn K mg "_law_deed_rows" fP (top 46) aq ah)(ax:ah.code=.ref c)(ay:W.CodeHd base c Pd)(az:BM mg base)(aa:Dn K mg "_law_deed_tree" fP (top 47) ar au)(ab:Dn K mg "_law_value" fB (top 41) ai aj)(ac:c_ P w K mg base da (11+6) ai aj fB (iW K Pt Pd Pi 11))(af:Dn K mg "_law_rank" ja (top 39) ao ap)(ag:c_ P w K mg base da (1) ao ap ja (mO)):∀N:Nat,c_ P w K mg base da (17+3 * N) ak al fP (k9 K Pt Pd Pi N)
 |0=>by
  have n1:∀vs H Q E,¬k9 K Pt Pd Pi 0 vs H Q E:=λvs H Q E h=>by
   obtain⟨a,b,ns,n,kv,k,v,d,fp,pt,aA,_,_,_,_,_,_,_,_,h,_⟩:=h;have:=d.gI;omega
  exact⟨λvs H Q E h=>absurd h (n1 vs H Q E),λA outer s H args us vs Q E _ _ _ _ h=>absurd h (n1 vs H Q E)⟩
 |N+1=>by
  have G:=zN T ae L U J Y ax ay az aa ab ac af ag N;have Gi:=FY N (17+3 * N) (by omega) T J L U ae G;have Gr:=F2 N (17+3 * N+1) (by omega) T Y ax ay az L U J Gi ab ac af ag;have Gt:=F0 N (17+3 * N) (by omega) T aa L U ae G ab ac;exact F4 N (17+3 * N) (by omega) T ae G L U J Gi Y Gr aa Gt ab ac
end
theorem Fs.gI {fs:Fs}(h:1<=fs.names.length):1<=fs.dep:=by
 cases fs with
 |nil=>exact absurd h (by decide)
 |cons x k r=>exact Q0h k.gI (Q1a _ _)
theorem Fs.F5 {fs:Fs}{x:Str}(h:fs.pl x):1<=fs.names.length:=by
 obtain⟨k,hk,_⟩:=h
 cases fs with
 |nil=>cases hk
 |cons y q r=>show 1<=r.names.length+1;omega
mutual
theorem Kd.bnd:∀(k:Kd),k.W->k.hv+4<=5 * k.dep/\k.dF 1+3<=4 * k.dep/\k.dF 3+7<=8 * k.dep
 | .num,_=>by decide
 | .fe,_=>by decide
 | .eQ fs,w=>by
   unfold Kd.W at w;have:=Fs.bnd fs w.2.2;simp only[Kd.hv,Kd.dF,Kd.dep];omega
 | .rows key by_ fs,w=>by
   unfold Kd.W at w;have:=Fs.bnd fs w.2.2.1;have:=Fs.gI (Fs.F5 w.2.2.2.1);simp only[Kd.hv,Kd.dF,Kd.dep];omega
 | .tree k,w=>by
   unfold Kd.W at w;have:=Kd.bnd k w;simp only[Kd.hv,Kd.dF,Kd.dep];omega
 | .fg fs,w=>by
   unfold Kd.W at w;have:=Fs.bnd fs w.2.2.2;have:=Fs.gI w.2.2.1;simp only[Kd.hv,Kd.dF,Kd.dep];omega
theorem Fs.bnd:∀(fs:Fs),fs.W->fs.hv<=5 * fs.dep - 4/\fs.dF 1<=4 * fs.dep - 3/\fs.dF 3<=8 * fs.dep - 7
 | .nil,_=>by decide
 | .cons x k r,w=>by
   unfold Fs.W at w;have h1:=Kd.bnd k w.1;have h2:=Fs.bnd r w.2;simp only[Fs.hv,Fs.dF,Fs.dep];omega
end
noncomputable def nb:Nat->Nat
 |0=>0
 |n+1=>12 * nb n+1
theorem ph:∀{e d:Nat},e<=d->nb e<=nb d
 |e,0,h=>by rw[show e=0 by omega];exact Q00 _
 |e,d+1,h=>by
  by_cases z:e=d+1
  . rw[z];exact Q00 _
  . have:=ph (show e<=d by omega);have J:nb (d+1)=12 * nb d+1:=rfl;omega
mutual
theorem Kd.j7:∀(k:Kd),k.W->k.nn<=nb k.dep
 | .num,_=>Q06 _
 | .fe,_=>Q06 _
 | .eQ fs,w=>by
   unfold Kd.W at w;have:=Fs.j7 fs w.2.2;have h2:=Q2a w.2.1 this;show fs.names.length * fs.nn+1<=12 * nb fs.dep+1;omega
 | .rows key by_ fs,w=>by
   unfold Kd.W at w;have:=Fs.j7 fs w.2.2.1;have h2:=Q2a w.2.1 this;show fs.names.length * fs.nn+1<=12 * nb fs.dep+1;omega
 | .tree k,w=>by
   unfold Kd.W at w;have:=Kd.j7 k w;show k.nn<=12 * nb k.dep+1;omega
 | .fg fs,w=>by
   unfold Kd.W at w;have:=Fs.j7 fs w.2.2.2;show fs.nn<=12 * nb fs.dep+1;omega
theorem Fs.j7:∀(fs:Fs),fs.W->fs.nn<=nb fs.dep
 | .nil,_=>Q00 _
 | .cons x k r,w=>by
   unfold Fs.W at w;have h1:=Q0h (Kd.j7 k w.1) (ph (Q1a k.dep r.dep));have h2:=Q0h (Fs.j7 r w.2) (ph (Q1h k.dep r.dep));exact Nat.max_le.mpr ⟨h1,h2⟩
end
structure KD (k:Kd):Prop where
 W:k.W
 dp:k.dep<=3
theorem KD.kb {k:Kd}(h:KD k):KB k/\k.dF 3<=17/\k.cB<=1440000:=by
 have h1:=Kd.bnd k h.W;have h2:=Q0h (Kd.j7 k h.W) (ph h.dp);have J:nb 3=157:=rfl;have L:=qw k 2 h.W h.dp;have U:CB 2=1440000:=rfl;have:=h.dp;exact⟨⟨h.W,by omega,by omega,by omega⟩,by omega,by omega⟩
theorem Fs.zO:∀{fs:Fs},(∀(i:Nat) x k,fs.at i=some (x,k)->gz k)->fs.flat
 | .nil,_=>trivial
 | .cons x k r,h=>⟨h 0 x k rfl,Fs.zO λi x k e=>h (i+1) x k e⟩
def zP:Sp:=λvs H Q _=>∃J xs fs,vs=[.ref J]/\H J=some (.tup xs)/\FA H xs fs/\fs.names.length<=12/\∀(r:Bool) H',Same H H'->(r=true->fs.flat)->Q (.bl r) H'
def zQ (K:W.Frag):Sp:=λvs H Q _=>∃a b ns n,vs=[.ref a,.ref b]/\G0 K H a b ns n/\n<=1000/\
 ∀(v:V) (k:Kd) (n':Int) (H':Hp),SB b H H'->H' b=some (.lst [.int n'])->n<=n'->n'<=n+500->KA H' v k->KD k->Q v H'
def zR (K:W.Frag) (Pt Pd Pi:Addr):Sp:=λvs H Q _=>∃a b ns n J k,vs=[.ref a,.ref b,J]/\WS K Pt Pd Pi a b ns H n/\KA H J k/\KD k/\n<=10000/\
 ∀v d fp H' n',KW b Pt Pd H H'->WS K Pt Pd Pi a b ns H' n'->n<=n'->n'<=n+100000000->Own H' v d fp->(∀c∈fp,H c=none)->du k d->d.SL 40->d.dep<=57->Q v H'
section
variable {P:Program}{w:World}{K:W.Frag}{mg:Str->Option Value}{base:Heap}
variable {Pt Pd Pi:Addr}
theorem F6:d5 ["_law_fields_here"] ["_law_fields_here"] (dD (top 50)):=eL
theorem F7 (T:Tb mg)(L:Dn K mg "_law_flat" oG (top 50) U Y):c_ P w K mg base da (1) U Y oG (zP):=by
 refine L.F.ok F6 λvs H Q E h=>?_;obtain⟨pb,xs,fs,rfl,ab,ag,ap,q⟩:=h;refine⟨rfl,λaq A outer s nd hr hu=>?_⟩;have ar:xs.length=fs.names.length:=FA.len fs ag;refine⟨_,(dc (dk (dG (mr rfl) (by rfl) T.mG boot_all (a_ (gH (g:=(dU 0)) (tt:=fE) (te:=(vU (dY (qp K 0) (dY (gO K) (dE 0) (tC (.int 1))) (ko (dJ (tC (.str "number")) fc))) (dY (qp K 0) (dY (gO K) (dE 0) (tC (.int 1))) (ko (dJ (tC (.str "word")) fc))))) (own:=["_law_pair"]) rfl (fN (N:=["_law_fields_here"]) (sc:=dD (top 50))) (km (pv 0)) (λ_ _ _ _ _=>(en (i:=0) (show(["_law_pair","_law_fields_here"]:List Str).Nodup by decide +kernel) rfl (Or.inl rfl) (.inr rfl))) (λ_ _ _ _ _=>gc) (λ_ _ _ _ _=>(vV (gZ (ou (n:=0) hu) (dj (pv 0) cZ) (dW (a_ dO b_)) (di _)) (ia (gZ (ou (n:=0) hu) (dj (pv 0) cZ) (dW (a_ dO b_)) (di _)))))) b_)))),?_⟩
 ac_rfl
 dsimp only[ma,lh,dJ];refine⟨_,rfl,pb,rfl,⟨_,c8.of ab⟩,λi m' ys H'=>m'=xs.length - i/\i<=xs.length/\Same H H'/\∃bs:List Bool,ys=bs.map V.bl/\bs.length=i/\∀(j:Nat) x k,bs[j]? =some true->fs.at j=some (x,k)->gz k,⟨_,rfl,Q06 _,Same.refl _,[],rfl,rfl,λj x k h=>by simp at h⟩,?_⟩;intro i m' ys H' zq;obtain⟨rfl,ao,sm,bs,rfl,am,hb⟩:=zq;by_cases hi:i<xs.length
 . refine .inr ⟨⟨xs,xs[i],c8.of (sm _ _ ab),Q05 hi⟩,by rw[Q09];exact fX (by omega),λxv ae y=>?_⟩;obtain⟨rfl,y⟩:=y;obtain⟨c,u,nm,k,rfl,ak,hc,J⟩:=FA.get fs ag (y xs (c8.of (sm _ _ ab)));refine⟨rfl,L2.yes (dM ?_)⟩
   have ah:∀(r:Bool) (H3:Hp),Same ae H3->(r=true->gz k)->∃m',m'<xs.length - i/\m'=xs.length - (i+1)/\i+1<=xs.length/\Same H H3/\∃af:List Bool,bs.map V.bl++[.bl r]=af.map V.bl/\af.length=i+1/\∀(j:Nat) x k,af[j]? =some true->fs.at j=some (x,k)->gz k:=λr H3 s3 hr=>by
    refine⟨_,by omega,rfl,hi,sm.trans s3,bs++[r],by rw[Q0k];rfl,by rw[Q08,am];rfl,λj x k' hj aa=>?_⟩;by_cases an:j<bs.length
    . rw[Q12 an] at hj;exact hb j x k' hj aa
    . have ej:j=i:=by
       have:=(List.getElem?_eq_some_iff.mp hj).1;rw[Q08,Q13] at this;omega
      subst ej;rw[Q0z (by omega),show j - bs.length=0 by omega] at hj;rw[ak] at aa
      cases aa;exact hr (Option.some.inj hj)
   obtain⟨ku,tag,rest,rfl,ai,aj⟩:∃ku tag rest,u=.ref ku/\H ku=some (.tup (.str tag::rest))/\((rest=[]/\(tag="number"\/tag="word"))->gz k):=by
    cases k with
    |num=>unfold KA at J;obtain⟨a,rfl,ha⟩:=J;exact⟨a,_,_,rfl,ha,λ_=>trivial⟩
    |fe=>unfold KA at J;obtain⟨a,rfl,ha⟩:=J;exact⟨a,_,_,rfl,ha,λ_=>trivial⟩
    |eQ fs=>unfold KA at J;obtain⟨a,b,zs,rfl,ha,_⟩:=J;exact⟨a,_,_,rfl,ha,λh=>by cases h.1⟩
    |rows key by_ fs=>unfold KA at J;obtain⟨a,b,zs,rfl,ha,_⟩:=J;exact⟨a,_,_,rfl,ha,λh=>by cases h.1⟩
    |tree k=>unfold KA at J;obtain⟨a,b,rfl,ha,_⟩:=J;exact⟨a,_,_,rfl,ha,λh=>by cases h.1⟩
    |fg fs=>unfold KA at J;obtain⟨a,b,zs,rfl,ha,_⟩:=J;exact⟨a,_,_,rfl,ha,λh=>by cases h.1⟩
   have ac:∀(g:Str),((List.range (min (V.str tag::rest).length [V.str g].length)).all (λ_=>decide (tag=g)) && (V.str tag::rest).length == [V.str g].length)=true->rest=[]/\tag=g:=λg h=>by
    rw[Bool.and_eq_true] at h;have h2:rest.length+1=1:=by simpa using h.2
    have h0:rest=[]:=by
     cases rest with
     |nil=>rfl
     |cons _ _=>simp at h2
    subst h0;have h1:=h.1;simp at h1;exact⟨rfl,h1⟩
   refine⟨_,rfl,c,_,_,.ref ku,rfl,rfl,c8.of (sm _ _ hc),rfl,fJ,λt ht=>?_⟩;have s1:=Same.new ht (o:=.tup [.str "number"]);have e1:upd ae t (.tup [.str "number"]) t=some (.tup [.str "number"]):=de;generalize upd ae t (.tup [.str "number"])=H3 at s1 e1 ⊢;refine .inr ⟨ku,t,_,_,_,rfl,rfl,str1 (f:=tag) (g:="number") (rest:=rest),.inr ⟨c8.of (s1 _ _ (sm _ _ ai)),c8.of e1,_,rfl,eF (λc1=>?_) (λ_=>?_)⟩⟩
   . exact ah true H3 s1 λ_=>aj ⟨(ac _ c1).1,.inl (ac _ c1).2⟩
   refine⟨_,rfl,c,_,_,.ref ku,rfl,rfl,c8.of (s1 _ _ (sm _ _ hc)),rfl,fJ,λt2 gR=>?_⟩;have s2:=Same.new gR (o:=.tup [.str "word"]);have e2:upd H3 t2 (.tup [.str "word"]) t2=some (.tup [.str "word"]):=de;generalize upd H3 t2 (.tup [.str "word"])=H4 at s2 e2 ⊢;exact .inr ⟨ku,t2,_,_,_,rfl,rfl,str1 (f:=tag) (g:="word") (rest:=rest),.inr ⟨c8.of (s2 _ _ (s1 _ _ (sm _ _ ai))),c8.of e2,ah _ H4 (s1.trans s2) λh=>aj ⟨(ac _ h).1,.inr (ac _ h).2⟩⟩⟩
 . have ei:i=xs.length:=by omega
   subst ei;refine .inl ⟨⟨_,c8.of (sm _ _ ab),Q00 _⟩,λp hp=>?_⟩;have s3:=Same.new hp (o:=.lst (bs.map V.bl));refine⟨p,bs,rfl,dg.of de,q _ _ (sm.trans s3) λal=>Fs.zO λj x k aa=>?_⟩
   have hj:j<bs.length:=by
    have:fs.names[j]? =some x:=by rw[Fs.iR,aa];rfl
    have:=(List.getElem?_eq_some_iff.mp this).1;omega
   refine hb j x k ?_ aa;have:=List.all_eq_true.mp al bs[j] (Q14 _);rw[Q05 hj];exact congrArg some this
theorem F8:d5 ["_law_script","_law_at","_law_m"] XE (dD (top 48)):=eL
theorem F9 (T:Tb mg)(U:Dn K mg "_law_wide_kind" dQ (top 48) Y aa)(ag:Dn K mg "_law_next" dQ (top 31) ah ai)(aj:c_ P w K mg base da (1) ah ai dQ (gi K))(ab:Dn K mg "_law_rows_kind" iE (top 37) ac ae)(af:c_ P w K mg base da (5) ac ae iE (qX K 0))(J:Dn K mg "_law_kind" ir (top 38) ak al)(L:c_ P w K mg base da (8) ak al ir (yW K 2)):c_ P w K mg base da (9) Y aa dQ (zQ K):=by
 refine U.F.ok F8 λvs H Q E h=>?_;obtain⟨a,b,ns,n,rfl,g,hn,q⟩:=h;refine⟨rfl,λan A outer s nd hr hu=>?_⟩;have c0:ck 0=2:=rfl;have c1:ck 1=14:=rfl;have c2:ck 2=62:=rfl
 refine⟨_,(c9 (dI 2 nd (dq aj hr ag (a_ (pv 0) (a_ (pv 1) b_))))
  (c9 (dA (dw i4 (dm eE (pv 2) cZ) cZ (di _)) (dc (dk (dq af hr ab (a_ (pv 0) (a_ (pv 1) (a_ (dm gu cZ (dm eE (dm f_ (pv 2) cZ) cZ)) (a_ cZ b_))))))) dz)
  (c9 (dA (dw dX (dm eE (pv 2) cZ) cZ (di _)) (dc (dk (dW (a_ dO (a_ (dq L hr J (a_ (pv 0) (a_ (pv 1) (a_ cZ b_)))) b_))))) dz)
  (dc (dk (dq L hr J (a_ (pv 0) (a_ (pv 1) (a_ cZ b_))))))))),?_⟩
 ac_rfl
 refine⟨_,rfl,_,rfl,a,b,ns,n,rfl,g,by omega,λr H1 r0 r1 s1 h1=>?_⟩;have g1:=g.go s1 h1 (by omega);refine⟨_,rfl,_,_,rfl,rfl,(by show(0:Int)<_;decide),_,_,rfl,rfl,_,rfl,eF (λ_=>?_) (λ_=>?_)⟩
 . obtain⟨m,hm⟩:∃m:Nat,2+r / 6 % 3=(m:Int):=⟨(2+r / 6 % 3).toNat,by omega⟩;refine⟨_,rfl,_,rfl,_,rfl,_,_,rfl,rfl,⟨by decide,by decide⟩,_,_,rfl,rfl,(by show(0:Int)<_;decide),_,_,rfl,rfl,a,b,ns,n+1,m,(by show [V.ref a,V.ref b,V.int (2+r / 6 % 3),V.int 0]=_;rw[hm];rfl),by omega,by omega,g1,by omega,λv k n' H2 s2 h2 w1 w2 hk am hw=>?_⟩;exact q v k n' H2 (s1.trans s2) h2 (by omega) (by omega) hk ⟨hw,by omega⟩
 refine⟨_,rfl,_,_,rfl,rfl,(by show(0:Int)<_;decide),rfl,_,rfl,eF (λ_=>?_) (λ_=>?_)⟩
 . refine⟨_,rfl,_,rfl,1,by decide,a,b,ns,n+1,rfl,g1,by omega,λu k n' H2 s2 h2 w1 w2 hk am hw _=>?_⟩;refine⟨er,λv hv=>?_⟩;have tu:Tu H2 (upd H2 v (.tup [.str "tree",u])):=λc ys h=>by rw[dh (dN h hv)];exact h
   refine q (.ref v) (.tree k) n' _ (s1.trans (s2.trans (SB.new hv))) (by rw[dh (dN h2 hv)];exact h2) (by omega) (by omega) ?_ ⟨by unfold Kd.W;exact hw,by simp only[Kd.dep];omega⟩;unfold KA;exact⟨v,u,rfl,de,KA.mono tu k hk⟩
 . exact⟨_,rfl,_,rfl,2,by decide,a,b,ns,n+1,rfl,g1,by omega,λu k n' H2 s2 h2 w1 w2 hk am hw _=>q u k n' H2 (s1.trans s2) h2 (by omega) (by omega) hk ⟨hw,by omega⟩⟩
theorem F_:d5 ["_law_script","_law_at","_law_kind_here","_law_m","_law_value_here","_law_k"] XZ (dD (top 51)):=eL
theorem Ga (T:Tb mg)(U:Dn K mg "_law_wide_value" oI (top 51) Y aa)(ah:Dn K mg "_law_next" dQ (top 31) ai aj)(ak:c_ P w K mg base da (1) ai aj dQ (gi K))(al:Dn K mg "_law_flat" oG (top 50) am an)(ao:c_ P w K mg base da (1) am an oG (zP))(ap:Dn K mg "_law_rows" fB (top 40) aq ar)(au:c_ P w K mg base da (18) aq ar fB (m_ K Pt Pd Pi 11))(J:Dn K mg "_law_value" fB (top 41) ac ae)(L:c_ P w K mg base da (11+6) ac ae fB (iW K Pt Pd Pi 11)):c_ P w K mg base da (19) Y aa oI (zR K Pt Pd Pi):=by
 refine U.F.ok F_ λvs H Q E h=>?_;obtain⟨a,b,ns,n,kv,k,rfl,hw,hk,aw,hn,q⟩:=h;refine⟨rfl,λbm A outer s nd hr hu=>?_⟩;obtain⟨aT,a4,aI⟩:=aw.kb;have hh:=aT.h;have a5:∃o,H b=some o:=⟨_,hw.g.at_⟩
 obtain⟨kk,tag,rest,rfl,aB,aU⟩:∃kk tag rest,kv=.ref kk/\H kk=some (.tup (.str tag::rest))/\((tag="rows"->∃key by_ fs pb xs,k=.rows key by_ fs/\rest=[.str key,.str by_,.ref pb]/\H pb=some (.tup xs)/\FA H xs fs)/\(tag="tree"->∃k' u,k=.tree k'/\rest=[u]/\KA H u k')):=by
  cases k with
  |num=>unfold KA at hk;obtain⟨a,rfl,ha⟩:=hk;exact⟨a,_,_,rfl,ha,λz=>absurd z (by decide +kernel),λz=>absurd z (by decide +kernel)⟩
  |fe=>unfold KA at hk;obtain⟨a,rfl,ha⟩:=hk;exact⟨a,_,_,rfl,ha,λz=>absurd z (by decide +kernel),λz=>absurd z (by decide +kernel)⟩
  |eQ fs=>unfold KA at hk;obtain⟨a,b,zs,rfl,ha,_⟩:=hk;exact⟨a,_,_,rfl,ha,λz=>absurd z (by decide +kernel),λz=>absurd z (by decide +kernel)⟩
  |rows key by_ fs=>unfold KA at hk;obtain⟨a,b,zs,rfl,ha,hb,hf⟩:=hk;exact⟨a,_,_,rfl,ha,λ_=>⟨key,by_,fs,b,zs,rfl,rfl,hb,hf⟩,λz=>absurd z (by decide +kernel)⟩
  |tree k=>unfold KA at hk;obtain⟨a,b,rfl,ha,hb⟩:=hk;exact⟨a,_,_,rfl,ha,λz=>absurd z (by decide +kernel),λ_=>⟨k,b,rfl,rfl,hb⟩⟩
  |fg fs=>unfold KA at hk;obtain⟨a,b,zs,rfl,ha,_⟩:=hk;exact⟨a,_,_,rfl,ha,λz=>absurd z (by decide +kernel),λz=>absurd z (by decide +kernel)⟩
 refine⟨_,(c9 (dI 3 nd (dq ak hr ah (a_ (pv 0) (a_ (pv 1) b_))))
  (c9 (dA (PW.pt (gF (dw dX (dj (pv 2) cZ) dO (di _)) (gF (dw dX (dm eE (pv 3) cZ) cZ (di _)) (gW (eO (dq ao hr al (a_ (dj (pv 2) cZ) b_))))))) (dc (dk (dq au hr ap (a_ (pv 0) (a_ (pv 1) (a_ (pv 2) (a_ cZ b_))))))) dz)
  (c9 (dI 4 nd (dq L hr J (a_ (pv 0) (a_ (pv 1) (a_ (pv 2) (a_ cZ b_))))))
  (c9 (dA (PW.pt (gF (dw dX (dj (pv 2) cZ) dO (di _)) (gW (dw dX (dm eE (pv 3) cZ) cZ (di _))))) (dc (iP PassesOwn.never rfl (jm rfl T.jw (a_ (dm eE (dm f_ (pv 3) cZ) cZ) b_)) (en (i:=5) nd rfl fk) (dc (dI 4 nd (dW (a_ (dq L hr J (a_ (pv 0) (a_ (pv 1) (a_ (dj (pv 2) cZ) (a_ cZ b_))))) (a_ (fQ (a_ (pv 4) b_)) b_))))))) dz)
  (dc (dk (pv 4))))))),?_⟩
 ac_rfl
 refine⟨_,rfl,_,rfl,a,b,ns,n,rfl,hw.g,by omega,λr H1 r0 r1 s1 h1=>?_⟩;have ax:=hw.sb s1 h1 (by omega);have ay:KW b Pt Pd H H1:=KW.sb s1;have aC:=hw.tu ay;dsimp only[dU];refine iF (A:=iA _ _ _) (λaJ H'=>aJ=[some (.ref a),some (.ref b),some (.ref kk),some (.int r),none,none]/\KW b Pt Pd H H'/\WS K Pt Pd Pi a b ns H' (n+1)) ?_ (λhB=>?_);rotate_left
 . refine⟨_,rfl,kk,_,_,.str tag,rfl,rfl,c8.of (aC _ _ aB),fA (j:=0) rfl,rfl,_,rfl,eF (λct=>?_) (λ_=>dy (hB _ _ ⟨rfl,ay,ax⟩))⟩;have et:tag="rows":=by have:=of_decide_eq_true ct;injection this
   obtain⟨key,by_,fs,pb,xs,rfl,rfl,a6,a7⟩:=aU.1 et;subst et;have hW:=aw.W;unfold Kd.W at hW;refine⟨_,rfl,_,_,rfl,rfl,(by show(0:Int)<_;decide),rfl,_,rfl,eF (λ_=>?_) (λ_=>dy (hB _ _ ⟨rfl,ay,ax⟩))⟩;refine⟨_,rfl,kk,_,_,.ref pb,rfl,rfl,c8.of (aC _ _ aB),rfl,pb,xs,fs,rfl,aC _ _ a6,FA.mono aC fs a7,hW.2.1,λrb H2 s2 a8=>⟨_,rfl,eF (λcb=>?_) (λ_=>hB _ _ ⟨rfl,ay.trans (Kp.of s2),ax.same s2⟩)⟩⟩;have av:KW b Pt Pd H H2:=ay.trans (Kp.of s2);have aP:=a8 cb;simp only[Kd.cB,Kd.hv] at aI hh;exact⟨_,rfl,_,rfl,_,rfl,a,b,ns,n+1,.ref kk,key,by_,fs,40,3,rfl,ax.same s2,KA.mono (hw.tu av) _ hk,aw.W,by omega,.inr ⟨aP,Q00 _⟩,by omega,λv d fp H3 n3 aK aD w1 w2 ho hf af=>q v d fp H3 n3 (av.trans aK) aD (by omega) (by omega) ho (λc hc=>WS.eX (ax.same s2) av (hf c hc)) af.fit af.sl (by have:=af.dp;omega)⟩
 rintro _ H2 ⟨rfl,av,aV⟩;have a9:=hw.tu av;have bn:=kZ k (f:=3) (by decide);refine⟨_,rfl,_,rfl,_,rfl,a,b,ns,n+1,.ref kk,k,4,3,rfl,aV,KA.mono a9 _ hk,aw.W,by have:=lW k (f:=3) (by decide);omega,.inl ⟨by decide,by decide⟩,by omega,λv d fp H3 n3 aK aD w1 w2 ho hf af=>?_⟩;have aL:KW b Pt Pd H H3:=av.trans aK;have aW:∀c∈fp,H c=none:=λc hc=>WS.eX aV av (hf c hc);have ba:=af.dp;dsimp only[dU];refine iF (A:=iA _ _ _) (λaJ H'=>∃(v':V) (d':D) (ab:List Addr) (n':Int) (x5:Option V),aJ=[some (.ref a),some (.ref b),some (.ref kk),some (.int r),some v',x5]/\KW b Pt Pd H H'/\WS K Pt Pd Pi a b ns H' n'/\n<=n'/\n'<=n+100000000/\Own H' v' d' ab/\(∀c∈ab,H c=none)/\du k d'/\d'.SL 40/\d'.dep<=57) ?_ (λhB=>?_)
 . intro _ H4 zq;obtain⟨v',d',ab,n',x5,rfl,aE,aG,y1,y2,aM,bb,aQ,a1,a2⟩:=zq;exact⟨_,rfl,q v' d' ab H4 n' aE aG y1 y2 aM bb aQ a1 a2⟩
 have stop:=hB _ _ ⟨v,d,fp,n3,none,rfl,aL,aD,by omega,by omega,ho,aW,af.fit,af.sl,by omega⟩;have bc:=hw.tu aL;refine⟨_,rfl,kk,_,_,.str tag,rfl,rfl,c8.of (bc _ _ aB),fA (j:=0) rfl,rfl,_,rfl,eF (λct=>?_) (λ_=>dy stop)⟩;refine⟨_,rfl,_,_,rfl,rfl,(by show(0:Int)<_;decide),rfl,_,rfl,eF (λ_=>?_) (λ_=>stop)⟩;have et:tag="tree":=by have:=of_decide_eq_true ct;injection this
 obtain⟨k',u,rfl,rfl,bd⟩:=aU.2 et;subst et;have bo:=aT.zE;have aX:=aw.W;unfold Kd.W at aX;have bh:=aI;simp only[Kd.cB,Kd.hv,Kd.dF] at aI hh a4 ba;have bi:=kZ k' (f:=0) (by decide);refine⟨_,rfl,_,_,rfl,rfl,⟨by decide,by decide⟩,_,_,rfl,rfl,(by show(0:Int)<_;decide),_,rfl,by omega,by omega,pO (n:=Int.toNat (r / 3 % 20)) (λi σ H'=>∃(v':V) (d':D) (ab:List Addr) (n':Int) (x5:Option V),σ=[some (.ref a),some (.ref b),some (.ref kk),some (.int r),some v',x5]/\KW b Pt Pd H H'/\WS K Pt Pd Pi a b ns H' n'/\n<=n'/\n'<=n+2000000+((1440000 * i:Nat):Int)/\Own H' v' d' ab/\(∀c∈ab,H c=none)/\du (.tree k') d'/\d'.SL 40/\d'.dep<=17+2 * i) ?_ ?_ ?_⟩
 . exact⟨v,d,fp,n3,none,rfl,aL,aD,by omega,by omega,ho,aW,af.fit,af.sl,by omega⟩
 . intro i σ H' hi zq;obtain⟨v',d',ab,n',x5,rfl,kw,az,z1,z2,aN,aH,ag,aA,a3⟩:=zq;have bj:i<20:=by omega
   have tu:=hw.tu kw;dsimp only[dU];refine⟨_,rfl,_,rfl,_,rfl,kk,_,_,u,rfl,rfl,c8.of (tu _ _ aB),rfl,a,b,ns,n',u,k',0,0,rfl,az,KA.mono tu _ bd,aX,by have:=lW k' (f:=0) (by decide);omega,.inl ⟨by decide,by decide⟩,by omega,λvt dt ft H4 n4 aE aG w3 w4 be bf aO=>?_⟩;have aY:KW b Pt Pd H H4:=kw.trans aE;refine⟨_,rfl,fJ,λpl aZ=>?_⟩;have s5:=Same.new aZ (o:=.lst [v']);have e5:upd H4 pl (.lst [v']) pl=some (.lst [v']):=de;generalize upd H4 pl (.lst [v'])=H5 at s5 e5 ⊢;refine⟨er,λtq bg=>?_⟩;have s6:=Same.new bg (o:=.tup [vt,.ref pl]);have sx:=s5.trans s6;have aM:=az.own aE a5 aN aH
   have ol:Own (upd H5 tq (.tup [vt,.ref pl])) (.ref pl) (.lst (.cons "" d' .nil)) (pl::(ab++[])):=by
    unfold Own;refine⟨pl,[v'],_,rfl,s6 _ _ e5,rfl,?_⟩;rw[df];exact⟨v',[],ab,[],rfl,rfl,aM.same sx,by unfold df;exact⟨rfl,rfl⟩⟩
   have bp:=aO.dp;have bq:=Kd.jD (f:=0) (g:=3) (by decide) k';refine⟨_,.tup (.cons "" dt (.cons "" (.lst (.cons "" d' .nil)) .nil)),ft++pl::(ab++[]),n4,_,rfl,aY.trans (Kp.of sx),aG.same sx,by omega,by omega,ix de (be.same sx) ol,λc hc=>?_,?_,?_,?_⟩
   . rcases List.mem_append.mp hc with z|z
     . exact WS.eX az kw (bf c z)
     . rcases List.mem_cons.mp z with rfl|z
       . exact WS.eX aG aY aZ
       . rw[Q0m] at z;exact aH c z
   . unfold du Tree eG;refine⟨aO.fit,?_⟩;unfold dR;exact⟨by unfold du at ag;exact ag,by unfold dR;trivial⟩
   . rw[lU];refine⟨aO.sl,by show 1<=40;decide,?_⟩;unfold Ds.SL;exact⟨aA,by unfold Ds.SL;trivial⟩
   . simp only[D.dep,Ds.dep];omega
 . intro σ H' zq;obtain⟨v',d',ab,n',x5,rfl,kw,az,z1,z2,aN,aH,ag,aA,a3⟩:=zq;have br:Int.toNat (r / 3 % 20)<=19:=by omega
   exact hB _ _ ⟨v',d',ab,n',x5,rfl,kw,az,z1,by omega,aN,aH,ag,aA,by omega⟩
end
noncomputable def gp:List Key->Ds
 |[]=>.nil
 |κ::p=>.cons "" (fL κ) (gp p)
noncomputable def jh (deed:Str) (p:List Key) (x:D):D:=.tup (.cons "" (.str deed) (.cons "" (.tup (gp p)) (if deed="trim" then .nil else .cons "" x .nil)))
theorem zS {H:Hp}:∀p:List Key,df H (p.map kV) (gp p) []
 |[]=>by show df H [] .nil [];unfold df;exact⟨rfl,rfl⟩
 |κ::p=>by
  show df H (kV κ::p.map kV) (.cons "" (fL κ) (gp p)) [];rw[df];exact⟨_,_,[],[],rfl,rfl,o3 κ,zS p⟩
theorem zT {H:Hp}:∀{p:List Key}{vs:List V}{f:List Addr},df H vs (gp p) f->vs=p.map kV
 |[],vs,f,h=>by
  have h:df H vs .nil f:=h;unfold df at h;exact h.1
 |κ::p,vs,f,h=>by
  have h:df H vs (.cons "" (fL κ) (gp p)) f:=h;unfold df at h;obtain⟨v,q,J,L,rfl,rfl,h1,h2⟩:=h;rw[yH h1,zT h2];rfl
theorem zU:∀p:List Key,(gp p).dep<=1
 |[]=>Q06 _
 |κ::p=>by
  have:=zU p;show max (fL κ).dep (gp p).dep<=1;have:(fL κ).dep=1:=by cases κ <;> rfl
  omega
theorem zV:∀p:List Key,(gp p).len=p.length
 |[]=>rfl
 |κ::p=>by show(gp p).len+1=p.length+1;rw[zV p]
theorem zW:∀p:List Key,(gp p).Sm/\(gp p).Nd
 |[]=>⟨by unfold gp Ds.Sm;trivial,by unfold gp Ds.Nd;trivial⟩
 |κ::p=>by
  obtain⟨h1,h2⟩:=zW p;exact⟨by unfold gp Ds.Sm;exact⟨(ni κ).sm,h1⟩,by unfold gp Ds.Nd;exact⟨(ni κ).nd,h2⟩⟩
theorem Gb {deed:Str}{p:List Key}{x:D}(h:k8 x)(hl:p.length<=100):(jh deed p x).dep<=10/\(jh deed p x).Sm/\(jh deed p x).Nd:=by
 have h1:=zU p;obtain⟨L,J⟩:=zW p;have h2:=h.dp;unfold jh;have hp:(D.tup (gp p)).Sm:=by unfold D.Sm;exact⟨by rw[zV];exact hl,L⟩
 by_cases e:deed="trim"
 . rw[if_pos e];refine⟨by simp only[D.dep,Ds.dep];omega,?_,?_⟩
   . unfold D.Sm;refine⟨by show 2<=100;decide,?_⟩;unfold Ds.Sm;refine⟨by unfold D.Sm;trivial,?_⟩;unfold Ds.Sm;exact⟨hp,by unfold Ds.Sm;trivial⟩
   . simp only[D.Nd,Ds.Nd];exact⟨trivial,J,trivial⟩
 . rw[if_neg e];refine⟨by simp only[D.dep,Ds.dep];omega,?_,?_⟩
   . unfold D.Sm;refine⟨by show 3<=100;decide,?_⟩;unfold Ds.Sm;refine⟨by unfold D.Sm;trivial,?_⟩;unfold Ds.Sm;refine⟨hp,?_⟩;unfold Ds.Sm;exact⟨h.sm,by unfold Ds.Sm;trivial⟩
   . simp only[D.Nd,Ds.Nd];exact⟨trivial,J,h.nd,trivial⟩
theorem jf.own {H:Hp}{st:Addr}{deed:Str}{q:List Key}{x:D}{J:List Addr}(h:jf H st deed q x J):∃f,Own H (.ref st) (jh deed q x) f/\∀c∈f,c∈J:=by
 obtain⟨⟨pt,rest,h1,h2,L⟩,_⟩:=h;have hp:Own H (.ref pt) (.tup (gp q)) []:=by unfold Own;exact⟨pt,_,rfl,h2,zS q⟩
 unfold jh;rcases L with⟨e,rfl⟩|⟨e,Y,rfl,U⟩
 . rw[if_pos e];refine⟨[],?_,λc hc=>(nomatch hc)⟩;unfold Own;refine⟨st,_,rfl,h1,?_⟩;rw[df];refine⟨_,_,[],[],rfl,rfl,by unfold Own;exact⟨rfl,rfl⟩,?_⟩;rw[df];exact⟨_,_,[],[],rfl,rfl,hp,by unfold df;exact⟨rfl,rfl⟩⟩
 . rw[if_neg e];refine⟨J,?_,λc hc=>hc⟩;unfold Own;refine⟨st,_,rfl,h1,?_⟩;rw[df];refine⟨_,_,[],J,rfl,rfl,by unfold Own;exact⟨rfl,rfl⟩,?_⟩;rw[df];refine⟨_,_,[],J,rfl,rfl,hp,?_⟩;rw[df];exact⟨_,_,J,[],rfl,by rw[Q0m],U,by unfold df;exact⟨rfl,rfl⟩⟩
theorem Gc {H:Hp}{v:V}{deed:Str}{q:List Key}{x:D}{f:List Addr}(h:Own H v (jh deed q x) f):∃st pt rest Y,v=.ref st/\H st=some (.tup (.str deed:: .ref pt::rest))/\H pt=some (.tup (q.map kV))/\lO H st deed x Y/\∀c∈Y,c∈f:=by
 unfold jh at h;unfold Own at h;obtain⟨st,vs,rfl,J,h⟩:=h;unfold df at h;obtain⟨v1,aa,f1,f2,rfl,rfl,h1,h⟩:=h;unfold df at h;obtain⟨v2,U,f3,f4,rfl,rfl,h2,h⟩:=h
 cases iw h1;unfold Own at h2;obtain⟨pt,ps,rfl,L,h2⟩:=h2;rw[zT h2] at L;by_cases e:deed="trim"
 . exact⟨st,pt,U,[],rfl,J,L,⟨_,_,J,.inl e⟩,λc hc=>(nomatch hc)⟩
 . rw[if_neg e] at h;unfold df at h;obtain⟨v3,ab,f5,f6,rfl,rfl,h3,h⟩:=h;unfold df at h;obtain⟨rfl,rfl⟩:=h;exact⟨st,pt,_,f5,rfl,J,L,⟨_,_,J,.inr ⟨v3,rfl,h3⟩⟩,λc hc=>Q01 _ (Q01 _ (Q0f _ hc))⟩
section
variable {K:W.Frag}{Pt Pd Pi a b:Addr}{ns:List Int}{H H':Hp}{n n':Int}
theorem WS.upd (w:WS K Pt Pd Pi a b ns H n){p:Addr}{xs:List V}{o:HO}(hp:H p=some (.lst xs))(J:p≠b):WS K Pt Pd Pi a b ns (upd H p o) n:=by
 have k:∀c u,(∀xs,u≠ .lst xs)->H c=some u->L2.upd H p o c=some u:=λc u h e=>by rw[dh (gL e hp (h xs))];exact e
 refine⟨⟨?_,w.g.len,by rw[dh (Ne.symm J)];exact w.g.at_,w.g.pos⟩,w.t.wr (.inl ⟨_,hp⟩),w.d.keep (λps e=>k _ _ (by intro xs z;cases z) e) (λc u h _ e=>k _ _ h e),w.i.wr (.inl ⟨_,hp⟩),w.ne⟩;rcases w.g.iT with⟨L,e⟩|e
 . exact .inl ⟨L,k _ _ (by intro xs z;cases z) e⟩
 . exact .inr e
theorem WS.apart (w:WS K Pt Pd Pi a b ns H n){p:Addr}(hp:H p=none):¬(p=b\/p=Pt\/p=Pd):=λz=>by
 rcases z with z|z|z
 . rw[z,w.g.at_] at hp;cases hp
 . obtain⟨ps,J⟩:=w.t.tab;rw[z,J] at hp;cases hp
 . obtain⟨ps,J⟩:=w.d.tab;rw[z,J] at hp;cases hp
end
def zX (K:W.Frag) (Pt Pd Pi:Addr) (N:Nat):Sp:=λvs H Q _=>∃a b ns n U k v d fp,vs=[.ref a,.ref b,U,v,.int 1]/\WS K Pt Pd Pi a b ns H n/\KA H U k/\KB k/\Own H v d fp/\b ∉ fp/\du k d/\d.SL 40/\d.dep<=N/\d.dep<=100/\n+((2000000 * d.dep:Nat):Int)<=1000000000000/\
 (∀r J H' n',KW b Pt Pd H H'->WS K Pt Pd Pi a b ns H' n'->H' r=some (.tup [.ref J,v])->H' J=some (.lst [])->H J=none->Q (.ref r) H')/\
 ∀r J st Y deed x p d' L fa H' n',KW b Pt Pd H H'->WS K Pt Pd Pi a b ns H' n'->H' r=some (.tup [.ref J,Y])->H' J=some (.lst [.ref st])->H J=none->jf H' st deed p x fa->(∀c∈fa,H c=none)->eR k d deed x p d'->Own H' Y d' L->(∀c∈L,H c=none\/c∈fp)->Q (.ref r) H'
section
variable {P:Program}{w:World}{K:W.Frag}{mg:Str->Option Value}{base:Heap}
variable {Pt Pd Pi:Addr}
theorem Gd:d5 ["_law_script","_law_at","_law_kind_here","_law_value_here","_law_many","_law_paper","_law_k","_law_deed_here"] XQ (dD (top 49)):=eL
theorem Ge (N L:Nat)(T:Tb mg)(U:Dn K mg "_law_deeds" oJ (top 49) Y aa)(ab:Dn K mg "_law_deed" fP (top 44) ac ae)(af:c_ P w K mg base da (L) ac ae fP (k9 K Pt Pd Pi N)):c_ P w K mg base da (L+1) Y aa oJ (zX K Pt Pd Pi N):=by
 refine U.F.ok Gd λvs H Q E h=>?_;obtain⟨a,b,ns,n,kv,k,v,d,fp,rfl,hw,hk,az,hv,aA,ax,aB,aC,aJ,hn,qN,qS⟩:=h;refine⟨rfl,λaK A outer s nd hr hu=>?_⟩
 refine⟨_,(c9 (dI 5 nd (fQ b_))
  (c9 (iP PassesOwn.never rfl (jm rfl T.jw (a_ (pv 4) b_)) (en (i:=6) nd rfl fk) (c9 (dI 7 nd (dq af hr ab (a_ (pv 0) (a_ (pv 1) (a_ (pv 2) (a_ (pv 3) (a_ (dW b_) b_)))))))
  (dc (dA (dw gY (pv 7) el (di _)) (c9 (AO (wG PySem.F.plainAttrs_list PySem.F.slot_list_append PySem.F.type_list_append BJ (pv 5) (a_ (dj (pv 7) cZ) b_)))
  (dc (dI 3 nd (dj (pv 7) cZ)))) dz))))
  (dc (dk (dW (a_ (pv 5) (a_ (pv 3) b_))))))),?_⟩
 ac_rfl
 refine⟨x_,λJ ag=>?_⟩;have s0:=Same.new ag (o:=.lst []);have e0:upd H J (.lst []) J=some (.lst []):=de;generalize upd H J (.lst [])=H0 at s0 e0 ⊢;have aL:=hw.same s0;have an:=hw.apart ag;refine⟨_,rfl,_,rfl,by omega,by omega,pO (n:=Int.toNat 1) (λi σ H'=>(i=0/\H0=H'/\σ=[some (.ref a),some (.ref b),some kv,some v,some (.int 1),some (.ref J),none,none])\/(i=1/\∃vv x6 x7,σ=[some (.ref a),some (.ref b),some kv,some vv,some (.int 1),some (.ref J),x6,x7]/\∀r,H' r=none->Q (.ref r) (upd H' r (.tup [.ref J,vv])))) ?_ ?_ ?_⟩
 . exact .inl ⟨rfl,rfl,rfl⟩
 . rintro i σ H' hi h
   obtain⟨rfl,rfl,rfl⟩:i=0/\H0=H'/\σ=[some (.ref a),some (.ref b),some kv,some v,some (.int 1),some (.ref J),none,none]:=by
    rcases h with h|⟨rfl,_⟩
    . exact h
    . exact absurd hi (by decide)
   dsimp only[dU];refine⟨_,rfl,_,rfl,_,rfl,_,rfl,x_,λtq aD=>?_⟩;have s1:=Same.new aD (o:=.tup []);have e1:upd H0 tq (.tup []) tq=some (.tup (([]:List Key).map kV)):=de;generalize upd H0 tq (.tup [])=H1 at s1 e1 ⊢;have ah:=s0.trans s1;have aE:=hw.same ah;have dn:∀{c},H1 c=none->H c=none:=λh=>fw ah h;have ao:H1 J=some (.lst []):=s1 _ _ e0;refine⟨a,b,ns,n,kv,k,v,d,fp,tq,[],rfl,aE,KA.mono (Tu.of ah) k hk,az,hv.same ah,aA,ax,aB,aC,e1,by show 0+_<=_;omega,hn,?_,?_⟩
   . intro rq st v' deed x p d' aG fa H3 n3 ak ap w1 w2 ar aH am hS ho au;have aq:KW b Pt Pd H H3:=(Kp.of ah).trans ak;have ai:H3 J=some (.lst []):=ak _ _ an ao;refine⟨_,rfl,rfl,_,rfl,dM ?_⟩;refine⟨_,rfl,.inl ⟨rfl,_,dg.of ai⟩,_,rfl,rq,_,_,.ref st,rfl,rfl,c8.of ar,rfl,J,_,_,rfl,rfl,ai,by show 0<sizeLine;decide,?_⟩;have k4:∀c o,c≠J->H3 c=some o->upd H3 J (.lst ([]++[.ref st])) c=some o:=λc o hc e=>by rw[dh hc];exact e
     have e4:upd H3 J (.lst ([]++[.ref st])) J=some (.lst [.ref st]):=de;have av:WS K Pt Pd Pi a b ns (upd H3 J (.lst ([]++[.ref st]))) n3:=ap.upd ai λz=>an (.inl z);have al:Tu H3 (upd H3 J (.lst ([]++[.ref st]))):=Tu.wr λxs z=>by rw[ai] at z;cases z
     generalize upd H3 J (.lst ([]++[.ref st]))=H4 at k4 e4 av al ⊢
     have aw:∀c,H1 c=none\/c∈fp->c≠J:=λc aj z=>by
      subst z;rcases aj with aj|aj
      . rw[ao] at aj;cases aj
      . rcases Own.alive _ hv c aj with⟨_,q⟩|⟨_,q⟩ <;> rw[ag] at q <;> cases q
     have aI:KW b Pt Pd H H4:=λc o hc e=>k4 c o (λz=>by rw[z,ag] at e;cases e) (aq c o hc e);refine⟨_,rfl,rq,_,_,v',rfl,rfl,c8.of (al _ _ ar),rfl,.inr ⟨rfl,v',_,_,rfl,λr hr=>?_⟩⟩;have s5:=Same.new hr (o:=.tup [.ref J,v']);have ay:=aH.keep al λc hc o e=>k4 c o (aw c (.inl (am c hc))) e;exact qS r J st v' deed x p d' aG fa _ n3 (aI.trans (Kp.of s5)) (av.same s5) de (s5 _ _ e4) ag (ay.same s5) (λc hc=>dn (am c hc)) hS ((ho.keep al _ λc hc o e=>k4 c o (aw c (au c hc)) e).same s5) λc hc=>(au c hc).elim (λz=>.inl (dn z)) .inr
   . intro fs' H3 n3 ak ap w1 w2 _;have aq:KW b Pt Pd H H3:=(Kp.of ah).trans ak;have ai:H3 J=some (.lst []):=ak _ _ an ao;refine⟨_,rfl,rfl,_,rfl,dy (.inr ⟨rfl,v,_,_,rfl,λr hr=>?_⟩)⟩;have s5:=Same.new hr (o:=.tup [.ref J,v]);exact qN r J _ n3 (aq.trans (Kp.of s5)) (ap.same s5) de (s5 _ _ ai) ag
 . rintro σ H' h;rcases h with⟨z,_⟩|⟨_,vv,x6,x7,rfl,hq⟩
   . exact absurd z (by decide)
   . exact⟨_,rfl,_,rfl,er,λr hr=>hq r hr⟩
end
theorem hZ.Gf {K:W.Frag}{H H':Hp}{a:Addr}{ns:List Int}(h:hZ K H a ns)(s:Same H H'):hZ K H' a ns:=by
 rcases h with⟨o,h⟩|h
 . exact .inl ⟨o,s _ _ h⟩
 . exact .inr h
def rA (K:W.Frag) (Pt Pd Pi:Addr):Sp:=λvs H Q _=>∃(a:Addr) (ns:List Int),vs=[.ref a]/\hZ K H a ns/\ns.length<=63/\H Pt=some (.eS #[])/\H Pd=some (.eS #[])/\H Pi=some (.eS #[])/\∀H',Q (.bl true) H'
theorem zY {H:Hp}{p:Addr}{u v:V}{x y:D}{f g:List Addr}(hp:H p=some (.lst [u,v]))(h1:Own H u x f)(h2:Own H v y g):Own H (.ref p) (.lst (.cons "" x (.cons "" y .nil))) (p::(f++(g++[]))):=by
 unfold Own;refine⟨p,_,_,rfl,hp,rfl,?_⟩;rw[df];refine⟨u,[v],f,_,rfl,rfl,h1,?_⟩;rw[df];exact⟨v,[],g,[],rfl,rfl,h2,by unfold df;exact⟨rfl,rfl⟩⟩
noncomputable def gD (o:Option D):D:=.lst (match o with|none=>.nil|some d=>.cons "" d .nil)
def Gg (k:Kd) (d:D) (o:Option D) (J:D):Prop:=(o=none/\J=d)\/∃deed p x,o=some (jh deed p x)/\k8 x/\eR k d deed x p J
section
variable {P:Program}{w:World}{K:W.Frag}{mg:Str->Option Value}{base:Heap}
variable {Pt Pd Pi:Addr}
theorem Gh:d5 ["_law_script","_law_at","_law_kind_here","_law_value_here","_law_paper","_law_due","_law_handed","_law_found"] ["_law_script"] (dD (top 52)):=eL
theorem Gj (bn:Pt≠Pd/\Pi≠Pt/\Pi≠Pd)(T:Tb mg)(a2:Dn K mg "law" ["_law_script"] (top 52) a3 a4)(af:Dn K mg "_law_wide_kind" dQ (top 48) ag ah)(ai:c_ P w K mg base da (9) ag ah dQ (zQ K))(J:Dn K mg "_law_wide_value" oI (top 51) L U)(Y:c_ P w K mg base da (19) L U oI (zR K Pt Pd Pi))(aj:Dn K mg "_law_deeds" oJ (top 49) ak al)(am:c_ P w K mg base da (189) ak al oJ (zX K Pt Pd Pi 57))(aa:Dn K mg "_law_twin" kI (top 43) an ao)(ab:c_ P w K mg base da (71) an ao kI (mS 70))(ac:Dn K mg "_law_same" kH (top 42) ap aq)(ae:c_ P w K mg base da (71) ap aq kH (kP 70))(aP:Dn K mg "done" oF (top 17) aQ aT)(aU:c_ P w K mg base da (216) aQ aT oF (yP 9 Pi 57)):c_ P w K mg base da (217) a3 a4 ["_law_script"] (rA K Pt Pd Pi):=by
 refine a2.F.ok Gh λvs H Q E h=>?_;obtain⟨a,ns,rfl,hS,bo,bp,bq,br,q⟩:=h;refine⟨rfl,λbQ A outer s nd hr hu=>?_⟩
 refine⟨_,(c9 (dI 1 nd (fQ (a_ cZ b_)))
  (c9 (dI 2 nd (dq ai hr af (a_ (pv 0) (a_ (pv 1) b_))))
  (c9 (dI 3 nd (dq Y hr J (a_ (pv 0) (a_ (pv 1) (a_ (pv 2) b_)))))
  (c9 (nJ (dq am hr aj (a_ (pv 0) (a_ (pv 1) (a_ (pv 2) (a_ (pv 3) (a_ cZ b_)))))) (ie rfl (fy (en (i:=4) nd rfl fk) (fy (en (i:=5) nd rfl fk) ic))))
  (c9 (dI 6 nd (fQ (a_ (dq ab hr aa (a_ (pv 4) b_)) (a_ (dq ab hr aa (a_ (pv 3) b_)) b_))))
  (c9 (dI 7 nd (dq aU hr aP (a_ (pv 2) (a_ (gh (pv 6) cZ) (a_ (gh (pv 6) cZ) b_)))))
  (dc (dk (ib (dq ae hr ac (a_ (pv 7) (a_ (pv 5) b_))) (ia (dq ae hr ac (a_ (pv 6) (a_ (fQ (a_ (pv 4) (a_ (pv 3) b_))) b_))))))))))))),?_⟩
 ac_rfl
 refine⟨fJ,λb hb=>?_⟩;have s0:=Same.new hb (o:=.lst [.int 0]);have e0:upd H b (.lst [.int 0]) b=some (.lst [.int 0]):=de;generalize upd H b (.lst [.int 0])=H0 at s0 e0 ⊢;have a7:WS K Pt Pd Pi a b ns H0 0:=⟨⟨hZ.Gf hS s0,bo,e0,by decide⟩,.inl (s0 _ _ bp),⟨#[],s0 _ _ bq,trivial,.inl rfl,.inl rfl⟩,.inl (s0 _ _ br),bn⟩;refine⟨_,rfl,_,rfl,a,b,ns,0,rfl,a7.g,by decide,λkv k n1 H1 s1 h1 w1 w2 hk az=>?_⟩;have a8:=a7.sb s1 h1 w1;obtain⟨bt,_,_⟩:=az.kb;refine⟨_,rfl,_,rfl,_,rfl,a,b,ns,n1,kv,k,rfl,a8,hk,az,by omega,λv d fp H2 n2 bu aL w3 w4 ho hf av aM bv=>?_⟩;have a9:=KA.mono (a8.tu bu) k hk;have aW:b ∉ fp:=λz=>by have:=hf b z;rw[h1] at this;cases this
 have aN:=du.sm (by decide) k d az.W av aM;have bw:=du.nd k d az.W av;dsimp only[dU];refine iF (A:=iO _ _) (λbx H'=>∃pp vd o dd ay aH n3,bx=[some (.ref a),some (.ref b),some kv,some v,some (.ref pp),some vd,none,none]/\KW b Pt Pd H2 H'/\WS K Pt Pd Pi a b ns H' n3/\Own H' (.ref pp) (gD o) ay/\(gD o).dep<=11/\(gD o).Sm/\(gD o).Nd/\Own H' vd dd aH/\dd.dep<=70/\dd.Sm/\Gg k d o dd) ?_ (λhB=>?_);rotate_left
 . refine⟨_,rfl,_,rfl,_,rfl,_,rfl,a,b,ns,n2,kv,k,v,d,fp,rfl,aL,a9,bt,ho,aW,av,aM,bv,by omega,by omega,λr pp H3 n3 aw aD hr aX _=>?_,λr pp st v' deed x p d' ar fa H3 n3 aw aD hr aX _ ax ba au bz bN=>?_⟩
   . refine⟨r,_,rfl,c8.of hr,rfl,_,_,rfl,_,_,rfl,rfl,hB _ _ ⟨pp,v,none,d,[pp],fp,n3,rfl,aw,aD,?_,by decide,by unfold gD D.Sm;exact⟨by decide,by unfold Ds.Sm;trivial⟩,by unfold gD D.Nd Ds.Nd;trivial,aL.nq aw ho aW,by omega,aN,.inl ⟨rfl,rfl⟩⟩⟩;unfold gD Own;exact⟨pp,[],[],rfl,aX,rfl,by unfold df;exact⟨rfl,rfl⟩⟩
   . obtain⟨f,bA,bR⟩:=ax.own;have bO:=au.len;obtain⟨k1,k2,k3⟩:=Gb (deed:=deed) (p:=p) ax.j6 (by omega);have a5:=au.fit av;have bj:=au.sl aM ax.j6.sl;have bM:=au.dep;have bS:=ax.j6.dp;refine⟨r,_,rfl,c8.of hr,rfl,_,_,rfl,_,_,rfl,rfl,hB _ _ ⟨pp,v',some (jh deed p x),d',pp::(f++[]),ar,n3,rfl,aw,aD,?_,?_,?_,?_,bz,by omega,du.sm (by decide) k d' az.W a5 bj,.inr ⟨deed,p,x,rfl,ax.j6,au⟩⟩⟩
     . unfold gD Own;refine⟨pp,_,_,rfl,aX,rfl,?_⟩;rw[df];exact⟨_,[],f,[],rfl,rfl,bA,by unfold df;exact⟨rfl,rfl⟩⟩
     . unfold gD;simp only[D.dep,Ds.dep];omega
     . unfold gD D.Sm;refine⟨by show 1<=100;decide,?_⟩;unfold Ds.Sm;exact⟨k2,by unfold Ds.Sm;trivial⟩
     . unfold gD D.Nd Ds.Nd;exact⟨k3,by unfold Ds.Nd;trivial⟩
 intro _ H3 zq;obtain⟨pp,vd,o,dd,ay,aH,n3,rfl,aw,aD,aI,bT,bb,bB,aV,bC,bD,a6⟩:=zq;have aY:Own H3 v d fp:=aL.nq aw ho aW;refine⟨_,rfl,.ref pp,gD o,ay,rfl,aI,by omega,bb,bB,λtp aE H4 s4 bE bc=>?_⟩;refine⟨_,rfl,v,d,fp,rfl,aY.same s4,by omega,aN,bw,λtv aA H5 s5 bF bd=>?_⟩;refine⟨er,λhd be=>?_⟩;have s6:=Same.new be (o:=.lst [tp,tv]);have e6:upd H5 hd (.lst [tp,tv]) hd=some (.lst [tp,tv]):=de;generalize upd H5 hd (.lst [tp,tv])=H6 at s6 e6 ⊢;have bf:=s5.trans s6;have aB:=s4.trans bf;have aO:=aD.same aB;have aC:Own H6 tp (gD o) aE:=bE.same bf;have aZ:Own H6 tv d aA:=bF.same s6;obtain⟨pl,bU,bV,rfl,bW,bP⟩:=jB (show Own H6 tp (.lst _) aE from aC);have bG:KA H6 kv k:=KA.mono (Tu.of aB) k (KA.mono (aL.tu aw) k a9)
 have fin:∀v' ar H7,fo Pi H6 H7->eW Pi iG iH H7->Own H7 v' dd ar->(∀c∈ar,H6 c=none\/c∈aA\/c∈aE)->ma (pH (fT (kP 70) [] E0 (dJ (dE 7) (dJ (dE 5) fc))) (fT (kP 70) [] E0 (dJ (dE 6) (dJ (pV (dJ (dE 4) (dJ (dE 3) fc))) fc)))) { nx:=λ_ H'=>Q .non H',rt:=Q } [some (.ref a),some (.ref b),some kv,some v,some (.ref pp),some vd,some (.ref hd),some v'] H7:=by
  intro v' ar H7 kp bg a1 aJ
  have bm:∀c,H6 c=none\/c∈aA\/c∈aE->H3 c=none:=λc hc=>by
   rcases hc with hc|hc|hc
   . exact fw aB hc
   . exact fw s4 (bd c hc)
   . exact bc c hc
  have aK:∀{v:V} {d:D} {f:List Addr},Own H3 v d f->∀c∈f,H3 c≠none:=λh c hc z=>by
   rcases Own.alive _ h c hc with⟨_,q⟩|⟨_,q⟩ <;> rw[z] at q <;> cases q
  have aG:∀{v:V} {d:D} {f:List Addr},Own H6 v d f->Own H7 v d f:=λh=>h.kW kp aO.i;refine⟨_,rfl,_,rfl,v',vd,dd,ar,aH,rfl,a1,aG (aV.same aB),λc hc z=>aK aV c hc (bm c (aJ c z)),bC,bD,λH8 s8=>⟨_,rfl,dM ?_⟩⟩;refine⟨_,rfl,_,rfl,_,rfl,er,λl9 bh=>?_⟩;have s9:=Same.new bh (o:=.lst [.ref pp,v]);have e9:upd H8 l9 (.lst [.ref pp,v]) l9=some (.lst [.ref pp,v]):=de;generalize upd H8 l9 (.lst [.ref pp,v])=H9 at s9 e9 ⊢;have bi:=s8.trans s9;have bH:H7 hd=some (.lst [.ref pl,tv]):=kp.at aO.i (by intro ps z;cases z) e6;have oH:Own H8 (.ref hd) (.lst (.cons "" (gD o) (.cons "" d .nil))) (hd::(aE++(aA++[]))):=zY (s8 _ _ bH) ((aG aC).same s8) ((aG aZ).same s8);have oP:Own H9 (.ref l9) (.lst (.cons "" (gD o) (.cons "" d .nil))) (l9::(ay++(fp++[]))):=zY e9 ((aG (aI.same aB)).same bi) ((aG (aY.same aB)).same bi);refine⟨.ref hd,.ref l9,_,_,_,rfl,oH.same s9,oP,λc hc z=>?_,by simp only[D.dep,Ds.dep];omega,?_,λbI _=>q bI⟩
  . have zn:H3 c=none:=by
     rcases List.mem_cons.mp z with rfl|z
     . exact fw (s4.trans s5) be
     . rcases List.mem_append.mp z with z|z
       . exact bc c z
       . rw[Q0m] at z;exact fw s4 (bd c z)
    rcases List.mem_cons.mp hc with rfl|hc
    . rcases Own.alive _ oH c z with⟨_,q⟩|⟨_,q⟩ <;> rw[bh] at q <;> cases q
    . rcases List.mem_append.mp hc with hc|hc
      . exact aK aI c hc zn
      . rw[Q0m] at hc;exact aK aY c hc zn
  . unfold D.Sm;refine⟨by show 2<=100;decide,?_⟩;unfold Ds.Sm;refine⟨bb,?_⟩;unfold Ds.Sm;exact⟨aN,by unfold Ds.Sm;trivial⟩
 refine⟨_,rfl,_,rfl,hd,_,_,.ref pl,rfl,rfl,dg.of e6,rfl,_,rfl,hd,_,_,tv,rfl,rfl,dg.of e6,rfl,kv,pl,tv,rfl,?_⟩;rcases a6 with⟨rfl,rfl⟩|⟨deed,p,x,rfl,hA,au⟩
 . refine .inl ⟨?_,fin tv aA H6 (Kp.refl _ _) aO.i aZ λc hc=>.inr (.inl hc)⟩;unfold gD at aC;obtain⟨t',bJ,f',e,h1,h2⟩:=jB aC
   cases e;unfold df at h2;rw[h1,h2.1]
 . unfold gD Own at aC;obtain⟨t',bJ,f',e,h1,rfl,h2⟩:=aC
   cases e;unfold df at h2;obtain⟨sv,q',f1,f2,rfl,rfl,h3,h4⟩:=h2;unfold df at h4;obtain⟨rfl,rfl⟩:=h4;obtain⟨st,pt,rest,fa,rfl,ax,bK,bL,ba⟩:=Gc h3
   exact .inr ⟨st,pt,rest,k,d,dd,deed,x,aA,fa,p,h1,ax,bG,az.W,⟨aZ,aN,D.fG (by decide) _ aM⟩,av,⟨bL,bK,hA.dp,hA.sm,aO.i⟩,au,by have:=au.len;omega,λv' ar H7 kp bg a1 aJ=>fin v' ar H7 kp bg a1 λc hc=>by
    rcases aJ c hc with z|z|z
    . exact .inl z
    . exact .inr (.inl z)
    . exact .inr (.inr (Q04 _ (Q0f _ (ba c z))))⟩
end
end Pb
namespace Pb
open L2
abbrev Gk (K:W.Frag) (x Y:Str) (st:Stmt) (f:Addr):Prop:=∃(oc:Value) (od:Option Addr) (kV L pm:Value) (an:Option Addr) (J ct:Value) (U:Array (Option Value)),K.lookup f=some ⟨oc,od,.func (W.fnOf x Y (gE st) (fZ st) (dD st) .none kV L pm an J ct),U⟩/\W.codeIn K J Y=true/\W.keepIn K (.ref f)=true
abbrev eM (K:W.Frag) (x:Str) (st:Stmt):Prop:=∃f,W.nsIn K mainGlobals x=some (some (.ref f))/\Gk K x x st f
abbrev HB (x Y:Str) (ps:List Str) (st:Stmt):Prop:=∀(kV L pm:Value) (an:Option Addr) (U ct:Value) (J:List Value),J.length=ps.length->bindArgs (W.fnOf x Y (gE st) (fZ st) (dD st) .none kV L pm an U ct) ⟨J,[]⟩=pure (ps.zip J)
theorem eP {K:W.Frag}{mg:Str->Option Value}{h:Heap}{x:Str}{ps:List Str}{st:Stmt}(X:K.In h)(G:h.Ns mainGlobals mg)(a:eM K x st)(Y:HB x x ps st):∃f d,Dn K mg x ps st f d/\∀J:List Value,J.length=ps.length->bindArgs d ⟨J,[]⟩=pure (ps.zip J):=by
 obtain⟨f,a,oc,od,kV,L,pm,an,U,ct,aa,l,c,k⟩:=a;have F:=n_ (st:=st) l c k;exact⟨f,_,⟨F,F.binds Y,W.mg_of X G a⟩,Y kV L pm an U ct⟩
theorem Gm {K:W.Frag}{x:Str}{st:Stmt}{f:Addr}{Y:Value}{od an:Option Addr}{kV L pm J ct:Value}{U:Array (Option Value)}(a:W.nsIn K mainGlobals x=some (some (.ref f)))(l:K.lookup f=some ⟨Y,od,.func (W.fnOf x x (gE st) (fZ st) (dD st) .none kV L pm an J ct),U⟩)(c:W.codeIn K J x=true)(k:W.keepIn K (.ref f)=true):eM K x st:=⟨f,a,Y,od,kV,L,pm,an,J,ct,U,l,c,k⟩
theorem len1 {α:Type}{l:List α}(h:l.length=1):∃a,l=[a]:=match l,h with|[a],_=>⟨a,rfl⟩
theorem len2 {α:Type}{l:List α}(h:l.length=2):∃a b,l=[a,b]:=match l,h with|[a,b],_=>⟨a,b,rfl⟩
theorem jE {α:Type}{l:List α}(h:l.length=3):∃a b c,l=[a,b,c]:=match l,h with|[a,b,c],_=>⟨a,b,c,rfl⟩
theorem ji {α:Type}{l:List α}(h:l.length=4):∃a b c d,l=[a,b,c,d]:=match l,h with|[a,b,c,d],_=>⟨a,b,c,d,rfl⟩
theorem pj {α:Type}{l:List α}(h:l.length=5):∃a b c d e,l=[a,b,c,d,e]:=match l,h with|[a,b,c,d,e],_=>⟨a,b,c,d,e,rfl⟩
theorem Gn {α:Type}{l:List α}(h:l.length=6):∃a b c d e f,l=[a,b,c,d,e,f]:=match l,h with|[a,b,c,d,e,f],_=>⟨a,b,c,d,e,f,rfl⟩
theorem all_mk {l:W.OpenLaw}{w:World}{K:W.Frag}{h:Heap}{mg:Str->Option Value}{fa:Addr}(X:K.In h)(G:h.Ns mainGlobals mg)(bB:mg "law"=some (.ref fa))
 (rB:eM K "is_plain" (top 4))
 (rD:eM K "kind_at" (top 5))
 (rE:eM K "misfit" (top 7))
 (rF:eM K "record_misfit" (top 8))
 (rG:eM K "has_just" (top 9))
 (rH:eM K "rows_misfit" (top 10))
 (rJ:eM K "is_pair" (top 11))
 (rK:eM K "tree_misfit" (top 12))
 (rL:eM K "either_misfit" (top 13))
 (rM:eM K "rank" (top 14))
 (rN:eM K "done" (top 17))
 (rO:eM K "stepped" (top 18))
 (rP:eM K "stepped_in_record" (top 19))
 (rQ:eM K "stepped_in_rows" (top 20))
 (rR:eM K "ends_at_key" (top 21))
 (rS:eM K "row_number" (top 22))
 (rT:eM K "with_at" (top 23))
 (rV:eM K "stepped_in_tree" (top 24))
 (rW:eM K "stepped_in_arm" (top 25))
 (rX:eM K "stepped_in_either" (top 26))
 (rY:eM K "acted" (top 27))
 (rZ:eM K "with_row" (top 28))
 (r8:eM K "without_row" (top 29))
 (r_:eM K "_law_next" (top 31))
 (sj:eM K "_law_number" (top 32))
 (sk:eM K "_law_word" (top 33))
 (so:eM K "_law_names" (top 34))
 (sr:eM K "_law_plain" (top 35))
 (su:eM K "_law_fields" (top 36))
 (sy:eM K "_law_rows_kind" (top 37))
 (sE:eM K "_law_kind" (top 38))
 (sF:eM K "_law_rank" (top 39))
 (sG:eM K "_law_value" (top 41))
 (sH:eM K "_law_same" (top 42))
 (sI:eM K "_law_twin" (top 43))
 (sJ:eM K "_law_deed" (top 44))
 (sL:eM K "_law_deed_in" (top 45))
 (sM:eM K "_law_deed_tree" (top 47))
 (sO:eM K "_law_wide_kind" (top 48))
 (sP:eM K "_law_deeds" (top 49))
 (sQ:eM K "_law_flat" (top 50))
 (sR:eM K "_law_wide_value" (top 51))
 (sS:eM K "law" (top 52))
 {fR:Addr} {bC:Value} {bD a4:Option Addr} {a5 a6 a7 aZ a8:Value} {bE:Array (Option Value)} (aR:W.nsIn K mainGlobals "_law_rows"=some (some (.ref fR))) (lR:K.lookup fR=some ⟨bC,bD,.func (W.fnOf "_law_rows" "_law_rows" (gE (top 40)) (fZ (top 40)) (dD (top 40)) .none a5 a6 a7 a4 aZ a8),bE⟩) (sU:W.codeIn K aZ "_law_rows"=true) (kR:W.keepIn K (.ref fR)=true)
 {fS:Addr} {bF:Value} {bG a9:Option Addr} {ba bb bc a1 bd:Value} {bH:Array (Option Value)} (aS:W.nsIn K mainGlobals "_law_deed_rows"=some (some (.ref fS))) (lS:K.lookup fS=some ⟨bF,bG,.func (W.fnOf "_law_deed_rows" "_law_deed_rows" (gE (top 46)) (fZ (top 46)) (dD (top 46)) .none ba bb bc a9 a1 bd),bH⟩) (sV:W.codeIn K a1 "_law_deed_rows"=true) (kS:W.keepIn K (.ref fS)=true)
 {fF:Addr} {bI:Value} {bJ be:Option Addr} {bf bg bh a2 bi:Value} {bK:Array (Option Value)} (aF:W.nsIn K mainGlobals "in_order"=some (some (.ref fF))) (lF:K.lookup fF=some ⟨bI,bJ,.func (W.fnOf "in_order" "in_order" (gE (top 15)) (fZ (top 15)) (dD (top 15)) .none bf bg bh be a2 bi),bK⟩) (sW:W.codeIn K a2 "in_order"=true) (kF:W.keepIn K (.ref fF)=true)
 (zz:∀x∈(["len","isinstance","sorted","all","range","enumerate","zip","int","bool","str","list","tuple","dict","set","reversed"]:List Str),W.nsIn K mainGlobals x=some none)
 {cR PR:Addr} {bn:Value} {bo:Option Addr} {aW:Array Value} {bp:Array (Option Value)} (sX:aZ=.ref cR) (zZ:K.lookup cR=some ⟨bn,bo,.fields aW,bp⟩) (z0:aW[11]? =some (.ref PR)) (sY:W.codeHdIn K cR PR=true)
 {cS PS:Addr} {bq:Value} {br:Option Addr} {aX:Array Value} {bt:Array (Option Value)} (sZ:a1=.ref cS) (z6:K.lookup cS=some ⟨bq,br,.fields aX,bt⟩) (z7:aX[11]? =some (.ref PS)) (s_:W.codeHdIn K cS PS=true)
 {cF PF:Addr} {bu:Value} {bv:Option Addr} {aY:Array Value} {bw:Array (Option Value)} (ti:a2=.ref cF) (z8:K.lookup cF=some ⟨bu,bv,.fields aY,bw⟩) (z9:aY[11]? =some (.ref PF)) (tj:W.codeHdIn K cF PF=true)
 (tm:PR≠PS/\PF≠PR/\PF≠PS)
 :∃fd:FuncData,(∀(s:Shared) (v:Value),BindsTo s fd ⟨[v],[]⟩ [("_law_script",v)])/\∀base:Heap,K.In base->base.Ns mainGlobals mg->BM mg base->c_ l.prog w K mg base da 217 fa fd ["_law_script"] (rA K PR PS PF):=by
 have zz:=λx hx=>W.mg_none_of X G (zz x hx);have T:Tb mg:=⟨zz _ (by simp),zz _ (by simp),zz _ (by simp),zz _ (by simp),zz _ (by simp),zz _ (by simp),zz _ (by simp),zz _ (by simp),zz _ (by simp),zz _ (by simp),zz _ (by simp),zz _ (by simp),zz _ (by simp),zz _ (by simp),zz _ (by simp)⟩;obtain⟨_,_,aG,_⟩:=eP (ps:=["kind"]) X G rB (λ_ _ _ _ _ _ _ h=>by obtain⟨_,rfl⟩:=len1 h;rfl);obtain⟨_,_,af,_⟩:=eP (ps:=["fields","name"]) X G rD (λ_ _ _ _ _ _ _ h=>by obtain⟨_,_,rfl⟩:=len2 h;rfl);obtain⟨_,_,ae,_⟩:=eP (ps:=["kind","value"]) X G rE (λ_ _ _ _ _ _ _ h=>by obtain⟨_,_,rfl⟩:=len2 h;rfl);obtain⟨_,_,aD,_⟩:=eP (ps:=XV) X G rF (λ_ _ _ _ _ _ _ h=>by obtain⟨_,_,rfl⟩:=len2 h;rfl);obtain⟨_,_,aQ,_⟩:=eP (ps:=XV) X G rG (λ_ _ _ _ _ _ _ h=>by obtain⟨_,_,rfl⟩:=len2 h;rfl);obtain⟨_,_,aL,_⟩:=eP (ps:=Xb) X G rH (λ_ _ _ _ _ _ _ h=>by obtain⟨_,_,rfl⟩:=len2 h;rfl);obtain⟨_,_,aT,_⟩:=eP (ps:=["value"]) X G rJ (λ_ _ _ _ _ _ _ h=>by obtain⟨_,rfl⟩:=len1 h;rfl);obtain⟨_,_,aM,_⟩:=eP (ps:=["kind","tree"]) X G rK (λ_ _ _ _ _ _ _ h=>by obtain⟨_,_,rfl⟩:=len2 h;rfl);obtain⟨_,_,aE,_⟩:=eP (ps:=["fields","value"]) X G rL (λ_ _ _ _ _ _ _ h=>by obtain⟨_,_,rfl⟩:=len2 h;rfl);obtain⟨_,_,aO,_⟩:=eP (ps:=["kind","row"]) X G rM (λ_ _ _ _ _ _ _ h=>by obtain⟨_,_,rfl⟩:=len2 h;rfl);obtain⟨_,_,aU,_⟩:=eP (ps:=Xk) X G rN (λ_ _ _ _ _ _ _ h=>by obtain⟨_,_,_,rfl⟩:=jE h;rfl);obtain⟨_,_,aJ,_⟩:=eP (ps:=Xh) X G rO (λ_ _ _ _ _ _ _ h=>by obtain⟨_,_,_,_,rfl⟩:=ji h;rfl);obtain⟨_,_,am,_⟩:=eP (ps:=Xe) X G rP (λ_ _ _ _ _ _ _ h=>by obtain⟨_,_,_,_,rfl⟩:=ji h;rfl);obtain⟨_,_,aq,_⟩:=eP (ps:=Xj) X G rQ (λ_ _ _ _ _ _ _ h=>by obtain⟨_,_,_,_,rfl⟩:=ji h;rfl);obtain⟨_,_,aj,_⟩:=eP (ps:=Xm) X G rR (λ_ _ _ _ _ _ _ h=>by obtain⟨_,_,rfl⟩:=len2 h;rfl);obtain⟨_,_,U,_⟩:=eP (ps:=XY) X G rS (λ_ _ _ _ _ _ _ h=>by obtain⟨_,_,_,rfl⟩:=jE h;rfl);obtain⟨_,_,aK,_⟩:=eP (ps:=Xa) X G rT (λ_ _ _ _ _ _ _ h=>by obtain⟨_,_,_,rfl⟩:=jE h;rfl);obtain⟨_,_,ar,_⟩:=eP (ps:=XT) X G rV (λ_ _ _ _ _ _ _ h=>by obtain⟨_,_,_,_,rfl⟩:=ji h;rfl);obtain⟨_,_,aA,_⟩:=eP (ps:=XT) X G rW (λ_ _ _ _ _ _ _ h=>by obtain⟨_,_,_,_,rfl⟩:=ji h;rfl);obtain⟨_,_,an,_⟩:=eP (ps:=Xf) X G rX (λ_ _ _ _ _ _ _ h=>by obtain⟨_,_,_,_,rfl⟩:=ji h;rfl);obtain⟨_,_,aP,_⟩:=eP (ps:=Xl) X G rY (λ_ _ _ _ _ _ _ h=>by obtain⟨_,_,_,rfl⟩:=jE h;rfl);obtain⟨_,_,aH,_⟩:=eP (ps:=Xg) X G rZ (λ_ _ _ _ _ _ _ h=>by obtain⟨_,_,_,rfl⟩:=jE h;rfl);obtain⟨_,_,ak,_⟩:=eP (ps:=XY) X G r8 (λ_ _ _ _ _ _ _ h=>by obtain⟨_,_,_,rfl⟩:=jE h;rfl);obtain⟨_,_,J,_⟩:=eP (ps:=XE) X G r_ (λ_ _ _ _ _ _ _ h=>by obtain⟨_,_,rfl⟩:=len2 h;rfl);obtain⟨_,_,al,_⟩:=eP (ps:=XE) X G sj (λ_ _ _ _ _ _ _ h=>by obtain⟨_,_,rfl⟩:=len2 h;rfl);obtain⟨_,_,au,_⟩:=eP (ps:=XE) X G sk (λ_ _ _ _ _ _ _ h=>by obtain⟨_,_,rfl⟩:=len2 h;rfl);obtain⟨_,_,ab,_⟩:=eP (ps:=Xd) X G so (λ_ _ _ _ _ _ _ h=>by obtain⟨_,_,_,rfl⟩:=jE h;rfl);obtain⟨_,_,ao,_⟩:=eP (ps:=XE) X G sr (λ_ _ _ _ _ _ _ h=>by obtain⟨_,_,rfl⟩:=len2 h;rfl);obtain⟨_,_,aN,_⟩:=eP (ps:=XC) X G su (λ_ _ _ _ _ _ _ h=>by obtain⟨_,_,_,_,rfl⟩:=ji h;rfl);obtain⟨_,_,L,_⟩:=eP (ps:=XC) X G sy (λ_ _ _ _ _ _ _ h=>by obtain⟨_,_,_,_,rfl⟩:=ji h;rfl);obtain⟨_,_,ag,_⟩:=eP (ps:=Xc) X G sE (λ_ _ _ _ _ _ _ h=>by obtain⟨_,_,_,rfl⟩:=jE h;rfl);obtain⟨_,_,ah,_⟩:=eP (ps:=XX) X G sF (λ_ _ _ _ _ _ _ h=>by obtain⟨_,_,rfl⟩:=len2 h;rfl);obtain⟨_,_,ac,_⟩:=eP (ps:=XI) X G sG (λ_ _ _ _ _ _ _ h=>by obtain⟨_,_,_,_,rfl⟩:=ji h;rfl);obtain⟨_,_,av,_⟩:=eP (ps:=XM) X G sH (λ_ _ _ _ _ _ _ h=>by obtain⟨_,_,rfl⟩:=len2 h;rfl);obtain⟨_,_,aw,_⟩:=eP (ps:=["_law_thing"]) X G sI (λ_ _ _ _ _ _ _ h=>by obtain⟨_,rfl⟩:=len1 h;rfl);obtain⟨_,_,ax,_⟩:=eP (ps:=XB) X G sJ (λ_ _ _ _ _ _ _ h=>by obtain⟨_,_,_,_,_,rfl⟩:=pj h;rfl);obtain⟨_,_,aI,_⟩:=eP (ps:=XH) X G sL (λ_ _ _ _ _ _ _ h=>by obtain⟨_,_,_,_,_,_,rfl⟩:=Gn h;rfl);obtain⟨_,_,aB,_⟩:=eP (ps:=XB) X G sM (λ_ _ _ _ _ _ _ h=>by obtain⟨_,_,_,_,_,rfl⟩:=pj h;rfl);obtain⟨_,_,aa,_⟩:=eP (ps:=XE) X G sO (λ_ _ _ _ _ _ _ h=>by obtain⟨_,_,rfl⟩:=len2 h;rfl);obtain⟨_,_,ap,_⟩:=eP (ps:=XQ) X G sP (λ_ _ _ _ _ _ _ h=>by obtain⟨_,_,_,_,_,rfl⟩:=pj h;rfl);obtain⟨_,_,ay,_⟩:=eP (ps:=["_law_fields_here"]) X G sQ (λ_ _ _ _ _ _ _ h=>by obtain⟨_,rfl⟩:=len1 h;rfl);obtain⟨_,_,Y,_⟩:=eP (ps:=XZ) X G sR (λ_ _ _ _ _ _ _ h=>by obtain⟨_,_,_,rfl⟩:=jE h;rfl);obtain⟨_,_,aV,hB⟩:=eP (ps:=["_law_script"]) X G sS (λ_ _ _ _ _ _ _ h=>by obtain⟨_,rfl⟩:=len1 h;rfl);subst sX
 have az:Dn K mg "_law_rows" fB (top 40) fR (W.fnOf "_law_rows" "_law_rows" (gE (top 40)) (fZ (top 40)) (dD (top 40)) .none a5 a6 a7 a4 (.ref cR) a8):=by
  have F:=n_ (st:=(top 40)) lR sU kR;exact⟨F,F.binds (λ_ _ _ _ _ _ _ h=>by obtain⟨_,_,_,_,rfl⟩:=ji h;rfl),W.mg_of X G aR⟩
 subst sZ
 have aC:Dn K mg "_law_deed_rows" fP (top 46) fS (W.fnOf "_law_deed_rows" "_law_deed_rows" (gE (top 46)) (fZ (top 46)) (dD (top 46)) .none ba bb bc a9 (.ref cS) bd):=by
  have F:=n_ (st:=(top 46)) lS sV kS;exact⟨F,F.binds (λ_ _ _ _ _ _ _ h=>by obtain⟨_,_,_,_,_,rfl⟩:=pj h;rfl),W.mg_of X G aS⟩
 subst ti
 have ai:Dn K mg "in_order" hU (top 15) fF (W.fnOf "in_order" "in_order" (gE (top 15)) (fZ (top 15)) (dD (top 15)) .none bf bg bh be (.ref cF) bi):=by
  have F:=n_ (st:=(top 15)) lF sW kF;exact⟨F,F.binds (λ_ _ _ _ _ _ _ h=>by obtain⟨_,_,rfl⟩:=len2 h;rfl),W.mg_of X G aF⟩
 have e:=bB.symm.trans aV.m
 cases e;refine⟨_,λs v=>.of_eq (hB [v] rfl),λbase X1 _ a3=>?_⟩;have bx:=W.codeHd_of_K X1 sY;have bz:=W.codeHd_of_K X1 s_;have bA:=W.codeHd_of_K X1 tj;have N:=Dv (P:=l.prog) (w:=w) (base:=base) T J;have Nm:=DP T ab J N;have Pl:=Dx T ao J N;have Nu:=DE T al J N;have Wo:=DH T au J N;have bj:=λd=>kind_all (P:=l.prog) (w:=w) (base:=base) T ag J N ao Pl ab Nm aN L d;have RK:=zj 0 T L ab Nm J N ag (c_.ex (bj 0));have WK:=F9 T aa J N L RK ag (c_.ex (bj 2));have bm:=DT (P:=l.prog) (w:=w) (base:=base) T ah;have VA:=zB (P:=l.prog) (w:=w) (Pd:=PS) (Pi:=PF) T az rfl bx a3 J N ac ah bm al Nu au Wo;have V_:=(VA 11).1;have RV:=(VA 12).2;have FL:=F7 (P:=l.prog) (w:=w) (base:=base) T ay;have WV:=Ga T Y J N ay FL az RV ac V_;have DA:=zN T ax J N aI aC rfl bz a3 aB ac V_ ah bm 57;have DS:=Ge 57 188 T ap ax (DA.mono (by decide));have TW:=yy (P:=l.prog) (w:=w) (base:=base) T aw 70;have SA:=yw (P:=l.prog) (w:=w) (base:=base) T av 70;have M:=yr (P:=l.prog) (w:=w) (base:=base) T ae aD aQ aL aO aM aT aE af;have Ka:=yo (P:=l.prog) (w:=w) (base:=base) T af;have Rk:=yj (P:=l.prog) (w:=w) (base:=base) T aO;have WA:=Eu (P:=l.prog) (w:=w) (base:=base) T aK;have RN:=Ey T U ae (M 1).1 af Ka;have EA:=EB (P:=l.prog) (w:=w) (base:=base) T aj;have WO:=ED T ak U RN;have IO:=EG (P:=l.prog) (w:=w) T ai rfl bA a3 aO Rk;have WR:=EI 9 (by decide) T aH ae (M 9).1 U RN ai IO;have IP:=EK (P:=l.prog) (w:=w) (base:=base) T aG;have AC:=EN 9 (by decide) T aP aG IP ae (M 9).1 aH WR ak WO;have ST:=yR 9 T aJ aP AC am aq ar aA an af Ka ae (M 1).1 aK WA U RN aj EA ai IO;have DO:=E5 9 57 215 T aU aJ (λj hj=>(ST j).mono (by omega));exact Gj tm T aV aa WK Y WV ap DS aw TW av SA aU DO
theorem Gp {K:W.Frag}{x:Str}{f c P:Addr}{oc L:Value}{od U:Option Addr}{fd:FuncData}{sl Y:Array (Option Value)}{J:Array Value}(a:W.nsIn K mainGlobals x=some (some (.ref f)))(l:K.lookup f=some ⟨oc,od,.func fd,sl⟩)(hc:fd.code=.ref c)
 (lc:K.lookup c=some ⟨L,U,.fields J,Y⟩) (hP:J[11]? =some (.ref P)):W.tabIn K x=some (c,P):=by
 unfold W.tabIn;rw[a];dsimp only;rw[l];dsimp only;rw[hc];dsimp only;rw[lc];dsimp only;rw[hP]
def Gq (K:W.Frag) (J:List (Addr × Addr)):Sp:=λvs H Q _=>∃(a:Addr) (ns:List Int),vs=[.ref a]/\hZ K H a ns/\ns.length<=63/\(∀q∈J,H q.2=some (.eS #[]))/\∀H',Q (.bl true) H'
theorem hZ.ofT {K:W.Frag}{H:Hp}{a:Addr}{ns:List Int}{J:List Addr}(o:ow J H)(h:dg K H a (ns.map V.int)):hZ K H a ns:=by
 rcases h with(h|h)|h
 . rcases o a with z|⟨L,xs,z⟩|⟨_,z⟩ <;> rw[h] at z <;> cases z
 . exact .inl h
 . exact .inr h
theorem walk {l:W.OpenLaw}{q:Program}{loose:List Str}{XP:(Str->Option Value)->Heap->Prop}{YP:World->Heap->Prop}{d:DefRec}{K:Params->W.Frag}(hn:l.most=some 63)(aa:d.params.defaults=[])
 (hY:∀(w:World) (h:Heap),YP w h->(K w.params).In h) (ab:∀w:World,W.noTabs (K w.params)=true) (Y:∀y∈(Xn:List Str),∃d',(PyProof.Rows.recsOf q).find? (λe=>e.name == y)=some d')
 (F:∀w:World,∃c1 L c2 U c3 P3:Addr,W.tabIn (K w.params) "_law_rows"=some (c1,L)/\W.tabIn (K w.params) "_law_deed_rows"=some (c2,U)/\W.tabIn (K w.params) "in_order"=some (c3,P3)/\∀(mg:Str->Option Value) (fa:Addr) (h:Heap),(K w.params).In h->h.Ns mainGlobals mg->mg d.name=some (.ref fa)->
   ∃fd:FuncData,(∀(s:Shared) (u:Value),BindsTo s fd ⟨[u],[]⟩ [("_law_script",u)])/\∀base:Heap,(K w.params).In base->base.Ns mainGlobals mg->BM mg base->c_ l.prog w (K w.params) mg base da 217 fa fd ["_law_script"] (rA (K w.params) L U P3)):
 W.WalkO q loose XP YP l.row.toRowW d [] (λf vs=>PySem.call f vs):=
 L2.CT (n:=63) (k:=217) (x:="_law_script") (names:=Xn) (sp:=λw J=>Gq (K w.params) J) hn (by decide) aa ⟨rfl,by decide,by decide⟩ hY ab (λw=>by
   obtain⟨c1,L,c2,U,c3,P3,ht1,gR,tw,F⟩:=F w;refine⟨[(c1,L),(c2,U),(c3,P3)],λq' hq=>?_,λmg fa h X G hm=>?_⟩
   . simp only[Q2f,Q2g,or_false] at hq;rcases hq with e|e|e
     . exact⟨"_law_rows",by simp,by rw[e];exact ht1⟩
     . exact⟨"_law_deed_rows",by simp,by rw[e];exact gR⟩
     . exact⟨"in_order",by simp,by rw[e];exact tw⟩
   obtain⟨fd,hb,hF⟩:=F mg fa h X G hm;exact⟨fd,hb,λbase X1 G1 B=>(hF base X1 G1 B).imp λvs H Q E ⟨a,ns,e,hS,hl,hT,q⟩=>⟨a,ns,e,hS,hl,hT (c1,L) (by simp),hT (c2,U) (by simp),hT (c3,P3) (by simp),q⟩⟩)
   Y λw J H a ns hl hO ac ae=>⟨a,ns,rfl,hZ.ofT hO ae,hl,ac,λ_=>rfl⟩
end Pb
open W PyProof.Rows
set_option maxRecDepth 100000 in
set_option maxHeartbeats 0 in
theorem PySem.Challenge.cw_putback_k10_one_step_holds : PySem.Challenge.rw_putback_k10_one_step.Holds := by
 w_on
 refine holds_law Pb.said λsaid=>?_;refine holds_open (q:=Pb.qv) (loose:=[]) (Xt:=λs=>xlAt Pb.qv [] s && recOk (RowW.records (PySem.W.OpenRow.toRowW (PySem.W.OpenLaw.row PySem.Challenge.rw_putback_k10_one_step))) s) (XP:=XL Pb.qv []) (Yf:=Hook.obs (PySem.W.kmHook Pb.KK Pb.jF Pb.j_ [116,269,339])) (Ya:=Hook.val (PySem.W.kmHook Pb.KK Pb.jF Pb.j_ [116,269,339])) (YP:=Hook.says (PySem.W.kmHook Pb.KK Pb.jF Pb.j_ [116,269,339])) (N:=11013) ?hl (Hook.of (PySem.W.kmHook Pb.KK Pb.jF Pb.j_ [116,269,339])) (Hook.keeps (PySem.W.kmHook Pb.KK Pb.jF Pb.j_ [116,269,339])) (λs e=>xl_of s (Bool.and_eq_true_iff.mp e).1) XL.keeps (by rfl) (by rfl) (by rfl) (λs e=>recFacts_of (Bool.and_eq_true_iff.mp e).2) (by rfl) (by first|assumption|decide +kernel) (by decide +kernel) ⟨rfl,rfl,rfl,rfl,rfl,by decide +kernel⟩ ?hw ?hc
 case hl=>exact Pb.Aa (by rfl) (by rfl) (λs=>rfl) (by rfl) (List.take_append_drop 22 Pb.pC).symm (λP=>by kernel_rfl) Pb.Ak (Pb.Ab Pb.Al (Pb.Ac Pb.Am Pb.An Pb.Ao))
 (case hw=>w_witness2)
 k_fill
 refine Pb.walk (l:=PySem.Challenge.rw_putback_k10_one_step) rfl rfl (λw h Y=>PySem.W.km_in_of Y) (λw=>by kernel_rfl) ?HR ?F
 case HR=>intro y hy;simp only[Q2f,Q2g,or_false] at hy;rcases hy with rfl|rfl|rfl <;> exact⟨_,rfl⟩
 case F=>
  intro w
  refine' ⟨_,_,_,_,_,_,?ht1,?gR,?tw,?GG⟩
  case ht1|gR|tw=>
   refine' Pb.Gp ?ta ?tl ?tc ?Gs ?tP
   (case ta=>k_is);(case tl=>k_is);(case tc=>rfl);(case Gs=>k_is);(case tP=>rfl)
  case GG=>
   intro mg fa h KX G hmg
   refine' Pb.all_mk KX G hmg ?rB ?rD ?rE ?rF ?rG ?rH ?rJ ?rK ?rL ?rM ?rN ?rO ?rP ?rQ ?rR ?rS ?rT ?rV ?rW ?rX ?rY ?rZ ?r8 ?r_ ?sj ?sk ?so ?sr ?su ?sy ?sE ?sF ?sG ?sH ?sI ?sJ ?sL ?sM ?sO ?sP ?sQ ?sR ?sS ?aR ?lR ?sU ?kR ?aS ?lS ?sV ?kS ?aF ?lF ?sW ?kF ?zz ?sX ?zZ ?z0 ?sY ?sZ ?z6 ?z7 ?s_ ?ti ?z8 ?z9 ?tj ?tm
   case rB|rD|rE|rF|rG|rH|rJ|rK|rL|rM|rN|rO|rP|rQ|rR|rS|rT|rV|rW|rX|rY|rZ|r8|r_|sj|sk|so|sr|su|sy|sE|sF|sG|sH|sI|sJ|sL|sM|sO|sP|sQ|sR|sS=>
    refine' Pb.Gm ?a ?l ?c ?k
    (case a=>k_is);(case l=>k_is);(case c=>k_is);(case k=>k_is)
   (case aR=>k_is);(case lR=>k_is);(case sU=>k_is);(case kR=>k_is)
   (case aS=>k_is);(case lS=>k_is);(case sV=>k_is);(case kS=>k_is)
   (case aF=>k_is);(case lF=>k_is);(case sW=>k_is);(case kF=>k_is)
   case zz=>intro x hx;simp only[Q2f,Q2g,or_false] at hx;rcases hx with rfl|rfl|rfl|rfl|rfl|rfl|rfl|rfl|rfl|rfl|rfl|rfl|rfl|rfl|rfl <;> k_is
   (case sX=>rfl);(case zZ=>k_is);(case z0=>rfl);(case sY=>kernel_rfl)
   (case sZ=>rfl);(case z6=>k_is);(case z7=>rfl);(case s_=>kernel_rfl)
   (case ti=>rfl);(case z8=>k_is);(case z9=>rfl);(case tj=>kernel_rfl)
   (case tm=>decide)
