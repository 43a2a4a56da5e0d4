import PyProof.Rows.All
import Wide.All
import OpenK.AllK
import Wide.FinOn
import Lean
import PyProof.EqAt
import PyProof.EqKinds
import PyProof.TupleCall
import KE.KSortAsk
import PyProof.NeKinds
import PyProof.StationsW
import PyProof.ExcClass3
import PyProof.Rows.Own
import PyProof.NsDelKeeps
import KE.KIsAll
import PyProof.ExcAttrAll.ValueError
import PyProof.IsiH_list
import PyProof.Rows.FStr
import PyProof.FString4
import PyProof.StrLawsRepr
import PyProof.Rows.StrMeet
import PyProof.DictWalks
import PyProof.Draws
import KE.KDictOf
import PyProof.AttrMissHeap
import PyProof.Rows.DictListVals
import PyProof.ExcInit
import PyProof.InstStoreFacts
import PyProof.Rows.SetFrom
import PyProof.StrLawsIn
import PyProof.Rows.StrNews2
import PyProof.StrBlockI
import KE.IntText
import KE.KIntText
import PyProof.FString5
import PyProof.DictUpdate
import PyProof.DictItemsLoops
import PyProof.ExcBaseAll.ValueError
import KE.KEqDict
import KE.KRevIter
import PySem.Challenge.RW_putback_k85_desk_undone
open PySem renaming wpAny_bind→Q00,wpAny_pure→Q03,wpAny_mono→Q0h
open Nat renaming le_refl→Q01,ne_of_lt→Q09,lt_of_lt_of_le→Q0a,zero_le→Q0b,le_trans→Q0c,lt_irrefl→Q0l,le_of_lt→Q0m,ne_of_gt→Q0n,le_of_not_lt→Q1,le_succ→Q13,le_add_right→Q14,sub_self→Q16,lt_of_le_of_lt→Q19,lt_succ_self→Q1e,le_of_eq→Q1j,lt_succ_of_lt→Q1r,succ_le_succ→Q2v
open PySem.Heap renaming lt_size→Q02,get?_push_of_some→Q04,get?_push_size→Q0d,size_push→Q0w,get?_update_other→Q15,get?_update_self→Q18,get?_none_of_le→Q2,size_update→Q26,get?_update_ne→Q27,get?_push_at→Q29,get?_push_ne→Q2p
open List renaming getElem?_eq_getElem→Q05,length_map→Q06,length_append→Q07,size_toArray→Q08,mem_append_right→Q0e,mem_cons_self→Q0f,getElem?_map→Q0g,getElem?_append_right→Q0i,mem_cons_of_mem→Q0j,map_append→Q0k,length_take→Q0o,getD_eq_getElem?_getD→Q0p,getElem?_append_left→Q0q,length_cons→Q0r,filter_cons→Q0s,getElem_mem→Q0t,take_succ→Q0u,map_cons→Q0v,append_nil→Q0x,mem_of_getElem?→Q0y,length_filter_le→Q0z,length_range→Q10,length_replicate→Q17,lookup_cons→Q1a,take_length→Q1b,take_of_length_le→Q1d,any_cons→Q1f,find?_cons→Q1g,getElem_of_mem→Q1h,all_eq_true→Q1k,getElem_map→Q1l,mem_append_left→Q1n,map_congr_left→Q1o,forIn_cons→Q1p,pairwise_map→Q1q,replicate_succ→Q1s,foldl_cons→Q1t,mem_cons→Q1u,map_map→Q1w,length_reverse→Q1x,filterMap_cons→Q1z,getElem?_set_self→Q20,getElem?_set_ne→Q21,of_mem_zip→Q22,all_cons→Q23,length_singleton→Q24,getElem_take→Q28,not_mem_nil→Q2a,eq_of_mem_replicate→Q2b,filter_append→Q2c,foldl_append→Q2d,getElem?_replicate→Q2g,take_sublist→Q2h,length_drop→Q2i,length_nil→Q2k,ext_getElem→Q2n,pairwise_singleton→Q2o,lt_irrefl→Q2r,mem_map_of_mem→Q2s,append_assoc→Q2t,getElem?_eq_none→Q2u,any_eq_true→Q2w,range_succ→Q2x,mem_singleton→Q2y,getElem?_zip_eq_some→Q2z,zipIdx_cons→Q3,zipIdx_nil→Q30,forIn_nil→Q31,dropLast_concat_getLast→Q32
open Int renaming emod_nonneg→Q11,emod_lt_of_pos→Q12,le_refl→Q1c,toNat_natCast→Q1v
open Array renaming length_toList→Q1i,getD_eq_getD_getElem?→Q1m,append_empty→Q1y,empty_append→Q2e,find?_toList→Q2f,getElem?_eq_getElem→Q2m,forIn_toList→Q2q
open Option renaming isSome_map→Q25,getD_none→Q2j,getD_some→Q2l
set_option genSizeOf false
set_option Elab.async false
set_option linter.all false
set_option maxRecDepth 100000
set_option maxHeartbeats 4000000
theorem nG:0<=PySem.sizeLine:=by decide
theorem gR:1<=PySem.sizeLine:=by decide
theorem dg:2<=PySem.sizeLine:=by decide
theorem sW:3<=PySem.sizeLine:=by decide
theorem adP:6<=PySem.sizeLine:=by decide
namespace L2
open PySem PySem.Spec PyProof.Rows
noncomputable def fM (s:Stmt):Arguments:=match s with
 | .FunctionDef _ a _ _ _ _ _ _ _ _=>a
 |_=>{ posonlyargs:=[],args:=[],vararg:=none,kwonlyargs:=[],kw_defaults:=[],kwarg:=none,defaults:=[] }
noncomputable def eE (s:Stmt):List Stmt:=match s with
 | .FunctionDef _ _ b _ _ _ _ _ _ _=>b
 |_=>[]
noncomputable def aL (s:Stmt):Scope:=match s with
 | .FunctionDef _ _ _ _ _ _ sc _ _ _=>sc
 |_=>{ kind:=.function,names:=[],isGenerator:=false,isCoroutine:=false }
end L2
namespace Pb
open PySem L2
noncomputable def top (i:Nat):Stmt:=PySem.Challenge.pw_putback_k85_desk_undone.main.body.getD i (.Pass ⟨0,0,0,0⟩)
noncomputable def aJ (i j:Nat):Stmt:=match top i with
 | .ClassDef _ _ _ body _ _ _ _ _ _ _=>body.getD j (.Pass ⟨0,0,0,0⟩)
 |_=>.Pass ⟨0,0,0,0⟩
end Pb
namespace Pb
open PySem PySem.W
noncomputable def treeOf:List Obj->Nat->BT->Option BT
 |[],_,t=>some t
 |o::l,n,t=>match((t.ins n o).get n).isSome with
  |true=>treeOf l (n+1) (t.ins n o)
  |false=>none
theorem Qt {life:Life}:∀(l:List Obj) (n:Nat) (t t':BT),treeOf l n t=some t'->absHeap t' (n+l.length) life=⟨(absHeap t n life).objs++l.toArray,life⟩
 |[],n,t,t',h=>by
  cases h
  show absHeap t n life=_
  have:(absHeap t n life).objs++#[]=(absHeap t n life).objs:=Q1y
  rw[this];rfl
 |o::l,n,t,t',h=>by
  unfold treeOf at h
  cases e:((t.ins n o).get n).isSome with
  |false=>rw[e] at h;cases h
  |true=>
   rw[e] at h
   have:=Qt (life:=life) l (n+1) _ t' h
   rw[absHeap_ins e] at this
   have e2:n+(o::l).length=n+1+l.length:=by rw[Q0r];omega
   rw[e2,this]
   show Heap.mk ((absHeap t n life).objs.push o++l.toArray) life=_
   congr 1
   apply Array.ext'
   simp
noncomputable def vR (tb:String->Option Builtin) (p:Program) (w:World) (n₀:Nat) (ann:Option Value):Nat->SharedT->Thread->Option SharedT
 |0,_,_=>none
 |n+1,s,t=>match through t with
  |true=>some s
  |false=>match stepOk n₀ ann t with
   |false=>none
   |true=>match stepT (denote tb) p w s t with
    |some (s',t')=>vR tb p w n₀ ann n s' t'
    |none=>none
theorem Qu {tb:String->Option Builtin}{p:Program}{w:World}{n₀:Nat}{ann:Option Value}:∀{n:Nat}{s s':SharedT}{t:Thread},vR tb p w n₀ ann n s t=some s'->topRun tb p w n₀ ann n s.abs t=some s'.abs
 |0,_,_,_,h=>by cases h
 |n+1,s,s',t,h=>by
  unfold vR at h
  unfold topRun
  cases he:through t with
  |true=>rw[he] at h;cases h;rfl
  |false=>
   rw[he] at h
   cases hk:stepOk n₀ ann t with
   |false=>rw[hk] at h;cases h
   |true=>
    rw[hk] at h
    cases hs:stepT (denote tb) p w s t with
    |none=>rw[hs] at h;cases h
    |some r=>obtain⟨s₂,t₂⟩:=r;rw[hs] at h;rw[stepT_spec hs];exact Qu h
noncomputable abbrev qH:=@W.Fast.tw10156331382660048174
noncomputable abbrev kO:=@W.Fast.tw11892475500146522536
noncomputable abbrev kW:=@W.Fast.tw14364793385576792824
noncomputable abbrev vU:=@W.Fast.tw6613529449190102663
noncomputable abbrev seenQ:=@W.Fast.tw4187177175401517315
noncomputable def qI (p:Program) (w:World) (n₀:Nat) (ann:Option Value):Nat->SharedT->Thread->Option SharedT
 |0,_,_=>none
 |n+1,s,t=>match through t with
  |true=>some s
  |false=>match vU n₀ ann t with
   |false=>none
   |true=>match qH (kO kW) p w s t with
    |some (s',t')=>qI p w n₀ ann n s' t'
    |none=>none
theorem Qv {p:Program}{w:World}{n₀:Nat}{ann:Option Value}:∀(n:Nat) (s:SharedT) (t:Thread),qI p w n₀ ann n s t=vR treeTable p w n₀ ann n s t
 |0,_,_=>rfl
 |n+1,s,t=>by
  unfold qI vR
  have e1:vU n₀ ann t=stepOk n₀ ann t:=congrFun (congrFun (congrFun W.Fast.te6613529449190102663.symm _) _) _
  have e2:qH (kO kW) p w s t=stepT (denote treeTable) p w s t:=by rw[show @qH=@stepT from W.Fast.te10156331382660048174.symm,show @kO=@denote from W.Fast.te11892475500146522536.symm,show @kW=@treeTable from W.Fast.te14364793385576792824.symm]
  rw[e1,e2]
  simp only[Qv n]
noncomputable def looksAt (p q:Program) (loose:List Str) (Xt:Shared->Bool) {α:Type}(Yf:Shared->α) (g0:Bool) (h₀:Heap) (s:Shared):=
 ((staticsOk (importedModules p.main.body) h₀ s.heap && namesBound p s.heap && gensDone s && laidKept h₀ s.heap),seenQ q loose (importedModules p.main.body) Xt g0 s,Yf s)
noncomputable def Qw:List (Nat × Obj)->BT->BT
 |[],t=>t
 |(a,o)::l,t=>Qw l (t.ins a o)
noncomputable def FT:Nat->List Obj->BT->BT
 |_,[],t=>t
 |n,o::l,t=>FT (n+1) l (t.ins n o)
noncomputable def vV (p:Program) (w:World) (n₀:Nat) (ann:Option Value):Nat->SharedT->Thread->Option (Flow × SharedT × Code × Pos)
 |0,_,_=>none
 |n+1,s,t=>match endAt 1 t with
  |some f=>some (f,s,t.code,t.pos)
  |none=>match vU n₀ ann t with
   |false=>none
   |true=>match qH (kO kW) p w s t with
    |some (s',t')=>vV p w n₀ ann n s' t'
    |none=>none
theorem Qx (n₀:Nat)(ann:Option Value)(t:Thread):vU n₀ ann t=stepOk n₀ ann t:=congrFun (congrFun (congrFun W.Fast.te6613529449190102663.symm _) _) _
theorem Qy:@kO kW=denote treeTable:=by rw[show @kO=@denote from W.Fast.te11892475500146522536.symm,show @kW=@treeTable from W.Fast.te14364793385576792824.symm]
theorem Qz (p:Program)(w:World)(s:SharedT)(t:Thread):qH (kO kW) p w s t=stepT (denote treeTable) p w s t:=by rw[show @qH=@stepT from W.Fast.te10156331382660048174.symm,Qy]
theorem QB {p:Program}{w:World}{n₀:Nat}{ann:Option Value}:∀(n:Nat) (s:SharedT) (t:Thread),vV p w n₀ ann n s t=segRunT treeTable p w n₀ ann 1 n s t
 |0,_,_=>rfl
 |n+1,s,t=>by
  unfold vV segRunT
  rw[Qx,Qz]
  cases endAt 1 t with
  |some f=>rfl
  |none=>
   cases stepOk n₀ ann t with
   |false=>rfl
   |true=>
    cases stepT (denote treeTable) p w s t with
    |none=>rfl
    |some r=>obtain⟨s',t'⟩:=r;exact QB n s' t'
noncomputable def vW (tb:String->Option Builtin) (p:Program) (w:World) (n₀:Nat) (ann:Option Value):Nat->SharedT->Thread->Option (SharedT × Thread)
 |0,s,t=>some (s,t)
 |n+1,s,t=>match through t with
  |true=>none
  |false=>match stepOk n₀ ann t with
   |false=>none
   |true=>match stepT (denote tb) p w s t with
    |some (s',t')=>vW tb p w n₀ ann n s' t'
    |none=>none
theorem QC {tb:String->Option Builtin}{p:Program}{w:World}{n₀:Nat}{ann:Option Value}:∀{n:Nat}{s s':SharedT}{t t':Thread},vW tb p w n₀ ann n s t=some (s',t')->topGo tb p w n₀ ann n s.abs t=some (s'.abs,t')
 |0,s,s',t,t',h=>by
  have h:some (s,t)=some (s',t'):=h
  cases h
  rfl
 |n+1,s,s',t,t',h=>by
  unfold vW at h
  unfold topGo
  cases he:through t with
  |true=>rw[he] at h;cases h
  |false=>
   rw[he] at h
   cases hk:stepOk n₀ ann t with
   |false=>rw[hk] at h;cases h
   |true=>
    rw[hk] at h
    cases hs:stepT (denote tb) p w s t with
    |none=>rw[hs] at h;cases h
    |some r=>obtain⟨s₂,t₂⟩:=r;rw[hs] at h;rw[stepT_spec hs];exact QC h
noncomputable def zE (p:Program) (w:World) (n₀:Nat) (ann:Option Value):Nat->SharedT->Thread->Option (SharedT × Thread)
 |0,s,t=>some (s,t)
 |n+1,s,t=>match through t with
  |true=>none
  |false=>match vU n₀ ann t with
   |false=>none
   |true=>match qH (kO kW) p w s t with
    |some (s',t')=>zE p w n₀ ann n s' t'
    |none=>none
theorem QD {p:Program}{w:World}{n₀:Nat}{ann:Option Value}:∀(n:Nat) (s:SharedT) (t:Thread),zE p w n₀ ann n s t=vW treeTable p w n₀ ann n s t
 |0,_,_=>rfl
 |n+1,s,t=>by
  unfold zE vW
  rw[Qx,Qz]
  simp only[QD n]
noncomputable def zF (p:Program) (w:World) (n₀:Nat) (ann:Option Value) (env:Env) (c:Code) (q0:Pos) (l:List Stmt) (k1 k2 k3:Nat) (s:SharedT):Option (Thread × Code × Code × SharedT × Pos):=
 match zE p w n₀ ann k1 s (topStub p) with
 |none=>none
 |some (s1,t1)=>match vV p w n₀ ann k2 s1 (blockOf (behindTheImports p) env c t1.pos [topFrame q0]) with
  |some (.next,s2,c2,p2)=>(match vV p w n₀ ann k3 s2 (piecesOf l env c p2 [topFrame q0]) with
   |some (.next,s3,c3,p3)=>some (t1,c2,c3,s3,p3)
   |_=>none)
  |_=>none
theorem adQ {p:Program}{w:World}{n₀:Nat}{ann:Option Value}{env:Env}{c:Code}{q0 pos1 p3:Pos}{l rest:List Stmt}{k1 k2 k3 N:Nat}{s s3:SharedT}{r:Shared}(hb:behindTheImports p=l++rest)
 (h:zF p w n₀ ann env c q0 l k1 k2 k3 s=some (⟨kO kW (.body (behindTheImports p) env),c,pos1,[topFrame q0]⟩,c,c,s3,p3))
 (k:topRun treeTable p w n₀ ann N s3.abs (restOf rest env c p3 [topFrame q0])=some r):topRun treeTable p w n₀ ann (k1+(k2+(k3+N))) s.abs (topStub p)=some r:=by
 unfold zF at h
 split at h
 . cases h
 next s1 t1 e1=>
  split at h
  next s2 c2 p2 e2=>
   split at h
   next s3' c3 p3' e3=>
    cases h
    rw[QD] at e1
    rw[QB] at e2 e3
    have g1:=QC e1
    rw[Qy] at g1
    have g3:=piece_app (rest:=rest) (segRun_of e3) k
    rw[<-hb] at g3
    exact go_top g1 (piece_block (segRun_of e2) g3)
   . cases h
  . cases h
noncomputable def FW (P:Params):BT:=(treeOf (boot_heap P).objs.toList 0 .nil).getD .nil
noncomputable def zG (w:World) (os:OsState):SharedT:=⟨FW w.params,(boot_heap w.params).objs.size,(boot_heap w.params).life,#[],boot_drawn,boot_toks,os⟩
theorem adR {p q:Program}{loose:List Str}{Xt:Shared->Bool}{α:Type}{Yf:Shared->α}{Ya:World->α}{N:Nat}{g0:Bool}{env:Env}{c:Code}{q0 pos1 p3:Pos}{l rest:List Stmt}{k1 k2 k3 N4 n₀:Nat}{ann:Option Value}{S3:World->OsState->SharedT}
 (e:opening p=plainProg p.main.scope.names) (hN:Nat.ble 600 N=true) (f:∀s,fenceModules? p s=some s) (hNN:N=k1+(k2+(k3+N4))) (hb:behindTheImports p=l++rest)
 (b0:∀P:Params,((boot_heap P).isNs mainGlobals,(treeOf (boot_heap P).objs.toList 0 .nil).isSome,(boot_heap P).objs.size,(boot_heap P).nsMap mainGlobals "__annotations__")=(true,true,n₀,ann))
 (adT:∀w os,zF p w n₀ ann env c q0 l k1 k2 k3 (zG w os)=some (⟨kO kW (.body (behindTheImports p) env),c,pos1,[topFrame q0]⟩,c,c,S3 w os,p3))
 (adU:∀w os,((qI p w n₀ ann N4 (S3 w os) (restOf rest env c p3 [topFrame q0])).map λ(s:SharedT)=>looksAt p q loose Xt Yf g0 (boot_heap w.params) s.abs)=some (true,openGood q loose,Ya w)):LeftO p q loose Xt Yf Ya N g0:=λw=>by
 obtain⟨⟨h,gs,d,k,os⟩,e1,e'⟩:=Option.map_eq_some_iff.mp (boot_open e hN f w)
 obtain⟨rfl,rfl,rfl,rfl⟩:h=boot_heap w.params/\gs=Array.mk []/\d=boot_drawn/\k=boot_toks:=by simpa using e'
 have hb0:=b0 w.params
 obtain⟨z,y0,hsz,han⟩:_/\_/\_/\_:=by simpa only[Prod.mk.injEq] using hb0
 obtain⟨T,y⟩:=Option.isSome_iff_exists.mp y0
 obtain⟨s,r1,r2⟩:=Option.map_eq_some_iff.mp (adU w os)
 rw[Qv] at r1
 have r3:=adQ hb (adT w os) (Qu r1)
 rw[<-hNN] at r3
 have hT:=Qt (life:=(boot_heap w.params).life) _ _ _ _ y
 have hS:SharedT.abs (zG w os)=⟨boot_heap w.params,#[],boot_drawn,boot_toks,os⟩:=by
  unfold SharedT.abs zG FW
  dsimp only
  rw[y]
  dsimp only[Option.getD]
  rw[Nat.zero_add,Q1i] at hT
  rw[hT]
  have e0:(absHeap BT.nil 0 (boot_heap w.params).life).objs=#[]:=rfl
  rw[e0,Q2e,Array.toArray_toList]
 rw[hS] at r3
 have t:topFrom treeTable p w N ⟨boot_heap w.params,#[],boot_drawn,boot_toks,os⟩=some s.abs:=by
  unfold topFrom
  dsimp only
  rw[z,hsz,han,r3]
  have l1:=congrArg (λz=>z.1) r2
  dsimp only[looksAt] at l1
  show(match staticsOk (importedModules p.main.body) (boot_heap w.params) s.abs.heap && namesBound p s.abs.heap && gensDone s.abs && laidKept (boot_heap w.params) s.abs.heap with|true=>_|false=>_)=_
  rw[l1]
 unfold openEnds
 rw[e1]
 show(topFrom treeTable p w N _).map _=_
 rw[t]
 have l2:=congrArg (λz=>z.2) r2
 dsimp only[looksAt] at l2
 rw[show @seenQ=@openSeen from W.Fast.te4187177175401517315.symm] at l2
 exact congrArg some l2
theorem adV {p q:Program}{loose:List Str}{Xt:Shared->Bool}{α:Type}{Yf:Shared->α}{Ya:World->α}{g0:Bool}{N4 n₀:Nat}{ann:Option Value}{S3 S5:World->OsState->SharedT}{t:Thread}
 (b:∀w os,qI p w n₀ ann N4 (S3 w os) t=some (S5 w os)) (l:∀w os,looksAt p q loose Xt Yf g0 (boot_heap w.params) (S5 w os).abs=(true,openGood q loose,Ya w)):
 ∀w os,((qI p w n₀ ann N4 (S3 w os) t).map λ(s:SharedT)=>looksAt p q loose Xt Yf g0 (boot_heap w.params) s.abs)=some (true,openGood q loose,Ya w):=λw os=>by
 rw[b]
 exact congrArg some (l w os)
theorem adW {p q:Program}{loose:List Str}{Xt:Shared->Bool}{α:Type}{Yf:Shared->α}{Ya:World->α}{g0:Bool}{S5:World->OsState->SharedT}
 (l1:∀w os,(staticsOk (importedModules p.main.body) (boot_heap w.params) (S5 w os).abs.heap && namesBound p (S5 w os).abs.heap && gensDone (S5 w os).abs && laidKept (boot_heap w.params) (S5 w os).abs.heap)=true)
 (l2:∀w os,seenQ q loose (importedModules p.main.body) Xt g0 (S5 w os).abs=openGood q loose) (l3:∀w os,Yf (S5 w os).abs=Ya w):
 ∀w os,looksAt p q loose Xt Yf g0 (boot_heap w.params) (S5 w os).abs=(true,openGood q loose,Ya w):=λw os=>Prod.ext (l1 w os) (Prod.ext (l2 w os) (l3 w os))
end Pb
namespace Pb
open PySem L2
noncomputable section
open PySem
noncomputable def hF (x q:Str) (s:Stmt) (m:Str) (n c:Nat):Obj:=.mk (.type "function") none (.func (.mk x q (fM s) (.stmts (eE s)) (aL s) 3 [] .none .none .none (.str m n) none (.ref c) .none 0)) #[]
noncomputable def hR (x q:Str) (s:Stmt):Obj:=.mk .none none (.func (.mk x q (fM s) (.stmts (eE s)) (aL s) 0 [] .none .none .none .none none .none .none 0)) #[]
noncomputable def hC (x q:Str) (a l n k r e:Nat):Obj:=.mk (.type "code") none (.fields #[.str x a,.str q (a+1),.str (.ofString "/claim/cut.py") (a+2),.int l 0,.int n 0,.int 0 0,.int 0 0,.int k 0,.ref r,.bool true,.int 181 0,.ref (r+1),.none,.ref (r+2),.ref (r+3),.ref (r+4),.int e 0,.int l 0,.str (.ofString "/claim/cut.py") (e+1)]) #[]
noncomputable def QF (x q:Str) (a l n k r e:Nat):Obj:=.mk (.type "code") none (.fields #[.str x a,.str q (a+1),.str (.ofString "/claim/cut.py") (a+2),.int l 0,.int n 0,.int 0 0,.int 0 0,.int k 0,.ref r,.bool true,.int 181 0,.ref (r+1),.none,.none,.none,.ref (r+2),.int e 0,.int l 0,.str (.ofString "/claim/cut.py") (e+1)]) #[]
noncomputable def hK (x:Str) (a l r e:Nat):Obj:=.mk (.type "code") none (.fields #[.str x a,.str x (a+1),.str (.ofString "/claim/cut.py") (a+2),.int l 0,.int 0 0,.int 0 0,.int 0 0,.int 0 0,.ref r,.bool false,.int 181 0,.ref (r+1),.none,.none,.none,.none,.int e 0,.int l 0,.str (.ofString "/claim/cut.py") (e+1)]) #[]
noncomputable def bf (x:Str) (s:Stmt) (m:Str) (n c:Nat):Obj:=hF x x s m n c
noncomputable def bh (x:Str) (s:Stmt):Obj:=hR x x s
noncomputable def bI (x:Str) (a l n k r e:Nat):Obj:=hC x x a l n k r e
noncomputable def iu (x:Str) (a l n k r e:Nat):Obj:=QF x x a l n k r e
noncomputable def tS:Nat->List Str->List Value
 |_,[]=>[]
 |n,x::r=>.str x n::tS (n+1) r
noncomputable def hT (n:Nat) (l:List Str):Obj:=.mk (.type "tuple") none (.seq (tS n l).toArray) #[]
noncomputable def tI:List (Nat × Nat × Nat)->List Value
 |[]=>[]
 |(a,b,c)::r=>.int a 0:: .int b 0:: .ref c::tI r
noncomputable def hI (l:List (Nat × Nat × Nat)):Obj:=.mk .none none (.fields (tI l).toArray) #[]
noncomputable def hE (P:Params) (x:Str) (a:Nat) (v:Value):DictEntry:=.mk (PyData.keyHash P x) (.str x a) v
noncomputable def mN0:Str:="__main__"
noncomputable def zH:Str:="putback.errors"
noncomputable def zJ:Str:="putback.kinds"
noncomputable def iY:Str:="putback.values"
noncomputable def gw:Str:="putback.papers"
noncomputable def iZ:Str:="putback.desk"
noncomputable def qJ:Str:="putback.views"
noncomputable def nH:Str:="putback.fields"
noncomputable def eF:Str:="law_putback_k85_desk_undone"
noncomputable def aof (x q:Str) (s:Stmt) (m:Value) (c:Nat):Obj:=.mk (.type "function") none (.func (.mk x q (fM s) (.stmts (eE s)) (aL s) 3 [] .none .none .none m none (.ref c) .none 0)) #[]
noncomputable def aog (x q:Str) (a l n k r f b e:Nat):Obj:=.mk (.type "code") none (.fields #[.str x a,.str q (a+1),.str (.ofString "/claim/cut.py") (a+2),.int l 0,.int n 0,.int 0 0,.int 0 0,.int k 0,.ref r,.bool true,.int f 0,.ref (r+1),.none,.ref (r+2),.ref (r+3),.ref (r+4),.int b 0,.int l 0,.str (.ofString "/claim/cut.py") e]) #[]
noncomputable def aoh (P:Params) (x:Str) (a:Nat) (v:Value):DictEntry:=.mk (PyData.keyHash P x) (.str x a) v
noncomputable def ob2:Obj:=.mk .none none (.dict #[]) #[]
noncomputable def QG (P:Params):Obj:=.mk (.type "dict") none (.dict #[hE P "__name__" 165 (.str (.ofString "law_putback_k85_desk_undone") 1071),hE P "__doc__" 166 .none,hE P "__package__" 167 .none,hE P "__loader__" 168 (.builtin "__main__.__loader__#opaque"),hE P "__spec__" 169 .none,hE P "__annotations__" 170 (.ref 6),hE P "__builtins__" 171 (.ref 4),hE P "__file__" 173 (.str (.ofString "/claim/cut.py") 172),hE P "__cached__" 174 .none,hE P "_wall" 193 (.ref 21),hE P "ViewError" 213 (.ref 31),hE P "NoKind" 229 (.ref 44),hE P "NoName" 245 (.ref 56),hE P "Twice" 261 (.ref 68),hE P "NoDeed" 277 (.ref 80),hE P "NoView" 302 (.ref 99),hE P "CantPut" 327 (.ref 118),hE P "NoFit" 352 (.ref 137),hE P "NoPaper" 377 (.ref 156),hE P "is_plain" 386 (.ref 165),hE P "kind_at" 395 (.ref 172),hE P "sorted_fields" 405 (.ref 179),hE P "record_of" 412 (.ref 186),hE P "misfit" 423 (.ref 193),hE P "record_misfit" 434 (.ref 200),hE P "has_just" 440 (.ref 205),hE P "rows_misfit" 452 (.ref 212),hE P "is_pair" 459 (.ref 219),hE P "tree_misfit" 470 (.ref 226),hE P "either_misfit" 480 (.ref 233),hE P "empty" 489 (.ref 240),hE P "empty_record" 499 (.ref 247),hE P "copied" 505 (.ref 252),hE P "copied_record" 516 (.ref 259),hE P "rank" 526 (.ref 266),hE P "in_order" 535 (.ref 273),hE P "by_key" 545 (.ref 280),hE P "done" 559 (.ref 287),hE P "between" 568 (.ref 294),hE P "stepped" 579 (.ref 301),hE P "stepped_in_record" 593 (.ref 308),hE P "stepped_in_rows" 605 (.ref 315),hE P "ends_at_key" 613 (.ref 322),hE P "row_number" 624 (.ref 329),hE P "with_at" 633 (.ref 336),hE P "stepped_in_tree" 644 (.ref 343),hE P "stepped_in_arm" 657 (.ref 350),hE P "stepped_in_either" 669 (.ref 357),hE P "acted" 680 (.ref 364),hE P "with_row" 689 (.ref 371),hE P "without_row" 699 (.ref 378),hE P "paper_at" 710 (.ref 385),hE P "record_paper" 723 (.ref 392),hE P "rows_paper" 737 (.ref 399),hE P "tree_paper" 751 (.ref 406),hE P "first_source" 762 (.ref 413),hE P "shown" 771 (.ref 420),hE P "Desk" 898 (.ref 520),hE P "ask_fit" 909 (.ref 531),hE P "ask_stands" 916 (.ref 538),hE P "View" 978 (.ref 583),hE P "has_each_once" 986 (.ref 592),hE P "fields_among" 992 (.ref 597),hE P "part_of" 1002 (.ref 604),hE P "Take" 1070 (.ref 656),hE P "_law_next" 1082 (.ref 665),hE P "_law_number" 1092 (.ref 672),hE P "_law_word" 1098 (.ref 677),hE P "_law_names" 1104 (.ref 682),hE P "_law_plain" 1112 (.ref 689),hE P "_law_fields" 1118 (.ref 694),hE P "_law_rows_kind" 1124 (.ref 699),hE P "_law_kind" 1134 (.ref 706),hE P "_law_rank" 1142 (.ref 713),hE P "_law_rows" 1148 (.ref 718),hE P "_law_value" 1154 (.ref 723),hE P "_law_same" 1160 (.ref 728),hE P "_law_spare" 1169 (.ref 735),hE P "_law_some" 1175 (.ref 740),hE P "_law_sets" 1191 (.ref 747),hE P "_law_taken" 1197 (.ref 752),hE P "_law_pairs" 1203 (.ref 757),hE P "_law_change" 1213 (.ref 764),hE P "_law_put_by" 1224 (.ref 771),hE P "_law_undo" 1233 (.ref 778),hE P "_law_undone" 1243 (.ref 785),hE P "_law_deed_by" 1264 (.ref 792),hE P "_law_hung" 1270 (.ref 797),hE P "law" 1289 (.ref 804)] 89) #[]
def QH:Obj:=bI "_wall" 187 1 1 3 15 191
def QJ:Obj:=bf "_wall" (top 0) mN0 164 20
noncomputable def QK (P:Params):Obj:=.mk (.type "dict") none (.dict #[hE P "__module__" 203 (.str (.ofString "putback.errors") 194),hE P "__firstlineno__" 207 (.int 5 206),hE P "__static_attributes__" 208 (.ref 29),hE P "__weakref__" 210 (.ref 32),hE P "__doc__" 211 .none] 3) #[]
noncomputable def QL:Obj:=.mk (.type "type") none (.cls (.mk (.ofString "ViewError") [.type "ValueError"] [.ref 31,.type "ValueError",.type "Exception",.type "BaseException",.type "object"] 30 (.ofString "ViewError") true [] [.ref 44,.ref 56,.ref 68,.ref 80,.ref 99,.ref 118,.ref 137,.ref 156] false none false)) #[some (.ref 22),none,some (.str (.ofString "ViewError") 196),some (.str (.ofString "ViewError") 204),some (.builtin "ValueError.__new__"),some (.bool true)]
noncomputable def QM:Obj:=.mk (.type "getset_descriptor") none (.fields #[.str (.ofString "__weakref__") 209,.ref 31,.builtin "ExceptionGroup.__weakref__",.none]) #[]
noncomputable def QS (P:Params):Obj:=.mk (.type "dict") none (.dict #[hE P "__module__" 221 (.str (.ofString "putback.errors") 194),hE P "__firstlineno__" 225 (.int 7 224),hE P "__static_attributes__" 226 (.ref 42),hE P "__doc__" 227 .none] 2) #[]
noncomputable def QT:Obj:=.mk (.type "type") none (.cls (.mk (.ofString "NoKind") [.ref 31] [.ref 44,.ref 31,.type "ValueError",.type "Exception",.type "BaseException",.type "object"] 43 (.ofString "NoKind") true [] [] false none false)) #[some (.ref 35),none,some (.str (.ofString "NoKind") 214),some (.str (.ofString "NoKind") 222),some (.builtin "ValueError.__new__"),some (.bool true)]
noncomputable def QV (P:Params):Obj:=.mk (.type "dict") none (.dict #[hE P "__module__" 237 (.str (.ofString "putback.errors") 194),hE P "__firstlineno__" 241 (.int 9 240),hE P "__static_attributes__" 242 (.ref 54),hE P "__doc__" 243 .none] 2) #[]
noncomputable def QW:Obj:=.mk (.type "type") none (.cls (.mk (.ofString "NoName") [.ref 31] [.ref 56,.ref 31,.type "ValueError",.type "Exception",.type "BaseException",.type "object"] 55 (.ofString "NoName") true [] [] false none false)) #[some (.ref 47),none,some (.str (.ofString "NoName") 230),some (.str (.ofString "NoName") 238),some (.builtin "ValueError.__new__"),some (.bool true)]
noncomputable def QX (P:Params):Obj:=.mk (.type "dict") none (.dict #[hE P "__module__" 253 (.str (.ofString "putback.errors") 194),hE P "__firstlineno__" 257 (.int 11 256),hE P "__static_attributes__" 258 (.ref 66),hE P "__doc__" 259 .none] 2) #[]
noncomputable def QZ:Obj:=.mk (.type "type") none (.cls (.mk (.ofString "Twice") [.ref 31] [.ref 68,.ref 31,.type "ValueError",.type "Exception",.type "BaseException",.type "object"] 67 (.ofString "Twice") true [] [] false none false)) #[some (.ref 59),none,some (.str (.ofString "Twice") 246),some (.str (.ofString "Twice") 254),some (.builtin "ValueError.__new__"),some (.bool true)]
noncomputable def Q0 (P:Params):Obj:=.mk (.type "dict") none (.dict #[hE P "__module__" 269 (.str (.ofString "putback.errors") 194),hE P "__firstlineno__" 273 (.int 13 272),hE P "__static_attributes__" 274 (.ref 78),hE P "__doc__" 275 .none] 2) #[]
noncomputable def Q5:Obj:=.mk (.type "type") none (.cls (.mk (.ofString "NoDeed") [.ref 31] [.ref 80,.ref 31,.type "ValueError",.type "Exception",.type "BaseException",.type "object"] 79 (.ofString "NoDeed") true [] [] false none false)) #[some (.ref 71),none,some (.str (.ofString "NoDeed") 262),some (.str (.ofString "NoDeed") 270),some (.builtin "ValueError.__new__"),some (.bool true)]
def Q6:Obj:=hC "__init__" "NoView.__init__" 290 17 2 3 90 295
def Q7:Obj:=hF "__init__" "NoView.__init__" (aJ 7 0) zH 194 95
noncomputable def Q8 (P:Params):Obj:=.mk (.type "dict") none (.dict #[hE P "__module__" 285 (.str (.ofString "putback.errors") 194),hE P "__firstlineno__" 289 (.int 15 288),hE P "__init__" 297 (.ref 96),hE P "__static_attributes__" 299 (.ref 97),hE P "__doc__" 300 .none] 2) #[]
noncomputable def Q9:Obj:=.mk (.type "type") none (.cls (.mk (.ofString "NoView") [.ref 31] [.ref 99,.ref 31,.type "ValueError",.type "Exception",.type "BaseException",.type "object"] 98 (.ofString "NoView") true [] [] false none false)) #[some (.ref 83),none,some (.str (.ofString "NoView") 278),some (.str (.ofString "NoView") 286),some (.builtin "ValueError.__new__"),some (.bool true)]
def Q_:Obj:=hC "__init__" "CantPut.__init__" 315 21 2 3 109 320
def Ra:Obj:=hF "__init__" "CantPut.__init__" (aJ 8 0) zH 194 114
noncomputable def Rb (P:Params):Obj:=.mk (.type "dict") none (.dict #[hE P "__module__" 310 (.str (.ofString "putback.errors") 194),hE P "__firstlineno__" 314 (.int 19 313),hE P "__init__" 322 (.ref 115),hE P "__static_attributes__" 324 (.ref 116),hE P "__doc__" 325 .none] 2) #[]
noncomputable def Rc:Obj:=.mk (.type "type") none (.cls (.mk (.ofString "CantPut") [.ref 31] [.ref 118,.ref 31,.type "ValueError",.type "Exception",.type "BaseException",.type "object"] 117 (.ofString "CantPut") true [] [] false none false)) #[some (.ref 102),none,some (.str (.ofString "CantPut") 303),some (.str (.ofString "CantPut") 311),some (.builtin "ValueError.__new__"),some (.bool true)]
def Rf:Obj:=hC "__init__" "NoFit.__init__" 340 25 2 3 128 345
def Rg:Obj:=hF "__init__" "NoFit.__init__" (aJ 9 0) zH 194 133
noncomputable def Rh (P:Params):Obj:=.mk (.type "dict") none (.dict #[hE P "__module__" 335 (.str (.ofString "putback.errors") 194),hE P "__firstlineno__" 339 (.int 23 338),hE P "__init__" 347 (.ref 134),hE P "__static_attributes__" 349 (.ref 135),hE P "__doc__" 350 .none] 2) #[]
noncomputable def Ri:Obj:=.mk (.type "type") none (.cls (.mk (.ofString "NoFit") [.ref 31] [.ref 137,.ref 31,.type "ValueError",.type "Exception",.type "BaseException",.type "object"] 136 (.ofString "NoFit") true [] [] false none false)) #[some (.ref 121),none,some (.str (.ofString "NoFit") 328),some (.str (.ofString "NoFit") 336),some (.builtin "ValueError.__new__"),some (.bool true)]
def Rj:Obj:=hC "__init__" "NoPaper.__init__" 365 29 2 3 147 370
def Rk:Obj:=hF "__init__" "NoPaper.__init__" (aJ 10 0) zH 194 152
noncomputable def Rm (P:Params):Obj:=.mk (.type "dict") none (.dict #[hE P "__module__" 360 (.str (.ofString "putback.errors") 194),hE P "__firstlineno__" 364 (.int 27 363),hE P "__init__" 372 (.ref 153),hE P "__static_attributes__" 374 (.ref 154),hE P "__doc__" 375 .none] 2) #[]
noncomputable def Rn:Obj:=.mk (.type "type") none (.cls (.mk (.ofString "NoPaper") [.ref 31] [.ref 156,.ref 31,.type "ValueError",.type "Exception",.type "BaseException",.type "object"] 155 (.ofString "NoPaper") true [] [] false none false)) #[some (.ref 140),none,some (.str (.ofString "NoPaper") 353),some (.str (.ofString "NoPaper") 361),some (.builtin "ValueError.__new__"),some (.bool true)]
def Ro:Obj:=bI "is_plain" 380 32 1 3 159 384
def Rp:Obj:=bf "is_plain" (top 12) zJ 378 164
def Rq:Obj:=bI "kind_at" 387 34 2 3 166 393
def Rr:Obj:=bf "kind_at" (top 13) zJ 378 171
def Rt:Obj:=bI "sorted_fields" 396 39 1 3 173 403
def Ru:Obj:=bf "sorted_fields" (top 14) zJ 378 178
def Rv:Obj:=bI "record_of" 406 46 1 3 180 410
def Rw:Obj:=bf "record_of" (top 15) zJ 378 185
def Rx:Obj:=bI "misfit" 415 49 2 3 187 421
def Ry:Obj:=bf "misfit" (top 17) iY 413 192
def Rz:Obj:=bI "record_misfit" 424 62 2 3 194 432
def RB:Obj:=bf "record_misfit" (top 18) iY 413 199
def RD:Obj:=iu "has_just" 435 70 2 3 201 438
def RG:Obj:=bf "has_just" (top 19) iY 413 204
def RJ:Obj:=bI "rows_misfit" 441 72 2 3 206 450
def RK:Obj:=bf "rows_misfit" (top 20) iY 413 211
def RL:Obj:=bI "is_pair" 453 86 1 3 213 457
def RM:Obj:=bf "is_pair" (top 21) iY 413 218
def RN:Obj:=bI "tree_misfit" 460 88 2 3 220 468
def RT:Obj:=bf "tree_misfit" (top 22) iY 413 225
def RV:Obj:=bI "either_misfit" 471 99 2 3 227 478
def RW:Obj:=bf "either_misfit" (top 23) iY 413 232
def RX:Obj:=bI "empty" 481 109 1 3 234 487
def RZ:Obj:=bf "empty" (top 24) iY 413 239
def R0:Obj:=bI "empty_record" 490 123 1 3 241 497
def R3:Obj:=bf "empty_record" (top 25) iY 413 246
def R4:Obj:=iu "copied" 500 128 2 3 248 503
def R5:Obj:=bf "copied" (top 26) iY 413 251
def R6:Obj:=bI "copied_record" 506 139 2 3 253 514
def R7:Obj:=bf "copied_record" (top 27) iY 413 258
def R8:Obj:=bI "rank" 517 144 2 3 260 524
def R9:Obj:=bf "rank" (top 28) iY 413 265
def R_:Obj:=bI "in_order" 527 150 2 3 267 533
def Sd:Obj:=bf "in_order" (top 29) iY 413 272
def Sg:Obj:=bI "by_key" 536 152 2 3 274 543
def Sh:Obj:=bf "by_key" (top 30) iY 413 279
def Sq:Obj:=bI "done" 548 158 3 3 281 557
def Ss:Obj:=bf "done" (top 32) gw 546 286
def Sv:Obj:=bI "between" 560 165 3 3 288 566
def Sw:Obj:=bf "between" (top 33) gw 546 293
def Sx:Obj:=bI "stepped" 569 167 4 3 295 577
def Sy:Obj:=bf "stepped" (top 34) gw 546 300
def SJ:Obj:=bI "stepped_in_record" 580 180 4 3 302 591
def SQ:Obj:=bf "stepped_in_record" (top 35) gw 546 307
def SX:Obj:=bI "stepped_in_rows" 594 191 4 3 309 603
def S6:Obj:=bf "stepped_in_rows" (top 36) gw 546 314
def S_:Obj:=bI "ends_at_key" 606 199 2 3 316 611
def Tc:Obj:=bf "ends_at_key" (top 37) gw 546 321
def Td:Obj:=bI "row_number" 614 201 3 3 323 622
def Te:Obj:=bf "row_number" (top 38) gw 546 328
def Tf:Obj:=bI "with_at" 625 208 3 3 330 631
def Tg:Obj:=bf "with_at" (top 39) gw 546 335
def Ti:Obj:=bI "stepped_in_tree" 634 210 4 3 337 642
def Tj:Obj:=bf "stepped_in_tree" (top 40) gw 546 342
def Tn:Obj:=bI "stepped_in_arm" 645 215 4 3 344 655
def Tp:Obj:=bf "stepped_in_arm" (top 41) gw 546 349
def Tq:Obj:=bI "stepped_in_either" 658 222 4 3 351 667
def Tr:Obj:=bf "stepped_in_either" (top 42) gw 546 356
def Tt:Obj:=bI "acted" 670 228 3 3 358 678
def Tv:Obj:=bf "acted" (top 43) gw 546 363
def Tw:Obj:=bI "with_row" 681 242 3 3 365 687
def Tz:Obj:=bf "with_row" (top 44) gw 546 370
def TF:Obj:=bI "without_row" 690 248 3 3 372 697
def TJ:Obj:=bf "without_row" (top 45) gw 546 377
def TQ:Obj:=bI "paper_at" 700 251 4 3 379 708
def TV:Obj:=bf "paper_at" (top 46) gw 546 384
def TX:Obj:=bI "record_paper" 711 262 4 3 386 721
def TY:Obj:=bf "record_paper" (top 47) gw 546 391
def T3:Obj:=bI "rows_paper" 724 267 4 3 393 735
def T4:Obj:=bf "rows_paper" (top 48) gw 546 398
def T5:Obj:=bI "tree_paper" 738 279 4 3 400 749
def T6:Obj:=bf "tree_paper" (top 49) gw 546 405
def T7:Obj:=bI "first_source" 754 291 2 3 407 760
def T8:Obj:=bf "first_source" (top 51) iZ 752 412
def T9:Obj:=bI "shown" 763 298 3 3 414 769
def T_:Obj:=bf "shown" (top 52) iZ 752 419
noncomputable def Ua:Obj:=.mk (.type "tuple") none (.seq #[.none]) #[]
def Ub:Obj:=hC "__init__" "Desk.__init__" 784 302 3 3 429 790
noncomputable def Uc:Obj:=.mk (.type "function") none (.func (.mk (.ofString "__init__") (.ofString "Desk.__init__") (fM (aJ 53 0)) (.stmts (eE (aJ 53 0))) (aL (aJ 53 0)) 3 [] (.ref 428) .none .none (.str (.ofString "putback.desk") 752) none (.ref 434) .none 0)) #[]
def Ud:Obj:=hC "hang" "Desk.hang" 793 308 3 3 436 799
def Ue:Obj:=hF "hang" "Desk.hang" (aJ 53 1) iZ 752 441
def Ug:Obj:=hC "take_down" "Desk.take_down" 802 314 2 3 443 807
def Uh:Obj:=hF "take_down" "Desk.take_down" (aJ 53 2) iZ 752 448
def Ui:Obj:=hC "ask_hung" "Desk.ask_hung" 810 318 2 3 450 815
def Uj:Obj:=hF "ask_hung" "Desk.ask_hung" (aJ 53 3) iZ 752 455
def Uk:Obj:=hC "hung" "Desk.hung" 818 322 1 3 457 822
def Ul:Obj:=hF "hung" "Desk.hung" (aJ 53 4) iZ 752 462
def Um:Obj:=hC "source_now" "Desk.source_now" 825 325 1 3 464 829
def Uo:Obj:=hF "source_now" "Desk.source_now" (aJ 53 5) iZ 752 469
def Uq:Obj:=hC "seen_by" "Desk.seen_by" 832 328 2 3 471 837
def Ur:Obj:=hF "seen_by" "Desk.seen_by" (aJ 53 6) iZ 752 476
def Us:Obj:=hC "put_by" "Desk.put_by" 840 332 3 3 478 846
def Ut:Obj:=hF "put_by" "Desk.put_by" (aJ 53 7) iZ 752 483
def Uu:Obj:=hC "change" "Desk.change" 849 336 2 3 485 854
def Uv:Obj:=hF "change" "Desk.change" (aJ 53 8) iZ 752 490
def Uw:Obj:=hC "undo" "Desk.undo" 857 339 1 3 492 861
def Ux:Obj:=hF "undo" "Desk.undo" (aJ 53 9) iZ 752 497
def Uy:Obj:=hC "did" "Desk.did" 864 344 2 3 499 869
def Uz:Obj:=hF "did" "Desk.did" (aJ 53 10) iZ 752 504
def UG:Obj:=QF "moved_to" "Desk.moved_to" 872 348 2 3 506 875
def UJ:Obj:=hF "moved_to" "Desk.moved_to" (aJ 53 11) iZ 752 509
def UL:Obj:=hC "paper_for" "Desk.paper_for" 878 353 3 3 511 884
def UW:Obj:=hF "paper_for" "Desk.paper_for" (aJ 53 12) iZ 752 516
noncomputable def U0 (P:Params):Obj:=.mk (.type "dict") none (.dict #[hE P "__module__" 779 (.str (.ofString "putback.desk") 752),hE P "__firstlineno__" 783 (.int 300 782),hE P "__init__" 792 (.ref 435),hE P "hang" 801 (.ref 442),hE P "take_down" 809 (.ref 449),hE P "ask_hung" 817 (.ref 456),hE P "hung" 824 (.ref 463),hE P "source_now" 831 (.ref 470),hE P "seen_by" 839 (.ref 477),hE P "put_by" 848 (.ref 484),hE P "change" 856 (.ref 491),hE P "undo" 863 (.ref 498),hE P "did" 871 (.ref 505),hE P "moved_to" 877 (.ref 510),hE P "paper_for" 886 (.ref 517),hE P "__static_attributes__" 891 (.ref 518),hE P "__dict__" 893 (.ref 521),hE P "__weakref__" 895 (.ref 522),hE P "__doc__" 896 .none] 4) #[]
noncomputable def U3:Obj:=.mk (.type "type") none (.cls (.mk (.ofString "Desk") [.type "object"] [.ref 520,.type "object"] 519 (.ofString "Desk") true [] [] false none false)) #[none,none,some (.str (.ofString "Desk") 772),some (.str (.ofString "Desk") 780),some (.builtin "object.__new__"),some (.bool true)]
noncomputable def U4:Obj:=.mk (.type "getset_descriptor") none (.fields #[.str (.ofString "__dict__") 892,.ref 520,.builtin "function.__dict__",.builtin "function.__dict__#set"]) #[]
noncomputable def U5:Obj:=.mk (.type "getset_descriptor") none (.fields #[.str (.ofString "__weakref__") 894,.ref 520,.builtin "ExceptionGroup.__weakref__",.none]) #[]
def U6:Obj:=bI "ask_fit" 901 356 2 3 525 907
def U7:Obj:=bf "ask_fit" (top 55) qJ 899 530
def U8:Obj:=bI "ask_stands" 910 360 1 3 532 914
def U9:Obj:=bf "ask_stands" (top 56) qJ 899 537
def U_:Obj:=hC "behind" "View.behind" 929 365 2 3 546 934
def Va:Obj:=hF "behind" "View.behind" (aJ 57 0) qJ 899 551
def Vb:Obj:=hC "see" "View.see" 937 368 3 3 553 943
def Vc:Obj:=hF "see" "View.see" (aJ 57 1) qJ 899 558
def Vd:Obj:=hC "put" "View.put" 946 371 4 3 560 953
def Ve:Obj:=hF "put" "View.put" (aJ 57 2) qJ 899 565
def Vf:Obj:=hC "grade" "View.grade" 956 375 1 3 567 960
def Vg:Obj:=hF "grade" "View.grade" (aJ 57 3) qJ 899 572
def Vh:Obj:=hC "keeps" "View.keeps" 963 378 2 3 574 968
def Vi:Obj:=hF "keeps" "View.keeps" (aJ 57 4) qJ 899 579
noncomputable def Vj (P:Params):Obj:=.mk (.type "dict") none (.dict #[hE P "__module__" 924 (.str (.ofString "putback.views") 899),hE P "__firstlineno__" 928 (.int 363 927),hE P "behind" 936 (.ref 552),hE P "see" 945 (.ref 559),hE P "put" 955 (.ref 566),hE P "grade" 962 (.ref 573),hE P "keeps" 970 (.ref 580),hE P "__static_attributes__" 971 (.ref 581),hE P "__dict__" 973 (.ref 584),hE P "__weakref__" 975 (.ref 585),hE P "__doc__" 976 .none] 4) #[]
noncomputable def Vk:Obj:=.mk (.type "type") none (.cls (.mk (.ofString "View") [.type "object"] [.ref 583,.type "object"] 582 (.ofString "View") true [] [.ref 656] false none false)) #[none,none,some (.str (.ofString "View") 917),some (.str (.ofString "View") 925),some (.builtin "object.__new__"),some (.bool true)]
noncomputable def Vl:Obj:=.mk (.type "getset_descriptor") none (.fields #[.str (.ofString "__dict__") 972,.ref 583,.builtin "function.__dict__",.builtin "function.__dict__#set"]) #[]
noncomputable def Vm:Obj:=.mk (.type "getset_descriptor") none (.fields #[.str (.ofString "__weakref__") 974,.ref 583,.builtin "ExceptionGroup.__weakref__",.none]) #[]
def Vn:Obj:=iu "has_each_once" 981 381 2 3 588 984
def Vo:Obj:=bf "has_each_once" (top 59) nH 979 591
def Vp:Obj:=iu "fields_among" 987 385 2 3 593 990
def Vq:Obj:=bf "fields_among" (top 60) nH 979 596
def Vr:Obj:=bI "part_of" 993 387 2 3 598 1000
def Vs:Obj:=bf "part_of" (top 61) nH 979 603
def Vt:Obj:=hC "__init__" "Take.__init__" 1015 394 2 3 612 1020
def Vu:Obj:=hF "__init__" "Take.__init__" (aJ 62 0) nH 979 617
def Vv:Obj:=hC "behind" "Take.behind" 1023 397 2 3 619 1028
def Vw:Obj:=hF "behind" "Take.behind" (aJ 62 1) nH 979 624
def Vx:Obj:=hC "see" "Take.see" 1031 401 3 3 626 1037
def Vy:Obj:=hF "see" "Take.see" (aJ 62 2) nH 979 631
def Vz:Obj:=hC "put" "Take.put" 1040 404 4 3 633 1048
def VB:Obj:=hF "put" "Take.put" (aJ 62 3) nH 979 638
def VD:Obj:=hC "grade" "Take.grade" 1051 410 1 3 640 1055
def VF:Obj:=hF "grade" "Take.grade" (aJ 62 4) nH 979 645
def VG:Obj:=hC "keeps" "Take.keeps" 1058 413 2 3 647 1063
def VH:Obj:=hF "keeps" "Take.keeps" (aJ 62 5) nH 979 652
noncomputable def VJ (P:Params):Obj:=.mk (.type "dict") none (.dict #[hE P "__module__" 1010 (.str (.ofString "putback.fields") 979),hE P "__firstlineno__" 1014 (.int 392 1013),hE P "__init__" 1022 (.ref 618),hE P "behind" 1030 (.ref 625),hE P "see" 1039 (.ref 632),hE P "put" 1050 (.ref 639),hE P "grade" 1057 (.ref 646),hE P "keeps" 1065 (.ref 653),hE P "__static_attributes__" 1067 (.ref 654),hE P "__doc__" 1068 .none] 2) #[]
noncomputable def VL:Obj:=.mk (.type "type") none (.cls (.mk (.ofString "Take") [.ref 583] [.ref 656,.ref 583,.type "object"] 655 (.ofString "Take") true [] [] false none false)) #[some (.ref 605),none,some (.str (.ofString "Take") 1003),some (.str (.ofString "Take") 1011),some (.builtin "object.__new__"),some (.bool true)]
def VN:Obj:=bI "_law_next" 1073 416 2 3 659 1080
def V0:Obj:=bf "_law_next" (top 64) eF 1071 664
def V1:Obj:=bI "_law_number" 1083 421 2 3 666 1090
def V2:Obj:=bf "_law_number" (top 65) eF 1071 671
def V3:Obj:=iu "_law_word" 1093 427 2 3 673 1096
def V4:Obj:=bf "_law_word" (top 66) eF 1071 676
def V5:Obj:=iu "_law_names" 1099 433 3 3 678 1102
def V6:Obj:=bf "_law_names" (top 67) eF 1071 681
def V7:Obj:=bI "_law_plain" 1105 441 2 3 683 1110
def V8:Obj:=bf "_law_plain" (top 68) eF 1071 688
def V9:Obj:=iu "_law_fields" 1113 443 4 3 690 1116
def V_:Obj:=bf "_law_fields" (top 69) eF 1071 693
def Wa:Obj:=iu "_law_rows_kind" 1119 445 4 3 695 1122
def Wb:Obj:=bf "_law_rows_kind" (top 70) eF 1071 698
def Wc:Obj:=bI "_law_kind" 1125 453 3 3 700 1132
def Wd:Obj:=bf "_law_kind" (top 71) eF 1071 705
def Wf:Obj:=bI "_law_rank" 1135 464 2 3 707 1140
def Wg:Obj:=bf "_law_rank" (top 72) eF 1071 712
def Wh:Obj:=iu "_law_rows" 1143 466 4 3 714 1146
def Wi:Obj:=bf "_law_rows" (top 73) eF 1071 717
def Wj:Obj:=iu "_law_value" 1149 471 4 3 719 1152
def Wk:Obj:=bf "_law_value" (top 74) eF 1071 722
def Wl:Obj:=iu "_law_same" 1155 486 2 3 724 1158
def Wm:Obj:=bf "_law_same" (top 75) eF 1071 727
def Wn:Obj:=bI "_law_spare" 1161 498 2 3 729 1167
def Wq:Obj:=bf "_law_spare" (top 76) eF 1071 734
def Wr:Obj:=iu "_law_some" 1170 503 2 3 736 1173
def Ws:Obj:=bf "_law_some" (top 77) eF 1071 739
def Wt:Obj:=bI "_law_sets" 1176 506 5 3 741 1189
def Wu:Obj:=bf "_law_sets" (top 78) eF 1071 746
def Wv:Obj:=iu "_law_taken" 1192 514 2 3 748 1195
def Ww:Obj:=bf "_law_taken" (top 79) eF 1071 751
def Wx:Obj:=iu "_law_pairs" 1198 516 3 3 753 1201
def Wy:Obj:=bf "_law_pairs" (top 80) eF 1071 756
def Wz:Obj:=bI "_law_change" 1204 522 2 3 758 1211
def WD:Obj:=bf "_law_change" (top 81) eF 1071 763
def WK:Obj:=bI "_law_put_by" 1214 528 3 3 765 1222
def WL:Obj:=bf "_law_put_by" (top 82) eF 1071 770
def WM:Obj:=bI "_law_undo" 1225 536 1 3 772 1231
def WQ:Obj:=bf "_law_undo" (top 83) eF 1071 777
def WR:Obj:=bI "_law_undone" 1234 542 3 3 779 1241
def WT:Obj:=bf "_law_undone" (top 84) eF 1071 784
def WW:Obj:=bI "_law_deed_by" 1244 547 7 3 786 1262
def WX:Obj:=bf "_law_deed_by" (top 85) eF 1071 791
def WY:Obj:=iu "_law_hung" 1265 562 5 3 793 1268
def W0:Obj:=bf "_law_hung" (top 86) eF 1071 796
def W6:Obj:=bI "law" 1271 572 1 3 798 1287
def W8:Obj:=bf "law" (top 87) eF 1071 803
noncomputable def mo3 (P:Params):Obj:=.mk (.type "dict") none (.dict #[hE P "__name__" 165 (.str (.ofString "putback.papers") 546),hE P "__doc__" 166 .none,hE P "__package__" 167 .none,hE P "__loader__" 168 (.builtin "__main__.__loader__#opaque"),hE P "__spec__" 169 .none,hE P "__annotations__" 170 (.ref 6),hE P "__builtins__" 171 (.ref 4),hE P "__file__" 173 (.str (.ofString "/claim/cut.py") 172),hE P "__cached__" 174 .none,hE P "_wall" 193 (.ref 21),hE P "ViewError" 213 (.ref 31),hE P "NoKind" 229 (.ref 44),hE P "NoName" 245 (.ref 56),hE P "Twice" 261 (.ref 68),hE P "NoDeed" 277 (.ref 80),hE P "NoView" 302 (.ref 99),hE P "CantPut" 327 (.ref 118),hE P "NoFit" 352 (.ref 137),hE P "NoPaper" 377 (.ref 156),hE P "is_plain" 386 (.ref 165),hE P "kind_at" 395 (.ref 172),hE P "sorted_fields" 405 (.ref 179),hE P "record_of" 412 (.ref 186),hE P "misfit" 423 (.ref 193),hE P "record_misfit" 434 (.ref 200),hE P "has_just" 440 (.ref 205),hE P "rows_misfit" 452 (.ref 212),hE P "is_pair" 459 (.ref 219),hE P "tree_misfit" 470 (.ref 226),hE P "either_misfit" 480 (.ref 233),hE P "empty" 489 (.ref 240),hE P "empty_record" 499 (.ref 247),hE P "copied" 505 (.ref 252),hE P "copied_record" 516 (.ref 259),hE P "rank" 526 (.ref 266),hE P "in_order" 535 (.ref 273),hE P "by_key" 545 (.ref 280),hE P "done" 559 (.ref 287),hE P "between" 568 (.ref 294),hE P "stepped" 579 (.ref 301),hE P "stepped_in_record" 593 (.ref 308),hE P "stepped_in_rows" 605 (.ref 315),hE P "ends_at_key" 613 (.ref 322),hE P "row_number" 624 (.ref 329),hE P "with_at" 633 (.ref 336),hE P "stepped_in_tree" 644 (.ref 343)] 46) #[]
noncomputable def ad0 (P:Params):List Obj:=hT 0 []::hI [(1,0,20),(5,0,27),(7,0,40),(9,0,52),(11,0,64),(13,0,76),(15,0,88),(19,0,107),(23,0,126),(27,0,145),(32,0,164),(34,0,171),(39,0,178),(46,0,185),(49,0,192),(62,0,199),(70,0,204),(72,0,211),(86,0,218),(88,0,225),(99,0,232),(109,0,239),(123,0,246),(128,0,251),(139,0,258),(144,0,265),(150,0,272),(152,0,279),(158,0,286),(165,0,293),(167,0,300),(180,0,307),(191,0,314),(199,0,321),(201,0,328),(208,0,335),(210,0,342)]::hK "<module>" 182 1 11 185:: .mk (.type "frame") none .plain #[some (.ref 13),some (.ref 3),some (.ref 3),none,some (.str (.ofString "__main__") 164),none,some (.ref 0)]::hT 0 []:: .mk .none none (.fields #[]) #[]::hT 190 ["k"]::hT 0 []::bh "_wall" (top 0)::QH::QJ:: .mk (.type "tuple") none (.seq #[.type "ValueError"]) #[]:: .mk (.type "builtin_function_or_method") none (.fields #[.builtin "type.__prepare__",.type "type"]) #[]:: .mk (.type "dict") none (.dict #[hE P "__module__" 203 (.str (.ofString "putback.errors") 194),hE P "__qualname__" 205 (.str (.ofString "ViewError") 204),hE P "__firstlineno__" 207 (.int 5 206),hE P "__static_attributes__" 208 (.ref 29)] 4) #[]::hT 0 []:: .mk .none none (.fields #[]) #[]::hK "ViewError" 198 5 25 201:: .mk (.type "frame") none .plain #[some (.ref 27),some (.ref 3),some (.ref 24),none,some (.str (.ofString "putback.errors") 194),none,some (.ref 0)]::hT 0 []::QK P::QL::QM:: .mk (.type "super") none (.fields #[.ref 31,.ref 31,.ref 31]) #[]:: .mk (.type "builtin_function_or_method") none (.fields #[.builtin "object.__init_subclass__",.ref 31]) #[]:: .mk (.type "tuple") none (.seq #[.ref 31]) #[]:: .mk (.type "builtin_function_or_method") none (.fields #[.builtin "type.__prepare__",.type "type"]) #[]:: .mk (.type "dict") none (.dict #[hE P "__module__" 221 (.str (.ofString "putback.errors") 194),hE P "__qualname__" 223 (.str (.ofString "NoKind") 222),hE P "__firstlineno__" 225 (.int 7 224),hE P "__static_attributes__" 226 (.ref 42)] 4) #[]::hT 0 []:: .mk .none none (.fields #[]) #[]::hK "NoKind" 216 7 38 219:: .mk (.type "frame") none .plain #[some (.ref 40),some (.ref 3),some (.ref 37),none,some (.str (.ofString "putback.errors") 194),none,some (.ref 0)]::hT 0 []::QS P::QT:: .mk (.type "super") none (.fields #[.ref 44,.ref 44,.ref 44]) #[]:: .mk (.type "builtin_function_or_method") none (.fields #[.builtin "object.__init_subclass__",.ref 44]) #[]:: .mk (.type "tuple") none (.seq #[.ref 31]) #[]:: .mk (.type "builtin_function_or_method") none (.fields #[.builtin "type.__prepare__",.type "type"]) #[]:: .mk (.type "dict") none (.dict #[hE P "__module__" 237 (.str (.ofString "putback.errors") 194),hE P "__qualname__" 239 (.str (.ofString "NoName") 238),hE P "__firstlineno__" 241 (.int 9 240),hE P "__static_attributes__" 242 (.ref 54)] 4) #[]::hT 0 []:: .mk .none none (.fields #[]) #[]::hK "NoName" 232 9 50 235:: .mk (.type "frame") none .plain #[some (.ref 52),some (.ref 3),some (.ref 49),none,some (.str (.ofString "putback.errors") 194),none,some (.ref 0)]::hT 0 []::QV P::QW:: .mk (.type "super") none (.fields #[.ref 56,.ref 56,.ref 56]) #[]:: .mk (.type "builtin_function_or_method") none (.fields #[.builtin "object.__init_subclass__",.ref 56]) #[]:: .mk (.type "tuple") none (.seq #[.ref 31]) #[]:: .mk (.type "builtin_function_or_method") none (.fields #[.builtin "type.__prepare__",.type "type"]) #[]:: .mk (.type "dict") none (.dict #[hE P "__module__" 253 (.str (.ofString "putback.errors") 194),hE P "__qualname__" 255 (.str (.ofString "Twice") 254),hE P "__firstlineno__" 257 (.int 11 256),hE P "__static_attributes__" 258 (.ref 66)] 4) #[]::hT 0 []:: .mk .none none (.fields #[]) #[]::hK "Twice" 248 11 62 251:: .mk (.type "frame") none .plain #[some (.ref 64),some (.ref 3),some (.ref 61),none,some (.str (.ofString "putback.errors") 194),none,some (.ref 0)]::hT 0 []::QX P::QZ:: .mk (.type "super") none (.fields #[.ref 68,.ref 68,.ref 68]) #[]:: .mk (.type "builtin_function_or_method") none (.fields #[.builtin "object.__init_subclass__",.ref 68]) #[]:: .mk (.type "tuple") none (.seq #[.ref 31]) #[]:: .mk (.type "builtin_function_or_method") none (.fields #[.builtin "type.__prepare__",.type "type"]) #[]:: .mk (.type "dict") none (.dict #[hE P "__module__" 269 (.str (.ofString "putback.errors") 194),hE P "__qualname__" 271 (.str (.ofString "NoDeed") 270),hE P "__firstlineno__" 273 (.int 13 272),hE P "__static_attributes__" 274 (.ref 78)] 4) #[]::hT 0 []:: .mk .none none (.fields #[]) #[]::hK "NoDeed" 264 13 74 267:: .mk (.type "frame") none .plain #[some (.ref 76),some (.ref 3),some (.ref 73),none,some (.str (.ofString "putback.errors") 194),none,some (.ref 0)]::hT 0 []::Q0 P::Q5:: .mk (.type "super") none (.fields #[.ref 80,.ref 80,.ref 80]) #[]:: .mk (.type "builtin_function_or_method") none (.fields #[.builtin "object.__init_subclass__",.ref 80]) #[]:: .mk (.type "tuple") none (.seq #[.ref 31]) #[]:: .mk (.type "builtin_function_or_method") none (.fields #[.builtin "type.__prepare__",.type "type"]) #[]:: .mk (.type "dict") none (.dict #[hE P "__module__" 285 (.str (.ofString "putback.errors") 194),hE P "__qualname__" 287 (.str (.ofString "NoView") 286),hE P "__firstlineno__" 289 (.int 15 288),hE P "__init__" 297 (.ref 96),hE P "__static_attributes__" 299 (.ref 97)] 5) #[]::hT 0 []::hI [(17,4,95)]::hK "NoView" 280 15 86 283:: .mk (.type "frame") none .plain #[some (.ref 88),some (.ref 3),some (.ref 85),none,some (.str (.ofString "putback.errors") 194),none,some (.ref 0)]::hT 0 []:: .mk .none none (.fields #[]) #[]::hT 293 ["self","way"]::hT 0 []::hR "__init__" "NoView.__init__" (aJ 7 0)::Q6::Q7::hT 298 ["way"]::Q8 P::Q9:: .mk (.type "super") none (.fields #[.ref 99,.ref 99,.ref 99]) #[]:: .mk (.type "builtin_function_or_method") none (.fields #[.builtin "object.__init_subclass__",.ref 99]) #[]:: .mk (.type "tuple") none (.seq #[.ref 31]) #[]:: .mk (.type "builtin_function_or_method") none (.fields #[.builtin "type.__prepare__",.type "type"]) #[]:: .mk (.type "dict") none (.dict #[hE P "__module__" 310 (.str (.ofString "putback.errors") 194),hE P "__qualname__" 312 (.str (.ofString "CantPut") 311),hE P "__firstlineno__" 314 (.int 19 313),hE P "__init__" 322 (.ref 115),hE P "__static_attributes__" 324 (.ref 116)] 5) #[]::hT 0 []::hI [(21,4,114)]::hK "CantPut" 305 19 105 308:: .mk (.type "frame") none .plain #[some (.ref 107),some (.ref 3),some (.ref 104),none,some (.str (.ofString "putback.errors") 194),none,some (.ref 0)]::hT 0 []:: .mk .none none (.fields #[]) #[]::hT 318 ["self","way"]::hT 0 []::hR "__init__" "CantPut.__init__" (aJ 8 0)::Q_::Ra::hT 323 ["way"]::Rb P::Rc:: .mk (.type "super") none (.fields #[.ref 118,.ref 118,.ref 118]) #[]:: .mk (.type "builtin_function_or_method") none (.fields #[.builtin "object.__init_subclass__",.ref 118]) #[]:: .mk (.type "tuple") none (.seq #[.ref 31]) #[]:: .mk (.type "builtin_function_or_method") none (.fields #[.builtin "type.__prepare__",.type "type"]) #[]:: .mk (.type "dict") none (.dict #[hE P "__module__" 335 (.str (.ofString "putback.errors") 194),hE P "__qualname__" 337 (.str (.ofString "NoFit") 336),hE P "__firstlineno__" 339 (.int 23 338),hE P "__init__" 347 (.ref 134),hE P "__static_attributes__" 349 (.ref 135)] 5) #[]::hT 0 []::hI [(25,4,133)]::hK "NoFit" 330 23 124 333:: .mk (.type "frame") none .plain #[some (.ref 126),some (.ref 3),some (.ref 123),none,some (.str (.ofString "putback.errors") 194),none,some (.ref 0)]::hT 0 []:: .mk .none none (.fields #[]) #[]::hT 343 ["self","way"]::hT 0 []::hR "__init__" "NoFit.__init__" (aJ 9 0)::Rf::Rg::hT 348 ["way"]::Rh P::Ri:: .mk (.type "super") none (.fields #[.ref 137,.ref 137,.ref 137]) #[]:: .mk (.type "builtin_function_or_method") none (.fields #[.builtin "object.__init_subclass__",.ref 137]) #[]:: .mk (.type "tuple") none (.seq #[.ref 31]) #[]:: .mk (.type "builtin_function_or_method") none (.fields #[.builtin "type.__prepare__",.type "type"]) #[]:: .mk (.type "dict") none (.dict #[hE P "__module__" 360 (.str (.ofString "putback.errors") 194),hE P "__qualname__" 362 (.str (.ofString "NoPaper") 361),hE P "__firstlineno__" 364 (.int 27 363),hE P "__init__" 372 (.ref 153),hE P "__static_attributes__" 374 (.ref 154)] 5) #[]::hT 0 []::hI [(29,4,152)]::hK "NoPaper" 355 27 143 358:: .mk (.type "frame") none .plain #[some (.ref 145),some (.ref 3),some (.ref 142),none,some (.str (.ofString "putback.errors") 194),none,some (.ref 0)]::hT 0 []:: .mk .none none (.fields #[]) #[]::hT 368 ["self","at"]::hT 0 []::hR "__init__" "NoPaper.__init__" (aJ 10 0)::Rj::Rk::hT 373 ["at"]::Rm P::Rn:: .mk (.type "super") none (.fields #[.ref 156,.ref 156,.ref 156]) #[]:: .mk (.type "builtin_function_or_method") none (.fields #[.builtin "object.__init_subclass__",.ref 156]) #[]::hT 0 []:: .mk .none none (.fields #[]) #[]::hT 383 ["kind"]::hT 0 []::bh "is_plain" (top 12)::Ro::Rp::hT 0 []:: .mk .none none (.fields #[]) #[]::hT 390 ["fields","name","pair"]::hT 0 []::bh "kind_at" (top 13)::Rq::Rr::hT 0 []:: .mk .none none (.fields #[]) #[]::hT 399 ["pairs","fields","number","name"]::hT 0 []::bh "sorted_fields" (top 14)::Rt::Ru::hT 0 []:: .mk .none none (.fields #[]) #[]::hT 409 ["pairs"]::hT 0 []::bh "record_of" (top 15)::Rv::Rw::hT 0 []:: .mk .none none (.fields #[]) #[]::hT 418 ["kind","value","form"]::hT 0 []::bh "misfit" (top 17)::Rx::Ry::hT 0 []:: .mk .none none (.fields #[]) #[]::hT 427 ["fields","record","name","inner","place"]::hT 0 []::bh "record_misfit" (top 18)::Rz::RB::hT 0 []:: .mk .none none (.fields #[]) #[]::bh "has_just" (top 19)::RD::RG::hT 0 []:: .mk .none none (.fields #[]) #[]::hT 444 ["kind","rows","earlier","number","row","place"]::hT 0 []::bh "rows_misfit" (top 20)::RJ::RK::hT 0 []:: .mk .none none (.fields #[]) #[]::hT 456 ["value"]::hT 0 []::bh "is_pair" (top 21)::RL::RM::hT 0 []:: .mk .none none (.fields #[]) #[]::hT 463 ["kind","tree","place","number","arm"]::hT 0 []::bh "tree_misfit" (top 22)::RN::RT::hT 0 []:: .mk .none none (.fields #[]) #[]::hT 474 ["fields","value","inner","place"]::hT 0 []::bh "either_misfit" (top 23)::RV::RW::hT 0 []:: .mk .none none (.fields #[]) #[]::hT 484 ["kind","form","first"]::hT 0 []::bh "empty" (top 24)::RX::RZ::hT 0 []:: .mk .none none (.fields #[]) #[]::hT 493 ["fields","record","name","inner"]::hT 0 []::bh "empty_record" (top 25)::R0::R3::hT 0 []:: .mk .none none (.fields #[]) #[]::bh "copied" (top 26)::R4::R5::hT 0 []:: .mk .none none (.fields #[]) #[]::hT 509 ["fields","record","fresh","name","inner"]::hT 0 []::bh "copied_record" (top 27)::R6::R7::hT 0 []:: .mk .none none (.fields #[]) #[]::hT 520 ["kind","row","key","by"]::hT 0 []::bh "rank" (top 28)::R8::R9::hT 0 []:: .mk .none none (.fields #[]) #[]::hT 530 ["kind","rows"]::hT 532 ["kind"]::bh "in_order" (top 29)::R_::Sd::hT 0 []:: .mk .none none (.fields #[]) #[]::hT 539 ["kind","rows","found","row"]::hT 0 []::bh "by_key" (top 30)::Sg::Sh::hT 0 []:: .mk .none none (.fields #[]) #[]::hT 551 ["kind","paper","value","now","number","step"]::hT 0 []::bh "done" (top 32)::Sq::Ss::hT 0 []:: .mk .none none (.fields #[]) #[]::hT 563 ["kind","old","new"]::hT 0 []::bh "between" (top 33)::Sv::Sw::hT 0 []:: .mk .none none (.fields #[]) #[]::hT 572 ["kind","step","path","value","form"]::hT 0 []::bh "stepped" (top 34)::Sx::Sy::hT 0 []:: .mk .none none (.fields #[]) #[]::hT 583 ["fields","step","path","record","name","inner","part","fresh"]::hT 0 []::bh "stepped_in_record" (top 35)::SJ::SQ::hT 0 []:: .mk .none none (.fields #[]) #[]::hT 597 ["kind","step","path","rows","number","row"]::hT 0 []::bh "stepped_in_rows" (top 36)::SX::S6::hT 0 []:: .mk .none none (.fields #[]) #[]::hT 609 ["kind","path"]::hT 0 []::bh "ends_at_key" (top 37)::S_::Tc::hT 0 []:: .mk .none none (.fields #[]) #[]::hT 617 ["kind","rows","key","number","row"]::hT 0 []::bh "row_number" (top 38)::Td::Te::hT 0 []:: .mk .none none (.fields #[]) #[]::hT 628 ["things","number","thing"]::hT 0 []::bh "with_at" (top 39)::Tf::Tg::hT 0 []:: .mk .none none (.fields #[]) #[]::hT 637 ["kind","step","path","tree","knot"]::hT 0 []::bh "stepped_in_tree" (top 40)::Ti::Tj::[]
noncomputable def endL (P:Params):List Obj:=hT 0 []:: .mk .none none (.fields #[]) #[]::hT 648 ["kind","step","path","tree","number","arms","arm"]::hT 0 []::bh "stepped_in_arm" (top 41)::Tn::Tp::hT 0 []:: .mk .none none (.fields #[]) #[]::hT 661 ["fields","step","path","value","name","part"]::hT 0 []::bh "stepped_in_either" (top 42)::Tq::Tr::hT 0 []:: .mk .none none (.fields #[]) #[]::hT 673 ["kind","step","value","deed","form"]::hT 0 []::bh "acted" (top 43)::Tt::Tv::hT 0 []:: .mk .none none (.fields #[]) #[]::hT 684 ["kind","rows","row"]::hT 0 []::bh "with_row" (top 44)::Tw::Tz::hT 0 []:: .mk .none none (.fields #[]) #[]::hT 693 ["kind","rows","key","number"]::hT 0 []::bh "without_row" (top 45)::TF::TJ::hT 0 []:: .mk .none none (.fields #[]) #[]::hT 703 ["path","kind","old","new","form"]::hT 0 []::bh "paper_at" (top 46)::TQ::TV::hT 0 []:: .mk .none none (.fields #[]) #[]::hT 714 ["path","fields","old","new","paper","name","inner"]::hT 0 []::bh "record_paper" (top 47)::TX::TY::hT 0 []:: .mk .none none (.fields #[]) #[]::hT 727 ["path","kind","old","new","old_rows","new_rows","paper","key"]::hT 0 []::bh "rows_paper" (top 48)::T3::T4::hT 0 []:: .mk .none none (.fields #[]) #[]::hT 741 ["path","kind","old","new","old_arms","new_arms","paper","number"]::hT 0 []::bh "tree_paper" (top 49)::T5::T6::hT 0 []:: .mk .none none (.fields #[]) #[]::hT 757 ["kind","source","place"]::hT 0 []::bh "first_source" (top 51)::T7::T8::hT 0 []:: .mk .none none (.fields #[]) #[]::hT 766 ["view","kind","source"]::hT 0 []::bh "shown" (top 52)::T9::T_::hT 0 []:: .mk (.type "builtin_function_or_method") none (.fields #[.builtin "type.__prepare__",.type "type"]) #[]:: .mk (.type "dict") none (.dict #[hE P "__module__" 779 (.str (.ofString "putback.desk") 752),hE P "__qualname__" 781 (.str (.ofString "Desk") 780),hE P "__firstlineno__" 783 (.int 300 782),hE P "__init__" 792 (.ref 435),hE P "hang" 801 (.ref 442),hE P "take_down" 809 (.ref 449),hE P "ask_hung" 817 (.ref 456),hE P "hung" 824 (.ref 463),hE P "source_now" 831 (.ref 470),hE P "seen_by" 839 (.ref 477),hE P "put_by" 848 (.ref 484),hE P "change" 856 (.ref 491),hE P "undo" 863 (.ref 498),hE P "did" 871 (.ref 505),hE P "moved_to" 877 (.ref 510),hE P "paper_for" 886 (.ref 517),hE P "__static_attributes__" 891 (.ref 518)] 17) #[]::hT 0 []::hI [(302,4,434),(308,4,441),(314,4,448),(318,4,455),(322,4,462),(325,4,469),(328,4,476),(332,4,483),(336,4,490),(339,4,497),(344,4,504),(348,4,509),(353,4,516)]::hK "Desk" 774 300 424 777:: .mk (.type "frame") none .plain #[some (.ref 426),some (.ref 3),some (.ref 423),none,some (.str (.ofString "putback.desk") 752),none,some (.ref 0)]::Ua::hT 0 []:: .mk .none none (.fields #[]) #[]::hT 787 ["self","kind","source"]::hT 0 []::hR "__init__" "Desk.__init__" (aJ 53 0)::Ub::Uc::hT 0 []:: .mk .none none (.fields #[]) #[]::hT 796 ["self","name","view"]::hT 0 []::hR "hang" "Desk.hang" (aJ 53 1)::Ud::Ue::hT 0 []:: .mk .none none (.fields #[]) #[]::hT 805 ["self","name"]::hT 0 []::hR "take_down" "Desk.take_down" (aJ 53 2)::Ug::Uh::hT 0 []:: .mk .none none (.fields #[]) #[]::hT 813 ["self","name"]::hT 0 []::hR "ask_hung" "Desk.ask_hung" (aJ 53 3)::Ui::Uj::hT 0 []:: .mk .none none (.fields #[]) #[]::hT 821 ["self"]::hT 0 []::hR "hung" "Desk.hung" (aJ 53 4)::Uk::Ul::hT 0 []:: .mk .none none (.fields #[]) #[]::hT 828 ["self"]::hT 0 []::hR "source_now" "Desk.source_now" (aJ 53 5)::Um::Uo::hT 0 []:: .mk .none none (.fields #[]) #[]::hT 835 ["self","name"]::hT 0 []::hR "seen_by" "Desk.seen_by" (aJ 53 6)::Uq::Ur::hT 0 []:: .mk .none none (.fields #[]) #[]::hT 843 ["self","name","seen"]::hT 0 []::hR "put_by" "Desk.put_by" (aJ 53 7)::Us::Ut::hT 0 []:: .mk .none none (.fields #[]) #[]::hT 852 ["self","paper"]::hT 0 []::hR "change" "Desk.change" (aJ 53 8)::Uu::Uv::hT 0 []:: .mk .none none (.fields #[]) #[]::hT 860 ["self"]::hT 0 []::hR "undo" "Desk.undo" (aJ 53 9)::Uw::Ux::hT 0 []:: .mk .none none (.fields #[]) #[]::hT 867 ["self","new"]::hT 0 []::hR "did" "Desk.did" (aJ 53 10)::Uy::Uz::hT 0 []:: .mk .none none (.fields #[]) #[]::hR "moved_to" "Desk.moved_to" (aJ 53 11)::UG::UJ::hT 0 []:: .mk .none none (.fields #[]) #[]::hT 881 ["self","view","old"]::hT 0 []::hR "paper_for" "Desk.paper_for" (aJ 53 12)::UL::UW::hT 887 ["kind","past","source","views"]::U0 P::U3::U4::U5:: .mk (.type "super") none (.fields #[.ref 520,.ref 520,.ref 520]) #[]:: .mk (.type "builtin_function_or_method") none (.fields #[.builtin "object.__init_subclass__",.ref 520]) #[]::hT 0 []:: .mk .none none (.fields #[]) #[]::hT 904 ["kind","seen","place"]::hT 0 []::bh "ask_fit" (top 55)::U6::U7::hT 0 []:: .mk .none none (.fields #[]) #[]::hT 913 ["stands"]::hT 0 []::bh "ask_stands" (top 56)::U8::U9::hT 0 []:: .mk (.type "builtin_function_or_method") none (.fields #[.builtin "type.__prepare__",.type "type"]) #[]:: .mk (.type "dict") none (.dict #[hE P "__module__" 924 (.str (.ofString "putback.views") 899),hE P "__qualname__" 926 (.str (.ofString "View") 925),hE P "__firstlineno__" 928 (.int 363 927),hE P "behind" 936 (.ref 552),hE P "see" 945 (.ref 559),hE P "put" 955 (.ref 566),hE P "grade" 962 (.ref 573),hE P "keeps" 970 (.ref 580),hE P "__static_attributes__" 971 (.ref 581)] 9) #[]::hT 0 []::hI [(365,4,551),(368,4,558),(371,4,565),(375,4,572),(378,4,579)]::hK "View" 919 363 542 922:: .mk (.type "frame") none .plain #[some (.ref 544),some (.ref 3),some (.ref 541),none,some (.str (.ofString "putback.views") 899),none,some (.ref 0)]::hT 0 []:: .mk .none none (.fields #[]) #[]::hT 932 ["self","kind"]::hT 0 []::hR "behind" "View.behind" (aJ 57 0)::U_::Va::hT 0 []:: .mk .none none (.fields #[]) #[]::hT 940 ["self","kind","source"]::hT 0 []::hR "see" "View.see" (aJ 57 1)::Vb::Vc::hT 0 []:: .mk .none none (.fields #[]) #[]::hT 949 ["self","kind","source","seen"]::hT 0 []::hR "put" "View.put" (aJ 57 2)::Vd::Ve::hT 0 []:: .mk .none none (.fields #[]) #[]::hT 959 ["self"]::hT 0 []::hR "grade" "View.grade" (aJ 57 3)::Vf::Vg::hT 0 []:: .mk .none none (.fields #[]) #[]::hT 966 ["self","name"]::hT 0 []::hR "keeps" "View.keeps" (aJ 57 4)::Vh::Vi::hT 0 []::Vj P::Vk::Vl::Vm:: .mk (.type "super") none (.fields #[.ref 583,.ref 583,.ref 583]) #[]:: .mk (.type "builtin_function_or_method") none (.fields #[.builtin "object.__init_subclass__",.ref 583]) #[]::hT 0 []:: .mk .none none (.fields #[]) #[]::bh "has_each_once" (top 59)::Vn::Vo::hT 0 []:: .mk .none none (.fields #[]) #[]::bh "fields_among" (top 60)::Vp::Vq::hT 0 []:: .mk .none none (.fields #[]) #[]::hT 996 ["record","names","part","name"]::hT 0 []::bh "part_of" (top 61)::Vr::Vs:: .mk (.type "tuple") none (.seq #[.ref 583]) #[]:: .mk (.type "builtin_function_or_method") none (.fields #[.builtin "type.__prepare__",.type "type"]) #[]:: .mk (.type "dict") none (.dict #[hE P "__module__" 1010 (.str (.ofString "putback.fields") 979),hE P "__qualname__" 1012 (.str (.ofString "Take") 1011),hE P "__firstlineno__" 1014 (.int 392 1013),hE P "__init__" 1022 (.ref 618),hE P "behind" 1030 (.ref 625),hE P "see" 1039 (.ref 632),hE P "put" 1050 (.ref 639),hE P "grade" 1057 (.ref 646),hE P "keeps" 1065 (.ref 653),hE P "__static_attributes__" 1067 (.ref 654)] 10) #[]::hT 0 []::hI [(394,4,617),(397,4,624),(401,4,631),(404,4,638),(410,4,645),(413,4,652)]::hK "Take" 1005 392 608 1008:: .mk (.type "frame") none .plain #[some (.ref 610),some (.ref 3),some (.ref 607),none,some (.str (.ofString "putback.fields") 979),none,some (.ref 0)]::hT 0 []:: .mk .none none (.fields #[]) #[]::hT 1018 ["self","names"]::hT 0 []::hR "__init__" "Take.__init__" (aJ 62 0)::Vt::Vu::hT 0 []:: .mk .none none (.fields #[]) #[]::hT 1026 ["self","kind"]::hT 0 []::hR "behind" "Take.behind" (aJ 62 1)::Vv::Vw::hT 0 []:: .mk .none none (.fields #[]) #[]::hT 1034 ["self","kind","source"]::hT 0 []::hR "see" "Take.see" (aJ 62 2)::Vx::Vy::hT 0 []:: .mk .none none (.fields #[]) #[]::hT 1043 ["self","kind","source","seen","fresh"]::hT 0 []::hR "put" "Take.put" (aJ 62 3)::Vz::VB::hT 0 []:: .mk .none none (.fields #[]) #[]::hT 1054 ["self"]::hT 0 []::hR "grade" "Take.grade" (aJ 62 4)::VD::VF::hT 0 []:: .mk .none none (.fields #[]) #[]::hT 1061 ["self","name"]::hT 0 []::hR "keeps" "Take.keeps" (aJ 62 5)::VG::VH::hT 1066 ["names"]::VJ P::VL:: .mk (.type "super") none (.fields #[.ref 656,.ref 656,.ref 656]) #[]:: .mk (.type "builtin_function_or_method") none (.fields #[.builtin "object.__init_subclass__",.ref 656]) #[]::hT 0 []:: .mk .none none (.fields #[]) #[]::hT 1076 ["_law_script","_law_at","_law_cell","_law_m"]::hT 0 []::bh "_law_next" (top 64)::VN::V0::hT 0 []:: .mk .none none (.fields #[]) #[]::hT 1086 ["_law_script","_law_at","_law_m","_law_cell"]::hT 0 []::bh "_law_number" (top 65)::V1::V2::hT 0 []:: .mk .none none (.fields #[]) #[]::bh "_law_word" (top 66)::V3::V4::hT 0 []:: .mk .none none (.fields #[]) #[]::bh "_law_names" (top 67)::V5::V6::hT 0 []:: .mk .none none (.fields #[]) #[]::hT 1108 ["_law_script","_law_at"]::hT 0 []::bh "_law_plain" (top 68)::V7::V8::hT 0 []:: .mk .none none (.fields #[]) #[]::bh "_law_fields" (top 69)::V9::V_::hT 0 []:: .mk .none none (.fields #[]) #[]::bh "_law_rows_kind" (top 70)::Wa::Wb::hT 0 []:: .mk .none none (.fields #[]) #[]::hT 1128 ["_law_script","_law_at","_law_deep","_law_m"]::hT 0 []::bh "_law_kind" (top 71)::Wc::Wd::hT 0 []:: .mk .none none (.fields #[]) #[]::hT 1138 ["_law_kind_here","_law_row"]::hT 0 []::bh "_law_rank" (top 72)::Wf::Wg::hT 0 []:: .mk .none none (.fields #[]) #[]::bh "_law_rows" (top 73)::Wh::Wi::hT 0 []:: .mk .none none (.fields #[]) #[]::bh "_law_value" (top 74)::Wj::Wk::hT 0 []:: .mk .none none (.fields #[]) #[]::bh "_law_same" (top 75)::Wl::Wm::hT 0 []:: .mk .none none (.fields #[]) #[]::hT 1164 ["_law_names_here","_law_m","_law_name"]::hT 0 []::bh "_law_spare" (top 76)::Wn::Wq::hT 0 []:: .mk .none none (.fields #[]) #[]::bh "_law_some" (top 77)::Wr::Ws::hT 0 []:: .mk .none none (.fields #[]) #[]::hT 1179 ["_law_script","_law_at","_law_fields_here","_law_value_here","_law_many","_law_paper","_law_now","_law_k","_law_name","_law_inner"]::hT 0 []::bh "_law_sets" (top 78)::Wt::Wu::hT 0 []:: .mk .none none (.fields #[]) #[]::bh "_law_taken" (top 79)::Wv::Ww::hT 0 []:: .mk .none none (.fields #[]) #[]::bh "_law_pairs" (top 80)::Wx::Wy::hT 0 []:: .mk .none none (.fields #[]) #[]::hT 1207 ["_law_desk","_law_paper","_law_told","e"]::hT 0 []::bh "_law_change" (top 81)::Wz::WD::hT 0 []:: .mk .none none (.fields #[]) #[]::hT 1217 ["_law_desk","_law_name","_law_seen","_law_told","e"]::hT 0 []::bh "_law_put_by" (top 82)::WK::WL::hT 0 []:: .mk .none none (.fields #[]) #[]::hT 1228 ["_law_desk","_law_told","e"]::hT 0 []::bh "_law_undo" (top 83)::WM::WQ::hT 0 []:: .mk .none none (.fields #[]) #[]::hT 1237 ["_law_desk","_law_hooks","_law_past","_law_due"]::hT 0 []::bh "_law_undone" (top 84)::WR::WT::hT 0 []:: .mk .none none (.fields #[]) #[]::hT 1247 ["_law_script","_law_at","_law_desk","_law_hooks","_law_fields_here","_law_past","_law_way","_law_m","_law_paper","_law_now","_law_faulty","_law_hook","_law_names_here","_law_seen","_law_due"]::hT 0 []::bh "_law_deed_by" (top 85)::WW::WX::hT 0 []:: .mk .none none (.fields #[]) #[]::bh "_law_hung" (top 86)::WY::W0::hT 0 []:: .mk .none none (.fields #[]) #[]::hT 1274 ["_law_script","_law_at","_law_fields_here","_law_kind_here","_law_past","_law_desk","_law_hooks","_law_cell","_law_way","_law_good","_law_hook","_law_names_here","_law_k"]::hT 0 []::bh "law" (top 87)::W6::W8::[]
noncomputable def ad1 (P:Params):List (Nat × Obj):=(nat_lit 3,QG P)::(nat_lit 12,hI [(1,0,20),(5,0,27),(7,0,40),(9,0,52),(11,0,64),(13,0,76),(15,0,88),(19,0,107),(23,0,126),(27,0,145),(32,0,164),(34,0,171),(39,0,178),(46,0,185),(49,0,192),(62,0,199),(70,0,204),(72,0,211),(86,0,218),(88,0,225),(99,0,232),(109,0,239),(123,0,246),(128,0,251),(139,0,258),(144,0,265),(150,0,272),(152,0,279),(158,0,286),(165,0,293),(167,0,300),(180,0,307),(191,0,314),(199,0,321),(201,0,328),(208,0,335),(210,0,342),(215,0,349),(222,0,356),(228,0,363),(242,0,370),(248,0,377),(251,0,384),(262,0,391),(267,0,398),(279,0,405),(291,0,412),(298,0,419),(300,0,426),(356,0,530),(360,0,537),(363,0,544),(381,0,591),(385,0,596),(387,0,603),(392,0,610),(416,0,664),(421,0,671),(427,0,676),(433,0,681),(441,0,688),(443,0,693),(445,0,698),(453,0,705),(464,0,712),(466,0,717),(471,0,722),(486,0,727),(498,0,734),(503,0,739),(506,0,746),(514,0,751),(516,0,756),(522,0,763),(528,0,770),(536,0,777),(542,0,784),(547,0,791),(562,0,796),(572,0,803)])::[]
end
noncomputable def KK:PySem.Params->W.Frag:=λP=>(nat_lit 2,ob2)::(nat_lit 3,QG P)::(nat_lit 20,QH)::(nat_lit 21,QJ)::(nat_lit 30,QK P)::(nat_lit 31,QL)::(nat_lit 32,QM)::(nat_lit 43,QS P)::(nat_lit 44,QT)::(nat_lit 55,QV P)::(nat_lit 56,QW)::(nat_lit 67,QX P)::(nat_lit 68,QZ)::(nat_lit 79,Q0 P)::(nat_lit 80,Q5)::(nat_lit 95,Q6)::(nat_lit 96,Q7)::(nat_lit 98,Q8 P)::(nat_lit 99,Q9)::(nat_lit 114,Q_)::(nat_lit 115,Ra)::(nat_lit 117,Rb P)::(nat_lit 118,Rc)::(nat_lit 133,Rf)::(nat_lit 134,Rg)::(nat_lit 136,Rh P)::(nat_lit 137,Ri)::(nat_lit 152,Rj)::(nat_lit 153,Rk)::(nat_lit 155,Rm P)::(nat_lit 156,Rn)::(nat_lit 164,Ro)::(nat_lit 165,Rp)::(nat_lit 171,Rq)::(nat_lit 172,Rr)::(nat_lit 178,Rt)::(nat_lit 179,Ru)::(nat_lit 185,Rv)::(nat_lit 186,Rw)::(nat_lit 192,Rx)::(nat_lit 193,Ry)::(nat_lit 199,Rz)::(nat_lit 200,RB)::(nat_lit 204,RD)::(nat_lit 205,RG)::(nat_lit 211,RJ)::(nat_lit 212,RK)::(nat_lit 218,RL)::(nat_lit 219,RM)::(nat_lit 225,RN)::(nat_lit 226,RT)::(nat_lit 232,RV)::(nat_lit 233,RW)::(nat_lit 239,RX)::(nat_lit 240,RZ)::(nat_lit 246,R0)::(nat_lit 247,R3)::(nat_lit 251,R4)::(nat_lit 252,R5)::(nat_lit 258,R6)::(nat_lit 259,R7)::(nat_lit 265,R8)::(nat_lit 266,R9)::(nat_lit 272,R_)::(nat_lit 273,Sd)::(nat_lit 279,Sg)::(nat_lit 280,Sh)::(nat_lit 286,Sq)::(nat_lit 287,Ss)::(nat_lit 293,Sv)::(nat_lit 294,Sw)::(nat_lit 300,Sx)::(nat_lit 301,Sy)::(nat_lit 307,SJ)::(nat_lit 308,SQ)::(nat_lit 314,SX)::(nat_lit 315,S6)::(nat_lit 321,S_)::(nat_lit 322,Tc)::(nat_lit 328,Td)::(nat_lit 329,Te)::(nat_lit 335,Tf)::(nat_lit 336,Tg)::(nat_lit 342,Ti)::(nat_lit 343,Tj)::(nat_lit 349,Tn)::(nat_lit 350,Tp)::(nat_lit 356,Tq)::(nat_lit 357,Tr)::(nat_lit 363,Tt)::(nat_lit 364,Tv)::(nat_lit 370,Tw)::(nat_lit 371,Tz)::(nat_lit 377,TF)::(nat_lit 378,TJ)::(nat_lit 384,TQ)::(nat_lit 385,TV)::(nat_lit 391,TX)::(nat_lit 392,TY)::(nat_lit 398,T3)::(nat_lit 399,T4)::(nat_lit 405,T5)::(nat_lit 406,T6)::(nat_lit 412,T7)::(nat_lit 413,T8)::(nat_lit 419,T9)::(nat_lit 420,T_)::(nat_lit 428,Ua)::(nat_lit 434,Ub)::(nat_lit 435,Uc)::(nat_lit 441,Ud)::(nat_lit 442,Ue)::(nat_lit 448,Ug)::(nat_lit 449,Uh)::(nat_lit 455,Ui)::(nat_lit 456,Uj)::(nat_lit 462,Uk)::(nat_lit 463,Ul)::(nat_lit 469,Um)::(nat_lit 470,Uo)::(nat_lit 476,Uq)::(nat_lit 477,Ur)::(nat_lit 483,Us)::(nat_lit 484,Ut)::(nat_lit 490,Uu)::(nat_lit 491,Uv)::(nat_lit 497,Uw)::(nat_lit 498,Ux)::(nat_lit 504,Uy)::(nat_lit 505,Uz)::(nat_lit 509,UG)::(nat_lit 510,UJ)::(nat_lit 516,UL)::(nat_lit 517,UW)::(nat_lit 519,U0 P)::(nat_lit 520,U3)::(nat_lit 521,U4)::(nat_lit 522,U5)::(nat_lit 530,U6)::(nat_lit 531,U7)::(nat_lit 537,U8)::(nat_lit 538,U9)::(nat_lit 551,U_)::(nat_lit 552,Va)::(nat_lit 558,Vb)::(nat_lit 559,Vc)::(nat_lit 565,Vd)::(nat_lit 566,Ve)::(nat_lit 572,Vf)::(nat_lit 573,Vg)::(nat_lit 579,Vh)::(nat_lit 580,Vi)::(nat_lit 582,Vj P)::(nat_lit 583,Vk)::(nat_lit 584,Vl)::(nat_lit 585,Vm)::(nat_lit 591,Vn)::(nat_lit 592,Vo)::(nat_lit 596,Vp)::(nat_lit 597,Vq)::(nat_lit 603,Vr)::(nat_lit 604,Vs)::(nat_lit 617,Vt)::(nat_lit 618,Vu)::(nat_lit 624,Vv)::(nat_lit 625,Vw)::(nat_lit 631,Vx)::(nat_lit 632,Vy)::(nat_lit 638,Vz)::(nat_lit 639,VB)::(nat_lit 645,VD)::(nat_lit 646,VF)::(nat_lit 652,VG)::(nat_lit 653,VH)::(nat_lit 655,VJ P)::(nat_lit 656,VL)::(nat_lit 664,VN)::(nat_lit 665,V0)::(nat_lit 671,V1)::(nat_lit 672,V2)::(nat_lit 676,V3)::(nat_lit 677,V4)::(nat_lit 681,V5)::(nat_lit 682,V6)::(nat_lit 688,V7)::(nat_lit 689,V8)::(nat_lit 693,V9)::(nat_lit 694,V_)::(nat_lit 698,Wa)::(nat_lit 699,Wb)::(nat_lit 705,Wc)::(nat_lit 706,Wd)::(nat_lit 712,Wf)::(nat_lit 713,Wg)::(nat_lit 717,Wh)::(nat_lit 718,Wi)::(nat_lit 722,Wj)::(nat_lit 723,Wk)::(nat_lit 727,Wl)::(nat_lit 728,Wm)::(nat_lit 734,Wn)::(nat_lit 735,Wq)::(nat_lit 739,Wr)::(nat_lit 740,Ws)::(nat_lit 746,Wt)::(nat_lit 747,Wu)::(nat_lit 751,Wv)::(nat_lit 752,Ww)::(nat_lit 756,Wx)::(nat_lit 757,Wy)::(nat_lit 763,Wz)::(nat_lit 764,WD)::(nat_lit 770,WK)::(nat_lit 771,WL)::(nat_lit 777,WM)::(nat_lit 778,WQ)::(nat_lit 784,WR)::(nat_lit 785,WT)::(nat_lit 791,WW)::(nat_lit 792,WX)::(nat_lit 796,WY)::(nat_lit 797,W0)::(nat_lit 803,W6)::(nat_lit 804,W8)::[]
noncomputable def pG:List Nat:=nat_lit 2::nat_lit 3::nat_lit 20::nat_lit 21::nat_lit 30::nat_lit 31::nat_lit 32::nat_lit 43::nat_lit 44::nat_lit 55::nat_lit 56::nat_lit 67::nat_lit 68::nat_lit 79::nat_lit 80::nat_lit 95::nat_lit 96::nat_lit 98::nat_lit 99::nat_lit 114::nat_lit 115::nat_lit 117::nat_lit 118::nat_lit 133::nat_lit 134::nat_lit 136::nat_lit 137::nat_lit 152::nat_lit 153::nat_lit 155::nat_lit 156::nat_lit 164::nat_lit 165::nat_lit 171::nat_lit 172::nat_lit 178::nat_lit 179::nat_lit 185::nat_lit 186::nat_lit 192::nat_lit 193::nat_lit 199::nat_lit 200::nat_lit 204::nat_lit 205::nat_lit 211::nat_lit 212::nat_lit 218::nat_lit 219::nat_lit 225::nat_lit 226::nat_lit 232::nat_lit 233::nat_lit 239::nat_lit 240::nat_lit 246::nat_lit 247::nat_lit 251::nat_lit 252::nat_lit 258::nat_lit 259::nat_lit 265::nat_lit 266::nat_lit 272::nat_lit 273::nat_lit 279::nat_lit 280::nat_lit 286::nat_lit 287::nat_lit 293::nat_lit 294::nat_lit 300::nat_lit 301::nat_lit 307::nat_lit 308::nat_lit 314::nat_lit 315::nat_lit 321::nat_lit 322::nat_lit 328::nat_lit 329::nat_lit 335::nat_lit 336::nat_lit 342::nat_lit 343::nat_lit 349::nat_lit 350::nat_lit 356::nat_lit 357::nat_lit 363::nat_lit 364::nat_lit 370::nat_lit 371::nat_lit 377::nat_lit 378::nat_lit 384::nat_lit 385::nat_lit 391::nat_lit 392::nat_lit 398::nat_lit 399::nat_lit 405::nat_lit 406::nat_lit 412::nat_lit 413::nat_lit 419::nat_lit 420::nat_lit 428::nat_lit 434::nat_lit 435::nat_lit 441::nat_lit 442::nat_lit 448::nat_lit 449::nat_lit 455::nat_lit 456::nat_lit 462::nat_lit 463::nat_lit 469::nat_lit 470::nat_lit 476::nat_lit 477::nat_lit 483::nat_lit 484::nat_lit 490::nat_lit 491::nat_lit 497::nat_lit 498::nat_lit 504::nat_lit 505::nat_lit 509::nat_lit 510::nat_lit 516::nat_lit 517::nat_lit 519::nat_lit 520::nat_lit 521::nat_lit 522::nat_lit 530::nat_lit 531::nat_lit 537::nat_lit 538::nat_lit 551::nat_lit 552::nat_lit 558::nat_lit 559::nat_lit 565::nat_lit 566::nat_lit 572::nat_lit 573::nat_lit 579::nat_lit 580::nat_lit 582::nat_lit 583::nat_lit 584::nat_lit 585::nat_lit 591::nat_lit 592::nat_lit 596::nat_lit 597::nat_lit 603::nat_lit 604::nat_lit 617::nat_lit 618::nat_lit 624::nat_lit 625::nat_lit 631::nat_lit 632::nat_lit 638::nat_lit 639::nat_lit 645::nat_lit 646::nat_lit 652::nat_lit 653::nat_lit 655::nat_lit 656::nat_lit 664::nat_lit 665::nat_lit 671::nat_lit 672::nat_lit 676::nat_lit 677::nat_lit 681::nat_lit 682::nat_lit 688::nat_lit 689::nat_lit 693::nat_lit 694::nat_lit 698::nat_lit 699::nat_lit 705::nat_lit 706::nat_lit 712::nat_lit 713::nat_lit 717::nat_lit 718::nat_lit 722::nat_lit 723::nat_lit 727::nat_lit 728::nat_lit 734::nat_lit 735::nat_lit 739::nat_lit 740::nat_lit 746::nat_lit 747::nat_lit 751::nat_lit 752::nat_lit 756::nat_lit 757::nat_lit 763::nat_lit 764::nat_lit 770::nat_lit 771::nat_lit 777::nat_lit 778::nat_lit 784::nat_lit 785::nat_lit 791::nat_lit 792::nat_lit 796::nat_lit 797::nat_lit 803::nat_lit 804::[]
noncomputable def W_ (P:PySem.Params):W.BT:=FT 11 (ad0 P) ((FW P).ins 3 (mo3 P))
noncomputable def ad2 (P:PySem.Params):W.BT:=Qw (ad1 P) (FT 344 (endL P) (W_ P))
noncomputable def qv:PySem.Program:={ PySem.Challenge.pw_putback_k85_desk_undone with main:={ (PySem.Challenge.pw_putback_k85_desk_undone).main with body:=top 0::top 2::top 3::top 4::top 5::top 6::top 7::top 8::top 9::top 10::top 12::top 13::top 14::top 15::top 17::top 18::top 19::top 20::top 21::top 22::top 23::top 24::top 25::top 26::top 27::top 28::top 29::top 30::top 32::top 33::top 34::top 35::top 36::top 37::top 38::top 39::top 40::top 41::top 42::top 43::top 44::top 45::top 46::top 47::top 48::top 49::top 51::top 52::top 53::top 55::top 56::top 57::top 59::top 60::top 61::top 62::top 64::top 65::top 66::top 67::top 68::top 69::top 70::top 71::top 72::top 73::top 74::top 75::top 76::top 77::top 78::top 79::top 80::top 81::top 82::top 83::top 84::top 85::top 86::top 87::[] } }
theorem qK (P:PySem.Params):pG=(KK P).map (·.1):=by kernel_rfl
noncomputable def Xa (w:PySem.World) (os:PySem.OsState):W.SharedT:=⟨W_ w.params,344,(W.boot_heap w.params).life,#[],W.boot_drawn,645,os⟩
noncomputable def qL (w:PySem.World) (os:PySem.OsState):W.SharedT:=⟨ad2 w.params,805,(W.boot_heap w.params).life,#[],W.boot_drawn,1290,os⟩
noncomputable def FZ:List PySem.Stmt:=W.behindTheImports (W.OpenLaw.row PySem.Challenge.rw_putback_k85_desk_undone).prog
noncomputable def zK:PySem.Env:={ scope:=((W.OpenLaw.row PySem.Challenge.rw_putback_k85_desk_undone).prog).main.scope,locals:=PySem.mainNs,globals:=PySem.mainNs,cells:=[],code:=.ref 13,frame:=some 14 }
noncomputable def vX:PySem.Code:=.body (W.behindTheImports (W.OpenLaw.row PySem.Challenge.rw_putback_k85_desk_undone).prog) zK
open PySem PySem.W PyProof.Rows in
theorem ad3:∀w os,zF (W.OpenLaw.row PySem.Challenge.rw_putback_k85_desk_undone).prog w 11 (some (.ref 6)) zK vX ⟨0,0,0,0⟩ (FZ.take 41) 12 1 5000 (zG w os)=some (⟨kO kW (.body (behindTheImports (W.OpenLaw.row PySem.Challenge.rw_putback_k85_desk_undone).prog) zK),vX,⟨0,0,0,0⟩,[topFrame ⟨0,0,0,0⟩]⟩,vX,vX,Xa w os,⟨210,0,214,52⟩):=by
 intro w os
 kernel_rfl
open PySem PySem.W PyProof.Rows in
theorem ad4:∀w os,qI (W.OpenLaw.row PySem.Challenge.rw_putback_k85_desk_undone).prog w 11 (some (.ref 6)) 6000 (Xa w os) (restOf (FZ.drop 41) zK vX ⟨210,0,214,52⟩ [topFrame ⟨0,0,0,0⟩])=some (qL w os):=by
 intro w os
 kernel_rfl
open PySem PySem.W PyProof.Rows in
theorem ad5:∀w os,(staticsOk (importedModules ((W.OpenLaw.row PySem.Challenge.rw_putback_k85_desk_undone).prog).main.body) (boot_heap w.params) (qL w os).abs.heap && namesBound (W.OpenLaw.row PySem.Challenge.rw_putback_k85_desk_undone).prog (qL w os).abs.heap && gensDone (qL w os).abs && laidKept (boot_heap w.params) (qL w os).abs.heap)=true:=by
 intro w os
 kernel_rfl
open PySem PySem.W PyProof.Rows in
theorem ad6:∀w os,seenQ qv [] (importedModules ((W.OpenLaw.row PySem.Challenge.rw_putback_k85_desk_undone).prog).main.body) (λs=>xlAt qv [] s && recOk (RowW.records (W.OpenRow.toRowW (W.OpenLaw.row PySem.Challenge.rw_putback_k85_desk_undone))) s) true (qL w os).abs=openGood qv []:=by
 intro w os
 kernel_rfl
open PySem PySem.W PyProof.Rows in
theorem ad7:∀w os,Hook.obs (W.kmHook Pb.KK Pb.pG Pb.qK [174,268,715]) (qL w os).abs=Hook.val (W.kmHook Pb.KK Pb.pG Pb.qK [174,268,715]) w:=by
 intro w os
 kernel_rfl
open PySem PySem.W PyProof.Rows in
theorem said:PySem.Challenge.rw_putback_k85_desk_undone.wellSaid=true:=by
 delta OpenLaw.wellSaid OpenRow.wellSaid OpenRow.partSaid looksOpen
 repeat' (with_reducible refine look_both ?_ ?_)
 all_goals kernel_rfl
end Pb
namespace L2
open PySem PySem.Spec PyProof.Rows
noncomputable abbrev Key:=Sum Int Str
noncomputable def pH:Key->Value->Bool
 | .inl k,v=>Value.isInt k v
 | .inr x,v=>Value.isStrOf x v
noncomputable def ad8 (w:World):Key->Int
 | .inl k=>hashInt k
 | .inr x=>hashStr w x
theorem lW:∀{k:Key}{v:Value},pH k v=true->(∃i t,k=Sum.inl i/\v=Value.int i t)\/(∃x t,k=Sum.inr x/\v=Value.str x t)
 | .inl i,v,h=>by
   obtain⟨t,e⟩:=Value.isInt_shape (k:=i) (v:=v) h
   exact .inl ⟨i,t,rfl,e⟩
 | .inr x,v,h=>by
   obtain⟨t,e⟩:=Value.isStrOf_shape (x:=x) (v:=v) h
   exact .inr ⟨x,t,rfl,e⟩
theorem ad9 (i:Int)(t:Tok):pH (.inl i) (.int i t)=true:=by simp[pH,Value.isInt]
theorem Xb (x:Str)(t:Tok):pH (.inr x) (.str x t)=true:=by simp[pH,Value.isStrOf]
theorem ad_ (a b:Int):decide ((Sum.inl a:Key)=Sum.inl b)=(a == b):=by
 by_cases e:a=b
 . subst e;simp
 . have h:¬(Sum.inl a:Key)=Sum.inl b:=λq=>e (Sum.inl.inj q)
   rw[decide_eq_false h]
   exact(beq_eq_false_iff_ne.mpr e).symm
theorem aea (a b:Str):decide ((Sum.inr a:Key)=Sum.inr b)=decide (a=b):=by
 by_cases e:a=b
 . subst e;simp
 . have h:¬(Sum.inr a:Key)=Sum.inr b:=λq=>e (Sum.inr.inj q)
   rw[decide_eq_false h,decide_eq_false e]
theorem aeb (a:Int)(b:Str):decide ((Sum.inl a:Key)=Sum.inr b)=false:=decide_eq_false (λq=>nomatch q)
theorem aec (a:Str)(b:Int):decide ((Sum.inr a:Key)=Sum.inl b)=false:=decide_eq_false (λq=>nomatch q)
noncomputable def cJ (prog:Program) (w:World):PySem.KeyKind prog w Key where
 is:=pH
 hash:=ad8 w
 inj:=λv a b ha hb=>by
  rcases lW ha with⟨i,t,rfl,rfl⟩|⟨x,t,rfl,rfl⟩
  . rcases lW hb with⟨j,u,rfl,e⟩|⟨y,u,rfl,e⟩
    . injection e with e1 _;rw[e1]
    . exact nomatch e
  . rcases lW hb with⟨j,u,rfl,e⟩|⟨y,u,rfl,e⟩
    . exact nomatch e
    . injection e with e1 _;rw[e1]
 byValue:=λk v h=>by
  rcases lW h with⟨i,t,rfl,rfl⟩|⟨x,t,rfl,rfl⟩ <;> rfl
 pyHash:=λhv h=>by
  rcases lW hv with⟨i,t,rfl,rfl⟩|⟨x,t,rfl,rfl⟩
  . exact wpAny_pyHash_int h
  . exact wpAny_pyHash_str h
 eqBool:=λhu hv h=>by
  rcases lW hu with⟨i,t,rfl,rfl⟩|⟨x,t,rfl,rfl⟩
  . rcases lW hv with⟨j,u,rfl,rfl⟩|⟨y,u,rfl,rfl⟩
    . rw[ad_] at h;exact wpAny_eqBool_int h
    . rw[aeb] at h;exact SeqAt.EqAt.int_str i t y u _ _ _ _ h
  . rcases lW hv with⟨j,u,rfl,rfl⟩|⟨y,u,rfl,rfl⟩
    . rw[aec] at h;exact SeqAt.EqAt.str_int x t j u _ _ _ _ h
    . rw[aea] at h;exact wpAny_eqBool_str h
 «strs»:=λk x t v h=>by
  rcases lW h with⟨i,u,rfl,e⟩|⟨y,u,rfl,e⟩
  . exact nomatch e
  . injection e with e1 _
    subst e1
    cases v <;> rfl
theorem aed (prog:Program)(w:World)(i:Int)(t:Tok):(cJ prog w).is (.inl i) (.int i t)=true:=ad9 i t
theorem aee (prog:Program)(w:World)(x:Str)(t:Tok):(cJ prog w).is (.inr x) (.str x t)=true:=Xb x t
inductive V where
 |non|bl (b:Bool)|int (i:Int)|str (x:Str)|jR (b:Array UInt8)|flt (b:UInt64)|ref (a:Addr)|ty (n:String)
 deriving DecidableEq
noncomputable def RelV:V->Value->Prop
 | .non,u=>u=Value.none
 | .bl b,u=>u=Value.bool b
 | .int i,u=>∃t,u=Value.int i t
 | .str x,u=>∃t,u=Value.str x t
 | .jR b,u=>∃t,u=Value.bytes b t
 | .flt b,u=>∃t,u=Value.float b t
 | .ref a,u=>u=Value.ref a
 | .ty n,u=>u=Value.type n
noncomputable abbrev Vals:List V->List Value->Prop:=Paired RelV
theorem Vals.length {xs:List V}{us:List Value}(r:Vals xs us):xs.length=us.length:=Paired.length r
theorem Vals.get:∀{xs:List V}{us:List Value}{i:Nat}{x:V},Vals xs us->xs[i]? =some x->∃u,us[i]? =some u/\RelV x u
 |_,_,_,_,.nil,e=>by simp at e
 |_,_,0,_,.cons r _,e=>by simp at e;subst e;exact⟨_,rfl,r⟩
 |_,_,i+1,x,.cons _ t,e=>by
  obtain⟨u,h1,h2⟩:=Vals.get (i:=i) (x:=x) t (by simpa using e)
  exact⟨u,by simpa using h1,h2⟩
theorem Vals.set {x:V}{u:Value}(r:RelV x u):∀{xs:List V}{us:List Value}(i:Nat),Vals xs us->Vals (xs.set i x) (us.set i u)
 |_,_,_,.nil=>.nil
 |_,_,0,.cons _ t=>.cons r t
 |_,_,i+1,.cons q t=>.cons q (Vals.set r i t)
theorem Vals.append:∀{xs ys:List V}{us ws:List Value},Vals xs us->Vals ys ws->Vals (xs++ys) (us++ws)
 |_,_,_,_,.nil,s=>s
 |_,_,_,_,.cons r t,s=>.cons r (Vals.append t s)
theorem Vals.take:∀{xs:List V}{us:List Value}(n:Nat),Vals xs us->Vals (xs.take n) (us.take n)
 |_,_,0,_=>.nil
 |_,_,_+1,.nil=>.nil
 |_,_,n+1,.cons r t=>.cons r (Vals.take n t)
theorem Vals.drop:∀{xs:List V}{us:List Value}(n:Nat),Vals xs us->Vals (xs.drop n) (us.drop n)
 |_,_,0,r=>r
 |_,_,_+1,.nil=>.nil
 |_,_,n+1,.cons _ t=>Vals.drop n t
theorem Vals.none_of:∀{xs:List V}{us:List Value}{i:Nat},Vals xs us->xs[i]? =none->us[i]? =none:=λ{xs us i} r e=>by
 have h1:=r.length
 have h2:xs.length<=i:=List.getElem?_eq_none_iff.mp e
 exact List.getElem?_eq_none_iff.mpr (by omega)
noncomputable def gA:Option V->Option Value->Prop
 |some v,some u=>RelV v u
 |none,none=>True
 |_,_=>False
noncomputable def KV {κ:Type}:List (κ × V)->List (κ × Value)->Prop:=Paired λ(p:κ × V) (q:κ × Value)=>p.1=q.1/\RelV p.2 q.2
noncomputable def kV:Key->V
 | .inl i=>.int i
 | .inr x=>.str x
inductive HO where
 |lst (xs:List V)
 |tup (xs:List V)
 |dK (kvs:List (Key × V))|dT (kvs:List (List Key × V))
 |set (S:Int->Bool) (n:Nat)
 |ins (C dx:Addr) (fs:List (Str × V))
 |own (x:Addr)
 |xd (fs:List (Str × V))
 |met (f x:Addr)
 |rng (lo hi:Int)
 |cu (o:Obj) (u:HO)
 |dD (ps:Array Value)
 |ext (φ:Heap->Prop)
noncomputable abbrev Hp:=Addr->Option HO
noncomputable def upd (H:Hp) (a:Addr) (o:HO):Hp:=λb=>if b=a then some o else H b
theorem aF {H:Hp}{a:Addr}{o:HO}:upd H a o a=some o:=by unfold upd;rw[if_pos rfl]
theorem au {H:Hp}{a b:Addr}{o:HO}(h:b≠a):upd H a o b=H b:=by unfold upd;rw[if_neg h]
theorem kY {H:Hp}{a b:Addr}{o u:HO}(h:H a=some o)(h':H b=some u)(d:o≠u):a≠b:=by
 intro e;subst e;rw[h] at h';exact d (Option.some.inj h')
theorem aN {H:Hp}{a b:Addr}{o:HO}(h:H a=some o)(h':H b=none):a≠b:=by
 intro e;subst e;rw[h] at h';cases h'
section
variable (P:Program)(w:World)
noncomputable def cT (H:Hp) (h:Heap) (a:Addr):HO->Prop
 | .lst xs=>xs.length<=sizeLine/\∃(its:List Value) (n:Nat),Vals xs its/\h.get? a=some { cls:=.type "list",data:=.seq its.toArray n }
 | .tup xs=>xs.length<=sizeLine/\∃its:List Value,Vals xs its/\IsTup h a its.toArray
 | .dK kvs=>kvs.length<=sizeLine/\(a == sysModules)=false/\∃vs,KV kvs vs/\h.DictOf (cJ P w) a vs
 | .dT kvs=>kvs.length<=sizeLine/\(a == sysModules)=false/\∃xs:List (List Key × Addr × Value),
    Paired (λ(p:List Key × V) (q:List Key × Addr × Value)=>p.1=q.1/\H q.2.1=some (.tup (p.1.map kV))/\RelV p.2 q.2.2) kvs xs/\
    ∃o es ep,h.get? a=some o/\o.ExactDict/\o.data=.dict es ep/\es.toList=xs.map (entryOfKey (tupleKind (cJ P w)))/\(xs.map (·.1)).Nodup
 | .set S n=>h.SetOf (intKind P w) a S n
 | .ins C dx fs=>H dx=some (.own a)/\fs.length<=1000/\dx≠a/\h.get? a=some (W.instObj C dx)/\
    ∃mA,h.Ns1 dx mA/\(∀f,gA (fs.lookup f) (mA f))/\PySem.Within mA (fs.map (·.1))
 | .own _=>∃o,h.get? a=some o
 | .xd fs=>∃mA,h.Ns1 a mA/\∀f,gA (fs.lookup f) (mA f)
 | .rng lo hi=>∃t u v,h.get? a=some { cls:=.type "range",data:=.fields #[.int lo t,.int hi u,.int 1 v] }
 | .cu o u=>h.get? a=some o/\cT H h a u
 | .dD ps=>h.get? a=some { cls:=.none,data:=.fields ps }
 | .met f x=>h.get? a=some (W.methodObj (.ref f) (.ref x))
 | .ext φ=>φ h/\(∃o,h.get? a=some o)/\∀h1 h2:Heap,φ h1->(∀o,h1.get? a=some o->h2.get? a=some o)->φ h2
noncomputable def cL (H:Hp) (h:Heap):Prop:=∀a o,H a=some o->cT P w H h a o
end
section
variable {P:Program}{w:World}{H H':Hp}{h h':Heap}{a:Addr}{o:HO}
theorem cT.lt (x:cT P w H h a o):a<h.objs.size:=by
 cases o with
 |lst xs=>obtain⟨_,_,_,_,e⟩:=x;exact Q02 e
 |tup xs=>obtain⟨_,_,_,p⟩:=x;exact p.lt
 |dK kvs=>obtain⟨_,_,_,_,o,_,_,e,_⟩:=x;exact Q02 e
 |dT kvs=>obtain⟨_,_,_,_,o,_,_,e,_⟩:=x;exact Q02 e
 |set S n=>obtain⟨o,_,_,_,e,_⟩:=x;exact Q02 e
 |ins C dx fs=>obtain⟨_,_,_,e,_⟩:=x;exact Q02 e
 |own y=>obtain⟨_,e⟩:=x;exact Q02 e
 |xd fs=>obtain⟨_,⟨_,_,_,e,_⟩,_⟩:=x;exact Q02 e
 |rng lo hi=>obtain⟨_,_,_,e⟩:=x;exact Q02 e
 |cu ob u=>obtain⟨e,_⟩:=x;exact Q02 e
 |dD ps=>exact Q02 (show h.get? a=some _ from x)
 |met f y=>exact Q02 (show h.get? a=some _ from x)
 |ext φ=>obtain⟨_,⟨_,e⟩,_⟩:=x;exact Q02 e
theorem Paired.Ga {α β:Type}{F G:α->β->Prop}:∀{l₁:List α}{l₂:List β},Paired F l₁ l₂->(∀a b,F a b->G a b)->Paired G l₁ l₂
 |_,_,.nil,_=>.nil
 |_,_,.cons r t,f=>.cons (f _ _ r) (Paired.Ga t f)
theorem cT.stay (x:cT P w H h a o)(k:∀b u,(b=a\/H b=some (.own a))->h.get? b=some u->h'.get? b=some u)
 (ho:∀b,H b=some (.own a)->H' b=some (.own a)) (ht:∀b xs,H b=some (.tup xs)->H' b=some (.tup xs)):cT P w H' h' a o:=by
 induction o with
 |lst xs=>obtain⟨z,its,n,r,e⟩:=x;exact⟨z,its,n,r,k _ _ (.inl rfl) e⟩
 |tup xs=>obtain⟨z,its,r,ob,e,c⟩:=x;exact⟨z,its,r,ob,k _ _ (.inl rfl) e,c⟩
 |dK kvs=>obtain⟨z,y,vs,r,ob,es,ep,e,c⟩:=x;exact⟨z,y,vs,r,ob,es,ep,k _ _ (.inl rfl) e,c⟩
 |dT kvs=>
  obtain⟨z,y,xs,r,ob,es,ep,e,c⟩:=x
  exact⟨z,y,xs,Paired.Ga r λp q z=>⟨z.1,ht _ _ z.2.1,z.2.2⟩,ob,es,ep,k _ _ (.inl rfl) e,c⟩
 |set S n=>obtain⟨ob,es,ep,t,e,c⟩:=x;exact⟨ob,es,ep,t,k _ _ (.inl rfl) e,c⟩
 |ins C dx fs=>
  obtain⟨d,z,ne,e,mA,⟨od,es,ep,e2,c⟩,r⟩:=x
  exact⟨ho _ d,z,ne,k _ _ (.inl rfl) e,mA,⟨od,es,ep,k _ _ (.inr d) e2,c⟩,r⟩
 |own y=>obtain⟨ob,e⟩:=x;exact⟨ob,k _ _ (.inl rfl) e⟩
 |xd fs=>obtain⟨mA,⟨od,es,ep,e,c⟩,r⟩:=x;exact⟨mA,⟨od,es,ep,k _ _ (.inl rfl) e,c⟩,r⟩
 |rng lo hi=>obtain⟨t,u,v,e⟩:=x;exact⟨t,u,v,k _ _ (.inl rfl) e⟩
 |cu ob u ih=>obtain⟨e,q⟩:=x;exact⟨k _ _ (.inl rfl) e,ih q⟩
 |dD ps=>
  have e:h.get? a=some { cls:=.none,data:=.fields ps }:=x
  show h'.get? a=some { cls:=.none,data:=.fields ps }
  exact k a _ (.inl rfl) e
 |met f y=>
  have e:h.get? a=some (W.methodObj (.ref f) (.ref y)):=x
  show h'.get? a=some (W.methodObj (.ref f) (.ref y))
  exact k a _ (.inl rfl) e
 |ext φ=>obtain⟨p,⟨o,e⟩,st⟩:=x;exact⟨st _ _ p λo q=>k _ _ (.inl rfl) q,⟨o,k _ _ (.inl rfl) e⟩,st⟩
theorem cL.lt (x:cL P w H h)(e:H a=some o):a<h.objs.size:=(x a o e).lt
theorem cL.fresh (x:cL P w H h)(e:h.objs.size<=a):H a=none:=by
 cases q:H a with
 |none=>rfl
 |some u=>exact absurd (Q0a (x.lt q) e) (Q0l _)
theorem cL.kept (x:cL P w H h)(k:∀b u,h.get? b=some u->h'.get? b=some u):cL P w H h':=λa o e=>
 (x a o e).stay (λb u _ q=>k b u q) (λ_ q=>q) λ_ _ q=>q
theorem cL.laid (x:cL P w H h)(k:∀b u,h.get? b=some u->h'.get? b=some u)(hp:h.objs.size<=a)(new:cT P w (upd H a o) h' a o):cL P w (upd H a o) h':=λb u e=>by
 have hn:=x.fresh hp
 by_cases hb:b=a
 . subst hb;rw[aF] at e;cases e;exact new
 . rw[au hb] at e
   exact(x b u e).stay (λc v _ q=>k c v q) (λc q=>by rw[au (aN q hn)];exact q) λc xs q=>by rw[au (aN q hn)];exact q
end
noncomputable def Rd (H:Hp) (a:Addr) (u:HO):Prop:=H a=some u\/∃o,H a=some (.cu o u)
theorem Rd.ok {P:Program}{w:World}{H:Hp}{h:Heap}{a:Addr}{u:HO}(r:Rd H a u)(x:cL P w H h):cT P w H h a u:=by
 rcases r with r|⟨o,r⟩
 . exact x a u r
 . obtain⟨_,q⟩:=x a _ r
   exact q
noncomputable def vY:Option HO->Prop
 |some (.lst _)=>True
 |some (.dK _)=>True
 |some (.dT _)=>True
 |some (.set _ _)=>True
 |some (.ins _ _ _)=>True
 |some (.ext _)=>True
 |_=>False
section
variable {P:Program}{w:World}{H:Hp}{h h':Heap}{x e:Addr}{o':HO}
theorem cL.write (ok:cL P w H h)(mu:vY (H x))(he:e=x\/H e=some (.own x))(k:∀b u,b≠e->h.get? b=some u->h'.get? b=some u)(heo:∃u,h'.get? e=some u)
 (new:cT P w (upd H x o') h' x o'):cL P w (upd H x o') h':=λb u q=>by
 have Xc:∀c y,H c=some (.own y)->c≠x:=λc y r z=>by subst z;rw[r] at mu;exact mu
 have aef:∀c xs,H c=some (.tup xs)->c≠x:=λc xs r z=>by subst z;rw[r] at mu;exact mu
 by_cases hb:b=x
 . subst hb;rw[aF] at q;cases q;exact new
 . rw[au hb] at q
   by_cases hbe:b=e
   . have q':H b=some (.own x):=by
      rcases he with z|z
      . exact absurd (hbe.trans z) hb
      . rw[hbe];exact z
     rw[q] at q';cases q'
     obtain⟨v,hv⟩:=heo
     exact⟨v,by rw[hbe];exact hv⟩
   . refine(ok b u q).stay (λc v hc r=>k c v ?_ r) (λc r=>by rw[au (Xc c b r)];exact r) λc xs r=>by rw[au (aef c xs r)];exact r
     rcases hc with rfl|hc
     . exact hbe
     . rintro rfl
       rcases he with z|z
       . exact Xc c b hc z
       . rw[hc] at z;cases z;exact hb rfl
end
structure Un (fs ex:List Addr) (H H':Hp) (h h':Heap):Prop where
 keep:∀b o,h.get? b=some o->H b=none->b ∉ fs->b ∉ ex->h'.get? b=some o
 slot:∀b o,h.get? b=some o->H b=none->b∈fs->b ∉ ex->∃sl,h'.get? b=some { o with slots:=sl }
 free:∀b o,h.get? b=some o->H b=none->b ∉ ex->H' b=none
 there:∀b o,h.get? b=some o->b ∉ ex->∃o',h'.get? b=some o'
 tups:∀b xs,H b=some (.tup xs)->H' b=some (.tup xs)
 gZ:∀b o u,H b=some (.cu o u)->H' b=some (.cu o u)
 iw:∀b ps,H b=some (.dD ps)->∃more,H' b=some (.dD (ps++more))
section
variable {fs fs' ex ex':List Addr}{H H1 H2:Hp}{h h1 h2 h':Heap}{a x e:Addr}{o:HO}
theorem Un.any (u:Un fs ex H H1 h h1){b:Addr}{ob:Obj}(q:h.get? b=some ob)(n:H b=none)(hx:b ∉ ex):∃sl,h1.get? b=some { ob with slots:=sl }:=by
 by_cases hb:b∈fs
 . exact u.slot b ob q n hb hx
 . exact⟨ob.slots,u.keep b ob q n hb hx⟩
theorem Un.kept (k:∀b u,h.get? b=some u->h'.get? b=some u):Un fs ex H H h h':=
 ⟨λb ob q _ _ _=>k b ob q,λb ob q _ _ _=>⟨ob.slots,k b ob q⟩,λ_ _ _ n _=>n,λb ob q _=>⟨ob,k b ob q⟩,λ_ _ q=>q,λ_ _ _ q=>q,λ_ ps q=>⟨#[],by rw[q];simp⟩⟩
theorem Un.refl:Un fs ex H H h h:=Un.kept λ_ _ q=>q
theorem Un.laid (k:∀b u,h.get? b=some u->h'.get? b=some u)(hp:h.objs.size<=a)(hn:H a=none):Un fs ex H (upd H a o) h h' where
 keep:=λb u q _ _ _=>k b u q
 slot:=λb u q _ _ _=>⟨u.slots,k b u q⟩
 free:=λb u q n _=>by rw[au (Q09 (Q0a (Q02 q) hp))];exact n
 there:=λb u q _=>⟨u,k b u q⟩
 tups:=λb xs q=>by rw[au (aN q hn)];exact q
 gZ:=λb u xs q=>by rw[au (aN q hn)];exact q
 iw:=λb ps q=>⟨#[],by rw[au (aN q hn),q];simp⟩
theorem Un.write (mu:vY (H x))(he:e=x\/H e=some (.own x))(k:∀b u,b≠e->h.get? b=some u->h'.get? b=some u)(heo:∃u,h'.get? e=some u):Un fs ex H (upd H x o) h h':=by
 have hx:∀b,H b=none->b≠x:=λb n z=>by subst z;rw[n] at mu;exact mu
 have hb:∀b,H b=none->b≠e:=λb n z=>by
  subst z
  rcases he with r|r
  . exact hx b n r
  . rw[n] at r;cases r
 have hm:∀b u,H b=some u->¬vY (some u)->b≠x:=λb u q nm z=>by subst z;rw[q] at mu;exact nm mu
 refine⟨λb u q n _ _=>k b u (hb b n) q,λb u q n _ _=>⟨u.slots,k b u (hb b n) q⟩,λb u q n _=>by rw[au (hx b n)];exact n,λb u q _=>?_,
  λb xs q=>by rw[au (hm b _ q λz=>z)];exact q,λb u xs q=>by rw[au (hm b _ q λz=>z)];exact q,λb ps q=>⟨#[],by rw[au (hm b _ q λz=>z),q];simp⟩⟩
 by_cases hbe:b=e
 . subst hbe;exact heo
 . exact⟨u,k b u hbe q⟩
end
noncomputable def zL (h:Heap) (H:Hp):List Addr:=(List.range h.objs.size).filter λa=>(H a).isSome
noncomputable def lX (h:Heap) (H:Hp):Heap:=W.hideAll h (zL h H)
theorem aeg (h:Heap)(H:Hp):(lX h H).objs.size=h.objs.size:=W.hideAll_size _ _
theorem aeh {h:Heap}{H:Hp}{b:Addr}{o:Obj}(e:h.get? b=some o)(n:H b=none):(lX h H).get? b=some o:=
 W.hideAll_get _ e λhm=>by
   have q:(H b).isSome=true:=(List.mem_filter.mp hm).2
   rw[n] at q;simp at q
theorem aei {h:Heap}{H:Hp}{b:Addr}{o:Obj}(e:(lX h H).get? b=some o):h.get? b=some o/\H b=none:=by
 have e':h.get? b=some o:=W.of_hideAll (zL h H) e
 refine⟨e',?_⟩
 cases q:H b with
 |none=>rfl
 |some x=>
  have hm:b∈zL h H:=List.mem_filter.mpr ⟨List.mem_range.mpr (Q02 e'),by simp[q]⟩
  have z:(lX h H).get? b=none:=W.hideAll_none (zL h H) hm
  rw[z] at e;cases e
structure Mod (K:W.Frag) (mg:Str->Option Value) (base:Heap):Prop where
 qM:K.In base
 glob:base.Ns mainGlobals mg
 blt:∃mb,base.Ns builtinsNs mb/\∀x:Str,x≠"__name__"->mb x=bootBuiltins x
 nolimit:base.NoLimit
structure Cx where
 prog:Program
 w:World
 K:W.Frag
 mg:Str->Option Value
 base:Heap
 A:Around
 N:List Str
 s₀:Shared
 H₀:Hp
 env:Env
 outer:List Env
 stack:List Env
 ex:List Addr
 fn:Str->Bool
 calm:Bool
 pn:List (Addr × Obj)
 xe:Value->Shared->Prop
noncomputable def frs (l:List Env):List Addr:=l.filterMap (·.frame)
noncomputable abbrev Cx.fs (X:Cx):List Addr:=frs X.outer
noncomputable def zM (sc:Scope) (x:Str):Prop:=sc.names.lookup x=some .local\/sc.names.lookup x=some .cell\/sc.names.lookup x=some .free
noncomputable def Loc (sc:Scope) (x:Str):Prop:=sc.names.lookup x=some .local\/sc.names.lookup x=some .cell
noncomputable def Look (env:Env) (h:Heap) (m:Str->Option Value) (x:Str) (u:Value):Prop:=
 (env.kindOf x=some .local/\m x=some u)\/((env.kindOf x=some .cell\/env.kindOf x=some .free)/\∃c,env.cells.lookup x=some c/\h.IsCell c (some u))
structure Cx.Ok (X:Cx):Prop where
 mod:Mod X.K X.mg X.base
 kind:X.env.scope.kind=.function
 glob:X.env.globals=mainGlobals
 blt:X.env.builtins=builtinsNs
 above:X.s₀.heap.objs.size<=X.env.locals
 inj:∀x y c,X.env.cells.lookup x=some c->X.env.cells.lookup y=some c->x=y
 has:∀x,(X.env.kindOf x=some .cell\/X.env.kindOf x=some .free)->∃c,X.env.cells.lookup x=some c
 cab:∀x c,X.fn x=true->X.env.cells.lookup x=some c->X.s₀.heap.objs.size<=c
 hd:X.calm=true->X.A.handled=none
 frames:X.A.frames=some X.stack
 stk:X.stack=X.outer\/(X.stack=X.env::X.outer/\X.env.frame=some X.env.locals)
 vZ:∀b∈X.ex,b≠X.env.locals/\∀x c,X.env.cells.lookup x=some c->c≠b
 bs:∀b o,X.base.get? b=some o->X.s₀.heap.get? b=some o/\X.H₀ b=none
 jo:X.base.objs.size<=X.s₀.heap.objs.size
 pI:∀b o,X.base.get? b=some o->b ∉ X.ex
 qN:∀b∈X.ex,b ∉ X.fs
 iy:X.s₀.heap.FunFrames X.base X.outer
 lY:∀b∈X.fs,X.H₀ b=none
structure Inv (X:Cx) (pins:List (Addr × Obj)) (σ:List (Option V)) (H:Hp) (s:Shared):Prop where
 ok:X.Ok
 os:s.os=X.s₀.os
 bare:AllBare s.gens
 base:Un X.fs X.ex X.H₀ H X.s₀.heap s.heap
 loc:∃m,s.heap.Ns X.env.locals m/\∀(i:Nat) (x:Str) (v:V),X.N[i]? =some x->σ[i]? =some (some v)->zM X.env.scope x->∃u,RelV v u/\Look X.env s.heap m x u
 cell:∀x c,X.env.cells.lookup x=some c->∃v,s.heap.IsCell c v
 free:H X.env.locals=none
 fO:∀x c,X.env.cells.lookup x=some c->H c=none
 pin:∀p∈X.pn++pins,s.heap.get? p.1=some p.2/\H p.1=none/\p.1≠X.env.locals/\p.1 ∉ X.fs/\∀v,p.2.data≠ .cell v
 hok:cL X.prog X.w H s.heap
 len:σ.length=X.N.length
section
variable {X:Cx}{pins:List (Addr × Obj)}{σ:List (Option V)}{H H':Hp}{s:Shared}{h':Heap}
theorem Cx.Ok.aej (ok:X.Ok){b:Addr}{o:Obj}(e:X.base.get? b=some o):b ∉ X.fs:=λhb=>by
 have:=(ok.iy.mem hb).1
 rw[e] at this;cases this
theorem Inv.bs (I:Inv X pins σ H s):∀b o,X.base.get? b=some o->s.heap.get? b=some o/\H b=none:=λb o e=>
 ⟨I.base.keep b o (I.ok.bs b o e).1 (I.ok.bs b o e).2 (I.ok.aej e) (I.ok.pI b o e),I.base.free b o (I.ok.bs b o e).1 (I.ok.bs b o e).2 (I.ok.pI b o e)⟩
theorem Inv.bk (I:Inv X pins σ H s):∀b o,X.base.get? b=some o->s.heap.get? b=some o:=λb o e=>(I.bs b o e).1
theorem Inv.mod (I:Inv X pins σ H s):Mod X.K X.mg X.base:=I.ok.mod
theorem Inv.cM (I:Inv X pins σ H s):X.K.In s.heap:=I.ok.mod.qM.keeps I.bk
theorem Inv.nolimit (I:Inv X pins σ H s):s.heap.NoLimit:=I.ok.mod.nolimit.keeps I.bk
theorem Inv.lt (I:Inv X pins σ H s):X.env.locals<s.heap.objs.size:=let⟨_,hn,_⟩:=I.loc;hn.lt
theorem Inv.sz (I:Inv X pins σ H s):X.s₀.heap.objs.size<=s.heap.objs.size:=Q0c I.ok.above (Q0m I.lt)
theorem Inv.sX (I:Inv X pins σ H s){a:Addr}(h:s.heap.objs.size<=a):a ∉ X.fs:=λhb=>by
 obtain⟨_,o,ho,_⟩:=I.ok.iy.mem hb
 exact absurd (Q0a (Q02 ho) (Q0c I.sz h)) (Q0l _)
theorem Inv.kZ (I:Inv X pins σ H s):∀x c,X.env.cells.lookup x=some c->c≠X.env.locals:=λx c e z=>by
 obtain⟨v,o,ho,hd⟩:=I.cell x c e
 obtain⟨m,⟨o',es,ep,ho',hd',_⟩,_⟩:=I.loc
 rw[z,ho'] at ho;cases ho;rw[hd'] at hd;cases hd
theorem Inv.iy (I:Inv X pins σ H s):s.heap.FunFrames X.base X.outer:=by
 have all:∀(l:List Env),(∀b∈frs l,b∈X.fs)->X.s₀.heap.FunFrames X.base l->s.heap.FunFrames X.base l:=by
  intro l
  induction l with
  |nil=>intro _ _;trivial
  |cons env r ih=>
   intro hs hl
   obtain⟨hk,⟨L,o,hf,hn,ho,hd⟩,hr⟩:=hl
   have hL:L∈X.fs:=hs L (by unfold frs;rw[Q1z,hf];exact Q0f)
   obtain⟨sl,e⟩:=I.base.slot L o ho (I.ok.lY L hL) hL λz=>I.ok.qN L z hL
   exact⟨hk,⟨L,_,hf,hn,e,hd⟩,ih (λb hb=>hs b (by unfold frs;rw[Q1z,hf];exact Q0j _ hb)) hr⟩
 exact all X.outer (λ_ hb=>hb) I.ok.iy
theorem Inv.stack (I:Inv X pins σ H s):s.heap.FunFrames X.base X.stack:=by
 rcases I.ok.stk with e|⟨e,hf⟩
 . rw[e];exact I.iy
 . rw[e]
   obtain⟨m,hn,_⟩:=I.loc
   refine .cons (by rw[I.ok.kind];decide) hf hn ?_ I.iy
   exact Q2 (Q0c I.ok.jo I.ok.above)
theorem Inv.sY (I:Inv X pins σ H s):∀b∈frs X.stack,b∈X.env.locals::X.fs:=λb hb=>by
 rcases I.ok.stk with e|⟨e,hf⟩
 . rw[e] at hb;exact Q0j _ hb
 . rw[e] at hb
   unfold frs at hb
   rw[Q1z,hf] at hb
   exact hb
theorem Inv.v5 (I:Inv X pins σ H s):∀b∈frs X.stack,H b=none:=λb hb=>by
 rcases List.mem_cons.mp (I.sY b hb) with e|hb
 . rw[e];exact I.free
 . obtain⟨_,o,ho,_⟩:=I.ok.iy.mem hb
   exact I.base.free b o ho (I.ok.lY b hb) λz=>I.ok.qN b z hb
theorem Inv.step {g':Array GenState}{t':Nat}{d':Drawn}{ch:List Addr}(I:Inv X pins σ H s)
 (hch:∀b∈ch,(b∈X.ex\/X.s₀.heap.objs.size<=b)/\b≠X.env.locals/\(∀x c,X.env.cells.lookup x=some c->c≠b)/\∀p∈X.pn++pins,p.1≠b)
 (keep:∀b o,b≠X.env.locals->b ∉ X.fs->b ∉ ch->s.heap.get? b=some o->H b=none->h'.get? b=some o)
 (slot:∀b o,b≠X.env.locals->b∈X.fs->b ∉ ch->s.heap.get? b=some o->H b=none->∃sl,h'.get? b=some { o with slots:=sl }) (free:∀b o,b ∉ ch->s.heap.get? b=some o->H b=none->H' b=none)
 (there:∀b o,b ∉ ch->s.heap.get? b=some o->∃o',h'.get? b=some o')
 (tups:∀b xs,H b=some (.tup xs)->H' b=some (.tup xs)) (gZ:∀b o u,H b=some (.cu o u)->H' b=some (.cu o u)) (iw:∀b ps,H b=some (.dD ps)->∃more,H' b=some (.dD (ps++more)))
 (ns:∀m,s.heap.Ns X.env.locals m->h'.Ns X.env.locals m) (hok:cL X.prog X.w H' h') (hg:AllBare g'):
 Inv X pins σ H' { s with heap:=h',gens:=g',drawn:=d',toks:=t' }:=by
 have Xd:∀b o,X.s₀.heap.get? b=some o->b≠X.env.locals:=λb o e=>Q09 (Q0a (Q02 e) I.ok.above)
 have zN:∀b o,X.s₀.heap.get? b=some o->b ∉ X.ex->b ∉ ch:=λb o e hx hb=>by
  rcases(hch b hb).1 with z|z
  . exact hx z
  . exact absurd (Q0a (Q02 e) z) (Q0l _)
 have cellK:∀x c,X.env.cells.lookup x=some c->∀v,s.heap.IsCell c v->h'.IsCell c v:=λx c e v ⟨o,ho,hd⟩=>by
  have v7:c ∉ ch:=λz=>(hch c z).2.2.1 x c e rfl
  by_cases hc:c∈X.fs
  . obtain⟨sl,q⟩:=slot c o (I.kZ x c e) hc v7 ho (I.fO x c e)
    exact⟨_,q,hd⟩
  . exact⟨o,keep c o (I.kZ x c e) hc v7 ho (I.fO x c e),hd⟩
 refine⟨I.ok,I.os,hg,⟨λb o e n hb hx=>?_,λb o e n hb hx=>?_,λb o e n hx=>?_,λb o e hx=>?_,λb xs e=>tups b xs (I.base.tups b xs e),λb o xs e=>gZ b o xs (I.base.gZ b o xs e),λb ps e=>?_⟩,?_,λx c e=>?_,?_,λx c e=>?_,λp hp=>?_,hok,I.len⟩
 . exact keep b o (Xd b o e) hb (zN b o e hx) (I.base.keep b o e n hb hx) (I.base.free b o e n hx)
 . obtain⟨sl,e1⟩:=I.base.slot b o e n hb hx
   obtain⟨sl',e2⟩:=slot b _ (Xd b o e) hb (zN b o e hx) e1 (I.base.free b o e n hx)
   exact⟨sl',e2⟩
 . obtain⟨o',e1⟩:=I.base.there b o e hx
   exact free b o' (zN b o e hx) e1 (I.base.free b o e n hx)
 . obtain⟨o',e1⟩:=I.base.there b o e hx
   exact there b o' (zN b o e hx) e1
 . obtain⟨m1,e1⟩:=I.base.iw b ps e
   obtain⟨m2,e2⟩:=iw b _ e1
   exact⟨m1++m2,by rw[e2,Array.append_assoc]⟩
 . obtain⟨m,hn,hl⟩:=I.loc
   refine⟨m,ns m hn,λi x v e1 e2 e3=>?_⟩
   obtain⟨u,r,l⟩:=hl i x v e1 e2 e3
   refine⟨u,r,?_⟩
   rcases l with l|⟨k,c,e,z⟩
   . exact .inl l
   . exact .inr ⟨k,c,e,cellK x c e _ z⟩
 . obtain⟨v,z⟩:=I.cell x c e
   exact⟨v,cellK x c e v z⟩
 . obtain⟨m,⟨o,_,_,ho,_⟩,_⟩:=I.loc
   exact free _ o (λz=>(hch _ z).2.1 rfl) ho I.free
 . obtain⟨v,o,ho,hd⟩:=I.cell x c e
   exact free c o (λz=>(hch c z).2.2.1 x c e rfl) ho (I.fO x c e)
 . obtain⟨e,n,ne,nf,d⟩:=I.pin p hp
   have v7:p.1 ∉ ch:=λz=>(hch p.1 z).2.2.2 p hp rfl
   exact⟨keep p.1 p.2 ne nf v7 e n,free p.1 p.2 v7 e n,ne,nf,d⟩
theorem Inv.un {t':Nat}(I:Inv X pins σ H s)(u:Un X.fs [] H H' s.heap h')(hok:cL X.prog X.w H' h'):Inv X pins σ H' { s with heap:=h',toks:=t' }:=by
 obtain⟨m,⟨o,es,ep,ho,r⟩,_⟩:=id I.loc
 obtain⟨sl,hL⟩:=u.any ho I.free (by simp)
 exact I.step (g':=s.gens) (d':=s.drawn) (ch:=[]) (λ_ z=>nomatch z) (λb o _ hb _ e n=>u.keep b o e n hb (by simp)) (λb o _ hb _ e n=>u.slot b o e n hb (by simp)) (λb o _ e n=>u.free b o e n (by simp)) (λb o _ e=>u.there b o e (by simp)) u.tups u.gZ u.iw (λm' hm=>by
  obtain⟨o',es',ep',ho',r'⟩:=hm
  rw[ho] at ho';cases ho'
  exact⟨_,es',ep',hL,r'⟩) hok I.bare
theorem Inv.call {g':Array GenState}{t':Nat}{d':Drawn}{ch:List Addr}(I:Inv X pins σ H s)(u:Un (frs X.stack) ch H H' s.heap h')(hok:cL X.prog X.w H' h')(hg:AllBare g')
 (hch:∀b∈ch,(b∈X.ex\/X.s₀.heap.objs.size<=b)/\b≠X.env.locals/\(∀x c,X.env.cells.lookup x=some c->c≠b)/\∀p∈X.pn++pins,p.1≠b):
 Inv X pins σ H' { s with heap:=h',gens:=g',drawn:=d',toks:=t' }:=by
 obtain⟨m,⟨o,es,ep,ho,r⟩,_⟩:=id I.loc
 obtain⟨sl,hL⟩:=u.any ho I.free λz=>(hch _ z).2.1 rfl
 exact I.step (ch:=ch) hch (λb o hL hb hc e n=>u.keep b o e n (λz=>(List.mem_cons.mp (I.sY b z)).elim hL hb) hc) (λb o _ _ hc e n=>u.any e n hc) (λb o hc e n=>u.free b o e n hc) (λb o hc e=>u.there b o e hc) u.tups u.gZ u.iw (λm' hm=>by
  obtain⟨o',es',ep',ho',r'⟩:=hm
  rw[ho] at ho';cases ho'
  exact⟨_,es',ep',hL,r'⟩) hok hg
theorem Inv.turned {t':Nat}{it:Addr}(I:Inv X pins σ H s)(k:∀b o,b≠it->s.heap.get? b=some o->h'.get? b=some o)(hn:H it=none)(hL:it≠X.env.locals)
 (h1:it∈X.ex\/X.s₀.heap.objs.size<=it) (h2:∀x c,X.env.cells.lookup x=some c->c≠it) (h3:∀p∈X.pn++pins,p.1≠it):Inv X pins σ H { s with heap:=h',toks:=t' }:=by
 have Xe:∀b u,H b=some u->b≠it:=λb u e z=>by rw[z,hn] at e;cases e
 refine I.step (g':=s.gens) (d':=s.drawn) (ch:=[it]) (λb hb=>?_) (λb o _ _ hc e _=>k b o (λz=>hc (by simp[z])) e) (λb o _ _ hc e _=>⟨o.slots,k b o (λz=>hc (by simp[z])) e⟩) (λ_ _ _ _ n=>n)
  (λb o hc e=>⟨o,k b o (λz=>hc (by simp[z])) e⟩) (λ_ _ e=>e) (λ_ _ _ e=>e) (λb ps e=>⟨#[],by rw[e];simp⟩) (λm hm=>?_) (λb u e=>?_) I.bare
 . have e:b=it:=by simpa using hb
   subst e
   exact⟨h1,hL,h2,h3⟩
 . obtain⟨o,es,ep,ho,r⟩:=hm
   exact⟨o,es,ep,k _ o (Ne.symm hL) ho,r⟩
 . refine(I.hok b u e).stay (λc v hc q=>k c v ?_ q) (λ_ q=>q) λ_ _ q=>q
   rcases hc with z|z
   . rw[z];exact Xe b u e
   . exact Xe c _ z
theorem Inv.tok (I:Inv X pins σ H s)(t:Nat):Inv X pins σ H { s with toks:=t }:=I.un (h':=s.heap) (t':=t) Un.refl I.hok
theorem Inv.kept {t':Nat}(I:Inv X pins σ H s)(k:∀b u,s.heap.get? b=some u->h'.get? b=some u):Inv X pins σ H { s with heap:=h',toks:=t' }:=I.un (Un.kept k) (I.hok.kept k)
theorem Inv.laid {a:Addr}{o:HO}{t':Nat}(I:Inv X pins σ H s)(k:∀b u,s.heap.get? b=some u->h'.get? b=some u)(hp:s.heap.objs.size<=a)(new:cT X.prog X.w (upd H a o) h' a o):
 Inv X pins σ (upd H a o) { s with heap:=h',toks:=t' }:=I.un (Un.laid k hp (I.hok.fresh hp)) (I.hok.laid k hp new)
theorem Inv.write {x e:Addr}{o:HO}{t':Nat}(I:Inv X pins σ H s)(mu:vY (H x))(he:e=x\/H e=some (.own x))(k:∀b u,b≠e->s.heap.get? b=some u->h'.get? b=some u)(heo:∃u,h'.get? e=some u)
 (new:cT X.prog X.w (upd H x o) h' x o):Inv X pins σ (upd H x o) { s with heap:=h',toks:=t' }:=I.un (Un.write mu he k heo) (I.hok.write mu he k heo new)
theorem Inv.weak {σ':List (Option V)}(I:Inv X pins σ H s)(hl:σ'.length=σ.length)(w:∀(i:Nat) v,σ'[i]? =some (some v)->σ[i]? =some (some v)):Inv X pins σ' H s:=
 ⟨I.ok,I.os,I.bare,I.base,let⟨m,hn,hl'⟩:=I.loc;⟨m,hn,λi x v e1 e2 e3=>hl' i x v e1 (w i v e2) e3⟩,I.cell,I.free,I.fO,I.pin,I.hok,hl.trans I.len⟩
theorem Inv.qO {Xf:List (Addr × Obj)}(I:Inv X pins σ H s)(h:∀p∈Xf,s.heap.get? p.1=some p.2/\H p.1=none/\p.1≠X.env.locals/\p.1 ∉ X.fs/\∀v,p.2.data≠ .cell v):Inv X Xf σ H s:=
 ⟨I.ok,I.os,I.bare,I.base,I.loc,I.cell,I.free,I.fO,λp hp=>(List.mem_append.mp hp).elim (λz=>I.pin p (Q1n _ z)) (h p),I.hok,I.len⟩
theorem Gb {N:List Str}(hN:N.Nodup){i j:Nat}{x:Str}(a:N[i]? =some x)(b:N[j]? =some x):i=j:=by
 obtain⟨h1,e1⟩:=List.getElem?_eq_some_iff.mp a
 obtain⟨h2,e2⟩:=List.getElem?_eq_some_iff.mp b
 exact(List.getElem_inj hN).mp (e1.trans e2.symm)
theorem aek {M:Model}{A:Around}{E:Value->Shared->Prop}{i:Nat}{x:Str}{v:V}{u:Value}{Q:Unit->Shared->Prop}(I:Inv X pins σ H s)(hN:X.N.Nodup)(hi:X.N[i]? =some x)(hx:Loc X.env.scope x)(r:RelV v u)
 (h:∀s',Inv X pins (σ.set i (some v)) H s'->(∃a,Heap.SameBut a s.heap s'.heap/\(a=X.env.locals\/X.env.cells.lookup x=some a))->Q () s') (hf:X.fn x=true\/X.env.scope.names.lookup x=some .local:=by first|exact .inl rfl|exact .inr rfl|assumption):wpAny M A (storeName X.env x u) Q E s:=by
 obtain⟨m,hn,hl⟩:=id I.loc
 have hcls:(X.env.scope.kind == .class || (X.env.scope.kind == .module && X.env.locals != X.env.globals))=false:=by rw[I.ok.kind];rfl
 have zO:i<σ.length:=by rw[I.len];exact(List.getElem?_eq_some_iff.mp hi).1
 have kZ:=I.kZ
 have tracked:∀{a:Addr} {h':Heap},(∃o,s.heap.get? a=some o/\H a=none)->Heap.SameBut a s.heap h'->cL X.prog X.w H h':=λ{a h'} ha hs b ob e=>by
  obtain⟨_,_,hfree⟩:=ha
  refine(I.hok b ob e).stay (λc w' hc q=>(hs.2 c ?_).trans q) (λ_ q=>q) λ_ _ q=>q
  rintro rfl
  rcases hc with rfl|hc
  . rw[hfree] at e;cases e
  . rw[hfree] at hc;cases hc
 rcases hx with hk|hk
 . refine wpAny_storeName_local hk hn (λh' hn' hs=>?_) hcls
   obtain⟨oL,_,_,hoL,_⟩:=id hn
   refine h _ ⟨I.ok,I.os,I.bare,⟨λb o e n hb hx=>?_,λb o e n hb hx=>?_,I.base.free,λb o e hx=>?_,I.base.tups,I.base.gZ,I.base.iw⟩,⟨_,hn',λj y v' e1 e2 e3=>?_⟩,λy c e=>?_,I.free,I.fO,λp hp=>?_,tracked ⟨oL,hoL,I.free⟩ hs,by simpa using I.len⟩ ⟨_,hs,.inl rfl⟩
   . exact(hs.2 b (Q09 (Q0a (Q02 e) I.ok.above))).trans (I.base.keep b o e n hb hx)
   . obtain⟨sl,e1⟩:=I.base.slot b o e n hb hx
     exact⟨sl,(hs.2 b (Q09 (Q0a (Q02 e) I.ok.above))).trans e1⟩
   . obtain⟨o',e1⟩:=I.base.there b o e hx
     exact⟨o',(hs.2 b (Q09 (Q0a (Q02 e) I.ok.above))).trans e1⟩
   . by_cases hj:j=i
     . subst hj
       rw[hi] at e1;cases e1
       rw[Q20 zO] at e2
       cases e2
       exact⟨u,r,.inl ⟨hk,by simp⟩⟩
     . rw[Q21 (Ne.symm hj)] at e2
       obtain⟨u',r',q⟩:=hl j y v' e1 e2 e3
       refine⟨u',r',?_⟩
       rcases q with⟨k,e⟩|⟨k,c,e,z⟩
       . refine .inl ⟨k,?_⟩
         have:y≠x:=λe=>hj (Gb hN e1 (e ▸ hi))
         simp[this,e]
       . exact .inr ⟨k,c,e,z.sameBut hs (kZ y c e)⟩
   . obtain⟨w',z⟩:=I.cell y c e
     exact⟨w',z.sameBut hs (kZ y c e)⟩
   . obtain⟨e,n,ne,nf,d⟩:=I.pin p hp
     exact⟨(hs.2 p.1 ne).trans e,n,ne,nf,d⟩
 . have hfn:X.fn x=true:=by
    rcases hf with z|z
    . exact z
    . rw[z] at hk;cases hk
   obtain⟨c,hc⟩:=I.ok.has x (.inl hk)
   obtain⟨w',z⟩:=I.cell x c hc
   refine wpAny_storeName_cell I.ok.kind hk hc z (λh' hc' hs=>?_)
   obtain⟨oc,hoc,ael⟩:=id z
   refine h { s with heap:=h' } ⟨I.ok,I.os,I.bare,⟨λb o e n hb hx=>?_,λb o e n hb hx=>?_,I.base.free,λb o e hx=>?_,I.base.tups,I.base.gZ,I.base.iw⟩,⟨m,hn.sameBut hs (Ne.symm (kZ x c hc)),λj y v' e1 e2 e3=>?_⟩,λy c' e=>?_,I.free,I.fO,λp hp=>?_,tracked ⟨oc,hoc,I.fO x c hc⟩ hs,by simpa using I.len⟩ ⟨c,hs,.inr hc⟩
   . exact(hs.2 b (Q09 (Q0a (Q02 e) (I.ok.cab x c hfn hc)))).trans (I.base.keep b o e n hb hx)
   . obtain⟨sl,e1⟩:=I.base.slot b o e n hb hx
     exact⟨sl,(hs.2 b (Q09 (Q0a (Q02 e) (I.ok.cab x c hfn hc)))).trans e1⟩
   . obtain⟨o',e1⟩:=I.base.there b o e hx
     exact⟨o',(hs.2 b (Q09 (Q0a (Q02 e) (I.ok.cab x c hfn hc)))).trans e1⟩
   . by_cases hj:j=i
     . subst hj
       rw[hi] at e1;cases e1
       rw[Q20 zO] at e2
       cases e2
       exact⟨u,r,.inr ⟨.inl hk,c,hc,hc'⟩⟩
     . rw[Q21 (Ne.symm hj)] at e2
       obtain⟨u',r',q⟩:=hl j y v' e1 e2 e3
       refine⟨u',r',?_⟩
       rcases q with q|⟨k,c',e,z'⟩
       . exact .inl q
       . refine .inr ⟨k,c',e,z'.sameBut hs ?_⟩
         rintro rfl
         exact hj (Gb hN e1 (I.ok.inj _ _ _ e hc ▸ hi))
   . by_cases hcc:c'=c
     . subst hcc;exact⟨_,hc'⟩
     . obtain⟨w2,z2⟩:=I.cell y c' e
       exact⟨w2,z2.sameBut hs hcc⟩
   . obtain⟨e,n,ne,nf,d⟩:=I.pin p hp
     refine⟨(hs.2 p.1 ?_).trans e,n,ne,nf,d⟩
     intro q
     rw[q,hoc] at e
     have q':oc=p.2:=Option.some.inj e
     exact d w' (by rw[<-q'];exact ael)
theorem sZ {M:Model}{A:Around}{E:Value->Shared->Prop}{i:Nat}{x:Str}{v:V}{u:Value}{Q:Unit->Shared->Prop}(I:Inv X pins σ H s)(hN:X.N.Nodup)(hi:X.N[i]? =some x)(hx:Loc X.env.scope x)(r:RelV v u)
 (h:∀s',Inv X pins (σ.set i (some v)) H s'->Q () s') (hf:X.fn x=true\/X.env.scope.names.lookup x=some .local:=by first|exact .inl rfl|exact .inr rfl|assumption):wpAny M A (storeName X.env x u) Q E s:=
 aek I hN hi hx r (λs' I' _=>h s' I') hf
theorem Inv.call' {s':Shared}{ch:List Addr}(I:Inv X pins σ H s)(ho:s'.os=s.os)(u:Un (frs X.stack) ch H H' s.heap s'.heap)(hok:cL X.prog X.w H' s'.heap)(hg:AllBare s'.gens)
 (hch:∀b∈ch,(b∈X.ex\/X.s₀.heap.objs.size<=b)/\b≠X.env.locals/\(∀x c,X.env.cells.lookup x=some c->c≠b)/\∀p∈X.pn++pins,p.1≠b):Inv X pins σ H' s':=by
 obtain⟨h',g',d',t',o'⟩:=s'
 have e:o'=s.os:=ho
 subst e
 exact I.call (g':=g') (t':=t') (d':=d') u hok hg hch
end
noncomputable abbrev XK:=Value->Option Addr->Hp->Prop
noncomputable abbrev St:=List (Option V)
noncomputable abbrev VK:=V->Hp->Prop
noncomputable abbrev TE:=St->Hp->VK->Prop
noncomputable abbrev TT:=St->Hp->(Bool->Hp->Prop)->Prop
noncomputable abbrev TA:=St->Hp->(List V->Hp->Prop)->Prop
structure Ends where
 nx:St->Hp->Prop
 rt:VK
 bk:St->Hp->Prop:=λ_ _=>False
 ct:St->Hp->Prop:=λ_ _=>False
noncomputable abbrev TS:=Ends->St->Hp->Prop
noncomputable def EP (X:Cx) (pins:List (Addr × Obj)) (σ:St) (Q:VK) (u:Value) (s':Shared):Prop:=∃v H',Inv X pins σ H' s'/\RelV v u/\Q v H'
noncomputable def TP (X:Cx) (pins:List (Addr × Obj)) (σ:St) (Q:Bool->Hp->Prop) (b:Bool) (s':Shared):Prop:=∃H',Inv X pins σ H' s'/\Q b H'
noncomputable def AP (X:Cx) (pins:List (Addr × Obj)) (σ:St) (Q:List V->Hp->Prop) (us:List Value) (s':Shared):Prop:=∃vs H',Inv X pins σ H' s'/\Vals vs us/\Q vs H'
noncomputable def SP (X:Cx) (pins:List (Addr × Obj)) (D:Ends) (f:Flow) (s':Shared):Prop:=
 match f with
 | .next=>∃σ' H',Inv X pins σ' H' s'/\D.nx σ' H'
 | .brk=>∃σ' H',Inv X pins σ' H' s'/\D.bk σ' H'
 | .cont=>∃σ' H',Inv X pins σ' H' s'/\D.ct σ' H'
 | .ret u=>∃v σ' H',Inv X pins σ' H' s'/\RelV v u/\D.rt v H'
noncomputable def PE (X:Cx) (e:Expr) (t:TE):Prop:=
 ∀(pins:List (Addr × Obj)) (s:Shared) (σ:St) (H:Hp) (Q:VK),Inv X pins σ H s->t σ H Q->wpAny (model X.prog X.w) X.A (eval e X.env) (EP X pins σ Q) X.xe s
noncomputable def PT (X:Cx) (e:Expr) (t:TT):Prop:=
 ∀(pins:List (Addr × Obj)) (s:Shared) (σ:St) (H:Hp) (Q:Bool->Hp->Prop),Inv X pins σ H s->t σ H Q->wpAny (model X.prog X.w) X.A (isTrue e X.env (eval e X.env)) (TP X pins σ Q) X.xe s
noncomputable def PW (X:Cx) (e:Expr) (t:TT):Prop:=
 ∀(whole:Sem Value) (pins:List (Addr × Obj)) (s:Shared) (σ:St) (H:Hp) (Q:Bool->Hp->Prop),Inv X pins σ H s->t σ H Q->wpAny (model X.prog X.w) X.A (isTrue e X.env whole) (TP X pins σ Q) X.xe s
theorem PW.pt {X:Cx}{e:Expr}{t:TT}(h:PW X e t):PT X e t:=h _
noncomputable def PA (X:Cx) (es:List Expr) (t:TA):Prop:=
 ∀(pos:Pos) (pins:List (Addr × Obj)) (s:Shared) (σ:St) (H:Hp) (Q:List V->Hp->Prop),Inv X pins σ H s->t σ H Q->wpAny (model X.prog X.w) X.A (spliced (backTo pos (starEach es X.env))) (AP X pins σ Q) X.xe s
noncomputable def PS (X:Cx) (st:Stmt) (t:TS):Prop:=
 ∀(pins:List (Addr × Obj)) (s:Shared) (σ:St) (H:Hp) (D:Ends),Inv X pins σ H s->t D σ H->wpAny (model X.prog X.w) X.A (exec st X.env) (SP X pins D) X.xe s
noncomputable def fQ (X:Cx) (st:List Stmt) (t:TS):Prop:=
 ∀(pins:List (Addr × Obj)) (s:Shared) (σ:St) (H:Hp) (D:Ends),Inv X pins σ H s->t D σ H->wpAny (model X.prog X.w) X.A (execs st X.env) (SP X pins D) X.xe s
theorem aM {α:Type}{t:Sem α}{Q Q':α->Shared->Prop}{M:Model}{A:Around}{E:Value->Shared->Prop}{s:Shared}(h:wpAny M A t Q E s)(hQ:∀a s,Q a s->Q' a s):wpAny M A t Q' E s:=Q0h h hQ λ_ _ x=>x
section
variable {X:Cx}
noncomputable def bC (i:Nat):TE:=λσ H Q=>∃v,σ[i]? =some (some v)/\Q v H
noncomputable def tC (v:V):TE:=λ_ H Q=>Q v H
theorem aem {i:Nat}{x:Str}{pos:Pos}(hN:X.N[i]? =some x)(hv:zM X.env.scope x)(hd:(x == ("__debug__":Str))=false:=by decide)(hcd:(x == ("__classdict__":Str))=false:=by decide):PE X (.Name x pos) (bC i):=by
 intro pins s σ H Q I h
 obtain⟨v,e,h⟩:=h
 obtain⟨m,hn,hl⟩:=I.loc
 obtain⟨u,r,l⟩:=hl i x v hN e hv
 have fin:EP X pins σ Q u s:=⟨v,H,I,r,h⟩
 rcases l with⟨hk,hm⟩|⟨hk,c,hc,hcell⟩
 . exact wpAny_Name (wpAny_loadName_local I.ok.kind hk hn hm fin) hd
 . rcases hk with hk|hk
   . exact wpAny_Name (wpAny_loadName_cell I.ok.kind hk hc hcell fin) hd
   . exact wpAny_Name (wpAny_loadName_free I.ok.kind hk hc hcell fin hcd) hd
theorem aG {i j pos}:PE X (.Constant (.int i) j pos) (tC (.int i)):=λ_ _ _ H _ I h=>wpAny_Constant_int ⟨.int i,H,I.tok _,⟨_,rfl⟩,h⟩
theorem pJ {b j pos}:PE X (.Constant (.bool b) j pos) (tC (.bl b)):=λ_ _ _ H _ I h=>Constant_bool ⟨.bl b,H,I,rfl,h⟩
theorem fj {j pos}:PE X (.Constant .none j pos) (tC .non):=λ_ _ _ H _ I h=>Constant_none ⟨.non,H,I,rfl,h⟩
theorem bD {x j pos}:PE X (.Constant (.str x) j pos) (tC (.str x)):=λ_ _ _ H _ I h=>Calls.Constant_str ⟨.str x,H,I.tok _,⟨_,rfl⟩,h⟩
noncomputable def Gl (X:Cx) (x:Str):Prop:=X.env.kindOf x=some .globalImplicit
theorem pK {E:Value->Shared->Prop}{pins:List (Addr × Obj)}{s:Shared}{σ:St}{H:Hp}{x:Str}{u:Value}{pos:Pos}{Q:Value->Shared->Prop}(I:Inv X pins σ H s)(hg:Gl X x)(hm:X.mg x=some u)(h:Q u s)
 (hd:(x == ("__debug__":Str))=false:=by decide):wpAny (model X.prog X.w) X.A (eval (.Name x pos) X.env) Q E s:=
 Calls.Name_function_global I.ok.kind hg (Calls.loadGlobal_global (by rw[I.ok.glob];exact I.mod.glob.keeps I.bk) hm h) hd
theorem k_ {E:Value->Shared->Prop}{pins:List (Addr × Obj)}{s:Shared}{σ:St}{H:Hp}{x:Str}{u:Value}{pos:Pos}{Q:Value->Shared->Prop}(I:Inv X pins σ H s)(hg:Gl X x)(hm:X.mg x=none)(hv:bootBuiltins x=some u)(h:Q u s)
 (hn:x≠"__name__":=by decide) (hd:(x == ("__debug__":Str))=false:=by decide):wpAny (model X.prog X.w) X.A (eval (.Name x pos) X.env) Q E s:=by
 obtain⟨mb,h1,h2⟩:=I.mod.blt
 exact Calls.Name_function_global I.ok.kind hg (Calls.loadGlobal_builtin (by rw[I.ok.glob];exact I.mod.glob.keeps I.bk) hm (by rw[I.ok.blt];exact h1.keeps I.bk) ((h2 x hn).trans hv) h) hd
theorem Gd {x:Str}{v:V}{u:Value}{pos:Pos}(hg:Gl X x)(hm:X.mg x=some u)(r:RelV v u)(hd:(x == ("__debug__":Str))=false:=by decide):PE X (.Name x pos) (tC v):=
 λ_ _ _ H _ I h=>pK I hg hm ⟨v,H,I,r,h⟩ hd
theorem cD {x:Str}{v:V}{u:Value}{pos:Pos}(hg:Gl X x)(hm:X.mg x=none)(hv:bootBuiltins x=some u)(r:RelV v u)(hn:x≠"__name__":=by decide)(hd:(x == ("__debug__":Str))=false:=by decide):PE X (.Name x pos) (tC v):=
 λ_ _ _ H _ I h=>k_ I hg hm hv ⟨v,H,I,r,h⟩ hn hd
variable {a b:Expr}{ta tb:TE}{pos:Pos}
noncomputable def PC (X:Cx) (op:CmpOp) (a b:Expr) (t:TE):Prop:=
 ∀(pins:List (Addr × Obj)) (s:Shared) (σ:St) (H:Hp) (Q:VK),Inv X pins σ H s->t σ H Q->
  wpAny (model X.prog X.w) X.A (eval a X.env) (λv s₁=>wpAny (model X.prog X.w) X.A (eval b X.env) (λu s₂=>wpAny (model X.prog X.w) X.A (compareOp op v u) (EP X pins σ Q) X.xe s₂) X.xe s₁) X.xe s
noncomputable def tB (t:TE):TT:=λσ H Q=>t σ H λx H1=>∃c,x=.bl c/\Q c H1
theorem Xg {op:CmpOp}{t:TE}(h:PC X op a b t)(h1:behindInMarks op b=false:=by first|exact aen _ (by decide) (by decide)|rfl):PE X (.Compare a [op] [b] pos) t:=λpins s σ H Q I hw=>wpAny_Compare1 (h pins s σ H Q I hw) h1
theorem Xh {op:CmpOp}{t:TE}(h:PC X op a b t)(h1:behindInMarks op b=false:=by first|exact aen _ (by decide) (by decide)|rfl):PT X (.Compare a [op] [b] pos) (tB t):=by
 intro pins s σ H Q I hw
 refine wpAny_isTrue_Compare1 (aM (h pins s σ H _ I hw) λv s1 h1=>aM h1 λu s2 h2=>aM h2 λc s3 ⟨x,H1,I1,r1,q1⟩=>?_) h1
 obtain⟨d,rfl,q⟩:=q1
 cases r1
 exact wpAny_truthy_bool ⟨H1,I1,q⟩
theorem dF {e:Expr}{t:TE}(h:PE X e t)(he:∀whole,isTrue e X.env whole=(do let v <-whole;standAt e.pos;holding [v] (truthy v)):=by intro _;rfl):PT X e (tB t):=by
 intro pins s σ H Q I hw
 refine isTrue_plain (aM (h pins s σ H _ I hw) λv s1 ⟨x,H1,I1,r1,q1⟩=>?_) (he _)
 obtain⟨d,rfl,q⟩:=q1
 cases r1
 exact wpAny_truthy_bool ⟨H1,I1,q⟩
variable {tA zP:TT}{rest:List Expr}
noncomputable def aeo (t u:TT):TT:=λσ H Q=>t σ H λc H1=>if c=true then u σ H1 Q else Q false H1
noncomputable def tOr (t u:TT):TT:=λσ H Q=>t σ H λc H1=>if c=true then Q true H1 else u σ H1 Q
noncomputable def aer (t:TT):TT:=λσ H Q=>t σ H λc H1=>Q (!c) H1
theorem lg (ha:PT X a tA):PW X (.BoolOp .And [a] pos) tA:=by
 intro wh pins s σ H Q I h
 refine isTrue_and (aM (ha pins s σ H Q I h) λc s1 e=>?_)
 cases c with
 |true=>exact isTrue_and_nil e
 |false=>exact e
theorem jT (ha:PT X a tA):PW X (.BoolOp .Or [a] pos) tA:=by
 intro wh pins s σ H Q I h
 refine isTrue_or (aM (ha pins s σ H Q I h) λc s1 e=>?_)
 cases c with
 |false=>exact isTrue_or_nil e
 |true=>exact e
theorem lq (ha:PT X a tA)(hb:PW X (.BoolOp .And (b::rest) pos) zP):PW X (.BoolOp .And (a::b::rest) pos) (aeo tA zP):=by
 intro wh pins s σ H Q I h
 refine isTrue_and (aM (ha pins s σ H _ I h) λc s1 ⟨H1,I1,q1⟩=>?_)
 cases c with
 |true=>exact hb wh pins s1 σ H1 Q I1 q1
 |false=>exact⟨H1,I1,q1⟩
theorem jU (ha:PT X a tA)(hb:PW X (.BoolOp .Or (b::rest) pos) zP):PW X (.BoolOp .Or (a::b::rest) pos) (tOr tA zP):=by
 intro wh pins s σ H Q I h
 refine isTrue_or (aM (ha pins s σ H _ I h) λc s1 ⟨H1,I1,q1⟩=>?_)
 cases c with
 |true=>exact⟨H1,I1,q1⟩
 |false=>exact hb wh pins s1 σ H1 Q I1 q1
theorem lZ (ha:PT X a tA):PT X (.UnaryOp .Not a pos) (aer tA):=by
 intro pins s σ H Q I h
 exact isTrue_not (ha pins s σ H (λc H1=>Q (!c) H1) I h)
noncomputable def Xi (ta tb:TE):TE:=λσ H Q=>ta σ H λx H1=>∃c,x=.bl c/\if c=true then tb σ H1 Q else Q (.bl false) H1
noncomputable def aes (ta tb:TE):TE:=λσ H Q=>ta σ H λx H1=>∃c,x=.bl c/\if c=true then Q (.bl true) H1 else tb σ H1 Q
noncomputable def aeu (ta:TE):TE:=λσ H Q=>ta σ H λx H1=>∃c,x=.bl c/\Q (.bl (!c)) H1
theorem mj {op}{t:TE}(h:PE X a t):PE X (.BoolOp op [a] pos) t:=λpins s σ H Q I hw=>BoolOp_one (h pins s σ H Q I hw)
theorem lu (ha:PE X a ta)(hb:PE X (.BoolOp .And (b::rest) pos) tb):PE X (.BoolOp .And (a::b::rest) pos) (Xi ta tb):=by
 intro pins s σ H Q I h
 refine BoolOp_and (aM (ha pins s σ H _ I h) λv s1 ⟨x,H1,I1,r1,q1⟩=>?_)
 obtain⟨c,rfl,q1⟩:=q1
 cases r1
 refine wpAny_truthy_bool ?_
 cases c with
 |true=>exact hb pins s1 σ H1 Q I1 q1
 |false=>exact⟨.bl false,H1,I1,rfl,q1⟩
theorem aev (ha:PE X a ta)(hb:PE X (.BoolOp .Or (b::rest) pos) tb):PE X (.BoolOp .Or (a::b::rest) pos) (aes ta tb):=by
 intro pins s σ H Q I h
 refine BoolOp_or (aM (ha pins s σ H _ I h) λv s1 ⟨x,H1,I1,r1,q1⟩=>?_)
 obtain⟨c,rfl,q1⟩:=q1
 cases r1
 refine wpAny_truthy_bool ?_
 cases c with
 |false=>exact hb pins s1 σ H1 Q I1 q1
 |true=>exact⟨.bl true,H1,I1,rfl,q1⟩
theorem Xj (ha:PE X a ta):PE X (.UnaryOp .Not a pos) (aeu ta):=by
 intro pins s σ H Q I h
 refine UnaryOp_ (aM (ha pins s σ H _ I h) λv s1 ⟨x,H1,I1,r1,q1⟩=>?_)
 obtain⟨c,rfl,q1⟩:=q1
 cases r1
 exact not_of (wpAny_truthy_bool ⟨.bl (!c),H1,I1,rfl,q1⟩)
noncomputable def Xk (t:TT) (ta tb:TE):TE:=λσ H Q=>t σ H λc H1=>if c=true then ta σ H1 Q else tb σ H1 Q
theorem lA {c:Expr}(hc:PT X c tA)(ha:PE X a ta)(hb:PE X b tb):PE X (.IfExp c a b pos) (Xk tA ta tb):=by
 intro pins s σ H Q I h
 refine wpAny_IfExp (aM (hc pins s σ H _ I h) λd s1 ⟨H1,I1,q1⟩=>?_)
 cases d with
 |true=>exact ha pins s1 σ H1 Q I1 q1
 |false=>exact hb pins s1 σ H1 Q I1 q1
end
noncomputable def aC (K:W.Frag) (H:Hp) (a:Addr) (xs:List V):Prop:=
 Rd H a (.lst xs)\/
  ∃(o:Obj) (its:Array Value) (n:Nat),K.lookup a=some o/\o.cls=.type "list"/\o.dict=none/\o.data=.seq its n/\its.size<=sizeLine/\Vals xs its.toList
noncomputable def aH (K:W.Frag) (H:Hp) (a:Addr) (xs:List V):Prop:=
 Rd H a (.tup xs)\/
  ∃(o:Obj) (its:Array Value) (n:Nat),K.lookup a=some o/\o.cls=.type "tuple"/\o.data=.seq its n/\its.size<=sizeLine/\Vals xs its.toList
noncomputable def aew:Value->Option V
 | .none=>some .non
 | .bool b=>some (.bl b)
 | .int i _=>some (.int i)
 | .str x _=>some (.str x)
 | .bytes b _=>some (.jR b)
 | .float b _=>some (.flt b)
 | .ref a=>some (.ref a)
 | .type n=>some (.ty n)
 |_=>none
theorem RelV.abs {x:V}{u:Value}(r:RelV x u):aew u=some x:=by
 cases x with
 |non=>cases r;rfl
 |bl _=>cases r;rfl
 |int _=>obtain⟨t,rfl⟩:=r;rfl
 |str _=>obtain⟨t,rfl⟩:=r;rfl
 |jR _=>obtain⟨t,rfl⟩:=r;rfl
 |flt _=>obtain⟨t,rfl⟩:=r;rfl
 |ref _=>cases r;rfl
 |ty _=>cases r;rfl
theorem RelV.inj {x y:V}{u:Value}(r:RelV x u)(q:RelV y u):x=y:=Option.some.inj (r.abs.symm.trans q.abs)
theorem Vals.inj:∀{xs ys:List V}{us:List Value},Vals xs us->Vals ys us->xs=ys
 |_,_,_,.nil,.nil=>rfl
 |_,_,_,.cons r t,.cons r' t'=>by rw[r.inj r',Vals.inj t t']
section
variable {X:Cx}{pins:List (Addr × Obj)}{σ:St}{H:Hp}{s:Shared}{a:Addr}{xs ys:List V}
theorem aC.of {K:W.Frag}(h:H a=some (.lst xs)):aC K H a xs:=.inl (.inl h)
theorem aH.of {K:W.Frag}(h:H a=some (.tup xs)):aH K H a xs:=.inl (.inl h)
theorem Inv.list (I:Inv X pins σ H s)(h:aC X.K H a xs):∃its:List Value,Vals xs its/\PlainL s.heap a its.toArray/\xs.length<=sizeLine:=by
 rcases h with h|⟨o,its,n,hk,hc,hd,hs,hz,r⟩
 . obtain⟨z,its,n,r,e⟩:=h.ok I.hok
   exact⟨its,r,⟨_,n,e,rfl,rfl,rfl⟩,z⟩
 . refine⟨its.toList,r,⟨o,n,I.cM a o hk,hc,hd,by simpa using hs⟩,?_⟩
   have e:=r.length
   simp only[Q1i] at e
   omega
theorem Inv.tuple (I:Inv X pins σ H s)(h:aH X.K H a xs):∃its:List Value,Vals xs its/\IsTup s.heap a its.toArray/\xs.length<=sizeLine:=by
 rcases h with h|⟨o,its,n,hk,hc,hs,hz,r⟩
 . obtain⟨z,its,r,p⟩:=h.ok I.hok
   exact⟨its,r,p,z⟩
 . refine⟨its.toList,r,⟨o,I.cM a o hk,hc,n,by simpa using hs⟩,?_⟩
   have e:=r.length
   simp only[Q1i] at e
   omega
theorem Inv.zQ (I:Inv X pins σ H s)(h:aC X.K H a xs)(h':aC X.K H a ys):xs=ys:=by
 obtain⟨its,r,⟨o,n,e,_,_,d⟩,_⟩:=I.list h
 obtain⟨its',r',⟨o',n',e',_,_,d'⟩,_⟩:=I.list h'
 rw[e] at e';cases e'
 rw[d] at d'
 injection d' with d1 _
 have:its=its':=by simpa using congrArg Array.toList d1
 subst this
 exact r.inj r'
theorem Inv.Ge (I:Inv X pins σ H s)(h:aH X.K H a xs)(h':aH X.K H a ys):xs=ys:=by
 obtain⟨its,r,⟨o,e,_,n,d⟩,_⟩:=I.tuple h
 obtain⟨its',r',⟨o',e',_,n',d'⟩,_⟩:=I.tuple h'
 rw[e] at e';cases e'
 rw[d] at d'
 injection d' with d1 _
 have:its=its':=by simpa using congrArg Array.toList d1
 subst this
 exact r.inj r'
end
noncomputable abbrev Cx.wish (X:Cx) (E:Value->Shared->Prop):Cx:={ X with xe:=E }
noncomputable abbrev Cx.jV (X:Cx):Cx:=X.wish λ_ _=>False
theorem Cx.Ok.wish {X:Cx}(ok:X.Ok)(E:Value->Shared->Prop):(X.wish E).Ok:=
 ⟨ok.mod,ok.kind,ok.glob,ok.blt,ok.above,ok.inj,ok.has,ok.cab,ok.hd,ok.frames,ok.stk,ok.vZ,ok.bs,ok.jo,ok.pI,ok.qN,ok.iy,ok.lY⟩
theorem Cx.Ok.jq {X:Cx}{E:Value->Shared->Prop}(ok:(X.wish E).Ok):X.Ok:=
 ⟨ok.mod,ok.kind,ok.glob,ok.blt,ok.above,ok.inj,ok.has,ok.cab,ok.hd,ok.frames,ok.stk,ok.vZ,ok.bs,ok.jo,ok.pI,ok.qN,ok.iy,ok.lY⟩
section
variable {X:Cx}{pins:List (Addr × Obj)}{σ:St}{H:Hp}{s:Shared}{E:Value->Shared->Prop}
theorem Inv.wish (I:Inv X pins σ H s)(E:Value->Shared->Prop):Inv (X.wish E) pins σ H s:=⟨I.ok.wish E,I.os,I.bare,I.base,I.loc,I.cell,I.free,I.fO,I.pin,I.hok,I.len⟩
theorem Inv.jq (I:Inv (X.wish E) pins σ H s):Inv X pins σ H s:=⟨I.ok.jq,I.os,I.bare,I.base,I.loc,I.cell,I.free,I.fO,I.pin,I.hok,I.len⟩
theorem SP.jq {D:Ends}{f:Flow}{s':Shared}(h:SP (X.wish E) pins D f s'):SP X pins D f s':=by
 cases f with
 |next=>obtain⟨σ',H',I,q⟩:=h;exact⟨σ',H',I.jq,q⟩
 |brk=>obtain⟨σ',H',I,q⟩:=h;exact⟨σ',H',I.jq,q⟩
 |cont=>obtain⟨σ',H',I,q⟩:=h;exact⟨σ',H',I.jq,q⟩
 |ret u=>obtain⟨v,σ',H',I,r,q⟩:=h;exact⟨v,σ',H',I.jq,r,q⟩
theorem fQ.jV {st:List Stmt}{t:TS}(h:fQ X.jV st t):fQ X st t:=λpins s σ H D I hw=>
 Q0h (h pins s σ H D (I.wish _) hw) (λ_ _ q=>q.jq) λ_ _ z=>False.elim z
end
section
variable {X:Cx}{st:Stmt}{rest:List Stmt}{t u:TS}{e:Expr}{te:TE}{pos:Pos}
noncomputable def Gf:TS:=λD σ H=>D.nx σ H
noncomputable def Gg (t u:TS):TS:=λD σ H=>t { D with nx:=u D } σ H
theorem aX:fQ X [] Gf:=λ_ _ σ H _ I h=>wpAny_execs_nil ⟨σ,H,I,h⟩
theorem ao (h1:PS X st t)(h2:fQ X rest u):fQ X (st::rest) (Gg t u):=by
 intro pins s σ H D I h
 refine wpAny_execs_cons (aM (h1 pins s σ H { D with nx:=u D } I h) λf s1 q=>?_)
 cases f with
 |next=>
  obtain⟨σ',H',I',q⟩:=q
  exact h2 pins s1 σ' H' D I' q
 |ret v=>exact q
 |brk=>exact q
 |cont=>exact q
theorem aD (h1:PS X st t):fQ X [st] t:=by
 intro pins s σ H D I h
 refine wpAny_execs_cons (aM (h1 pins s σ H D I h) λf s1 q=>?_)
 cases f with
 |next=>exact wpAny_execs_nil q
 |ret v=>exact q
 |brk=>exact q
 |cont=>exact q
theorem Inv.quiet {pins:List (Addr × Obj)}{σ:St}{H:Hp}{s:Shared}(I:Inv X pins σ H s):interactive X.env=false:=by simp[interactive,I.ok.kind]
noncomputable def aex (te:TE):TS:=λD σ H=>te σ H λ_ H1=>D.nx σ H1
theorem iz (he:PE X e te)(hs:swapsWith e none pos.line X.env=pure false:=by rfl):PS X (.Expr e pos) (aex te):=by
 intro pins s σ H D I h
 exact wpAny_Expr_any (aM (he pins s σ H _ I h) λv s1 ⟨x,H1,I1,r1,q1⟩=>⟨σ,H1,I1,q1⟩) I.quiet hs
noncomputable def Gh (te:TE):TS:=λD σ H=>te σ H D.rt
theorem aP (he:PE X e te):PS X (.Return (some e) pos) (Gh te):=by
 intro pins s σ H D I h
 exact wpAny_Return_some (aM (he pins s σ H _ I h) λv s1 ⟨x,H1,I1,r1,q1⟩=>⟨x,σ,H1,I1,r1,q1⟩)
noncomputable def pL (c:TT) (t u:TS):TS:=λD σ H=>c σ H λb H1=>if b=true then t D σ H1 else u D σ H1
theorem aW {c:Expr}{a b:List Stmt}{tc:TT}(hc:PT X c tc)(ha:fQ X a t)(hb:fQ X b u):PS X (.If c a b pos) (pL tc t u):=by
 intro pins s σ H D I h
 refine wpAny_If (aM (hc pins s σ H _ I h) λd s1 ⟨H1,I1,q1⟩=>?_)
 cases d with
 |true=>exact ha pins s1 σ H1 D I1 q1
 |false=>exact hb pins s1 σ H1 D I1 q1
noncomputable def Xl:TS:=λ_ _ _=>False
theorem aO:PS X st Xl:=λ_ _ _ _ _ _ h=>h.elim
theorem aey {sts:List Stmt}:fQ X sts Xl:=λ_ _ _ _ _ _ h=>h.elim
end
noncomputable abbrev TG:=V->St->Hp->(St->Hp->Prop)->Prop
noncomputable abbrev qP:=List V->St->Hp->(St->Hp->Prop)->Prop
noncomputable def PG (X:Cx) (target:Expr) (t:TG):Prop:=
 ∀(pins:List (Addr × Obj)) (s:Shared) (σ:St) (H:Hp) (v:V) (u:Value) (Q:St->Hp->Prop),Inv X pins σ H s->RelV v u->t v σ H Q->
  wpAny (model X.prog X.w) X.A (assign target X.env u) (λ_ s'=>∃σ' H',Inv X pins σ' H' s'/\Q σ' H') X.xe s
noncomputable def zR (X:Cx) (ts:List Expr) (t:qP):Prop:=
 ∀(pins:List (Addr × Obj)) (s:Shared) (σ:St) (H:Hp) (vs:List V) (us:List Value) (Q:St->Hp->Prop),Inv X pins σ H s->Vals vs us->t vs σ H Q->
  wpAny (model X.prog X.w) X.A (assignInOrder ((assignEach ts X.env).map (·.2)) us) (λ_ s'=>∃σ' H',Inv X pins σ' H' s'/\Q σ' H') X.xe s
noncomputable abbrev Gi:=V->V->V->Hp->(Hp->Prop)->Prop
noncomputable def Xm (X:Cx) (t:Gi):Prop:=
 ∀(pins:List (Addr × Obj)) (s:Shared) (σ:St) (H:Hp) (o i v:V) (ov iv u:Value) (Q:Hp->Prop),Inv X pins σ H s->RelV o ov->RelV i iv->RelV v u->t o i v H Q->
  wpAny (model X.prog X.w) X.A (setItem ov iv u) (λ_ s'=>∃H',Inv X pins σ H' s'/\Q H') X.xe s
section
variable {X:Cx}{pos:Pos}
noncomputable def cF (i:Nat):TG:=λv σ H Q=>Q (σ.set i (some v)) H
theorem bG {i:Nat}{x:Str}(hN:X.N.Nodup)(hi:X.N[i]? =some x)(hx:Loc X.env.scope x)(hf:X.fn x=true\/X.env.scope.names.lookup x=some .local:=by first|exact .inl rfl|exact .inr rfl|assumption):PG X (.Name x pos) (cF i):=by
 intro pins s σ H v u Q I r h
 exact wpAny_assign_Name (sZ I hN hi hx r (λs' I'=>⟨_,H,I',h⟩) hf)
noncomputable def qQ:qP:=λvs σ H Q=>vs=[]/\Q σ H
noncomputable def jr (t:TG) (u:qP):qP:=λvs σ H Q=>∃v r,vs=v::r/\t v σ H λσ' H'=>u r σ' H' Q
theorem fU:zR X [] qQ:=by
 intro pins s σ H vs us Q I r h
 obtain⟨e,h⟩:=h
 subst e
 cases r
 exact assignInOrder_nil ⟨σ,H,I,h⟩
theorem cB {e:Expr}{es:List Expr}{t:TG}{u:qP}(h1:PG X e t)(h2:zR X es u)
 (hs:(assignEach (e::es) X.env).map (·.2)=assign e X.env::(assignEach es X.env).map (·.2):=by rfl):zR X (e::es) (jr t u):=by
 intro pins s σ H vs us Q I r h
 obtain⟨v,vr,e1,h⟩:=h
 subst e1
 cases r with
 |cons r rr=>
  rw[hs]
  refine assignInOrder_cons (aM (h1 pins s σ H _ _ _ I r h) λ_ s1 ⟨σ1,H1,I1,q1⟩=>?_)
  exact h2 pins s1 σ1 H1 _ _ Q I1 rr q1
noncomputable def qR (K:W.Frag) (n:Nat) (t:qP):TG:=λv σ H Q=>∃a xs,v=.ref a/\aH K H a xs/\xs.length=n/\t xs σ H Q
theorem fV {es:List Expr}{k:Nat}{t:qP}{n:Nat}(hc:X.calm=true)(h:zR X es t)
 (hn:(assignEach es X.env).length=n:=by rfl) (hst:(assignEach es X.env).findIdx? (·.1)=none:=by rfl):PG X (.Tuple es k pos) (qR X.K n t):=by
 intro pins s σ H v u Q I r hw
 obtain⟨a,xs,e1,hq,hl,hw⟩:=hw
 subst e1
 cases r
 obtain⟨its,rv,ht,hz⟩:=I.tuple hq
 refine assign_Tuple_tuple (I.ok.hd hc) ht (by simp[hn,<-hl,rv.length]) hst λh' hx=>?_
 have I1:Inv X pins σ H { s with heap:=h' }:=I.kept (t':=s.toks) λb o e=>hx b o (Q09 (Q02 e)) e
 exact h pins _ σ H xs _ Q I1 (by simpa using rv) hw
noncomputable def aez (to ti:TE) (t:Gi):TG:=λv σ H Q=>to σ H λo H1=>ti σ H1 λi H2=>t o i v H2 λH3=>Q σ H3
theorem aeA {o i:Expr}{to ti:TE}{t:Gi}(ho:PE X o to)(hi:PE X i ti)(hs:Xm X t)
 (ha:∀v,assign (.Subscript o i pos) X.env v=(do
   let ov <-holding [v] (eval o X.env)
   let iv <-holding [v,ov] (eval i X.env)
   standAt pos
   holding [v,ov,iv] (setItem ov iv v)
   release [v,ov,iv] []):=by intro _;rfl):PG X (.Subscript o i pos) (aez to ti t):=by
 intro pins s σ H v u Q I r h
 rw[ha]
 refine Q00 (wpAny_holding (aM (ho pins s σ H _ I h) λov s1 ⟨x,H1,I1,r1,q1⟩=>?_))
 refine Q00 (wpAny_holding (aM (hi pins s1 σ H1 _ I1 q1) λiv s2 ⟨y,H2,I2,r2,q2⟩=>?_))
 refine Q00 (wpAny_standAt (Q00 (wpAny_holding (aM (hs pins s2 σ H2 x y v ov iv u _ I2 r1 r2 r q2) λ_ s3 ⟨H3,I3,q3⟩=>?_))))
 exact wpAny_release ⟨σ,H3,I3,q3⟩
noncomputable def nJ (te:TE) (g:TG):TS:=λD σ H=>te σ H λx H1=>g x σ H1 D.nx
theorem qT {tg e:Expr}{te:TE}{g:TG}(he:PE X e te)(hg:PG X tg g)(hs:swapsWithSole [tg] e pos.line X.env=pure false:=by rfl)(hw:swappedStores [tg] e X.env=pure none:=by rfl)
 (h1:(assignEach [tg] X.env).map (·.2)=[assign tg X.env]:=by rfl):PS X (.Assign [tg] e pos) (nJ te g):=by
 intro pins s σ H D I h
 refine wpAny_Assign_stores (aM (he pins s σ H _ I h) λv s1 ⟨x,H1,I1,r1,q1⟩=>?_) hs hw
 rw[h1]
 exact aM (hg pins s1 σ H1 x v _ I1 r1 q1) λ_ s2 q=>q
theorem bw {i:Nat}{x:Str}{e:Expr}{te:TE}{pos':Pos}(hN:X.N.Nodup)(hi:X.N[i]? =some x)(hx:Loc X.env.scope x)(he:PE X e te)(hs:swapsWith e (some (.Name x pos')) pos.line X.env=pure false:=by rfl)(hf:X.fn x=true\/X.env.scope.names.lookup x=some .local:=by first|exact .inl rfl|exact .inr rfl|assumption):
 PS X (.Assign [.Name x pos'] e pos) (nJ te (cF i)):=by
 intro pins s σ H D I h
 refine wpAny_Assign_Name (aM (he pins s σ H _ I h) λv s1 ⟨y,H1,I1,r1,q1⟩=>?_) hs
 exact sZ I1 hN hi hx r1 (λs2 I2=>⟨_,H1,I2,q1⟩) hf
end
section
variable {X:Cx}{pos:Pos}
noncomputable def aeB (c:TT) (tb:TS):TS:=λD σ H=>∃W:Nat->St->Hp->Prop,(∃m,W m σ H)/\∀m σ H,W m σ H->
 c σ H λb H1=>if b=true then ∃N:St->Hp->Prop,(∀σ' H',N σ' H'->∃m',m'<m/\W m' σ' H')/\tb { D with nx:=N,ct:=N,bk:=D.nx } σ H1 else D.nx σ H1
theorem aeC {c:Expr}{body:List Stmt}{tc:TT}{tb:TS}(hp:PassesOwn (model X.prog X.w) X.A X.env X.xe)(hc:PT X c tc)(hb:fQ X body tb):PS X (.While c body [] pos) (aeB tc tb):=by
 intro pins s σ H D I h
 obtain⟨W,⟨m0,w0⟩,turn⟩:=h
 refine wpAny_While (codeAny_whileLoop (λn s'=>∃σ' H',Inv X pins σ' H' s'/\W n σ' H') ?_ m0 ⟨σ,H,I,w0⟩)
 rintro n s1 ⟨σ1,H1,I1,w1⟩
 refine wpAny_passesOwn hp (aM (hc pins s1 σ1 H1 _ I1 (turn n σ1 H1 w1)) λb s2 ⟨H2,I2,q2⟩=>?_)
 cases b with
 |true=>
  obtain⟨N,hN,q2⟩:=q2
  rw[if_pos rfl]
  refine wpAny_passesOwn hp (aM (hb pins s2 σ1 H2 _ I2 q2) λf s3 q3=>?_)
  cases f with
  |next=>
   obtain⟨σ3,H3,I3,n3⟩:=q3
   obtain⟨m',hm,w3⟩:=hN σ3 H3 n3
   exact⟨m',hm,σ3,H3,I3,w3⟩
  |cont=>
   obtain⟨σ3,H3,I3,n3⟩:=q3
   obtain⟨m',hm,w3⟩:=hN σ3 H3 n3
   exact⟨m',hm,σ3,H3,I3,w3⟩
  |brk=>exact q3
  |ret v=>exact q3
 |false=>
  rw[if_neg Bool.false_ne_true]
  exact wpAny_execs_nil ⟨σ1,H2,I2,q2⟩
end
structure It where
 go:Nat->Hp->Prop
 pN:Nat->Hp->V->Hp->Prop
 stop:Nat->Hp->Prop
noncomputable def fW (X:Cx) (pins:List (Addr × Obj)) (H:Hp) (b:Addr):Prop:=
 H b=none/\b≠X.env.locals/\b ∉ X.fs/\(b∈X.ex\/X.s₀.heap.objs.size<=b)/\(∀x c,X.env.cells.lookup x=some c->c≠b)/\∀p∈X.pn++pins,p.1≠b
theorem Inv.mq {X:Cx}{pins:List (Addr × Obj)}{σ:St}{H H':Hp}{s:Shared}{b:Addr}(I:Inv X pins σ H s)(hb:s.heap.objs.size<=b)(hn:H' b=none):fW X pins H' b:=by
 refine⟨hn,Q0n (Q0a I.lt hb),I.sX hb,.inr (Q0c I.sz hb),λx c e z=>?_,λp hp z=>?_⟩
 . obtain⟨v,q⟩:=I.cell x c e
   exact absurd (Q0a q.lt (by rw[z];exact hb)) (Q0l _)
 . exact absurd (Q0a (Q02 (I.pin p hp).1) (by rw[z];exact hb)) (Q0l _)
structure Turn (P:Program) (w:World) (K:W.Frag) (tg:Expr) (J:It) (fp:List Addr) (it:Addr) (tn:Nat->Heap->Prop):Prop where
 mem:it∈fp
 obj:∀i h,tn i h->∀b∈fp,∃o,h.get? b=some o/\∀v,o.data≠ .cell v
 keep:∀i h h',tn i h->(∀b∈fp,∀o,h.get? b=some o->h'.get? b=some o)->tn i h'
 item:∀(X:Cx),X.prog=P->X.w=w->X.K=K->X.calm=true->∀(i:Nat) (pins:List (Addr × Obj)) (s:Shared) (σ:St) (H:Hp) (E:Value->Shared->Prop),Inv X pins σ H s->(∀b∈fp,fW X pins H b)->tn i s.heap->J.go i H->
  wpAny (model P w) X.A (pyNext (.ref it)) (λr s1=>∃u,r=some u/\
   wpAny (model P w) X.A (letOwnedTupleGo tg (.ref it) u) (λ_ s2=>∃x H',Inv X pins σ H' s2/\RelV x u/\J.pN i H x H'/\tn (i+1) s2.heap/\∀b∈fp,H' b=none) E s1) E s
 done:∀(X:Cx),X.prog=P->X.w=w->X.K=K->X.calm=true->∀(i:Nat) (pins:List (Addr × Obj)) (s:Shared) (σ:St) (H:Hp) (E:Value->Shared->Prop),Inv X pins σ H s->(∀b∈fp,fW X pins H b)->tn i s.heap->J.stop i H->
  wpAny (model P w) X.A (pyNext (.ref it)) (λr s1=>r=none/\Inv X pins σ H s1) E s
 self:∀(A:Around) (i:Nat) (s:Shared) (Q:Value->Shared->Prop) (E:Value->Shared->Prop),tn i s.heap->Q (.ref it) s->wpAny (model P w) A (pyIter (.ref it)) Q E s
noncomputable abbrev TI:=St->Hp->(It->Hp->Prop)->Prop
noncomputable def PIE (X:Cx) (pins:List (Addr × Obj)) (σ:St) (tg:Expr) (R:It->Hp->Prop) (itv:Value) (s2:Shared):Prop:=
 ∃(it:Addr) (fp:List Addr) (tn:Nat->Heap->Prop) (J:It) (H':Hp),itv=.ref it/\Inv X pins σ H' s2/\Turn X.prog X.w X.K tg J fp it tn/\tn 0 s2.heap/\(∀b∈fp,fW X pins H' b)/\R J H'
noncomputable def PI (X:Cx) (tg iter:Expr) (wi:TI):Prop:=
 ∀(pins:List (Addr × Obj)) (s:Shared) (σ:St) (H:Hp) (R:It->Hp->Prop),Inv X pins σ H s->wi σ H R->
  wpAny (model X.prog X.w) X.A (eval iter X.env) (λv s1=>wpAny (model X.prog X.w) X.A (pyIter v) (PIE X pins σ tg R) X.xe s1) X.xe s
theorem zT {M:Model}{A:Around}{E:Value->Shared->Prop}{s:Shared}{tg:Expr}{it:Addr}{u:Value}{o:Obj}{n:String}{vs:Array Value}{Q:Unit->Shared->Prop}(ho:s.heap.get? it=some o)(hc:o.cls=.type n)(hd:o.data=.fields vs)
 (hn:["enumerate","zip","dict_itemiterator","dict_reverseitemiterator","odict_iterator","itertools.zip_longest","itertools.pairwise"].contains n=false) (hQ:Q () s):wpAny M A (letOwnedTupleGo tg (.ref it) u) Q E s:=by
 unfold letOwnedTupleGo
 cases tg <;> first
  |exact Q03 hQ
  |(cases u <;> first
     |exact Q03 hQ
     |(refine Q00 (wpAny_load ho ?_)
       rw[hc,hd]
       show wpAny M A (if(["enumerate","zip","dict_itemiterator","dict_reverseitemiterator","odict_iterator","itertools.zip_longest","itertools.pairwise"].contains n && vs[0]? == some (rawInt _))=true then _ else _) Q E s
       rw[if_neg (by intro h;rw[hn,Bool.false_and] at h;cases h)]
       exact Q03 hQ))
noncomputable def v8 (K:W.Frag) (a:Addr):It:=
 ⟨λi H=>∃xs x,aC K H a xs/\xs[i]? =some x,λi H x H'=>H'=H/\∀xs,aC K H a xs->xs[i]? =some x,λi H=>∃xs,aC K H a xs/\xs.length<=i⟩
noncomputable def v9 (K:W.Frag) (a:Addr):It:=
 ⟨λi H=>∃xs x,aH K H a xs/\xs[i]? =some x,λi H x H'=>H'=H/\∀xs,aH K H a xs->xs[i]? =some x,λi H=>∃xs,aH K H a xs/\xs.length<=i⟩
noncomputable def qU (lo:Int) (n:Nat):It:=⟨λi _=>i<n,λi H x H'=>H'=H/\x=.int (lo+i),λi _=>n<=i⟩
theorem aeD {P:Program}{w:World}{K:W.Frag}{tg:Expr}(a it:Addr):Turn P w K tg (v8 K a) [it] it (λi h=>h.IsListIter it a i) where
 mem:=by simp
 obj:=λi h st b hb=>by
  have e:b=it:=by simpa using hb
  subst e
  obtain⟨o,e,c,d⟩:=st
  exact⟨o,e,λv z=>by rw[d] at z;cases z⟩
 keep:=λi h h' st k=>st.at λo e=>k it (by simp) o e
 item:=by
  intro X hP hw hK hc i pins s σ H E I hf st hg
  subst hP hw hK
  obtain⟨xs,x,hq,hx⟩:=hg
  obtain⟨its,rv,p,hz⟩:=I.list hq
  obtain⟨u,hu,ru⟩:=rv.get hx
  obtain⟨f0,f1,f2,f3,f4,f5⟩:=hf it (by simp)
  refine wpAny_pyNext_list_item st p.isList (x:=u) (by simpa using hu) λh' st' sb=>?_
  have I1:Inv X pins σ H { s with heap:=h' }:=I.turned (t':=s.toks) (λb o hb e=>(sb.2 b hb).trans e) f0 f1 f3 f4 f5
  obtain⟨o,e,c,d⟩:=id st'
  exact⟨u,rfl,zT (s:={ s with heap:=h' }) e c d (by decide) ⟨x,H,I1,ru,⟨rfl,λys hy=>by rw[I.zQ hy hq];exact hx⟩,st',λb hb=>(hf b hb).1⟩⟩
 done:=by
  intro X hP hw hK hc i pins s σ H E I hf st hg
  subst hP hw hK
  obtain⟨xs,hq,hx⟩:=hg
  obtain⟨its,rv,p,hz⟩:=I.list hq
  obtain⟨f0,f1,f2,f3,f4,f5⟩:=hf it (by simp)
  have hl:=rv.length
  exact wpAny_pyNext_list_end (I.ok.hd hc) st p.isList (by simp;omega) λh' eb=>⟨rfl,I.turned (t':=s.toks) (λb o hb e=>eb b o hb e) f0 f1 f3 f4 f5⟩
 self:=λ_ _ _ _ _ st h=>wpAny_pyIter_listiter st h
theorem aeE {P:Program}{w:World}{K:W.Frag}{tg:Expr}(a it:Addr):Turn P w K tg (v9 K a) [it] it (λi h=>h.IsTupleIter it a i) where
 mem:=by simp
 obj:=λi h st b hb=>by
  have e:b=it:=by simpa using hb
  subst e
  obtain⟨o,e,c,d⟩:=st
  exact⟨o,e,λv z=>by rw[d] at z;cases z⟩
 keep:=λi h h' st k=>st.at λo e=>k it (by simp) o e
 item:=by
  intro X hP hw hK hc i pins s σ H E I hf st hg
  subst hP hw hK
  obtain⟨xs,x,hq,hx⟩:=hg
  obtain⟨its,rv,p,hz⟩:=I.tuple hq
  obtain⟨u,hu,ru⟩:=rv.get hx
  obtain⟨f0,f1,f2,f3,f4,f5⟩:=hf it (by simp)
  refine wpAny_pyNext_tuple_item st (show s.heap.IsTuple a its.toArray from p) (x:=u) (by simpa using hu) λh' st' sb=>?_
  have I1:Inv X pins σ H { s with heap:=h' }:=I.turned (t':=s.toks) (λb o hb e=>(sb.2 b hb).trans e) f0 f1 f3 f4 f5
  obtain⟨o,e,c,d⟩:=id st'
  exact⟨u,rfl,zT (s:={ s with heap:=h' }) e c d (by decide) ⟨x,H,I1,ru,⟨rfl,λys hy=>by rw[I.Ge hy hq];exact hx⟩,st',λb hb=>(hf b hb).1⟩⟩
 done:=by
  intro X hP hw hK hc i pins s σ H E I hf st hg
  subst hP hw hK
  obtain⟨xs,hq,hx⟩:=hg
  obtain⟨its,rv,p,hz⟩:=I.tuple hq
  obtain⟨f0,f1,f2,f3,f4,f5⟩:=hf it (by simp)
  have hl:=rv.length
  exact wpAny_pyNext_tuple_end (I.ok.hd hc) st (show s.heap.IsTuple a its.toArray from p) (by simp;omega) λh' eb=>⟨rfl,I.turned (t':=s.toks) (λb o hb e=>eb b o hb e) f0 f1 f3 f4 f5⟩
 self:=λ_ _ _ _ _ st h=>wpAny_pyIter_tupleiter st h
theorem aeF {P:Program}{w:World}{K:PySem.W.Frag}{tg:Expr}(it:Addr)(lo:Int)(n:Nat):Turn P w K tg (qU lo n) [it] it (λi h=>IsRangeIter h it (lo+(i:Nat) * 1) ((n:Int) - (i:Nat)) 1) where
 mem:=by simp
 obj:=λi h st b hb=>by
  have e:b=it:=by simpa using hb
  subst e
  exact⟨_,st,λv z=>by
   have z':Data.fields _=Data.cell v:=z
   cases z'⟩
 keep:=λi h h' st k=>k it (by simp) _ st
 item:=by
  intro X hP hw hK hc i pins s σ H E I hf st hg
  subst hP hw hK
  obtain⟨f0,f1,f2,f3,f4,f5⟩:=hf it (by simp)
  have W:=Walks.range (prog:=X.prog) (w:=X.w) (I.ok.hd hc) it lo 1 n
  refine W.item i s _ _ hg st λv h' tk hv st' kk=>?_
  obtain⟨t,rfl⟩:=hv
  have I1:Inv X pins σ H { s with heap:=h',toks:=tk }:=I.turned (λb o hb e=>kk b o (by simpa using hb) e) f0 f1 f3 f4 f5
  refine⟨_,rfl,zT (s:={ s with heap:=h',toks:=tk }) (n:="range_iterator") st' rfl rfl (by decide) ⟨.int (lo+i),H,I1,⟨t,?_⟩,⟨rfl,rfl⟩,st',λb hb=>(hf b hb).1⟩⟩
  rw[Int.mul_one]
 done:=by
  intro X hP hw hK hc i pins s σ H E I hf st hg
  subst hP hw hK
  obtain⟨f0,f1,f2,f3,f4,f5⟩:=hf it (by simp)
  exact wpAny_pyNext_range_end (I.ok.hd hc) st (by have:n<=i:=hg;omega) λh' eb=>⟨rfl,I.turned (t':=s.toks) (λb o hb e=>eb b o hb e) f0 f1 f3 f4 f5⟩
 self:=λ_ _ _ _ _ st h=>wpAny_pyIter_rangeiter st h
section
variable {X:Cx}{tg:Expr}
noncomputable def Xn (K:W.Frag) (tl:TE):TI:=λσ H R=>tl σ H λx H1=>∃a,x=.ref a/\(∃xs,aC K H1 a xs)/\R (v8 K a) H1
noncomputable def aeG (K:W.Frag) (tl:TE):TI:=λσ H R=>tl σ H λx H1=>∃a,x=.ref a/\(∃xs,aH K H1 a xs)/\R (v9 K a) H1
theorem lB {l:Expr}{tl:TE}(hl:PE X l tl):PI X tg l (Xn X.K tl):=by
 intro pins s σ H R I h
 refine aM (hl pins s σ H _ I h) λv s1 ⟨x,H1,I1,r1,q1⟩=>?_
 obtain⟨a,e,⟨xs,hq⟩,q⟩:=q1
 subst e
 cases r1
 obtain⟨its,rv,p,hz⟩:=I1.list hq
 refine wpAny_pyIter_list p.isList ?_
 refine⟨s1.heap.objs.size,[s1.heap.objs.size],_,_,H1,rfl,I1.kept (t':=s1.toks) λb o e=>Q04 _ e,aeD a _,⟨_,Q0d _ rfl,rfl,rfl⟩,λb hb=>?_,q⟩
 have e:b=s1.heap.objs.size:=by simpa using hb
 subst e
 exact I1.mq (Q01 _) (I1.hok.fresh (Q01 _))
theorem pO {l:Expr}{tl:TE}(hl:PE X l tl):PI X tg l (aeG X.K tl):=by
 intro pins s σ H R I h
 refine aM (hl pins s σ H _ I h) λv s1 ⟨x,H1,I1,r1,q1⟩=>?_
 obtain⟨a,e,⟨xs,hq⟩,q⟩:=q1
 subst e
 cases r1
 obtain⟨its,rv,p,hz⟩:=I1.tuple hq
 refine wpAny_pyIter_tuple (show s1.heap.IsTuple a its.toArray from p) ?_
 refine⟨s1.heap.objs.size,[s1.heap.objs.size],_,_,H1,rfl,I1.kept (t':=s1.toks) λb o e=>Q04 _ e,aeE a _,⟨_,Q0d _ rfl,rfl,rfl⟩,λb hb=>?_,q⟩
 have e:b=s1.heap.objs.size:=by simpa using hb
 subst e
 exact I1.mq (Q01 _) (I1.hok.fresh (Q01 _))
theorem Xo {pins:List (Addr × Obj)}{σ:St}{H:Hp}{s:Shared}{R:It->Hp->Prop}{E:Value->Shared->Prop}{lo hi:Int}{t u v:Tok}{tk:Nat}(I:Inv X pins σ H s)(h1: -(2 ^ 62)<=lo)(h2:lo<2 ^ 62)(h3: -(2 ^ 62)<=hi)(h4:hi<2 ^ 62)
 (q:R (qU lo (hi - lo).toNat) H):wpAny (model X.prog X.w) X.A (pyIter (.ref s.heap.objs.size)) (PIE X pins σ tg R) E { s with heap:=s.heap.push { cls:=.type "range",data:=.fields #[.int lo t,.int hi u,.int 1 v] },toks:=tk }:=by
 refine wpAny_pyIter_range (IsRange.new ..) (small_one h1 h2 h3 h4) ?_
 have I1:Inv X pins σ H { s with heap:=s.heap.push { cls:=.type "range",data:=.fields #[.int lo t,.int hi u,.int 1 v] },toks:=tk }:=I.kept λb o e=>Q04 _ e
 refine⟨(s.heap.push { cls:=.type "range",data:=.fields #[.int lo t,.int hi u,.int 1 v] }).objs.size,[(s.heap.push { cls:=.type "range",data:=.fields #[.int lo t,.int hi u,.int 1 v] }).objs.size],_,_,H,rfl,
  I1.kept (t':=tk) λb o e=>Q04 _ e,aeF _ lo (hi - lo).toNat,?_,λb hb=>?_,q⟩
 . have e1:lo+((0:Nat):Int) * 1=lo:=by simp
   have e2:(((hi - lo).toNat:Nat):Int) - ((0:Nat):Int)=Builtin.Range.rangeSize lo hi 1:=by rw[rangeSize_one];split <;> omega
   show IsRangeIter _ _ (lo+((0:Nat):Int) * 1) ((((hi - lo).toNat:Nat):Int) - ((0:Nat):Int)) 1
   rw[e1,e2]
   exact Q0d _ rfl
 . have e:b=(s.heap.push { cls:=.type "range",data:=.fields #[.int lo t,.int hi u,.int 1 v] }).objs.size:=by simpa using hb
   subst e
   exact I1.mq (Q01 _) (I1.hok.fresh (Q01 _))
noncomputable def Xp (ta:TA):TI:=λσ H R=>ta σ H λvs H1=>∃j:Int,vs=[.int j]/\ -(2 ^ 62)<=j/\j<2 ^ 62/\R (qU 0 j.toNat) H1
noncomputable def aeH (ta:TA):TI:=λσ H R=>ta σ H λvs H1=>∃i j:Int,vs=[.int i,.int j]/\(-(2 ^ 62)<=i/\i<2 ^ 62/\ -(2 ^ 62)<=j/\j<2 ^ 62)/\R (qU i (j - i).toNat) H1
theorem wg {a:Expr}{ta:TA}{p pos:Pos}(hg:Gl X "range")(hm:X.mg "range"=none)(ha:PA X [a] ta)(hs:starEach [a] X.env=[(false,eval a X.env)]:=by rfl):PI X tg (.Call (.Name "range" p) [a] [] pos) (Xp ta):=by
 intro pins s σ H R I h
 refine Call_ (k_ I hg hm boot_range (PyProof.Rows.callWith_type1 (aM (ha pos pins s σ H _ I h) λus s1 ⟨vs,H1,I1,r1,q1⟩=>?_) hs rfl))
 obtain⟨j,e,q1,q2,q⟩:=q1
 subst e
 cases r1 with
 |cons r rr=>
  cases rr
  obtain⟨t,rfl⟩:=r
  exact call_range_1 (Xo I1 (by omega) (by omega) q1 q2 (by simpa using q))
theorem aeI {a b:Expr}{ta:TA}{p pos:Pos}(hg:Gl X "range")(hm:X.mg "range"=none)(ha:PA X [a,b] ta)(hs:starEach [a,b] X.env=[(false,eval a X.env),(false,eval b X.env)]:=by rfl)(hs2:starEach [b] X.env=[(false,eval b X.env)]:=by rfl):
 PI X tg (.Call (.Name "range" p) [a,b] [] pos) (aeH ta):=by
 intro pins s σ H R I h
 refine Call_ (k_ I hg hm boot_range (PyProof.Rows.callWith_type1 (aM (ha pos pins s σ H _ I h) λus s1 ⟨vs,H1,I1,r1,q1⟩=>?_) (by rw[hs,hs2]) (by rw[hs2];rfl)))
 obtain⟨i,j,e,⟨q1,q2,q3,q4⟩,q⟩:=q1
 subst e
 cases r1 with
 |cons r rr=>
  cases rr with
  |cons r' rr=>
   cases rr
   obtain⟨t,rfl⟩:=r
   obtain⟨t',rfl⟩:=r'
   exact call_range_2 (Xo I1 q1 q2 q3 q4 q)
noncomputable def aeJ (wi:TI) (g:TG) (tb:TS):TS:=λD σ H=>wi σ H λJ H1=>∃W:Nat->Nat->St->Hp->Prop,(∃m,W 0 m σ H1)/\∀i m σ H,W i m σ H->
 (J.stop i H/\D.nx σ H)\/(J.go i H/\∃N:St->Hp->Prop,(∀σ' H',N σ' H'->∃m',m'<m/\W (i+1) m' σ' H')/\∀x H',J.pN i H x H'->g x σ H' λσ2 H2=>tb { D with nx:=N,ct:=N,bk:=D.nx } σ2 H2)
noncomputable def zU (fp:List Addr) (h:Heap):List (Addr × Obj):=fp.filterMap λb=>(h.get? b).map λo=>(b,o)
theorem wj {fp:List Addr}{h:Heap}{b:Addr}{o:Obj}(hb:b∈fp)(e:h.get? b=some o):(b,o)∈zU fp h:=List.mem_filterMap.mpr ⟨b,hb,by rw[e];rfl⟩
theorem aeK {fp:List Addr}{h:Heap}{p:Addr × Obj}(hp:p∈zU fp h):p.1∈fp/\h.get? p.1=some p.2:=by
 obtain⟨b,hb,e⟩:=List.mem_filterMap.mp hp
 cases q:h.get? b with
 |none=>rw[q] at e;cases e
 |some o=>
  rw[q] at e
  have e':(b,o)=p:=Option.some.inj e
  subst e'
  exact⟨hb,q⟩
theorem Inv.pinned {pins:List (Addr × Obj)}{σ:St}{H:Hp}{s:Shared}{fp:List Addr}(I:Inv X pins σ H s)(hf:∀b∈fp,fW X pins H b)(ho:∀b∈fp,∃o,s.heap.get? b=some o/\∀v,o.data≠ .cell v):Inv X (pins++zU fp s.heap) σ H s:=
 I.qO λp hp=>(List.mem_append.mp hp).elim (λz=>I.pin p (Q0e _ z)) λz=>by
   obtain⟨hb,e⟩:=aeK z
   obtain⟨f0,f1,f2,_⟩:=hf p.1 hb
   obtain⟨o,e',d⟩:=ho p.1 hb
   rw[e] at e';cases e'
   exact⟨e,f0,f1,f2,d⟩
theorem Inv.pP {pins pl:List (Addr × Obj)}{σ:St}{H:Hp}{s:Shared}(I:Inv X (pins++pl) σ H s):Inv X pins σ H s:=I.qO λp hp=>I.pin p (Q0e _ (Q1n _ hp))
theorem jt {iter:Expr}{body:List Stmt}{wi:TI}{g:TG}{tb:TS}{pos:Pos}(hp:PassesOwn (model X.prog X.w) X.A X.env X.xe)(hc:X.calm=true)(hi:PI X tg iter wi)(hg:PG X tg g)(hb:fQ X body tb)
 (hs:∀x,foldedSetIterable iter X.env x=pure x:=by intro _;rfl):PS X (.For tg iter body [] pos) (aeJ wi g tb):=by
 intro pins s σ H D I h
 refine wpAny_For (aM (hi pins s σ H _ I h) λv s1 h1=>aM h1 λitv s2 h2=>?_) hs
 obtain⟨it,fp,tn,J,H2,e,I2,T,st2,f2,W,⟨m0,w0⟩,turn⟩:=h2
 subst e
 have stat:∀{H':Hp},(∀b∈fp,H' b=none)->∀b∈fp,fW X pins H' b:=λhn b hb=>⟨hn b hb,(f2 b hb).2⟩
 refine codeAny_forLoop_any (λn s'=>∃i σ' H',Inv X pins σ' H' s'/\tn i s'.heap/\(∀b∈fp,H' b=none)/\W i n σ' H') ?_ m0 ⟨0,σ,H2,I2,st2,λb hb=>(f2 b hb).1,w0⟩
 rintro n s3 ⟨i,σ3,H3,I3,st3,zV,w3⟩
 rcases turn i n σ3 H3 w3 with⟨stop,qn⟩|⟨go,N,hN,step⟩
 . refine wpAny_passesOwn hp (aM (T.done X rfl rfl rfl hc i pins s3 σ3 H3 X.xe I3 (stat zV) st3 stop) λr s4 ⟨hr,I4⟩=>?_)
   subst hr
   exact wpAny_execs_nil ⟨σ3,H3,I4,qn⟩
 . refine wpAny_passesOwn hp (aM (T.item X rfl rfl rfl hc i pins s3 σ3 H3 X.xe I3 (stat zV) st3 go) λr s4 ⟨u,hr,h4⟩=>?_)
   subst hr
   refine wpAny_passesOwn hp (aM h4 λ_ s5 ⟨x,H5,I5,r5,y5,Gj,fr5⟩=>?_)
   have I5':=I5.pinned (stat fr5) (T.obj _ _ Gj)
   refine wpAny_passesOwn hp (aM (hg _ s5 σ3 H5 x u _ I5' r5 (step x H5 y5)) λ_ s6 ⟨σ6,H6,I6,q6⟩=>?_)
   refine wpAny_passesOwn hp (aM (hb _ s6 σ6 H6 _ I6 q6) λf s7 q7=>?_)
   have again:∀{σ7:St} {H7:Hp},Inv X (pins++zU fp s5.heap) σ7 H7 s7->N σ7 H7->∃m,m<n/\∃i σ' H',Inv X pins σ' H' s7/\tn i s7.heap/\(∀b∈fp,H' b=none)/\W i m σ' H':=λ{σ7 H7} I7 n7=>by
    obtain⟨m',hm,w7⟩:=hN σ7 H7 n7
    refine⟨m',hm,i+1,σ7,H7,I7.pP,T.keep _ _ _ Gj λb hb o e=>(I7.pin (b,o) (Q0e _ (Q0e _ (wj hb e)))).1,λb hb=>?_,w7⟩
    obtain⟨o,e,d⟩:=T.obj _ _ Gj b hb
    exact(I7.pin (b,o) (Q0e _ (Q0e _ (wj hb e)))).2.1
   cases f with
   |next=>obtain⟨σ7,H7,I7,n7⟩:=q7;exact again I7 n7
   |cont=>obtain⟨σ7,H7,I7,n7⟩:=q7;exact again I7 n7
   |brk=>obtain⟨σ7,H7,I7,q7⟩:=q7;exact⟨σ7,H7,I7.pP,q7⟩
   |ret v=>obtain⟨x7,σ7,H7,I7,r7,q7⟩:=q7;exact⟨x7,σ7,H7,I7.pP,r7,q7⟩
end
theorem zW {K:PySem.W.Frag}{a:Addr}{xs:List V}{g:TG}{tb:TS}{D:Ends}{σ:St}{H:Hp}(Pv:Nat->St->Hp->Prop)(h0:Pv 0 σ H)(hl:∀i σ H,i<=xs.length->Pv i σ H->aC K H a xs)
 (hs:∀i x σ H,xs[i]? =some x->Pv i σ H->g x σ H λσ2 H2=>tb { D with nx:=Pv (i+1),ct:=Pv (i+1),bk:=D.nx } σ2 H2) (hd:∀σ H,Pv xs.length σ H->D.nx σ H):
 ∃W:Nat->Nat->St->Hp->Prop,(∃m,W 0 m σ H)/\∀i m σ H,W i m σ H->
  ((v8 K a).stop i H/\D.nx σ H)\/((v8 K a).go i H/\∃N:St->Hp->Prop,(∀σ' H',N σ' H'->∃m',m'<m/\W (i+1) m' σ' H')/\∀x H',(v8 K a).pN i H x H'->g x σ H' λσ2 H2=>tb { D with nx:=N,ct:=N,bk:=D.nx } σ2 H2):=by
 refine⟨λi m σ H=>m=xs.length - i/\i<=xs.length/\Pv i σ H,⟨xs.length,by simp,Q0b _,h0⟩,?_⟩
 rintro i m σ H ⟨rfl,hi,p⟩
 have q:=hl i σ H hi p
 by_cases hlt:i<xs.length
 . refine .inr ⟨⟨xs,xs[i],q,by simp[hlt]⟩,Pv (i+1),λσ' H' p'=>⟨xs.length - (i+1),by omega,rfl,hlt,p'⟩,λx H' y=>?_⟩
   obtain⟨e,y⟩:=y
   subst e
   exact hs i x σ _ (y xs q) p
 . have e:i=xs.length:=by omega
   subst e
   exact .inl ⟨⟨xs,q,Q01 _⟩,hd σ H p⟩
theorem zX {K:PySem.W.Frag}{a:Addr}{xs:List V}{g:TG}{tb:TS}{D:Ends}{σ:St}{H:Hp}(Pv:Nat->St->Hp->Prop)(h0:Pv 0 σ H)(hl:∀i σ H,i<=xs.length->Pv i σ H->aH K H a xs)
 (hs:∀i x σ H,xs[i]? =some x->Pv i σ H->g x σ H λσ2 H2=>tb { D with nx:=Pv (i+1),ct:=Pv (i+1),bk:=D.nx } σ2 H2) (hd:∀σ H,Pv xs.length σ H->D.nx σ H):
 ∃W:Nat->Nat->St->Hp->Prop,(∃m,W 0 m σ H)/\∀i m σ H,W i m σ H->
  ((v9 K a).stop i H/\D.nx σ H)\/((v9 K a).go i H/\∃N:St->Hp->Prop,(∀σ' H',N σ' H'->∃m',m'<m/\W (i+1) m' σ' H')/\∀x H',(v9 K a).pN i H x H'->g x σ H' λσ2 H2=>tb { D with nx:=N,ct:=N,bk:=D.nx } σ2 H2):=by
 refine⟨λi m σ H=>m=xs.length - i/\i<=xs.length/\Pv i σ H,⟨xs.length,by simp,Q0b _,h0⟩,?_⟩
 rintro i m σ H ⟨rfl,hi,p⟩
 have q:=hl i σ H hi p
 by_cases hlt:i<xs.length
 . refine .inr ⟨⟨xs,xs[i],q,by simp[hlt]⟩,Pv (i+1),λσ' H' p'=>⟨xs.length - (i+1),by omega,rfl,hlt,p'⟩,λx H' y=>?_⟩
   obtain⟨e,y⟩:=y
   subst e
   exact hs i x σ _ (y xs q) p
 . have e:i=xs.length:=by omega
   subst e
   exact .inl ⟨⟨xs,q,Q01 _⟩,hd σ H p⟩
theorem Gk {lo:Int}{n:Nat}{g:TG}{tb:TS}{D:Ends}{σ:St}{H:Hp}(Pv:Nat->St->Hp->Prop)(h0:Pv 0 σ H)
 (hs:∀i σ H,i<n->Pv i σ H->g (.int (lo+i)) σ H λσ2 H2=>tb { D with nx:=Pv (i+1),ct:=Pv (i+1),bk:=D.nx } σ2 H2) (hd:∀σ H,Pv n σ H->D.nx σ H):
 ∃W:Nat->Nat->St->Hp->Prop,(∃m,W 0 m σ H)/\∀i m σ H,W i m σ H->
  ((qU lo n).stop i H/\D.nx σ H)\/((qU lo n).go i H/\∃N:St->Hp->Prop,(∀σ' H',N σ' H'->∃m',m'<m/\W (i+1) m' σ' H')/\∀x H',(qU lo n).pN i H x H'->g x σ H' λσ2 H2=>tb { D with nx:=N,ct:=N,bk:=D.nx } σ2 H2):=by
 refine⟨λi m σ H=>m=n - i/\i<=n/\Pv i σ H,⟨n,by simp,Q0b _,h0⟩,?_⟩
 rintro i m σ H ⟨rfl,hi,p⟩
 by_cases hlt:i<n
 . refine .inr ⟨hlt,Pv (i+1),λσ' H' p'=>⟨n - (i+1),by omega,rfl,hlt,p'⟩,λx H' y=>?_⟩
   obtain⟨e,y⟩:=y
   subst e y
   exact hs i σ _ hlt p
 . have e:i=n:=by omega
   subst e
   exact .inl ⟨Q01 _,hd σ H p⟩
noncomputable abbrev R2:=V->V->Hp->VK->Prop
noncomputable def dN (X:Cx) (f:Value->Value->Sem Value) (r:R2):Prop:=
 ∀(pins:List (Addr × Obj)) (s:Shared) (σ:St) (H:Hp) (x y:V) (v u:Value) (Q:VK),Inv X pins σ H s->RelV x v->RelV y u->r x y H Q->
  wpAny (model X.prog X.w) X.A (f v u) (EP X pins σ Q) X.xe s
noncomputable def Gm (X:Cx) (f:Value->Sem Value) (r:V->Hp->VK->Prop):Prop:=
 ∀(pins:List (Addr × Obj)) (s:Shared) (σ:St) (H:Hp) (x:V) (v:Value) (Q:VK),Inv X pins σ H s->RelV x v->r x H Q->
  wpAny (model X.prog X.w) X.A (f v) (EP X pins σ Q) X.xe s
noncomputable def gU (X:Cx) (f:Value) (r:List V->Hp->VK->Prop):Prop:=
 ∀(pins:List (Addr × Obj)) (s:Shared) (σ:St) (H:Hp) (xs:List V) (us:List Value) (Q:VK),Inv X pins σ H s->Vals xs us->r xs H Q->
  wpAny (model X.prog X.w) X.A (call f us) (EP X pins σ Q) X.xe s
noncomputable def bL (r:R2) (ta tb:TE):TE:=λσ H Q=>ta σ H λx H1=>tb σ H1 λy H2=>r x y H2 Q
noncomputable def tUn (r:V->Hp->VK->Prop) (ta:TE):TE:=λσ H Q=>ta σ H λx H1=>r x H1 Q
noncomputable def rI (C:Int->Int->Prop) (g:Int->Int->V):R2:=λx y H Q=>∃i j,x=.int i/\y=.int j/\C i j/\Q (g i j) H
noncomputable def qW (g:Int->Int->V):R2:=λx y H Q=>∃i j,x=.int i/\y=.int j/\Q (g i j) H
noncomputable def rU (g:Int->V):V->Hp->VK->Prop:=λx H Q=>∃i,x=.int i/\Q (g i) H
section
variable {X:Cx}{a b c:Expr}{ta tb tc:TE}{pos:Pos}
theorem Gn (ha:PE X a ta)(hb:PE X b tb){pins:List (Addr × Obj)}{s:Shared}{σ:St}{H:Hp}{R:V->V->Hp->Prop}(I:Inv X pins σ H s)
 (h:ta σ H λx H1=>tb σ H1 λy H2=>R x y H2) {Q:Value->Shared->Prop} {f:Value->Value->Sem Value}
 (hf:∀v u s2 x y H2,Inv X pins σ H2 s2->RelV x v->RelV y u->R x y H2->wpAny (model X.prog X.w) X.A (f v u) Q X.xe s2):
 wpAny (model X.prog X.w) X.A (eval a X.env) (λv s₁=>wpAny (model X.prog X.w) X.A (eval b X.env) (λu s₂=>wpAny (model X.prog X.w) X.A (f v u) Q X.xe s₂) X.xe s₁) X.xe s:=by
 refine aM (ha pins s σ H _ I h) λv s1 ⟨x,H1,I1,r1,q1⟩=>?_
 refine aM (hb pins s1 σ H1 _ I1 q1) λu s2 ⟨y,H2,I2,r2,q2⟩=>?_
 exact hf v u s2 x y H2 I2 r1 r2 q2
theorem aU {op:Operator}{r:R2}(ho:dN X (binaryOp op) r)(ha:PE X a ta)(hb:PE X b tb):PE X (.BinOp a op b pos) (bL r ta tb):=by
 intro pins s σ H Q I h
 exact wpAny_BinOp (Gn ha hb I h λv u s2 x y H2 I2 rx ry q=>ho pins s2 σ H2 x y v u Q I2 rx ry q)
theorem nM {op:UnaryOp}{r:V->Hp->VK->Prop}(ho:Gm X (unaryOp op) r)(ha:PE X a ta):PE X (.UnaryOp op a pos) (tUn r ta):=by
 intro pins s σ H Q I h
 exact UnaryOp_ (aM (ha pins s σ H _ I h) λv s1 ⟨x,H1,I1,r1,q1⟩=>ho pins s1 σ H1 x v Q I1 r1 q1)
theorem zY {f:Value->Value->Sem Value}{C:Int->Int->Prop}{g:Int->Int->Int}
 (rule:∀(i j:Int) (t u:Tok) (s:Shared) (Q:Value->Shared->Prop) (E:Value->Shared->Prop),C i j->Q (.int (g i j) s.toks) { s with toks:=s.toks+1 }->wpAny (model X.prog X.w) X.A (f (.int i t) (.int j u)) Q E s):
 dN X f (rI C λi j=>.int (g i j)):=by
 intro pins s σ H x y v u Q I rx ry h
 obtain⟨i,j,rfl,rfl,hc,q⟩:=h
 obtain⟨t,rfl⟩:=rx
 obtain⟨t',rfl⟩:=ry
 exact rule i j t t' s _ _ hc ⟨.int (g i j),H,I.tok _,⟨_,rfl⟩,q⟩
theorem Xq {f:Value->Value->Sem Value}{g:Int->Int->Int}
 (rule:∀(i j:Int) (t u:Tok) (s:Shared) (Q:Value->Shared->Prop) (E:Value->Shared->Prop),Q (.int (g i j) s.toks) { s with toks:=s.toks+1 }->wpAny (model X.prog X.w) X.A (f (.int i t) (.int j u)) Q E s):
 dN X f (qW λi j=>.int (g i j)):=by
 intro pins s σ H x y v u Q I rx ry h
 obtain⟨i,j,rfl,rfl,q⟩:=h
 obtain⟨t,rfl⟩:=rx
 obtain⟨t',rfl⟩:=ry
 exact rule i j t t' s _ _ ⟨.int (g i j),H,I.tok _,⟨_,rfl⟩,q⟩
theorem Gp {f:Value->Value->Sem Value}{g:Int->Int->Bool}
 (rule:∀(i j:Int) (t u:Tok) (s:Shared) (Q:Value->Shared->Prop) (E:Value->Shared->Prop),Q (.bool (g i j)) s->wpAny (model X.prog X.w) X.A (f (.int i t) (.int j u)) Q E s):
 dN X f (qW λi j=>.bl (g i j)):=by
 intro pins s σ H x y v u Q I rx ry h
 obtain⟨i,j,rfl,rfl,q⟩:=h
 obtain⟨t,rfl⟩:=rx
 obtain⟨t',rfl⟩:=ry
 exact rule i j t t' s _ _ ⟨.bl (g i j),H,I,rfl,q⟩
noncomputable def Xr (i j:Int):Prop:=0<j/\j<1073741824
noncomputable def Gq (i j:Int):Prop:=0<=j/\j<=1000000/\i.natAbs<2 ^ 64
noncomputable def Gr (i j:Int):Prop:=(-(2 ^ 64)<i/\i<2 ^ 64)\/(-(2 ^ 64)<j/\j<2 ^ 64)
theorem Gr.ok {i j:Int}(h:Gr i j):IntMulOk i j:=by
 rcases h with⟨h1,h2⟩|⟨h1,h2⟩
 . exact .of_left (intBits_le_64 h1 h2)
 . exact .of_right (intBits_le_64 h1 h2)
theorem mz:dN X (binaryOp .Add) (qW λi j=>.int (i+j)):=Xq λ_ _ _ _ _ _ _ q=>add_int q
theorem Gs:dN X (binaryOp .Sub) (qW λi j=>.int (i - j)):=Xq λ_ _ _ _ _ _ _ q=>sub_int q
theorem mC:dN X (binaryOp .Mult) (rI Gr λi j=>.int (i * j)):=zY λ_ _ _ _ _ _ _ hc q=>mul_int q hc.ok
theorem ju:dN X (binaryOp .FloorDiv) (rI Xr λi j=>.int (i / j)):=zY λi j _ _ _ _ _ hc q=>by
 have h1:(0:Int)<j:=hc.1
 have h2:j<1073741824:=hc.2
 exact floordiv_int (by omega) (by rw[Int.fdiv_eq_ediv_of_nonneg i (by omega)];exact q) (.inl (PyProof.noPylong_small (by omega)))
theorem dh:dN X (binaryOp .Mod) (rI (λ_ j=>0<j) λi j=>.int (i % j)):=zY λi j _ _ _ _ _ hc q=>by
 have h1:(0:Int)<j:=hc
 exact mod_int' (by omega) (by rw[Int.fmod_eq_emod_of_nonneg i (by omega)];exact q)
theorem zZ:dN X (binaryOp .Pow) (rI Gq λi j=>.int (i ^ j.toNat)):=zY λ_ _ _ _ _ _ _ hc q=>pow_int_small hc.1 hc.2.1 hc.2.2 q
theorem unI {f:Value->Sem Value}{g:Int->Int}
 (rule:∀(i:Int) (t:Tok) (s:Shared) (Q:Value->Shared->Prop) (E:Value->Shared->Prop),Q (.int (g i) s.toks) { s with toks:=s.toks+1 }->wpAny (model X.prog X.w) X.A (f (.int i t)) Q E s):
 Gm X f (rU λi=>.int (g i)):=by
 intro pins s σ H x v Q I rx h
 obtain⟨i,rfl,q⟩:=h
 obtain⟨t,rfl⟩:=rx
 exact rule i t s _ _ ⟨.int (g i),H,I.tok _,⟨_,rfl⟩,q⟩
theorem nO:Gm X (unaryOp .USub) (rU λi=>.int (-i)):=unI λ_ _ _ _ _ q=>neg_int q
end
noncomputable def nQ:V->V->Bool
 | .non,.non=>true| .non,.int _=>true| .int _,.non=>true| .non,.bl _=>true| .bl _,.non=>true| .non,.str _=>true| .str _,.non=>true
 | .int _,.int _=>true| .bl _,.bl _=>true| .str _,.str _=>true| .jR _,.jR _=>true
 | .int _,.str _=>true| .str _,.int _=>true| .bl _,.str _=>true| .str _,.bl _=>true
 |_,_=>false
noncomputable def tD:R2:=λx y H Q=>nQ x y=true/\Q (.bl (decide (x=y))) H
noncomputable def rNe:R2:=λx y H Q=>nQ x y=true/\Q (.bl (!decide (x=y))) H
theorem Xu {i j:Int}:decide (V.int i=V.int j)=(i == j):=by
 rw[Bool.eq_iff_iff]
 simp
theorem Xv {i j:Bool}:decide (V.bl i=V.bl j)=(i == j):=by
 rw[Bool.eq_iff_iff]
 simp
theorem Xw {i j:Str}:decide (V.str i=V.str j)=(i == j):=by
 rw[Bool.eq_iff_iff]
 simp
theorem Xx {i j:Array UInt8}:decide (V.jR i=V.jR j)=(i.toList == j.toList):=by
 rw[Bool.eq_iff_iff]
 cases i
 cases j
 simp
section
variable {X:Cx}{a b c:Expr}{ta tb tc:TE}{pos:Pos}
theorem cX {pins:List (Addr × Obj)}{σ:St}{H:Hp}{s:Shared}{Q:VK}{k k':Bool}(I:Inv X pins σ H s)(q:Q (.bl k) H)(e:k=k'):EP X pins σ Q (.bool k') s:=by
 subst e
 exact⟨.bl k,H,I,rfl,q⟩
theorem bF:dN X (compareOp .Eq) tD:=by
 intro pins s σ H x y v u Q I rx ry h
 obtain⟨hs,q⟩:=h
 cases x with
 |non=>
  cases rx
  cases y with
  |non=>cases ry;exact PySem.EqNone.eq_none_none (cX I q (by simp))
  |bl j=>cases ry;exact PySem.EqNone.eq_none_bool (cX I q (by simp))
  |int j=>obtain⟨t',rfl⟩:=ry;exact PySem.EqNone.eq_none_int (cX I q (by simp))
  |str j=>obtain⟨t',rfl⟩:=ry;exact PySem.EqNone.eq_none_str (cX I q (by simp))
  |_=>exact absurd (show false=true from hs) Bool.false_ne_true
 |bl i=>
  cases rx
  cases y with
  |non=>cases ry;exact PySem.EqNone.eq_bool_none (cX I q (by simp))
  |bl j=>cases ry;exact eq_bool (cX I q Xv)
  |str j=>obtain⟨t',rfl⟩:=ry;exact PySem.EqMixed.eq_bool_str (cX I q (by simp))
  |_=>exact absurd (show false=true from hs) Bool.false_ne_true
 |int i=>
  obtain⟨t,rfl⟩:=rx
  cases y with
  |non=>cases ry;exact PySem.EqNone.eq_int_none (cX I q (by simp))
  |int j=>obtain⟨t',rfl⟩:=ry;exact eq_int (cX I q Xu)
  |str j=>obtain⟨t',rfl⟩:=ry;exact PySem.EqMixed.eq_int_str (cX I q (by simp))
  |_=>exact absurd (show false=true from hs) Bool.false_ne_true
 |str i=>
  obtain⟨t,rfl⟩:=rx
  cases y with
  |non=>cases ry;exact PySem.EqNone.eq_str_none (cX I q (by simp))
  |bl j=>cases ry;exact PySem.EqMixed.eq_str_bool (cX I q (by simp))
  |int j=>obtain⟨t',rfl⟩:=ry;exact PySem.EqMixed.eq_str_int (cX I q (by simp))
  |str j=>obtain⟨t',rfl⟩:=ry;exact eq_str (cX I q Xw)
  |_=>exact absurd (show false=true from hs) Bool.false_ne_true
 |jR i=>
  obtain⟨t,rfl⟩:=rx
  cases y with
  |jR j=>obtain⟨t',rfl⟩:=ry;exact W.eq_bytes (cX I q Xx)
  |_=>exact absurd (show false=true from hs) Bool.false_ne_true
 |_=>cases y <;> exact absurd (show false=true from hs) Bool.false_ne_true
theorem pQ:dN X (compareOp .NotEq) rNe:=by
 intro pins s σ H x y v u Q I rx ry h
 obtain⟨hs,q⟩:=h
 cases x with
 |non=>
  cases rx
  cases y with
  |non=>cases ry;exact PySem.EqNone.ne_none_none (cX I q (by simp))
  |bl j=>cases ry;exact PySem.EqNone.ne_none_bool (cX I q (by simp))
  |int j=>obtain⟨t',rfl⟩:=ry;exact PySem.EqNone.ne_none_int (cX I q (by simp))
  |str j=>obtain⟨t',rfl⟩:=ry;exact PySem.EqNone.ne_none_str (cX I q (by simp))
  |_=>exact absurd (show false=true from hs) Bool.false_ne_true
 |bl i=>
  cases rx
  cases y with
  |non=>cases ry;exact PySem.EqNone.ne_bool_none (cX I q (by simp))
  |bl j=>cases ry;exact ne_bool (cX I q (congrArg not Xv))
  |str j=>obtain⟨t',rfl⟩:=ry;exact PySem.EqMixed.ne_bool_str (cX I q (by simp))
  |_=>exact absurd (show false=true from hs) Bool.false_ne_true
 |int i=>
  obtain⟨t,rfl⟩:=rx
  cases y with
  |non=>cases ry;exact PySem.EqNone.ne_int_none (cX I q (by simp))
  |int j=>obtain⟨t',rfl⟩:=ry;exact ne_int (cX I q (congrArg not Xu))
  |str j=>obtain⟨t',rfl⟩:=ry;exact PySem.EqMixed.ne_int_str (cX I q (by simp))
  |_=>exact absurd (show false=true from hs) Bool.false_ne_true
 |str i=>
  obtain⟨t,rfl⟩:=rx
  cases y with
  |non=>cases ry;exact PySem.EqNone.ne_str_none (cX I q (by simp))
  |bl j=>cases ry;exact PySem.EqMixed.ne_str_bool (cX I q (by simp))
  |int j=>obtain⟨t',rfl⟩:=ry;exact PySem.EqMixed.ne_str_int (cX I q (by simp))
  |str j=>obtain⟨t',rfl⟩:=ry;exact ne_str (cX I q (congrArg not Xw))
  |_=>exact absurd (show false=true from hs) Bool.false_ne_true
 |jR i=>
  obtain⟨t,rfl⟩:=rx
  cases y with
  |jR j=>obtain⟨t',rfl⟩:=ry;exact W.ne_bytes (cX I q (congrArg not Xx))
  |_=>exact absurd (show false=true from hs) Bool.false_ne_true
 |_=>cases y <;> exact absurd (show false=true from hs) Bool.false_ne_true
theorem Gu:dN X (compareOp .Lt) (qW λi j=>.bl (decide (i<j))):=Gp λ_ _ _ _ _ _ _ q=>lt_int q
theorem aeQ:dN X (compareOp .LtE) (qW λi j=>.bl (decide (i<=j))):=Gp λ_ _ _ _ _ _ _ q=>le_int q
theorem wu:dN X (compareOp .Gt) (qW λi j=>.bl (decide (j<i))):=Gp λ_ _ _ _ _ _ _ q=>gt_int q
theorem tE:dN X (compareOp .Is) (λx y H Q=>y=.non/\Q (.bl (decide (x=.non))) H):=by
 intro pins s σ H x y v u Q I rx ry h
 obtain⟨rfl,q⟩:=h
 cases ry
 refine is_none_gen (cX I q ?_)
 cases x <;> first
  |(cases rx;rfl)
  |(obtain⟨t,rfl⟩:=rx;rfl)
theorem z7:dN X (compareOp .IsNot) (λx y H Q=>y=.non/\Q (.bl (!decide (x=.non))) H):=by
 intro pins s σ H x y v u Q I rx ry h
 obtain⟨rfl,q⟩:=h
 cases ry
 refine isnot_none_gen (cX I q ?_)
 cases x <;> first
  |(cases rx;rfl)
  |(obtain⟨t,rfl⟩:=rx;rfl)
theorem aQ (b:Expr){op:CmpOp}(h:op≠ .In:=by decide)(h2:op≠ .NotIn:=by decide):behindInMarks op b=false:=by
 have e1:(op == CmpOp.In)=false:=by cases op <;> first|rfl|exact absurd rfl h
 have e2:(op == CmpOp.NotIn)=false:=by cases op <;> first|rfl|exact absurd rfl h2
 cases b <;> simp[behindInMarks,e1,e2]
theorem lC {op:CmpOp}{r:R2}(ho:dN X (compareOp op) r)(ha:PE X a ta)(hb:PE X b tb)(hm:behindInMarks op b=false):PE X (.Compare a [op] [b] pos) (bL r ta tb):=by
 intro pins s σ H Q I h
 exact wpAny_Compare1 (Gn ha hb I h λv u s2 x y H2 I2 rx ry q=>ho pins s2 σ H2 x y v u Q I2 rx ry q) hm
noncomputable def mF (t:TE):TT:=λσ H Q=>t σ H λx H'=>∃k,x=.bl k/\Q k H'
theorem aV {op:CmpOp}{r:R2}(ho:dN X (compareOp op) r)(ha:PE X a ta)(hb:PE X b tb)(hm:behindInMarks op b=false):PT X (.Compare a [op] [b] pos) (mF (bL r ta tb)):=by
 intro pins s σ H Q I h
 refine wpAny_isTrue_Compare1 (aM (ha pins s σ H _ I h) λv s1 ⟨x,H1,I1,r1,q1⟩=>aM (hb pins s1 σ H1 _ I1 q1) λu s2 ⟨y,H2,I2,r2,q2⟩=>
  aM (ho pins s2 σ H2 x y v u _ I2 r1 r2 q2) λc s3 ⟨z,H3,I3,r3,k,e,q3⟩=>?_) hm
 subst e
 cases r3
 exact wpAny_truthy_bool ⟨H3,I3,q3⟩
theorem tG:(sizeLine:Nat)<2 ^ 63:=by rw[sizeLine_eq];decide
theorem wz:dN X (binaryOp .Add) (λx y H Q=>∃i j,x=.str i/\y=.str j/\i.length+j.length<=sizeLine/\Q (.str (i++j)) H):=by
 intro pins s σ H x y v u Q I rx ry h
 obtain⟨i,j,rfl,rfl,hz,q⟩:=h
 obtain⟨t,rfl⟩:=rx
 obtain⟨t',rfl⟩:=ry
 exact add_str (λt' tk=>⟨.str (i++j),H,I.tok _,⟨_,rfl⟩,q⟩) hz
theorem vals1 {x:V}{us:List Value}(r:Vals [x] us):∃u,us=[u]/\RelV x u:=by
 cases r with
 |cons r1 r2=>cases r2;exact⟨_,rfl,r1⟩
theorem vals2 {x y:V}{us:List Value}(r:Vals [x,y] us):∃u w',us=[u,w']/\RelV x u/\RelV y w':=by
 cases r with
 |cons r1 r2=>
  cases r2 with
  |cons r3 r4=>cases r4;exact⟨_,_,rfl,r1,r3⟩
theorem aeR:gU X (.type "int") (λxs H Q=>(∃i,xs=[.int i]/\Q (.int i) H)\/∃k,xs=[.bl k]/\Q (.int (if k then 1 else 0)) H):=by
 intro pins s σ H xs us Q I r h
 rcases h with⟨i,rfl,q⟩|⟨k,rfl,q⟩
 . obtain⟨u,rfl,t,rfl⟩:=vals1 r
   exact call_int_int ⟨.int i,H,I,⟨_,rfl⟩,q⟩
 . obtain⟨u,rfl,r1⟩:=vals1 r
   cases r1
   exact call_int_bool ⟨.int (if k then 1 else 0),H,I.tok _,⟨_,rfl⟩,q⟩
end
structure qX (h:Heap) (x dx C:Addr) (mA:Str->Option Value):Prop where
 obj:h.get? x=some (W.instObj C dx)
 ns:h.Ns1 dx mA
 ne:dx≠x
theorem aeS {h:Heap}{dx:Addr}{mA:Str->Option Value}(n:h.Ns1 dx mA):∃od,h.get? dx=some od/\∀name,W.lookIn name od=some (mA name):=by
 obtain⟨o,es,ep,ho,hd,hk,_,hm⟩:=n
 refine⟨o,ho,λname=>?_⟩
 have e:=hm name
 unfold nsFind findBy at e
 rw[<-Q2f] at e
 unfold W.lookIn
 rw[hd]
 dsimp only
 split
 . rename_i y q
   rw[q] at e
   exact congrArg some e
 . rename_i q
   rw[q] at e
   have a:es.toList.any (·.refKey)=false:=by
    rw[List.any_eq_false]
    intro y hy
    obtain⟨z,t,hkey⟩:=hk y (Array.mem_toList_iff.mp hy)
    simp[DictEntry.refKey,hkey]
   have a':¬es.toList.any (·.refKey)=true:=by rw[a];exact Bool.false_ne_true
   rw[if_neg a']
   exact congrArg some e
theorem qX.look {h:Heap}{x dx C:Addr}{mA:Str->Option Value}(I:qX h x dx C mA):∃od,W.InstAt h x (W.instObj C dx) C (some od)/\∀name,W.lookIn name od=some (mA name):=
 let⟨od,ho,hl⟩:=aeS I.ns
 ⟨od,⟨I.obj,rfl,rfl,ho⟩,hl⟩
section
variable {prog:Program}{w:World}{A:Around}{E:Value->Shared->Prop}{s:Shared}{K:W.Frag}{x dx C f:Addr}{mA:Str->Option Value}{name:Str}{v:Value}
theorem get_map {expr:Bool}{Q:Value->Shared->Prop}(X:K.In s.heap)(I:qX s.heap x dx C mA)(hg:W.plainGet K C name=true)(hh:W.hasDictIn K C=true)
 (ha:W.findIn K (.ref C) name=some none) (hv:mA name=some v) (hv':W.handedIn v=true) (h:Q v { s with toks:=s.toks+1 }):
 wpAny (model prog w) A (getAttr (.ref x) name expr) Q E s:=by
 obtain⟨od,J,hl⟩:=I.look
 exact W.get_value X J (W.plainGet_of hg).1 (W.findObj_own hh ha rfl (by rw[hl,hv])) hv' h
theorem aeT {pl:Sem Bool}{Q:Value × List Value->Shared->Prop}(X:K.In s.heap)(I:qX s.heap x dx C mA)(hg:W.plainGet K C name=true)
 (hf:W.findIn K (.ref C) name=some (some (.ref f))) (ht:W.isFn K (.ref f)=true) (hv:mA name=none) (h:Q (.ref f,[.ref x]) s):
 wpAny (model prog w) A (getMethod (.ref x) name pl) Q E s:=by
 obtain⟨od,J,hl⟩:=I.look
 exact W.method_fn X J (W.plainGet_of hg).1 (W.plainGet_of hg).2 hf (beq_iff_eq.mp ht) (by show(W.lookIn name od).map (·.isSome)=some false;rw[hl,hv];rfl) h
theorem aeU {ns:List Str}{Q:Unit->Shared->Prop}(X:K.In s.heap)(I:qX s.heap x dx C mA)
 (hs:W.findIn K (.ref C) "__setattr__"=some (some (.builtin "object.__setattr__"))) (hp:W.plainOver K C=true) (ht:W.takerIn K C name=some none) (hh:W.hasDictIn K C=true)
 (hw:PySem.Within mA ns) (hsz:ns.length<=sizeLine)
 (h:∀h',qX h' x dx C (λy=>if y=name then some v else mA y)->Heap.SameBut dx s.heap h'->Q () { s with heap:=h',toks:=s.toks+2 }):
 wpAny (model prog w) A (setAttr (.ref x) name v) Q E s:=by
 obtain⟨od,J,hl⟩:=I.look
 refine W.set_plain X J hs (W.osa_open (s:={ s with toks:=s.toks+1 }) (r:=none) X J hp ht λb=>?_)
 obtain⟨cd,hc,hd'⟩:=W.any_some hh
 have hx:s.heap.get? x=some ⟨.ref C,some dx,.plain,#[]⟩:=I.obj
 refine Q00 (Q03 (Q00 (Q00 (wpAny_loadPart hx (Q00 (W.Looks.here (s:={ s with toks:=s.toks+1 }) (W.looks_clsIn X hc) ?_))))))
 rw[hd']
 refine Q03 (a:=some dx) (Q00 (Q03 (Q00 ?_)))
 refine wpAny_nsSet1 (s:={ s with toks:=s.toks+1 }) I.ns λh' hn2 hs2=>?_
 obtain⟨oD,esD,epD,hoD,hdD,hcD⟩:=hn2.count (PySem.Within.cons name v hw)
 refine Q00 (wpAny_lookBehind hoD (by rw[hdD];exact pastItsLine_dict (Q0c hcD (by rw[Q0r];omega))) ?_)
 exact Q03 (h _ ⟨(hs2.2 _ (Ne.symm I.ne)).trans I.obj,hn2,I.ne⟩ hs2)
theorem aeV {R:Result->Shared->Prop}{vs:List Value}{kw:List (Str × Value)}(X:K.In s.heap)(hm:W.makesIn K C=true)
 (hi:W.findIn K (.ref C) "__init__"=some (some (.ref f))) (hf:W.typeIn K (.ref f)=some (.type "function"))
 (h:codeAny (model prog w) (A.under (.builtin "type.__call__" ⟨.ref C::vs,kw⟩)) (.call (.ref f) ⟨.ref (s.heap.objs.size+1)::vs,kw⟩) (W.InitBack (s.heap.objs.size+1) R)
   { s with heap:=(s.heap.push W.emptyDict).push (W.instObj C s.heap.objs.size) }):
 codeAny (model prog w) A (.call (.ref C) ⟨vs,kw⟩) R s:=by
 obtain⟨hh,g,d,t,os⟩:=s
 exact W.make_core (W.makes_of X hm) (W.looks_findIn X hi) (λself=>W.bind_fn X self hf) (.inl rfl) h
end
noncomputable def dj (f:Str) (v:V):List (Str × V)->List (Str × V)
 |[]=>[(f,v)]
 |(g,x)::r=>if g=f then(g,v)::r else(g,x)::dj f v r
theorem Xy (f g:Str)(v:V):∀fs:List (Str × V),(dj f v fs).lookup g=if g=f then some v else fs.lookup g
 |[]=>by
  show List.lookup g [(f,v)]=_
  by_cases h:g=f
  . have hb:(g == f)=true:=beq_iff_eq.mpr h
    simp only[List.lookup,hb,if_pos h]
  . have hb:(g == f)=false:=beq_eq_false_iff_ne.mpr h
    simp only[List.lookup,hb,if_neg h]
 |(k,x)::r=>by
  have ih:=Xy f g v r
  rw[show dj f v ((k,x)::r)=(if k=f then(k,v)::r else(k,x)::dj f v r) from rfl]
  by_cases hk:k=f
  . rw[if_pos hk]
    by_cases h:g=k
    . have hb:(g == k)=true:=beq_iff_eq.mpr h
      simp only[List.lookup,hb,if_pos (h.trans hk)]
    . have hb:(g == k)=false:=beq_eq_false_iff_ne.mpr h
      simp only[List.lookup,hb,if_neg (λe:g=f=>h (e.trans hk.symm))]
  . rw[if_neg hk]
    by_cases h:g=k
    . have hb:(g == k)=true:=beq_iff_eq.mpr h
      simp only[List.lookup,hb,if_neg (λe:g=f=>hk (h.symm.trans e))]
    . have hb:(g == k)=false:=beq_eq_false_iff_ne.mpr h
      simp only[List.lookup,hb]
      exact ih
theorem Gv (f:Str)(v:V):∀fs:List (Str × V),f∈(dj f v fs).map (·.1)/\∀g,g∈fs.map (·.1)->g∈(dj f v fs).map (·.1)
 |[]=>⟨by simp[dj],λg h=>by simp at h⟩
 |(k,x)::r=>by
  obtain⟨i1,i2⟩:=Gv f v r
  rw[show dj f v ((k,x)::r)=(if k=f then(k,v)::r else(k,x)::dj f v r) from rfl]
  by_cases hk:k=f
  . rw[if_pos hk]
    subst hk
    exact⟨by simp,λg h=>by simpa using h⟩
  . rw[if_neg hk]
    refine⟨?_,λg h=>?_⟩
    . rw[Q0v]
      exact Q0j _ i1
    . rw[Q0v] at h ⊢
      rcases List.mem_cons.mp h with e|e
      . exact List.mem_cons.mpr (.inl e)
      . exact Q0j _ (i2 g e)
theorem Xz (f:Str)(v:V):∀fs:List (Str × V),(dj f v fs).length<=fs.length+1
 |[]=>by simp[dj]
 |(k,x)::r=>by
  have ih:=Xz f v r
  rw[show dj f v ((k,x)::r)=(if k=f then(k,v)::r else(k,x)::dj f v r) from rfl]
  by_cases hk:k=f
  . rw[if_pos hk,Q0r,Q0r];omega
  . rw[if_neg hk,Q0r,Q0r];omega
theorem gA.some_of {v:V}{o:Option Value}(r:gA (some v) o):∃u,o=some u/\RelV v u:=by
 cases o with
 |none=>exact(show False from r).elim
 |some u=>exact⟨u,rfl,r⟩
theorem gA.none_of {o:Option Value}(r:gA none o):o=none:=by
 cases o with
 |none=>rfl
 |some u=>exact(show False from r).elim
theorem XF {v:V}{u:Value}(r:RelV v u):W.handedIn u=true:=by
 cases v with
 |non=>cases(show u=Value.none from r);rfl
 |bl b=>cases(show u=Value.bool b from r);rfl
 |int i=>obtain⟨t,e⟩:=(show ∃t,u=Value.int i t from r);cases e;rfl
 |str x=>obtain⟨t,e⟩:=(show ∃t,u=Value.str x t from r);cases e;rfl
 |jR b=>obtain⟨t,e⟩:=(show ∃t,u=Value.bytes b t from r);cases e;rfl
 |flt b=>obtain⟨t,e⟩:=(show ∃t,u=Value.float b t from r);cases e;rfl
 |ref a=>cases(show u=Value.ref a from r);rfl
 |ty n=>cases(show u=Value.type n from r);rfl
section
variable {P:Program}{w:World}{H H':Hp}{h h':Heap}{a C dx:Addr}{fs fs':List (Str × V)}
theorem z8 (hok:cL P w H h)(e:H a=some (.ins C dx fs)):∃mA,qX h a dx C mA/\(∀f,gA (fs.lookup f) (mA f))/\PySem.Within mA (fs.map (·.1))/\fs.length<=1000/\H dx=some (.own a):=by
 obtain⟨d,z,ne,ob,mA,n,r,q⟩:=(show cT P w H h a (.ins C dx fs) from hok a _ e)
 exact⟨mA,⟨ob,n,ne⟩,r,q,z,d⟩
end
structure Cls (K:W.Frag) (C:Addr):Prop where
 pg:W.plainGet K C Str.empty=true
 hd:W.hasDictIn K C=true
 po:W.plainOver K C=true
 sa:W.findIn K (.ref C) "__setattr__"=some (some (.builtin "object.__setattr__"))
theorem Cls.get {K:W.Frag}{C:Addr}(c:Cls K C)(f:Str):W.plainGet K C f=true:=c.pg
noncomputable def lD (K:W.Frag) (C:Addr) (f:Str):Prop:=W.findIn K (.ref C) f=some none
theorem lD.taker {K:W.Frag}{C:Addr}{f:Str}(n:lD K C f):W.takerIn K C f=some none:=by
 unfold W.takerIn
 rw[show W.findIn K (.ref C) f=some none from n]
 rfl
structure Meth (K:W.Frag) (C:Addr) (m:Str) (f:Addr):Prop where
 at_:W.findIn K (.ref C) m=some (some (.ref f))
 fn:W.isFn K (.ref f)=true
 kp:W.keepIn K (.ref f)=true
section
variable {X:Cx}{pins:List (Addr × Obj)}{σ:St}{H:Hp}{s:Shared}{a C dx:Addr}{fs:List (Str × V)}{f:Str}{v:V}{A:Around}{E:Value->Shared->Prop}
theorem aeW {b:Bool}{Q:Value->Shared->Prop}(I:Inv X pins σ H s)(e:H a=some (.ins C dx fs))(c:Cls X.K C)(n:lD X.K C f)(l:fs.lookup f=some v)
 (h:∀u s',Inv X pins σ H s'->RelV v u->Q u s'):wpAny (model X.prog X.w) A (getAttr (.ref a) f b) Q E s:=by
 obtain⟨mA,O,r,_,_,_⟩:=z8 I.hok e
 obtain⟨u,hu,ru⟩:=gA.some_of (v:=v) (o:=mA f) (by rw[<-l];exact r f)
 exact get_map I.cM O (c.get f) c.hd n hu (XF ru) (h u _ (I.tok _) ru)
theorem z9 {m:Str}{g:Addr}{pl:Sem Bool}{Q:Value × List Value->Shared->Prop}(I:Inv X pins σ H s)(e:H a=some (.ins C dx fs))(c:Cls X.K C)(k:Meth X.K C m g)(l:fs.lookup m=none)
 (h:Q (.ref g,[.ref a]) s):wpAny (model X.prog X.w) A (getMethod (.ref a) m pl) Q E s:=by
 obtain⟨mA,O,r,_,_,_⟩:=z8 I.hok e
 have hn:mA m=none:=gA.none_of (by rw[<-l];exact r m)
 exact aeT I.cM O (c.get m) k.at_ k.fn hn h
theorem aeX {y:V}{u:Value}{Q:Unit->Shared->Prop}(I:Inv X pins σ H s)(e:H a=some (.ins C dx fs))(c:Cls X.K C)(n:lD X.K C f)(hl:fs.length<1000)(ry:RelV y u)
 (h:∀s',Inv X pins σ (upd H a (.ins C dx (dj f y fs))) s'->Q () s'):wpAny (model X.prog X.w) A (setAttr (.ref a) f u) Q E s:=by
 obtain⟨mA,O,r,wi,_,ho⟩:=z8 I.hok e
 have hz:(fs.map (·.1)).length<=sizeLine:=by rw[Q06,sizeLine_eq];omega
 refine aeU I.cM O c.sa c.po n.taker c.hd wi hz λh' O' sb=>h _ ?_
 have hd:∃o,h'.get? dx=some o:=let⟨o,_,_,e',_⟩:=O'.ns;⟨o,e'⟩
 refine I.write (x:=a) (e:=dx) (by rw[e];exact True.intro) (.inr ho) (λb q hb z=>(sb.2 b hb).trans z) hd ?_
 refine⟨by rw[au O.ne];exact ho,?_,O.ne,O'.obj,_,O'.ns,λg=>?_,λg hg=>?_⟩
 . have:=Xz f y fs;omega
 . show gA ((dj f y fs).lookup g) (if g=f then some u else mA g)
   rw[Xy]
   by_cases q:g=f
   . rw[if_pos q,if_pos q];exact ry
   . rw[if_neg q,if_neg q];exact r g
 . by_cases q:g=f
   . rw[q];exact(Gv f y fs).1
   . refine(Gv f y fs).2 g (wi g λz=>hg ?_)
     show(if g=f then some u else mA g)=none
     rw[if_neg q];exact z
theorem Inv.made (I:Inv X pins σ H s):Inv X pins σ (upd (upd H s.heap.objs.size (.own (s.heap.objs.size+1))) (s.heap.objs.size+1) (.ins C s.heap.objs.size []))
 { s with heap:=(s.heap.push W.emptyDict).push (W.instObj C s.heap.objs.size) }:=by
 have e1:(s.heap.push W.emptyDict).get? s.heap.objs.size=some W.emptyDict:=Q0d s.heap rfl
 have e2:((s.heap.push W.emptyDict).push (W.instObj C s.heap.objs.size)).get? (s.heap.objs.size+1)=some (W.instObj C s.heap.objs.size):=by
  have:=Q0d (s.heap.push W.emptyDict) (o:=W.instObj C s.heap.objs.size) rfl
  rwa [Q0w] at this
 have e3:(s.heap.push W.emptyDict).Ns s.heap.objs.size (λ_=>none):=⟨W.emptyDict,#[],_,e1,rfl,(λe he=>absurd he (by simp)),λ_=>rfl⟩
 have I1:=I.laid (a:=s.heap.objs.size) (o:=.own (s.heap.objs.size+1)) (h':=s.heap.push W.emptyDict) (t':=s.toks) (λb u q=>Q04 _ q) (Q01 _) ⟨_,e1⟩
 refine I1.laid (a:=s.heap.objs.size+1) (o:=.ins C s.heap.objs.size []) (t':=s.toks) (λb u q=>Q04 _ q) (Q1j (Q0w _ _)) ?_
 have ne:s.heap.objs.size≠s.heap.objs.size+1:=Q09 (Q1e _)
 refine⟨by rw[au ne,aF],Q0b _,ne,e2,λ_=>none,(Heap.Ns1.of_empty e3).at λo q=>Q04 _ q,λ_=>True.intro,λy hy=>absurd rfl hy⟩
theorem XH {prog:Program}{w:World}{env:Env}{e:Expr}{f:Str}{pos:Pos}{s:Shared}{Q:Value->Shared->Prop}(hb:attributeBase e f env (eval e env)=eval e env)
 (h:wpAny (model prog w) A (eval e env) (λo s₁=>wpAny (model prog w) A (getAttr o f true) Q E s₁) E s):wpAny (model prog w) A (eval (.Attribute e f pos) env) Q E s:=
 Attribute_any_ h (by rw[arm_eval_Attribute,hb])
end
noncomputable def aeY (K:W.Frag) (ta:TE) (f:Str):TE:=λσ H Q=>ta σ H λx H1=>∃a C dx fs v,x=.ref a/\H1 a=some (.ins C dx fs)/\Cls K C/\lD K C f/\fs.lookup f=some v/\Q v H1
noncomputable def aeZ (K:W.Frag) (ta tv:TE) (f:Str):TS:=λD σ H=>tv σ H λy H1=>ta σ H1 λx H2=>∃a C dx fs,x=.ref a/\H2 a=some (.ins C dx fs)/\Cls K C/\lD K C f/\fs.length<1000/\
 D.nx σ (upd H2 a (.ins C dx (dj f y fs)))
section
variable {X:Cx}{o e value:Expr}{f:Str}{pos pos' tpos:Pos}{ta tv:TE}
theorem cY (he:PE X e ta)(hb:attributeBase e f X.env (eval e X.env)=eval e X.env):PE X (.Attribute e f pos) (aeY X.K ta f):=by
 intro pins s σ H Q I h
 refine XH hb (aM (he pins s σ H _ I h) λu s1 ⟨x,H1,I1,rx,a,C,dx,fs,v,ex,ea,c,n,l,q⟩=>?_)
 subst ex
 obtain rfl:u=Value.ref a:=rx
 exact aeW I1 ea c n l λu' s2 I2 ru=>⟨v,H1,I2,ru,q⟩
theorem tH (ha:PE X o ta)(hv:PE X value tv)(hs:swapsWith value (some (.Attribute o f pos')) pos.line X.env=pure false):PS X (.Assign [.Attribute o f pos'] value pos) (aeZ X.K ta tv f):=by
 intro pins s σ H D I h
 refine plainObj_wpAny_Assign_Attribute (aM (hv pins s σ H _ I h) λu s1 ⟨y,H1,I1,ry,q⟩=>aM (ha pins s1 σ H1 _ I1 q) λov s2 ⟨x,H2,I2,rx,a,C,dx,fs,ex,ea,c,n,l,q2⟩=>?_) hs
 subst ex
 obtain rfl:ov=Value.ref a:=rx
 exact aeX I2 ea c n l ry λs3 I3=>⟨σ,_,I3,q2⟩
end
section
variable {X:Cx}{pins:List (Addr × Obj)}{σ:St}{H:Hp}{s:Shared}{A:Around}{E:Value->Shared->Prop}{Q:Value->Shared->Prop}{c:Value}{b:Bool}
inductive jw (K:W.Frag) (H:Hp):V->Value->Prop where
 |non:jw K H .non (.type "NoneType")
 |bl (x:Bool):jw K H (.bl x) (.type "bool")
 |int (i:Int):jw K H (.int i) (.type "int")
 |str (x:Str):jw K H (.str x) (.type "str")
 |flt (x:UInt64):jw K H (.flt x) (.type "float")
 |lst {a:Addr} {xs:List V} (e:H a=some (.lst xs)):jw K H (.ref a) (.type "list")
 |cu {a:Addr} {o:Obj} {xs:List V} (e:H a=some (.cu o (.lst xs))):jw K H (.ref a) (.type "list")
 |tup {a:Addr} {xs:List V} (e:H a=some (.tup xs)):jw K H (.ref a) (.type "tuple")
 |dK {a:Addr} {kvs:List (Key × V)} (e:H a=some (.dK kvs)):jw K H (.ref a) (.type "dict")
 |dT {a:Addr} {kvs:List (List Key × V)} (e:H a=some (.dT kvs)):jw K H (.ref a) (.type "dict")
 |ins {a C dx:Addr} {fs:List (Str × V)} (e:H a=some (.ins C dx fs)) (cl:Cls K C) (ha:W.findIn K (.ref C) "__class__"=some (some (.builtin "object.__class__")))
   (hn:W.specialIn K (.builtin "object.__class__") "__get__"=some (some (.builtin "getset_descriptor.__get__"))) (htk:W.takesIn K (.builtin "object.__class__")=some true)
   (hm:W.mroIn K C (.type "object")=some true):jw K H (.ref a) (.ref C)
theorem ae0 {x:V}{u t:Value}(I:Inv X pins σ H s)(rx:RelV x u)(ty:jw X.K H x t)(e:W.kitOne X.K t c=some b)(h:∀tk,Q (.bool b) { s with toks:=tk }):
 wpAny (model X.prog X.w) A (call (.builtin "isinstance") [u,c]) Q E s:=by
 cases ty with
 |non=>cases(show u=Value.none from rx);exact W.kia_one W.kitx_none I.cM True.intro e (λz=>nomatch z) h
 |bl y=>cases(show u=Value.bool y from rx);exact W.kia_one W.kitx_bool I.cM True.intro e (λz=>nomatch z) h
 |int i=>obtain⟨t,q⟩:=(show ∃t,u=Value.int i t from rx);cases q;exact W.kia_one W.kitx_int I.cM True.intro e (λz=>nomatch z) h
 |str y=>obtain⟨t,q⟩:=(show ∃t,u=Value.str y t from rx);cases q;exact W.kia_one W.kitx_str I.cM True.intro e (λz=>nomatch z) h
 |flt y=>obtain⟨t,q⟩:=(show ∃t,u=Value.float y t from rx);cases q;exact W.kia_one W.kitx_float I.cM True.intro e (λz=>nomatch z) h
 |@lst a xs ea=>
  cases(show u=Value.ref a from rx)
  obtain⟨_,_,n,_,h1⟩:=(show cT X.prog X.w H s.heap a (.lst xs) from I.hok a _ ea)
  exact W.kia_one W.kitx_list I.cM ⟨_,h1,rfl⟩ e (λz=>nomatch z) h
 |@cu a ob xs ea=>
  cases(show u=Value.ref a from rx)
  obtain⟨_,_,_,n,_,h1⟩:=(show cT X.prog X.w H s.heap a (.cu ob (.lst xs)) from I.hok a _ ea)
  exact W.kia_one W.kitx_list I.cM ⟨_,h1,rfl⟩ e (λz=>nomatch z) h
 |@tup a xs ea=>
  cases(show u=Value.ref a from rx)
  obtain⟨_,_,_,p⟩:=(show cT X.prog X.w H s.heap a (.tup xs) from I.hok a _ ea)
  obtain⟨o,h1,h2,_⟩:=p
  exact W.kia_one W.kitx_tuple I.cM ⟨o,h1,h2⟩ e (λz=>nomatch z) h
 |@dK a kvs ea=>
  cases(show u=Value.ref a from rx)
  obtain⟨_,_,vs,_,p⟩:=(show cT X.prog X.w H s.heap a (.dK kvs) from I.hok a _ ea)
  obtain⟨o,es,ep,h1,h2,_⟩:=p
  exact W.kia_one W.kitx_dict I.cM ⟨o,h1,h2.1⟩ e (λz=>nomatch z) h
 |@dT a kvs ea=>
  cases(show u=Value.ref a from rx)
  obtain⟨_,_,xs,_,o,es,ep,h1,h2,_⟩:=(show cT X.prog X.w H s.heap a (.dT kvs) from I.hok a _ ea)
  exact W.kia_one W.kitx_dict I.cM ⟨o,h1,h2.1⟩ e (λz=>nomatch z) h
 |@ins a C dx fs ea cl ha hn htk hm=>
  cases(show u=Value.ref a from rx)
  obtain⟨mA,O,_⟩:=z8 I.hok ea
  obtain⟨od,J,_⟩:=O.look
  exact W.kia_one (W.kitx_own (cl.get _) cl.hd ha hn htk hm) I.cM J e (λz=>nomatch z) h
end
structure cU (k:Nat) (A:Around):Prop where
 hd:A.handled=none
 dp:A.depth+3 * k+5<recursionLimit
 un:A.units+16 * k+200<cLine
theorem cU.mono {j k:Nat}{A:Around}(r:cU k A)(h:j<=k):cU j A:=⟨r.hd,by have:=r.dp;omega,by have:=r.un;omega⟩
theorem cU.deeper {k:Nat}{A:Around}(r:cU (k+1) A)(env:Env):cU k (A.deeper env):=
 ⟨r.hd,by have:=r.dp;show A.depth+1+3 * k+5<_;omega,by have:=r.un;show A.units+3+16 * k+200<_;omega⟩
theorem ae1 {A:Around}{C:Addr}{us:List Value}{kw:List (Str × Value)}:(A.under (.builtin "type.__call__" ⟨.ref C::us,kw⟩)).depth=A.depth+1:=by
 first|rfl|simp[Around.under,Code.weight,Code.isCreation,Code.isGuard,Code.isCaller,Code.frames,Code.isFrame,guardIds]
theorem ae2 {A:Around}{C:Addr}{us:List Value}{kw:List (Str × Value)}:(A.under (.builtin "type.__call__" ⟨.ref C::us,kw⟩)).units=A.units+1:=by
 first|rfl|simp[Around.under,Code.cUnits,Code.frames,Code.isFrame]
theorem cU.make {k:Nat}{A:Around}(r:cU (k+1) A)(C:Addr)(us:List Value)(kw:List (Str × Value)):cU k (A.under (.builtin "type.__call__" ⟨.ref C::us,kw⟩)):=
 ⟨r.hd,by have:=r.dp;rw[ae1];omega,by have:=r.un;rw[ae2];omega⟩
theorem cU.depth {k:Nat}{A:Around}(r:cU k A):A.depth<recursionLimit:=by have:=r.dp;omega
theorem cU.units {k:Nat}{A:Around}(r:cU k A):A.units+64<cLine:=by have:=r.un;omega
noncomputable def fX:TA:=λ_ H Q=>Q [] H
noncomputable def cA (ta:TE) (tr:TA):TA:=λσ H Q=>ta σ H λx H1=>tr σ H1 λxs H2=>Q (x::xs) H2
section
variable {X:Cx}{e:Expr}{es:List Expr}{te:TE}{t:TA}{pos:Pos}
theorem ak:PA X [] fX:=λ_ _ _ _ H Q I h=>Calls.spliced_nil ⟨[],H,I,.nil,h⟩
theorem aj (ha:PE X e te)(hr:PA X es t)(hs:starEach (e::es) X.env=(false,eval e X.env)::starEach es X.env:=by rfl):PA X (e::es) (cA te t):=by
 intro pos pins s σ H Q I h
 rw[hs]
 show wpAny _ _ (spliced ((false,eval e X.env)::backTo pos (starEach es X.env))) _ _ s
 refine Calls.spliced_cons (aM (ha pins s σ H _ I h) λu s1 ⟨x,H1,I1,r1,q1⟩=>?_)
 exact aM (hr pos pins s1 σ H1 _ I1 q1) λus s2 ⟨xs,H2,I2,r2,q2⟩=>⟨x::xs,H2,I2,.cons r1 r2,q2⟩
noncomputable def pR (t:TA):TE:=λσ H Q=>t σ H λxs H1=>xs.length<=sizeLine/\∀p,H1 p=none->Q (.ref p) (upd H1 p (.tup xs))
noncomputable def XJ (t:TA):TE:=λσ H Q=>t σ H λxs H1=>xs.length<=sizeLine/\∀p,H1 p=none->Q (.ref p) (upd H1 p (.lst xs))
theorem cO {x1}(h:PA X es t):PE X (.Tuple es x1 pos) (pR t):=by
 intro pins s σ H Q I hq
 refine wpAny_Tuple_spliced (aM (h pos pins s σ H _ I hq) λus s1 ⟨xs,H1,I1,r,z,q⟩=>⟨by rw[<-r.length];exact z,?_⟩)
 have hf:H1 s1.heap.objs.size=none:=I1.hok.fresh (Q01 _)
 refine⟨.ref s1.heap.objs.size,upd H1 s1.heap.objs.size (.tup xs),I1.laid (t':=s1.toks) (λb u e=>Q04 _ e) (Q01 _) ?_,rfl,q _ hf⟩
 exact⟨z,us,r,⟨_,Q0d _ rfl,rfl,_,rfl⟩⟩
theorem fu (h:PA X es t):PE X (.List es pos) (XJ t):=by
 intro pins s σ H Q I hq
 refine wpAny_List_spliced (aM (h pos pins s σ H _ I hq) λus s1 ⟨xs,H1,I1,r,z,q⟩=>⟨by rw[<-r.length];exact z,?_⟩)
 have hf:H1 s1.heap.objs.size=none:=I1.hok.fresh (Q01 _)
 refine⟨.ref s1.heap.objs.size,upd H1 s1.heap.objs.size (.lst xs),I1.laid (t':=s1.toks) (λb u e=>Q04 _ e) (Q01 _) ?_,rfl,q _ hf⟩
 exact⟨z,us,0,r,Q0d _ rfl⟩
end
noncomputable abbrev Sp:=List V->Hp->VK->XK->Prop
noncomputable abbrev iB:=List Env->Hp->Shared->XK->Value->Shared->Prop
structure qY (P:Program) (w:World) (K:W.Frag) (mg:Str->Option Value) (base:Heap) (A:Around) (outer:List Env) (s:Shared) (H:Hp):Prop where
 frames:A.frames=some outer
 mod:Mod K mg base
 bs:∀b o,base.get? b=some o->s.heap.get? b=some o/\H b=none
 jo:base.objs.size<=s.heap.objs.size
 iy:s.heap.FunFrames base outer
 lY:∀b∈frs outer,H b=none
 hok:cL P w H s.heap
 bare:AllBare s.gens
noncomputable def CE (outer:List Env) (P:Program) (w:World) (H:Hp) (s:Shared) (Q:VK) (u:Value) (s':Shared):Prop:=
 ∃v H',s'.os=s.os/\AllBare s'.gens/\Un (frs outer) [] H H' s.heap s'.heap/\cL P w H' s'.heap/\RelV v u/\Q v H'
noncomputable def CR (CX:iB) (outer:List Env) (P:Program) (w:World) (H:Hp) (s:Shared) (Q:VK) (E:XK) (r:Result) (s':Shared):Prop:=
 match r with
 | .ok (.ret u)=>CE outer P w H s Q u s'
 | .ok _=>False
 | .error e=>CX outer H s E e s'
structure aq (P:Program) (w:World) (K:W.Frag) (mg:Str->Option Value) (base:Heap) (CX:iB) (k:Nat) (f:Addr) (fd:FuncData) (ps:List Str) (sp:Sp):Prop where
 len:∀vs H Q E,sp vs H Q E->vs.length=ps.length
 run:∀(A:Around) (outer:List Env) (s:Shared) (H:Hp) (args:Args) (us:List Value) (vs:List V) (Q:VK) (E:XK),cU k A->qY P w K mg base A outer s H->BindsTo s fd args (ps.zip us)->Vals vs us->sp vs H Q E->
  codeAny (model P w) A (.call (.ref f) args) (CR CX outer P w H s Q E) s
theorem aq.mono {P:Program}{w:World}{K:W.Frag}{mg:Str->Option Value}{base:Heap}{CX:iB}{j k:Nat}{f:Addr}{fd:FuncData}{ps:List Str}{sp:Sp}(F:aq P w K mg base CX j f fd ps sp)(h:j<=k):
 aq P w K mg base CX k f fd ps sp:=⟨F.len,λA outer s H args us vs Q E hr=>F.run A outer s H args us vs Q E (hr.mono h)⟩
theorem aq.imp {P:Program}{w:World}{K:W.Frag}{mg:Str->Option Value}{base:Heap}{CX:iB}{k:Nat}{f:Addr}{fd:FuncData}{ps:List Str}{sp XM:Sp}(F:aq P w K mg base CX k f fd ps sp)
 (h:∀vs H Q E,XM vs H Q E->sp vs H Q E):aq P w K mg base CX k f fd ps XM:=
 ⟨λvs H Q E q=>F.len vs H Q E (h _ _ _ _ q),λA outer s H args us vs Q E hr he hb hv hs=>F.run A outer s H args us vs Q E hr he hb hv (h _ _ _ _ hs)⟩
theorem qY.make {P:Program}{w:World}{K:W.Frag}{mg:Str->Option Value}{base:Heap}{A:Around}{outer:List Env}{s:Shared}{H:Hp}(e:qY P w K mg base A outer s H)(C:Addr)(us:List Value)(kw:List (Str × Value)):
 qY P w K mg base (A.under (.builtin "type.__call__" ⟨.ref C::us,kw⟩)) outer s H:=⟨by first|exact e.frames|(simpa[Around.under,Code.envs,Code.isFrame,pushEnvs] using e.frames),e.mod,e.bs,e.jo,e.iy,e.lY,e.hok,e.bare⟩
section
variable {X:Cx}{pins:List (Addr × Obj)}{σ:St}{H:Hp}{s s':Shared}
theorem Inv.env0 (I:Inv X pins σ H s):qY X.prog X.w X.K X.mg X.base X.A X.stack s H:=
 ⟨I.ok.frames,I.ok.mod,I.bs,Q0c I.ok.jo I.sz,I.stack,I.v5,I.hok,I.bare⟩
theorem Inv.after {Q:VK}{u:Value}(I:Inv X pins σ H s)(h:CE X.stack X.prog X.w H s Q u s'):EP X pins σ Q u s':=by
 obtain⟨v,H',os,bare,un,hok,r,q⟩:=h
 obtain⟨hh,g,d,t,os'⟩:=s'
 obtain rfl:os'=s.os:=os
 exact⟨v,H',I.call (h':=hh) (g':=g) (d':=d) (t':=t) (ch:=[]) un hok bare (λb z=>absurd z (by simp)),r,q⟩
end
noncomputable def pU (sp:Sp) (eG:List V) (E:XK) (t:TA):TE:=λσ H Q=>t σ H λvs H1=>sp (vs++eG) H1 Q E
noncomputable def z_ (C:Addr) (m:Str) (sp:Sp) (eG:List V) (E:XK) (ta:TE) (t:TA):TE:=λσ H Q=>ta σ H λx H1=>∃a dx fs,x=.ref a/\H1 a=some (.ins C dx fs)/\fs.lookup m=none/\
 t σ H1 λvs H2=>sp (x::(vs++eG)) H2 Q E
noncomputable def ae3 (C:Addr) (sp:Sp) (eG:List V) (E:XK) (t:TA):TE:=λσ H Q=>t σ H λvs H1=>∀x dx,H1 x=none->H1 dx=none->dx≠x->
 sp (.ref x::(vs++eG)) (upd (upd H1 dx (.own x)) x (.ins C dx [])) (λv H2=>v=.non/\Q (.ref x) H2) E
noncomputable def Binds (K:W.Frag) (fd:FuncData) (ps:List Str) (ds:List Value):Prop:=
 ∀(s:Shared) (us:List Value),K.In s.heap->(us++ds).length=ps.length->BindsTo s fd ⟨us,[]⟩ (ps.zip (us++ds))
theorem Binds.all {K:W.Frag}{fd:FuncData}{ps:List Str}(h:∀us:List Value,us.length=ps.length->bindArgs fd ⟨us,[]⟩=pure (ps.zip us)):Binds K fd ps []:=λs us _ hl=>by
 rw[Q0x] at hl ⊢
 exact .of_eq (h us hl)
noncomputable def Passes (CX:iB) (X:Cx) (E:XK):Prop:=∀(pins:List (Addr × Obj)) (σ:St) (H:Hp) (s:Shared) (e:Value) (s':Shared),Inv X pins σ H s->CX X.stack H s E e s'->X.xe e s'
section
variable {X:Cx}{CX:iB}{k:Nat}{f C:Addr}{fd:FuncData}{ps:List Str}{sp:Sp}{eG:List V}{ds:List Value}{E:XK}{x m:Str}{p pos apos:Pos}{e o:Expr}{es:List Expr}{ta:TE}{t:TA}
theorem Gw {pins:List (Addr × Obj)}{σ:St}{H:Hp}{s:Shared}{Q:VK}{us:List Value}{vs:List V}(F:aq X.prog X.w X.K X.mg X.base CX k f fd ps sp)(hr:cU k X.A)(hb:Binds X.K fd ps ds)(hd:Vals eG ds)(hx:Passes CX X E)
 (I:Inv X pins σ H s) (r:Vals vs us) (h:sp (vs++eG) H Q E):wpAny (model X.prog X.w) X.A (call (.ref f) us) (EP X pins σ Q) X.xe s:=by
 have r2:Vals (vs++eG) (us++ds):=r.append hd
 have hl:(us++ds).length=ps.length:=by rw[<-r2.length];exact F.len _ _ _ _ h
 refine wpAny_call (codeAny_mono (F.run X.A X.stack s H ⟨us,[]⟩ (us++ds) (vs++eG) Q E hr I.env0 (hb s us I.cM hl) r2 h) λr s' hq=>?_)
 cases r with
 |error e=>exact hx pins σ H s e s' I hq
 |ok fl=>
  cases fl with
  |ret u=>exact I.after hq
  |next=>exact False.elim hq
  |brk=>exact False.elim hq
  |cont=>exact False.elim hq
theorem XQ (F:aq X.prog X.w X.K X.mg X.base CX k f fd ps sp)(hr:cU k X.A)(hg:Gl X x)(hm:X.mg x=some (.ref f))(hk:W.keepIn X.K (.ref f)=true)(hb:Binds X.K fd ps ds)(hd:Vals eG ds)(hx:Passes CX X E)
 (ha:PA X (e::es) t) (hdb:(x == ("__debug__":Str))=false:=by decide) (he:starEach (e::es) X.env=(false,eval e X.env)::starEach es X.env:=by rfl) (hpl:(backTo pos (starEach es X.env)).any (·.1)=false:=by rfl):
 PE X (.Call (.Name x p) (e::es) [] pos) (pU sp eG E t):=by
 intro pins s σ H Q I h
 refine wpAny_Call_Name_kw (pK I hg hm ?_ hdb)
 refine W.callWith_K (h₀:=X.base) I.ok.mod.qM hk (aM (ha pos pins s σ H _ I h) λus s1 ⟨vs,H1,I1,r,q⟩=>⟨I1.cM,?_⟩) he hpl
 exact Gw F hr hb hd hx I1 r q
theorem gB {pl:Sem Bool}(he:PE X o ta)(c:Cls X.K C)(hm:Meth X.K C m f)(F:aq X.prog X.w X.K X.mg X.base CX k f fd ps sp)(hr:cU k X.A)(hb:Binds X.K fd ps ds)(hd:Vals eG ds)(hx:Passes CX X E)(ha:PA X (e::es) t)
 (hst:starEach (e::es) X.env=(false,eval e X.env)::starEach es X.env:=by rfl) (hpl:(backTo pos (starEach es X.env)).any (·.1)=false:=by rfl)
 (ht:eval (.Call (.Attribute o m apos) (e::es) [] pos) X.env=(do
   let ov <-eval o X.env
   standAt apos.atName
   let(f,first) <-holding [ov] (getMethod ov m pl)
   callWith pos f first (backTo pos (starEach (e::es) X.env)) (backToKw pos (keywordEach [] X.env))):=by rfl):
 PE X (.Call (.Attribute o m apos) (e::es) [] pos) (z_ C m sp eG E ta t):=by
 intro pins s σ H Q I h
 refine W.methodCall_KW (pl:=pl) (aM (he pins s σ H _ I h) λu s1 ⟨x,H1,I1,rx,a,dx,fs,ex,ea,l,q⟩=>?_) ht
 subst ex
 obtain rfl:u=Value.ref a:=rx
 refine z9 I1 ea c hm l ?_
 refine W.callWith_K (first:=[.ref a]) (h₀:=X.base) I.ok.mod.qM hm.kp (aM (ha pos pins s1 σ H1 _ I1 q) λus s2 ⟨vs,H2,I2,r,q2⟩=>⟨I2.cM,?_⟩) hst hpl
 exact Gw (us:=.ref a::us) (vs:=.ref a::vs) F hr hb hd hx I2 (.cons rfl r) q2
theorem XR {pl:Sem Bool}(he:PE X o ta)(c:Cls X.K C)(hm:Meth X.K C m f)(F:aq X.prog X.w X.K X.mg X.base CX k f fd ps sp)(hr:cU k X.A)(hb:Binds X.K fd ps ds)(hd:Vals eG ds)(hx:Passes CX X E)
 (ht:eval (.Call (.Attribute o m apos) [] [] pos) X.env=(do
   let ov <-eval o X.env
   standAt apos.atName
   let(f,first) <-holding [ov] (getMethod ov m pl)
   callWith pos f first (backTo pos (starEach [] X.env)) (backToKw pos (keywordEach [] X.env))):=by rfl):
 PE X (.Call (.Attribute o m apos) [] [] pos) (z_ C m sp eG E ta fX):=by
 intro pins s σ H Q I h
 refine W.methodCall_KW (pl:=pl) (aM (he pins s σ H _ I h) λu s1 ⟨x,H1,I1,rx,a,dx,fs,ex,ea,l,q⟩=>?_) ht
 subst ex
 obtain rfl:u=Value.ref a:=rx
 refine z9 I1 ea c hm l ?_
 exact W.callWith_K0 (first:=[.ref a]) I1.cM hm.kp (Gw (us:=[.ref a]) (vs:=[.ref a]) F hr hb hd hx I1 (.cons rfl .nil) q)
structure Mk (K:W.Frag) (C f:Addr):Prop where
 makes:W.makesIn K C=true
 init:W.findIn K (.ref C) "__init__"=some (some (.ref f))
 fn:W.isFn K (.ref f)=true
 kp:W.keepIn K (.ref C)=true
theorem ae4 {pins:List (Addr × Obj)}{σ:St}{H:Hp}{s:Shared}{Q:VK}{us:List Value}{vs:List V}(M:Mk X.K C f)(F:aq X.prog X.w X.K X.mg X.base CX k f fd ps sp)(hr:cU (k+1) X.A)(hb:Binds X.K fd ps ds)(hd:Vals eG ds)
 (hx:Passes CX X E) (I:Inv X pins σ H s) (r:Vals vs us)
 (h:∀x dx,H x=none->H dx=none->dx≠x->sp (.ref x::(vs++eG)) (upd (upd H dx (.own x)) x (.ins C dx [])) (λv H2=>v=.non/\Q (.ref x) H2) E):
 wpAny (model X.prog X.w) X.A (call (.ref C) us) (EP X pins σ Q) X.xe s:=by
 have hq:=h (s.heap.objs.size+1) s.heap.objs.size (I.hok.fresh (Q13 _)) (I.hok.fresh (Q01 _)) (Q09 (Q1e _))
 have I2:=Inv.made (C:=C) I
 have r2:Vals (V.ref (s.heap.objs.size+1)::(vs++eG)) (Value.ref (s.heap.objs.size+1)::(us++ds)):=.cons rfl (r.append hd)
 have hl:(Value.ref (s.heap.objs.size+1)::us++ds).length=ps.length:=by
  have e:=r2.length
  rw[F.len _ _ _ _ hq] at e
  exact e.symm
 refine wpAny_call (aeV (f:=f) I.cM M.makes M.init (beq_iff_eq.mp M.fn) (codeAny_mono (F.run _ X.stack _ _ ⟨Value.ref (s.heap.objs.size+1)::us,[]⟩ (Value.ref (s.heap.objs.size+1)::(us++ds)) _ _ E (hr.make C us [])
  (I2.env0.make C us []) (hb _ (Value.ref (s.heap.objs.size+1)::us) I2.cM hl) r2 hq) λr s' hq'=>?_))
 cases r with
 |error e=>exact hx pins σ _ _ e s' I2 hq'
 |ok fl=>
  cases fl with
  |ret u=>
   obtain⟨v,H',I3,rv,ev,q3⟩:=I2.after hq'
   subst ev
   exact⟨rv,⟨V.ref (s.heap.objs.size+1),H',I3,rfl,q3⟩⟩
  |next=>exact False.elim hq'
  |brk=>exact False.elim hq'
  |cont=>exact False.elim hq'
theorem XS (M:Mk X.K C f)(F:aq X.prog X.w X.K X.mg X.base CX k f fd ps sp)(hr:cU (k+1) X.A)(hg:Gl X x)(hm:X.mg x=some (.ref C))(hb:Binds X.K fd ps ds)(hd:Vals eG ds)(hx:Passes CX X E)
 (ha:PA X (e::es) t) (hdb:(x == ("__debug__":Str))=false:=by decide) (he:starEach (e::es) X.env=(false,eval e X.env)::starEach es X.env:=by rfl) (hpl:(backTo pos (starEach es X.env)).any (·.1)=false:=by rfl):
 PE X (.Call (.Name x p) (e::es) [] pos) (ae3 C sp eG E t):=by
 intro pins s σ H Q I h
 refine wpAny_Call_Name_kw (pK I hg hm ?_ hdb)
 refine W.callWith_K (h₀:=X.base) I.ok.mod.qM M.kp (aM (ha pos pins s σ H _ I h) λus s1 ⟨vs,H1,I1,r,q⟩=>⟨I1.cM,?_⟩) he hpl
 exact ae4 M F hr hb hd hx I1 r q
end
section
variable {X:Cx}{CX:iB}{k:Nat}{f C:Addr}{fd:FuncData}{ps ks:List Str}{sp:Sp}{E:XK}{x m:Str}{p pos apos kpos:Pos}{e o:Expr}{es:List Expr}{kws:List Keyword}{te ta:TE}{t tk:TA}{nm:Option Str}
variable {g:List Value->List Value->List Value}{gV:List V->List V->List V}
end
structure bA (N P:List Str) (sc:Scope):Prop where
 kind:sc.kind=.function
 co:sc.isCoroutine=false
 gen:sc.isGenerator=false
 nd:N.Nodup
 pre:N.take P.length=P
 par:∀x∈P,sc.names.lookup x=some .local\/sc.names.lookup x=some .cell
 ae5:∀y∈sc.names,y.2≠ .free
theorem aoi {N Q:List Str}{sc:Scope}(h1:sc.kind=.function:=by rfl)(h2:sc.isCoroutine=false:=by rfl)(h3:sc.isGenerator=false:=by rfl)(h4:N.Nodup:=by decide+kernel)(h5:N.take Q.length=Q:=by rfl)(h6:∀x∈Q,sc.names.lookup x=some .local\/sc.names.lookup x=some .cell:=by decide+kernel)(h7:∀y∈sc.names,y.2≠ .free:=by decide+kernel):bA N Q sc:=⟨h1,h2,h3,h4,h5,h6,h7⟩
theorem X3 {kindOf:Str->Option NameKind}{x:Str}:∀{binds:List (Str × Value)}{m:Str->Option Value},(∀v,(x,v) ∉ binds)->bindL kindOf binds m x=m x
 |[],_,_=>rfl
 |(n,v)::r,m,h=>by
  unfold bindL
  rw[X3 λw hw=>h w (Q0j _ hw)]
  split
  . have:x≠n:=by rintro rfl;exact h v Q0f
    simp[this]
  . rfl
theorem X4 {kindOf:Str->Option NameKind}{x:Str}:∀{binds:List (Str × Value)}{m:Str->Option Value},(∀v,(x,v) ∉ binds)->bindC kindOf binds m x=m x
 |[],_,_=>rfl
 |(n,v)::r,m,h=>by
  unfold bindC
  rw[X4 λw hw=>h w (Q0j _ hw)]
  split
  . rfl
  . have:x≠n:=by rintro rfl;exact h v Q0f
    simp[this]
theorem X5 {kindOf:Str->Option NameKind}{x:Str}{v:Value}:∀{P:List Str}{vs:List Value}{i:Nat}{m:Str->Option Value},P.Nodup->P[i]? =some x->vs[i]? =some v->kindOf x=some .local->
 bindL kindOf (P.zip vs) m x=some v
 |[],_,_,_,_,h,_,_=>by simp at h
 |_::_,[],_,_,_,_,h,_=>by simp at h
 |p::P,w::vs,0,m,nd,h1,h2,hk=>by
  simp at h1 h2;subst h1;subst h2
  show bindL kindOf ((p,w)::P.zip vs) m p=_
  unfold bindL
  rw[X3 λv hv=>(List.nodup_cons.mp nd).1 (Q22 hv).1,if_pos hk]
  simp
 |p::P,w::vs,i+1,m,nd,h1,h2,hk=>by
  show bindL kindOf ((p,w)::P.zip vs) m x=_
  unfold bindL
  exact X5 (i:=i) (List.nodup_cons.mp nd).2 (by simpa using h1) (by simpa using h2) hk
theorem X6 {kindOf:Str->Option NameKind}{x:Str}{v:Value}:∀{P:List Str}{vs:List Value}{i:Nat}{m:Str->Option Value},P.Nodup->P[i]? =some x->vs[i]? =some v->kindOf x≠some .local->
 bindC kindOf (P.zip vs) m x=some v
 |[],_,_,_,_,h,_,_=>by simp at h
 |_::_,[],_,_,_,_,h,_=>by simp at h
 |p::P,w::vs,0,m,nd,h1,h2,hk=>by
  simp at h1 h2;subst h1;subst h2
  show bindC kindOf ((p,w)::P.zip vs) m p=_
  unfold bindC
  rw[X4 λv hv=>(List.nodup_cons.mp nd).1 (Q22 hv).1,if_neg hk]
  simp
 |p::P,w::vs,i+1,m,nd,h1,h2,hk=>by
  show bindC kindOf ((p,w)::P.zip vs) m x=_
  unfold bindC
  exact X6 (i:=i) (List.nodup_cons.mp nd).2 (by simpa using h1) (by simpa using h2) hk
noncomputable def start (N:List Str) (vs:List V):St:=vs.map some++List.replicate (N.length - vs.length) none
noncomputable def jW (CX:iB) (P:Program) (w:World) (K:W.Frag) (mg:Str->Option Value) (base:Heap) (N:List Str) (qual:Str) (scope:Scope) (f:Addr) (cd:Value) (A:Around) (outer:List Env) (s:Shared) (H:Hp) (E:XK):Cx where
 prog:=P
 w:=w
 K:=K
 mg:=mg
 base:=base
 A:=A.deeper (envOfC qual scope s.heap.objs.size f cd)
 N:=N
 s₀:=s
 H₀:=H
 env:=envOfC qual scope s.heap.objs.size f cd
 outer:=outer
 stack:=envOfC qual scope s.heap.objs.size f cd::outer
 ex:=[]
 calm:=true
 fn:=λ_=>true
 pn:=[]
 xe:=λe s'=>wpAny (model P w) (A.deeper (envOfC qual scope s.heap.objs.size f cd)) (leaving (envOfC qual scope s.heap.objs.size f cd) e) (λ_ s''=>CX outer H s E e s'') (λe' s''=>CX outer H s E e' s'') s'
theorem X7 {sc:Scope}{n:Nat}{x:Str}(h:sc.names.lookup x=some .cell):∃c,(cellsFrom n sc.names []).lookup x=some c:=by
 have q:=W.cellsFrom_some sc.names n [] (.inl h)
 exact Option.isSome_iff_exists.mp q
theorem ae6 {CX:iB}{P:Program}{w:World}{K:W.Frag}{mg:Str->Option Value}{base:Heap}{N ps:List Str}{qual:Str}{scope:Scope}{f:Addr}{cd:Value}{A:Around}{outer:List Env}{s s1:Shared}{H:Hp}{E:XK}{us:List Value}{vs:List V}
 (S:bA N ps scope) (hd:A.handled=none) (e0:qY P w K mg base A outer s H) (hl:vs.length=ps.length) (r:Vals vs us)
 (x:InCallC s s.heap.objs.size (bindL (envOfC qual scope s.heap.objs.size f cd).kindOf (ps.zip us) λ_=>none) (cellsFrom (s.heap.objs.size+1) scope.names []) (bindC (envOfC qual scope s.heap.objs.size f cd).kindOf (ps.zip us) λ_=>none) s1):
 Inv (jW CX P w K mg base N qual scope f cd A outer s H E) [] (start N vs) H s1:=by
 have hpl:ps.length<=N.length:=by have:=congrArg List.length S.pre;rw[Q0o] at this;omega
 obtain⟨h1,tk,rfl,hk⟩:=x.done
 have Gx:∀b:Addr,b ∉ (jW CX P w K mg base N qual scope f cd A outer s H E).ex:=λb z=>absurd (show b∈([]:List Addr) from z) (by simp)
 refine⟨⟨e0.mod,S.kind,rfl,rfl,Q01 _,λy z c h1 h2=>?_,λy hy=>?_,λy c _ h=>?_,λ_=>hd,Around.frames_deeper e0.frames,.inr ⟨rfl,rfl⟩,λb z=>absurd z (Gx b),e0.bs,e0.jo,λb _ _=>Gx b,λb z=>absurd z (Gx b),e0.iy,e0.lY⟩,
  rfl,e0.bare,Un.kept hk,⟨_,x.toInCall.ns,λi y v h1 h2 h3=>?_⟩,λy c h=>⟨_,x.cell y c h⟩,e0.hok.fresh (Q01 _),λy c h=>?_,λp hp=>absurd (show p∈([]:List (Addr × Obj)) from hp) (by simp),e0.hok.kept hk,?_⟩
 . exact name_of_addr x.apart (PySem.mem_of_lookup h1) (PySem.mem_of_lookup h2)
 . have hy:scope.names.lookup y=some .cell\/scope.names.lookup y=some .free:=hy
   rcases hy with hy|hy
   . exact X7 hy
   . exact absurd rfl (S.ae5 _ (PySem.mem_of_lookup hy))
 . exact Q0m (x.above y c (PySem.mem_of_lookup h))
 . have hi:i<vs.length:=by
    unfold start at h2
    by_cases hi:i<vs.length
    . exact hi
    . rw[Q0i (by simpa using hi)] at h2
      rw[Q2g] at h2
      split at h2 <;> cases h2
   have ha:vs[i]? =some v:=by
    unfold start at h2
    rw[Q0q (by simpa using hi),Q0g] at h2
    cases e:vs[i]? with
    |none=>rw[e] at h2;cases h2
    |some a=>rw[e] at h2;cases h2;rfl
   obtain⟨u,hu,rv⟩:=r.get ha
   have hp:ps[i]? =some y:=by
    rw[<-S.pre,List.getElem?_take_of_lt (by omega)];exact h1
   have X8:ps.Nodup:=by rw[<-S.pre];exact S.nd.sublist (Q2h _ _)
   refine⟨u,rv,?_⟩
   rcases S.par y (Q0y hp) with k|k
   . exact .inl ⟨k,X5 X8 hp hu k⟩
   . obtain⟨c,e⟩:=X7 (n:=s.heap.objs.size+1) k
     refine .inr ⟨.inl k,c,e,?_⟩
     have q:=x.cell y c e
     rw[X6 X8 hp hu (by show scope.names.lookup y≠_;rw[k];decide)] at q
     exact q
 . exact e0.hok.fresh (Q0m (x.above y c (PySem.mem_of_lookup h)))
 . unfold start
   show _=N.length
   rw[Q07,Q06,Q17]
   omega
theorem Aa {CX:iB}{P:Program}{w:World}{K:W.Frag}{mg:Str->Option Value}{base:Heap}{k:Nat}{f:Addr}{name qual:Str}{params:Arguments}{body:List Stmt}{scope:Scope}{dV kV doc pm cdv ct oc:Value}{an od:Option Addr}
 {osl:Array (Option Value)} {N ps:List Str} {sp:Sp} (lk:K.lookup f=some ⟨oc,od,.func (W.fnOf name qual params body scope dV kV doc pm an cdv ct),osl⟩) (hcd:W.codeIn K cdv qual=true) (S:bA N ps scope)
 (len:∀vs H Q E,sp vs H Q E->vs.length=ps.length)
 (hbody:∀(A:Around) (outer:List Env) (s:Shared) (H:Hp) (vs:List V) (Q:VK) (E:XK),cU k (A.deeper (envOfC qual scope s.heap.objs.size f cdv))->sp vs H Q E->
   ∃t,fQ (jW CX P w K mg base N qual scope f cdv A outer s H E) body t/\t { nx:=λ_ H'=>Q .non H',rt:=Q } (start N vs) H):
 aq P w K mg base CX (k+1) f (W.fnOf name qual params body scope dV kV doc pm an cdv ct) ps sp:=by
 refine⟨len,λA outer s H args us vs Q E hr e0 hb r hsp=>?_⟩
 have hl:=len _ _ _ _ hsp
 have KX:K.In s.heap:=e0.mod.qM.keeps λb o e=>(e0.bs b o e).1
 have lim:s.heap.NoLimit:=e0.mod.nolimit.keeps λb o e=>(e0.bs b o e).1
 have hkind:∀y∈ps.zip us,scope.names.lookup y.1=some .local\/(scope.names.lookup y.1=some .cell/\((cellsFrom (s.heap.objs.size+1) scope.names []).lookup y.1).isSome=true):=λ⟨n,v⟩ hy=>by
  rcases S.par n (Q22 hy).1 with q|q
  . exact .inl q
  . exact .inr ⟨q,W.cellsFrom_some _ _ _ (.inl q)⟩
 refine codeAny_call_function hr.depth (KX _ _ lk) rfl S.co S.gen rfl (W.codeRec_of KX hcd) (hb _ _ _ _ ?_)
 refine wpAny_newFunctionEnv_cells S.kind hkind λenv he s1 x=>?_
 subst he
 refine⟨lim.keeps x.toInCall.keep,codeAny_func ?_⟩
 obtain⟨t,ht,hq⟩:=hbody A outer s H vs Q E (hr.deeper _) hsp
 have I:Inv (jW CX P w K mg base N qual scope f cdv A outer s H E) [] (start N vs) H s1:=ae6 S hr.hd e0 hl r x
 refine Q0h (ht [] s1 (start N vs) H _ I hq) (λfl s' hs=>?_) λe s' hs=>hs
 have fin:∀{σ':St} {H':Hp} {v:V} {u:Value},Inv (jW CX P w K mg base N qual scope f cdv A outer s H E) [] σ' H' s'->RelV v u->Q v H'->CE outer P w H s Q u s':=
  λ{σ' H' v u} J rv q=>⟨v,H',J.os,J.bare,J.base,J.hok,rv,q⟩
 cases fl with
 |ret u=>
  obtain⟨v,σ',H',J,rv,q⟩:=hs
  exact fin J rv q
 |next=>
  obtain⟨σ',H',J,q⟩:=hs
  exact fin (v:=V.non) (u:=Value.none) J rfl q
 |brk=>
  obtain⟨_,_,_,q⟩:=hs
  exact False.elim q
 |cont=>
  obtain⟨_,_,_,q⟩:=hs
  exact False.elim q
section
variable {X:Cx}{x:Str}{p pos:Pos}{e:Expr}{es:List Expr}{t:TA}{id T:String}{r:List V->Hp->VK->Prop}
noncomputable def Ab (r:List V->Hp->VK->Prop) (t:TA):TE:=λσ H Q=>t σ H λvs H1=>r vs H1 Q
theorem aY (hc:gU X (.builtin id) r)(hg:Gl X x)(hm:X.mg x=none)(hv:bootBuiltins x=some (.builtin id))(ha:PA X (e::es) t)(hn:x≠"__name__":=by decide)(hdb:(x == ("__debug__":Str))=false:=by decide)
 (he:starEach (e::es) X.env=(false,eval e X.env)::starEach es X.env:=by rfl) (hpl:(backTo pos (starEach es X.env)).any (·.1)=false:=by rfl):PE X (.Call (.Name x p) (e::es) [] pos) (Ab r t):=by
 intro pins s σ H Q I h
 refine wpAny_Call_Name_kw (k_ I hg hm hv ?_ hn hdb)
 exact PyProof.Rows.callWith_builtin1 (aM (ha pos pins s σ H _ I h) λus s1 ⟨vs,H1,I1,r1,q1⟩=>hc pins s1 σ H1 vs us Q I1 r1 q1) he hpl
theorem jx (hc:gU X (.type T) r)(hg:Gl X x)(hm:X.mg x=none)(hv:bootBuiltins x=some (.type T))(ha:PA X (e::es) t)(hn:x≠"__name__":=by decide)(hdb:(x == ("__debug__":Str))=false:=by decide)
 (he:starEach (e::es) X.env=(false,eval e X.env)::starEach es X.env:=by rfl) (hpl:(backTo pos (starEach es X.env)).any (·.1)=false:=by rfl):PE X (.Call (.Name x p) (e::es) [] pos) (Ab r t):=by
 intro pins s σ H Q I h
 refine wpAny_Call_Name_kw (k_ I hg hm hv ?_ hn hdb)
 exact PyProof.Rows.callWith_type1 (aM (ha pos pins s σ H _ I h) λus s1 ⟨vs,H1,I1,r1,q1⟩=>hc pins s1 σ H1 vs us Q I1 r1 q1) he hpl
end
end L2
namespace HT
open PySem PyProof.Rows
section
open PySem.SeqAt
open PySem.AutoSeq1 (wpAny_loadPart')
open PySem.MeetsSeq PySem.MeetsSeq2 PySem.MeetsSeq3
end
section
variable {prog:Program}{w:World}{A:Around}{E:Value->Shared->Prop}{s:Shared}
theorem ae7 {t b:Addr}{vs ws:List Value}{Q:Value->Shared->Prop}(ht:IsTup s.heap t vs.toArray)(hb:IsTup s.heap b ws.toArray)(hv:vs≠[])
 (h1:ws=[]->Q (.ref t) s) (h2:ws≠[]->Q (.ref s.heap.objs.size) { s with heap:=s.heap.push { cls:=.type "tuple",data:=.seq (vs++ws).toArray } })
 (hsz:vs.length+ws.length<=sizeLine):wpAny (model prog w) A (binaryOp .Add (.ref t) (.ref b)) Q E s:=by
 obtain⟨⟨cls,dd,data,sl⟩,ho,hc,n,hd⟩:=id ht
 obtain⟨⟨cls2,dd2,data2,sl2⟩,ho2,hc2,n2,hd2⟩:=id hb
 simp only at hc hd hc2 hd2
 subst hc hd hc2 hd2
 have e:vs.toArray++ws.toArray=(vs++ws).toArray:=by simp
 by_cases hw:ws=[]
 . exact concat_meets ⟨_,ho,rfl⟩ ⟨_,ho2,rfl⟩ noFill_tuple_add seq_tuple_add PySem.F.slot_tuple_add PySem.F.entry_tuple_add (PySem.F.args_tuple_add_2 _ _)
    (tuple_addW1 t b vs.toArray ws.toArray n n2 dd dd2 sl sl2 (by simpa using hv) (by simp[hw])) ⟨ho,ho2,h1 hw⟩
 . refine concat_meets ⟨_,ho,rfl⟩ ⟨_,ho2,rfl⟩ noFill_tuple_add seq_tuple_add PySem.F.slot_tuple_add PySem.F.entry_tuple_add (PySem.F.args_tuple_add_2 _ _)
    (tuple_addW2 t b vs.toArray ws.toArray n n2 dd dd2 sl sl2 (by simpa using hv) (by simpa using hw) (by rw[Q08,Q08];exact hsz)) ⟨ho,ho2,?_⟩
   rw[e]
   exact h2 hw
noncomputable def bJ (n d:Nat):Option Int->Nat
 |none=>d
 |some v=>if v<0 then(v+(n:Int)).toNat else min v.toNat n
theorem ae8 (n d:Nat)(hd:d<=n)(o:Option Int):bJ n d o<=n:=by
 cases o with
 |none=>exact hd
 |some v=>
  show(if v<0 then(v+(n:Int)).toNat else min v.toNat n)<=n
  by_cases hv:v<0
  . rw[if_pos hv];omega
  . rw[if_neg hv];exact Nat.min_le_right _ _
theorem X_ (v:Int)(n d:Nat):(if v<0 then max (v+(n:Int)) 0 else min v (n:Int))=((bJ n d (some v):Nat):Int):=by
 show(if v<0 then max (v+(n:Int)) 0 else min v (n:Int))=(((if v<0 then(v+(n:Int)).toNat else min v.toNat n):Nat):Int)
 by_cases hv:v<0
 . simp only[if_pos hv];omega
 . simp only[if_neg hv];omega
theorem ae9 (lo hi:Option Int)(n:Nat):Builtin.Slice.sliceAdjust lo hi 1 (n:Int)=(((bJ n 0 lo:Nat):Int),((bJ n n hi:Nat):Int)):=by
 have h1:¬((1:Int)<0):=by omega
 unfold Builtin.Slice.sliceAdjust
 simp only[h1,if_false]
 refine Prod.ext ?_ ?_
 . cases lo with
   |none=>rfl
   |some v=>exact X_ v n 0
 . cases hi with
   |none=>rfl
   |some v=>exact X_ v n n
theorem ae_ (i j:Nat):Builtin.Slice.slicePlaces (i:Int) (j:Int) 1=j - i:=by
 unfold Builtin.Slice.slicePlaces
 have h1:(1:Int) > 0:=by omega
 simp only[h1,if_true,Int.ediv_one]
 split <;> omega
theorem Yb {v:Value}{o:Option Int}{Q:Option Int->Shared->Prop}(p:IsPart v o)(h:Q o s):wpAny (model prog w) A (Builtin.Slice.slicePartIndex v) Q E s:=by
 cases p with
 |none=>exact slicePart_none h
 |int i t=>exact slicePart_int h
theorem afa {sl:Addr}{vl vu:Value}{lo hi:Option Int}{n:Nat}{Q:Int × Int × Nat->Shared->Prop}(hs:s.heap.IsSliceOf sl vl vu .none)(pl:IsPart vl lo)(pu:IsPart vu hi)
 (h:Q (((bJ n 0 lo:Nat):Int),1,bJ n n hi - bJ n 0 lo) s):wpAny (model prog w) A (Builtin.Slice.sliceApplied (.ref sl) (pure (n:Int))) Q E s:=by
 obtain⟨os,hos,hcs,hds⟩:=id hs
 unfold Builtin.Slice.sliceApplied Builtin.Slice.sliceFields
 refine Q00 (Q00 (wpAny_field hos hds (x:=vl) rfl (Q00 (wpAny_field hos hds (x:=vu) rfl (Q00 (wpAny_field hos hds (x:=.none) rfl (Q03 ?_)))))))
 refine Q00 (slicePart_none ?_)
 show wpAny _ _ (if((1:Int) == 0)=true then _ else _) _ _ s
 rw[if_neg (by decide)]
 refine Q00 (Yb pl (Q00 (Yb pu (Q00 (Q03 ?_)))))
 show wpAny _ _ (match Builtin.Slice.sliceAdjust lo hi 1 (n:Int) with|(lo,hi)=>pure (lo,(1:Int),Builtin.Slice.slicePlaces lo hi 1)) _ _ s
 rw[ae9 lo hi n]
 show wpAny _ _ (pure (((bJ n 0 lo:Nat):Int),(1:Int),Builtin.Slice.slicePlaces ((bJ n 0 lo:Nat):Int) ((bJ n n hi:Nat):Int) 1)) _ _ s
 rw[ae_]
 exact Q03 h
theorem afb (xs:Array Value)(i k:Nat):((List.range k).filterMap λ(m:Nat)=>xs[((i:Int)+(m:Int) * 1).toNat]?).toArray=((xs.toList.drop i).take k).toArray:=by
 have e:(λ(m:Nat)=>xs[((i:Int)+(m:Int) * 1).toNat]?)=λm=>xs[i+m]? :=by
  funext m
  have:((i:Int)+(m:Int) * 1).toNat=i+m:=by omega
  rw[this]
 rw[e]
 have:=pick_run xs i k
 rw[List.filterMap_map] at this
 have e2:((λx=>xs[x]?) ∘ λx=>i+x)=λm=>xs[i+m]? :=rfl
 rw[e2] at this
 rw[this]
theorem afc {t sl:Addr}{items:Array Value}{vl vu:Value}{lo hi:Option Int}{Q:Value->Shared->Prop}(ht:IsTup s.heap t items)(hs:s.heap.IsSliceOf sl vl vu .none)(pl:IsPart vl lo)(pu:IsPart vu hi)
 (hw:¬(bJ items.size 0 lo=0/\bJ items.size items.size hi=items.size))
 (h:Q (.ref s.heap.objs.size) { s with heap:=s.heap.push { cls:=.type "tuple",data:=.seq ((items.toList.drop (bJ items.size 0 lo)).take (bJ items.size items.size hi - bJ items.size 0 lo)).toArray } })
 (hsz:items.size<=sizeLine):wpAny (model prog w) A (getItem (.ref t) (.ref sl)) Q E s:=by
 have Ac:sizeOk (.seq ((items.toList.drop (bJ items.size 0 lo)).take (bJ items.size items.size hi - bJ items.size 0 lo)).toArray):=by
  show((items.toList.drop (bJ items.size 0 lo)).take (bJ items.size items.size hi - bJ items.size 0 lo)).toArray.size<=sizeLine
  rw[Q08,Q0o,Q2i,Q1i]
  omega
 have hj:bJ items.size items.size hi<=items.size:=ae8 _ _ (Q01 _) hi
 obtain⟨os,hos,hcs,hds⟩:=id hs
 have hTs:s.TypeIs (.ref sl) "slice":=⟨os,hos,hcs⟩
 unfold getItem
 try with_reducible refine wpAny_holding ?_
 first|refine Q00 (Q03 ?_)|skip
 refine Q00 (wpAny_sequenceKey ht.typeIs (by decide) ?_)
 refine Q00 (wpAny_callSpecial?_slot (name:=Str.ofString "__getitem__") ht.typeIs PyProof.Rows.slot_tuple_getitem
  (wpAny_call_entry PyProof.Rows.slot_tuple_getitem ht.typeIs entry_tuple_getitem ?_ (args_tuple_getitem _ _)))
 show wpAny _ _ (Builtin.Tuple.tupleItemsOf (.ref t) >>= _) _ _ s
 refine Q00 (tupleItemsOf_ ht ?_)
 refine Q00 (wpAny_typeOf hTs ?_)
 rw[if_pos (by decide)]
 refine Q00 (afa hs pl pu ?_)
 have hno:¬((((bJ items.size 0 lo:Nat):Int) == 0 && (1:Int) == 1 && (bJ items.size items.size hi - bJ items.size 0 lo) == items.size)=true):=by
  intro q
  rw[Bool.and_eq_true,Bool.and_eq_true] at q
  have q1:((bJ items.size 0 lo:Nat):Int)=0:=eq_of_beq q.1.1
  have q2:bJ items.size items.size hi - bJ items.size 0 lo=items.size:=eq_of_beq q.2
  exact hw ⟨by omega,by omega⟩
 show wpAny _ _ (if(((bJ items.size 0 lo:Nat):Int) == 0 && (1:Int) == 1 && (bJ items.size items.size hi - bJ items.size 0 lo) == items.size)=true then _ else _) _ _ s
 rw[if_neg hno,afb]
 first
  |exact Q00 (m:=Builtin.Tuple.tupleExact _) (wpAny_newObj_type (Q03 ⟨_,rfl,Q03 h⟩) Ac)
  |exact Q00 (m:=Builtin.Tuple.tupleExact _) (wpAny_newObj_type (Q00 (Q03 (Q03 ⟨_,rfl,Q03 h⟩))) Ac)
  |exact Q00 (Q00 (m:=Builtin.Tuple.tupleExact _) (wpAny_newObj_type (Q03 (Q03 ⟨_,rfl,Q03 h⟩)) Ac))
  |exact Q00 (Q00 (m:=Builtin.Tuple.tupleExact _) (wpAny_newObj_type (Q03 ⟨_,rfl,Q03 h⟩) Ac))
end
end HT
namespace L2
open PySem PySem.Spec PyProof.Rows
noncomputable abbrev TO:=St->Hp->(Option Int->Hp->Prop)->Prop
noncomputable def PO (X:Cx) (e:Option Expr) (t:TO):Prop:=
 ∀(pins:List (Addr × Obj)) (s:Shared) (σ:St) (H:Hp) (Q:Option Int->Hp->Prop),Inv X pins σ H s->t σ H Q->
  wpAny (model X.prog X.w) X.A (evalPart e X.env) (λu s'=>∃o H',Inv X pins σ H' s'/\IsPart u o/\Q o H') X.xe s
noncomputable def afd:TO:=λ_ H Q=>Q none H
noncomputable def afe (t:TE):TO:=λσ H Q=>t σ H λx H1=>∃i,x=.int i/\Q (some i) H1
section
variable {X:Cx}{e:Expr}{te:TE}{lo hi:Option Expr}{tl th:TO}{pos p2:Pos}
theorem Gy:PO X none afd:=by
 intro pins s σ H Q I h
 rw[evalPart_none]
 exact Q03 ⟨none,H,I,.none,h⟩
theorem Gz (h:PE X e te):PO X (some e) (afe te):=by
 intro pins s σ H Q I hw
 rw[evalPart_some]
 refine aM (h pins s σ H _ I hw) λu s1 ⟨x,H1,I1,r1,q1⟩=>?_
 obtain⟨i,rfl,q⟩:=q1
 obtain⟨t,rfl⟩:=r1
 exact⟨some i,H1,I1,.int i t,q⟩
noncomputable def GC (X:Cx) (r:V->Option Int->Option Int->Hp->VK->Prop):Prop:=
 ∀(pins:List (Addr × Obj)) (s:Shared) (σ:St) (H:Hp) (x:V) (v vl vu:Value) (lo hi:Option Int) (sl:Addr) (Q:VK),Inv X pins σ H s->RelV x v->s.heap.IsSliceOf sl vl vu .none->IsPart vl lo->IsPart vu hi->r x lo hi H Q->
  ∃T id,typeLookup (.type T) "__getitem__"=pure (some (.builtin id))/\s.TypeIs v T/\wpAny (model X.prog X.w) X.A (getItem v (.ref sl)) (EP X pins σ Q) X.xe s
noncomputable def tSl (r:V->Option Int->Option Int->Hp->VK->Prop) (te:TE) (tl th:TO):TE:=λσ H Q=>te σ H λx H1=>tl σ H1 λl H2=>th σ H2 λu H3=>r x l u H3 Q
theorem GD {r:V->Option Int->Option Int->Hp->VK->Prop}(hr:GC X r)(he:PE X e te)(hl:PO X lo tl)(hu:PO X hi th):PE X (.Subscript e (.Slice lo hi none p2) pos) (tSl r te tl th):=by
 intro pins s σ H Q I h
 refine Subscript_ (aM (he pins s σ H _ I h) λv s1 ⟨x,H1,I1,r1,q1⟩=>?_)
 refine wpAny_Slice (aM (hl pins s1 σ H1 _ I1 q1) λvl s2 ⟨l,H2,I2,pl,q2⟩=>aM (hu pins s2 σ H2 _ I2 q2) λvu s3 ⟨u,H3,I3,pu,q3⟩=>?_)
 rw[evalPart_none]
 refine Q03 ?_
 have I4:Inv X pins σ H3 { s3 with heap:=s3.heap.push { cls:=.type "slice",data:=.fields #[vl,vu,.none] } }:=I3.kept (t':=s3.toks) λb ob q=>Q04 _ q
 obtain⟨T,id,hT,ht,hg⟩:=hr pins { s3 with heap:=s3.heap.push { cls:=.type "slice",data:=.fields #[vl,vu,.none] } } σ H3 x v vl vu l u s3.heap.objs.size Q I4 r1 (Heap.IsSliceOf.new ..) pl pu q3
 show wpAny (model X.prog X.w) X.A (subscriptTail e (.Slice lo hi none p2) v (.ref s3.heap.objs.size)) (EP X pins σ Q) X.xe { s3 with heap:=s3.heap.push { cls:=.type "slice",data:=.fields #[vl,vu,.none] } }
 exact tail_any (ops:=[.ref s3.heap.objs.size,v]) ht hT hg (by with_unfolding_all rfl)
noncomputable def iC (xs:List V) (lo hi:Option Int):List V:=(xs.drop (HT.bJ xs.length 0 lo)).take (HT.bJ xs.length xs.length hi - HT.bJ xs.length 0 lo)
theorem GF (xs:List V)(lo hi:Option Int):(iC xs lo hi).length<=xs.length:=by
 unfold iC
 rw[Q0o,Q2i]
 omega
noncomputable def afh (K:W.Frag):V->Option Int->Option Int->Hp->VK->Prop:=λx lo hi H Q=>∃a xs,x=.ref a/\aH K H a xs/\
 ¬(HT.bJ xs.length 0 lo=0/\HT.bJ xs.length xs.length hi=xs.length)/\∀p,H p=none->Q (.ref p) (upd H p (.tup (iC xs lo hi)))
theorem afi:GC X (afh X.K):=by
 intro pins s σ H x v vl vu lo hi sl Q I rx hs pl pu h
 obtain⟨a,xs,rfl,hx,hw,q⟩:=h
 cases rx
 obtain⟨its,r,ht,hz⟩:=I.tuple hx
 have hlen:its.toArray.size=xs.length:=by rw[Q08];exact r.length.symm
 refine⟨"tuple",_,PyProof.Rows.slot_tuple_getitem.lookup,ht.typeIs,?_⟩
 refine HT.afc ht hs pl pu (by rw[hlen];exact hw) ?_ (by rw[hlen];exact hz)
 rw[hlen]
 refine⟨.ref s.heap.objs.size,_,I.laid (t':=s.toks) (o:=.tup (iC xs lo hi)) (λb ob q=>Q04 _ q) (Q01 _) ?_,rfl,q _ (I.hok.fresh (Q01 _))⟩
 exact⟨Q0c (GF xs lo hi) hz,_,(r.drop (HT.bJ xs.length 0 lo)).take (HT.bJ xs.length xs.length hi - HT.bJ xs.length 0 lo),IsTup.new _ _⟩
noncomputable def afj (K:W.Frag):R2:=λx y H Q=>∃a b xs ys,x=.ref a/\y=.ref b/\aH K H a xs/\aH K H b ys/\xs≠[]/\xs.length+ys.length<=sizeLine/\
 (ys=[]->Q (.ref a) H)/\(ys≠[]->∀p,H p=none->Q (.ref p) (upd H p (.tup (xs++ys))))
theorem Vals.Ad {xs:List V}{us:List Value}(r:Vals xs us):us=[]↔xs=[]:=by
 cases r with
 |nil=>simp
 |cons _ _=>simp
theorem afk:dN X (binaryOp .Add) (afj X.K):=by
 intro pins s σ H x y v u Q I rx ry h
 obtain⟨a,b,xs,ys,rfl,rfl,ha,hb,hx,hz,q1,q2⟩:=h
 cases rx
 cases ry
 obtain⟨its,r1,p1,_⟩:=I.tuple ha
 obtain⟨its2,r2,p2,_⟩:=I.tuple hb
 refine HT.ae7 p1 p2 (λz=>hx (r1.Ad.mp z)) (λz=>⟨.ref a,H,I,rfl,q1 (r2.Ad.mp z)⟩) (λz=>?_) (by rw[<-r1.length,<-r2.length];exact hz)
 refine⟨.ref s.heap.objs.size,_,I.laid (t':=s.toks) (o:=.tup (xs++ys)) (λb ob q=>Q04 _ q) (Q01 _) ?_,rfl,q2 (λw=>z (r2.Ad.mpr w)) _ (I.hok.fresh (Q01 _))⟩
 exact⟨by rw[Q07];exact hz,_,r1.append r2,IsTup.new _ _⟩
end
noncomputable def jy (n:Nat) (i:Int):Option Nat:=if 0<=i then(if i<n then some i.toNat else none) else if -(n:Int)<=i then some (i+n).toNat else none
noncomputable def dZ {α:Type}(xs:List α) (i:Int):Option α:=(jy xs.length i).bind λj=>xs[j]?
theorem Yc {n:Nat}{i:Int}{j:Nat}(h:jy n i=some j):seqIndex? i n=some j/\j<n/\ -(n:Int)<=i/\i<n:=by
 unfold jy at h
 by_cases h0:0<=i
 . rw[if_pos h0] at h
   by_cases h1:i<n
   . rw[if_pos h1] at h
     have e:i.toNat=j:=Option.some.inj h
     exact⟨by rw[seqIndex_of h0 h1,e],by omega,by omega,h1⟩
   . rw[if_neg h1] at h;cases h
 . rw[if_neg h0] at h
   by_cases h1: -(n:Int)<=i
   . rw[if_pos h1] at h
     have e:(i+n).toNat=j:=Option.some.inj h
     exact⟨by rw[seqIndex_neg (by omega) h1,e],by omega,h1,by omega⟩
   . rw[if_neg h1] at h;cases h
theorem GJ {α:Type}{xs:List α}{i:Int}{v:α}(h:dZ xs i=some v):∃j,seqIndex? i xs.length=some j/\xs[j]? =some v/\j<xs.length/\ -(xs.length:Int)<=i/\i<xs.length:=by
 unfold dZ at h
 cases e:jy xs.length i with
 |none=>rw[e] at h;cases h
 |some j=>
  rw[e] at h
  obtain⟨h1,h2,h3,h4⟩:=Yc e
  exact⟨j,h1,h,h2,h3,h4⟩
theorem mG {α:Type}{xs:List α}{j:Nat}{v:α}(h:xs[j]? =some v):dZ xs (j:Int)=some v:=by
 have hj:j<xs.length:=(List.getElem?_eq_some_iff.mp h).1
 have e:jy xs.length (j:Int)=some j:=by
  unfold jy
  rw[if_pos (by omega),if_pos (by omega)];simp
 unfold dZ;rw[e];exact h
noncomputable def afl (b:Expr):Prop:=∀o i,subscripted b false o i=operate [o,i] (getItem o i)
noncomputable def nR (X:Cx) (r:R2):Prop:=
 ∀(value slice:Expr) (pins:List (Addr × Obj)) (s:Shared) (σ:St) (H:Hp) (x y:V) (v u:Value) (Q:VK),Inv X pins σ H s->RelV x v->RelV y u->r x y H Q->
  subscripted slice false v u=operate [v,u] (getItem v u)->wpAny (model X.prog X.w) X.A (subscriptTail value slice v u) (EP X pins σ Q) X.xe s
noncomputable def wA (X:Cx) (id:String) (r:V->List V->Hp->VK->Prop):Prop:=
 ∀(pins:List (Addr × Obj)) (s:Shared) (σ:St) (H:Hp) (x:V) (xs:List V) (v:Value) (us:List Value) (Q:VK),Inv X pins σ H s->RelV x v->Vals xs us->r x xs H Q->
  wpAny (model X.prog X.w) X.A (call (.builtin id) (v::us)) (EP X pins σ Q) X.xe s
section
variable {X:Cx}{a b:Expr}{ta tb:TE}{pos:Pos}
theorem nR.or {r r':R2}(h:nR X r)(h':nR X r'):nR X (λx y H Q=>r x y H Q\/r' x y H Q):=by
 intro value slice pins s σ H x y v u Q I rx ry q hs
 rcases q with q|q
 . exact h value slice pins s σ H x y v u Q I rx ry q hs
 . exact h' value slice pins s σ H x y v u Q I rx ry q hs
theorem aZ {r:R2}(hr:nR X r)(ha:PE X a ta)(hb:PE X b tb)(hs:afl b):PE X (.Subscript a b pos) (bL r ta tb):=by
 intro pins s σ H Q I h
 exact Subscript_ (Gn ha hb I h λv u s2 x y H2 I2 rx ry q=>hr a b pins s2 σ H2 x y v u Q I2 rx ry q (hs _ _))
noncomputable def GK (K:W.Frag):R2:=λx y H Q=>∃p xs i v,x=.ref p/\y=.int i/\aC K H p xs/\dZ xs i=some v/\Q v H
noncomputable def mH (K:W.Frag):R2:=λx y H Q=>∃p xs i v,x=.ref p/\y=.int i/\aH K H p xs/\dZ xs i=some v/\Q v H
noncomputable def Yd:R2:=λx y H Q=>∃z i c,x=.str z/\y=.int i/\z.length<=sizeLine/\dZ z.cps.toList i=some c/\Q (.str ⟨#[c]⟩) H
theorem eO:nR X (GK X.K):=by
 intro value slice pins s σ H x y v u Q I rx ry h hs
 obtain⟨p,xs,i,z,rfl,rfl,hq,he,q⟩:=h
 cases rx
 obtain⟨t,rfl⟩:=ry
 obtain⟨its,r,pl,hz⟩:=I.list hq
 obtain⟨j,h1,h2,h3,h4,h5⟩:=GJ he
 obtain⟨w,ew,i_⟩:=r.get h2
 have hl:=r.length
 have hn:=tG
 have fin:EP X pins σ Q w s:=⟨z,H,I,i_,q⟩
 by_cases h0:0<=i
 . have hj:i.toNat=j:=by
    rw[seqIndex_of h0 h5] at h1
    exact Option.some.inj h1
   exact item_listR pl.isList h0 (by omega) (by rw[hj];simpa using ew) fin hs
 . have hj:(i+(its.toArray.size:Int)).toNat=j:=by
    rw[seqIndex_neg (by omega) h4] at h1
    rw[Q08,<-hl]
    exact Option.some.inj h1
   exact subscriptTail_builtinR (x:=w) pl.isList.typeIs slot_list_getitem.lookup
    (wpAny_getItem_list_neg (Q:=λr s'=>r=w/\EP X pins σ Q r s') pl.isList (by omega) (by rw[Q08] <;> omega) (by omega) (by rw[hj];simpa using ew) ⟨rfl,fin⟩) hs
theorem bV:nR X (mH X.K):=by
 intro value slice pins s σ H x y v u Q I rx ry h hs
 obtain⟨p,xs,i,z,rfl,rfl,hq,he,q⟩:=h
 cases rx
 obtain⟨t,rfl⟩:=ry
 obtain⟨its,r,pl,hz⟩:=I.tuple hq
 obtain⟨j,h1,h2,h3,h4,h5⟩:=GJ he
 obtain⟨w,ew,i_⟩:=r.get h2
 have hl:=r.length
 have hn:=tG
 have fin:EP X pins σ Q w s:=⟨z,H,I,i_,q⟩
 exact subscriptTail_builtinR (x:=w) pl.typeIs slot_tuple_getitem.lookup
  (getItem_tuple (j:=j) (Q:=λr s'=>r=w/\EP X pins σ Q r s') pl (by omega) (by omega) (by rw[Q08,<-hl];exact h1) (by simpa using ew) ⟨rfl,fin⟩) hs
theorem tK:nR X Yd:=by
 intro value slice pins s σ H x y v u Q I rx ry h hs
 obtain⟨z,i,c,rfl,rfl,hz,he,q⟩:=h
 obtain⟨t,rfl⟩:=rx
 obtain⟨t',rfl⟩:=ry
 obtain⟨j,h1,h2,h3,h4,h5⟩:=GJ he
 have hl:z.cps.toList.length=z.length:=by simp[Str.length]
 rw[hl] at h1 h4 h5
 have hn:=tG
 exact tail_any (typeIs_str s z t) slot_str_getitem.lookup (getItem_str (c:=c) (by
  have e1:decide (i< -(2 ^ 63:Int))=false:=decide_eq_false (by omega)
  have e2:decide (i ≥ 2 ^ 63)=false:=decide_eq_false (by omega)
  rw[e1,e2,Bool.or_false]) (by rw[h1];simpa using h2) ⟨.str ⟨#[c]⟩,H,I.tok _,⟨_,rfl⟩,q⟩) hs
noncomputable def Ye (K:W.Frag):R2:=λx y H Q=>GK K x y H Q\/mH K x y H Q\/Yd x y H Q
theorem afm:nR X (Ye X.K):=eO.or (bV.or tK)
theorem afn (its:List Value)(n j:Nat)(u:Value):Obj.mapSeq (·.setIfInBounds j u) { cls:=.type "list",data:=.seq its.toArray n }={ cls:=.type "list",data:=.seq (its.set j u).toArray n }:=by
 simp[Obj.mapSeq]
theorem Inv.lst {pins:List (Addr × Obj)}{σ:St}{H:Hp}{s:Shared}{p:Addr}{xs:List V}(I:Inv X pins σ H s)(h:H p=some (.lst xs)):
 ∃(its:List Value) (n:Nat),Vals xs its/\s.heap.get? p=some { cls:=.type "list",data:=.seq its.toArray n }/\xs.length<=sizeLine:=by
 obtain⟨z,its,n,r,e⟩:=I.hok p _ h
 exact⟨its,n,r,e,z⟩
theorem Inv.afo {pins:List (Addr × Obj)}{σ:St}{H:Hp}{s:Shared}{p:Addr}{xs ys:List V}{its its':List Value}{n n':Nat}{f:Obj->Obj}(I:Inv X pins σ H s)(h:H p=some (.lst xs))
 (ho:s.heap.get? p=some { cls:=.type "list",data:=.seq its.toArray n }) (hf:f { cls:=.type "list",data:=.seq its.toArray n }={ cls:=.type "list",data:=.seq its'.toArray n' }) (r:Vals ys its') (hz:ys.length<=sizeLine) (t:Nat):
 Inv X pins σ (upd H p (.lst ys)) { s with heap:=s.heap.update p f,toks:=t }:=by
 have e:(s.heap.update p f).get? p=some { cls:=.type "list",data:=.seq its'.toArray n' }:=by
  rw[Q18 f ho (by rw[hf] <;> rfl),hf]
 refine I.write (x:=p) (e:=p) (by rw[h];trivial) (.inl rfl) (λb u hb q=>(Q15 _ _ (Ne.symm hb)).trans q) ⟨_,e⟩ ?_
 exact⟨hz,its',n',r,e⟩
noncomputable def afp:V->V->V->Hp->(Hp->Prop)->Prop:=λo i v H Q=>∃p xs k j,o=.ref p/\i=.int k/\H p=some (.lst xs)/\jy xs.length k=some j/\Q (upd H p (.lst (xs.set j v)))
theorem set_list:Xm X afp:=by
 intro pins s σ H o i v ov iv u Q I ro ri rv h
 obtain⟨p,xs,k,j,rfl,rfl,hp,hj,q⟩:=h
 cases ro
 obtain⟨t,rfl⟩:=ri
 obtain⟨its,n,r,ho,hz⟩:=I.lst hp
 obtain⟨h1,h2,h3,h4⟩:=Yc hj
 have hl:=r.length
 have hn:=tG
 have I':Inv X pins σ (upd H p (.lst (xs.set j v))) { s with heap:=s.heap.update p (Obj.mapSeq (·.setIfInBounds j u)) }:=
  I.afo hp ho (afn its n j u) (r.set rv j) (by rw[List.length_set];exact hz) s.toks
 by_cases h0:0<=k
 . have hk:k.toNat=j:=by
    rw[seqIndex_of h0 h4] at h1
    exact Option.some.inj h1
   exact W.ki_setAt ho h0 (by omega) (by rw[Q08,<-hl];exact h4) (by rw[hk];exact⟨_,I',q⟩)
 . have hk:(k+(its.toArray.size:Int)).toNat=j:=by
    rw[seqIndex_neg (by omega) h3] at h1
    rw[Q08,<-hl]
    exact Option.some.inj h1
   exact W.ki_setBack ho (by omega) (by rw[Q08,<-hl];exact h3) (by omega) (by rw[hk];exact⟨_,I',q⟩)
theorem afq (lo hi:Option Int)(n:Nat):(sliceBounds lo hi none n).1=((HT.bJ n 0 lo:Nat):Int)/\(sliceBounds lo hi none n).2.1=((HT.bJ n n hi:Nat):Int)/\(sliceBounds lo hi none n).2.2=1:=by
 refine⟨?_,?_,rfl⟩
 . cases lo with
   |none=>simp[sliceBounds,HT.bJ]
   |some i=>
    simp only[sliceBounds,HT.bJ,Q2j,show(1:Int) > 0 by decide,if_true]
    by_cases h:i<0
    . simp only[h,if_true] <;> omega
    . simp only[h,if_false] <;> omega
 . cases hi with
   |none=>simp[sliceBounds,HT.bJ]
   |some i=>
    simp only[sliceBounds,HT.bJ,Q2j,show(1:Int) > 0 by decide,if_true]
    by_cases h:i<0
    . simp only[h,if_true] <;> omega
    . simp only[h,if_false] <;> omega
theorem afr (its:List Value)(lo hi:Option Int):slicePick its.toArray lo hi none=((its.drop (HT.bJ its.length 0 lo)).take (HT.bJ its.length its.length hi - HT.bJ its.length 0 lo)).toArray:=by
 obtain⟨h1,h2,h3⟩:=afq lo hi its.toArray.size
 unfold slicePick
 rw[h1,h2,h3]
 simp only[sliceRange_one,pick_run,Q08] <;> rfl
noncomputable def afs (K:W.Frag):V->Option Int->Option Int->Hp->VK->Prop:=λx lo hi H Q=>∃a xs,x=.ref a/\aC K H a xs/\∀p,H p=none->Q (.ref p) (upd H p (.lst (iC xs lo hi)))
theorem Yg:GC X (afs X.K):=by
 intro pins s σ H x v vl vu lo hi sl Q I rx hs pl pu h
 obtain⟨a,xs,rfl,hx,q⟩:=h
 cases rx
 obtain⟨its,r,ht,hz⟩:=I.list hx
 have hlen:=r.length
 refine⟨"list",_,slot_list_getitem.lookup,ht.isList.typeIs,?_⟩
 refine wpAny_getItem_list_slice ht.isList hs pl pu .none (by simp) ?_ (by rw[Q08] <;> omega)
 rw[afr,<-hlen]
 refine⟨.ref s.heap.objs.size,_,I.laid (t':=s.toks) (o:=.lst (iC xs lo hi)) (λb ob q=>Q04 _ q) (Q01 _) ?_,rfl,q _ (I.hok.fresh (Q01 _))⟩
 exact⟨Q0c (GF xs lo hi) hz,_,0,(r.drop (HT.bJ xs.length 0 lo)).take (HT.bJ xs.length xs.length hi - HT.bJ xs.length 0 lo),Q0d _ rfl⟩
noncomputable def nU:V->Bool
 | .non=>true
 | .bl _=>true
 | .int _=>true
 | .str _=>true
 |_=>false
noncomputable def nW:V->V->Bool
 | .non,.non=>true
 | .bl a,.bl b=>a == b
 | .bl a,.int b=>(if a then 1 else 0) == b
 | .int a,.bl b=>a == (if b then 1 else 0)
 | .int a,.int b=>a == b
 | .str a,.str b=>a == b
 |_,_=>false
theorem aft {A:Around}{s:Shared}{y x:V}{u v:Value}(ry:RelV y u)(rx:RelV x v)(fy:nU y=true)(fx:nU x=true):SeqAt.EqAt A s u v (nW y x):=by
 cases y with
 |non=>
  cases ry
  cases x with
  |non=>cases rx;exact SeqAt.EqAt.same _
  |bl b=>cases rx;exact SeqAt.EqAt.none_bool b
  |int b=>obtain⟨t,rfl⟩:=rx;exact SeqAt.EqAt.none_int b t
  |str b=>obtain⟨t,rfl⟩:=rx;exact SeqAt.EqAt.none_str b t
  |_=>exact absurd (show false=true from fx) Bool.false_ne_true
 |bl a=>
  cases ry
  cases x with
  |non=>cases rx;exact SeqAt.EqAt.bool_none a
  |bl b=>cases rx;exact SeqAt.EqAt.bool_bool a b
  |int b=>obtain⟨t,rfl⟩:=rx;exact SeqAt.EqAt.bool_int a b t
  |str b=>obtain⟨t,rfl⟩:=rx;exact SeqAt.EqAt.bool_str a b t
  |_=>exact absurd (show false=true from fx) Bool.false_ne_true
 |int a=>
  obtain⟨t',rfl⟩:=ry
  cases x with
  |non=>cases rx;exact SeqAt.EqAt.int_none a t'
  |bl b=>cases rx;exact SeqAt.EqAt.int_bool a t' b
  |int b=>obtain⟨t,rfl⟩:=rx;exact SeqAt.EqAt.int_int a t' b t
  |str b=>obtain⟨t,rfl⟩:=rx;exact SeqAt.EqAt.int_str a t' b t
  |_=>exact absurd (show false=true from fx) Bool.false_ne_true
 |str a=>
  obtain⟨t',rfl⟩:=ry
  cases x with
  |non=>cases rx;exact SeqAt.EqAt.str_none a t'
  |bl b=>cases rx;exact SeqAt.EqAt.str_bool a t' b
  |int b=>obtain⟨t,rfl⟩:=rx;exact SeqAt.EqAt.str_int a t' b t
  |str b=>obtain⟨t,rfl⟩:=rx;exact SeqAt.EqAt.str_str a t' b t
  |_=>exact absurd (show false=true from fx) Bool.false_ne_true
 |_=>exact absurd (show false=true from fy) Bool.false_ne_true
noncomputable def nY (x:V) (u:Value):Bool:=match u with
 | .none=>nW .non x
 | .bool b=>nW (.bl b) x
 | .int i _=>nW (.int i) x
 | .str z _=>nW (.str z) x
 |_=>false
theorem Yh {x y:V}{u:Value}(r:RelV y u)(f:nU y=true):nY x u=nW y x:=by
 cases y with
 |non=>cases r;rfl
 |bl b=>cases r;rfl
 |int i=>obtain⟨t,rfl⟩:=r;rfl
 |str z=>obtain⟨t,rfl⟩:=r;rfl
 |_=>exact absurd (show false=true from f) Bool.false_ne_true
theorem GP {x:V}:∀{xs:List V}{us:List Value},Vals xs us->xs.all nU=true->us.any (nY x)=xs.any λy=>nW y x
 |_,_,.nil,_=>rfl
 |y::xs,u::us,.cons r t,f=>by
  rw[Q23,Bool.and_eq_true] at f
  rw[Q1f,Q1f,Yh r f.1,GP t f.2]
theorem GQ {A:Around}{s:Shared}{x:V}{v:Value}(rx:RelV x v)(fx:nU x=true):∀{xs:List V}{us:List Value},Vals xs us->xs.all nU=true->∀u∈us,SeqAt.EqAt A s u v (nY x u)
 |_,_,.nil,_=>λu hu=>by cases hu
 |y::xs,u::us,.cons r t,f=>λu' hu=>by
  rw[Q23,Bool.and_eq_true] at f
  rcases List.mem_cons.mp hu with rfl|hu
  . rw[Yh r f.1];exact aft r rx f.1 fx
  . exact GQ rx fx t f.2 u' hu
noncomputable def inV (x:V) (xs:List V):Bool:=xs.any λy=>nW y x
noncomputable def Yi (K:W.Frag) (neg:Bool):R2:=λx y H Q=>∃p xs,y=.ref p/\(aC K H p xs\/aH K H p xs)/\nU x=true/\xs.all nU=true/\Q (.bl (if neg then !inV x xs else inV x xs)) H
theorem Yj:dN X (compareOp .In) (Yi X.K false):=by
 intro pins s σ H x y v u Q I rx ry h
 obtain⟨p,xs,rfl,hq,fx,fs,q⟩:=h
 cases ry
 rcases hq with hq|hq
 . obtain⟨its,r,pl,hz⟩:=I.list hq
   refine SeqAt.in_listAt (nY x) pl.isList (λw hw=>GQ rx fx r fs w (by simpa using hw)) ⟨.bl _,H,I,rfl,?_⟩
   rw[show its.toArray.any (nY x)=its.any (nY x) by simp,GP r fs]
   exact q
 . obtain⟨its,r,pl,hz⟩:=I.tuple hq
   refine SeqAt.in_tupleAt (nY x) pl (λw hw=>GQ rx fx r fs w (by simpa using hw)) ⟨.bl _,H,I,rfl,?_⟩
   rw[show its.toArray.any (nY x)=its.any (nY x) by simp,GP r fs]
   exact q
theorem d8:gU X (.builtin "len") (λxs H Q=>∃p ys,xs=[.ref p]/\(aC X.K H p ys\/aH X.K H p ys)/\Q (.int ys.length) H):=by
 intro pins s σ H xs us Q I r h
 obtain⟨p,ys,rfl,hq,q⟩:=h
 obtain⟨u,rfl,rx⟩:=vals1 r
 cases rx
 have hn:=tG
 rcases hq with hq|hq
 . obtain⟨its,r',pl,hz⟩:=I.list hq
   have hlen:=r'.length
   exact Calls.call_len_list pl.isList (by simp only[Q08] <;> omega) ⟨.int ys.length,H,I.tok _,⟨s.toks+1,by rw[Q08,hlen]⟩,q⟩
 . obtain⟨its,r',pl,hz⟩:=I.tuple hq
   have hlen:=r'.length
   exact len_tuple pl (by simp only[Q08] <;> omega) ⟨.int ys.length,H,I.tok _,⟨s.toks+1,by rw[Q08,hlen]⟩,q⟩
theorem afu:gU X (.builtin "len") (λxs H Q=>∃z,xs=[.str z]/\z.length<=sizeLine/\Q (.int z.length) H):=by
 intro pins s σ H xs us Q I r h
 obtain⟨z,rfl,hz,q⟩:=h
 obtain⟨u,rfl,t,rfl⟩:=vals1 r
 have hn:=tG
 exact len_str (by omega) ⟨.int z.length,H,I.tok _,⟨_,rfl⟩,q⟩
theorem Yk:gU X (.type "list") (λxs H Q=>∃p ys,xs=[.ref p]/\(aC X.K H p ys\/aH X.K H p ys)/\∀l,H l=none->Q (.ref l) (upd H l (.lst ys))):=by
 intro pins s σ H xs us Q I r h
 obtain⟨p,ys,rfl,hq,q⟩:=h
 obtain⟨u,rfl,rx⟩:=vals1 r
 cases rx
 have fin:∀(its:List Value),Vals ys its->ys.length<=sizeLine->∀(h':Heap) (c':Nat),(∀b o',s.heap.get? b=some o'->h'.get? b=some o')->
  h'.get? s.heap.objs.size=some { cls:=.type "list",dict:=none,data:=.seq its.toArray c',slots:=#[] }->EP X pins σ Q (.ref s.heap.objs.size) { s with heap:=h' }:=λits r' hz h' c' kp e=>
  ⟨.ref s.heap.objs.size,_,I.laid (t':=s.toks) kp (Q01 _) (show cT X.prog X.w _ h' _ (.lst ys) from⟨hz,its,c',r',e⟩),rfl,q _ (I.hok.fresh (Q01 _))⟩
 rcases hq with hq|hq
 . obtain⟨its,r',pl,hz⟩:=I.list hq
   have hlen:=r'.length
   obtain⟨o,ho,hc,n,hd⟩:=pl.isList
   exact call_list_seq p (.inl rfl) ho hc hd (λh' c' kp e=>fin its r' hz h' c' kp e) (by simp only[Q08] <;> omega)
 . obtain⟨its,r',pl,hz⟩:=I.tuple hq
   have hlen:=r'.length
   obtain⟨o,ho,hc,n,hd⟩:=pl
   exact call_list_seq p (.inr rfl) ho hc hd (λh' c' kp e=>fin its r' hz h' c' kp e) (by simp only[Q08] <;> omega)
theorem Yl:gU X (.type "tuple") (λxs H Q=>∃p ys,xs=[.ref p]/\((aC X.K H p ys/\∀l,H l=none->Q (.ref l) (upd H l (.tup ys)))\/(aH X.K H p ys/\Q (.ref p) H))):=by
 intro pins s σ H xs us Q I r h
 obtain⟨p,ys,rfl,h⟩:=h
 obtain⟨u,rfl,rx⟩:=vals1 r
 cases rx
 rcases h with⟨hq,q⟩|⟨hq,q⟩
 . obtain⟨its,r',pl,hz⟩:=I.list hq
   have hlen:=r'.length
   refine call_tuple_list pl.isList (λh' kp=>?_) (by simp only[Q08] <;> omega)
   have I1:Inv X pins σ H { s with heap:=h' }:=I.kept (t':=s.toks) kp
   have I2:Inv X pins σ (upd H h'.objs.size (.tup ys)) { s with heap:=h'.push { cls:=.type "tuple",data:=.seq its.toArray } }:=
    I1.laid (t':=s.toks) (λb o e=>Q04 _ e) (Q01 _) (show cT X.prog X.w _ _ _ (.tup ys) from⟨hz,its,r',IsTup.new _ _⟩)
   exact⟨.ref h'.objs.size,_,I2,rfl,q _ (I1.hok.fresh (Q01 _))⟩
 . obtain⟨its,r',pl,hz⟩:=I.tuple hq
   exact call_tuple_same pl ⟨.ref p,H,I,rfl,q⟩
noncomputable def GR (K:W.Frag) (T:String) (x:V) (H:Hp):Prop:=match x with
 | .str _=>T="str"
 | .int _=>T="int"
 | .ref p=>(T="list"/\∃xs,aC K H p xs)\/(T="tuple"/\∃o,K.lookup p=some o/\o.cls=.type "tuple"/\o.dict=none)\/
    (T="dict"/\((∃kvs,H p=some (.dK kvs))\/∃kvs,H p=some (.dT kvs)))\/(T="set"/\∃S n,H p=some (.set S n))
 |_=>False
theorem Ym {pins:List (Addr × Obj)}{σ:St}{H:Hp}{s:Shared}{T:String}{x:V}{v:Value}(I:Inv X pins σ H s)(r:RelV x v)(ty:GR X.K T x H):
 s.TypeIs v T/\∀a,v=.ref a->∃ob,s.heap.get? a=some ob/\ob.dict=none:=by
 cases x with
 |str z=>
  obtain⟨t,rfl⟩:=r
  cases(show T="str" from ty)
  exact⟨typeIs_str s z t,λ_ e=>nomatch e⟩
 |int i=>
  obtain⟨t,rfl⟩:=r
  cases(show T="int" from ty)
  exact⟨typeIs_int s i t,λ_ e=>nomatch e⟩
 |ref p=>
  cases r
  rcases ty with⟨rfl,xs,hq⟩|⟨rfl,o,hk,hc,hd⟩|⟨rfl,hk⟩|⟨rfl,S,n,hk⟩
  . obtain⟨its,_,pl,_⟩:=I.list hq
    refine⟨pl.isList.typeIs,λa e=>?_⟩
    cases e
    obtain⟨o,n,e,c,hd,_⟩:=pl
    exact⟨o,e,hd⟩
  . refine⟨⟨o,I.cM p o hk,hc⟩,λa e=>?_⟩
    cases e
    exact⟨o,I.cM _ o hk,hd⟩
  . have z:∃o,s.heap.get? p=some o/\o.ExactDict:=by
     rcases hk with⟨kvs,hk⟩|⟨kvs,hk⟩
     . obtain⟨_,_,_,_,o,_,_,e,ex,_⟩:=I.hok p _ hk
       exact⟨o,e,ex⟩
     . obtain⟨_,_,_,_,o,_,_,e,ex,_⟩:=I.hok p _ hk
       exact⟨o,e,ex⟩
    obtain⟨o,e,ex⟩:=z
    refine⟨⟨o,e,ex.1⟩,λa e2=>?_⟩
    cases e2
    exact⟨o,e,ex.2.1⟩
  . obtain⟨o,_,_,_,e,ex,_⟩:=I.hok p _ hk
    refine⟨⟨o,e,ex.1⟩,λa e2=>?_⟩
    cases e2
    exact⟨o,e,ex.2.1⟩
 |_=>exact False.elim ty
noncomputable def afv (K:W.Frag) (T:String) (r:V->List V->Hp->VK->Prop) (to:TE):TE:=λσ H Q=>to σ H λx H1=>GR K T x H1/\r x [] H1 Q
noncomputable def tBM (K:W.Frag) (T:String) (r:V->List V->Hp->VK->Prop) (to:TE) (t:TA):TE:=λσ H Q=>to σ H λx H1=>GR K T x H1/\t σ H1 λxs H2=>r x xs H2 Q
variable {o e:Expr}{es:List Expr}{to:TE}{t:TA}{name:Str}{apos cpos:Pos}{T id:String}{r:V->List V->Hp->VK->Prop}
theorem afx (pa:PlainAttrs T)(slot:Slot T name id)(hty:typeOf (.builtin id)=pure (.type "method_descriptor"))(hm:wA X id r)(ho:PE X o to)
 (hbase:attributeBase o name X.env (eval o X.env)=eval o X.env:=by rfl) (hline:(apos.endLine == cpos.line)=true:=by rfl):PE X (.Call (.Attribute o name apos) [] [] cpos) (afv X.K T r to):=by
 intro pins s σ H Q I h
 refine wpAny_Call_method0_late hbase hline (aM (ho pins s σ H _ I h) λv s1 ⟨x,H1,I1,r1,ty,q1⟩=>?_)
 obtain⟨h1,h2⟩:=Ym I1 r1 ty
 exact⟨T,id,pa,slot,hty,h1,h2,Calls.callWith_builtin rfl (PySem.evalArgs_none (hm pins s1 σ H1 x [] v [] Q I1 r1 .nil q1))⟩
theorem pW (pa:PlainAttrs T)(slot:Slot T name id)(hty:typeOf (.builtin id)=pure (.type "method_descriptor"))(hm:wA X id r)(ho:PE X o to)(ha:PA X (e::es) t)
 (hbase:attributeBase o name X.env (eval o X.env)=eval o X.env:=by rfl)
 (hfew:((backTo cpos (starEach (e::es) X.env)).all (λx=> !x.1) && (backToKw cpos (keywordEach [] X.env)).all (λx=>x.1.isSome)
   && decide ((e::es).length+([]:List Keyword).length+(if([]:List Keyword).isEmpty then 0 else 1)<30))=true:=by rfl)
 (hline:(apos.endLine == cpos.line)=true:=by rfl) (hs:starEach (e::es) X.env=(false,eval e X.env)::starEach es X.env:=by rfl) (hplain:(backTo cpos (starEach es X.env)).any (·.1)=false:=by rfl):
 PE X (.Call (.Attribute o name apos) (e::es) [] cpos) (tBM X.K T r to t):=by
 intro pins s σ H Q I h
 refine wpAny_Call_method_late hbase hfew hline rfl (aM (ho pins s σ H _ I h) λv s1 ⟨x,H1,I1,r1,ty,q1⟩=>?_)
 obtain⟨h1,h2⟩:=Ym I1 r1 ty
 refine⟨T,id,pa,slot,hty,h1,h2,?_⟩
 have hA:=ha cpos pins s1 σ H1 _ I1 q1
 rw[hs] at hA ⊢
 refine Calls.callWith_builtin (by show(false || (backTo cpos (starEach es X.env)).any (·.1))=false;rw[hplain] <;> rfl) (Calls.evalArgs_plain ?_)
 exact aM hA λus s2 ⟨vs,H2,I2,r2,q2⟩=>hm pins s2 σ H2 x vs v us Q I2 r1 r2 q2
/- xs.append(e),list.index on a module's tuple .. are wA facts of 06m -/
end
noncomputable def Ae (X:Cx) (id:String) (r:V->List V->Hp->VK->Prop):Prop:=
 ∀(pins:List (Addr × Obj)) (s:Shared) (σ:St) (H:Hp) (x:V) (xs:List V) (v:Value) (us:List Value) (Q:VK),Inv X pins σ H s->RelV x v->Vals xs us->r x xs H Q->
  wpAny (model X.prog X.w) X.A (call (.builtin id) (v::us)) (EP X pins σ Q) X.xe s
theorem Vals.one:∀{x:V}{us:List Value},Vals [x] us->∃u,us=[u]/\RelV x u
 |_,_,.cons r .nil=>⟨_,rfl,r⟩
theorem Vals.zero:∀{us:List Value},Vals [] us->us=[]
 |_,.nil=>rfl
theorem Vals.dropLast {xs:List V}{us:List Value}(h:Vals xs us):Vals xs.dropLast us.dropLast:=by
 induction h with
 |nil=>exact .nil
 |cons r t ih=>
  cases t with
  |nil=>exact .nil
  |cons q t'=>exact .cons r ih
theorem afy {α:Type}(l:List α):l.eraseIdx (l.length - 1)=l.dropLast:=by
 induction l with
 |nil=>rfl
 |cons a r ih=>
  cases r with
  |nil=>rfl
  |cons b r=>
   have e:(a::b::r).length - 1=((b::r).length - 1)+1:=by
    have h1:(a::b::r).length=r.length+2:=rfl
    have h2:(b::r).length=r.length+1:=rfl
    omega
   rw[e,List.eraseIdx_cons_succ,ih]
   all_goals rfl
section
variable {X:Cx}{pins:List (Addr × Obj)}{σ:St}{H:Hp}{s:Shared}{l b:Addr}{xs ys zs:List V}
theorem Inv.GX {its its':List Value}{n:Nat}{f:Array Value->Array Value}{t':Nat}(I:Inv X pins σ H s)(hH:H l=some (.lst xs))
 (e:s.heap.get? l=some { cls:=.type "list",data:=.seq its.toArray n }) (hf:f its.toArray=its'.toArray) (hv:Vals ys its') (hz:ys.length<=sizeLine):
 Inv X pins σ (upd H l (.lst ys)) { s with heap:=s.heap.update l (Obj.mapSeq f),toks:=t' }:=by
 have q:=PySem.IsL.update e f
 rw[hf] at q
 refine I.write (x:=l) (e:=l) (by rw[hH];exact trivial) (.inl rfl) (λb' u hb hu=>(Q15 s.heap (Obj.mapSeq f) (Ne.symm hb)).trans hu) ⟨_,q⟩ ?_
 exact⟨hz,its',_,hv,q⟩
theorem Inv.afz {its:List Value}{t':Nat}(I:Inv X pins σ H s)(hv:Vals ys its)(hz:ys.length<=sizeLine):
 Inv X pins σ (upd H s.heap.objs.size (.lst ys)) { s with heap:=s.heap.push { cls:=.type "list",data:=.seq its.toArray },toks:=t' }:=
 I.laid (λ_ _ q=>Q04 _ q) (Q01 _) ⟨hz,its,0,hv,Q0d _ rfl⟩
theorem Inv.fresh (I:Inv X pins σ H s):H s.heap.objs.size=none:=I.hok.fresh (Q01 _)
theorem Inv.tL (I:Inv X pins σ H s)(hH:H l=some (.lst xs)):xs.length<=sizeLine/\∃(its:List Value) (n:Nat),Vals xs its/\xs.length=its.length/\s.heap.get? l=some { cls:=.type "list",data:=.seq its.toArray n }:=by
 obtain⟨z,its,n,r,e⟩:=I.hok l _ hH
 exact⟨z,its,n,r,r.length,e⟩
theorem afA {n:Nat}(h:n<=sizeLine):Builtin.List.listTooLong n=false:=by
 unfold Builtin.List.listTooLong
 exact decide_eq_false (by omega)
end
section
variable {X:Cx}
noncomputable def afB:V->List V->Hp->VK->Prop:=λx vs H Q=>∃l xs y,x=.ref l/\vs=[y]/\H l=some (.lst xs)/\xs.length<sizeLine/\Q .non (upd H l (.lst (xs++[y])))
theorem GZ:Ae X "list.append" afB:=by
 intro pins s σ H x vs v us Q I rx rv h
 obtain⟨l,xs,y,rfl,rfl,hH,hz,q⟩:=h
 cases rx
 obtain⟨u,rfl,ru⟩:=rv.one
 obtain⟨z,its,n,r,hl,e⟩:=I.tL hH
 refine call_meets F.slot_list_append ⟨_,e,rfl⟩ F.entry_list_append (F.args_list_append_2 _ _) (PySem.list_append l its.toArray n u (by rw[Q08];omega)) ⟨e,?_⟩
 refine⟨.non,_,I.GX (its':=its++[u]) hH e (by simp) (r.append (.cons ru .nil)) ?_,rfl,q⟩
 rw[Q07,Q24]
 omega
noncomputable def afC:V->List V->Hp->VK->Prop:=λx vs H Q=>∃l b xs zs,x=.ref l/\vs=[.ref b]/\H l=some (.lst xs)/\H b=some (.lst zs)/\xs.length+zs.length<=sizeLine/\Q .non (upd H l (.lst (xs++zs)))
theorem afD:Ae X "list.extend" afC:=by
 intro pins s σ H x vs v us Q I rx rv h
 obtain⟨l,b,xs,zs,rfl,rfl,hH,hB,hz,q⟩:=h
 cases rx
 obtain⟨u,rfl,ru⟩:=rv.one
 cases ru
 obtain⟨z,its,n,r,hl,e⟩:=I.tL hH
 obtain⟨z2,its2,n2,r2,hl2,e2⟩:=I.tL hB
 have hsz:its.toArray.size+its2.toArray.size<=sizeLine:=by rw[Q08,Q08];omega
 have afE:¬(!its.toArray.isEmpty && Builtin.List.listTooLong (its.toArray.size+its2.toArray.size))=true:=by
  rw[afA hsz,Bool.and_false]
  exact Bool.false_ne_true
 refine call_meets F.slot_list_extend ⟨_,e,rfl⟩ F.entry_list_extend (F.args_list_extend_2 _ _)
  (AutoSeq1.list_extend_list_list_0 l its.toArray n b its2.toArray n2 afE (by rw[Q08];omega) (by omega)) ⟨e,e2,?_⟩
 refine⟨.non,_,I.GX (its':=its++its2) hH e (by simp) (r.append r2) ?_,rfl,q⟩
 rw[Q07]
 omega
noncomputable def afF:V->List V->Hp->VK->Prop:=λx vs H Q=>∃l xs y,x=.ref l/\vs=[]/\H l=some (.lst xs)/\xs[xs.length - 1]? =some y/\Q y (upd H l (.lst xs.dropLast))
theorem afG:Ae X "list.pop" afF:=by
 intro pins s σ H x vs v us Q I rx rv h
 obtain⟨l,xs,y,rfl,rfl,hH,hy,q⟩:=h
 cases rx
 have hus:=rv.zero
 subst hus
 obtain⟨z,its,n,r,hl,e⟩:=I.tL hH
 obtain⟨u,hu,ru⟩:=r.get hy
 have hy':its.toArray[its.toArray.size - 1]? =some u:=by
  show its.toArray[its.length - 1]? =some u
  rw[<-Array.getElem?_toList,<-hl]
  exact hu
 refine call_meets F.slot_list_pop ⟨_,e,rfl⟩ F.entry_list_pop (F.args_list_pop_1 _) (MeetsSeq.list_pop_last l its.toArray n u hy' (by rw[Q08];omega)) ⟨e,?_⟩
 refine⟨y,_,I.GX (its':=its.dropLast) hH e ?_ r.dropLast ?_,ru,q⟩
 . show its.toArray.eraseIdxIfInBounds (its.toArray.size - 1)=its.dropLast.toArray
   rw[Q08,List.eraseIdxIfInBounds_toArray,afy]
 . rw[List.length_dropLast]
   omega
noncomputable def afH:R2:=λx y H Q=>∃l b xs zs,x=.ref l/\y=.ref b/\H l=some (.lst xs)/\H b=some (.lst zs)/\xs.length+zs.length<=sizeLine/\∀p,H p=none->Q (.ref p) (upd H p (.lst (xs++zs)))
theorem Af:dN X (binaryOp .Add) afH:=by
 intro pins s σ H x y v u Q I rx ry h
 obtain⟨l,b,xs,zs,rfl,rfl,hH,hB,hz,q⟩:=h
 cases rx
 cases ry
 obtain⟨z,its,n,r,hl,e⟩:=I.tL hH
 obtain⟨z2,its2,n2,r2,hl2,e2⟩:=I.tL hB
 refine PySem.P.add_list e e2 ?_ (by rw[Q08,Q08];omega)
 have ea:its.toArray++its2.toArray=(its++its2).toArray:=by simp
 rw[ea]
 exact⟨.ref _,_,I.afz (t':=s.toks) (r.append r2) (by rw[Q07];omega),rfl,q _ I.fresh⟩
end
section
variable {prog:Program}{w:World}{A:Around}{E:Value->Shared->Prop}{s:Shared}
end
section
variable {X:Cx}
end
section
variable {κ:Type} [DecidableEq κ]
noncomputable def dO (kvs:List (κ × V)) (k:κ):Option V:=(kvs.find? λkv=>decide (kv.1=k)).map (·.2)
noncomputable def putK (kvs:List (κ × V)) (k:κ) (v:V):List (κ × V):=
 if(kvs.any λkv=>decide (kv.1=k))=true then kvs.map (λkv=>if kv.1=k then(kv.1,v) else kv) else kvs++[(k,v)]
noncomputable def qZ (kvs:List (κ × V)) (k:κ):List (κ × V):=kvs.filter λkv=>decide (kv.1≠k)
theorem wB {p:κ × V}{r:List (κ × V)}{k:κ}(e:p.1=k):dO (p::r) k=some p.2:=by simp[dO,Q1g,e]
theorem tM {p:κ × V}{r:List (κ × V)}{k:κ}(e:¬p.1=k):dO (p::r) k=dO r k:=by simp[dO,Q1g,e]
theorem Ag (k:κ):∀kvs:List (κ × V),(kvs.any λkv=>decide (kv.1=k))=(dO kvs k).isSome
 |[]=>rfl
 |p::r=>by
  rw[Q1f]
  by_cases e:p.1=k
  . simp only[wB e,decide_eq_true e,Bool.true_or,Option.isSome_some]
  . rw[tM e,decide_eq_false e,Bool.false_or];exact Ag k r
theorem Yn (kvs:List (κ × V))(k:κ)(v:V):(putK kvs k v).length<=kvs.length+1:=by
 unfold putK
 split
 . rw[Q06];omega
 . rw[Q07,Q0r,Q2k];omega
theorem gA.wC {o:Option V}{u:Option Value}(r:gA o u):o.isSome=u.isSome:=by
 cases o with
 |none=>cases u with
  |none=>rfl
  |some _=>exact(show False from r).elim
 |some _=>cases u with
  |none=>exact(show False from r).elim
  |some _=>rfl
theorem KV.val {kvs:List (κ × V)}{vs:List (κ × Value)}(r:KV kvs vs)(k:κ):gA (dO kvs k) (valueAt vs k):=by
 unfold KV at r
 induction r with
 |nil=>exact True.intro
 |@cons p q ps qs h t ih=>
  obtain⟨h1,h2⟩:=h
  by_cases e:p.1=k
  . have e':q.1=k:=h1.symm.trans e
    have b:valueAt (q::qs) k=some q.2:=by simp[valueAt,Q1g,e']
    rw[wB e,b];exact h2
  . have e':¬q.1=k:=λz=>e (h1.trans z)
    have b:valueAt (q::qs) k=valueAt qs k:=by simp[valueAt,Q1g,e']
    rw[tM e,b];exact ih
theorem KV.any {kvs:List (κ × V)}{vs:List (κ × Value)}(r:KV kvs vs)(k:κ):(kvs.any λkv=>decide (kv.1=k))=vs.any λkv=>decide (kv.1=k):=by
 unfold KV at r
 induction r with
 |nil=>rfl
 |cons h t ih=>rw[Q1f,Q1f,ih,h.1]
theorem KV.repl {kvs:List (κ × V)}{vs:List (κ × Value)}(r:KV kvs vs)(k:κ){y:V}{u:Value}(ry:RelV y u):
 KV (kvs.map λkv=>if kv.1=k then(kv.1,y) else kv) (vs.map λkv=>if kv.1=k then(kv.1,u) else kv):=by
 unfold KV at r ⊢
 induction r with
 |nil=>exact .nil
 |@cons p q ps qs h t ih=>
  rw[Q0v,Q0v]
  refine .cons ?_ ih
  obtain⟨h1,h2⟩:=h
  by_cases e:p.1=k
  . rw[if_pos e,if_pos (h1.symm.trans e)];exact⟨h1,ry⟩
  . rw[if_neg e,if_neg (λz=>e (h1.trans z))];exact⟨h1,h2⟩
theorem KV.put {kvs:List (κ × V)}{vs:List (κ × Value)}(r:KV kvs vs)(k:κ){y:V}{u:Value}(ry:RelV y u):KV (putK kvs k y) (stored vs k u):=by
 unfold putK stored
 rw[r.any k]
 by_cases e:(vs.any λkv=>decide (kv.1=k))=true
 . rw[if_pos e,if_pos e];exact r.repl k ry
 . rw[if_neg e,if_neg e];exact Paired.snoc r ⟨rfl,ry⟩
theorem KV.drop {kvs:List (κ × V)}{vs:List (κ × Value)}(r:KV kvs vs)(k:κ):KV (qZ kvs k) (without vs k):=by
 unfold KV at r ⊢
 unfold qZ without
 induction r with
 |nil=>exact .nil
 |@cons p q ps qs h t ih=>
  obtain⟨h1,h2⟩:=h
  rw[Q0s,Q0s]
  by_cases e:p.1=k
  . have a:¬decide (p.1≠k)=true:=by simp[e]
    have b:¬decide (q.1≠k)=true:=by simp[h1.symm.trans e]
    rw[if_neg a,if_neg b];exact ih
  . have e':¬q.1=k:=λz=>e (h1.trans z)
    have a:decide (p.1≠k)=true:=by simp[e]
    have b:decide (q.1≠k)=true:=by simp[e']
    rw[if_pos a,if_pos b];exact .cons ⟨h1,h2⟩ ih
theorem KV.length {kvs:List (κ × V)}{vs:List (κ × Value)}(r:KV kvs vs):kvs.length=vs.length:=Paired.length r
theorem afI (kvs:List (κ × V))(k:κ):(qZ kvs k).length<=kvs.length:=Q0z _ _
end
theorem tO {P:Program}{w:World}{k:Key}{u:Value}(r:RelV (kV k) u):(cJ P w).is k u=true:=by
 cases k with
 |inl i=>obtain⟨t,e⟩:=(show ∃t,u=Value.int i t from r);subst e;exact aed P w i t
 |inr x=>obtain⟨t,e⟩:=(show ∃t,u=Value.str x t from r);subst e;exact aee P w x t
theorem Yo {P:Program}{w:World}:∀{ks:List Key}{us:List Value},Vals (ks.map kV) us->ItemsAre (cJ P w) ks us
 |[],_,r=>by rw[List.map_nil] at r;cases r;exact .nil
 |k::ks,_,r=>by
  rw[Q0v] at r
  cases r with
  |cons h t=>exact .cons (tO h) (Yo t)
noncomputable abbrev KT (H:Hp):List (List Key × V)->List (List Key × Addr × Value)->Prop:=Paired λp q=>p.1=q.1/\H q.2.1=some (.tup (p.1.map kV))/\RelV p.2 q.2.2
theorem KT.val {H:Hp}{kvs:List (List Key × V)}{xs:List (List Key × Addr × Value)}(r:KT H kvs xs)(k:List Key):gA (dO kvs k) ((atKey xs k).map (·.2)):=by
 induction r with
 |nil=>exact True.intro
 |@cons p q ps qs h t ih=>
  obtain⟨h1,_,h2⟩:=h
  by_cases e:p.1=k
  . have e':q.1=k:=h1.symm.trans e
    have b:atKey (q::qs) k=some q.2:=by simp[atKey,Q1g,e']
    rw[wB e,b];exact h2
  . have e':¬q.1=k:=λz=>e (h1.trans z)
    have b:atKey (q::qs) k=atKey qs k:=by simp[atKey,Q1g,e']
    rw[tM e,b];exact ih
theorem KT.repl {H:Hp}{kvs:List (List Key × V)}{xs:List (List Key × Addr × Value)}(r:KT H kvs xs)(k:List Key){y:V}{u:Value}(ry:RelV y u):
 KT H (kvs.map λkv=>if kv.1=k then(kv.1,y) else kv) (xs.map (putAt k u)):=by
 induction r with
 |nil=>exact .nil
 |@cons p q ps qs h t ih=>
  rw[Q0v,Q0v]
  refine .cons ?_ ih
  obtain⟨h1,h2,h3⟩:=h
  unfold putAt
  by_cases e:p.1=k
  . rw[if_pos e,if_pos (h1.symm.trans e)];exact⟨h1,h2,ry⟩
  . rw[if_neg e,if_neg (λz=>e (h1.trans z))];exact⟨h1,h2,h3⟩
theorem KT.put {H:Hp}{kvs:List (List Key × V)}{xs:List (List Key × Addr × Value)}(r:KT H kvs xs)(k:List Key){b:Addr}{y:V}{u:Value}(hb:H b=some (.tup (k.map kV)))(ry:RelV y u):
 KT H (putK kvs k y) (storedH xs k b u):=by
 have e:(kvs.any λkv=>decide (kv.1=k))=(atKey xs k).isSome:=by
  rw[Ag,(r.val k).wC,Q25]
 unfold putK storedH
 rw[e]
 by_cases q:(atKey xs k).isSome=true
 . rw[if_pos q,if_pos q];exact r.repl k ry
 . rw[if_neg q,if_neg q];exact Paired.snoc r ⟨rfl,hb,ry⟩
theorem KT.keeps {H H':Hp}{kvs:List (List Key × V)}{xs:List (List Key × Addr × Value)}(r:KT H kvs xs)(ht:∀b ys,H b=some (.tup ys)->H' b=some (.tup ys)):KT H' kvs xs:=
 Paired.Ga r λ_ _ z=>⟨z.1,ht _ _ z.2.1,z.2.2⟩
section
variable {P:Program}{w:World}{H:Hp}{h:Heap}{a:Addr}
theorem Yp {u:HO}(ok:cL P w H h)(e:Rd H a u):cT P w H h a u:=e.ok ok
theorem tQ {kvs:List (Key × V)}(ok:cL P w H h)(e:Rd H a (.dK kvs)):kvs.length<=sizeLine/\(a == sysModules)=false/\∃vs,KV kvs vs/\h.DictOf (cJ P w) a vs:=
 show cT P w H h a (.dK kvs) from Yp ok e
theorem wD {kvs:List (Key × V)}(ok:cL P w H h)(e:H a=some (.dK kvs)):kvs.length<=sizeLine/\(a == sysModules)=false/\∃vs,KV kvs vs/\h.DictOf (cJ P w) a vs:=tQ ok (.inl e)
theorem wF {ks:List Key}(ok:cL P w H h)(e:H a=some (.tup (ks.map kV))):(tupleKind (cJ P w)).is h ks a:=by
 obtain⟨_,its,r,o,h1,h2,n,h3⟩:=(show cT P w H h a (.tup (ks.map kV)) from ok a _ e)
 exact⟨o,its.toArray,n,h1,h2,h3,by simpa using Yo r⟩
theorem wG {kvs:List (List Key × V)}(ok:cL P w H h)(e:Rd H a (.dT kvs)):kvs.length<=sizeLine/\(a == sysModules)=false/\
 ∃xs,KT H kvs xs/\h.DictOfH (tupleKind (cJ P w)) a xs:=by
 obtain⟨z,y,xs,r,o,es,ep,h1,h2,h3,h4,h5⟩:=(show cT P w H h a (.dT kvs) from Yp ok e)
 refine⟨z,y,xs,r,o,es,ep,h1,h2,h3,h4,λx hx=>?_,h5⟩
 have all:∀{l:List (List Key × V)} {m:List (List Key × Addr × Value)},KT H l m->∀x∈m,(tupleKind (cJ P w)).is h x.1 x.2.1:=by
  intro l m q
  induction q with
  |nil=>intro x hx;exact nomatch hx
  |@cons p q ps qs hq t ih=>
   intro x hx
   rcases List.mem_cons.mp hx with e|hx
   . subst e
     exact wF ok (by rw[<-hq.1];exact hq.2.1)
   . exact ih x hx
 exact all r x hx
theorem afJ {kvs:List (List Key × V)}(ok:cL P w H h)(e:H a=some (.dT kvs)):kvs.length<=sizeLine/\(a == sysModules)=false/\
 ∃xs,KT H kvs xs/\h.DictOfH (tupleKind (cJ P w)) a xs:=wG ok (.inl e)
end
noncomputable def cG (H:Hp) (a:Addr) (y:V) (r:Option V):Prop:=
 (∃kvs k,Rd H a (.dK kvs)/\y=kV k/\r=dO kvs k)\/∃kvs k b,Rd H a (.dT kvs)/\y=.ref b/\H b=some (.tup (k.map kV))/\r=dO kvs k
noncomputable def nZ (H:Hp) (a:Addr) (y v:V) (H':Hp):Prop:=
 (∃kvs k,H a=some (.dK kvs)/\y=kV k/\kvs.length<sizeLine/\H'=upd H a (.dK (putK kvs k v)))\/
 ∃kvs k b,H a=some (.dT kvs)/\y=.ref b/\H b=some (.tup (k.map kV))/\kvs.length<sizeLine/\H'=upd H a (.dT (putK kvs k v))
theorem cG.k {H:Hp}{a:Addr}{kvs:List (Key × V)}{k:Key}(e:H a=some (.dK kvs)):cG H a (kV k) (dO kvs k):=.inl ⟨kvs,k,.inl e,rfl,rfl⟩
theorem nZ.k {H:Hp}{a:Addr}{kvs:List (Key × V)}{k:Key}{v:V}(e:H a=some (.dK kvs))(hl:kvs.length<sizeLine):nZ H a (kV k) v (upd H a (.dK (putK kvs k v))):=.inl ⟨kvs,k,e,rfl,hl,rfl⟩
section
variable {X:Cx}{pins:List (Addr × Obj)}{σ:St}{H:Hp}{s:Shared}{a:Addr}{y v:V}{u r:Value}{o:Option V}{A:Around}{E:Value->Shared->Prop}
theorem Inv.big (I:Inv X pins σ H s):sysModules<s.heap.objs.size:=by
 have h:mainGlobals<s.heap.objs.size:=(I.mod.glob.keeps I.bk).lt
 exact Nat.lt_trans (by decide) h
theorem afK {Q:Value->Shared->Prop}(hu:A.units+1<cLine)(I:Inv X pins σ H s)(g:cG H a y (some v))(ry:RelV y u)(h:∀w' s',Inv X pins σ H s'->RelV v w'->Q w' s'):
 wpAny (model X.prog X.w) A (getItem (.ref a) u) Q E s:=by
 rcases g with⟨kvs,k,e,ey,l⟩|⟨kvs,k,b,e,ey,eb,l⟩
 . subst ey
   obtain⟨z,hd,vs,rel,dd⟩:=tQ I.hok e
   obtain⟨w',hw,i_⟩:=gA.some_of (v:=v) (o:=valueAt vs k) (by rw[l];exact rel.val k)
   exact wpAny_getItem_of (tO ry) dd.mapOf hw (h w' _ (I.tok _) i_)
 . subst ey
   cases(show u=Value.ref b from ry)
   obtain⟨z,hd,xs,rel,dd⟩:=wG I.hok e
   obtain⟨w',hw,i_⟩:=gA.some_of (v:=v) (o:=(atKey xs k).map (·.2)) (by rw[l];exact rel.val k)
   obtain⟨p,hp,hp2⟩:=Option.map_eq_some_iff.mp hw
   refine wpAny_getItem_heap (tupleKind_room_in1 hu) (wF I.hok eb) dd hp ?_
   rw[hp2]
   exact h w' _ (I.tok _) i_
theorem afL {Q:Value->Shared->Prop}(hu:A.units+1<cLine)(I:Inv X pins σ H s)(g:cG H a y o)(ry:RelV y u)(h:∀s',Inv X pins σ H s'->Q (.bool o.isSome) s'):
 wpAny (model X.prog X.w) A (compareOp .In u (.ref a)) Q E s:=by
 rcases g with⟨kvs,k,e,ey,l⟩|⟨kvs,k,b,e,ey,eb,l⟩
 . subst ey
   obtain⟨z,hd,vs,rel,dd⟩:=tQ I.hok e
   refine wpAny_in_of (tO ry) hd dd.mapOf ?_
   rw[<-(rel.val k).wC,<-l]
   exact h _ (I.tok _)
 . subst ey
   cases(show u=Value.ref b from ry)
   obtain⟨z,hd,xs,rel,dd⟩:=wG I.hok e
   refine wpAny_in_heap (tupleKind_room_in1 hu) (wF I.hok eb) hd dd ?_
   have q:=(rel.val k).wC
   rw[Q25] at q
   rw[<-q,<-l]
   exact h _ (I.tok _)
theorem afM {Q:Value->Shared->Prop}(hu:A.units+1<cLine)(I:Inv X pins σ H s)(g:cG H a y o)(ry:RelV y u)(h:∀s',Inv X pins σ H s'->Q (.bool (!o.isSome)) s'):
 wpAny (model X.prog X.w) A (compareOp .NotIn u (.ref a)) Q E s:=by
 rcases g with⟨kvs,k,e,ey,l⟩|⟨kvs,k,b,e,ey,eb,l⟩
 . subst ey
   obtain⟨z,hd,vs,rel,dd⟩:=tQ I.hok e
   refine wpAny_notIn_of (tO ry) hd dd.mapOf ?_
   rw[<-(rel.val k).wC,<-l]
   exact h _ (I.tok _)
 . subst ey
   cases(show u=Value.ref b from ry)
   obtain⟨z,hd,xs,rel,dd⟩:=wG I.hok e
   refine wpAny_notIn_heap (tupleKind_room_in1 hu) (wF I.hok eb) hd dd ?_
   have q:=(rel.val k).wC
   rw[Q25] at q
   rw[<-q,<-l]
   exact h _ (I.tok _)
theorem Ah {h':Heap}{t':Nat}{ob:HO}(I:Inv X pins σ H s)(mu:vY (H a))(hs:Heap.SameBut a s.heap h')(he:∃q,h'.get? a=some q)(new:cT X.prog X.w (upd H a ob) h' a ob):
 Inv X pins σ (upd H a ob) { s with heap:=h',toks:=t' }:=
 I.write (x:=a) (e:=a) mu (.inl rfl) (λb q hb z=>(hs.2 b hb).trans z) he new
theorem G4 {P:Program}{w:World}{H':Hp}{h':Heap}{kvs:List (Key × V)}{vs:List (Key × Value)}(z:kvs.length<=sizeLine)(hd:(a == sysModules)=false)(rel:KV kvs vs)(dd:h'.DictOf (cJ P w) a vs):
 cT P w H' h' a (.dK kvs):=⟨z,hd,vs,rel,dd⟩
theorem afN {H':Hp}{Q:Unit->Shared->Prop}(hu:A.units+1<cLine)(I:Inv X pins σ H s)(g:nZ H a y v H')(ry:RelV y u)(rv:RelV v r)(h:∀s',Inv X pins σ H' s'->Q () s'):
 wpAny (model X.prog X.w) A (setItem (.ref a) u r) Q E s:=by
 rcases g with⟨kvs,k,e,ey,l,eH⟩|⟨kvs,k,b,e,ey,eb,l,eH⟩
 . subst ey eH
   obtain⟨z,hd,vs,rel,dd⟩:=wD I.hok e
   have hz:vs.length<=sizeLine:=by rw[<-rel.length];exact z
   have hl:(putK kvs k v).length<=sizeLine:=by have:=Yn kvs k v;omega
   refine wpAny_setItem_pairs (hsz:=hz) (tO ry) dd λh' mJ hs=>h _ ?_
   have he:∃q,h'.get? a=some q:=let⟨q,_,_,hq,_⟩:=mJ;⟨q,hq⟩
   exact Ah I (by rw[e];exact True.intro) hs he (G4 hl hd (rel.put k rv) mJ)
 . subst ey eH
   cases(show u=Value.ref b from ry)
   obtain⟨z,hd,xs,rel,dd⟩:=afJ I.hok e
   have hz:xs.length<=sizeLine:=by rw[<-Paired.length rel];exact z
   have hl:(putK kvs k v).length<=sizeLine:=by have:=Yn kvs k v;omega
   refine wpAny_setItem_heap (hsz:=hz) (tupleKind_room_in1 hu) (wF I.hok eb) dd λh' mJ hs=>h _ ?_
   obtain⟨q,es,ep,hq,h2,h3,h4,_,h5⟩:=mJ
   refine Ah I (by rw[e];exact True.intro) hs ⟨q,hq⟩ ⟨hl,hd,_,(rel.put k eb rv).keeps λc ys ec=>?_,q,es,ep,hq,h2,h3,h4,h5⟩
   rw[au (kY ec e (λz=>nomatch z))]
   exact ec
end
section
variable {X:Cx}{pins:List (Addr × Obj)}{σ:St}{H:Hp}{s:Shared}{a:Addr}{kvs:List (Key × V)}{k:Key}{u:Value}{A:Around}{E:Value->Shared->Prop}
theorem afO {v:V}{more:List Value}{Q:Value->Shared->Prop}(I:Inv X pins σ H s)(e:H a=some (.dK kvs))(ry:RelV (kV k) u)(l:dO kvs k=some v)(hm:more=[]\/∃x,more=[x])
 (h:∀w' s',Inv X pins σ (upd H a (.dK (qZ kvs k))) s'->RelV v w'->Q w' s'):wpAny (model X.prog X.w) A (call (.builtin "dict.pop") (.ref a::u::more)) Q E s:=by
 obtain⟨z,hd,vs,rel,dd⟩:=wD I.hok e
 obtain⟨w',hw,i_⟩:=gA.some_of (v:=v) (o:=valueAt vs k) (by rw[<-l];exact rel.val k)
 have hp:(keyPart u).isSome=true:=by
  cases k with
  |inl i=>obtain⟨t,q⟩:=(show ∃t,u=Value.int i t from ry);subst q;rfl
  |inr x=>obtain⟨t,q⟩:=(show ∃t,u=Value.str x t from ry);subst q;rfl
 have ha:argsOk "dict.pop" ⟨.ref a::u::more,[]⟩:=by
  rcases hm with q|⟨x,q⟩
  . subst q;exact PySem.F.args_dict_pop_2 _ _
  . subst q;exact PySem.F.args_dict_pop_3 _ _ _
 refine call_meetsIn PySem.F.slot_dict_pop dd.typeIs PySem.F.entry_dict_pop ha (meets_dict_pop_there (cJ X.prog X.w) a (tO ry) more hm hp)
  ⟨vs,w',dd,by rw[<-rel.length];exact z,hw,λh' mJ hs=>h w' _ ?_ i_⟩
 have he:∃q,h'.get? a=some q:=let⟨q,_,_,hq,_⟩:=mJ;⟨q,hq⟩
 exact Ah I (by rw[e];exact True.intro) hs he (G4 (Q0c (afI kvs k) z) hd (rel.drop k) mJ)
theorem afP {Q:Value->Shared->Prop}(I:Inv X pins σ H s)(e:Rd H a (.dK kvs))(h:∀t s',Inv X pins σ H s'->Q (.int kvs.length t) s'):wpAny (model X.prog X.w) A (call (.builtin "len") [.ref a]) Q E s:=by
 obtain⟨z,hd,vs,rel,dd⟩:=tQ I.hok e
 refine call_len_dict hd dd (by rw[<-rel.length];rw[sizeLine_eq] at z;omega) ?_
 rw[<-rel.length]
 exact h _ _ (I.tok _)
end
noncomputable def Yq (i:Expr):Prop:=∀ov iv,subscripted i false ov iv=operate [ov,iv] (getItem ov iv)
theorem afQ {prog:Program}{w:World}{A:Around}{E:Value->Shared->Prop}{s:Shared}{env:Env}{value slice:Expr}{pos:Pos}{T id:String}{Q:Value->Shared->Prop}
 (hl:typeLookup (.type T) "__getitem__"=pure (some (.builtin id))) (hs:Yq slice)
 (h:wpAny (model prog w) A (eval value env) (λo s₁=>wpAny (model prog w) A (eval slice env) (λi s₂=>s₂.TypeIs o T/\wpAny (model prog w) A (getItem o i) Q E s₂) E s₁) E s):
 wpAny (model prog w) A (eval (.Subscript value slice pos) env) Q E s:=by
 refine Subscript_ (Q0h h (λo s₁ h₁=>Q0h h₁ (λi s₂ h₂=>?_) λ_ _ x=>x) λ_ _ x=>x)
 obtain⟨hT,h₂⟩:=h₂
 unfold subscriptTail
 refine Q00 ?_
 rw[getitemInPython_of_ne hT.not_modules]
 refine Q00 (wpAny_specialOf hT hl ?_)
 have fin:wpAny (model prog w) A (subscripted slice false o i) (λr s₃=>wpAny (model prog w) A (letTemporaryGo value o r >>= λ_=>pure r) Q E s₃) E s₂:=by
  rw[hs o i]
  exact wpAny_operating (Q0h h₂ (λr s₃ h₃=>Q00 (wpAny_letTemporaryGo (Q03 h₃))) λ_ _ x=>x)
 first
  |exact Q03 (Q00 fin)
  |exact Q00 (Q03 (Q00 fin))
  |exact Q00 fin
theorem afR {X:Cx}{pins:List (Addr × Obj)}{σ:St}{H:Hp}{s:Shared}{a:Addr}{y:V}{o:Option V}(I:Inv X pins σ H s)(g:cG H a y o):s.TypeIs (.ref a) "dict":=by
 rcases g with⟨kvs,k,e,_,_⟩|⟨kvs,k,b,e,_,_,_⟩
 . obtain⟨_,_,vs,_,dd⟩:=tQ I.hok e
   exact dd.typeIs
 . obtain⟨_,_,xs,_,dd⟩:=wG I.hok e
   exact dd.typeIs
noncomputable def q9 (td ty:TE):TE:=λσ H Q=>td σ H λx H1=>ty σ H1 λy H2=>∃a v,x=.ref a/\cG H2 a y (some v)/\Q v H2
noncomputable def afS (ty td:TE):TE:=λσ H Q=>ty σ H λy H1=>td σ H1 λx H2=>∃a o,x=.ref a/\cG H2 a y o/\Q (.bl o.isSome) H2
noncomputable def afT (ty td:TE):TE:=λσ H Q=>ty σ H λy H1=>td σ H1 λx H2=>∃a o,x=.ref a/\cG H2 a y o/\Q (.bl (!o.isSome)) H2
noncomputable def afU (td ty tv:TE):TS:=λD σ H=>tv σ H λv H1=>td σ H1 λx H2=>ty σ H2 λy H3=>∃a H4,x=.ref a/\nZ H3 a y v H4/\D.nx σ H4
section
variable {X:Cx}{o i e value:Expr}{pos pos' tpos:Pos}{td ty tv:TE}
theorem iD (hu:X.A.units+1<cLine)(ho:PE X o td)(hi:PE X i ty)(hs:Yq i):PE X (.Subscript o i pos) (q9 td ty):=by
 intro pins s σ H Q I h
 refine afQ PySem.F.slot_dict_getitem.lookup hs (aM (ho pins s σ H _ I h) λu s1 ⟨x,H1,I1,rx,q1⟩=>aM (hi pins s1 σ H1 _ I1 q1) λiv s2 ⟨y,H2,I2,ry,a,v,ex,g,q2⟩=>?_)
 subst ex
 obtain rfl:u=Value.ref a:=rx
 exact⟨afR I2 g,afK hu I2 g ry λw' s3 I3 i_=>⟨v,H2,I3,i_,q2⟩⟩
theorem G5 (hu:X.A.units+1<cLine)(hi:PE X i ty)(ho:PE X o td):PC X .In i o (afS ty td):=by
 intro pins s σ H Q I h
 refine aM (hi pins s σ H _ I h) λiv s1 ⟨y,H1,I1,ry,q1⟩=>aM (ho pins s1 σ H1 _ I1 q1) λu s2 ⟨x,H2,I2,rx,a,ov,ex,g,q2⟩=>?_
 subst ex
 obtain rfl:u=Value.ref a:=rx
 exact afL hu I2 g ry λs3 I3=>⟨.bl ov.isSome,H2,I3,rfl,q2⟩
theorem afV (hu:X.A.units+1<cLine)(hi:PE X i ty)(ho:PE X o td):PC X .NotIn i o (afT ty td):=by
 intro pins s σ H Q I h
 refine aM (hi pins s σ H _ I h) λiv s1 ⟨y,H1,I1,ry,q1⟩=>aM (ho pins s1 σ H1 _ I1 q1) λu s2 ⟨x,H2,I2,rx,a,ov,ex,g,q2⟩=>?_
 subst ex
 obtain rfl:u=Value.ref a:=rx
 exact afM hu I2 g ry λs3 I3=>⟨.bl (!ov.isSome),H2,I3,rfl,q2⟩
theorem wH (hu:X.A.units+1<cLine)(ho:PE X o td)(hi:PE X i ty)(hv:PE X value tv)(hs:swapsWith value (some (.Subscript o i pos')) pos.line X.env=pure false):
 PS X (.Assign [.Subscript o i pos'] value pos) (afU td ty tv):=by
 intro pins s σ H D I h
 refine wpAny_Assign_Subscript (aM (hv pins s σ H _ I h) λr s1 ⟨v,H1,I1,rv,q1⟩=>aM (ho pins s1 σ H1 _ I1 q1) λu s2 ⟨x,H2,I2,rx,q2⟩=>aM (hi pins s2 σ H2 _ I2 q2) λiv s3 ⟨y,H3,I3,ry,a,H4,ex,g,q3⟩=>?_) hs
 subst ex
 obtain rfl:u=Value.ref a:=rx
 exact afN hu I3 g ry rv λs4 I4=>⟨σ,H4,I4,q3⟩
end
theorem afW {P:Program}{w:World}{H:Hp}(h:Heap)(hb:sysModules<h.objs.size):cT P w H (h.push { cls:=.type "dict",data:=.dict #[] }) h.objs.size (.dK []):=
 ⟨Q0b _,beq_eq_false_iff_ne.mpr (Ne.symm (Q09 hb)),[],.nil,Heap.DictOf.new h⟩
noncomputable def afX:TE:=λ_ H Q=>∀p,H p=none->Q (.ref p) (upd H p (.dK []))
section
variable {X:Cx}{pos:Pos}
theorem G6:PE X (.Dict [] [] pos) afX:=λpins s σ H Q I h=>
 wpAny_Dict_empty ⟨.ref s.heap.objs.size,_,I.laid (a:=s.heap.objs.size) (o:=.dK []) (t':=s.toks) (λ_ _ q=>Q04 _ q) (Q01 _) (afW s.heap I.big),rfl,h _ (I.hok.fresh (Q01 _))⟩
end
section
variable {X:Cx}{pins:List (Addr × Obj)}{σ:St}{H:Hp}{s:Shared}{a:Addr}{y d:V}{u r:Value}{o:Option V}{A:Around}{E:Value->Shared->Prop}
end
section
variable {X:Cx}{o e f:Expr}{apos cpos:Pos}{td ty tx:TE}
end
section
variable {X:Cx}{pins:List (Addr × Obj)}{σ:St}{H:Hp}{s:Shared}{a:Addr}{kvs:List (Key × V)}{A:Around}{E:Value->Shared->Prop}
end
section
variable {X:Cx}{pins:List (Addr × Obj)}{σ:St}{H:Hp}{s:Shared}{a:Addr}{y:V}{u:Value}{A:Around}{E:Value->Shared->Prop}
end
end L2
namespace Yr
open PySem PySem.W PySem.Calls PyProof.Rows
theorem afY {P:Params}{h:Heap}:∀(ns:List Int) (vs:List Value),WellAll P h vs (ns.map WData.int)->IntsAre vs ns:=by
 intro ns
 induction ns with
 |nil=>
  intro vs w
  rw[List.map_nil] at w
  cases w
  exact .nil
 |cons n ns ih=>
  intro vs w
  rw[Q0v] at w
  cases w with
  |cons a b=>
   cases a
   exact .cons _ _ (ih _ b)
theorem afZ {l:OpenLaw}{n:Nat}(hn:l.most=some n){P:Params}{h:Heap}{args:List WData}{vals:List Value}
 (hpre:l.row.toRowW.claim.pre args=true) (hwl:WellAll P h vals args):
 ∃a vs ns,vals=[Value.ref a]/\args=[WData.list (ns.map WData.int)]/\h.get? a=some { cls:=.type "list",data:=.seq vs.toArray }/\IntsAre vs ns/\ns.length<=n:=by
 have hsh:WShape.hasAll [] args [.list .int]=true:=(pre_splitW hpre).1
 have hc:l.pre.holds [] { args:=args }=true:=(pre_splitW hpre).2
 obtain⟨d,r,rfl,h1,h2⟩:=hasAllW_cons hsh
 obtain rfl:=hasAllW_nil h2
 obtain⟨xs,rfl,h3⟩:=hasW_list h1
 obtain⟨ns,rfl⟩:=items_int h3
 have hlen:ns.length<=n:=by
  unfold OpenLaw.pre at hc
  have h4:(WTm.not (.lt (.lit (.int (n:Int))) (.len (.arg 0)))).holds [] { args:=[.list (ns.map .int)] }=true:=by
   have h4:=(holds_andW hc).1
   rw[hn] at h4
   exact h4
  have h5:=condW_of h4 (w_not (w_lt w_lit (w_len_list (w_arg rfl))))
  rw[Q06] at h5
  refine Q1 λq=>?_
  have q':(n:Int)<((ns.length:Nat):Int):=by omega
  first
   |(rw[decide_eq_true q'] at h5;exact absurd h5 (by decide))
   |(simp at h5;omega)
 cases hwl with
 |cons w1 w2=>
  cases w2
  cases w1 with
  |list ho hall=>exact⟨_,_,ns,rfl,rfl,ho,afY ns _ hall,hlen⟩
theorem af0 (l:OpenLaw)(args:List WData):l.row.toRowW.claim.post args (.bool true) args=true:=
 postW_of (r:=l.row.toRowW) (X:=(true == true))
  (show WShape.has [] (.bool true) .bool=true by first|rfl|decide|simp[WShape.has,WShape.arms,WShape.armsAll])
  (show(WTm.eq .res (.lit (.bool true))).value [] { args:=args,res:=some (.bool true),after:=args }=some (.bool (true == true)) from w_eq_bool (w_res rfl) w_lit) rfl
theorem af2 {l:OpenLaw}{n:Nat}{q:Program}{loose:List Str}{XP:(Str->Option Value)->Heap->Prop}{YP:World->Heap->Prop}{d:DefRec}
 (hn:l.most=some n) (hdf:d.params.defaults=[])
 (call:∀(w:World) (s₀ s₁:Shared) (mg mb:Str->Option Value) (fa:Addr) (o:Obj) (pm cd doc:Value) (a:Addr) (vs:List Value) (ns:List Int),
   Ground q loose [] XP w s₀ mg mb s₁.heap->YP w s₁.heap->
   s₁.heap.get? fa=some o->o.data=.func (docDef d.name d.params d.body d.scope pm cd doc)->s₁.heap.CodeRec cd d.name->mg d.name=some (.ref fa)->
   s₁.heap.get? a=some { cls:=.type "list",data:=.seq vs.toArray }->IntsAre vs ns->ns.length<=n->s₁.gens=#[]->
   codeAny (model l.prog w) callerA (.call (.ref fa) ⟨[.ref a],[]⟩) (λr s'=>r=.ok (.ret (.bool true))/\OldK s₁.heap s'.heap/\s'.os=s₁.os/\AllBare s'.gens) s₁):
 WalkO q loose XP YP l.row.toRowW d [] (λf vs=>PySem.call f vs):=by
 intro w s₀ s₁ mg mb G Y fa o pm cd doc dV kV ho hd hcd hD hmg hg args vals as hpre hlay hrd hwl hlo
 obtain rfl:dV=.none:=Dflts.none hD hdf
 obtain rfl:kV=.none:=Dflts.noKw hD
 obtain⟨a,vs,ns,rfl,rfl,hobj,hints,hlen⟩:=afZ hn hpre hwl
 refine enter_call (codeAny_mono (call w s₀ s₁ mg mb fa o pm cd doc a vs ns G Y ho (fd_plain hd) hcd hmg hobj hints hlen hg) λr s' hq=>?_)
 obtain⟨rfl,h2,h3,h4⟩:=hq
 exact⟨.inl ⟨.bool true,.bool true,[],rfl,λ_=>rfl,.bool true,af0 l _,λ_=>⟨List.Pairwise.nil,λ_ hm=>(nomatch hm)⟩⟩,h2,h3,h4⟩
section
variable {prog:Program}{w:World}{A:Around}{E:Value->Shared->Prop}{s:Shared}{K:Frag}
end
end Yr
namespace L2
open PySem PySem.Spec PyProof.Rows
theorem Ys:∀{vs:List Value}{ns:List Int},IntsAre vs ns->Vals (ns.map V.int) vs
 |_,_,.nil=>.nil
 |_,_,.cons n t h=>.cons ⟨t,rfl⟩ (Ys h)
noncomputable abbrev aB:iB:=λ_ _ _ _ _ _=>False
noncomputable abbrev E0:XK:=λ_ _ _=>False
theorem eN {X:Cx}:Passes aB X E0:=λ_ _ _ _ _ _ _ h=>h.elim
structure lE (K:W.Frag) (x qual:Str) (st:Stmt) (f:Addr) (fd:FuncData):Prop where
 ex:∃(oc:Value) (od:Option Addr) (kV doc pm:Value) (an:Option Addr) (cdv ct:Value) (osl:Array (Option Value)),
  fd=W.fnOf x qual (fM st) (eE st) (aL st) .none kV doc pm an cdv ct/\K.lookup f=some ⟨oc,od,.func fd,osl⟩/\W.codeIn K cdv qual=true
 kp:W.keepIn K (.ref f)=true
variable {P:Program}{w:World}{K:W.Frag}{mg:Str->Option Value}{base:Heap}
theorem lE.ok {x qual:Str}{st:Stmt}{f:Addr}{fd:FuncData}{N ps:List Str}{k:Nat}{sp:Sp}(F:lE K x qual st f fd)(S:bA N ps (aL st))(len:∀vs H Q E,sp vs H Q E->vs.length=ps.length)
 (hbody:∀(cdv:Value) (A:Around) (outer:List Env) (s:Shared) (H:Hp) (vs:List V) (Q:VK) (E:XK),cU k (A.deeper (envOfC qual (aL st) s.heap.objs.size f cdv))->sp vs H Q E->
   ∃t,fQ (jW aB P w K mg base N qual (aL st) f cdv A outer s H E).jV (eE st) t/\t { nx:=λ_ H'=>Q .non H',rt:=Q } (start N vs) H):aq P w K mg base aB (k+1) f fd ps sp:=by
 obtain⟨oc,od,kV,doc,pm,an,cdv,ct,osl,rfl,lk,hcd⟩:=F.ex
 refine Aa lk hcd S len λA outer s H vs Q E hr hsp=>?_
 obtain⟨t,h,q⟩:=hbody cdv A outer s H vs Q E hr hsp
 exact⟨t,h.jV,q⟩
theorem lE.binds {x qual:Str}{st:Stmt}{f:Addr}{fd:FuncData}{ps:List Str}(F:lE K x qual st f fd)
 (h:∀(kV doc pm:Value) (an:Option Addr) (cdv ct:Value) (us:List Value),us.length=ps.length->bindArgs (W.fnOf x qual (fM st) (eE st) (aL st) .none kV doc pm an cdv ct) ⟨us,[]⟩=pure (ps.zip us)):Binds K fd ps []:=by
 obtain⟨oc,od,kV,doc,pm,an,cdv,ct,osl,rfl,lk,hcd⟩:=F.ex
 exact .all (h kV doc pm an cdv ct)
theorem Yt {x qual:Str}{st:Stmt}{f:Addr}{oc:Value}{od an:Option Addr}{osl:Array (Option Value)}{kV doc pm cdv ct:Value}(l:K.lookup f=some ⟨oc,od,.func (W.fnOf x qual (fM st) (eE st) (aL st) .none kV doc pm an cdv ct),osl⟩)
 (c:W.codeIn K cdv qual=true) (k:W.keepIn K (.ref f)=true):lE K x qual st f (W.fnOf x qual (fM st) (eE st) (aL st) .none kV doc pm an cdv ct):=⟨⟨oc,od,kV,doc,pm,an,cdv,ct,osl,rfl,l,c⟩,k⟩
theorem fY {A:Around}{k:Nat}(hr:cU k A):A.units+1<cLine:=Q19 (Nat.add_le_add_left (by decide:1<=64) _) hr.units
theorem cP {n:Nat}(h:n<=1000):n<sizeLine:=Q19 h (by decide)
section
variable {X:Cx}
theorem pv (i:Nat){x:Str}{pos:Pos}(hN:X.N[i]? =some x:=by rfl)(hv:zM X.env.scope x:=by first|exact Or.inl rfl|exact Or.inr (Or.inl rfl)|exact Or.inr (Or.inr rfl))(hd:(x == ("__debug__":Str))=false:=by decide)
 (hcd:(x == ("__classdict__":Str))=false:=by decide):PE X (.Name x pos) (bC i):=aem hN hv hd hcd
end
theorem bH {A B:Prop}(h:B):if false=true then A else B:=by
 rw[if_neg Bool.false_ne_true]
 exact h
theorem bZ {A B:Prop}(h:A):if true=true then A else B:=by
 rw[if_pos rfl]
 exact h
theorem dM {c A B:Prop} [Decidable c](h1:c->A)(h2:¬c->B):if c then A else B:=by
 by_cases h:c
 . rw[if_pos h]
   exact h1 h
 . rw[if_neg h]
   exact h2 h
theorem af3 {c A B:Prop} [Decidable c](hc:c)(h:B):if(!decide c)=true then A else B:=by
 rw[decide_eq_true hc]
 exact bH h
noncomputable def Same (H H':Hp):Prop:=∀b o,H b=some o->H' b=some o
theorem Same.refl (H:Hp):Same H H:=λ_ _ h=>h
theorem Same.trans {H H1 H2:Hp}(a:Same H H1)(b:Same H1 H2):Same H H2:=λc o h=>b c o (a c o h)
section
variable {X:Cx}
theorem G7:gU X (.builtin "len") (λxs H Q=>∃a kvs,xs=[V.ref a]/\H a=some (.dK kvs)/\Q (.int kvs.length) H):=by
 intro pins s σ H xs us Q I r h
 obtain⟨a,kvs,rfl,ha,q⟩:=h
 obtain⟨u,rfl,ru⟩:=vals1 r
 cases ru
 exact afP I (.inl ha) λt s' I'=>⟨.int kvs.length,H,I',⟨t,rfl⟩,q⟩
end
section
variable {κ:Type} [DecidableEq κ]
end
theorem Yu {g:Str->NameKind->NameKind}{x:Str}:∀names:List (Str × NameKind),
 (names.map λy=>(y.1,g y.1 y.2)).lookup x=(names.lookup x).map (g x)
 |[]=>rfl
 |(n,k)::r=>by
  show List.lookup x ((n,g n k)::_)=_
  rw[Q1a,Q1a,Yu r]
  cases hx:x == n with
  |true=>rw[eq_of_beq hx];rfl
  |false=>rfl
noncomputable def mK (env:Env) (n:Str) (k:NameKind):NameKind:=
 if(k == .free && env.scope.kind == .function && env.kindOf n == some .cell)=true then .cell else k
theorem Yv (scope:Scope)(env:Env)(x:Str):
 (relabel scope env).names.lookup x=(scope.names.lookup x).map (mK env x):=by
 rw[<-Yu (g:=mK env) scope.names]
 show List.lookup x (scope.names.map _)=_
 congr 1
 apply Q1o
 rintro⟨n,k⟩ _
 show(if _ then _ else _)=(n,mK env n k)
 unfold mK
 split <;> rfl
theorem af4 {env:Env}{x:Str}{k:NameKind}(h:mK env x k=.local):k=.local:=by
 unfold mK at h
 split at h
 . cases h
 . exact h
theorem af5 {env:Env}{x:Str}{k:NameKind}(h:mK env x k=.cell):k=.free\/k=.cell:=by
 unfold mK at h
 split at h
 . rename_i c
   left
   simp only[Bool.and_eq_true] at c
   exact eq_of_beq c.1.1
 . exact .inr h
theorem af6 {env:Env}{x:Str}{k:NameKind}(h:mK env x k=.free):k=.free:=by
 unfold mK at h
 split at h
 . cases h
 . exact h
theorem G8 {env:Env}:∀(names:List (Str × NameKind)) (acc:List (Str × Addr)),(∀y∈names,y.2=.free->∃c,env.cells.lookup y.1=some c)->
 (∀x c,acc.lookup x=some c->env.cells.lookup x=some c)->
 ∃cl:List (Str × Addr),(forIn names acc λy cs=>if(y.2 == NameKind.free)=true then(do let a <-cellOf env y.1;pure (ForInStep.yield ((y.1,a)::cs))) else pure (ForInStep.yield cs))=(pure cl:Sem _)/\
  (∀x c,cl.lookup x=some c->env.cells.lookup x=some c)/\(∀x,((x,NameKind.free)∈names\/(acc.lookup x).isSome=true)->cl.lookup x=env.cells.lookup x)
 |[],acc,_,ha=>⟨acc,rfl,ha,λx hx=>by
    rcases hx with hx|hx
    . cases hx
    . obtain⟨c,e⟩:=Option.isSome_iff_exists.mp hx
      rw[e,ha x c e]⟩
 |(n,k)::r,acc,hn,ha=>by
  by_cases hk:k=.free
  . subst hk
    obtain⟨c,e⟩:=hn (n,.free) Q0f rfl
    have e:env.cells.lookup n=some c:=e
    have ha':∀x d,((n,c)::acc).lookup x=some d->env.cells.lookup x=some d:=λx d h=>by
     rw[Q1a] at h
     cases hx:x == n with
     |true=>
      rw[hx] at h
      cases h
      rw[eq_of_beq hx];exact e
     |false=>
      rw[hx] at h
      exact ha x d h
    obtain⟨cl,h1,h2,h3⟩:=G8 r ((n,c)::acc) (λy hy=>hn y (Q0j _ hy)) ha'
    refine⟨cl,?_,h2,λx hx=>h3 x ?_⟩
    . rw[Q1p]
      have ec:cellOf env n=pure c:=by unfold cellOf;rw[e]
      simp only[beq_self_eq_true,if_true,ec,pure_bind]
      exact h1
    . rcases hx with hx|hx
      . rcases List.mem_cons.mp hx with q|q
        . right
          cases q
          rw[Q1a,beq_self_eq_true];rfl
        . exact .inl q
      . right
        rw[Q1a]
        cases x == n with
        |true=>rfl
        |false=>exact hx
  . obtain⟨cl,h1,h2,h3⟩:=G8 r acc (λy hy=>hn y (Q0j _ hy)) ha
    refine⟨cl,?_,h2,λx hx=>h3 x ?_⟩
    . rw[Q1p]
      have eb:(k == NameKind.free)=false:=by simpa using hk
      simp only[eb,Bool.false_eq_true,if_false,pure_bind]
      exact h1
    . rcases hx with hx|hx
      . rcases List.mem_cons.mp hx with q|q
        . cases q;exact absurd rfl hk
        . exact .inl q
      . exact .inr hx
theorem G9 {scope:Scope}{env:Env}(hn:∀y∈scope.names,y.2=.free->∃c,env.cells.lookup y.1=some c):
 ∃cl:List (Str × Addr),closureFor scope env=pure cl/\(∀x c,cl.lookup x=some c->env.cells.lookup x=some c)/\(∀x,(x,NameKind.free)∈scope.names->cl.lookup x=env.cells.lookup x):=by
 obtain⟨cl,h1,h2,h3⟩:=G8 scope.names [] hn (λx c h=>by cases h)
 refine⟨cl,?_,h2,λx hx=>h3 x (.inl hx)⟩
 unfold closureFor
 have e:(forIn scope.names ([]:List (Str × Addr)) λy cs=>do
  let mut cs:=cs
  match y with
  |(name,kind)=>if(kind == NameKind.free)=true then cs:=(name,<-cellOf env name)::cs
  pure (ForInStep.yield cs))=(pure cl:Sem _):=by
  rw[<-h1]
 first
  |exact(by simpa using e)
  |(show(forIn scope.names ([]:List (Str × Addr)) _ >>= λcs=>pure cs)=_;rw[bind_pure];exact e)
structure dw (X:Cx) (own:List Str) (scope:Scope):Prop where
 kind:scope.kind=.function
 cell:∀y∈scope.names,y.2≠ .cell
 names:∀y∈scope.names,y.2=.local->scope.names.lookup y.1=some .local
 free:∀y∈scope.names,y.2=.free->X.env.kindOf y.1=some .cell\/X.env.kindOf y.1=some .free
 nd:(own++X.N).Nodup
 outer:∀x∈X.N,scope.names.lookup x≠some .local
noncomputable def fC (X:Cx) (own:List Str) (scope:Scope) (cl:List (Str × Addr)) (C:Addr) (fp:List Addr) (s₂:Shared) (H₂:Hp):Cx:=
 { X with N:=own++X.N,s₀:=s₂,H₀:=H₂,env:=compEnvC scope cl C X.env,outer:=X.stack,ex:=fp,fn:=λ_=>false,pn:=[],xe:=λ_ _=>False }
noncomputable def wI (X:Cx) (ifs:List Expr) (t:TT):Prop:=
 ∀(pins:List (Addr × Obj)) (s:Shared) (σ:St) (H:Hp) (Q:Bool->Hp->Prop),Inv X pins σ H s->t σ H Q->
  wpAny (model X.prog X.w) X.A (forIn ifs true λc r=>if r=true then do let ok <-isTrue c X.env (eval c X.env);pure (ForInStep.yield ok) else pure (ForInStep.yield r)) (TP X pins σ Q) X.xe s
noncomputable def fZ:TT:=λ_ H Q=>Q true H
theorem iG {X:Cx}:wI X [] fZ:=λpins s σ H Q I h=>wpAny_tests_nil ⟨H,I,h⟩
theorem Ai {X:Cx}{c:Expr}{t:TT}(h:PT X c t):wI X [c] t:=λpins s σ H Q I q=>wpAny_tests_one (h pins s σ H Q I q)
noncomputable def Aj (k:Nat) (wi:TI) (g:TG) (tt:TT) (te:TE):TE:=λσ H Q=>wi σ H λJ H1=>
 ∃W:Nat->Nat->List V->Hp->Prop,(∃m,W 0 m [] H1)/\∀i m ys H,W i m ys H->
  (J.stop i H/\∀p,H p=none->Q (.ref p) (upd H p (.lst ys)))\/
  (J.go i H/\ys.length<sizeLine/\∀x H',J.pN i H x H'->g x (List.replicate k none++σ) H' λσ2 H2=>σ2.drop k=σ/\
    tt σ2 H2 λb H3=>if b=true then te σ2 H3 λy H4=>∃m',m'<m/\W (i+1) m' (ys++[y]) H4 else ∃m',m'<m/\W (i+1) m' ys H3)
section
variable {prog:Program}{w:World}{A:Around}{R:Result->Shared->Prop}{s:Shared}
theorem af7 {elt target iter:Expr}{ifs:List Expr}{scope:Scope}{pos:Pos}{it acc:Value}{env:Env}(I:Nat->Shared->Prop)
 (turn:∀n s,I n s->wpAny (model prog w) A (pyNext it) (λr s₁=>
   match r with
   |none=>R (.ok .next) s₁
   |some v=>wpAny (model prog w) A (letOwnedTupleGo target it v) (λ_ s₂=>wpAny (model prog w) A (assign target env v) (λ_ s₃=>
     wpAny (model prog w) A (forIn ifs true λc r=>if r=true then do let ok <-isTrue c env (eval c env);pure (ForInStep.yield ok) else pure (ForInStep.yield r)) (λok s₄=>
      if ok=true then wpAny (model prog w) A (eval elt env) (λx s₅=>
       wpAny (model prog w) A (call (.builtin "list.append") [acc,x]) (λ_ s₆=>∃m,m<n/\I m s₆) (λ_ _=>False) s₅) (λ_ _=>False) s₄
      else ∃m,m<n/\I m s₄) (λ_ _=>False) s₃) (λ_ _=>False) s₂) (λ_ _=>False) s₁) (λ_ _=>False) s)
 (n:Nat) (h:I n s):
 codeAny (model prog w) A (.compLoop (.ListComp elt [⟨target,iter,ifs,0⟩] scope pos) 0 it acc env) R s:=by
 refine codeAny_loop rfl I (λn s hI=>?_) n h
 show wpAny _ A ((compTurn _ 0 it acc env).onRaise _) _ _ s
 refine wpAny_noted ?_
 rw[compTurn_list]
 have no:∀{α:Type} {t:Sem α} {Q Q':α->Shared->Prop} {E:Value->Shared->Prop} {s:Shared},wpAny (model prog w) A t Q (λ_ _=>False) s->(∀a s,Q a s->Q' a s)->wpAny (model prog w) A t Q' E s:=
  λh k=>Q0h h k λ_ _ z=>z.elim
 refine Q00 (wpAny_standAt (Q00 (no (turn n s hI) λr s₁ h₁=>?_)))
 cases r with
 |none=>exact Q03 h₁
 |some v=>
  refine Q00 (no h₁ λ_ s₂ h₂=>?_)
  refine Q00 (no h₂ λ_ s₃ h₃=>Q00 (no h₃ λok s₄ h₄=>?_))
  cases ok with
  |false=>exact Q03 ⟨rfl,h₄⟩
  |true=>
   refine Q00 (Q00 (no h₄ λx s₅ h₅=>?_))
   exact Q00 (no h₅ λ_ s₆ h₆=>Q03 (Q03 ⟨rfl,h₆⟩))
end
noncomputable abbrev iH (us:List Value) (n:Nat):Obj:={ cls:=.type "list",data:=.seq us.toArray n }
section
variable {X:Cx}{own:List Str}{scope:Scope}
theorem dw.cells (S:dw X own scope){pins:List (Addr × Obj)}{σ:St}{H:Hp}{s:Shared}(I:Inv X pins σ H s):
 ∀y∈scope.names,y.2=.free->∃c,X.env.cells.lookup y.1=some c:=λy hy hf=>I.ok.has y.1 (S.free y hy hf)
theorem dw.freeOf (S:dw X own scope){x:Str}(h:(relabel scope X.env).names.lookup x=some .cell\/(relabel scope X.env).names.lookup x=some .free):(x,NameKind.free)∈scope.names:=by
 rw[Yv] at h
 cases e:scope.names.lookup x with
 |none=>rw[e] at h;rcases h with h|h <;> cases h
 |some k=>
  rw[e] at h
  have hm:(x,k)∈scope.names:=PySem.mem_of_lookup e
  have hk:k=.free:=by
   rcases h with h|h
   . rcases af5 (Option.some.inj h) with q|q
     . exact q
     . exact absurd q (S.cell _ hm)
   . exact af6 (Option.some.inj h)
  rw[<-hk];exact hm
theorem dw.af8 (S:dw X own scope){x:Str}(hx:x∈X.N):(relabel scope X.env).names.lookup x≠some .local:=λh=>by
 rw[Yv] at h
 cases e:scope.names.lookup x with
 |none=>rw[e] at h;cases h
 |some k=>
  rw[e] at h
  have:=af4 (Option.some.inj h)
  subst this
  exact S.outer x hx e
theorem Yw {k:Nat}{σ:St}{i:Nat}{v:V}(h:(List.replicate k none++σ)[i]? =some (some v)):k<=i/\σ[i - k]? =some (some v):=by
 by_cases hi:i<k
 . rw[Q0q (by simpa using hi),Q2g] at h
   split at h <;> cases h
 . refine⟨Q1 hi,?_⟩
   rw[Q0i (by simpa using hi)] at h
   simpa using h
theorem Inv.block {pins:List (Addr × Obj)}{σ:St}{H:Hp}{s:Shared}{fp:List Addr}{cl:List (Str × Addr)}{C D:Addr}{h₁:Heap}{m:Str->Option Value}{t':Nat}{us:List Value}{n:Nat}(I:Inv X pins σ H s)(S:dw X own scope)
 (hf:∀b∈fp,fW X pins H b) (hfl:∀b∈fp,b<s.heap.objs.size)
 (hsub:∀x c,cl.lookup x=some c->X.env.cells.lookup x=some c) (hget:∀x,(x,NameKind.free)∈scope.names->cl.lookup x=X.env.cells.lookup x)
 (hC:s.heap.objs.size<=C) (hD:s.heap.objs.size<=D) (hDC:D≠C) (hn:h₁.Ns C m) (old:∀b o,s.heap.get? b=some o->h₁.get? b=some o) (hacc:h₁.get? D=some (iH us n)):
 Inv (fC X own scope cl C fp s H) [(D,iH us n)] (List.replicate own.length none++σ) H { s with heap:=h₁,toks:=t' }:=by
 have ok:=I.ok
 have sX:∀b:Addr,s.heap.objs.size<=b->b ∉ frs X.stack:=λb hb z=>by
  rcases List.mem_cons.mp (I.sY b z) with e|e
  . exact absurd I.lt (by rw[<-e];exact Nat.not_lt.mpr hb)
  . exact I.sX hb e
 have fresh:∀b:Addr,s.heap.objs.size<=b->H b=none:=λb hb=>I.hok.fresh hb
 have clt:∀x c,cl.lookup x=some c->c<s.heap.objs.size:=λx c e=>by
  obtain⟨v,q⟩:=I.cell x c (hsub x c e)
  exact q.lt
 refine⟨⟨ok.mod,S.kind,ok.glob,ok.blt,hC,λx y c e1 e2=>ok.inj x y c (hsub x c e1) (hsub y c e2),λx hx=>?_,λx c hx _=>(nomatch hx),ok.hd,ok.frames,.inl rfl,λb hb=>?_,I.bs,Q0c ok.jo I.sz,λb o e hb=>?_,λb hb z=>?_,I.stack,I.v5⟩,
  rfl,I.bare,Un.kept old,⟨m,hn,λi x v e1 e2 e3=>?_⟩,λx c e=>?_,fresh C hC,λx c e=>?_,λp hp=>?_,I.hok.kept old,?_⟩
 . have hm:=S.freeOf (x:=x) hx
   obtain⟨c,e⟩:=ok.has x (S.free _ hm rfl)
   exact⟨c,by rw[show(fC X own scope cl C fp s H).env.cells=cl from rfl,hget x hm];exact e⟩
 . refine⟨Q09 (Q0a (hfl b hb) hC),λx c e z=>?_⟩
   exact(hf b hb).2.2.2.2.1 x c (hsub x c e) z
 . rcases(hf b hb).2.2.2.1 with z|z
   . exact ok.pI b o e z
   . exact absurd (Q0a (Q02 e) (Q0c ok.jo z)) (Q0l _)
 . rcases List.mem_cons.mp (I.sY b z) with q|q
   . exact(hf b hb).2.1 q
   . exact(hf b hb).2.2.1 q
 . obtain⟨hk,e2'⟩:=Yw e2
   have e1':X.N[i - own.length]? =some x:=by
    have e1:(own++X.N)[i]? =some x:=e1
    rw[Q0i hk] at e1
    exact e1
   have hxN:x∈X.N:=Q0y e1'
   have hk2:(relabel scope X.env).names.lookup x=some .cell\/(relabel scope X.env).names.lookup x=some .free:=by
    rcases e3 with q|q
    . exact absurd q (S.af8 hxN)
    . exact q
   have hm:=S.freeOf hk2
   have wJ:=S.free _ hm rfl
   obtain⟨mX,hnX,G_⟩:=I.loc
   obtain⟨u,r,lk⟩:=G_ _ x v e1' e2' (.inr wJ)
   refine⟨u,r,.inr ⟨hk2,?_⟩⟩
   rcases lk with⟨q,_⟩|⟨_,c,ec,hc⟩
   . rcases wJ with z|z
     . rw[z] at q;cases q
     . rw[z] at q;cases q
   . obtain⟨o,ho,hd⟩:=hc
     exact⟨c,(hget x hm).trans ec,o,old _ _ ho,hd⟩
 . obtain⟨v,o,ho,hd⟩:=I.cell x c (hsub x c e)
   exact⟨v,o,old _ _ ho,hd⟩
 . exact I.fO x c (hsub x c e)
 . have e:p=(D,iH us n):=by
    have hp:p∈([]++[(D,iH us n)]:List (Addr × Obj)):=hp
    simpa using hp
   subst e
   exact⟨hacc,fresh D hD,hDC,sX D hD,λv z=>by
    have z:Data.seq us.toArray n=Data.cell v:=z
    cases z⟩
 . show _=(own++X.N).length
   rw[Q07,Q07,Q17,I.len]
theorem Inv.unblock {pins:List (Addr × Obj)}{σ σ':St}{H H3:Hp}{s s3:Shared}{fp:List Addr}{cl:List (Str × Addr)}{C D:Addr}{h':Heap}{us:List Value}{n:Nat}{ys:List V}{pl:List (Addr × Obj)}(I:Inv X pins σ H s)
 (hf:∀b∈fp,fW X pins H b) (I3:Inv (fC X own scope cl C fp s H) pl σ' H3 s3) (hpl:(D,iH us n)∈pl) (hC:s.heap.objs.size<=C) (hD:s.heap.objs.size<=D) (hDC:D≠C)
 (r:Vals ys us) (hz:ys.length<=sizeLine) (hs:Heap.SameBut C s3.heap h'):Inv X pins σ (upd H3 D (.lst ys)) { s3 with heap:=h' }/\H3 D=none:=by
 obtain⟨eD,nD,_,_,_⟩:=I3.pin (D,iH us n) (Q0e _ hpl)
 have nC:H3 C=none:=I3.free
 have kC:∀b o,b≠C->s3.heap.get? b=some o->h'.get? b=some o:=λb o hb e=>(hs.2 b hb).trans e
 refine⟨I.call' (ch:=fp) I3.os ⟨λb o e nb hb hx=>?_,λb o e nb hb hx=>?_,λb o e nb hx=>?_,λb o e hx=>?_,λb xs e=>?_,λb o u e=>?_,λb ps e=>?_⟩ (λb o e=>?_) I3.bare (λb hb=>?_),nD⟩
 . exact kC b o (Q09 (Q0a (Q02 e) hC)) (I3.base.keep b o e nb hb hx)
 . obtain⟨sl,e1⟩:=I3.base.slot b o e nb hb hx
   exact⟨sl,kC b _ (Q09 (Q0a (Q02 e) hC)) e1⟩
 . rw[au (Q09 (Q0a (Q02 e) hD))]
   exact I3.base.free b o e nb hx
 . obtain⟨o',e1⟩:=I3.base.there b o e hx
   exact⟨o',kC b _ (Q09 (Q0a (Q02 e) hC)) e1⟩
 . have q:=I3.base.tups b xs e
   rw[au (aN q nD)];exact q
 . have q:=I3.base.gZ b o u e
   rw[au (aN q nD)];exact q
 . obtain⟨mo,q⟩:=I3.base.iw b ps e
   exact⟨mo,by rw[au (aN q nD)];exact q⟩
 . by_cases hb:b=D
   . subst hb
     rw[aF] at e;cases e
     exact⟨hz,us,n,r,kC b _ hDC eD⟩
   . rw[au hb] at e
     refine(I3.hok b o e).stay (λc v hc q=>kC c v ?_ q) (λc q=>by rw[au (aN q nD)];exact q) λc xs q=>by rw[au (aN q nD)];exact q
     rcases hc with z|z
     . rw[z];exact aN e nC
     . exact aN z nC
 . obtain⟨_,f1,_,f3,f4,f5⟩:=hf b hb
   exact⟨f3,f1,f4,f5⟩
theorem Yx {tg iter elt:Expr}{ifs:List Expr}{pos:Pos}{g:TG}{tt:TT}{te:TE}{pins:List (Addr × Obj)}{σ:St}{H2:Hp}{s2:Shared}{it:Addr}{fp:List Addr}{tn:Nat->Heap->Prop}{J:It}{cl:List (Str × Addr)}{Fin:List V->Hp->Prop}{W:Nat->Nat->List V->Hp->Prop}{m0:Nat}
 {RR:Value->Addr->Result->Shared->Prop} (hc:X.calm=true) (S:dw X own scope) (hsub:∀x c,cl.lookup x=some c->X.env.cells.lookup x=some c) (hget:∀x,(x,NameKind.free)∈scope.names->cl.lookup x=X.env.cells.lookup x)
 (I2:Inv X pins σ H2 s2) (T:Turn X.prog X.w X.K tg J fp it tn) (st2:tn 0 s2.heap) (f2:∀b∈fp,fW X pins H2 b) (w0:W 0 m0 [] H2)
 (turn:∀i m ys H,W i m ys H->(J.stop i H/\Fin ys H)\/
   (J.go i H/\ys.length<sizeLine/\∀x H',J.pN i H x H'->g x (List.replicate own.length none++σ) H' λσ2 H2=>σ2.drop own.length=σ/\
     tt σ2 H2 λb H3=>if b=true then te σ2 H3 λy H4=>∃m',m'<m/\W (i+1) m' (ys++[y]) H4 else ∃m',m'<m/\W (i+1) m' ys H3))
 (hg:∀cl C fp s₂ H₂,PG (fC X own scope cl C fp s₂ H₂) tg g) (ht:∀cl C fp s₂ H₂,wI (fC X own scope cl C fp s₂ H₂) ifs tt) (he:∀cl C fp s₂ H₂,PE (fC X own scope cl C fp s₂ H₂) elt te)
 (hRR:∀(C D:Addr) (s5:Shared) (H5:Hp) (ys:List V) (us:List Value) (k:Nat),s2.heap.objs.size<=C->s2.heap.objs.size<=D->D≠C->Inv (fC X own scope cl C fp s2 H2) [(D,iH us k)] (List.replicate own.length none++σ) H5 s5->Vals ys us->ys.length<=sizeLine->Fin ys H5->RR (.ref D) C (.ok .next) s5):
 wpAny (model X.prog X.w) X.A (newList []) (λacc s₃=>wpAny (model X.prog X.w) X.A (newFunctionEnv scope X.env.globals cl [] X.env.qual none .none (some X.env)) (λcenv s₄=>
  codeAny (model X.prog X.w) X.A (.compStart (.ListComp elt [⟨tg,iter,ifs,0⟩] scope pos) 0 (.ref it) acc { cenv with scope:=relabel scope X.env }) (RR acc cenv.locals) s₄) X.xe s₃) X.xe s2:=by
 have hfl:∀b∈fp,b<s2.heap.objs.size:=λb hb=>by
  obtain⟨o,e,_⟩:=T.obj _ _ st2 b hb
  exact Q02 e
 refine wpAny_newObj_type (wpAny_newFunctionEnv S.cell (by intro y hy;simp at hy) (λh₁ hns₁ hsb₁=>?_) S.kind)
 dsimp only at hns₁ hsb₁ ⊢
 generalize hG:s2.heap.push { cls:=.type "list",dict:=none,data:=.seq ([]:List Value).toArray }=G at hns₁ hsb₁ ⊢
 have Yy:G.objs.size=s2.heap.objs.size+1:=by rw[<-hG,Q0w]
 have hC:s2.heap.objs.size<=G.objs.size:=by rw[Yy];exact Q13 _
 have hDC:s2.heap.objs.size≠G.objs.size:=by rw[Yy];exact Q09 (Q1e _)
 have old:∀b o,s2.heap.get? b=some o->h₁.get? b=some o:=λb o e=>
  hsb₁.extBut b o (Q09 (Q0a (Q02 e) hC)) (Q04 _ (hG ▸ Q04 _ e))
 have hacc:h₁.get? s2.heap.objs.size=some (iH [] 0):=hsb₁.extBut _ _ hDC (Q04 _ (hG ▸ Q0d _ rfl))
 have I3:=I2.block (cl:=cl) (t':=s2.toks+([]:List (Str × Value)).length) S f2 hfl hsub hget hC (Q01 _) hDC hns₁ old hacc
 have st3:tn 0 h₁:=T.keep _ _ _ st2 λb _ o e=>old b o e
 have zV:∀b∈fp,H2 b=none:=λb hb=>(f2 b hb).1
 have stat:∀{H':Hp} {us:List Value} {n:Nat},(∀b∈fp,H' b=none)->∀b∈fp,fW (fC X own scope cl G.objs.size fp s2 H2) [(s2.heap.objs.size,iH us n)] H' b:=λ{H' us n} hn b hb=>by
  refine⟨hn b hb,Q09 (Q0a (hfl b hb) hC),λz=>?_,.inl hb,λx c e=>(f2 b hb).2.2.2.2.1 x c (hsub x c e),λp hp=>?_⟩
  . rcases List.mem_cons.mp (I2.sY b z) with q|q
    . exact(f2 b hb).2.1 q
    . exact(f2 b hb).2.2.1 q
  . have hp:p∈([]++[(s2.heap.objs.size,iH us n)]:List (Addr × Obj)):=hp
    have e:p=(s2.heap.objs.size,iH us n):=by simpa using hp
    subst e
    exact Q0n (hfl b hb)
 have loop:∀s₃:Shared,s₃={ s2 with heap:=h₁,toks:=s2.toks+([]:List (Str × Value)).length }->
  codeAny (model X.prog X.w) X.A (.compLoop (.ListComp elt [⟨tg,iter,ifs,0⟩] scope pos) 0 (.ref it) (.ref s2.heap.objs.size) (compEnvC scope cl G.objs.size X.env))
   (RR (.ref s2.heap.objs.size) G.objs.size) s₃:=by
  rintro s₃ rfl
  refine af7 (λn s'=>∃i ys us k H',Inv (fC X own scope cl G.objs.size fp s2 H2) [(s2.heap.objs.size,iH us k)] (List.replicate own.length none++σ) H' s'/\Vals ys us/\ys.length<=sizeLine/\tn i s'.heap/\(∀b∈fp,H' b=none)/\W i n ys H')
   ?_ m0 ⟨0,[],[],0,H2,I3,.nil,Q0b _,st3,zV,w0⟩
  rintro n s4 ⟨i,ys,us,k,H4,I4,r4,z4,Yz,YB,w4⟩
  rcases turn i n ys H4 w4 with⟨stop,qn⟩|⟨go,hlt,step⟩
  . refine aM (T.done (fC X own scope cl G.objs.size fp s2 H2) rfl rfl rfl hc i _ s4 _ H4 (λ_ _=>False) I4 (stat YB) Yz stop) λr s5 ⟨hr,I5⟩=>?_
    subst hr
    exact hRR G.objs.size s2.heap.objs.size s5 H4 ys us k hC (Q01 _) hDC I5 r4 z4 qn
  . refine aM (T.item (fC X own scope cl G.objs.size fp s2 H2) rfl rfl rfl hc i _ s4 _ H4 (λ_ _=>False) I4 (stat YB) Yz go) λr s5 ⟨u,hr,h5⟩=>?_
    subst hr
    refine aM h5 λ_ s6 ⟨x,H6,I6,r6,y6,wK,fr6⟩=>?_
    have I6':=I6.pinned (stat fr6) (T.obj _ _ wK)
    refine aM (hg cl G.objs.size fp s2 H2 _ s6 _ H6 x u _ I6' r6 (step x H6 y6)) λ_ s7 ⟨σ7,H7,I7,d7,q7⟩=>?_
    refine aM (ht cl G.objs.size fp s2 H2 _ s7 σ7 H7 _ I7 q7) λb s8 ⟨H8,I8,q8⟩=>?_
    have hlen:(List.replicate own.length none++σ).length=σ7.length:=by rw[I7.len,<-I6.len]
    have back:∀(j:Nat) v,(List.replicate own.length none++σ)[j]? =some (some v)->σ7[j]? =some (some v):=λj v e=>by
     obtain⟨hk,e'⟩:=Yw e
     rw[<-d7,List.getElem?_drop] at e'
     rw[<-e']
     congr 1
     omega
    cases b with
    |false=>
     have q8:∃m',m'<n/\W (i+1) m' ys H8:=q8
     obtain⟨m',hm,w8⟩:=q8
     refine⟨m',hm,i+1,ys,us,k,H8,I8.pP.weak hlen back,r4,z4,T.keep _ _ _ wK λb hb o e=>?_,λb hb=>?_,w8⟩
     . exact(I8.pin (b,o) (Q0e _ (Q0e _ (wj hb e)))).1
     . obtain⟨o,e,d⟩:=T.obj _ _ wK b hb
       exact(I8.pin (b,o) (Q0e _ (Q0e _ (wj hb e)))).2.1
    |true=>
     have q8:te σ7 H8 λy H9=>∃m',m'<n/\W (i+1) m' (ys++[y]) H9:=q8
     show wpAny _ _ _ _ _ _
     refine aM (he cl G.objs.size fp s2 H2 _ s8 σ7 H8 _ I8 q8) λyv s9 ⟨y,H9,I9,r9,m',hm,w9⟩=>?_
     obtain⟨eD,nD,ne1,ne2,_⟩:=I9.pin (s2.heap.objs.size,iH us k) (Q0e _ (Q1n _ Q0f))
     have hl:=r4.length
     refine append_at (hsz:=by rw[Q08,<-hl];exact z4) eD λh10 YC agc=>?_
     have hpin:∀b∈fp,∀o,s6.heap.get? b=some o->s9.heap.get? b=some o/\H9 b=none:=λb hb o e=>by
      have q:=I9.pin (b,o) (Q0e _ (Q0e _ (wj hb e)))
      exact⟨q.1,q.2.1⟩
     have neD:∀b∈fp,b≠s2.heap.objs.size:=λb hb=>Q09 (hfl b hb)
     have I9':Inv (fC X own scope cl G.objs.size fp s2 H2) [] σ7 H9 s9:=I9.qO λp hp=>(nomatch hp)
     have I10:Inv (fC X own scope cl G.objs.size fp s2 H2) [] σ7 H9 { s9 with heap:=h10 }:=
      I9'.turned (t':=s9.toks) (λb o hb e=>YC.extBut b o hb e) nD ne1 (.inr (Q01 _)) (λx c e z=>by
       obtain⟨v,q⟩:=I2.cell x c (hsub x c e)
       exact absurd q.lt (by rw[z];exact Q0l _)) λp hp=>(nomatch hp)
     have I11:Inv (fC X own scope cl G.objs.size fp s2 H2) [(s2.heap.objs.size,iH (us++[yv]) (k+1))] σ7 H9 { s9 with heap:=h10 }:=I10.qO λp hp=>by
      have e:p=(s2.heap.objs.size,iH (us++[yv]) (k+1)):=by simpa using hp
      subst e
      refine⟨?_,nD,ne1,ne2,λv z=>by
       have z:Data.seq (us++[yv]).toArray (k+1)=Data.cell v:=z
       cases z⟩
      show h10.get? _=some { cls:=.type "list",data:=.seq (us++[yv]).toArray (k+1) }
      rw[<-List.push_toArray]
      exact agc
     refine⟨m',hm,i+1,ys++[y],us++[yv],k+1,H9,I11.weak hlen back,r4.append (.cons r9 .nil),by rw[Q07,Q24];exact hlt,T.keep _ _ _ wK λb hb o e=>YC.extBut b o (neD b hb) (hpin b hb o e).1,λb hb=>?_,w9⟩
     obtain⟨o,e,d⟩:=T.obj _ _ wK b hb
     exact(hpin b hb o e).2
 exact codeAny_compStart_list (loop _ rfl) (T.self _ 0 _ _ _ st3 (loop _ rfl))
theorem g8 {tg iter elt:Expr}{ifs:List Expr}{pos:Pos}{wi:TI}{g:TG}{tt:TT}{te:TE}(hc:X.calm=true)(S:dw X own scope)(hi:PI X tg iter wi)
 (hg:∀cl C fp s₂ H₂,PG (fC X own scope cl C fp s₂ H₂) tg g) (ht:∀cl C fp s₂ H₂,wI (fC X own scope cl C fp s₂ H₂) ifs tt)
 (he:∀cl C fp s₂ H₂,PE (fC X own scope cl C fp s₂ H₂) elt te) (hs:∀x,foldedSetIterable iter X.env x=pure x:=by intro _;rfl):
 PE X (.ListComp elt [⟨tg,iter,ifs,0⟩] scope pos) (Aj own.length wi g tt te):=by
 intro pins s σ H Q I h
 obtain⟨cl,hclos,hsub,hget⟩:=G9 (S.cells I)
 rw[eval_ListComp]
 refine wpAny_comprehension_free (use:=none) rfl hs hclos S.kind S.names ?_
 refine aM (hi pins s σ H _ I h) λv s1 h1=>aM h1 λitv s2 h2=>?_
 obtain⟨it,fp,tn,J,H2,Hf,I2,T,st2,f2,W,⟨m0,w0⟩,turn⟩:=h2
 subst Hf
 refine Yx (RR:=λacc C=>compPost (model X.prog X.w) X.A X.xe none (EP X pins σ Q) acc C) hc S hsub hget I2 T st2 f2 w0 turn hg ht he ?_
 intro C D s5 H5 ys us k hC hD hDC I5 r5 z5 fin
 obtain⟨m5,n5,_⟩:=id I5.loc
 refine⟨m5,n5,λh' hs'=>?_⟩
 obtain⟨I6,nD⟩:=I2.unblock f2 I5 Q0f hC hD hDC r5 z5 hs'
 exact⟨.ref D,_,I6,rfl,fin _ nD⟩
theorem Hg {i:Nat}{y:Str}{py spos:Pos}{tg iter elt:Expr}{ifs:List Expr}{pos:Pos}{wi:TI}{g:TG}{tt:TT}{te:TE}(hN:X.N.Nodup)(hy:X.N[i]? =some y)(hL:Loc X.env.scope y)(hc:X.calm=true)(S:dw X own scope)(hi:PI X tg iter wi)
 (hg:∀cl C fp s₂ H₂,PG (fC X own scope cl C fp s₂ H₂) tg g) (ht:∀cl C fp s₂ H₂,wI (fC X own scope cl C fp s₂ H₂) ifs tt)
 (he:∀cl C fp s₂ H₂,PE (fC X own scope cl C fp s₂ H₂) elt te) (hf:X.fn y=true\/X.env.scope.names.lookup y=some .local:=by first|exact .inl rfl|exact .inr rfl|assumption)
 (hsw:swapsWith (.ListComp elt [⟨tg,iter,ifs,0⟩] scope pos) (some (.Name y py)) spos.line X.env=pure true:=by rfl) (hs:∀x,foldedSetIterable iter X.env x=pure x:=by intro _;rfl):
 PS X (.Assign [.Name y py] (.ListComp elt [⟨tg,iter,ifs,0⟩] scope pos) spos) (nJ (Aj own.length wi g tt te) (cF i)):=by
 intro pins s σ H E I h
 obtain⟨cl,hclos,hsub,hget⟩:=G9 (S.cells I)
 rw[exec_Assign_Name_used _ _ _ _ hsw]
 refine Q00 (wpAny_standAt (Q00 ?_))
 show wpAny _ _ (do let _ <-comprehension _ scope X.env _ (newList []) false (eval iter X.env) (some (assign (.Name y py) X.env))) _ _ s
 refine Q00 (aM (wpAny_comprehension_free (use:=some (assign (.Name y py) X.env)) (Q:=λ_ s'=>SP X pins E .next s') rfl hs hclos S.kind S.names
  (aM (hi pins s σ H _ I h) λv s1 h1=>aM h1 λitv s2 h2=>?_)) λ_ s' hq=>Q03 (Q03 hq))
 obtain⟨it,fp,tn,J,H2,Hf,I2,T,st2,f2,W,⟨m0,w0⟩,turn⟩:=h2
 subst Hf
 refine Yx (RR:=λacc C=>compPost (model X.prog X.w) X.A X.xe (some (assign (.Name y py) X.env)) (λ_ s'=>SP X pins E .next s') acc C) hc S hsub hget I2 T st2 f2 w0 turn hg ht he ?_
 intro C D s5 H5 ys us k hC hD hDC I5 r5 z5 fin
 obtain⟨m5,n5,_⟩:=id I5.loc
 obtain⟨I6,nD⟩:=I2.unblock f2 I5 Q0f hC hD hDC r5 z5 (Heap.SameBut.refl C s5.heap)
 obtain⟨oC,es,ep,eC,dC,rC⟩:=id n5
 have nC:upd H5 D (.lst ys) C=none:=by rw[au (Ne.symm hDC)];exact I5.free
 have cl2:C≠X.env.locals:=Q0n (Q0a I2.lt hC)
 have agi:∀x c,X.env.cells.lookup x=some c->c≠C:=λx c e z=>by
  obtain⟨v,q⟩:=I2.cell x c e
  exact absurd q.lt (by rw[z];exact Nat.not_lt.mpr hC)
 have agj:∀p∈X.pn++pins,p.1≠C:=λp hp z=>by
  have:=Q02 (I2.pin p hp).1
  rw[z] at this
  exact absurd this (Nat.not_lt.mpr hC)
 have I7:Inv X (pins++[(C,oC)]) σ (upd H5 D (.lst ys)) s5:=by
  refine I6.qO λp hp=>?_
  rcases List.mem_append.mp hp with z|z
  . exact I6.pin p (Q0e _ z)
  . have e:p=(C,oC):=by simpa using z
    subst e
    exact⟨eC,nC,cl2,I2.sX hC,λv z=>by
     have z:oC.data=Data.cell v:=z
     rw[dC] at z;cases z⟩
 show wpAny _ _ (assign (.Name y py) X.env (.ref D)) _ _ s5
 refine wpAny_assign_Name (sZ (v:=.ref D) I7 hN hy hL rfl (λs8 I8=>?_) hf)
 obtain⟨eC8,nC8,_⟩:=I8.pin (C,oC) (Q0e _ (Q0e _ Q0f))
 refine⟨_,⟨oC,es,ep,eC8,dC,rC⟩,λh' hs'=>?_⟩
 have I9:Inv X pins (σ.set i (some (.ref D))) (upd H5 D (.lst ys)) { s8 with heap:=h' }:=
  I8.pP.turned (t':=s8.toks) (λb o hb e=>(hs'.2 b hb).trans e) nC cl2 (.inr (Q0c I2.sz hC)) agi agj
 exact⟨_,_,I9,fin _ nD⟩
end
section
variable {X:Cx}
theorem Ak {e:Expr}:PT X e (λ_ _ _=>False):=λ_ _ _ _ _ _ h=>h.elim
theorem cH:gU X (.builtin "isinstance") (λxs H Q=>∃x T t b,xs=[x,.ty T]/\jw X.K H x t/\W.kitOne X.K t (.type T)=some b/\Q (.bl b) H):=by
 intro pins s σ H xs us Q I r h
 obtain⟨x,T,t,b,rfl,ty,e,q⟩:=h
 obtain⟨u,c,rfl,ru,rc⟩:=vals2 r
 cases rc
 exact ae0 I ru ty e λtk=>⟨.bl b,H,I.tok tk,rfl,q⟩
theorem YD:∀{ss:List Str}{vs:List Value},Vals (ss.map V.str) vs->StrsAre vs ss
 |[],_,r=>by cases r;exact .nil
 |y::r,_,h=>by
  cases h with
  |cons a b=>
   obtain⟨t,e⟩:=a
   subst e
   exact .cons y t (YD b)
theorem YF:∀{vs:List Value}{ss:List Str},StrsAre vs ss->Vals (ss.map V.str) vs
 |_,_,.nil=>.nil
 |_,_,.cons y t h=>.cons ⟨t,rfl⟩ (YF h)
theorem YG:gU X (.builtin "sorted") (λxs H Q=>∃a ss,xs=[.ref a]/\aC X.K H a (ss.map V.str)/\ss.length<64/\
 ∀p ss',H p=none->ss'.Perm ss->sortedS ss'=true->Q (.ref p) (upd H p (.lst (ss'.map V.str)))):=by
 intro pins s σ H xs us Q I r h
 obtain⟨a,ss,rfl,hq,h64,q⟩:=h
 obtain⟨u,rfl,ru⟩:=vals1 r
 cases ru
 obtain⟨its,rv,pl,hz⟩:=I.list hq
 have hl:its.length=ss.length:=by rw[<-rv.length,Q06]
 refine sorted_strs pl.isList (YD rv) (by omega) λout ss' h1 h2 h3=>?_
 obtain⟨e,he⟩:=sortedAll_at s.heap its out
 refine⟨.ref (s.heap.objs.size+1),upd H (s.heap.objs.size+1) (.lst (ss'.map V.str)),I.laid (t':=s.toks) (λ_ _=>sortedAll_old) (Q13 _) ?_,rfl,q _ ss' (I.hok.fresh (Q13 _)) h2 h3⟩
 refine⟨?_,out.toList,e,YF h1,he⟩
 rw[Q06,h2.length_eq]
 have:ss.length<=1000:=by omega
 exact Q0m (cP this)
noncomputable def q_ (its:List Value) (i:Nat):Bool:=match its[i]? with
 |some (.bool b)=>b
 |_=>false
theorem agl:∀{bs:List Bool}{its:List Value},Vals (bs.map V.bl) its->(List.range its.length).all (q_ its)=bs.all id:=by
 intro bs its r
 have key:∀i,i<bs.length->q_ its i=bs.getD i false:=λi hi=>by
  have e:(bs.map V.bl)[i]? =some (.bl bs[i]):=by rw[Q0g,Q05 hi];rfl
  obtain⟨u,hu,ru⟩:=r.get e
  cases ru
  unfold q_
  rw[hu,Q0p,Q05 hi]
  rfl
 have hl:its.length=bs.length:=by rw[<-r.length,Q06]
 rw[hl,Bool.eq_iff_iff,Q1k,Q1k]
 constructor
 . intro h b hb
   obtain⟨i,hi,e⟩:=Q1h hb
   have q:=h i (List.mem_range.mpr hi)
   rw[key i hi,Q0p,Q05 hi,Q2l,e] at q
   exact q
 . intro h i hi
   have hi':=List.mem_range.mp hi
   rw[key i hi',Q0p,Q05 hi',Q2l]
   exact h _ (Q0t hi')
theorem wM (hc:X.calm=true):gU X (.builtin "all") (λxs H Q=>∃(a:Addr) (bs:List Bool),xs=[.ref a]/\aC X.K H a (bs.map V.bl)/\Q (.bl (bs.all id)) H):=by
 intro pins s σ H xs us Q I r h
 obtain⟨a,bs,rfl,hq,q⟩:=h
 obtain⟨u,rfl,ru⟩:=vals1 r
 cases ru
 obtain⟨its,rv,pl,hz⟩:=I.list hq
 have hlt:a<s.heap.objs.size:=by obtain⟨_,e,_⟩:=pl.isList;exact Q02 e
 refine call_all_walk (wpAny_pyIter_list pl.isList ?_)
 refine⟨s.heap.objs.size,_,_,_,_,_,q_ its,rfl,Walks.list (show X.A.in1.handled=none from I.ok.hd hc) s.heap.objs.size a (Q09 hlt) its.toArray,⟨⟨_,Q0d _ rfl,rfl,rfl⟩,pl.isList.push _⟩,λi v s' Q' E' hP hQ=>?_,λh' tk hk=>?_⟩
 . have e:its[i]? =some v:=by simpa using hP
   have hi:i<its.length:=(List.getElem?_eq_some_iff.mp e).1
   have hb:i<(bs.map V.bl).length:=by rw[rv.length];exact hi
   obtain⟨w',ew,i_⟩:=rv.get (Q05 hb)
   rw[e] at ew;cases ew
   rw[Q1l] at i_
   cases i_
   refine wpAny_truthy_bool ?_
   have eb:q_ its i=bs[i]'(by simpa using hb):=by unfold q_;rw[e]
   rw[eb] at hQ
   exact hQ
 . have e:(List.range its.toArray.size).all (q_ its)=bs.all id:=by rw[Q08];exact agl rv
   rw[e]
   have ns:H s.heap.objs.size=none:=I.hok.fresh (Q01 _)
   refine⟨.bl (bs.all id),H,I.kept (h':=h') (t':=tk) λb o eb=>hk b o ?_ (Q04 _ eb),rfl,q⟩
   intro hm
   have:b=s.heap.objs.size:=by simpa using hm
   exact absurd (Q02 eb) (by rw[this];exact Q0l _)
noncomputable def Ite (K:W.Frag) (a:Addr):It:=
 ⟨λi H=>∃xs x,aC K H a xs/\xs[i]? =some x,
  λi H x H'=>∃p y,H p=none/\x=.ref p/\(∀xs,aC K H a xs->xs[i]? =some y)/\H'=upd H p (.tup [.int i,y]),
  λi H=>∃xs,aC K H a xs/\xs.length<=i⟩
theorem agm {P:Program}{w:World}{K:W.Frag}{elts:List Expr}{k:Nat}{tpos:Pos}{a e it:Addr}(hne:e≠it):
 Turn P w K (.Tuple elts k tpos) (Ite K a) [e,it] e (λi h=>∃old,IsEnum h e it (i:Int) old/\h.IsListIter it a i) where
 mem:=by simp
 obj:=λi h st b hb=>by
  obtain⟨old,h1,h2⟩:=st
  have hb:b=e\/b=it:=by simpa using hb
  rcases hb with rfl|rfl
  . exact⟨_,h1,λv z=>by
     have z:Data.fields _=Data.cell v:=z
     cases z⟩
  . obtain⟨o,q,c,d⟩:=h2
    exact⟨o,q,λv z=>by rw[d] at z;cases z⟩
 keep:=λi h h' st k=>by
  obtain⟨old,h1,h2⟩:=st
  exact⟨old,k e (by simp) _ h1,h2.at λo q=>k it (by simp) o q⟩
 item:=by
  intro X hP hw hK hc i pins s σ H E I hf st hg
  subst hP hw hK
  obtain⟨old,h1,h2⟩:=st
  obtain⟨xs,x,hq,hx⟩:=hg
  obtain⟨its,rv,p,hz⟩:=I.list hq
  obtain⟨u,hu,ru⟩:=rv.get hx
  obtain⟨e0,e1,e2,e3,e4,e5⟩:=hf e (by simp)
  obtain⟨f0,f1,f2,f3,f4,f5⟩:=hf it (by simp)
  have fr:H s.heap.objs.size=none:=I.hok.fresh (Q01 _)
  refine wpAny_pyNext_enum_item h1 h2 p.isList (x:=u) (by simpa using hu) hne λh' q1 q2 q3 q4 q5=>?_
  refine⟨_,rfl,wpAny_letOwnedTupleGo_enum (s:={ s with heap:=h',toks:=s.toks+1 }) q1 λh'' g1 g2=>?_⟩
  have ne1:∀b o,s.heap.get? b=some o->b≠s.heap.objs.size:=λb o q=>Q09 (Q02 q)
  have kk:∀b o,b≠e->b≠it->s.heap.get? b=some o->h''.get? b=some o:=λb o n1 n2 q=>g2.extBut b o n1 (q5 b o n1 n2 q)
  have pe:s.heap.objs.size≠e:=Q0n (Q02 h1)
  have tup:h''.get? s.heap.objs.size=some { cls:=.type "tuple",data:=.seq #[.int i s.toks,u] }:=g2.extBut _ _ pe q3
  have I1:Inv X pins σ (upd H s.heap.objs.size (.tup [.int i,x])) { s with heap:=h'',toks:=s.toks+1 }:=by
   refine I.step (g':=s.gens) (d':=s.drawn) (ch:=[e,it]) (λb hb=>?_) (λb o _ _ hc q _=>?_) (λb o _ _ hc q _=>?_) (λb o _ q n=>?_) (λb o hc q=>?_) (λb ys q=>?_) (λb o v q=>?_) (λb ps q=>?_) (λm hm=>?_) (λb o q=>?_) I.bare
   . have hb:b=e\/b=it:=by simpa using hb
     rcases hb with rfl|rfl
     . exact⟨e3,e1,e4,e5⟩
     . exact⟨f3,f1,f4,f5⟩
   . exact kk b o (λz=>hc (by simp[z])) (λz=>hc (by simp[z])) q
   . exact⟨o.slots,kk b o (λz=>hc (by simp[z])) (λz=>hc (by simp[z])) q⟩
   . rw[au (ne1 b o q)];exact n
   . exact⟨o,kk b o (λz=>hc (by simp[z])) (λz=>hc (by simp[z])) q⟩
   . rw[au (aN q fr)];exact q
   . rw[au (aN q fr)];exact q
   . exact⟨#[],by rw[au (aN q fr),q];simp⟩
   . obtain⟨o,es,ep,ho,r⟩:=hm
     exact⟨o,es,ep,kk _ o (Ne.symm e1) (Ne.symm f1) ho,r⟩
   . by_cases hb:b=s.heap.objs.size
     . subst hb
       rw[aF] at q;cases q
       refine⟨dg,[.int i s.toks,u],.cons ⟨_,rfl⟩ (.cons ru .nil),?_⟩
       exact⟨_,tup,rfl,_,rfl⟩
     . rw[au hb] at q
       refine(I.hok b o q).stay (λc v hc' z=>kk c v ?_ ?_ z) (λc z=>by rw[au (aN z fr)];exact z) λc ys z=>by rw[au (aN z fr)];exact z
       . rcases hc' with z|z
         . rw[z];exact aN q e0
         . exact aN z e0
       . rcases hc' with z|z
         . rw[z];exact aN q f0
         . exact aN z f0
  refine⟨.ref s.heap.objs.size,_,I1,rfl,⟨s.heap.objs.size,x,fr,rfl,λys hy=>by rw[I.zQ hy hq];exact hx,rfl⟩,⟨u,?_,q2.extBut g2.extBut (Ne.symm hne)⟩,λb hb=>?_⟩
  . have ei:((i+1:Nat):Int)=(i:Int)+1:=by omega
    show IsEnum h'' e it ((i+1:Nat):Int) u
    rw[ei];exact g1
  . have hb':b=e\/b=it:=by simpa using hb
    have hlt:b<s.heap.objs.size:=by
     rcases hb' with rfl|rfl
     . exact Q02 h1
     . obtain⟨o,q,_⟩:=h2;exact Q02 q
    rw[au (Q09 hlt)]
    exact(hf b hb).1
 done:=by
  intro X hP hw hK hc i pins s σ H E I hf st hg
  subst hP hw hK
  obtain⟨old,h1,h2⟩:=st
  obtain⟨xs,hq,hx⟩:=hg
  obtain⟨its,rv,p,hz⟩:=I.list hq
  obtain⟨f0,f1,f2,f3,f4,f5⟩:=hf it (by simp)
  have hl:=rv.length
  exact wpAny_pyNext_enum_end (I.ok.hd hc) h1 h2 p.isList (by simp;omega) λh' eb=>⟨rfl,I.turned (t':=s.toks) (λb o hb q=>eb b o hb q) f0 f1 f3 f4 f5⟩
 self:=λA i s Q E st q=>by
  obtain⟨old,h1,_⟩:=st
  exact wpAny_pyIter_enum h1 q
noncomputable def agn (K:W.Frag) (ta:TA):TI:=λσ H R=>ta σ H λvs H1=>∃a,vs=[.ref a]/\(∃xs,aC K H1 a xs)/\R (Ite K a) H1
theorem ago:bootBuiltins "enumerate"=some (.type "enumerate"):=by decide+kernel
theorem Hh {a:Expr}{ta:TA}{p pos tpos:Pos}{elts:List Expr}{k:Nat}(hg:Gl X "enumerate")(hm:X.mg "enumerate"=none)(ha:PA X [a] ta)(hs:starEach [a] X.env=[(false,eval a X.env)]:=by rfl):
 PI X (.Tuple elts k tpos) (.Call (.Name "enumerate" p) [a] [] pos) (agn X.K ta):=by
 intro pins s σ H R I h
 refine Call_ (k_ I hg hm ago (PyProof.Rows.callWith_type1 (aM (ha pos pins s σ H _ I h) λus s1 ⟨vs,H1,I1,r1,q1⟩=>?_) hs rfl))
 obtain⟨l,e,⟨xs,hq⟩,q⟩:=q1
 subst e
 obtain⟨u,rfl,ru⟩:=vals1 r1
 cases ru
 obtain⟨its,rv,pl,hz⟩:=I1.list hq
 refine call_enumerate_list pl.isList λh' q1 q2 q3 q4=>?_
 refine wpAny_pyIter_enum q1 ?_
 have I2:Inv X pins σ H1 { s1 with heap:=h' }:=I1.kept (t':=s1.toks) q4
 refine⟨s1.heap.objs.size+1,[s1.heap.objs.size+1,s1.heap.objs.size],_,_,H1,rfl,I2,agm (Q0n (Q1e _)),⟨.none,q1,q2⟩,λb hb=>?_,q⟩
 have hb:s1.heap.objs.size<=b:=by
  have hb:b=s1.heap.objs.size+1\/b=s1.heap.objs.size:=by simpa using hb
  rcases hb with z|z
  . rw[z];exact Q13 _
  . rw[z];exact Q01 _
 exact I1.mq hb (I1.hok.fresh hb)
theorem boot_zip:bootBuiltins "zip"=some (.type "zip"):=by decide+kernel
theorem agp:dN X (binaryOp .Mult) (λx y H Q=>∃z i,x=.str z/\y=.int i/\MulOk z i/\Q (.str (Txt.mul z i)) H):=by
 intro pins s σ H x y v u Q I rx ry h
 obtain⟨z,i,rfl,rfl,ok,q⟩:=h
 obtain⟨t,rfl⟩:=rx
 obtain⟨t',rfl⟩:=ry
 exact SB.mul ok λt2 k=>⟨.str (Txt.mul z i),H,I.tok k,⟨_,rfl⟩,q⟩
end
theorem yes {σ:St}{H:Hp}{Q:Bool->Hp->Prop}(h:Q true H):fZ σ H Q:=h
section
variable {K:W.Frag}{σ:St}{H:Hp}{Q:VK}{D:Ends}
theorem tR {i:Nat}{a b:Str}{T U:TS}(h:σ[i]? =some (some (.str a)))(hy:decide (V.str a=V.str b)=true)(q:T D σ H):pL (mF (bL tD (bC i) (tC (.str b)))) T U D σ H:=
 ⟨_,h,rfl,_,rfl,by rw[hy];exact bZ q⟩
theorem jc {i:Nat}{a b:Str}{T U:TS}(h:σ[i]? =some (some (.str a)))(hy:decide (V.str a=V.str b)=false)(q:U D σ H):pL (mF (bL tD (bC i) (tC (.str b)))) T U D σ H:=
 ⟨_,h,rfl,_,rfl,by rw[hy];exact bH q⟩
theorem Hi {i:Nat}{p:Addr}{xs:List V}{a b:Str}{T U:TS}(h:σ[i]? =some (some (.ref p)))(h2:H p=some (.tup xs))(h3:xs[0]? =some (.str a))(hy:decide (V.str a=V.str b)=true)(q:T D σ H):
 pL (mF (bL tD (bL (mH K) (bC i) (tC (.int 0))) (tC (.str b)))) T U D σ H:=
 ⟨_,h,p,xs,0,.str a,rfl,rfl,aH.of h2,mG (j:=0) h3,rfl,_,rfl,by rw[hy];exact bZ q⟩
theorem Hj {i:Nat}{p:Addr}{xs:List V}{a b:Str}{T U:TS}(h:σ[i]? =some (some (.ref p)))(h2:H p=some (.tup xs))(h3:xs[0]? =some (.str a))(hy:decide (V.str a=V.str b)=false)(q:U D σ H):
 pL (mF (bL tD (bL (mH K) (bC i) (tC (.int 0))) (tC (.str b)))) T U D σ H:=
 ⟨_,h,p,xs,0,.str a,rfl,rfl,aH.of h2,mG (j:=0) h3,rfl,_,rfl,by rw[hy];exact bH q⟩
end
end L2
namespace L2
open PySem
noncomputable def YH (own N:List Str) (scope sc:Scope):Bool:=
 scope.names.all (λy=>decide (y.2≠ .cell)) && scope.names.all (λy=>decide (y.2=.local->scope.names.lookup y.1=some .local)) &&
 scope.names.all (λy=>decide (y.2=.free->sc.names.lookup y.1=some .cell\/sc.names.lookup y.1=some .free)) && decide (own++N).Nodup && N.all λx=>decide (scope.names.lookup x≠some .local)
theorem dw.of {X:Cx}{own N:List Str}{scope sc:Scope}(hsc:X.env.scope=sc)(hN:X.N=N)(k:scope.kind=.function)(c:YH own N scope sc=true):dw X own scope:=by
 unfold YH at c
 simp only[Bool.and_eq_true,Q1k,decide_eq_true_eq] at c
 obtain⟨⟨⟨⟨c1,c2⟩,c3⟩,c4⟩,c5⟩:=c
 exact⟨k,c1,c2,λy hy hf=>by rw[show X.env.kindOf y.1=X.env.scope.names.lookup y.1 from rfl,hsc];exact c3 y hy hf,by rw[hN];exact c4,by rw[hN];exact c5⟩
end L2
namespace n8
open PySem PySem.W PyProof.Rows
noncomputable def bK {α:Type}(f:Nat->Nat->Bool):KasT α->α
 | .ret a=>a
 | .ask i j k=>bK f (k (f i j))
theorem tU {α β:Type}(f:Nat->Nat->Bool)(g:α->KasT β):∀t:KasT α,bK f (t.bind g)=bK f (g (bK f t))
 | .ret _=>rfl
 | .ask i j k=>tU f g (k (f i j))
noncomputable def Bn {α:Type}(n:Nat) (R:α->Prop):KasT α->Prop
 | .ret a=>R a
 | .ask i j k=>i<n/\j<n/\∀b,Bn n R (k b)
theorem Bn.bind {α β:Type}{n:Nat}{R:α->Prop}{S:β->Prop}{g:α->KasT β}:∀{t:KasT α},Bn n R t->(∀a,R a->Bn n S (g a))->Bn n S (t.bind g)
 | .ret a,h,k=>k a h
 | .ask i j q,h,k=>⟨h.1,h.2.1,λb=>Bn.bind (h.2.2 b) k⟩
theorem YJ {α:Type}{n:Nat}{R:α->Prop}{f:Nat->Nat->Bool}{cmp:Nat->Nat->(Bool->Shared->Prop)->Shared->Prop}{Q:α->Shared->Prop}{s:Shared}
 (h:∀i j (C:Bool->Shared->Prop),i<n->j<n->C (f i j) s->cmp i j C s):∀{t:KasT α},Bn n R t->Q (bK f t) s->t.kasWp cmp Q s
 | .ret a,_,q=>q
 | .ask i j k,b,q=>h i j _ b.1 b.2.1 (YJ h (b.2.2 (f i j)) q)
noncomputable def Lt (n:Nat) (p:Array Nat):Prop:=0<n/\∀x∈p,x<n
theorem Lt.at {n:Nat}{p:Array Nat}(h:Lt n p)(i:Nat):p.getD i 0<n:=by
 rw[Q1m]
 cases e:p[i]? with
 |none=>exact h.1
 |some x=>exact h.2 x (Array.mem_of_getElem? e)
theorem Lt.perm {n:Nat}{p q:Array Nat}(h:Lt n p)(hp:q.Perm p):Lt n q:=⟨h.1,λx hx=>h.2 x (hp.mem_iff.mp hx)⟩
theorem n_ (p:Array Nat)(i j:Nat):(kas_rev p i j).Perm p:=mirror_perm _ _ _ _
theorem agq (p:Array Nat)(i j:Nat):(kas_rev p i j).size=p.size:=mirror_size _ _ _ _
theorem Hl {n:Nat}{p:Array Nat}(h:Lt n p):∀f m,Bn n (λ_=>True) (kas_asc p f m)
 |0,_=>trivial
 |f+1,m=>⟨h.at _,h.at _,λb=>by
   cases b with
   |true=>exact trivial
   |false=>exact Hl h f (m+1)⟩
theorem Al {n:Nat}:∀f (p:Array Nat) m q,Lt n p->Bn n (λr:Array Nat × Nat × Nat=>Lt n r.1) (kas_desc f p m q)
 |0,_,_,_,h=>h
 |f+1,p,m,q,h=>⟨h.at _,h.at _,λb=>by
   cases b with
   |true=>
    show Bn n _ (if q > 0 then kas_desc f (kas_rev p (m - (q+1)) m) (m+1) 0 else kas_desc f p (m+1) 0)
    split
    . exact Al f _ _ _ (h.perm (n_ _ _ _))
    . exact Al f _ _ _ h
   |false=>
    refine⟨h.at _,h.at _,λd=>?_⟩
    cases d with
    |true=>exact h
    |false=>exact Al f _ _ _ h⟩
theorem YK {n m r:Nat}{p:Array Nat}(h:Lt n p):Bn n (λq:Nat × Array Nat=>Lt n q.2) (kas_tail3 m r p):=
 (Hl (h.perm (n_ _ _ _)) _ _).bind λ_ _=>h.perm (n_ _ _ _)
theorem YL {n m r:Nat}{p:Array Nat}(h:Lt n p):Bn n (λq:Nat × Array Nat=>Lt n q.2) (kas_descPart m r p):=by
 refine(Al _ _ _ _ h).bind λa ha=>?_
 split
 . exact YK (ha.perm (n_ _ _ _))
 . exact YK ha
theorem agr {n r:Nat}{p:Array Nat}(h:Lt n p):Bn n (λq:Nat × Array Nat=>Lt n q.2) (kas_count r p):=by
 refine(Hl h _ _).bind λa _=>?_
 split
 . exact h
 split
 . refine⟨h.at _,h.at _,λb=>?_⟩
   cases b with
   |true=>exact h
   |false=>exact YL (h.perm (n_ _ _ _))
 . exact YL h
theorem Ho {n k:Nat}{p:Array Nat}(h:Lt n p):∀f l r,Bn n (λ_=>True) (kas_place p k f l r)
 |0,_,_=>trivial
 |f+1,l,r=>by
  unfold kas_place
  split
  . exact trivial
  . refine⟨h.at _,h.at _,λb=>?_⟩
    cases b with
    |true=>exact Ho h f _ _
    |false=>exact Ho h f _ _
theorem YM {n:Nat}:∀f (p:Array Nat) k,Lt n p->Bn n (λ_=>True) (kas_bin f p k)
 |0,_,_,_=>trivial
 |f+1,p,k,h=>(Ho h _ _ _).bind λl _=>YM f _ _ (h.perm (bubble_perm _ _ _))
theorem ags {n:Nat}(hn:0<n):Bn n (λ_=>True) (kas_sort n):=by
 have h:Lt n (List.toArray (List.range n)):=⟨hn,λx hx=>by simpa using hx⟩
 refine(agr h).bind λr hr=>?_
 split
 . exact YM _ _ _ hr
 . exact trivial
section
variable {O:KeyOrd}(key:Nat->O.α)
noncomputable def bR:Nat->Nat->Bool:=λi j=>O.blt (key i) (key j)
noncomputable def Kp (p:Array Nat) (i:Nat):O.α:=key (p.getD i 0)
noncomputable def jd (p:Array Nat) (k:Nat):Prop:=∀i j,i<=j->j<k->O.kle (Kp key p i) (Kp key p j)
noncomputable def jX (p:Array Nat) (k:Nat):Prop:=∀i j,i<=j->j<k->O.kle (Kp key p j) (Kp key p i)
variable {key}
theorem jd.succ {p:Array Nat}{n:Nat}(h:jd key p n)(h1:1<=n)(e:O.kle (Kp key p (n - 1)) (Kp key p n)):jd key p (n+1):=by
 intro i j hij hj
 by_cases hjn:j<n
 . exact h i j hij hjn
 . have:j=n:=by omega
   subst this
   by_cases hi:i=j
   . subst hi;exact KeyOrd.kle_refl _
   . exact KeyOrd.kle_trans (h i (j - 1) (by omega) (by omega)) e
theorem jX.succ {p:Array Nat}{n:Nat}(h:jX key p n)(h1:1<=n)(e:O.kle (Kp key p n) (Kp key p (n - 1))):jX key p (n+1):=by
 intro i j hij hj
 by_cases hjn:j<n
 . exact h i j hij hjn
 . have:j=n:=by omega
   subst this
   by_cases hi:i=j
   . subst hi;exact KeyOrd.kle_refl _
   . exact KeyOrd.kle_trans e (h i (j - 1) (by omega) (by omega))
theorem wN {p q:Array Nat}{i j:Nat}(h:p[i]? =q[j]?):Kp key p i=Kp key q j:=by
 unfold Kp
 rw[Q1m,Q1m,h]
theorem Hq {p:Array Nat}{i j:Nat}(hj:j<=p.size)(k:Nat):Kp key (kas_rev p i j) k=if i<=k/\k<j then Kp key p (i+j - 1 - k) else Kp key p k:=by
 have e:=getElem?_mirror_all (i:=i) hj k
 by_cases h1:i<=k/\k<j
 . rw[if_pos h1] at e ⊢;exact wN e
 . rw[if_neg h1] at e ⊢;exact wN e
theorem Hr {p:Array Nat}{i j:Nat}(hj:j<=p.size)(heq:∀k,i<=k->k<j->Kp key p k=Kp key p (j - 1))(k:Nat):Kp key (kas_rev p i j) k=Kp key p k:=by
 rw[Hq hj]
 split
 . rw[heq _ (by omega) (by omega),heq k (by omega) (by omega)]
 . rfl
theorem agt {p:Array Nat}{src d:Nat}(hs:src<p.size)(hd:d<=src)(k:Nat):
 Kp key (bubble p src d) k=if k=src - d then Kp key p src else if src - d<k/\k<=src then Kp key p (k - 1) else Kp key p k:=by
 have e:=getElem?_bubble hs d hd k
 by_cases h1:k=src - d
 . rw[if_pos h1] at e ⊢;exact wN e
 . rw[if_neg h1] at e ⊢
   by_cases h2:src - d<k/\k<=src
   . rw[if_pos h2] at e ⊢;exact wN e
   . rw[if_neg h2] at e ⊢;exact wN e
theorem jX.congr {p q:Array Nat}{n:Nat}(h:jX key p n)(e:∀k,Kp key q k=Kp key p k):jX key q n:=λi j a b=>by
 rw[e,e];exact h i j a b
theorem Hs {p:Array Nat}:∀f n,1<=n->jd key p n->n<=bK (bR key) (kas_asc p f n)/\bK (bR key) (kas_asc p f n)<=n+f/\jd key p (bK (bR key) (kas_asc p f n))/\
 (bK (bR key) (kas_asc p f n)<n+f->O.klt (Kp key p (bK (bR key) (kas_asc p f n))) (Kp key p (bK (bR key) (kas_asc p f n) - 1)))
 |0,n,_,h=>⟨Q01 _,Q01 _,h,λz=>absurd z (Q0l _)⟩
 |f+1,n,h1,h=>by
  have e:bK (bR key) (kas_asc p (f+1) n)=bK (bR key) (if O.blt (Kp key p n) (Kp key p (n - 1))=true then .ret n else kas_asc p f (n+1)):=rfl
  rw[e]
  cases c:O.blt (Kp key p n) (Kp key p (n - 1)) with
  |true=>
   rw[if_pos rfl]
   exact⟨Q01 _,Q14 _ _,h,λ_=>c⟩
  |false=>
   rw[if_neg (by simp)]
   obtain⟨a1,a2,a3,a4⟩:=Hs f (n+1) (by omega) (h.succ h1 c)
   exact⟨by omega,by omega,a3,λz=>a4 (by omega)⟩
structure DI (O:KeyOrd) (key:Nat->O.α) (p₀:Array Nat) (p:Array Nat) (n q:Nat):Prop where
 perm:p.Perm p₀
 non:jX key p n
 one:q+1<=n
 size:n<=p.size
 eq:∀k,n - (q+1)<=k->k<n->Kp key p k=Kp key p (n - 1)
theorem Am {p₀:Array Nat}:∀f (p:Array Nat) n q,DI O key p₀ p n q->n+f<=p₀.size->
 ∃p' n' q',bK (bR key) (kas_desc f p n q)=(p',n',q')/\DI O key p₀ p' n' q'/\n'<=n+f
 |0,p,n,q,d,_=>⟨p,n,q,rfl,d,Q01 _⟩
 |f+1,p,n,q,d,hs=>by
  have hsz:p.size=p₀.size:=d.perm.size_eq
  have e:bK (bR key) (kas_desc (f+1) p n q)=bK (bR key) (if O.blt (Kp key p n) (Kp key p (n - 1))=true then(if q > 0 then kas_desc f (kas_rev p (n - (q+1)) n) (n+1) 0 else kas_desc f p (n+1) 0)
   else .ask (p.getD (n - 1) 0) (p.getD n 0) λd=>if d=true then .ret (p,n,q) else kas_desc f p (n+1) (q+1)):=rfl
  rw[e]
  have one:=d.one
  cases c:O.blt (Kp key p n) (Kp key p (n - 1)) with
  |true=>
   rw[if_pos rfl]
   have cl:O.kle (Kp key p n) (Kp key p (n - 1)):=KeyOrd.kle_of_klt c
   by_cases hq:q > 0
   . rw[if_pos hq]
     have ek:∀k,Kp key (kas_rev p (n - (q+1)) n) k=Kp key p k:=Hr d.size d.eq
     have d':DI O key p₀ (kas_rev p (n - (q+1)) n) (n+1) 0:=⟨(n_ _ _ _).trans d.perm,(d.non.succ (by omega) cl).congr ek,by omega,by rw[agq];omega,λk h1 h2=>by
      have:k=n:=by omega
      subst this;rfl⟩
     obtain⟨p',n',q',r1,r2,r3⟩:=Am f _ _ _ d' (by omega)
     exact⟨p',n',q',r1,r2,by omega⟩
   . rw[if_neg hq]
     have d':DI O key p₀ p (n+1) 0:=⟨d.perm,d.non.succ (by omega) cl,by omega,by omega,λk h1 h2=>by
      have:k=n:=by omega
      subst this;rfl⟩
     obtain⟨p',n',q',r1,r2,r3⟩:=Am f _ _ _ d' (by omega)
     exact⟨p',n',q',r1,r2,by omega⟩
  |false=>
   rw[if_neg (by simp)]
   have e2:bK (bR key) (.ask (p.getD (n - 1) 0) (p.getD n 0) λd=>if d=true then .ret (p,n,q) else kas_desc f p (n+1) (q+1))=bK (bR key) (if O.blt (Kp key p (n - 1)) (Kp key p n)=true then .ret (p,n,q) else kas_desc f p (n+1) (q+1)):=rfl
   rw[e2]
   cases c2:O.blt (Kp key p (n - 1)) (Kp key p n) with
   |true=>
    rw[if_pos rfl]
    exact⟨p,n,q,rfl,d,by omega⟩
   |false=>
    rw[if_neg (by simp)]
    have ee:Kp key p n=Kp key p (n - 1):=O.total _ _ c c2
    have d':DI O key p₀ p (n+1) (q+1):=⟨d.perm,d.non.succ (by omega) (by rw[ee];exact KeyOrd.kle_refl _),by omega,by omega,λk h1 h2=>by
     show Kp key p k=Kp key p n
     by_cases hk:k=n
     . rw[hk]
     . rw[ee];exact d.eq k (by omega) (by omega)⟩
    obtain⟨p',n',q',r1,r2,r3⟩:=Am f _ _ _ d' (by omega)
    exact⟨p',n',q',r1,r2,by omega⟩
noncomputable def wO (O:KeyOrd) (key:Nat->O.α) (p₀:Array Nat) (nrem:Nat) (r:Nat × Array Nat):Prop:=r.2.Perm p₀/\1<=r.1/\r.1<=nrem/\jd key r.2 r.1
theorem YQ {p₀ p:Array Nat}{n nrem:Nat}(hp:p.Perm p₀)(h1:1<=n)(hn:n<=nrem)(hs:nrem<=p₀.size)(h:jX key p n):wO O key p₀ nrem (bK (bR key) (kas_tail3 n nrem p)):=by
 have hsz:p.size=p₀.size:=hp.size_eq
 unfold kas_tail3
 rw[tU]
 have hS:jd key (kas_rev p 0 n) n:=λi j hij hj=>by
  rw[Hq (by omega),Hq (by omega),if_pos (by omega),if_pos (by omega)]
  exact h _ _ (by omega) (by omega)
 obtain⟨a1,a2,a3,_⟩:=Hs (key:=key) (p:=kas_rev p 0 n) (nrem - n) n h1 hS
 exact⟨(n_ _ _ _).trans hp,by show 1<=bK _ _;omega,by show bK _ _<=nrem;omega,a3⟩
theorem YS {p₀ p:Array Nat}{n nrem:Nat}(hp:p.Perm p₀)(h1:1<=n)(hn:n+1<=nrem)(hs:nrem<=p₀.size)(h:jX key p (n+1)):wO O key p₀ nrem (bK (bR key) (kas_descPart n nrem p)):=by
 have hsz:p.size=p₀.size:=hp.size_eq
 unfold kas_descPart
 rw[tU]
 have d:DI O key p₀ p (n+1) 0:=⟨hp,h,by omega,by omega,λk h1 h2=>by
  have:k=n:=by omega
  subst this;rfl⟩
 obtain⟨p',n',q',r1,r2,r3⟩:=Am (key:=key) (nrem - (n+1)) p (n+1) 0 d (by omega)
 rw[r1]
 have o:=r2.one
 have sz:=r2.size
 have hsz':p'.size=p₀.size:=r2.perm.size_eq
 by_cases hq:q' > 0
 . show wO O key p₀ nrem (bK (bR key) (if q' > 0 then kas_tail3 n' nrem (kas_rev p' (n' - (q'+1)) n') else kas_tail3 n' nrem p'))
   rw[if_pos hq]
   exact YQ ((n_ _ _ _).trans r2.perm) (by omega) (by omega) hs (r2.non.congr (Hr r2.size r2.eq))
 . show wO O key p₀ nrem (bK (bR key) (if q' > 0 then kas_tail3 n' nrem (kas_rev p' (n' - (q'+1)) n') else kas_tail3 n' nrem p'))
   rw[if_neg hq]
   exact YQ r2.perm (by omega) (by omega) hs r2.non
theorem agu {p:Array Nat}{nrem:Nat}(h1:1<=nrem)(hs:nrem<=p.size):wO O key p nrem (bK (bR key) (kas_count nrem p)):=by
 unfold kas_count
 rw[tU]
 obtain⟨a1,a2,a3,a4⟩:=Hs (key:=key) (p:=p) (nrem - 1) 1 (Q01 _) (λi j hij hj=>by
  have e1:i=0:=by omega
  have e2:j=0:=by omega
  subst e1;subst e2;exact KeyOrd.kle_refl _)
 generalize bK (bR key) (kas_asc p (nrem - 1) 1)=n at *
 by_cases hn:n=nrem
 . rw[if_pos (by simpa using hn)]
   exact⟨Array.Perm.refl _,a1,by show n<=nrem;omega,a3⟩
 . rw[if_neg (by simpa using hn)]
   have cl:O.klt (Kp key p n) (Kp key p (n - 1)):=a4 (by omega)
   by_cases hg:n > 1
   . rw[if_pos hg]
     have e:bK (bR key) (.ask (p.getD 0 0) (p.getD (n - 1) 0) λc=>if c=true then .ret (n,p) else kas_descPart n nrem (kas_rev p 0 n))=
      bK (bR key) (if O.blt (Kp key p 0) (Kp key p (n - 1))=true then .ret (n,p) else kas_descPart n nrem (kas_rev p 0 n)):=rfl
     rw[e]
     cases c:O.blt (Kp key p 0) (Kp key p (n - 1)) with
     |true=>
      rw[if_pos rfl]
      exact⟨Array.Perm.refl _,a1,by show n<=nrem;omega,a3⟩
     |false=>
      rw[if_neg (by simp)]
      have all:∀k,0<=k->k<n->Kp key p k=Kp key p (n - 1):=λk _ hk=>by
       have c':O.kle (Kp key p (n - 1)) (Kp key p 0):=c
       exact KeyOrd.kle_antisymm (a3 k (n - 1) (by omega) (by omega)) (KeyOrd.kle_trans c' (a3 0 k (by omega) hk))
      have ek:∀k,Kp key (kas_rev p 0 n) k=Kp key p k:=Hr (by omega) all
      refine YS (n_ _ _ _) a1 (by omega) hs (jX.congr (jX.succ (n:=n) (λi j hij hj=>?_) a1 (KeyOrd.kle_of_klt cl)) ek)
      rw[all i (by omega) (by omega),all j (by omega) (by omega)]
      exact KeyOrd.kle_refl _
   . rw[if_neg hg]
     have:n=1:=by omega
     subst this
     refine YS (Array.Perm.refl _) a1 (by omega) hs (jX.succ (n:=1) (λi j hij hj=>?_) a1 (KeyOrd.kle_of_klt cl))
     have e1:i=0:=by omega
     have e2:j=0:=by omega
     subst e1;subst e2;exact KeyOrd.kle_refl _
theorem Ht {p:Array Nat}{k:Nat}(h:jd key p k):∀f l r,l<=r->r<=k->r - l<=f->(∀i,i<l->O.kle (Kp key p i) (Kp key p k))->(∀i,r<=i->i<k->O.klt (Kp key p k) (Kp key p i))->
 ∃m,bK (bR key) (kas_place p k f l r)=m/\m<=k/\(∀i,i<m->O.kle (Kp key p i) (Kp key p k))/\(∀i,m<=i->i<k->O.klt (Kp key p k) (Kp key p i))
 |0,l,r,h1,h2,h3,h4,h5=>⟨l,rfl,by omega,h4,λi a b=>h5 i (by omega) b⟩
 |f+1,l,r,h1,h2,h3,h4,h5=>by
  by_cases hg:l ≥ r
  . refine⟨l,?_,by omega,h4,λi a b=>h5 i (by omega) b⟩
    unfold kas_place
    rw[if_pos hg];rfl
  . have e:bK (bR key) (kas_place p k (f+1) l r)=bK (bR key) (if O.blt (Kp key p k) (Kp key p ((l+r) / 2))=true then kas_place p k f l ((l+r) / 2) else kas_place p k f ((l+r) / 2+1) r):=by
     show bK (bR key) (if l ≥ r then .ret l else _)=_
     rw[if_neg hg];rfl
    rw[e]
    cases c:O.blt (Kp key p k) (Kp key p ((l+r) / 2)) with
    |true=>
     rw[if_pos rfl]
     exact Ht h f _ _ (by omega) (by omega) (by omega) h4 λi a b=>KeyOrd.klt_of_klt_of_kle (show O.klt _ _ from c) (h _ _ a b)
    |false=>
     rw[if_neg (by simp)]
     exact Ht h f _ _ (by omega) h2 (by omega) (λi a=>KeyOrd.kle_trans (h i ((l+r) / 2) (by omega) (by omega)) (show O.kle _ _ from c)) h5
theorem YT:∀f (p:Array Nat) k,jd key p k->k+f<=p.size->(bK (bR key) (kas_bin f p k)).Perm p/\jd key (bK (bR key) (kas_bin f p k)) (k+f)
 |0,p,k,h,_=>⟨Array.Perm.refl _,h⟩
 |f+1,p,k,h,hs=>by
  have e:bK (bR key) (kas_bin (f+1) p k)=bK (bR key) (kas_bin f (bubble p k (k - bK (bR key) (kas_place p k k 0 k))) (k+1)):=by
   show bK (bR key) ((kas_place p k k 0 k).bind λl=>kas_bin f (bubble p k (k - l)) (k+1))=_
   rw[tU]
  rw[e]
  obtain⟨m,em,m1,m2,m3⟩:=Ht h k 0 k (Q0b _) (Q01 _) (Q01 _) (λi z=>absurd z (Nat.not_lt_zero _)) (λi a b=>absurd a (by omega))
  rw[em]
  have kb:=λi=>agt (key:=key) (p:=p) (src:=k) (d:=k - m) (by omega) (by omega) i
  have hm:k - (k - m)=m:=by omega
  rw[hm] at kb
  have hS:jd key (bubble p k (k - m)) (k+1):=by
   intro i j hij hj
   rw[kb i,kb j]
   by_cases ei:i=m
   . rw[if_pos ei]
     by_cases ej:j=m
     . rw[if_pos ej];exact KeyOrd.kle_refl _
     . rw[if_neg ej,if_pos (by omega)]
       exact KeyOrd.kle_of_klt (m3 _ (by omega) (by omega))
   . rw[if_neg ei]
     by_cases li:m<i/\i<=k
     . rw[if_pos li,if_neg (by omega),if_pos (by omega)]
       exact h _ _ (by omega) (by omega)
     . rw[if_neg li]
       by_cases ej:j=m
       . rw[if_pos ej];exact m2 i (by omega)
       . rw[if_neg ej]
         by_cases lj:m<j/\j<=k
         . rw[if_pos lj];exact h _ _ (by omega) (by omega)
         . rw[if_neg lj];exact h _ _ hij (by omega)
  obtain⟨b1,b2⟩:=YT f (bubble p k (k - m)) (k+1) hS (by rw[bubble_size];omega)
  exact⟨b1.trans (bubble_perm _ _ _),by rw[show k+(f+1)=k+1+f by omega];exact b2⟩
theorem agv {n:Nat}(hn:1<=n):(bK (bR key) (kas_sort n)).toList.Perm (List.range n)/\((bK (bR key) (kas_sort n)).toList.map key).Pairwise O.kle:=by
 have hz:(List.toArray (List.range n)).size=n:=by simp
 obtain⟨c1,c2,c3,c4⟩:=agu (key:=key) (p:=List.toArray (List.range n)) (nrem:=n) hn (by omega)
 have main:(bK (bR key) (kas_sort n)).Perm (List.toArray (List.range n))/\jd key (bK (bR key) (kas_sort n)) n:=by
  unfold kas_sort
  rw[tU]
  generalize bK (bR key) (kas_count n (List.toArray (List.range n)))=r at *
  obtain⟨m,p⟩:=r
  have hsz:p.size=n:=by rw[c1.size_eq,hz]
  by_cases hm:m<n
  . show(bK (bR key) (if m<n then kas_bin (n - max m 1) p (max m 1) else .ret p)).Perm _/\jd key (bK (bR key) (if m<n then kas_bin (n - max m 1) p (max m 1) else .ret p)) n
    rw[if_pos hm]
    have c2:1<=m:=c2
    have em:max m 1=m:=by omega
    rw[em]
    obtain⟨b1,b2⟩:=YT (key:=key) (n - m) p m c4 (by omega)
    exact⟨b1.trans c1,by rw[show n=m+(n - m) by omega];rw[show m+(n - m) - m=n - m by omega];exact b2⟩
  . show(bK (bR key) (if m<n then kas_bin (n - max m 1) p (max m 1) else .ret p)).Perm _/\jd key (bK (bR key) (if m<n then kas_bin (n - max m 1) p (max m 1) else .ret p)) n
    rw[if_neg hm]
    have c3:m<=n:=c3
    have:m=n:=by omega
    subst this
    exact⟨c1,c4⟩
 refine⟨Array.perm_iff_toList_perm.mp main.1,?_⟩
 have hsz:(bK (bR key) (kas_sort n)).size=n:=by rw[main.1.size_eq,hz]
 rw[Q1q,List.pairwise_iff_getElem]
 intro i j hi hj hij
 have hi':i<(bK (bR key) (kas_sort n)).size:=by simpa using hi
 have hj':j<(bK (bR key) (kas_sort n)).size:=by simpa using hj
 have q:=main.2 i j (Q0m hij) (by omega)
 unfold Kp at q
 rw[Q1m,Q1m,Q2m hi',Q2m hj'] at q
 simpa using q
end
end n8
namespace L2
open PySem PySem.Spec PyProof.Rows
noncomputable def Ao (c':Addr) (qual:Str):Heap->Prop:=λh=>h.CodeRec (.ref c') qual
noncomputable def rm (P:Addr) (pos:Pos) (qual:Str) (c':Addr) (H:Hp):Prop:=H P=some (.dD #[rawInt pos.line,rawInt pos.col,.ref c'])/\H c'=some (.ext (Ao c' qual))
noncomputable def bB (P:Addr) (pos:Pos) (qual:Str) (H:Hp):Prop:=H P=some (.dD #[])\/∃c',rm P pos qual c' H
theorem rm.mono {P:Addr}{pos:Pos}{qual:Str}{c':Addr}{H H':Hp}(h:rm P pos qual c' H)(k:∀b o,(b=P\/b=c')->H b=some o->H' b=some o):rm P pos qual c' H':=⟨k _ _ (.inl rfl) h.1,k _ _ (.inr rfl) h.2⟩
noncomputable def BM (mg:Str->Option Value) (base:Heap):Prop:=
 ∃bm o,mg "__builtins__"=some (.ref bm)/\bm≠builtinsNs/\bm≠mainGlobals/\base.get? bm=some o/\o.cls=.type "module"/\o.dict=some builtinsNs/\o.data=.plain
section
variable {X:Cx}{pins:List (Addr × Obj)}{σ:St}{H:Hp}{s:Shared}
theorem Inv.YW (I:Inv X pins σ H s){P b:Addr}{o:HO}{u:Obj}(e:H P=some o)(hb:X.base.get? b=some u):b≠P:=λz=>by
 have:=(I.bs b u hb).2
 rw[z,e] at this;cases this
theorem Inv.YX (I:Inv X pins σ H s)(B:BM X.mg X.base){P:Addr}{o:HO}(e:H P=some o):s.heap.BuiltinsAt X.mg P:=by
 obtain⟨bm,ob,b1,b2,b3,b4,b5⟩:=B
 exact⟨bm,ob,b1,b2,b3,I.YW e b4,(I.bs bm ob b4).1,b5⟩
theorem Inv.adopt {b:Addr}{o:HO}{h':Heap}{t':Nat}(I:Inv X pins σ H s)(f:fW X pins H b)(k:∀c u,c≠b->s.heap.get? c=some u->h'.get? c=some u)(new:cT X.prog X.w (upd H b o) h' b o):
 Inv X pins σ (upd H b o) { s with heap:=h',toks:=t' }:=by
 obtain⟨f0,f1,f2,f3,f4,f5⟩:=f
 have nb:∀c u,H c=some u->c≠b:=λc u e=>aN e f0
 refine I.step (g':=s.gens) (d':=s.drawn) (ch:=[b]) (λc hc=>?_) (λc u _ _ hc e _=>k c u (λz=>hc (by simp[z])) e) (λc u _ _ hc e _=>⟨u.slots,k c u (λz=>hc (by simp[z])) e⟩) (λc u hc e n=>?_)
  (λc u hc e=>⟨u,k c u (λz=>hc (by simp[z])) e⟩) (λc xs e=>?_) (λc ob u e=>?_) (λc ps e=>⟨#[],?_⟩) (λm hm=>?_) (λc u e=>?_) I.bare
 . have e:c=b:=by simpa using hc
   subst e
   exact⟨f3,f1,f4,f5⟩
 . rw[au (λz=>hc (by simp[z]))];exact n
 . rw[au (nb _ _ e)];exact e
 . rw[au (nb _ _ e)];exact e
 . rw[au (nb _ _ e),e];simp
 . obtain⟨ob,es,ep,ho,r⟩:=hm
   exact⟨ob,es,ep,k _ ob (Ne.symm f1) ho,r⟩
 . by_cases hc:c=b
   . subst hc
     rw[aF] at e;cases e
     exact new
   . rw[au hc] at e
     refine(I.hok c u e).stay (λd v hd q=>k d v ?_ q) (λd q=>by rw[au (nb _ _ q)];exact q) λd xs q=>by rw[au (nb _ _ q)];exact q
     rcases hd with z|z
     . rw[z];exact hc
     . exact nb _ _ z
theorem Inv.own {b:Addr}{h':Heap}{t':Nat}(I:Inv X pins σ H s)(f:fW X pins H b)(hs:Heap.SameBut b s.heap h'):Inv X pins σ H { s with heap:=h',toks:=t' }:=
 I.turned (t':=t') (λc u hc e=>(hs.2 c hc).trans e) f.1 f.2.1 f.2.2.2.1 f.2.2.2.2.1 f.2.2.2.2.2
theorem agw {name qual:Str}{params:Arguments}{body:Expr}{scope:Scope}{pos:Pos}{firstLine:Nat}{cl:List (Str × Addr)}{c P:Addr}{Q:Value->Shared->Prop}{E:Value->Shared->Prop}(I:Inv X pins σ H s)(hcode:X.env.code=.ref c)(C:W.CodeHd X.base c P)
 (B:BM X.mg X.base) (T:bB P pos qual H) (hcl:closureFor scope X.env=pure cl)
 (h:∀(f c':Addr) (pm ctv:Value) (H':Hp) (s':Shared),Inv X (pins++[(f,W.kla_obj name qual params body scope cl pm c' ctv)]) σ H' s'->rm P pos qual c' H'->(∀b o,b≠P->H b=some o->H' b=some o)->Q (.ref f) s'):
 wpAny (model X.prog X.w) X.A (makeFunction name qual params (.expr body) scope X.env [] [] [] pos firstLine) Q E s:=by
 have hg:s.heap.Ns mainGlobals X.mg:=I.mod.glob.keeps I.bk
 have C':=C.keeps I.bk
 have lay:∀{H':Hp} {s':Shared} {f:Addr} {o:Obj},Inv X pins σ H' s'->s'.heap.get? f=some o->H' f=none->s.heap.objs.size<=f->(∀v,o.data≠ .cell v)->Inv X (pins++[(f,o)]) σ H' s':=λ{H' s' f o} J e n hz d=>
  J.qO λp hp=>(List.mem_append.mp hp).elim (λz=>J.pin p (Q0e _ z)) λz=>by
    have:p=(f,o):=by simpa using z
    subst this
    exact⟨e,n,Q0n (Q0a I.lt hz),I.sX hz,d⟩
 rcases T with e|⟨c',e1,e2⟩
 . have hP:s.heap.get? P=some (W.tabObj #[]):=I.hok P _ e
   have hPs:P<s.heap.objs.size:=Q02 hP
   have hgP:mainGlobals≠P:=by
    obtain⟨o,es,ep,eo,_⟩:=I.mod.glob
    exact I.YW e eo
   refine W.kla_makeFunction (mg:=X.mg) hcl I.ok.glob hg hcode C' hP trivial rfl hgP (I.YX B e) λc' ctv h' tk hx hge hlt hrec htb=>?_
   have YZ:c'≠P:=Q0n (Q0a hPs hge)
   have hcn:H c'=none:=I.hok.fresh hge
   have nP:∀b u,H b=some u->u≠ .dD #[]->b≠P:=λb u q d z=>by
    rw[z,e] at q
    exact d (Option.some.inj q).symm
   have nC:∀b u,H b=some u->b≠c':=λb u q=>aN q hcn
   have kk:∀(ob:Obj) b u,b≠P->s.heap.get? b=some u->(h'.push ob).get? b=some u:=λob b u hb q=>Q04 _ (hx b u hb q)
   have I1:Inv X pins σ (upd (upd H P (.dD (#[]++#[rawInt pos.line,rawInt pos.col,.ref c']))) c' (.ext (Ao c' qual))) { s with heap:=h'.push (W.kla_obj name qual params body scope cl ((X.mg "__name__").getD .none) c' ctv),toks:=tk }:=by
    refine I.step (g':=s.gens) (d':=s.drawn) (ch:=[]) (λ_ z=>nomatch z) (λb o _ _ _ q n=>kk _ b o (λz=>by rw[z,e] at n;cases n) q) (λb o _ _ _ q n=>⟨o.slots,kk _ b o (λz=>by rw[z,e] at n;cases n) q⟩)
     (λb o _ q n=>?_) (λb o _ q=>?_) (λb xs q=>?_) (λb o u q=>?_) (λb ps q=>?_) (λm hm=>?_) (λb o q=>?_) I.bare
    . have b1:b≠P:=λz=>by rw[z,e] at n;cases n
      have b2:b≠c':=Q09 (Q0a (Q02 q) hge)
      rw[au b2,au b1];exact n
    . by_cases hb:b=P
      . subst hb
        exact⟨_,Q04 _ htb⟩
      . exact⟨o,kk _ b o hb q⟩
    . rw[au (nC _ _ q),au (nP _ _ q (by intro z;cases z))];exact q
    . rw[au (nC _ _ q),au (nP _ _ q (by intro z;cases z))];exact q
    . by_cases hb:b=P
      . subst hb
        rw[e] at q;cases q
        exact⟨_,by rw[au (Ne.symm YZ),aF]⟩
      . exact⟨#[],by rw[au (nC _ _ q),au hb,q];simp⟩
    . obtain⟨o,es,ep,ho,r⟩:=hm
      exact⟨o,es,ep,kk _ _ o (λz=>by have:=I.free;rw[z,e] at this;cases this) ho,r⟩
    . by_cases hb:b=c'
      . subst hb
        rw[aF] at q;cases q
        obtain⟨c₂,oc,vs,t,z1,z2,z3,z4⟩:=hrec
        cases z1
        refine⟨⟨_,oc,vs,t,rfl,Q04 _ z2,z3,z4⟩,⟨oc,Q04 _ z2⟩,λh1 h2 y hy=>?_⟩
        obtain⟨c₃,oc',vs',t',y1,y2,y3,y4⟩:=y
        cases y1
        exact⟨_,oc',vs',t',rfl,hy _ y2,y3,y4⟩
      . rw[au hb] at q
        by_cases hp:b=P
        . subst hp
          rw[aF] at q;cases q
          show(h'.push _).get? b=some { cls:=.none,data:=.fields _ }
          exact Q04 _ htb
        . rw[au hp] at q
          refine(I.hok b o q).stay (λd v hd y=>kk _ d v ?_ y) (λd y=>by rw[au (nC _ _ y),au (nP _ _ y (by intro z;cases z))];exact y) λd xs y=>by rw[au (nC _ _ y),au (nP _ _ y (by intro z;cases z))];exact y
          rcases hd with z|z
          . rw[z];exact hp
          . exact nP _ _ z (by intro z;cases z)
   have fz:s.heap.objs.size<=h'.objs.size:=Q0m (Q19 hge hlt)
   have fn:upd (upd H P (.dD (#[]++#[rawInt pos.line,rawInt pos.col,.ref c']))) c' (.ext (Ao c' qual)) h'.objs.size=none:=by
    rw[au (Q0n hlt),au (Q0n (Q0a hPs fz))]
    exact I.hok.fresh fz
   refine h h'.objs.size c' ((X.mg "__name__").getD .none) ctv _ _ (lay I1 (Q0d _ rfl) fn fz (by intro v z;cases z)) ⟨by rw[au (Ne.symm YZ),aF];rfl,aF⟩ λb o hb q=>?_
   rw[au (nC _ _ q),au hb];exact q
 . have hP:s.heap.get? P=some (W.tabObj #[rawInt pos.line,rawInt pos.col,.ref c']):=I.hok P _ e1
   refine W.kla_makeFunctionHit (mg:=X.mg) (cv:=.ref c') hcl I.ok.glob hg hcode C' hP (by simp[TriplesOk,rawInt]) (by simp[codeAmong,rawInt]) (I.YX B e1) λctv h' tk hk hsz=>?_
   exact h h'.objs.size c' ((X.mg "__name__").getD .none) ctv H _ (lay (I.kept λb u q=>Q04 _ (hk b u q)) (Q0d _ rfl) (I.hok.fresh hsz) hsz (by intro v z;cases z)) ⟨e1,e2⟩ λb o _ q=>q
structure tV (X:Cx) (x:Str) (N':List Str) (scope:Scope):Prop where
 kind:scope.kind=.function
 co:scope.isCoroutine=false
 gen:scope.isGenerator=false
 cell:∀y∈scope.names,y.2≠ .cell
 loc:scope.names.lookup x=some .local
 free:∀y∈scope.names,y.2=.free->X.env.kindOf y.1=some .cell\/X.env.kindOf y.1=some .free
 len:N'.length=X.N.length
 outer:∀(i:Nat) (y:Str),N'[i]? =some y->scope.names.lookup y=none\/(X.N[i]? =some y/\scope.names.lookup y≠some .local)
noncomputable def rz (scope:Scope):List Str->List Str->Bool
 |[],[]=>true
 |y::r,z::q=>(decide (scope.names.lookup y=none) || (decide (z=y) && decide (scope.names.lookup y≠some .local))) && rz scope r q
 |_,_=>false
theorem Y0 {scope:Scope}:∀{N' N:List Str},rz scope N' N=true->N'.length=N.length
 |[],[],_=>rfl
 |y::r,z::q,h=>by
  simp only[rz,Bool.and_eq_true] at h
  rw[Q0r,Q0r,Y0 h.2]
theorem Y4 {scope:Scope}:∀{N' N:List Str},rz scope N' N=true->∀(i:Nat) (y:Str),N'[i]? =some y->scope.names.lookup y=none\/(N[i]? =some y/\scope.names.lookup y≠some .local)
 |[],[],_,i,y,e=>by simp at e
 |w::r,z::q,h,0,y,e=>by
  simp only[rz,Bool.and_eq_true,Bool.or_eq_true,decide_eq_true_eq] at h
  have e:some w=some y:=e
  cases e
  rcases h.1 with h1|⟨h1,h2⟩
  . exact .inl h1
  . subst h1;exact .inr ⟨rfl,h2⟩
 |w::r,z::q,h,i+1,y,e=>by
  simp only[rz,Bool.and_eq_true] at h
  have:=Y4 h.2 i y (by simpa using e)
  simpa using this
noncomputable def Y5 (x:Str) (N' N:List Str) (scope sc:Scope):Bool:=
 scope.names.all (λy=>decide (y.2≠ .cell)) && decide (scope.names.lookup x=some .local) && scope.names.all (λy=>decide (y.2=.free->sc.names.lookup y.1=some .cell\/sc.names.lookup y.1=some .free)) && rz scope N' N
theorem tV.of {x:Str}{N' N:List Str}{scope sc:Scope}(hsc:X.env.scope=sc)(hN:X.N=N)(k:scope.kind=.function)(c1:scope.isCoroutine=false)(c2:scope.isGenerator=false)(c:Y5 x N' N scope sc=true):tV X x N' scope:=by
 unfold Y5 at c
 simp only[Bool.and_eq_true,Q1k,decide_eq_true_eq] at c
 obtain⟨⟨⟨a1,a2⟩,a3⟩,a4⟩:=c
 exact⟨k,c1,c2,a1,a2,λy hy hf=>by rw[show X.env.kindOf y.1=X.env.scope.names.lookup y.1 from rfl,hsc];exact a3 y hy hf,by rw[hN];exact Y0 a4,by rw[hN];exact Y4 a4⟩
noncomputable abbrev Aq (qual:Str) (scope:Scope) (cl:List (Str × Addr)) (f c':Addr) (s:Shared):Env:=W.envX qual scope s.heap.objs.size f (.ref c') cl
noncomputable def Ar (X:Cx) (x:Str) (N':List Str) (scope:Scope) (cl:List (Str × Addr)) (qual:Str) (f c':Addr) (s:Shared) (H:Hp):Cx:=
 { X with A:=X.A.in1.in1.deeper (Aq qual scope cl f c' s),N:=x::N',s₀:=s,H₀:=H,env:=Aq qual scope cl f c' s,outer:=X.stack,stack:=Aq qual scope cl f c' s::X.stack,ex:=[],fn:=λ_=>false,pn:=[],calm:=true,xe:=λ_ _=>False }
theorem Inv.lam {x:Str}{N':List Str}{scope:Scope}{cl:List (Str × Addr)}{qual:Str}{f c':Addr}{v:V}{u:Value}{h₁:Heap}{t':Nat}(I:Inv X pins σ H s)(S:tV X x N' scope)(hd:X.A.handled=none)
 (hsub:∀y c,cl.lookup y=some c->X.env.cells.lookup y=some c) (hget:∀y,(y,NameKind.free)∈scope.names->cl.lookup y=X.env.cells.lookup y) (r:RelV v u)
 (hn:h₁.Ns s.heap.objs.size (λy=>([(x,u)]:List (Str × Value)).reverse.lookup y)) (old:∀b o,s.heap.get? b=some o->h₁.get? b=some o):
 Inv (Ar X x N' scope cl qual f c' s H) [] (some v::σ) H { s with heap:=h₁,toks:=t' }:=by
 have ok:=I.ok
 have hfree:∀y,(scope.names.lookup y=some .cell\/scope.names.lookup y=some .free)->(y,NameKind.free)∈scope.names:=λy hy=>by
  rcases hy with hy|hy
  . exact absurd rfl (S.cell _ (PySem.mem_of_lookup hy))
  . exact PySem.mem_of_lookup hy
 refine⟨⟨ok.mod,S.kind,rfl,rfl,Q01 _,λy z c e1 e2=>ok.inj y z c (hsub y c e1) (hsub z c e2),λy hy=>?_,λy c hy _=>(nomatch hy),λ_=>hd,Around.frames_deeper (show X.A.in1.in1.frames=some X.stack from ok.frames),.inr ⟨rfl,rfl⟩,λb hb=>absurd (show b∈([]:List Addr) from hb) (by simp),I.bs,Q0c ok.jo I.sz,
  λb o _ hb=>absurd (show b∈([]:List Addr) from hb) (by simp),λb hb=>absurd (show b∈([]:List Addr) from hb) (by simp),I.stack,I.v5⟩,
  rfl,I.bare,Un.kept old,⟨_,hn,λi y v' e1 e2 e3=>?_⟩,λy c e=>?_,I.hok.fresh (Q01 _),λy c e=>I.fO y c (hsub y c e),λp hp=>absurd (show p∈([]:List (Addr × Obj)) from hp) (by simp),I.hok.kept old,?_⟩
 . have hm:=hfree y hy
   obtain⟨c,e⟩:=ok.has y (S.free _ hm rfl)
   exact⟨c,by rw[show(Ar X x N' scope cl qual f c' s H).env.cells=cl from rfl,hget y hm];exact e⟩
 . cases i with
   |zero=>
    have e1:some x=some y:=e1
    cases e1
    have e2:some (some v)=some (some v'):=e2
    cases e2
    exact⟨u,r,.inl ⟨S.loc,by simp⟩⟩
   |succ i=>
    have e1:N'[i]? =some y:=by
     have e1:(x::N')[i+1]? =some y:=e1
     simpa using e1
    have e2:σ[i]? =some (some v'):=by simpa using e2
    have ho:X.N[i]? =some y/\scope.names.lookup y≠some .local:=by
     have e3:scope.names.lookup y=some .local\/scope.names.lookup y=some .cell\/scope.names.lookup y=some .free:=e3
     rcases S.outer i y e1 with q|q
     . rw[q] at e3
       rcases e3 with z|z|z <;> cases z
     . exact q
    have hk2:scope.names.lookup y=some .cell\/scope.names.lookup y=some .free:=by
     rcases e3 with q|q
     . exact absurd q ho.2
     . exact q
    have hm:=hfree y hk2
    have wJ:=S.free _ hm rfl
    obtain⟨mX,hnX,G_⟩:=I.loc
    obtain⟨u',r',lk⟩:=G_ i y v' ho.1 e2 (.inr wJ)
    refine⟨u',r',.inr ⟨hk2,?_⟩⟩
    rcases lk with⟨q,_⟩|⟨_,c,ec,hc⟩
    . rcases wJ with z|z
      . rw[z] at q;cases q
      . rw[z] at q;cases q
    . obtain⟨o,ho,hdd⟩:=hc
      exact⟨c,(hget y hm).trans ec,o,old _ _ ho,hdd⟩
 . obtain⟨w',o,ho,hdd⟩:=I.cell y c (hsub y c e)
   exact⟨w',o,old _ _ ho,hdd⟩
 . show _=(x::N').length
   rw[Q0r,Q0r,I.len,S.len]
theorem agx {x:Str}{N':List Str}{name qual:Str}{params:Arguments}{body:Expr}{scope:Scope}{cl:List (Str × Addr)}{f c':Addr}{pm ctv:Value}{v:V}{u:Value}{te:TE}{Q:VK}{E:Value->Shared->Prop}(I:Inv X pins σ H s)(S:tV X x N' scope)(hd:X.A.handled=none)(agy:X.A.depth<recursionLimit)
 (hsub:∀y c,cl.lookup y=some c->X.env.cells.lookup y=some c) (hget:∀y,(y,NameKind.free)∈scope.names->cl.lookup y=X.env.cells.lookup y) (hf:(f,W.kla_obj name qual params body scope cl pm c' ctv)∈pins) (hc:H c'=some (.ext (Ao c' qual)))
 (hb:∀u:Value,bindArgs (W.kla_fn name qual params body scope cl pm (.ref c') ctv) ⟨[u],[]⟩=pure [(x,u)]) (r:RelV v u) (he:∀(s:Shared) (H:Hp),PE (Ar X x N' scope cl qual f c' s H) body te) (h:te (some v::σ) H Q):
 wpAny (model X.prog X.w) X.A.in1.in1 (call (.ref f) [u]) (EP X pins σ Q) E s:=by
 obtain⟨p1,p2,p3,p4,p5⟩:=I.pin _ (Q0e _ hf)
 refine wpAny_call (W.kla_callFunE agy p1 rfl S.co S.gen rfl (I.hok c' _ hc).1 ?_)
 rw[hb]
 refine Q03 (wpAny_newFunctionEnv S.cell (λy hy=>?_) (λh₁ hns hsb=>?_) S.kind)
 . have e:y=(x,u):=by simpa using hy
   subst e
   exact S.loc
 have old:∀b o,s.heap.get? b=some o->h₁.get? b=some o:=λb o e=>hsb.extBut b o (Q09 (Q02 e)) (Q04 _ e)
 refine⟨I.nolimit.keeps old,?_⟩
 show codeAny _ _ (.expr body (Aq qual scope cl f c' s)) _ _
 have J:=I.lam (t':=s.toks+([(x,u)]:List (Str × Value)).length) (qual:=qual) (f:=f) (c':=c') S hd hsub hget r hns old
 refine W.kla_codeExpr (Q0h (he s H [] _ _ H Q J h) (λu' s' hq=>?_) λe s' hF=>hF.elim)
 obtain⟨v',H',J',rv,q⟩:=hq
 exact I.after ⟨v',H',J'.os,J'.bare,J'.base,J'.hok,rv,q⟩
end
section
variable {X:Cx}{pins:List (Addr × Obj)}{σ:St}{H:Hp}{s:Shared}
noncomputable def Asks (prog:Program) (w:World) (A:Around) (s:Shared) (us:List Value) {O:KeyOrd}(key:Nat->O.α):Prop:=
 2<=us.length->wpAny (model prog w) A (keyKind' us.toArray) (λκ s'=>s'=s/\∀(i j:Nat) (C:Bool->Shared->Prop),i<us.length->j<us.length->C (O.blt (key i) (key j)) s->W.kas_ask prog w A κ us i j C s) (λ_ _=>False) s
theorem Y6 {xs:List V}{vs:List Value}(r:Vals xs vs):∀p:List Nat,Vals (p.map λi=>xs.getD i .non) (p.map λi=>vs.getD i Value.none)
 |[]=>.nil
 |i::p=>by
  refine .cons ?_ (Y6 r p)
  show RelV (xs.getD i .non) (vs.getD i Value.none)
  rw[Q0p,Q0p]
  cases e:xs[i]? with
  |none=>
   rw[r.none_of e]
   exact rfl
  |some x=>
   obtain⟨u,hu,ru⟩:=r.get e
   rw[hu]
   exact ru
theorem Y7 {α:Type}(a0:α)(l:List α):((List.range l.length).map λi=>l.getD i a0)=l:=by
 apply Q2n
 . simp
 . intro i h1 h2
   simp[h2]
theorem agz {us vs:List Value}(hl:us.length=vs.length):((List.toArray us).zip (List.toArray vs)).map (·.2)=List.toArray vs:=by
 apply Array.toList_inj.mp
 rw[Array.toList_map,ksk_zip]
 show List.map Prod.snd (us.zip vs)=vs
 exact List.map_snd_zip (by omega)
theorem agA {α:Type}{R:α->α->Prop}(key:Nat->α){n:Nat}(h:n<2):((List.range n).map key).Pairwise R:=by
 have:n=0\/n=1:=by omega
 rcases this with rfl|rfl
 . exact List.Pairwise.nil
 . exact Q2o _ _
noncomputable abbrev lo (xs:List Value) (n:Nat):Obj:=seqObj "list" (List.toArray xs) n
theorem Y8 {E:Value->Shared->Prop}{kS D:Addr}{us:List Value}{e e1:Nat}{st:SortSt}{out:List Value}{outV:List V}{P:PySem.Fin->Shared->Prop}{A:Around}(I:Inv X (pins++[(kS,lo us e),(D,lo [] e1)]) σ H s)(fK:fW X pins H kS)(fD:fW X pins H D)(hne:kS≠D)(hus:us.length<64)(ho:out.length<64)
 (hout:(arrOf st).map (·.2)=List.toArray out) (hf:failedOf st=none) (rv:Vals outV out)
 (h:∀s',Inv X pins σ (upd H D (.lst outV)) s'->P (.done (.ret .none)) s'):wpAny (model X.prog X.w) A (ksk_tail D false e1 (.ref kS) st) P E s:=by
 have nk:=(I.pin (kS,lo us e) (Q0e _ (Q0e _ (Q0f)))).1
 have nD:=(I.pin (D,lo [] e1) (Q0e _ (Q0e _ (Q0j _ Q0f)))).1
 have s1:=Heap.SameBut.update s.heap kS (Obj.mapSeq λ_=>(#[]:Array Value))
 have Hu:(s.heap.update kS (Obj.mapSeq λ_=>(#[]:Array Value))).get? D=some (lo [] e1):=(s1.2 D hne.symm).trans nD
 have s2:=Heap.SameBut.update (s.heap.update kS (Obj.mapSeq λ_=>(#[]:Array Value))) D (Obj.mapSeq λ_=>List.toArray out)
 obtain⟨c2,hc2⟩:∃c2,((s.heap.update kS (Obj.mapSeq λ_=>(#[]:Array Value))).update D (Obj.mapSeq λ_=>List.toArray out)).get? D=some (lo out c2):=⟨_,get?_update_seq Hu λ_=>List.toArray out⟩
 have I1:Inv X pins σ H { s with heap:=s.heap.update kS (Obj.mapSeq λ_=>(#[]:Array Value)) }:=I.pP.own (t':=s.toks) fK s1
 have I2:Inv X pins σ (upd H D (.lst outV)) { s with heap:=(s.heap.update kS (Obj.mapSeq λ_=>(#[]:Array Value))).update D (Obj.mapSeq λ_=>List.toArray out) }:=
  I1.adopt (t':=s.toks) fD (λc u hc q=>(s2.2 c hc).trans q) ⟨by rw[rv.length];exact Q0m (cP (by omega)),out,c2,rv,hc2⟩
 unfold ksk_tail
 try dsimp only
 rw[hout]
 refine Q00 (listUpdate_at nk rfl ?_ (by rw[Q08,sizeLine_eq];omega) (Q0b _))
 refine Q00 (wpAny_letGo ?_)
 refine Q00 (seqEpoch_at Hu rfl ?_)
 refine Q00 (listUpdate_at Hu rfl ?_ (Q0b _) (by show(List.toArray out).size<=_;rw[Q08,sizeLine_eq];omega))
 rw[hf]
 simp only[bne_self_eq_false,Bool.false_eq_true,if_false]
 exact Q03 (h _ I2)
theorem agB {E:Value->Shared->Prop}{kS D:Addr}{us vs:List Value}{xs:List V}{e e1:Nat}{P:PySem.Fin->Shared->Prop}{A:Around}{O:KeyOrd}{key:Nat->O.α}(I:Inv X (pins++[(kS,lo us e),(D,lo [] e1)]) σ H s)(fK:fW X pins H kS)(fD:fW X pins H D)(hne:kS≠D)
 (hl:us.length=vs.length) (h64:vs.length<64) (rv:Vals xs vs) (ask:Asks X.prog X.w A s us key)
 (h:∀(p:List Nat),p.Perm (List.range vs.length)->(p.map key).Pairwise O.kle->∀s',Inv X pins σ (upd H D (.lst (p.map λi=>xs.getD i .non))) s'->P (.done (.ret .none)) s'):
 wpAny (model X.prog X.w) A (ksk_end D false (List.toArray vs) e1 (.ref kS) (List.toArray us)) P E s:=by
 unfold ksk_end
 try dsimp only
 simp only[Bool.false_eq_true,if_false]
 by_cases h2:vs.toArray.size<2
 . rw[if_pos h2,if_pos h2]
   have h2':vs.length<2:=by simpa using h2
   refine Q00 (Q03 ?_)
   rw[StateT.run_pure]
   refine Q00 (Q03 ?_)
   try dsimp only
   have hlen:xs.length=vs.length:=rv.length
   have ez:((List.range vs.length).map λi=>xs.getD i .non)=xs:=by
    rw[<-hlen];exact Y7 _ xs
   refine Y8 (out:=vs) (outV:=xs) (st:=SortSt.mk' general' ((List.toArray us).zip (List.toArray vs)) #[] 7 none) I fK fD hne (by omega) h64 (agz hl) rfl rv λs' J=>?_
   have q:=h (List.range vs.length) (List.Perm.refl _) (agA key h2') s'
   rw[ez] at q
   exact q J
 . rw[if_neg h2,if_neg h2]
   have h2':2<=vs.length:=by simpa using h2
   refine Q00 (Q0h (ask (by omega)) (λκ s' hk=>?_) λ_ _ hF=>hF.elim)
   obtain⟨rfl,hk⟩:=hk
   obtain⟨k1,k2⟩:=n8.agv (key:=key) (n:=vs.length) (by omega)
   refine Q00 (Q0h (W.kat_run (κ:=κ) (ks:=us) (vs:=vs) (Q:=λst' s''=>s''=s'/\arrOf st'=(n8.bK (n8.bR key) (W.kas_sort vs.length)).map (W.kas_item ((List.toArray us).zip vs.toArray))/\failedOf st'=none)
    (G:=λp s''=>s''=s'/\p=n8.bK (n8.bR key) (W.kas_sort vs.length)) hl h2' h64 (λp st' s'' _ a2 a3 a4=>⟨a4.1,by rw[a2,a4.2],a3⟩)
    (n8.YJ (f:=n8.bR key) (λi j C hi hj q=>hk i j C (by omega) (by omega) q) (n8.ags (by omega)) ⟨rfl,rfl⟩)) ?_ λ_ _ x=>x)
   rintro⟨⟨⟩,st'⟩ s'' ⟨rfl,har,hfl⟩
   try dsimp only
   refine Y8 I fK fD hne (by omega) (by rw[Q06,k1.length_eq,Q10];exact h64) (W.kat_snds hl har) hfl (Y6 rv _) λs' J=>h _ k1 k2 s' J
theorem agC {E:Value->Shared->Prop}{f a:Addr}{xs:List V}{Q:VK}{W:List V->Hp->Prop}(I:Inv X pins σ H s)(hq:aC X.K H a xs)(h64:xs.length<64)(w0:W [] H)
 (turn:∀(pl:List (Addr × Obj)) (s':Shared) (H':Hp) (ks:List V) (y:V) (u:Value),Inv X (pins++pl) σ H' s'->W ks H'->xs[ks.length]? =some y->RelV y u->
   wpAny (model X.prog X.w) X.A.in1.in1 (call (.ref f) [u]) (EP X (pins++pl) σ λk gW=>W (ks++[k]) gW) (λ_ _=>False) s')
 (fin:∀(pl:List (Addr × Obj)) (s':Shared) (H':Hp) (ks:List V) (us:List Value),Inv X (pins++pl) σ H' s'->W ks H'->ks.length=xs.length->Vals ks us->∃(O:KeyOrd) (key:Nat->O.α),Asks X.prog X.w X.A.in1.in1 s' us key/\
   ∀p:List Nat,p.Perm (List.range xs.length)->(p.map key).Pairwise O.kle->∀D,H' D=none->Q (.ref D) (upd H' D (.lst (p.map λi=>xs.getD i .non)))):
 wpAny (model X.prog X.w) X.A (call (.builtin "sorted") [.ref a] [(Str.ofString "key",.ref f)]) (EP X pins σ Q) E s:=by
 obtain⟨vs,rv,pl,hz⟩:=I.list hq
 have hl:xs.length=vs.length:=rv.length
 refine call_function_entry_kw kind_sorted plain_sorted entry_sorted (ksk_s1 _ _) ?_
 unfold Builtin.«sorted»
 refine Q00 (m:=checkCount "sorted" 1 1 _) (Q03 ?_)
 refine Q00 (collect_list pl.isList ?_ (by rw[sizeLine_eq];omega))
 refine Q00 (wpAny_newList ?_ (by rw[sizeLine_eq];omega))
 have hsz:((s.heap.push (seqObj "list" #[] 0)).update s.heap.objs.size (Obj.mapSeq (· ++vs.toArray))).objs.size=s.heap.objs.size+1:=by
  rw[Q26,size_push']
 have hoL:(((s.heap.push (seqObj "list" #[] 0)).update s.heap.objs.size (Obj.mapSeq (· ++vs.toArray))).push (seqObj "list" vs.toArray 0)).get? (s.heap.objs.size+1)=some (seqObj "list" vs.toArray 0):=by
  rw[<-hsz];exact Q0d _ rfl
 have keep:∀b o,s.heap.get? b=some o->(((s.heap.push (seqObj "list" #[] 0)).update s.heap.objs.size (Obj.mapSeq (· ++vs.toArray))).push (seqObj "list" vs.toArray 0)).get? b=some o:=λb o q=>by
  have hlt:b<s.heap.objs.size:=Q02 q
  rw[Q2p _ _ _ (by rw[hsz];exact Q09 (Q1r hlt)),Q27 _ _ _ _ (Q09 hlt),Q2p _ _ _ (Q09 hlt)]
  exact q
 show wpAny _ _ _ _ _ { s with heap:=((s.heap.push (seqObj "list" #[] 0)).update s.heap.objs.size (Obj.mapSeq (· ++vs.toArray))).push (seqObj "list" vs.toArray 0) }
 rw[hsz]
 generalize hG:((s.heap.push (seqObj "list" #[] 0)).update s.heap.objs.size (Obj.mapSeq (· ++vs.toArray))).push (seqObj "list" vs.toArray 0)=G at hoL keep ⊢
 have hGs:G.objs.size=s.heap.objs.size+2:=by rw[<-hG,size_push',hsz]
 have I1:Inv X pins σ H { s with heap:=G }:=I.kept (t':=s.toks) keep
 refine Q00 (wpAny_holding (wpAny_call_entry_kw slot_list_sort ⟨_,hoL,rfl⟩ entry_list_sort ?body (ksk_l1 _ _)))
 case body=>
  show wpAny (model X.prog X.w) X.A.in1.in1 (Builtin.«list.sort» ⟨[.ref (s.heap.objs.size+1)],[(Str.ofString "key",.ref f)]⟩) _ _ _
  rw[ksk_t1]
  unfold ksk_tree
  generalize hD:s.heap.objs.size+1=D at hoL ⊢
  have Y9:s.heap.objs.size<=D:=by omega
  have s1:=Heap.SameBut.update G D (Obj.mapSeq λ_=>(#[]:Array Value))
  obtain⟨e1,ho1⟩:∃e1,(G.update D (Obj.mapSeq λ_=>(#[]:Array Value))).get? D=some (lo [] e1):=⟨_,get?_update_seq hoL λ_=>#[]⟩
  refine Q00 (listItems_at hoL rfl ?_)
  refine Q00 (listUpdate_at hoL rfl ?_ (by rw[Q08,sizeLine_eq];omega) (Q0b _))
  refine Q00 (seqEpoch_at ho1 rfl ?_)
  refine Q00 (wpAny_newTuple ?_ (by show vs.length<=_;rw[sizeLine_eq];omega))
  refine Q00 (wpAny_newList ?_ (Q0b _))
  refine wpAny_holding ?_
  show wpAny (model X.prog X.w) X.A.in1.in1 _ _ _ { s with heap:=((G.update D (Obj.mapSeq λ_=>(#[]:Array Value))).push (seqObj "tuple" vs.toArray 0)).push (seqObj "list" #[] 0) }
  generalize hkS:((G.update D (Obj.mapSeq λ_=>(#[]:Array Value))).push (seqObj "tuple" vs.toArray 0)).objs.size=kS
  have aol:kS=s.heap.objs.size+3:=by rw[<-hkS,size_push',Q26,hGs]
  have hne:kS≠D:=by omega
  have oh:fW X pins H D:=I.mq Y9 (I.hok.fresh Y9)
  have Av:fW X pins H kS:=I.mq (by omega) (I.hok.fresh (by omega))
  have agE:∀b o,b≠D->G.get? b=some o->(((G.update D (Obj.mapSeq λ_=>(#[]:Array Value))).push (seqObj "tuple" vs.toArray 0)).push (seqObj "list" #[] 0)).get? b=some o:=λb o hb q=>
   Q04 _ (Q04 _ ((s1.2 b hb).trans q))
  have I2:Inv X pins σ H { s with heap:=((G.update D (Obj.mapSeq λ_=>(#[]:Array Value))).push (seqObj "tuple" vs.toArray 0)).push (seqObj "list" #[] 0) }:=
   Inv.turned (s:={ s with heap:=G }) (t':=s.toks) (it:=D) I1 agE oh.1 oh.2.1 oh.2.2.2.1 oh.2.2.2.2.1 oh.2.2.2.2.2
  have hK:(((G.update D (Obj.mapSeq λ_=>(#[]:Array Value))).push (seqObj "tuple" vs.toArray 0)).push (seqObj "list" #[] 0)).get? kS=some (lo [] 0):=by rw[<-hkS];exact Q0d _ rfl
  have hD2:(((G.update D (Obj.mapSeq λ_=>(#[]:Array Value))).push (seqObj "tuple" vs.toArray 0)).push (seqObj "list" #[] 0)).get? D=some (lo [] e1):=Q04 _ (Q04 _ ho1)
  generalize ((G.update D (Obj.mapSeq λ_=>(#[]:Array Value))).push (seqObj "tuple" vs.toArray 0)).push (seqObj "list" #[] 0)=G2 at I2 hK hD2 ⊢
  have pinned:∀{H':Hp} {s':Shared} {us:List Value} {e:Nat},Inv X pins σ H' s'->s'.heap.get? kS=some (lo us e)->s'.heap.get? D=some (lo [] e1)->H' kS=none->H' D=none->Inv X (pins++[(kS,lo us e),(D,lo [] e1)]) σ H' s':=λ{H' s' us e} J k1 k2 n1 n2=>
   J.qO λp hp=>(List.mem_append.mp hp).elim (λz=>J.pin p (Q0e _ z)) λz=>by
     have z:p=(kS,lo us e)\/p=(D,lo [] e1):=by simpa using z
     rcases z with rfl|rfl
     . exact⟨k1,n1,Av.2.1,Av.2.2.1,by intro v z;cases z⟩
     . exact⟨k2,n2,oh.2.1,oh.2.2.1,by intro v z;cases z⟩
  have own:∀{H':Hp} {b:Addr},(b=kS\/b=D)->H' b=none->fW X pins H' b:=λ{H' b} hb n=>by
   rcases hb with rfl|rfl
   . exact⟨n,Av.2⟩
   . exact⟨n,oh.2⟩
  unfold ksk_rest
  refine Q00 (wpAny_rule ?_)
  first
   |rw[List.forIn_toArray]
   |(rw[<-Q2q];simp only[List.toList_toArray])
   |rw[<-Q2q]
  refine Q00 (ksk_fold (λi s'=>∃ks us e H',Inv X (pins++[(kS,lo us e),(D,lo [] e1)]) σ H' s'/\Vals ks us/\ks.length=i/\i<=vs.length/\W ks H') vs 0 _
   ⟨[],[],0,H,pinned I2 hK hD2 Av.1 oh.1,.nil,rfl,Q0b _,w0⟩ (λj x s' hx hJ=>?_) λs' hJ=>?_)
  . obtain⟨ks,us,e,H',J,rk,hi,hle,wk⟩:=hJ
    have hi:ks.length=j:=by omega
    have hj:j<vs.length:=(List.getElem?_eq_some_iff.mp hx).1
    have hjx:j<xs.length:=by omega
    obtain⟨u,hu,ru⟩:=rv.get (Q05 hjx)
    rw[hx] at hu;cases hu
    refine Q00 (wpAny_attempt (Q0h (turn _ s' H' ks (xs[j]) x J wk (by rw[hi];exact Q05 hjx) ru) (λk s'' hk=>?_) λ_ _ hF=>hF.elim))
    obtain⟨kv,gW,J',rkv,w'⟩:=hk
    have pk:=J'.pin (kS,lo us e) (Q0e _ (Q0e _ (Q0f)))
    have pD:=J'.pin (D,lo [] e1) (Q0e _ (Q0e _ (Q0j _ Q0f)))
    have hul:us.length=ks.length:=rk.length.symm
    have s2:=Heap.SameBut.update s''.heap kS (Obj.mapSeq (·.push k))
    have ea:(List.toArray us).push k=List.toArray (us++[k]):=by simp
    obtain⟨c2,hc2⟩:∃c2,(s''.heap.update kS (Obj.mapSeq (·.push k))).get? kS=some (lo (us++[k]) c2):=⟨_,by show _=some (seqObj "list" (List.toArray (us++[k])) _);rw[<-ea];exact get?_update_seq pk.1 (·.push k)⟩
    try dsimp only
    refine Q00 (listUpdate_at pk.1 rfl ?_ (by rw[Q08,sizeLine_eq];omega) (Q0c (Q1j (Array.size_push ..)) (by rw[Q08,sizeLine_eq];omega)))
    have J2:Inv X pins σ gW { s'' with heap:=s''.heap.update kS (Obj.mapSeq (·.push k)) }:=J'.pP.own (t':=s''.toks) (own (.inl rfl) pk.2.1) s2
    refine Q03 ⟨rfl,ks++[kv],us++[k],c2,gW,pinned J2 hc2 ((s2.2 D hne.symm).trans pD.1) pk.2.1 pD.2.1,rk.append (.cons rkv .nil),by rw[Q07,Q24];omega,by omega,w'⟩
  . obtain⟨ks,us,e,H',J,rk,hi,hle,wk⟩:=hJ
    have hi:ks.length=vs.length:=by omega
    have pk:=J.pin (kS,lo us e) (Q0e _ (Q0e _ (Q0f)))
    have pD:=J.pin (D,lo [] e1) (Q0e _ (Q0e _ (Q0j _ Q0f)))
    try dsimp only
    refine Q00 (listItems_at pk.1 rfl ?_)
    obtain⟨O,key,ask,q⟩:=fin _ s' H' ks us J wk (by omega) rk
    refine agB J (own (.inl rfl) pk.2.1) (own (.inr rfl) pD.2.1) hne (by rw[<-rk.length];exact hi) (by omega) rv ask λp p1 p2 s'' J'=>?_
    exact⟨_,rfl,Q03 ⟨_,rfl,.ref D,_,J',rfl,q p (by rw[hl];exact p1) p2 D pD.2.1⟩⟩
end
noncomputable def iI:Key->Key->Bool
 | .inl i,.inl j=>decide (i<j)
 | .inl _,.inr _=>true
 | .inr _,.inl _=>false
 | .inr x,.inr y=>decide (x.cps.toList<y.cps.toList)
theorem agG (a:Key):iI a a=false:=by
 cases a with
 |inl i=>simp[iI]
 |inr x=>simpa[iI] using Q2r x.cps.toList
theorem agH {a b c:Key}(h1:iI a b=true)(h2:iI b c=true):iI a c=true:=by
 cases a <;> cases b <;> cases c <;> simp only[iI,decide_eq_true_eq,Bool.false_eq_true] at * <;> first|omega|exact List.lt_trans h1 h2
theorem agI {x y:Str}(h:x.cps.toList=y.cps.toList):x=y:=by
 cases x;cases y
 simp only[Str.mk.injEq]
 exact Array.toList_inj.mp h
theorem agJ (a b:Key):iI a b=true\/a=b\/iI b a=true:=by
 cases a with
 |inl i=>
  cases b with
  |inl j=>
   simp only[iI,decide_eq_true_eq]
   rcases Int.lt_trichotomy i j with h|h|h
   . exact .inl h
   . exact .inr (.inl (by rw[h]))
   . exact .inr (.inr h)
  |inr y=>exact .inl rfl
 |inr x=>
  cases b with
  |inl j=>exact .inr (.inr rfl)
  |inr y=>
   simp only[iI,decide_eq_true_eq]
   by_cases h1:x.cps.toList<y.cps.toList
   . exact .inl h1
   . by_cases h2:y.cps.toList<x.cps.toList
     . exact .inr (.inr h2)
     . exact .inr (.inl (by rw[agI (List.le_antisymm (List.not_lt.mp h2) (List.not_lt.mp h1))]))
theorem agK {a b:Key}(h:iI a b=true):a≠b:=λe=>by
 rw[e,agG] at h;cases h
noncomputable def f9:List Key->List Key->Bool
 |[],[]=>false
 |[],_::_=>true
 |_::_,[]=>false
 |x::xs,y::ys=>if x=y then f9 xs ys else iI x y
theorem Hw:∀a:List Key,f9 a a=false
 |[]=>rfl
 |x::xs=>by
  show(if x=x then f9 xs xs else iI x x)=false
  rw[if_pos rfl];exact Hw xs
theorem Aw (x y:Key)(xs ys:List Key):f9 (x::xs) (y::ys)=if x=y then f9 xs ys else iI x y:=rfl
theorem wQ:∀(a b c:List Key),f9 a b=true->f9 b c=true->f9 a c=true
 |[],[],_,h,_=>by cases h
 |[],_::_,[],_,h=>by cases h
 |[],_::_,_::_,_,_=>rfl
 |_::_,[],_,h,_=>by cases h
 |_::_,_::_,[],_,h=>by cases h
 |x::xs,y::ys,z::zs,h1,h2=>by
  rw[Aw] at *
  by_cases e1:x=y
  . subst e1
    rw[if_pos rfl] at h1
    by_cases e2:x=z
    . rw[if_pos e2] at h2 ⊢
      exact wQ xs ys zs h1 h2
    . rw[if_neg e2] at h2 ⊢
      exact h2
  . rw[if_neg e1] at h1
    by_cases e2:y=z
    . subst e2
      rw[if_neg e1];exact h1
    . rw[if_neg e2] at h2
      have q:=agH h1 h2
      rw[if_neg (agK q)];exact q
theorem Ax:∀a b:List Key,f9 a b=true\/a=b\/f9 b a=true
 |[],[]=>.inr (.inl rfl)
 |[],_::_=>.inl rfl
 |_::_,[]=>.inr (.inr rfl)
 |x::xs,y::ys=>by
  rw[Aw,Aw]
  by_cases e:x=y
  . subst e
    rw[if_pos rfl,if_pos rfl]
    rcases Ax xs ys with h|h|h
    . exact .inl h
    . exact .inr (.inl (by rw[h]))
    . exact .inr (.inr h)
  . rw[if_neg e,if_neg (λz=>e z.symm)]
    rcases agJ x y with h|h|h
    . exact .inl h
    . exact absurd h e
    . exact .inr (.inr h)
@[reducible] noncomputable def Y_:KeyOrd where
  α:=List Key
  blt:=f9
  irrefl:=Hw
  trans:=wQ
  negTrans a b c h:=by
   rcases Ax a b with q|q|q
   . exact .inl q
   . exact .inr (by rw[<-q];exact h)
   . exact .inr (wQ b a c q h)
  total a b h1 h2:=by
   rcases Ax a b with q|q|q
   . rw[h1] at q;cases q
   . exact q
   . rw[h2] at q;cases q
noncomputable def wR (a b:List Key):Prop:=f9 b a=false
section
variable {X:Cx}{pins:List (Addr × Obj)}{σ:St}{H:Hp}{s:Shared}
end
section
variable {X:Cx}
end
noncomputable def Za (K:W.Frag) (a b:Addr):It:=
 ⟨λi H=>∃xs ys x y,aC K H a xs/\aC K H b ys/\xs[i]? =some x/\ys[i]? =some y,
  λi H v H'=>∃p x y,H p=none/\v=.ref p/\(∀xs,aC K H a xs->xs[i]? =some x)/\(∀ys,aC K H b ys->ys[i]? =some y)/\H'=upd H p (.tup [x,y]),
  λi H=>∃xs ys,aC K H a xs/\aC K H b ys/\(xs.length<=i\/ys.length<=i)⟩
theorem agL {P:Program}{w:World}{K:W.Frag}{elts:List Expr}{k:Nat}{tpos:Pos}{z TI TO i1 i2 l1 l2:Addr}(D:ZipApart z TI TO i1 i2 l1 l2):
 Turn P w K (.Tuple elts k tpos) (Za K l1 l2) [z,TI,TO,i1,i2] z (λi h=>∃oa ob,IsZip h z TI TO .none/\IsPair h TI (.ref i1) (.ref i2)/\IsPair h TO oa ob/\h.IsListIter i1 l1 i/\h.IsListIter i2 l2 i) where
 mem:=by simp
 obj:=λi h st b hb=>by
  obtain⟨oa,ob,h1,h2,h3,h4,h5⟩:=st
  have hb:b=z\/b=TI\/b=TO\/b=i1\/b=i2:=by simpa using hb
  rcases hb with rfl|rfl|rfl|rfl|rfl
  . exact⟨_,h1,λv y=>by
     have y:Data.fields _=Data.cell v:=y
     cases y⟩
  . exact⟨_,h2,λv y=>by
     have y:Data.seq _ _=Data.cell v:=y
     cases y⟩
  . exact⟨_,h3,λv y=>by
     have y:Data.seq _ _=Data.cell v:=y
     cases y⟩
  . obtain⟨o,q,c,d⟩:=h4
    exact⟨o,q,λv y=>by rw[d] at y;cases y⟩
  . obtain⟨o,q,c,d⟩:=h5
    exact⟨o,q,λv y=>by rw[d] at y;cases y⟩
 keep:=λi h h' st k=>by
  obtain⟨oa,ob,h1,h2,h3,h4,h5⟩:=st
  exact⟨oa,ob,k z (by simp) _ h1,k TI (by simp) _ h2,k TO (by simp) _ h3,h4.at λo q=>k i1 (by simp) o q,h5.at λo q=>k i2 (by simp) o q⟩
 item:=by
  intro X hP hw hK hc i pins s σ H E I hf st hg
  subst hP hw hK
  obtain⟨oa,ob,h1,h2,h3,h4,h5⟩:=st
  obtain⟨xs,ys,x,y,hq1,hq2,hx,hy⟩:=hg
  obtain⟨wU,ou,p1,hz1⟩:=I.list hq1
  obtain⟨its2,oA,p2,hz2⟩:=I.list hq2
  obtain⟨u1,hu1,rA⟩:=ou.get hx
  obtain⟨u2,hu2,rB⟩:=oA.get hy
  have fr:H s.heap.objs.size=none:=I.hok.fresh (Q01 _)
  refine wpAny_pyNext_zip_item D h1 h2 h3 h4 h5 p1.isList p2.isList (x:=u1) (y:=u2) (by simpa using hu1) (by simpa using hu2) λh' q1 q2 q3 q4 q5 q6 q7=>?_
  refine⟨_,rfl,wpAny_letOwnedTupleGo_zip (s:={ s with heap:=h' }) q1 λh'' g1 g2=>?_⟩
  have Hx:∀b∈[z,TI,TO,i1,i2],b<s.heap.objs.size:=λb hb=>by
   have hb:b=z\/b=TI\/b=TO\/b=i1\/b=i2:=by simpa using hb
   rcases hb with rfl|rfl|rfl|rfl|rfl
   . exact Q02 h1
   . exact Q02 h2
   . exact Q02 h3
   . obtain⟨o,q,_⟩:=h4;exact Q02 q
   . obtain⟨o,q,_⟩:=h5;exact Q02 q
  have ne1:∀b o,s.heap.get? b=some o->b≠s.heap.objs.size:=λb o q=>Q09 (Q02 q)
  have kk:∀b o,b≠z->b≠TO->b≠i1->b≠i2->s.heap.get? b=some o->h''.get? b=some o:=λb o n1 n2 n3 n4 q=>g2.extBut b o n1 (q7 b o n1 n2 n3 n4 q)
  have kn:∀b o,b ∉ [z,TO,i1,i2]->s.heap.get? b=some o->h''.get? b=some o:=λb o n q=>kk b o (λy=>n (by simp[y])) (λy=>n (by simp[y])) (λy=>n (by simp[y])) (λy=>n (by simp[y])) q
  have tup:h''.get? s.heap.objs.size=some { cls:=.type "tuple",data:=.seq #[u1,u2] }:=g2.extBut _ _ (Q0n (Q02 h1)) q5
  have I1:Inv X pins σ (upd H s.heap.objs.size (.tup [x,y])) { s with heap:=h'' }:=by
   refine I.step (g':=s.gens) (d':=s.drawn) (t':=s.toks) (ch:=[z,TO,i1,i2]) (λb hb=>?_) (λb o _ _ hc q _=>kn b o hc q) (λb o _ _ hc q _=>⟨o.slots,kn b o hc q⟩) (λb o _ q n=>?_) (λb o hc q=>⟨o,kn b o hc q⟩) (λb ws q=>?_) (λb o v q=>?_) (λb ps q=>?_) (λm hm=>?_) (λb o q=>?_) I.bare
   . have hb':b∈[z,TI,TO,i1,i2]:=by
      have hb:b=z\/b=TO\/b=i1\/b=i2:=by simpa using hb
      rcases hb with rfl|rfl|rfl|rfl <;> simp
     obtain⟨f0,f1,f2,f3,f4,f5⟩:=hf b hb'
     exact⟨f3,f1,f4,f5⟩
   . rw[au (ne1 b o q)];exact n
   . rw[au (aN q fr)];exact q
   . rw[au (aN q fr)];exact q
   . exact⟨#[],by rw[au (aN q fr),q];simp⟩
   . obtain⟨o,es,ep,ho,r⟩:=hm
     exact⟨o,es,ep,kk _ o (Ne.symm (hf z (by simp)).2.1) (Ne.symm (hf TO (by simp)).2.1) (Ne.symm (hf i1 (by simp)).2.1) (Ne.symm (hf i2 (by simp)).2.1) ho,r⟩
   . by_cases hb:b=s.heap.objs.size
     . subst hb
       rw[aF] at q;cases q
       exact⟨dg,[u1,u2],.cons rA (.cons rB .nil),⟨_,tup,rfl,_,rfl⟩⟩
     . rw[au hb] at q
       have nn:∀c v,H c=some v->c ∉ [z,TO,i1,i2]:=λc v e hm=>by
        have hm':c∈[z,TI,TO,i1,i2]:=by
         have hm:c=z\/c=TO\/c=i1\/c=i2:=by simpa using hm
         rcases hm with rfl|rfl|rfl|rfl <;> simp
        have:=(hf c hm').1
        rw[e] at this;cases this
       refine(I.hok b o q).stay (λc v hc' y=>kn c v ?_ y) (λc y=>by rw[au (aN y fr)];exact y) λc ws y=>by rw[au (aN y fr)];exact y
       rcases hc' with y|y
       . rw[y];exact nn b o q
       . exact nn c _ y
  refine⟨.ref s.heap.objs.size,_,I1,rfl,⟨s.heap.objs.size,x,y,fr,rfl,λws hw=>by rw[I.zQ hw hq1];exact hx,λws hw=>by rw[I.zQ hw hq2];exact hy,rfl⟩,⟨u1,u2,g1,?_,?_,?_,?_⟩,λb hb=>?_⟩
  . exact kk TI _ D.TIz D.TITO D.TIi1 D.TIi2 h2
  . exact g2.extBut _ _ D.TOz q2
  . exact q3.at λo q=>g2.extBut _ _ D.i1z q
  . exact q4.at λo q=>g2.extBut _ _ D.i2z q
  . rw[au (Q09 (Hx b hb))]
    exact(hf b hb).1
 done:=by
  intro X hP hw hK hc i pins s σ H E I hf st hg
  subst hP hw hK
  obtain⟨oa,ob,h1,h2,h3,h4,h5⟩:=st
  obtain⟨xs,ys,hq1,hq2,hend⟩:=hg
  obtain⟨wU,ou,p1,hz1⟩:=I.list hq1
  obtain⟨its2,oA,p2,hz2⟩:=I.list hq2
  have e1:=ou.length
  have e2:=oA.length
  refine wpAny_pyNext_zip_end (I.ok.hd hc) D h1 h2 h3 h4 h5 p1.isList p2.isList (by
   rcases hend with q|q
   . exact .inl (by simp;omega)
   . exact .inr (by simp;omega)) λh' hk=>⟨rfl,?_⟩
  refine I.step (g':=s.gens) (d':=s.drawn) (t':=s.toks) (ch:=[z,TO,i1,i2]) (λb hb=>?_) (λb o _ _ hc q _=>?_) (λb o _ _ hc q _=>?_) (λb o _ q n=>n) (λb o hc q=>?_) (λb ys q=>q) (λb o v q=>q) (λb ps q=>⟨#[],by rw[q];simp⟩) (λm hm=>?_) (λb o q=>?_) I.bare
  . have hb':b∈[z,TI,TO,i1,i2]:=by
     have hb:b=z\/b=TO\/b=i1\/b=i2:=by simpa using hb
     rcases hb with rfl|rfl|rfl|rfl <;> simp
    obtain⟨f0,f1,f2,f3,f4,f5⟩:=hf b hb'
    exact⟨f3,f1,f4,f5⟩
  . exact hk b o (λy=>hc (by simp[y])) (λy=>hc (by simp[y])) (λy=>hc (by simp[y])) (λy=>hc (by simp[y])) q
  . exact⟨o.slots,hk b o (λy=>hc (by simp[y])) (λy=>hc (by simp[y])) (λy=>hc (by simp[y])) (λy=>hc (by simp[y])) q⟩
  . exact⟨o,hk b o (λy=>hc (by simp[y])) (λy=>hc (by simp[y])) (λy=>hc (by simp[y])) (λy=>hc (by simp[y])) q⟩
  . obtain⟨o,es,ep,ho,r⟩:=hm
    exact⟨o,es,ep,hk _ o (Ne.symm (hf z (by simp)).2.1) (Ne.symm (hf TO (by simp)).2.1) (Ne.symm (hf i1 (by simp)).2.1) (Ne.symm (hf i2 (by simp)).2.1) ho,r⟩
  . have nn:∀c v,H c=some v->∀y∈[z,TI,TO,i1,i2],c≠y:=λc v e y hy=>aN e (hf y hy).1
    refine(I.hok b o q).stay (λc v hc' y=>hk c v ?_ ?_ ?_ ?_ y) (λ_ y=>y) λ_ _ y=>y <;> (rcases hc' with y|y)
    all_goals first
     |(rw[y];exact nn b o q _ (by simp))
     |exact nn c _ y _ (by simp)
 self:=λA i s Q E st q=>by
  obtain⟨oa,ob,h1,_⟩:=st
  exact wpAny_pyIter_zip h1 q
noncomputable def agM (K:W.Frag) (ta:TA):TI:=λσ H R=>ta σ H λvs H1=>∃a b,vs=[.ref a,.ref b]/\(∃xs,aC K H1 a xs)/\(∃ys,aC K H1 b ys)/\R (Za K a b) H1
section
variable {X:Cx}
theorem agN {elts:List Expr}{k:Nat}{tpos:Pos}{a b:Expr}{ta:TA}{p pos:Pos}(hg:Gl X "zip")(hm:X.mg "zip"=none)(ha:PA X [a,b] ta)(hs:starEach [a,b] X.env=[(false,eval a X.env),(false,eval b X.env)]:=by rfl)
 (hs2:starEach [b] X.env=[(false,eval b X.env)]:=by rfl):PI X (.Tuple elts k tpos) (.Call (.Name "zip" p) [a,b] [] pos) (agM X.K ta):=by
 intro pins s σ H R I h
 refine Call_ (k_ I hg hm boot_zip (PyProof.Rows.callWith_type1 (aM (ha pos pins s σ H _ I h) λus s1 ⟨vs,H1,I1,r1,q1⟩=>?_) (by rw[hs,hs2]) (by rw[hs2];rfl)))
 obtain⟨l1,l2,e,⟨xs,hq1⟩,⟨ys,hq2⟩,q⟩:=q1
 subst e
 obtain⟨u1,u2,rfl,rA,rB⟩:=vals2 r1
 cases rA
 cases rB
 obtain⟨wU,ou,p1,hz1⟩:=I1.list hq1
 obtain⟨its2,oA,p2,hz2⟩:=I1.list hq2
 have a1:l1<s1.heap.objs.size:=by obtain⟨_,e,_⟩:=p1.isList;exact Q02 e
 have a2:l2<s1.heap.objs.size:=by obtain⟨_,e,_⟩:=p2.isList;exact Q02 e
 refine call_zip_2 p1.isList p2.isList λh' q1 q2 q3 q4 q5 q6 q7=>?_
 refine wpAny_pyIter_zip q1 ?_
 have I2:Inv X pins σ H1 { s1 with heap:=h' }:=I1.kept (t':=s1.toks) q7
 have Dz:ZipApart (s1.heap.objs.size+4) (s1.heap.objs.size+2) (s1.heap.objs.size+3) s1.heap.objs.size (s1.heap.objs.size+1) l1 l2:=by
  have b1:@LT.lt Nat _ l1 s1.heap.objs.size:=a1
  have b2:@LT.lt Nat _ l2 s1.heap.objs.size:=a2
  constructor <;> (intro z;have z':(_:Nat)=_:=z;omega)
 refine⟨s1.heap.objs.size+4,[s1.heap.objs.size+4,s1.heap.objs.size+2,s1.heap.objs.size+3,s1.heap.objs.size,s1.heap.objs.size+1],_,_,H1,rfl,I2,agL Dz,⟨.none,.none,q1,q2,q3,q4,q5⟩,λb hb=>?_,q⟩
 have hb:s1.heap.objs.size<=b:=by
  have hb:b=s1.heap.objs.size+4\/b=s1.heap.objs.size+2\/b=s1.heap.objs.size+3\/b=s1.heap.objs.size\/b=s1.heap.objs.size+1:=by simpa using hb
  rcases hb with z|z|z|z|z <;> rw[z]
  . exact Q14 _ _
  . exact Q14 _ _
  . exact Q14 _ _
  . exact Q01 _
  . exact Q14 _ _
 exact I1.mq hb (I1.hok.fresh hb)
end
end L2
namespace HT
open PySem PyProof.Rows L2
section
open PySem.SeqAt
open PySem.AutoSeq1 (wpAny_loadPart')
open PySem.MeetsSeq PySem.MeetsSeq2 PySem.MeetsSeq3
end
section
variable {prog:Program}{w:World}{A:Around}{E:Value->Shared->Prop}{s:Shared}
end
end HT
namespace L2
open PySem PySem.Spec PyProof.Rows
section
variable {X:Cx}
end
inductive jz (K:W.Frag) (H:Hp):Nat->V->V->Bool->Prop
 |ref {n:Nat} (a:Addr):jz K H n (.ref a) (.ref a) true
 |int {n:Nat} (a b:Int):jz K H n (.int a) (.int b) (decide (a=b))
 |str {n:Nat} (a b:Str):jz K H n (.str a) (.str b) (decide (a=b))
 |is {n:Nat} (a:Int) (b:Str):jz K H n (.int a) (.str b) false
 |si {n:Nat} (a:Str) (b:Int):jz K H n (.str a) (.int b) false
 |lst {n:Nat} {a b:Addr} {xs ys:List V} {e:Nat->Bool} (ne:a≠b) (ha:aC K H a xs) (hb:aC K H b ys) (hl:xs.length=ys.length) (he:∀(j:Nat) (x y:V),xs[j]? =some x->ys[j]? =some y->jz K H n x y (e j)):
   jz K H (n+1) (.ref a) (.ref b) ((List.range xs.length).all e)
 |tup {n:Nat} {a b:Addr} {xs ys:List V} {e:Nat->Bool} (ne:a≠b) (ha:aH K H a xs) (hb:aH K H b ys) (he:∀(j:Nat) (x y:V),xs[j]? =some x->ys[j]? =some y->jz K H n x y (e j)):
   jz K H (n+1) (.ref a) (.ref b) ((List.range (min xs.length ys.length)).all e && xs.length == ys.length)
section
variable {X:Cx}{pins:List (Addr × Obj)}{σ:St}{H:Hp}{s:Shared}
theorem Vals.at:∀{xs:List V}{us:List Value},Vals xs us->∀(j:Nat) (h:j<us.length),∃x,xs[j]? =some x/\RelV x us[j]
 |_,_,.nil,j,h=>absurd h (by simp)
 |_,_,.cons a r,0,h=>⟨_,rfl,a⟩
 |_,_,.cons a r,j+1,h=>by
  obtain⟨x,h1,h2⟩:=Vals.at r j (by simpa using h)
  exact⟨x,by simpa using h1,h2⟩
theorem jz.Zb (I:Inv X pins σ H s){n:Nat}{x y:V}{b:Bool}(h:jz X.K H n x y b):∀(A:Around) (u v:Value),RelV x u->RelV y v->A.units+n<cLine->SeqAt.EqAt A s u v b:=by
 induction h with
 |ref a=>
  intro A u v ru rv hu
  cases ru
  cases rv
  exact SeqAt.EqAt.same _
 |int a b=>
  intro A u v ru rv hu
  obtain⟨t,rfl⟩:=ru
  obtain⟨t',rfl⟩:=rv
  exact SeqAt.EqAt.int_int a t b t'
 |str a b=>
  intro A u v ru rv hu
  obtain⟨t,rfl⟩:=ru
  obtain⟨t',rfl⟩:=rv
  have e:decide (a=b)=(a == b):=by
   by_cases z:a=b
   . rw[decide_eq_true z,z];simp
   . rw[decide_eq_false z];exact(beq_eq_false_iff_ne.mpr z).symm
  rw[e]
  exact SeqAt.EqAt.str_str a t b t'
 |is a b=>
  intro A u v ru rv hu
  obtain⟨t,rfl⟩:=ru
  obtain⟨t',rfl⟩:=rv
  exact SeqAt.EqAt.int_str a t b t'
 |si a b=>
  intro A u v ru rv hu
  obtain⟨t,rfl⟩:=ru
  obtain⟨t',rfl⟩:=rv
  exact SeqAt.EqAt.str_int a t b t'
 |@lst n a b xs ys e ne ha hb hl he ih=>
  intro A u v ru rv hu
  cases ru
  cases rv
  obtain⟨its,r1,p1,_⟩:=I.list ha
  obtain⟨its2,r2,p2,_⟩:=I.list hb
  have l1:=r1.length
  have l2:=r2.length
  refine .of_refs ne ?_
  have q:xs.length=its.toArray.size:=by rw[Q08];exact l1
  rw[q]
  refine SeqAt.RcAt.lists p1.isList p2.isList (by rw[Q08,Q08];omega) (by omega) λj h1 h2=>?_
  obtain⟨x',e1,q1⟩:=Vals.at r1 j (by simpa using h1)
  obtain⟨y',e2,q2⟩:=Vals.at r2 j (by simpa using h2)
  refine ih j x' y' e1 e2 _ _ _ (by simpa using q1) (by simpa using q2) ?_
  show A.units+1+n<cLine
  omega
 |@tup n a b xs ys e ne ha hb he ih=>
  intro A u v ru rv hu
  cases ru
  cases rv
  obtain⟨its,r1,p1,_⟩:=I.tuple ha
  obtain⟨its2,r2,p2,_⟩:=I.tuple hb
  have l1:=r1.length
  have l2:=r2.length
  refine .of_refs ne ?_
  have q:xs.length=its.toArray.size:=by rw[Q08];exact l1
  have q':ys.length=its2.toArray.size:=by rw[Q08];exact l2
  rw[q,q']
  refine SeqAt.RcAt.tuples p1 p2 (by omega) λj h1 h2=>?_
  obtain⟨x',e1,q1⟩:=Vals.at r1 j (by simpa using h1)
  obtain⟨y',e2,q2⟩:=Vals.at r2 j (by simpa using h2)
  refine ih j x' y' e1 e2 _ _ _ (by simpa using q1) (by simpa using q2) ?_
  show A.units+1+n<cLine
  omega
noncomputable def Zc (K:W.Frag) (H:Hp) (n:Nat) (xs ys:List V) (e:Nat->Bool):Prop:=∀(j:Nat) (x y:V),xs[j]? =some x->ys[j]? =some y->jz K H n x y (e j)
noncomputable def Zd (K:W.Frag) (n:Nat):R2:=λx y H Q=>∃a b xs ys e,x=.ref a/\y=.ref b/\Zc K H n xs ys e/\
 ((aC K H a xs/\aC K H b ys/\((xs.length=ys.length/\Q (.bl ((List.range xs.length).all e)) H)\/(xs.length≠ys.length/\Q (.bl false) H)))\/
  (aH K H a xs/\aH K H b ys/\Q (.bl ((List.range (min xs.length ys.length)).all e && xs.length == ys.length)) H))
theorem agO {n:Nat}(hu:X.A.units+1+n<cLine):dN X (compareOp .Eq) (Zd X.K n):=by
 intro pins s σ H x y v u Q I rx ry h
 obtain⟨a,b,xs,ys,e,rfl,rfl,hd,h⟩:=h
 cases rx
 cases ry
 rcases h with⟨ha,hb,h⟩|⟨ha,hb,q⟩
 . obtain⟨its,r1,p1,_⟩:=I.list ha
   obtain⟨its2,r2,p2,_⟩:=I.list hb
   have l1:=r1.length
   have l2:=r2.length
   rcases h with⟨hl,q⟩|⟨hl,q⟩
   . have z:xs.length=its.toArray.size:=by rw[Q08];exact l1
     rw[z] at q
     refine SeqAt.eq_listAt (e:=e) p1.isList p2.isList (by rw[Q08,Q08];omega) (by omega) (λj h1 h2=>?_) ⟨.bl _,H,I,rfl,q⟩
     obtain⟨x',e1,q1⟩:=Vals.at r1 j (by simpa using h1)
     obtain⟨y',e2,q2⟩:=Vals.at r2 j (by simpa using h2)
     refine(hd j x' y' e1 e2).Zb I _ _ _ (by simpa using q1) (by simpa using q2) ?_
     show X.A.units+1+n<cLine
     omega
   . refine SeqAt.eq_list_lengthsAt p1.isList p2.isList ?_ (by omega) ⟨.bl false,H,I,rfl,q⟩
     rw[Q08,Q08]
     simp
     omega
 . obtain⟨its,r1,p1,_⟩:=I.tuple ha
   obtain⟨its2,r2,p2,_⟩:=I.tuple hb
   have l1:=r1.length
   have l2:=r2.length
   have z:xs.length=its.toArray.size:=by rw[Q08];exact l1
   have z':ys.length=its2.toArray.size:=by rw[Q08];exact l2
   rw[z,z'] at q
   refine SeqAt.eq_tupleAt (e:=e) p1 p2 (by omega) (λj h1 h2=>?_) ⟨.bl _,H,I,rfl,q⟩
   obtain⟨x',e1,q1⟩:=Vals.at r1 j (by simpa using h1)
   obtain⟨y',e2,q2⟩:=Vals.at r2 j (by simpa using h2)
   refine(hd j x' y' e1 e2).Zb I _ _ _ (by simpa using q1) (by simpa using q2) ?_
   show X.A.units+1+n<cLine
   omega
end
noncomputable def agP (e:Addr) (l:List Env) (h h':Heap):Prop:=
 (∀b o,b ∉ frs l->b≠e->h.get? b=some o->h'.get? b=some o)/\∀b o,b≠e->h.get? b=some o->∃sl,h'.get? b=some { o with slots:=sl }
theorem Hy {f:Array Value->Array Value}{o:Obj}{vs:Array Value}(h:o.data=.fields vs):Obj.mapFields f o={ o with data:=.fields (f vs) }:=by
 obtain⟨c,d,da,sl⟩:=o
 have h:da=.fields vs:=h
 subst h
 rfl
section
variable {M:Model}{A:Around}{E:Value->Shared->Prop}{s:Shared}
theorem Ze {base:Heap}{env:Env}{outer:List Env}{L e:Addr}{oe:Obj}{vs:Array Value}{head:Value}{had:Bool}{Q:Unit->Shared->Prop}
 (hfr:A.frames=some (env::outer)) (hl:s.heap.FunFrames base (env::outer)) (hf:env.frame=some L) (he:s.heap.get? e=some oe) (hd:oe.data=.fields vs) (hsz:1<vs.size)
 (h:∀(h':Heap) (T:Addr),s.heap.objs.size<=T->agP e (env::outer) s.heap h'->h'.get? e=some { oe with data:=.fields (vs.setIfInBounds 1 (.ref T)) }->(∃oT ts,h'.get? T=some oT/\oT.data=.fields ts/\ts[3]? =some (rawInt L))->Q () { s with heap:=h' }):
 wpAny M A (do let a <-frameOf env;let pl <-entryPlaceOf L had;let b <-EntryCells.newEntry head a .none (rawInt L) .none pl;setField (.ref e) 1 b) Q E s:=by
 have nfr:e ∉ (env::outer).filterMap (·.frame):=λz=>by
  obtain⟨_,o,ho,hn⟩:=hl.mem z
  rw[he] at ho
  cases ho
  exact hn vs hd
 refine Q00 (wpAny_frameOf_fun hfr hl hf λh1 x1=>?_)
 refine Q00 (wpAny_entryPlaceOf λpl Zf=>?_)
 unfold EntryCells.newEntry newFields
 refine Q00 (wpAny_newObj_type ?_ (Zf.sizeOk5 _ _ _ _ _))
 have e1:h1.get? e=some oe:=(x1.2.1 e nfr).trans he
 generalize hob:({ cls:=.type "traceback",dict:=none,data:=.fields ([head,.ref L,.none,rawInt L,.none]++(if pl.isEmpty then List.replicate 6 Value.none else pl)).toArray }:Obj)=ob
 have e2:(h1.push ob).get? e=some oe:=Q04 ob e1
 have nTe:h1.objs.size≠e:=Q0n (Q02 e1)
 have agS:({ oe with data:=.fields (vs.setIfInBounds 1 (.ref h1.objs.size)) }:Obj).isFreed=false:=Obj.isFreed_of_fields rfl
 have em:Obj.mapFields (·.setIfInBounds 1 (Value.ref h1.objs.size)) oe={ oe with data:=.fields (vs.setIfInBounds 1 (.ref h1.objs.size)) }:=Hy hd
 refine wpAny_setField e2 hd hsz (h _ h1.objs.size (Q1j x1.1.symm) ⟨λb o hb hbe ho=>?_,λb o hbe ho=>?_⟩ ?_ ?_)
 . rw[Q15 _ _ (Ne.symm hbe)]
   exact Q04 ob ((x1.2.1 b hb).trans ho)
 . obtain⟨sl,hs⟩:=x1.2.2 b o ho
   refine⟨sl,?_⟩
   rw[Q15 _ _ (Ne.symm hbe)]
   exact Q04 ob hs
 . have:=Q18 (Obj.mapFields (·.setIfInBounds 1 (Value.ref h1.objs.size))) e2 (by rw[em];exact agS)
   rw[em] at this
   exact this
 . refine⟨ob,_,?_,by rw[<-hob],?_⟩
   . rw[Q15 _ _ (Ne.symm nTe)]
     exact Q0d h1 (by rw[<-hob];rfl)
   . first|(simp;done)|(rcases Zf with rfl|⟨_,_,_,_,_,_,_,rfl⟩ <;> simp)
end
theorem cT.ex {P:Program}{w:World}{H:Hp}{h:Heap}{a:Addr}{o:HO}(x:cT P w H h a o):∃ob,h.get? a=some ob:=by
 cases o with
 |lst xs=>obtain⟨_,_,_,_,e⟩:=x;exact⟨_,e⟩
 |tup xs=>obtain⟨_,_,_,ob,e,_⟩:=x;exact⟨ob,e⟩
 |dK kvs=>obtain⟨_,_,_,_,ob,_,_,e,_⟩:=x;exact⟨ob,e⟩
 |dT kvs=>obtain⟨_,_,_,_,ob,_,_,e,_⟩:=x;exact⟨ob,e⟩
 |set S n=>obtain⟨ob,_,_,_,e,_⟩:=x;exact⟨ob,e⟩
 |ins C dx fs=>obtain⟨_,_,_,e,_⟩:=x;exact⟨_,e⟩
 |own y=>exact x
 |xd fs=>obtain⟨_,⟨ob,_,_,e,_⟩,_⟩:=x;exact⟨ob,e⟩
 |rng lo hi=>obtain⟨_,_,_,e⟩:=x;exact⟨_,e⟩
 |cu ob u=>obtain⟨e,_⟩:=x;exact⟨_,e⟩
 |dD ps=>exact⟨_,show h.get? a=some _ from x⟩
 |met f y=>exact⟨_,show h.get? a=some _ from x⟩
 |ext φ=>obtain⟨_,⟨ob,e⟩,_⟩:=x;exact⟨ob,e⟩
section
variable {X:Cx}{pins:List (Addr × Obj)}{σ:St}{H:Hp}{s:Shared}
theorem Heap.Zg {h:Heap}{a:Addr}(e:h.objs.size<=a):h.get? a=none:=by
 cases q:h.get? a with
 |none=>rfl
 |some o=>exact absurd (Q0a (Q02 q) e) (Q0l _)
theorem Inv.pX (I:Inv X pins σ H s)(hex:X.ex=[]){a:Addr}(e:s.heap.get? a=none):X.s₀.heap.get? a=none:=by
 cases q:X.s₀.heap.get? a with
 |none=>rfl
 |some o=>
  obtain⟨o',e'⟩:=I.base.there a o q (by rw[hex];simp)
  rw[e] at e';cases e'
theorem Inv.Zh (I:Inv X pins σ H s)(hex:X.ex=[]){a T:Addr}{h':Heap}(ha:X.s₀.heap.get? a=none)(hT:X.s₀.heap.get? T=none)(na:H a=none)(nT:H T=none)
 (k1:∀b o,b ∉ frs X.stack->b≠a->b≠T->s.heap.get? b=some o->h'.get? b=some o) (k2:∀b o,b≠a->b≠T->s.heap.get? b=some o->∃sl,h'.get? b=some { o with slots:=sl }):
 Un (frs X.outer) [] X.H₀ H X.s₀.heap h'/\cL X.prog X.w H h':=by
 have B:=I.base
 rw[hex] at B
 have old:∀b o,X.s₀.heap.get? b=some o->b≠a/\b≠T/\b≠X.env.locals:=λb o e=>by
  have hb:=Q02 e
  exact⟨(λz=>by rw[z,ha] at e;cases e),(λz=>by rw[z,hT] at e;cases e),λz=>Q0l _ (Q0a (z ▸ hb) I.ok.above)⟩
 refine⟨⟨λb o e n hf _=>?_,λb o e n hf _=>?_,λb o e n _=>B.free b o e n (by simp),λb o e _=>?_,B.tups,B.gZ,B.iw⟩,λb o e=>(I.hok b o e).stay (λc u hc r=>?_) (λ_ r=>r) λ_ _ r=>r⟩
 . obtain⟨o1,o2,o3⟩:=old b o e
   refine k1 b o (λz=>?_) o1 o2 (B.keep b o e n hf (by simp))
   rcases List.mem_cons.mp (I.sY b z) with z|z
   . exact o3 z
   . exact hf z
 . obtain⟨o1,o2,o3⟩:=old b o e
   obtain⟨sl,e1⟩:=B.slot b o e n hf (by simp)
   obtain⟨sl',e2⟩:=k2 b _ o1 o2 e1
   exact⟨sl',e2⟩
 . obtain⟨o1,o2,o3⟩:=old b o e
   obtain⟨o',e1⟩:=B.there b o e (by simp)
   obtain⟨sl,e2⟩:=k2 b o' o1 o2 e1
   exact⟨_,e2⟩
 . have hc':∃v,H c=some v:=by
    rcases hc with z|z
    . exact⟨o,by rw[z];exact e⟩
    . exact⟨_,z⟩
   obtain⟨v,hv⟩:=hc'
   refine k1 c u (λz=>?_) (λz=>?_) (λz=>?_) r
   . rw[I.v5 c z] at hv;cases hv
   . rw[z,na] at hv;cases hv
   . rw[z,nT] at hv;cases hv
end
section
variable {M:Model}{A:Around}{E:Value->Shared->Prop}{s:Shared}
end
section
variable {X:Cx}{pins:List (Addr × Obj)}{σ:St}{H:Hp}{s:Shared}
end
section
variable {X:Cx}{k:Nat}{f:Addr}{fd:FuncData}{ps:List Str}{sp:Sp}{eG:List V}{ds:List Value}{Ek:XK}{x:Str}{p pos:Pos}{e:Expr}{es:List Expr}{t:TA}{te:TE}
end
end L2
namespace L2
open PySem PySem.Spec PyProof.Rows PySem.W
theorem Hz {M:Model}{A:Around}{E:Value->Shared->Prop}{K:Frag}{s:Shared}{a C D:Addr}{oe:Obj}{b:Bool}{Q:Bool->Shared->Prop}(X:K.In s.heap)(h1:typeIn K (.ref D)=some (.type "type"))(h2:(clsIn K D).isSome=true)(h3:subIn K (.ref D) (.type "BaseException")=some true)
 (h4:subIn K (.ref C) (.ref D)=some b) (he:s.heap.get? a=some oe) (hc:oe.cls=.ref C) (hq:Q b s):wpAny M A (excMatches (.ref a) (.ref D)) Q E s:=by
 obtain⟨h,g,d,t,os⟩:=s
 have L1:=looks_typeIn (M:=M) X h1
 have L2:Looks M h (isSubtype (.type "type") (.type "tuple")) false:=Looks.of_pure tc_notTuple
 have L3:=looks_subIn (M:=M) X h3
 have L4:=looks_subIn (M:=M) X h4
 have L5:Looks M h (isType (.ref D)) true:=by
  unfold clsIn at h2
  split at h2
  . rename_i c' d' cd' sl' ho
    intro A' Q' E' s' k q
    unfold isType loadHead
    exact Q00 (wpAny_loadPart (k _ _ (X _ _ ho)) (Q03 q))
  . cases h2
 have L6:Looks M h (typeOf (.ref a)) (.ref C):=by
  have z:Looks M h (typeOf (.ref a)) oe.cls:=(Looks.ld (show h.get? a=some oe from he)).andThen .now
  rw[hc] at z
  exact z
 have L7:Looks M h (isInstance (.ref D) (.type "tuple")) false:=L1.andThen L2
 have L8:Looks M h (isExcClass (.ref D)) true:=λA' Q' E' s' k q=>by
  unfold isExcClass
  exact Q00 (L5 A' _ E' s' k (L3 A' _ E' s' k q))
 unfold excMatches
 refine Q00 (L7.at ?_)
 repeat (any_goals (first|assumption|with_reducible refine L8.at ?_|with_reducible refine L6.at ?_|with_reducible refine L4.at ?_|wp_step))
 cases b <;> (repeat (any_goals (first|assumption|wp_step)))
end L2
namespace L2
open PySem PySem.Spec PyProof.Rows
section
variable {X:Cx}{pins:List (Addr × Obj)}{σ:St}{H:Hp}{s:Shared}
theorem Inv.unbind {M:Model}{A:Around}{E:Value->Shared->Prop}{i:Nat}{x:Str}{pos:Pos}{Q:Unit->Shared->Prop}(I:Inv X pins σ H s)(hN:X.N.Nodup)(hi:X.N[i]? =some x)(hk:X.env.kindOf x=some .local)
 (h:∀s',Inv X pins (σ.set i none) H s'->Q () s'):wpAny M A (do bindName X.env x .none;unbindBehindTheSuite X.env x pos) Q E s:=by
 obtain⟨m,hn,hl⟩:=id I.loc
 have hcls:(X.env.scope.kind == .class || (X.env.scope.kind == .module && X.env.locals != X.env.globals))=false:=by rw[I.ok.kind];rfl
 have zO:i<σ.length:=by rw[I.len];exact(List.getElem?_eq_some_iff.mp hi).1
 have kZ:=I.kZ
 refine wpAny_nameGoes_keeps hk hn hcls λh' v hn' hs=>?_
 obtain⟨oL,_,_,hoL,_⟩:=id hn
 have tracked:cL X.prog X.w H h':=λb ob e=>by
  refine(I.hok b ob e).stay (λc w' hc q=>(hs.2 c ?_).trans q) (λ_ q=>q) λ_ _ q=>q
  rintro rfl
  rcases hc with rfl|hc
  . rw[I.free] at e;cases e
  . rw[I.free] at hc;cases hc
 refine h _ ⟨I.ok,I.os,I.bare,⟨λb o e n hb hx=>?_,λb o e n hb hx=>?_,I.base.free,λb o e hx=>?_,I.base.tups,I.base.gZ,I.base.iw⟩,⟨_,hn',λj y v' e1 e2 e3=>?_⟩,λy c e=>?_,I.free,I.fO,λp hp=>?_,tracked,by simpa using I.len⟩
 . exact(hs.2 b (Q09 (Q0a (Q02 e) I.ok.above))).trans (I.base.keep b o e n hb hx)
 . obtain⟨sl,e1⟩:=I.base.slot b o e n hb hx
   exact⟨sl,(hs.2 b (Q09 (Q0a (Q02 e) I.ok.above))).trans e1⟩
 . obtain⟨o',e1⟩:=I.base.there b o e hx
   exact⟨o',(hs.2 b (Q09 (Q0a (Q02 e) I.ok.above))).trans e1⟩
 . by_cases hj:j=i
   . subst hj
     rw[Q20 zO] at e2
     cases e2
   . rw[Q21 (Ne.symm hj)] at e2
     obtain⟨u',r',q⟩:=hl j y v' e1 e2 e3
     refine⟨u',r',?_⟩
     rcases q with⟨k,e⟩|⟨k,c,e,z⟩
     . refine .inl ⟨k,?_⟩
       have:y≠x:=λe=>hj (Gb hN e1 (e ▸ hi))
       simp[this,e]
     . exact .inr ⟨k,c,e,z.sameBut hs (kZ y c e)⟩
 . obtain⟨w',z⟩:=I.cell y c e
   exact⟨w',z.sameBut hs (kZ y c e)⟩
 . obtain⟨e,n,ne,nf,d⟩:=I.pin p hp
   exact⟨(hs.2 p.1 ne).trans e,n,ne,nf,d⟩
noncomputable abbrev Cx.marked (X:Cx) (a:Addr):Cx:={ X with A:=X.A.mark (some (.ref a)),calm:=false,xe:=λ_ _=>False }
theorem Inv.marked (I:Inv X pins σ H s)(a:Addr):Inv (X.marked a) pins σ H s:=
 ⟨⟨I.ok.mod,I.ok.kind,I.ok.glob,I.ok.blt,I.ok.above,I.ok.inj,I.ok.has,I.ok.cab,(λz=>by cases z),I.ok.frames,I.ok.stk,I.ok.vZ,I.ok.bs,I.ok.jo,I.ok.pI,I.ok.qN,I.ok.iy,I.ok.lY⟩,I.os,I.bare,I.base,I.loc,I.cell,I.free,I.fO,I.pin,I.hok,I.len⟩
theorem Inv.unmarked {a:Addr}(I:Inv (X.marked a) pins σ H s)(ok:X.Ok):Inv X pins σ H s:=⟨ok,I.os,I.bare,I.base,I.loc,I.cell,I.free,I.fO,I.pin,I.hok,I.len⟩
end
noncomputable def Ends.un (D:Ends) (i:Nat):Ends:={ nx:=λσ H=>D.nx (σ.set i none) H,rt:=D.rt,bk:=λσ H=>D.bk (σ.set i none) H,ct:=λσ H=>D.ct (σ.set i none) H }
end L2
namespace L2
open PySem PySem.Spec PySem.Calls PyProof.Rows PySem.W PySem.Builtin PySem.Builtin.ObjectAttr PySem.Builtin.Getset_descriptor
structure je (K:Frag) (C:Addr):Prop where
 ga:findIn K (.ref C) "__getattribute__"=some (some (.builtin "BaseException.__getattribute__"))
 gt:findIn K (.ref C) "__getattr__"=some none
 cl:findIn K (.ref C) "__class__"=some (some (.builtin "object.__class__"))
 ob:mroIn K C (.type "object")=some true
 bx:mroIn K C (.type "BaseException")=some true
 is:(clsIn K C).isSome=true
section
variable {prog:Program}{w:World}{A:Around}{E:Value->Shared->Prop}{K:Frag}{h:Heap}{g:Array GenState}{d:Drawn}{t:Nat}{os:OsState}{a C:Addr}{o:Obj}
theorem agT {R:Result->Shared->Prop}{tp:Value}(X:K.In h)(Z:je K C)(hx:h.get? a=some o)(hc:o.cls=.ref C)(hq:R (.ok (.ret (.ref C))) ⟨h,g,d,t,os⟩):
 codeAny (model prog w) A (.call (.builtin "getset_descriptor.__get__") ⟨[.builtin "object.__class__",.ref a,tp],[]⟩) R ⟨h,g,d,t,os⟩:=by
 have L0:Looks (model prog w) h (typeOf (.ref a)) (.ref C):=by
  have z:Looks (model prog w) h (typeOf (.ref a)) o.cls:=(Looks.ld hx).andThen .now
  rw[hc] at z
  exact z
 have L1:=looks_mroIn (M:=model prog w) X Z.ob
 refine codeAny_call_builtin KF.slot_gs.plain KF.entry_gs (KF.slot_gs.check _ _ _ _ _ _ _ _ KF.type_class (KF.args_gs _ _ _) ?_)
 unfold Builtin.«getset_descriptor.__get__» descrGet
 rw[dga_obj]
 refine Q00 (Q03 ?_)
 unfold descrGetter descrCheckInstance descrNameAndClass isInstance
 simp only[KF.owner_class]
 repeat lk
 refine⟨Code.quiet_builtin _ (by decide+kernel),codeAny_builtin KF.entry_class ?_⟩
 unfold Builtin.«object.__class__» shownTypeOf
 repeat lk
 exact hq
theorem agU {tk:Tok}{Q:Fin->Shared->Prop}(X:K.In h)(Z:je K C)(hx:h.get? a=some o)(hc:o.cls=.ref C)(hq:Q (.done (.ret (.ref C))) ⟨h,g,d,t,os⟩):
 wpAny (model prog w) A (Builtin.«object.__getattribute__» ⟨[.ref a,.str "__class__" tk],[]⟩) Q E ⟨h,g,d,t,os⟩:=by
 have hT5:(⟨h,g,d,t,os⟩:Shared).TypeIs (.builtin "object.__class__") "getset_descriptor":=F.typeOf_object_class
 have f5:=F.typeOf_object_class
 have f6:=F.slot_gs_get.lookup
 have f7:=F.slot_gs_set.lookup
 have L1:=looks_findIn (M:=model prog w) X Z.cl
 repeat (any_goals (first|assumption|(with_reducible refine wpAny_loadPart_at hx ?_;rw[hc])|with_reducible refine L1.at ?_|wp_step))
 refine agT X Z hx hc ?_
 repeat (any_goals (first|assumption|wp_step))
theorem Zi {nameV:Value}{M:Model}{Q:Unit->Shared->Prop}(X:K.In h)(Z:je K C)(hx:h.get? a=some o)(hc:o.cls=.ref C)(hq:Q () ⟨h,g,d,t,os⟩):
 wpAny M A (checkBuiltinCall "BaseException.__getattribute__" ⟨[.ref a,nameV],[]⟩) Q E ⟨h,g,d,t,os⟩:=by
 have hk:builtinKind "BaseException.__getattribute__"=some .slot:=by decide+kernel
 have hsplit:splitId "BaseException.__getattribute__"=some ("BaseException","__getattribute__"):=by decide+kernel
 have ha:=F.args_bexc_ga (.ref a) nameV
 have L1:=looks_mroIn (M:=M) X Z.bx
 simp only[checkBuiltinCall,hk,hsplit]
 refine Q00 ?_
 . unfold isInstance
   repeat (first|(with_reducible refine wpAny_loadPart_at hx ?_;rw[hc])|with_reducible refine L1.at ?_|wp_step)
   exact hq
theorem agV {tk:Tok}{fill expr:Bool}{Q:Value->Shared->Prop}(X:K.In h)(Z:je K C)(hx:h.get? a=some o)(hc:o.cls=.ref C)(hq:Q (.ref C) ⟨h,g,d,t,os⟩):
 wpAny (model prog w) A (getAttrBy (.ref a) (.str "__class__" tk) fill expr) Q E ⟨h,g,d,t,os⟩:=by
 have f3:=F.attr_ValueError.ga.bind (.ref a)
 have hx0:(expr && onTheHeap (Value.builtin "BaseException.__getattribute__"))=false:=by cases expr <;> rfl
 have hx2:(Value.builtin "BaseException.__getattribute__" == Value.builtin "object.__getattribute__")=false:=by decide+kernel
 have hx1:(onTheHeap (Value.ref C) && Value.builtin "BaseException.__getattribute__" == Value.builtin "object.__getattribute__")=false:=by rw[hx2];rfl
 have L1:=looks_findIn (M:=model prog w) X Z.ga
 have L2:=looks_findIn (M:=model prog w) X Z.gt
 repeat (any_goals (first|assumption|(with_reducible refine wpAny_loadPart_at hx ?_;rw[hc])|with_reducible refine L1.at ?_|with_reducible refine L2.at ?_|wp_step))
 refine codeAny_call_builtin F.attr_ValueError.ga.plain F.entry_bexc_ga (Zi X Z hx hc (agU X Z hx hc ?_))
 repeat (any_goals (first|assumption|wp_step))
theorem agW {Q:Option Value->Shared->Prop}(X:K.In h)(Z:je K C)(hx:h.get? a=some o)(hc:o.cls=.ref C)(hq:Q (some (.ref C)) ⟨h,g,d,t+1,os⟩):wpAny (model prog w) A (getAttr? (.ref a) "__class__") Q E ⟨h,g,d,t,os⟩:=by
 unfold getAttr? getAttrBy?
 repeat (any_goals (first|assumption|with_reducible apply agV X Z hx hc|wp_step))
end
theorem agX {K:Frag}{a C:Addr}(Z:je K C):KitX K (.ref a) (.ref C) (λh=>∃o,h.get? a=some o/\o.cls=.ref C) where
 ty:=λM h _ ⟨o,hx,hc⟩=>by
  have z:Looks M h (typeOf (.ref a)) o.cls:=(Looks.ld hx).andThen .now
  rw[hc] at z
  exact z
 it:=λM h X _=>by
  have h2:=Z.is
  unfold clsIn at h2
  split at h2
  . rename_i c' d' cd' sl' ho
    intro A' Q' E' s' k q
    unfold isType loadHead
    exact Q00 (wpAny_loadPart (k _ _ (X _ _ ho)) (Q03 q))
  . cases h2
 ne:=λh tp dd its n sl X htp=>by
  have h2:=Z.is
  refine Bool.eq_false_iff.mpr λq=>?_
  have e:C=tp:=by
   have:=beq_iff_eq.mp q
   cases this
   rfl
  subst e
  unfold clsIn at h2
  split at h2
  . rename_i c' d' cd' sl' ho
    have:=X _ _ ho
    rw[htp] at this
    cases this
  . cases h2
 ca:=λ{prog w A E Q s} X ⟨o,hx,hc⟩ k=>by
  obtain⟨h,g,d,t,os⟩:=s
  exact agW X Z hx hc k
end L2
namespace L2
open PySem PySem.Spec PyProof.Rows
section
variable {X:Cx}{es:List Expr}{n k:Nat}{t:St->Hp->Prop}{pos:Pos}
end
noncomputable def dR (x:Str):List Key:=[Sum.inr x]
theorem Zj (x y:Str):f9 (dR x) (dR y)=decide (x.cps.toList<y.cps.toList):=by
 unfold dR
 rw[Aw]
 by_cases e:(Sum.inr x:Key)=Sum.inr y
 . rw[if_pos e]
   have e:=Sum.inr.inj e
   subst e
   have h:¬x.cps.toList<x.cps.toList:=Q2r _
   rw[decide_eq_false h]
   rfl
 . rw[if_neg e]
   rfl
theorem HF {ss:List Str}{us:List Value}(r:Vals (ss.map V.str) us){i:Nat}(hi:i<us.length):∃x t,us.getD i Value.none=.str x t/\(ss.map dR).getD i []=dR x:=by
 have hl:=r.length
 rw[Q06] at hl
 have h1:(ss.map V.str)[i]? =some (V.str (ss[i]'(by omega))):=by rw[Q0g,Q05 (by omega)];rfl
 obtain⟨u,e1,t,e2⟩:=r.get h1
 subst e2
 refine⟨ss[i]'(by omega),t,by rw[Q0p,e1];rfl,?_⟩
 rw[Q0p,Q0g,Q05 (by omega)]
 rfl
theorem agY {prog:Program}{w:World}{s:Shared}{A:Around}{ss:List Str}{us:List Value}(r:Vals (ss.map V.str) us):Asks prog w A s us (O:=Y_) (λi=>(ss.map dR).getD i []):=by
 intro h2
 refine W.kas_kind (T:=.type "str") h2 (λv hv=>?_) rfl rfl ⟨rfl,λi j C hi hj q=>?_⟩
 . obtain⟨i,hi,e⟩:=Q1h hv
   obtain⟨x,t,e1,_⟩:=HF r hi
   rw[Q0p,Q05 hi] at e1
   have e1:us[i]=.str x t:=e1
   rw[<-e,e1]
   exact W.Looks.of_pure rfl
 . unfold W.kas_ask
   obtain⟨x,t,e1,e2⟩:=HF r hi
   obtain⟨y,u,e3,e4⟩:=HF r hj
   rw[e1,e3]
   refine W.kas_lt_str ?_
   have q:C (f9 ((ss.map dR).getD i []) ((ss.map dR).getD j [])) s:=q
   rw[e2,e4,Zj] at q
   exact q
noncomputable def HN (K:PySem.W.Frag) (P:Addr) (lp:Pos) (qual:Str) (te:TE) (σ:St) (Q:VK):VK:=λx H1=>∃a xs,x=.ref a/\aC K H1 a xs/\xs.length<64/\bB P lp qual H1/\
 ∀c' H2,rm P lp qual c' H2->(∀b o,b≠P->H1 b=some o->H2 b=some o)->
 ∃W:List V->Hp->Prop,W [] H2/\(∀ks H3,W ks H3->rm P lp qual c' H3)/\(∀ks H3 y,W ks H3->xs[ks.length]? =some y->te (some y::σ) H3 λk H4=>W (ks++[k]) H4)/\
 ∀ks H3,W ks H3->ks.length=xs.length->∃ss:List Str,ks=ss.map V.str/\∀p:List Nat,p.Perm (List.range xs.length)->(p.map λi=>(ss.map dR).getD i []).Pairwise wR->∀D,H3 D=none->Q (.ref D) (upd H3 D (.lst (p.map λi=>xs.getD i .non)))
noncomputable def agZ (K:W.Frag) (P:Addr) (lp:Pos) (qual:Str) (tl te:TE):TE:=λσ H Q=>tl σ H (HN K P lp qual te σ Q)
section
variable {X:Cx}
theorem ag0 {x:Str}{N':List Str}{l body:Expr}{params:Arguments}{scope:Scope}{lp kp p pos:Pos}{qual:Str}{c P:Addr}{tl te:TE}{k:Nat}(hg:Gl X "sorted")(hm:X.mg "sorted"=none)(hv:bootBuiltins "sorted"=some (.builtin "sorted"))(hr:cU k X.A)(hq:X.env.qual++"<lambda>"=qual)(hcode:X.env.code=.ref c)(C:PySem.W.CodeHd X.base c P)
 (B:BM X.mg X.base) (S:tV X x N' scope) (hdef:defaultsOf params X.env=([],[])) (hb:∀(cl:List (Str × Addr)) (pm:Value) (c':Addr) (ctv u:Value),bindArgs (PySem.W.kla_fn "<lambda>" qual params body scope cl pm (.ref c') ctv) ⟨[u],[]⟩=pure [(x,u)])
 (hl:PE X l tl) (he:∀(cl:List (Str × Addr)) (f c':Addr) (s:Shared) (H:Hp),PE (Ar X x N' scope cl qual f c' s H) body te) (hs:starEach [l] X.env=[(false,eval l X.env)]:=by rfl):
 PE X (.Call (.Name "sorted" p) [l] [⟨some "key",.Lambda params body scope lp,kp⟩] pos) (agZ X.K P lp qual tl te):=by
 intro pins s σ H Q I h
 refine wpAny_Call_Name_kw (k_ I hg hm hv ?_)
 have ha:PA X [l] (cA tl fX):=aj hl ak (by rw[hs];rfl)
 refine callWith_kw (aM (ha pos pins s σ H (λvs H1=>match vs with|[x]=>HN X.K P lp qual te σ Q x H1|_=>False) I h) λus s1 ⟨vs,H1,I1,r1,q1⟩=>?_) (by rw[hs];rfl) (by rw[hs];rfl)
 obtain⟨x',rfl⟩:∃x',vs=[x']:=by
  match vs,q1 with
  |[x'],_=>exact⟨x',rfl⟩
 have q1:HN X.K P lp qual te σ Q x' H1:=q1
 obtain⟨a,xs,rfl,HS,h64,T,cont⟩:=q1
 obtain⟨u,rfl,ru⟩:=vals1 r1
 cases ru
 show wpAny _ _ (evalAll [do let v <-eval (.Lambda params body scope lp) X.env;standAt pos;pure v]) _ _ s1
 obtain⟨cl,hclos,hsub,hget⟩:=G9 (scope:=scope) (env:=X.env) λy hy hf=>I1.ok.has y.1 (S.free y hy hf)
 refine wpAny_evalAll_cons (Q00 (PySem.W.kla_eval hdef ?_))
 rw[hq]
 refine agw I1 hcode C B T hclos λf c' pm ctv H2 s2 I2 L2' mono=>?_
 refine Q00 (wpAny_standAt (Q03 (wpAny_evalAll_nil ?_)))
 show wpAny _ _ (call (.builtin "sorted") [.ref a] [(Str.ofString "key",.ref f)]) _ _ s2
 obtain⟨W,w0,wL,wt,wf⟩:=cont c' H2 L2' mono
 have hPt:∃ps,H1 P=some (.dD ps):=by
  rcases T with e|⟨c₂,e,_⟩
  . exact⟨_,e⟩
  . exact⟨_,e⟩
 have hq2:aC X.K H2 a xs:=by
  obtain⟨ps,hP⟩:=hPt
  rcases HS with(z|⟨o,z⟩)|z
  . exact .inl (.inl (mono a _ (kY z hP (by intro z;cases z)) z))
  . exact .inl (.inr ⟨o,mono a _ (kY z hP (by intro z;cases z)) z⟩)
  . exact .inr z
 refine aM (agC (Q:=Q) (W:=W) I2 hq2 h64 w0 (λpl s' H' ks y u J wk hy ry=>?_) λpl s' H' ks us J wk hlen rk=>?_) λr s' ⟨v,H',J,rv,q⟩=>⟨v,H',J.pP,rv,q⟩
 . exact agx J S hr.hd hr.depth hsub hget (Q1n _ (Q0e _ Q0f)) (wL ks H' wk).2 (hb cl pm c' ctv) ry (he cl f c') (wt ks H' y wk hy)
 . obtain⟨ss,k1,k3⟩:=wf ks H' wk hlen
   subst k1
   exact⟨Y_,_,agY rk,λp p1 p2 D hD=>k3 p p1 p2 D hD⟩
end
variable {P:Program}{w:World}{K:W.Frag}{mg:Str->Option Value}{base:Heap}
section
variable {X:Cx}
noncomputable def ag2 (K:W.Frag) (n:Nat):R2:=λx y H Q=>(x=.non/\(∃b ys,y=.ref b/\aH K H b ys)/\Q (.bl false) H)\/Zd K n x y H Q
theorem Zk {n:Nat}(hu:X.A.units+1+n<cLine):dN X (compareOp .Eq) (ag2 X.K n):=by
 intro pins s σ H x y v u Q I rx ry h
 rcases h with⟨rfl,⟨b,ys,rfl,hb⟩,q⟩|h
 . cases rx
   cases ry
   obtain⟨its,r1,p1,_⟩:=I.tuple hb
   exact SeqAt.RcAt.none_tuple p1 (by omega) _ _ _ _ ⟨.bl false,H,I,rfl,q⟩
 . exact agO hu pins s σ H x y v u Q I rx ry h
end
theorem lE.okL {x qual:Str}{st:Stmt}{f c:Addr}{fd:FuncData}{N ps:List Str}{k:Nat}{sp:Sp}(F:lE K x qual st f fd)(hc:fd.code=.ref c)(S:bA N ps (aL st))(len:∀vs H Q E,sp vs H Q E->vs.length=ps.length)
 (hbody:∀(A:Around) (outer:List Env) (s:Shared) (H:Hp) (vs:List V) (Q:VK) (E:XK),cU k (A.deeper (envOfC qual (aL st) s.heap.objs.size f (.ref c)))->sp vs H Q E->
   ∃t,fQ (jW aB P w K mg base N qual (aL st) f (.ref c) A outer s H E).jV (eE st) t/\t { nx:=λ_ H'=>Q .non H',rt:=Q } (start N vs) H):aq P w K mg base aB (k+1) f fd ps sp:=by
 obtain⟨oc,od,kV,doc,pm,an,cdv,ct,osl,rfl,lk,hcd⟩:=F.ex
 have hc:cdv=.ref c:=hc
 subst hc
 refine Aa lk hcd S len λA outer s H vs Q E hr hsp=>?_
 obtain⟨t,h,q⟩:=hbody A outer s H vs Q E hr hsp
 exact⟨t,h.jV,q⟩
noncomputable def Ay (tabs:List Addr) (H:Hp):Prop:=∀b,H b=none\/(∃o xs,H b=some (.cu o (.lst xs)))\/(b∈tabs/\H b=some (.dD #[]))
theorem ag4 {P:Program}{w:World}{K:W.Frag}{mg mb:Str->Option Value}{CX:iB}{k:Nat}{fa a:Addr}{fd:FuncData}{x:Str}{sp:Sp}{s₁:Shared}{vs:List Value}{ns:List Int}{tabs:List (Addr × Addr)}
 (KX:K.In s₁.heap) (hT:W.TabsAt tabs s₁.heap) (wV:W.noTabs K=true) (hbm:BM mg s₁.heap) (hns:s₁.heap.Ns mainGlobals mg) (hb:s₁.heap.Ns builtinsNs mb) (hbb:∀x:Str,x≠"__name__"->mb x=bootBuiltins x) (hlim:s₁.heap.NoLimit) (hg:s₁.gens=#[])
 (ha:s₁.heap.get? a=some { cls:=.type "list",data:=.seq vs.toArray }) (hi:IntsAre vs ns) (hl:ns.length<=sizeLine) (hr:cU k callerA)
 (F:∀base:Heap,K.In base->base.Ns mainGlobals mg->BM mg base->aq P w K mg base CX k fa fd [x] sp) (hbind:∀(s:Shared) (u:Value),BindsTo s fd ⟨[u],[]⟩ [(x,u)])
 (hsp:∀H:Hp,Ay (tabs.map (·.2)) H->(∀q∈tabs,H q.2=some (.dD #[]))->aC K H a (ns.map V.int)->sp [.ref a] H (λv _=>v=.bl true) λ_ _ _=>False)
 (hCX:∀H e s',CX [] H s₁ (λ_ _ _=>False) e s'->False):
 codeAny (model P w) callerA (.call (.ref fa) ⟨[.ref a],[]⟩) (λr s'=>r=.ok (.ret (.bool true))/\OldK s₁.heap s'.heap/\s'.os=s₁.os/\AllBare s'.gens) s₁:=by
 have rv:=Ys hi
 have lenV:=hi.length
 have tW:∀b,b∈tabs.map (·.2)->s₁.heap.get? b=some (W.tabObj #[]):=λb hm=>by
  obtain⟨q,hq,rfl⟩:=List.mem_map.mp hm
  exact(hT q hq).2
 have Zm:a ∉ tabs.map (·.2):=λhm=>by
  have:=tW a hm
  rw[ha] at this;cases this
 have core:∀H:Hp,Ay (tabs.map (·.2)) H->(∀q∈tabs,H q.2=some (.dD #[]))->aC K H a (ns.map V.int)->cL P w H s₁.heap->(∀b,H b≠none->b=a\/b∈tabs.map (·.2))->(H a≠none->K.lookup a=none)->
  codeAny (model P w) callerA (.call (.ref fa) ⟨[.ref a],[]⟩) (λr s'=>r=.ok (.ret (.bool true))/\OldK s₁.heap s'.heap/\s'.os=s₁.os/\AllBare s'.gens) s₁:=by
  intro H hO hPt hS hok hA hK
  have HW:∀{b:Addr} {o:Obj},s₁.heap.get? b=some o->H b=none->(lX s₁.heap H).get? b=some o:=λe n=>aeh e n
  have other:∀{b:Addr} {o:Obj},s₁.heap.get? b=some o->(∀us n,o.data≠ .seq us n)->(∀us,o.data≠ .fields us)->H b=none:=λ{b o} e d1 d2=>by
   cases q:H b with
   |none=>rfl
   |some u=>
    rcases hA b (by rw[q];simp) with e'|e'
    . subst e'
      rw[ha] at e;cases e
      exact absurd rfl (d1 _ _)
    . rw[tW b e'] at e;cases e
      exact absurd rfl (d2 _)
  have Az:∀{b:Addr} {m:Str->Option Value},s₁.heap.Ns b m->(lX s₁.heap H).Ns b m:=λ{b m} ⟨o,es,ep,e,d,r⟩=>⟨o,es,ep,HW e (other e (by rw[d];intro us n z;cases z) (by rw[d];intro us z;cases z)),d,r⟩
  have Zn:K.In (lX s₁.heap H):=λb o e=>HW (KX b o e) (by
   cases q:H b with
   |none=>rfl
   |some u=>
    rcases hA b (by rw[q];simp) with e'|e'
    . subst e'
      rw[hK (by rw[q];simp)] at e;cases e
    . have e2:=KX b o e
      rw[tW b e'] at e2;cases e2
      have:=List.all_eq_true.mp wV _ (W.mem_of_lookupK e)
      simp at this)
  have hM:Mod K mg (lX s₁.heap H):=⟨Zn,Az hns,⟨mb,Az hb,hbb⟩,let⟨mc,h1,h2⟩:=hlim;⟨mc,Az h1,h2⟩⟩
  have wW:BM mg (lX s₁.heap H):=by
   obtain⟨bm,o,b1,b2,b3,b4,b5,b6,b7⟩:=hbm
   exact⟨bm,o,b1,b2,b3,HW b4 (other b4 (by rw[b7];intro us n z;cases z) (by rw[b7];intro us z;cases z)),b5,b6,b7⟩
  have e0:qY P w K mg (lX s₁.heap H) callerA [] s₁ H:=⟨rfl,hM,λb o e=>aei e,Q1j (aeg _ _),trivial,λb hb=>absurd (show b∈([]:List Addr) from hb) (by simp),hok,.of_eq hg⟩
  refine codeAny_mono ((F _ Zn (Az hns) wW).run callerA [] s₁ H ⟨[.ref a],[]⟩ [.ref a] [.ref a] _ _ hr e0 (hbind s₁ (.ref a)) (.cons rfl .nil) (hsp H hO hPt hS)) λr s' h=>?_
  cases r with
  |error e=>exact(hCX H e s' h).elim
  |ok fl=>
   cases fl with
   |next=>exact False.elim h
   |brk=>exact False.elim h
   |cont=>exact False.elim h
   |ret u=>
    obtain⟨v,H',os,bare,un,hok',r',q⟩:=h
    have q':v=.bl true:=q
    subst q'
    obtain rfl:u=Value.bool true:=r'
    have grown:∀b,b∈tabs.map (·.2)->∃ps,s'.heap.get? b=some (W.tabObj ps):=λb hm=>by
     obtain⟨q,hq,rfl⟩:=List.mem_map.mp hm
     obtain⟨more,e⟩:=un.iw _ _ (hPt q hq)
     exact⟨_,hok' _ _ e⟩
    have keep:∀b o,b ∉ tabs.map (·.2)->s₁.heap.get? b=some o->s'.heap.get? b=some o:=λb o hb e=>by
     cases q:H b with
     |none=>exact un.keep b o e q (by intro z;exact absurd (show b∈([]:List Addr) from z) (by simp)) (by simp)
     |some u=>
      rcases hO b with z|⟨ob,xs,z⟩|⟨z,_⟩
      . rw[q] at z;cases z
      . have z2:=un.gZ b ob _ z
        obtain⟨e1,_⟩:=hok b _ z
        obtain⟨e2,_⟩:=hok' b _ z2
        rw[e] at e1;cases e1
        exact e2
      . exact absurd z hb
    refine⟨rfl,⟨λb o e=>?_,λb o e=>?_⟩,os,bare⟩
    . by_cases hb:b∈tabs.map (·.2)
      . obtain⟨ps,hP⟩:=grown b hb
        have e2:=tW b hb
        rw[e] at e2;cases e2
        obtain⟨q,hq,rfl⟩:=List.mem_map.mp hb
        exact .inr (.inl ⟨((hT q hq).1.tab (hT q hq).2).isCodeTable,rfl,#[],ps,rfl,by rw[Q2e];exact hP⟩)
      . exact .inl (keep b o hb e)
    . by_cases hb:b∈tabs.map (·.2)
      . obtain⟨ps,hP⟩:=grown b hb
        exact⟨_,hP⟩
      . exact⟨o,keep b o hb e⟩
 cases hk:K.lookup a with
 |some o=>
  have e:=KX a o hk
  rw[ha] at e
  cases e
  refine core (λb=>if b∈tabs.map (·.2) then some (.dD #[]) else none) (λb=>?_) (λq hq=>if_pos (Q2s hq)) (.inr ⟨_,vs.toArray,_,hk,rfl,rfl,rfl,by rw[Q08,lenV];exact hl,by simpa using rv⟩) (λb u z=>?_) (λb z=>?_) λz=>absurd (if_neg Zm) z
  . by_cases hb:b∈tabs.map (·.2)
    . exact .inr (.inr ⟨hb,if_pos hb⟩)
    . exact .inl (if_neg hb)
  . by_cases hb:b∈tabs.map (·.2)
    . have z':=(if_pos hb).symm.trans z
      cases z'
      exact tW b hb
    . have z':=(if_neg hb).symm.trans z
      cases z'
  . by_cases hb:b∈tabs.map (·.2)
    . exact .inr hb
    . exact absurd (if_neg hb) z
 |none=>
  refine core (λb=>if b∈tabs.map (·.2) then some (.dD #[]) else if b=a then some (.cu { cls:=.type "list",data:=.seq vs.toArray } (.lst (ns.map V.int))) else none) (λb=>?_) (λq hq=>if_pos (Q2s hq))
   (.inl (.inr ⟨{ cls:=.type "list",data:=.seq vs.toArray },(if_neg Zm).trans (if_pos rfl)⟩)) (λb u z=>?_) (λb z=>?_) λ_=>hk
  . by_cases hb:b∈tabs.map (·.2)
    . exact .inr (.inr ⟨hb,if_pos hb⟩)
    . by_cases hba:b=a
      . exact .inr (.inl ⟨_,_,(if_neg hb).trans (if_pos hba)⟩)
      . exact .inl ((if_neg hb).trans (if_neg hba))
  . by_cases hb:b∈tabs.map (·.2)
    . have z':=(if_pos hb).symm.trans z
      cases z'
      exact tW b hb
    . have z:=(if_neg hb).symm.trans z
      by_cases hba:b=a
      . have z':=(if_pos hba).symm.trans z
        cases z'
        subst hba
        exact⟨ha,by rw[Q06];exact hl,vs,_,rv,ha⟩
      . have z':=(if_neg hba).symm.trans z
        cases z'
  . by_cases hb:b∈tabs.map (·.2)
    . exact .inr hb
    . by_cases hba:b=a
      . exact .inl hba
      . exact absurd ((if_neg hb).trans (if_neg hba)) z
theorem ag6 {l:W.OpenLaw}{n k:Nat}{q:Program}{loose:List Str}{XP:(Str->Option Value)->Heap->Prop}{YP:World->Heap->Prop}{d:DefRec}{K:Params->W.Frag}{sp:World->List (Addr × Addr)->Sp}{x:Str}{names:List Str}
 (hn:l.most=some n) (hn2:n<=sizeLine) (hdf:d.params.defaults=[]) (hr:cU k callerA)
 (hY:∀(w:World) (h:Heap),YP w h->(K w.params).In h) (wV:∀w:World,W.noTabs (K w.params)=true)
 (tb:∀w:World,∃tabs:List (Addr × Addr),(∀q'∈tabs,∃y∈names,W.tabIn (K w.params) y=some q')/\
   (∀(mg:Str->Option Value) (fa:Addr) (h:Heap),(K w.params).In h->h.Ns mainGlobals mg->mg d.name=some (.ref fa)->
   ∃fd:FuncData,(∀(s:Shared) (u:Value),BindsTo s fd ⟨[u],[]⟩ [(x,u)])/\
    ∀base:Heap,(K w.params).In base->base.Ns mainGlobals mg->BM mg base->aq l.prog w (K w.params) mg base aB k fa fd [x] (sp w tabs)))
 (hrec:∀y∈names,∃d',(recsOf q).find? (λe=>e.name == y)=some d')
 (hsp:∀(w:World) (tabs:List (Addr × Addr)) (H:Hp) (a:Addr) (ns:List Int),ns.length<=n->Ay (tabs.map (·.2)) H->(∀q∈tabs,H q.2=some (.dD #[]))->aC (K w.params) H a (ns.map V.int)->sp w tabs [.ref a] H (λv _=>v=.bl true) λ_ _ _=>False):
 W.WalkO q loose XP YP l.row.toRowW d [] (λf vs=>PySem.call f vs):=by
 refine Yr.af2 hn hdf λw s₀ s₁ mg mb fa o pm cd doc a vs ns G Y ho hd hcd hmg hobj hints hlen hg=>?_
 have KX:=hY w _ Y
 obtain⟨tabs,ht,F⟩:=tb w
 obtain⟨fd,hb,hF⟩:=F mg fa _ KX G.T.g hmg
 have hT:W.TabsAt tabs s₁.heap:=λq' hq=>by
  obtain⟨y,hy,hty⟩:=ht q' hq
  obtain⟨d',hd'⟩:=hrec y hy
  exact W.tab_of G.T KX hd' hty
 have hbm:BM mg s₁.heap:=by
  obtain⟨bm,ob,b1,b2,b3,b4,b5,b6⟩:=G.T.bmain
  refine⟨bm,ob,b1,b2,λz=>?_,b3,b4,b5,b6⟩
  obtain⟨o',es,ep,e,hd,_⟩:=G.T.g
  rw[z,e] at b3;cases b3
  rw[hd] at b6;cases b6
 exact ag4 KX hT (wV w) hbm G.T.g G.T.b G.T.builtins G.T.nolimit hg hobj hints (Q0c hlen hn2) hr hF hb (λH hO hP hS=>hsp w tabs H a ns hlen hO hP hS) λH e s' h=>h.elim
end L2
namespace Pb
open PySem L2 PyProof.Rows
mutual
inductive Kd where
 |num
 |gh
 |wX (fs:Fs)
 |rows (key by_:Str) (fs:Fs)
 |tree (k:Kd)
 |wY (fs:Fs)
inductive Fs where
 |nil
 |cons (x:Str) (k:Kd) (r:Fs)
end
noncomputable def Fs.names:Fs->List Str
 | .nil=>[]
 | .cons x _ r=>x::r.names
noncomputable def Fs.get:Fs->Str->Option Kd
 | .nil,_=>none
 | .cons y k r,x=>if x=y then some k else r.get x
noncomputable def Fs.at:Fs->Nat->Option (Str × Kd)
 | .nil,_=>none
 | .cons x k _,0=>some (x,k)
 | .cons _ _ r,i+1=>r.at i
noncomputable def Fs.snoc:Fs->Str->Kd->Fs
 | .nil,x,k=>.cons x k .nil
 | .cons y q r,x,k=>.cons y q (r.snoc x k)
theorem Fs.Zo:∀(fs:Fs) (x:Str) (k:Kd),(fs.snoc x k).names=fs.names++[x]
 | .nil,_,_=>rfl
 | .cons y q r,x,k=>by
   show y::(r.snoc x k).names=_
   rw[Fs.Zo r x k];rfl
theorem Fs.jA:∀(fs:Fs) (i:Nat),fs.names[i]? =(fs.at i).map (·.1)
 | .nil,i=>by simp[Fs.names,Fs.at]
 | .cons x k r,0=>by simp[Fs.names,Fs.at]
 | .cons x k r,i+1=>by
   show(x::r.names)[i+1]? =_
   rw[List.getElem?_cons_succ,Fs.jA r i];rfl
theorem Fs.Zq:∀{fs:Fs}{i:Nat},i<fs.names.length->∃x k,fs.at i=some (x,k)
 | .nil,i,h=>by simp[Fs.names] at h
 | .cons x k r,0,h=>⟨x,k,rfl⟩
 | .cons x k r,i+1,h=>Fs.Zq (fs:=r) (i:=i) (by simpa[Fs.names] using h)
theorem Fs.tX:∀{fs:Fs}{i:Nat}{x:Str}{k:Kd},fs.names.Nodup->fs.at i=some (x,k)->fs.get x=some k
 | .nil,_,_,_,_,h=>by cases h
 | .cons y q r,0,x,k,_,h=>by
   cases h
   simp[Fs.get]
 | .cons y q r,i+1,x,k,nd,h=>by
   have nd:(y::r.names).Nodup:=nd
   obtain⟨n1,n2⟩:=List.nodup_cons.mp nd
   have h:r.at i=some (x,k):=h
   have hm:x∈r.names:=Q0y (i:=i) (by rw[Fs.jA,h];rfl)
   show(if x=y then some q else r.get x)=some k
   rw[if_neg (λe=>n1 (by rw[<-e];exact hm))]
   exact Fs.tX n2 h
noncomputable def jY:Kd->Prop
 | .num=>True
 | .gh=>True
 |_=>False
noncomputable def Fs.pl (fs:Fs) (x:Str):Prop:=∃k,fs.get x=some k/\jY k
mutual
noncomputable def Kd.W:Kd->Prop
 | .num=>True
 | .gh=>True
 | .wX fs=>fs.names.Nodup/\fs.names.length<=12/\fs.W
 | .rows key by_ fs=>fs.names.Nodup/\fs.names.length<=12/\fs.W/\fs.pl key/\(by_=""\/fs.pl by_)
 | .tree k=>k.W
 | .wY fs=>fs.names.Nodup/\fs.names.length<=12/\1<=fs.names.length/\fs.W
noncomputable def Fs.W:Fs->Prop
 | .nil=>True
 | .cons _ k r=>k.W/\r.W
end
end Pb
namespace Pb
open PySem L2
mutual
noncomputable def KA (H:Hp):V->Kd->Prop
 |v,.num=>∃a,v=.ref a/\H a=some (.tup [.str "number"])
 |v,.gh=>∃a,v=.ref a/\H a=some (.tup [.str "word"])
 |v,.wX fs=>∃a b vs,v=.ref a/\H a=some (.tup [.str "record",.ref b])/\H b=some (.tup vs)/\FA H vs fs
 |v,.rows key by_ fs=>∃a b vs,v=.ref a/\H a=some (.tup [.str "rows",.str key,.str by_,.ref b])/\H b=some (.tup vs)/\FA H vs fs
 |v,.tree k=>∃a u,v=.ref a/\H a=some (.tup [.str "tree",u])/\KA H u k
 |v,.wY fs=>∃a b vs,v=.ref a/\H a=some (.tup [.str "either",.ref b])/\H b=some (.tup vs)/\FA H vs fs
noncomputable def FA (H:Hp):List V->Fs->Prop
 |vs,.nil=>vs=[]
 |vs,.cons x k r=>∃c u vr,vs=.ref c::vr/\H c=some (.tup [.str x,u])/\KA H u k/\FA H vr r
end
noncomputable def Tu (H H':Hp):Prop:=∀a xs,H a=some (.tup xs)->H' a=some (.tup xs)
theorem Tu.trans {H H1 H2:Hp}(a:Tu H H1)(b:Tu H1 H2):Tu H H2:=λc xs h=>b c xs (a c xs h)
theorem Tu.of {H H':Hp}(s:Same H H'):Tu H H':=λa xs h=>s a _ h
mutual
theorem KA.mono {H H':Hp}(t:Tu H H'):∀{v:V}(k:Kd),KA H v k->KA H' v k
 |v,.num,h=>by
  unfold KA at h ⊢
  obtain⟨a,e,q⟩:=h
  exact⟨a,e,t _ _ q⟩
 |v,.gh,h=>by
  unfold KA at h ⊢
  obtain⟨a,e,q⟩:=h
  exact⟨a,e,t _ _ q⟩
 |v,.wX fs,h=>by
  unfold KA at h ⊢
  obtain⟨a,b,vs,e,q1,q2,f⟩:=h
  exact⟨a,b,vs,e,t _ _ q1,t _ _ q2,FA.mono t fs f⟩
 |v,.rows key by_ fs,h=>by
  unfold KA at h ⊢
  obtain⟨a,b,vs,e,q1,q2,f⟩:=h
  exact⟨a,b,vs,e,t _ _ q1,t _ _ q2,FA.mono t fs f⟩
 |v,.tree k,h=>by
  unfold KA at h ⊢
  obtain⟨a,u,e,q,f⟩:=h
  exact⟨a,u,e,t _ _ q,KA.mono t k f⟩
 |v,.wY fs,h=>by
  unfold KA at h ⊢
  obtain⟨a,b,vs,e,q1,q2,f⟩:=h
  exact⟨a,b,vs,e,t _ _ q1,t _ _ q2,FA.mono t fs f⟩
theorem FA.mono {H H':Hp}(t:Tu H H'):∀{vs:List V}(fs:Fs),FA H vs fs->FA H' vs fs
 |vs,.nil,h=>by
  unfold FA at h ⊢
  exact h
 |vs,.cons x k r,h=>by
  unfold FA at h ⊢
  obtain⟨c,u,vr,e,q,f,g⟩:=h
  exact⟨c,u,vr,e,t _ _ q,KA.mono t k f,FA.mono t r g⟩
end
theorem FA.len {H:Hp}:∀{vs:List V}(fs:Fs),FA H vs fs->vs.length=fs.names.length
 |vs,.nil,h=>by
  unfold FA at h
  rw[h];rfl
 |vs,.cons x k r,h=>by
  unfold FA at h
  obtain⟨c,u,vr,e,_,_,g⟩:=h
  rw[e]
  show vr.length+1=r.names.length+1
  rw[FA.len r g]
theorem FA.get {H:Hp}:∀{vs:List V}(fs:Fs) {i:Nat}{v:V},FA H vs fs->vs[i]? =some v->∃c u x k,v=.ref c/\fs.at i=some (x,k)/\H c=some (.tup [.str x,u])/\KA H u k
 |vs,.nil,i,v,h,e=>by
  unfold FA at h
  rw[h] at e;simp at e
 |vs,.cons x k r,0,v,h,e=>by
  unfold FA at h
  obtain⟨c,u,vr,ev,q,f,_⟩:=h
  rw[ev] at e
  have e:some (V.ref c)=some v:=e
  cases e
  exact⟨c,u,x,k,rfl,rfl,q,f⟩
 |vs,.cons x k r,i+1,v,h,e=>by
  unfold FA at h
  obtain⟨c,u,vr,ev,_,_,g⟩:=h
  rw[ev] at e
  exact FA.get r (i:=i) g (by simpa using e)
theorem FA.snoc {H:Hp}{c:Addr}{u:V}{x:Str}{k:Kd}(hc:H c=some (.tup [.str x,u]))(hk:KA H u k):∀{vs:List V}(fs:Fs),FA H vs fs->FA H (vs++[.ref c]) (fs.snoc x k)
 |vs,.nil,h=>by
  unfold FA at h
  subst h
  show FA H [.ref c] (.cons x k .nil)
  unfold FA
  exact⟨c,u,[],rfl,hc,hk,by unfold FA;rfl⟩
 |vs,.cons y q r,h=>by
  unfold FA at h
  obtain⟨d,w,vr,e,h1,h2,h3⟩:=h
  subst e
  show FA H (.ref d::(vr++[.ref c])) (.cons y q (r.snoc x k))
  unfold FA
  exact⟨d,w,vr++[.ref c],rfl,h1,h2,FA.snoc hc hk r h3⟩
noncomputable def Kp (S:Addr->Prop) (H H':Hp):Prop:=∀c o,¬S c->H c=some o->H' c=some o
theorem Kp.trans {S:Addr->Prop}{H H1 H2:Hp}(x:Kp S H H1)(y:Kp S H1 H2):Kp S H H2:=λc o n h=>y c o n (x c o n h)
theorem Kp.of {S:Addr->Prop}{H H':Hp}(s:Same H H'):Kp S H H':=λc o _ h=>s c o h
noncomputable def lt (z:Int):Str:=⟨#[97+z.toNat]⟩
theorem A_ (z:Int):(lt z).length=1:=rfl
theorem ag7:∀j:Nat,j<26->(("abcdefghijklmnopqrstuvwxyz":Str)).cps.toList[j]? =some (97+j):=by decide+kernel
theorem ag8:(("abcdefghijklmnopqrstuvwxyz":Str)).cps.toList.length=26:=by decide+kernel
theorem Ba {z:Int}(h0:0<=z)(h1:z<26):dZ (("abcdefghijklmnopqrstuvwxyz":Str)).cps.toList z=some (97+z.toNat):=by
 unfold dZ jy
 rw[ag8,if_pos h0,if_pos (show z<((26:Nat):Int) by omega)]
 exact ag7 z.toNat (by omega)
theorem ag9 {z:Int}(h0:0<=z)(h1:z<6):dZ [V.int 1,.int 3,.int 5,.int 7,.int 9,.int 11] z=some (.int (2 * z+1)):=by
 have h:z=0\/z=1\/z=2\/z=3\/z=4\/z=5:=by omega
 rcases h with h|h|h|h|h|h <;> subst h <;> rfl
theorem foldl_size (a:Array Nat):∀(n:Nat) (b:Array Nat),((List.replicate n a).foldl (· ++ ·) b).size=b.size+n * a.size
 |0,b=>by simp
 |n+1,b=>by
  rw[Q1s,Q1t,foldl_size a n,Array.size_append,Nat.succ_mul];omega
theorem Zr {x:Str}(hx:x.length=1)(k:Nat):(Txt.mul x ((k:Int)+1)).length=k+1:=by
 have hs:x.cps.size=1:=hx
 unfold Txt.mul
 rw[if_neg (by omega)]
 by_cases h:k=0
 . subst h
   rw[if_pos (by simp)]
   exact hx
 . rw[if_neg]
   . show((List.replicate ((k:Int)+1).toNat x.cps).foldl (· ++ ·) #[]).size=k+1
     rw[foldl_size,hs,show((k:Int)+1).toNat=k+1 by omega];simp
   . rw[hx]
     simp
     omega
theorem Bb (x y:Str):(x++y).cps.toList=x.cps.toList++y.cps.toList:=by
 show(x.cps++y.cps).toList=_
 simp
theorem aha (x y:Str):(x++y).length=x.length+y.length:=by
 show(x.cps++y.cps).size=x.cps.size+y.cps.size
 simp
theorem Zt {f:Nat->Str}:∀{n:Nat},(∀i j,i<n->j<n->f i=f j->i=j)->((List.range n).map f).Nodup:=by
 intro n h
 refine List.pairwise_map.mpr (List.Pairwise.imp_of_mem (λ{a b} ha hb hab=>?_) (List.nodup_range (n:=n)))
 intro e
 exact hab (h a b (List.mem_range.mp ha) (List.mem_range.mp hb) e)
theorem ahb {x:Str}(hx:x.length=1){k:Nat}(hk:k<12)(hl:∀n,n<=1000->Builtin.Str.tooLong n=false):MulOk x ((k:Int)+1):=by
 refine⟨?_,λ_ _=>?_,λ_ _=>?_⟩
 . have e1:decide (((k:Int)+1)< -(2 ^ 63:Int))=false:=decide_eq_false (by omega)
   have e2:decide (((k:Int)+1) ≥ 2 ^ 63)=false:=decide_eq_false (by omega)
   rw[e1,e2];rfl
 . rw[hx]
   have h:k=0\/k=1\/k=2\/k=3\/k=4\/k=5\/k=6\/k=7\/k=8\/k=9\/k=10\/k=11:=by omega
   rcases h with h|h|h|h|h|h|h|h|h|h|h|h <;> subst h <;> decide
 . rw[hx]
   exact hl _ (by omega)
end Pb
namespace Pb
open PySem L2 PyProof.Rows PySem.Spec PySem.StrLaws PySem.Builtin PySem.Builtin.Str
noncomputable def pY (H:Hp) (u:V) (pl:Bool):Prop:=∃a f rest,u=.ref a/\H a=some (.tup (.str f::rest))/\(pl=true->rest=[]/\(f="number"\/f="word"))/\(pl=false->f≠"number"/\f≠"word")/\∀v∈rest,(∃s,v=.str s)\/∃c,v=.ref c
theorem pY.mono {H H':Hp}(t:Tu H H'){u:V}{pl:Bool}(h:pY H u pl):pY H' u pl:=by
 obtain⟨a,f,rest,e,h1,h2⟩:=h
 exact⟨a,f,rest,e,t _ _ h1,h2⟩
theorem pY.of {H:Hp}{u:V}:∀{k:Kd},KA H u k->∃pl,pY H u pl
 | .num,h=>by
   unfold KA at h
   obtain⟨a,e,q⟩:=h
   exact⟨true,a,_,_,e,q,λ_=>⟨rfl,.inl rfl⟩,(λz=>by cases z),λv hv=>nomatch hv⟩
 | .gh,h=>by
   unfold KA at h
   obtain⟨a,e,q⟩:=h
   exact⟨true,a,_,_,e,q,λ_=>⟨rfl,.inr rfl⟩,(λz=>by cases z),λv hv=>nomatch hv⟩
 | .wX fs,h=>by
   unfold KA at h
   obtain⟨a,b,vs,e,q,_⟩:=h
   exact⟨false,a,_,_,e,q,(λz=>by cases z),(λ_=>by decide),λv hv=>by rw[List.mem_singleton.mp hv];exact .inr ⟨_,rfl⟩⟩
 | .rows key by_ fs,h=>by
   unfold KA at h
   obtain⟨a,b,vs,e,q,_⟩:=h
   refine⟨false,a,_,_,e,q,(λz=>by cases z),(λ_=>by decide),λv hv=>?_⟩
   simp only[Q1u,List.mem_nil_iff,or_false] at hv
   rcases hv with z|z|z <;> subst z
   . exact .inl ⟨_,rfl⟩
   . exact .inl ⟨_,rfl⟩
   . exact .inr ⟨_,rfl⟩
 | .tree k,h=>by
   unfold KA at h
   obtain⟨a,b,e,q,hk⟩:=h
   obtain⟨_,c,_,_,ec,_⟩:=pY.of hk
   exact⟨false,a,_,_,e,q,(λz=>by cases z),(λ_=>by decide),λv hv=>by rw[List.mem_singleton.mp hv];exact .inr ⟨c,ec⟩⟩
 | .wY fs,h=>by
   unfold KA at h
   obtain⟨a,b,vs,e,q,_⟩:=h
   exact⟨false,a,_,_,e,q,(λz=>by cases z),(λ_=>by decide),λv hv=>by rw[List.mem_singleton.mp hv];exact .inr ⟨_,rfl⟩⟩
noncomputable abbrev Qd:=V × Str × Bool
noncomputable def Bc (H:Hp) (q:Qd):Prop:=∃c u,q.1=.ref c/\H c=some (.tup [.str q.2.1,u])/\pY H u q.2.2
noncomputable def lF (H:Hp) (qs:List Qd):Prop:=∀q∈qs,Bc H q
noncomputable def nms (qs:List Qd):List Str:=qs.map (·.2.1)
noncomputable def dz (qs:List Qd):List V:=qs.map (·.1)
theorem Bc.mono {H H':Hp}(t:Tu H H'){q:Qd}(h:Bc H q):Bc H' q:=by
 obtain⟨c,u,e,h1,h2⟩:=h
 exact⟨c,u,e,t _ _ h1,h2.mono t⟩
theorem lF.mono {H H':Hp}(t:Tu H H'){qs:List Qd}(h:lF H qs):lF H' qs:=λq hq=>(h q hq).mono t
theorem lF.of {H:Hp}:∀{ys:List V}{fs:Fs},FA H ys fs->∃qs,dz qs=ys/\nms qs=fs.names/\lF H qs
 |ys,.nil,h=>by
  unfold FA at h
  subst h
  exact⟨[],rfl,rfl,λq hq=>nomatch hq⟩
 |ys,.cons x k r,h=>by
  unfold FA at h
  obtain⟨c,u,vr,rfl,q,hk,hr⟩:=h
  obtain⟨qs,e1,e2,hp⟩:=lF.of hr
  obtain⟨pl,hs⟩:=pY.of hk
  refine⟨(.ref c,x,pl)::qs,by show _::dz qs=_;rw[e1],by show x::nms qs=_;rw[e2];rfl,λq' hq=>?_⟩
  rcases List.mem_cons.mp hq with e|e
  . subst e
    exact⟨c,u,rfl,q,hs⟩
  . exact hp q' e
noncomputable def sle (x y:Str):Prop:=wR (dR x) (dR y)
noncomputable def slt (x y:Str):Prop:=f9 (dR x) (dR y)=true
theorem HX (x y:Str)(h:slt x y):¬slt y x:=λh2=>by
 have z:=wQ _ _ _ h h2
 rw[Hw] at z
 cases z
theorem ahc {x y:Str}(h:dR x=dR y):x=y:=Sum.inr.inj (List.cons.inj h).1
theorem Bd {x y:Str}(h:sle x y):slt x y\/x=y:=by
 rcases Ax (dR x) (dR y) with q|q|q
 . exact .inl q
 . exact .inr (ahc q)
 . have h:f9 (dR y) (dR x)=false:=h
   rw[h] at q;cases q
theorem ahd {x y:Str}(h:slt x y):sle x y:=by
 unfold sle wR
 cases e:f9 (dR y) (dR x) with
 |false=>rfl
 |true=>exact absurd e (HX _ _ h)
theorem ahe {x y z:Str}(h1:sle x y)(h2:sle y z):sle x z:=by
 rcases Bd h1 with a|a
 . rcases Bd h2 with b|b
   . exact ahd (wQ _ _ _ a b)
   . rw[<-b];exact h1
 . rw[a];exact h2
theorem Zu (x y:Str):ltCps x.cps.toList y.cps.toList=f9 (dR x) (dR y):=by
 rw[Zj]
 exact ltCps_eq _ _
theorem HY:∀{ss:List Str},sortedS ss=true->ss.Pairwise sle
 |[],_=>.nil
 |[x],_=>Q2o _ _
 |x::y::r,h=>by
  have h:(!ltCps y.cps.toList x.cps.toList && risingS y r)=true:=h
  obtain⟨h1,h2⟩:=Bool.and_eq_true_iff.mp h
  have ih:(y::r).Pairwise sle:=HY (ss:=y::r) h2
  have hxy:sle x y:=by
   rw[Zu] at h1
   unfold sle wR
   cases e:f9 (dR y) (dR x) with
   |false=>rfl
   |true=>rw[e] at h1;cases h1
  refine .cons (λz hz=>?_) ih
  rcases List.mem_cons.mp hz with e|e
  . rw[e];exact hxy
  . exact ahe hxy ((List.pairwise_cons.mp ih).1 z e)
theorem Zv {qs:List Qd}(h:(nms qs).Pairwise sle)(nd:(nms qs).Nodup):qs.Pairwise λa b=>slt a.2.1 b.2.1:=by
 have h1:=List.pairwise_map.mp h
 have h2:qs.Pairwise λa b=>a.2.1≠b.2.1:=List.pairwise_map.mp nd
 refine(h1.and h2).imp λ{a b} ⟨x,y⟩=>?_
 rcases Bd x with z|z
 . exact z
 . exact absurd z y
theorem H_ {α:Type}{R:α->α->Prop}(as:∀a b,R a b->¬R b a):∀{l1 l2:List α},l1.Perm l2->l1.Pairwise R->l2.Pairwise R->l1=l2
 |[],l2,p,_,_=>by rw[p.nil_eq]
 |a::r,[],p,_,_=>absurd p.length_eq (by simp)
 |a::r,b::q,p,h1,h2=>by
  obtain⟨a1,a2⟩:=List.pairwise_cons.mp h1
  obtain⟨b1,b2⟩:=List.pairwise_cons.mp h2
  have hab:a=b:=by
   have ha:a∈b::q:=p.mem_iff.mp Q0f
   have hb:b∈a::r:=p.mem_iff.mpr Q0f
   rcases List.mem_cons.mp ha with e|e
   . exact e
   . rcases List.mem_cons.mp hb with e2|e2
     . exact e2.symm
     . exact absurd (a1 b e2) (as b a (b1 a e))
  subst hab
  rw[H_ as ((List.perm_cons a).mp p) a2 b2]
theorem ahf {q1 q2:List Qd}(p:q1.Perm q2)(h1:(nms q1).Pairwise sle)(h2:(nms q2).Pairwise sle)(nd:(nms q2).Nodup):q1=q2:=
 H_ (λa b=>HX _ _) p (Zv h1 ((p.map _).nodup_iff.mpr nd)) (Zv h2 nd)
theorem foldl_rep (c:Nat):∀(n:Nat) (b:Array Nat),((List.replicate n #[c]).foldl (· ++ ·) b).toList=b.toList++List.replicate n c
 |0,b=>by simp
 |n+1,b=>by
  rw[Q1s,Q1t,foldl_rep c n,Array.toList_append,Q2t]
  rfl
theorem Ia (z:Int)(k:Nat):(Txt.mul (lt z) ((k:Int)+1)).cps.toList=List.replicate (k+1) (97+z.toNat):=by
 unfold Txt.mul
 rw[if_neg (by omega)]
 by_cases h:(((k:Int)+1 == 1) || (lt z).length == 0)=true
 . rw[if_pos h]
   have hk:k=0:=by
    rw[A_] at h
    simp at h
    omega
   subst hk
   rfl
 . rw[if_neg h]
   have e:((k:Int)+1).toNat=k+1:=by omega
   rw[e]
   show((List.replicate (k+1) #[97+z.toNat]).foldl (· ++ ·) #[]).toList=_
   rw[foldl_rep]
   rfl
end Pb
namespace L2
open PySem PySem.Spec PyProof.Rows
noncomputable def Zw (a:Addr) (o:Obj) (kvs:List (Key × V)):It:=
 ⟨λi H=>i<kvs.length/\H a=some (.cu o (.dK kvs)),λi H x H'=>H'=H/\∃p,kvs[i]? =some p/\x=kV p.1,λi H=>kvs.length<=i/\H a=some (.cu o (.dK kvs))⟩
theorem Zx:∀{kvs:List (Key × V)}{vs:List (Key × Value)}{i:Nat}{p:Key × V},KV kvs vs->kvs[i]? =some p->∃v,vs[i]? =some (p.1,v)
 |_,_,i,p,.nil,h=>by simp at h
 |_,_,0,p,.cons (b:=b) h t,e=>by
  have e:=Option.some.inj (show some _=some p from e)
  subst e
  exact⟨b.2,by show some b=_;rw[h.1]⟩
 |_,_,i+1,p,.cons h t,e=>Zx (i:=i) t e
theorem Zy {P:Program}{w:World}{k:Key}{u:Value}(h:(cJ P w).is k u=true):RelV (kV k) u:=by
 have h:pH k u=true:=h
 rcases lW h with⟨i,t,rfl,rfl⟩|⟨x,t,rfl,rfl⟩
 . exact⟨t,rfl⟩
 . exact⟨t,rfl⟩
theorem ahg {P:Program}{w:World}{K:W.Frag}{tg:Expr}{a it:Addr}{o:Obj}{kvs:List (Key × V)}{vs:List (Key × Value)}{ep:Nat}(rel:KV kvs vs)(ha:∀h:Heap,h.get? a=some o->h.DictAt (cJ P w) a vs ep):
 Turn P w K tg (Zw a o kvs) [it] it (λi h=>h.IsKeyIter it a i vs.length ep) where
 mem:=by simp
 obj:=λi h st b hb=>by
  have e:b=it:=by simpa using hb
  subst e
  obtain⟨o,e,c,d⟩:=st
  exact⟨o,e,λv z=>by rw[d] at z;cases z⟩
 keep:=λi h h' st k=>st.at λo e=>k it (by simp) o e
 item:=by
  intro X hP hw hK hc i pins s σ H E I hf st hg
  subst hP hw hK
  obtain⟨hi,hfz⟩:=hg
  obtain⟨hao,_⟩:=I.hok a _ hfz
  have hp:kvs[i]? =some kvs[i]:=Q05 hi
  obtain⟨v,hv⟩:=Zx rel hp
  obtain⟨f0,f1,f2,f3,f4,f5⟩:=hf it (by simp)
  refine wpAny_pyNext_dict_item st (ha _ hao) hv λkey h' hk st' sb=>?_
  have I1:Inv X pins σ H { s with heap:=h' }:=I.turned (t':=s.toks) (λb o hb e=>(sb.2 b hb).trans e) f0 f1 f3 f4 f5
  obtain⟨o,e,c,d⟩:=id st'
  exact⟨key,rfl,zT (s:={ s with heap:=h' }) e c d (by decide) ⟨kV kvs[i].1,H,I1,Zy hk,⟨rfl,_,hp,rfl⟩,st',λb hb=>(hf b hb).1⟩⟩
 done:=by
  intro X hP hw hK hc i pins s σ H E I hf st hg
  subst hP hw hK
  obtain⟨hi,hfz⟩:=hg
  obtain⟨hao,_⟩:=I.hok a _ hfz
  obtain⟨f0,f1,f2,f3,f4,f5⟩:=hf it (by simp)
  have hl:=Paired.length rel
  exact wpAny_pyNext_dict_end (I.ok.hd hc) st (ha _ hao) (Q2u (by omega)) λh' eb=>⟨rfl,I.turned (t':=s.toks) (λb o hb e=>eb b o hb e) f0 f1 f3 f4 f5⟩
 self:=λ_ _ _ _ _ st h=>wpAny_pyIter_keyiter st h
section
variable {X:Cx}{tg:Expr}
noncomputable def wZ (H0:Hp) (a:Addr):Prop:=∀o u,H0 a≠some (.cu o u)
noncomputable def Zz (H0:Hp) (tl:TE):TI:=λσ H R=>tl σ H λx H1=>∃a kvs,x=.ref a/\H1 a=some (.dK kvs)/\∀o,wZ H0 a->R (Zw a o kvs) (upd H1 a (.cu o (.dK kvs)))
theorem Inv.freeze {pins:List (Addr × Obj)}{σ:St}{H:Hp}{s:Shared}{a:Addr}{kvs:List (Key × V)}(I:Inv X pins σ H s)(h:H a=some (.dK kvs)):
 ∃o vs ep,KV kvs vs/\(a == sysModules)=false/\s.heap.get? a=some o/\(∀h:Heap,h.get? a=some o->h.DictAt (cJ X.prog X.w) a vs ep)/\wZ X.H₀ a/\Inv X pins σ (upd H a (.cu o (.dK kvs))) s:=by
 obtain⟨z,hd,vs,rel,o,es,ep,e1,e2⟩:=id (I.hok a _ h)
 refine⟨o,vs,ep,rel,hd,e1,λh' e=>⟨o,es,e,e2⟩,λo' u z'=>?_,?_⟩
 . have:=I.base.gZ a o' u z'
   rw[h] at this;cases this
 . have u:Un X.fs [] H (upd H a (.cu o (.dK kvs))) s.heap s.heap:=Un.write (x:=a) (e:=a) (by rw[h];trivial) (.inl rfl) (λb u _ q=>q) ⟨o,e1⟩
   refine I.un (t':=s.toks) u λb v e=>?_
   by_cases hb:b=a
   . subst hb
     rw[aF] at e
     cases e
     exact⟨e1,z,hd,vs,rel,o,es,ep,e1,e2⟩
   . rw[au hb] at e
     exact(I.hok b v e).stay (λc w _ q=>q) (λc q=>by rw[au (λz'=>by rw[z',h] at q;cases q)];exact q) λc xs q=>by rw[au (λz'=>by rw[z',h] at q;cases q)];exact q
theorem Inv.Ib {pins:List (Addr × Obj)}{σ:St}{H:Hp}{s:Shared}{a:Addr}{o:Obj}{kvs:List (Key × V)}(I:Inv X pins σ H s)(h:H a=some (.cu o (.dK kvs)))(hz:wZ X.H₀ a):Inv X pins σ (upd H a (.dK kvs)) s:=by
 have nn:∀{b:Addr},H b=none->upd H a (.dK kvs) b=none:=λ{b} e=>by rw[au (λz=>by rw[z,h] at e;cases e)];exact e
 refine⟨I.ok,I.os,I.bare,⟨I.base.keep,I.base.slot,λb u q n hx=>nn (I.base.free b u q n hx),I.base.there,λb xs q=>?_,λb o' u q=>?_,λb ps q=>?_⟩,I.loc,I.cell,nn I.free,λx c e=>nn (I.fO x c e),λp hp=>?_,λb v e=>?_,I.len⟩
 . have:=I.base.tups b xs q
   rw[au (λz=>by rw[z,h] at this;cases this)];exact this
 . have:=I.base.gZ b o' u q
   rw[au (λz=>hz o' u (by rw[<-z];exact q))];exact this
 . obtain⟨more,this⟩:=I.base.iw b ps q
   exact⟨more,by rw[au (λz=>by rw[z,h] at this;cases this)];exact this⟩
 . obtain⟨p1,p2,p3⟩:=I.pin p hp
   exact⟨p1,nn p2,p3⟩
 . by_cases hb:b=a
   . subst hb
     rw[aF] at e
     cases e
     exact(I.hok b _ h).2
   . rw[au hb] at e
     exact(I.hok b v e).stay (λc w _ q=>q) (λc q=>by rw[au (λz'=>by rw[z',h] at q;cases q)];exact q) λc xs q=>by rw[au (λz'=>by rw[z',h] at q;cases q)];exact q
theorem ahh {l:Expr}{tl:TE}(hl:PE X l tl):PI X tg l (Zz X.H₀ tl):=by
 intro pins s σ H R I h
 refine aM (hl pins s σ H _ I h) λv s1 ⟨x,H1,I1,r1,q1⟩=>?_
 obtain⟨a,kvs,e,hq,q⟩:=q1
 subst e
 cases r1
 obtain⟨o,vs,ep,rel,hs,hao,hda,hz,I2⟩:=I1.freeze hq
 refine wpAny_pyIter_dict hs (hda _ hao) ?_
 refine⟨s1.heap.objs.size,[s1.heap.objs.size],_,_,upd H1 a (.cu o (.dK kvs)),rfl,I2.kept (t':=s1.toks) λb o e=>Q04 _ e,ahg rel hda,⟨_,Q0d _ rfl,rfl,rfl⟩,λb hb=>?_,q o hz⟩
 have e:b=s1.heap.objs.size:=by simpa using hb
 subst e
 exact I2.mq (Q01 _) (I2.hok.fresh (Q01 _))
theorem ahi {H0:Hp}(h0:X.H₀=H0){l:Expr}{tl:TE}(hl:PE X l tl):PI X tg l (Zz H0 tl):=by
 subst h0
 exact ahh hl
noncomputable def ahj (H0:Hp) (t:TE):TE:=λσ H Q=>t σ H λv H'=>∃a o kvs,wZ H0 a/\H' a=some (.cu o (.dK kvs))/\Q v (upd H' a (.dK kvs))
theorem ZC {H0:Hp}(h0:X.H₀=H0){e:Expr}{t:TE}(h:PE X e t):PE X e (ahj H0 t):=by
 subst h0
 intro pins s σ H Q I q
 refine aM (h pins s σ H _ I q) λv s1 ⟨x,H1,I1,r1,q1⟩=>?_
 obtain⟨a,o,kvs,hz,ha,q1⟩:=q1
 exact⟨x,_,I1.Ib ha hz,r1,q1⟩
end
section
variable {prog:Program}{w:World}{A:Around}{E:Value->Shared->Prop}{s:Shared}
theorem Ie {j a:Addr}{i:Nat}{vs:Array Value}{v:Value}{Q:Value->Shared->Prop}(h1:s.heap.IsTupleIter j a i)(h2:s.heap.IsTuple a vs)(hv:vs[i]? =some v)(q:∀h',h'.IsTupleIter j a (i+1)->Heap.SameBut j s.heap h'->Q v { s with heap:=h' }):
 wpAny (model prog w) A (Builtin.SmallTypes.nextOf (.ref j)) Q E s:=by
 obtain⟨ob,g1,g2,g3⟩:=id h1
 obtain⟨ot,k1,_,nt,k2⟩:=h2
 unfold Builtin.SmallTypes.nextOf;refine Q00 (wpAny_callSpecial?_slot (name:=Str.ofString "__next__") h1.typeIs F.slot_tuple_iterator_next (wpAny_call_entry F.slot_tuple_iterator_next h1.typeIs F.entry_tuple_iterator_next ?_ (F.args_tuple_iterator_next_1 _)))
 show wpAny _ _ (field (.ref j) 0 >>= _) _ _ s;refine Q00 (wpAny_field g1 g3 (x:=.ref a) rfl ?_)
 show wpAny _ _ (if(Value.ref a == Value.none)=true then _ else _) _ _ s;rw[if_neg (show ¬((Value.ref a == Value.none)=true) from Bool.false_ne_true)]
 show wpAny _ _ (field (.ref j) 1 >>= _) _ _ s;refine Q00 (wpAny_field g1 g3 (x:=.int i 0) rfl ?_)
 show wpAny _ _ (seqItems? (.ref a) >>= _) _ _ s;refine Q00 (wpAny_seqItems k1 k2 ?_)
 simp only[Q1v,hv];refine Q00 (wpAny_setField g1 g3 (by simp) (Q03 ⟨v,rfl,Q03 (q _ ?_ (Heap.SameBut.update ..))⟩))
 exact⟨_,Q18 _ g1 (Obj.isFreed_of_fields (Obj.data_mapFields g3 _)),(Obj.cls_mapFields ..).trans g2,by rw[Obj.data_mapFields g3];simp[rawInt]⟩
theorem ZD {j a:Addr}{i:Nat}{vs:Array Value}{Q:Value->Shared->Prop}(h0:A.handled=none)(h1:s.heap.IsTupleIter j a i)(h2:s.heap.IsTuple a vs)(hv:vs[i]? =none)
 (q:∀h' e,Heap.ExtBut j s.heap h'->(∃o,h'.get? e=some o/\o.cls=.type "StopIteration")->E (.ref e) { s with heap:=h' }):wpAny (model prog w) A (Builtin.SmallTypes.nextOf (.ref j)) Q E s:=by
 obtain⟨ob,g1,g2,g3⟩:=id h1
 obtain⟨ot,k1,_,nt,k2⟩:=h2
 unfold Builtin.SmallTypes.nextOf;refine Q00 (wpAny_callSpecial?_slot (name:=Str.ofString "__next__") h1.typeIs F.slot_tuple_iterator_next (wpAny_call_entry F.slot_tuple_iterator_next h1.typeIs F.entry_tuple_iterator_next ?_ (F.args_tuple_iterator_next_1 _)))
 show wpAny _ _ (field (.ref j) 0 >>= _) _ _ s;refine Q00 (wpAny_field g1 g3 (x:=.ref a) rfl ?_)
 show wpAny _ _ (if(Value.ref a == Value.none)=true then _ else _) _ _ s;rw[if_neg (show ¬((Value.ref a == Value.none)=true) from Bool.false_ne_true)]
 show wpAny _ _ (field (.ref j) 1 >>= _) _ _ s;refine Q00 (wpAny_field g1 g3 (x:=.int i 0) rfl ?_)
 show wpAny _ _ (seqItems? (.ref a) >>= _) _ _ s;refine Q00 (wpAny_seqItems k1 k2 ?_)
 simp only[Q1v,hv];refine Q00 (wpAny_rule (Q00 (wpAny_setField g1 g3 (by simp) ?_)))
 show wpAny _ _ (newExc (.type "StopIteration") [] >>= _) _ _ _;refine Q00 ?_;simp only[newExc,newTuple];refine Q00 (wpAny_newObj_type ?_ (by size_fits))
 refine Q00 (m:=firstArgMember _ _) (wpAny_of_eq (a:=Value.none) (by first|rfl|(simp only[firstArgMember];rfl)) ?_);refine wpAny_newObj_type ?_ (by size_fits);simp only[raiseNew];refine Q00 (wpAny_handled ?_)
 (first|rw[show A.in1.handled=none from h0]|rw[h0]);refine Q00 (Q03 (wpAny_throw ?_))
 exact q _ _ (((Heap.SameBut.update ..).extBut.push _).push _) ⟨_,Q0d _ rfl,rfl⟩
end
section
variable {X:Cx}
end
end L2
namespace Pb
open PySem L2
end Pb
namespace L2
open PySem PySem.Spec PyProof.Rows
section
variable {X:Cx}
theorem w5:gU X (.type "dict") (λxs H Q=>∃a kvs,xs=[.ref a]/\H a=some (.dK kvs)/\∀l,H l=none->Q (.ref l) (upd H l (.dK kvs))):=by
 intro pins s σ H xs us Q I r h
 obtain⟨a,kvs,rfl,hH,q⟩:=h
 obtain⟨u,rfl,ru⟩:=vals1 r
 cases ru
 obtain⟨z,sm,vs,kv,dd⟩:=wD I.hok hH
 refine kt_call_dict sm dd (by rw[<-kv.length];exact z) λh' hd hs=>?_
 have hb:(s.heap.objs.size == sysModules)=false:=beq_eq_false_iff_ne.mpr (Q0n I.big)
 refine⟨.ref s.heap.objs.size,_,I.laid (a:=s.heap.objs.size) (o:=.dK kvs) (t':=s.toks) (λb o e=>?_) (Q01 _) ⟨z,hb,vs,kv,hd⟩,rfl,q _ (I.hok.fresh (Q01 _))⟩
 exact hs.extBut b o (Q09 (Q02 e)) (Q04 _ e)
end
theorem ahk:typeLookup (.type "list") "keys"=pure none:=am_miss_of_fast (by kernel_rfl)
theorem ahl {prog:Program}{w:World}{A:Around}{E:Value->Shared->Prop}{s:Shared}{a:Addr}{xs:Array Value}{k:Nat}{sl:Array (Option Value)}{Q:Option Value->Shared->Prop}
 (hx:s.heap.get? a=some { cls:=.type "list",dict:=none,data:=.seq xs k,slots:=sl }) (hA:A.handled=none)
 (h:∀h' tk,(∀b ob,s.heap.get? b=some ob->h'.get? b=some ob)->Q none { s with heap:=h',toks:=tk }):
 wpAny (model prog w) A (getAttr? (.ref a) "keys") Q E s:=by
 obtain⟨hp,g,d,tk,os⟩:=s
 have hT:∀tk',(⟨hp,g,d,tk',os⟩:Shared).TypeIs (.ref a) "list":=λ_=>⟨_,hx,rfl⟩
 have f1:=sub_AttributeError
 have f3:=F.slot_list_getattribute.lookup
 have f4:=F.slot_list_getattribute.bind (.ref a)
 have f5:=am_list_getattr_none
 unfold getAttr? getAttrBy? getAttrBy
 repeat (any_goals (first|assumption|exact hT _|((with_reducible show wpAny _ _ (call (Value.builtin "list.__getattribute__") _ _) _ _ _);refine call_meets F.slot_list_getattribute (hT _) am_entry_list_getattribute (F.args_list_getattribute_2 _ _) (meets_getattribute_miss_list a xs k sl "keys" _ ahk (by decide+kernel) (by size_fits)) ⟨hx,hA,λh' tk' e hx'=>?_⟩)|wp_step))
 obtain⟨t',u',he⟩:=hx'.there
 show wpAny _ _ (getattributeRaised _ _ _ _ _ _ _) _ _ _
 unfold getattributeRaised
 repeat (any_goals (first|assumption|wp_step))
 exact h h' tk' hx'.keeps
theorem pZ {a b:String}(h:a≠b):Value.type a≠Value.type b:=λz=>h (by injection z)
theorem ZF:entryFor table "dict.update.loop"=some Builtin.«dict.update.loop»:=entryFor_of_tree (by kernel_rfl)
theorem Bf:plainId "dict.update.loop"=true:=by decide+kernel
section
variable {prog:Program}{w:World}{K:Type} [DecidableEq K]{knd:KeyKind prog w K}{A:Around}{E:Value->Shared->Prop}{s:Shared}
structure tY (knd:KeyKind prog w K) (h:Heap) (ts:List Addr) (ps:List (K × Value)):Prop where
 len:ts.length=ps.length
 at_:∀(i:Nat) t p,ts[i]? =some t->ps[i]? =some p->∃u,knd.is p.1 u=true/\IsTup h t #[u,p.2]
theorem tY.keep {h h':Heap}{ts:List Addr}{ps:List (K × Value)}(x:tY knd h ts ps)(k:∀b o,o.cls=.type "tuple"->h.get? b=some o->h'.get? b=some o):tY knd h' ts ps:=
 ⟨x.len,λi t p ht hp=>by
   obtain⟨u,hu,o,e,c,d⟩:=x.at_ i t p ht hp
   exact⟨u,hu,o,k _ _ c e,c,d⟩⟩
theorem ahm (hh:A.handled=none)(d I l:Addr)(ts:List Addr)(ps:List (K × Value))(hn:(ps.map (·.1)).Nodup)(hz:ps.length<=sizeLine){R:Result->Shared->Prop}:
 ∀(k i:Nat) (s:Shared),ps.length - i=k->i<=ps.length->s.heap.IsListIter I l i->s.heap.IsList l (ts.map Value.ref).toArray->tY knd s.heap ts ps->s.heap.DictOf knd d (ps.take i)->
  (∀h' tk,(∀b o,b≠d->b≠I->s.heap.get? b=some o->h'.get? b=some o)->h'.DictOf knd d ps->R (.ok (.ret .none)) { s with heap:=h',toks:=tk })->
  codeAny (model prog w) A (.builtin "dict.update.loop" ⟨[.ref d,.ref I,rawInt (i:Int),.none],[]⟩) R s:=by
 intro k
 induction k with
 |zero=>
  intro i s hk hi hit hl hp hd hR
  have hin:i=ps.length:=by omega
  subst hin
  refine codeAny_builtin ZF ?_
  rw[Around.under_plainId Bf _]
  show wpAny _ A.in1 (pyNext (.ref I) >>= _) _ _ s
  refine Q00 (wpAny_pyNext_list_end hh hit hl (by simp[hp.len]) λh' eb=>?_)
  rw[Q1b] at hd
  obtain⟨od,es,ep,hg,hc,r⟩:=id hd
  have hdI:d≠I:=λz=>by
   obtain⟨oi,hgi,lG,_⟩:=hit
   rw[z,hgi] at hg;cases hg
   have hc:=hc.1
   rw[lG] at hc;exact absurd hc (pZ (by decide))
  exact Q00 (Q03 (Q03 (hR h' s.toks (λb o _ hb e=>eb b o hb e) (hd.extBut eb hdI))))
 |succ k ih=>
  intro i s hk hi hit hl hp hd hR
  have hlt:i<ps.length:=by omega
  have hps:ps[i]? =some ps[i]:=Q05 hlt
  have hts:ts[i]? =some (ts[i]'(by rw[hp.len];exact hlt)):=Q05 _
  obtain⟨u,hu,o,ho,hc,n,hda⟩:=hp.at_ i _ _ hts hps
  refine codeAny_builtin ZF ?_
  rw[Around.under_plainId Bf _]
  show wpAny _ A.in1 (pyNext (.ref I) >>= _) _ _ s
  refine Q00 (wpAny_pyNext_list_item hit hl (x:=.ref (ts[i]'(by rw[hp.len];exact hlt))) (by simp[hts]) λh' hit' sb=>?_)
  have hdI:d≠I:=λz=>by
   obtain⟨od,es,ep,hg,hc,r⟩:=id hd
   obtain⟨oi,hgi,lG,_⟩:=hit
   rw[z,hgi] at hg;cases hg
   have hc:=hc.1
   rw[lG] at hc;exact absurd hc (pZ (by decide))
  have Ig:∀b o,o.cls≠ .type "list_iterator"->s.heap.get? b=some o->b≠I:=λb o hne e z=>by
   obtain⟨oi,hgi,lG,_⟩:=hit
   rw[z,hgi] at e;cases e
   exact hne lG
  have hcd:∀b o,o.cls≠ .type "dict"->s.heap.get? b=some o->b≠d:=λb o hne e z=>by
   obtain⟨od,es,ep,hg,hc,r⟩:=id hd
   rw[z,hg] at e;cases e
   exact hne hc.1
  have k1:∀b o,o.cls≠ .type "list_iterator"->s.heap.get? b=some o->h'.get? b=some o:=λb o hne e=>(sb.2 b (Ig b o hne e)).trans e
  have ho':=k1 _ _ (by rw[hc];exact pZ (by decide)) ho
  have hd':h'.DictOf knd d (ps.take i):=by
   obtain⟨od,es,ep,hg,hc,r⟩:=id hd
   exact⟨od,es,ep,k1 _ _ (by rw[hc.1];exact pZ (by decide)) hg,hc,r⟩
  dsimp only
  refine Q00 (wpAny_holding (Q00 (wpAny_tryCatch ?_)))
  unfold Builtin.Dict.pairItems
  refine Q00 (wpAny_typeOf (T:="tuple") ⟨_,ho',hc⟩ ?_)
  rw[if_pos (by decide)]
  refine Q00 (wpAny_seqItems ho' hda (Q03 ?_))
  show wpAny _ _ (holding [u,ps[i].2] (dictSet d u ps[i].2)) _ _ _
  refine wpAny_holding (wpAny_dictSet_pairs hu hd' (λh'' hd'' ahn=>?_) (by rw[Q0o];omega))
  refine Q03 ⟨plainId_quiet Bf _,?_⟩
  have k2:∀b o,b≠d->h'.get? b=some o->h''.get? b=some o:=λb o hb e=>(ahn.2 b hb).trans e
  have k12:∀b o,o.cls≠ .type "list_iterator"->o.cls≠ .type "dict"->s.heap.get? b=some o->h''.get? b=some o:=λb o h1 h2 e=>k2 b o (hcd b o h2 e) (k1 b o h1 e)
  refine ih (i+1) { s with heap:=h'',toks:=s.toks+1 } (by omega) (by omega) ?_ ?_ ?_ ?_ ?_
  . obtain⟨oi,hgi,lG,r⟩:=hit'
    exact⟨oi,k2 _ _ (Ne.symm hdI) hgi,lG,r⟩
  . obtain⟨ol,hgl,hcl,r⟩:=hl
    exact⟨ol,k12 _ _ (by rw[hcl];exact pZ (by decide)) (by rw[hcl];exact pZ (by decide)) hgl,hcl,r⟩
  . exact hp.keep λb o h1 e=>k12 b o (by rw[h1];exact pZ (by decide)) (by rw[h1];exact pZ (by decide)) e
  . have e1:stored (ps.take i) ps[i].1 ps[i].2=ps.take (i+1):=by
     rw[stored_absent ?_]
     . rw[Q0u,hps];rfl
     . cases hv:valueAt (ps.take i) ps[i].1 with
       |none=>rfl
       |some v=>
        exfalso
        have hm:ps[i].1∈(ps.take i).map (·.1):=by
         unfold valueAt at hv
         obtain⟨q,hq,_⟩:=Option.map_eq_some_iff.mp hv
         have h1:=List.find?_some hq
         have h2:=List.mem_of_find?_eq_some hq
         exact List.mem_map.mpr ⟨q,h2,by simpa using h1⟩
        obtain⟨q,hq,e⟩:=List.mem_map.mp hm
        obtain⟨j,hj,ej⟩:=Q1h hq
        rw[Q0o] at hj
        rw[Q28] at ej
        have hji:j<i:=by omega
        have:=List.pairwise_iff_getElem.mp hn j i (by rw[Q06];omega) (by rw[Q06];exact hlt) hji
        rw[Q1l,Q1l,ej] at this
        exact this e
    rw[<-e1]
    exact hd''
  . intro h3 tk keep w6
    exact hR h3 tk (λb o hb hI e=>keep b o hb hI (k2 b o hb ((sb.2 b hI).trans e))) w6
theorem ahp {ax:Addr}{ts:List Addr}{ps:List (K × Value)}{Q:Value->Shared->Prop}(hh:A.handled=none)(hl:PlainL s.heap ax (ts.map Value.ref).toArray)(hp:tY knd s.heap ts ps)(hn:(ps.map (·.1)).Nodup)(hz:ps.length<=sizeLine)
 (h:∀h' tk,h'.DictOf knd s.heap.objs.size ps->(∀b o,s.heap.get? b=some o->h'.get? b=some o)->Q (.ref s.heap.objs.size) { s with heap:=h',toks:=tk }):
 wpAny (model prog w) A (call (.type "dict") [.ref ax]) Q E s:=by
 refine callType_codes (Q₁:=λobj s₁=>obj=.ref s.heap.objs.size/\s₁={ s with heap:=s.heap.push { cls:=.type "dict",data:=.dict #[] } }) F.kt_called_dict (F.kt_typeCall_dict_1 _) F.entry_dict_init (kt_code_dict_new _ ⟨rfl,rfl⟩) ?_
 rintro obj s₁ ⟨rfl,rfl⟩
 have hnew:(s.heap.push { cls:=.type "dict",data:=.dict #[] }).DictOf knd s.heap.objs.size []:=Heap.DictOf.new s.heap
 have kp:∀b o,s.heap.get? b=some o->(s.heap.push { cls:=.type "dict",data:=.dict #[] }).get? b=some o:=λb o e=>Q04 _ e
 obtain⟨⟨oc,od,oda,osl⟩,n,hg,hc,hdi,hda⟩:=hl
 dsimp only at hc hdi hda
 subst hc
 subst hdi
 subst hda
 refine⟨hnew.typeIs,F.args_dict_init_2 _ _,?_⟩
 unfold Builtin.«dict.__init__»
 refine Q00 ?_
 unfold Builtin.Dict.selfAndRest
 refine Q00 (wpAny_notOrdered_dict hnew.typeIs ?_)
 show wpAny _ _ (pure (s.heap.objs.size,[Value.ref ax])) _ _ _
 refine Q03 ?_
 show wpAny _ _ (Builtin.Dict.updateFrom "dict.__init__" s.heap.objs.size (.ref ax) [] .none) _ _ _
 unfold Builtin.Dict.updateFrom
 refine Q00 (wpAny_typeOf (T:="list") ⟨_,kp _ _ hg,rfl⟩ ?_)
 rw[if_pos (by decide)]
 refine Q00 (ahl (kp _ _ hg) hh λh1 tk1 k1=>?_)
 rw[if_pos (show(none:Option Value).isNone=true from rfl)]
 refine Q00 (wpAny_rule ?_)
 refine Q00 (wpAny_pyIter_list (items:=(ts.map Value.ref).toArray) ⟨_,k1 _ _ (kp _ _ hg),rfl,n,rfl⟩ ?_)
 refine Q03 ⟨plainId_quiet Bf _,?_⟩
 have k2:∀b o,s.heap.get? b=some o->(h1.push { cls:=.type "list_iterator",data:=.fields #[.ref ax,.int 0 0] }).get? b=some o:=λb o e=>Q04 _ (k1 _ _ (kp _ _ e))
 have hd1:h1.DictOf knd s.heap.objs.size []:=hnew.keep k1
 refine ahm (A:=A.in1) hh s.heap.objs.size h1.objs.size ax ts ps hn hz ps.length 0 _ (Nat.sub_zero _) (Q0b _) ⟨_,Q0d _ rfl,rfl,rfl⟩ ⟨_,k2 _ _ hg,rfl,n,rfl⟩ (hp.keep λb o _ e=>k2 b o e) (hd1.keep λb o e=>Q04 _ e) λh' tk keep hd'=>?_
 refine⟨rfl,h h' tk hd' λb o e=>keep b o (Q09 (Q02 e)) (λz=>?_) (k2 b o e)⟩
 have:=Q02 (k1 _ _ (kp _ _ e))
 rw[z] at this
 exact Q0l _ this
end
section
variable {X:Cx}
theorem ahq {k:Key}{u:Value}(h:RelV (kV k) u):pH k u=true:=by
 cases k with
 |inl i=>obtain⟨t,rfl⟩:=h;show(i == i)=true;simp
 |inr s=>obtain⟨t,rfl⟩:=h;show(s == s)=true;simp
theorem ZG:∀{cs:List Addr}{its:List Value},Vals (cs.map V.ref) its->its=cs.map Value.ref
 |[],_,h=>by cases h;rfl
 |c::r,_,h=>by
  cases h with
  |cons h t=>rw[ZG (cs:=r) t,show _=Value.ref c from h];rfl
theorem ZJ {pins:List (Addr × Obj)}{σ:St}{H:Hp}{s:Shared}(I:Inv X pins σ H s):∀(ts:List Addr) (kvs:List (Key × V)),ts.length=kvs.length->(∀(i:Nat) t p,ts[i]? =some t->kvs[i]? =some p->H t=some (.tup [kV p.1,p.2]))->∃ps:List (Key × Value),KV kvs ps/\tY (cJ X.prog X.w) s.heap ts ps
 |[],[],_,_=>⟨[],.nil,rfl,λi t p h=>by simp at h⟩
 |t::ts,p::kvs,hl,h=>by
  obtain⟨ps,h1,h2⟩:=ZJ I ts kvs (by simpa using hl) λi t' p' a b=>h (i+1) t' p' a b
  obtain⟨its,rv,tp,_⟩:=I.tuple (aH.of (h 0 t p rfl rfl))
  obtain⟨u1,u2,rfl,r1,r2⟩:=vals2 rv
  refine⟨(p.1,u2)::ps,.cons ⟨rfl,r2⟩ h1,by rw[Q0r,Q0r,h2.len],λi t' p' a b=>?_⟩
  cases i with
  |zero=>
   have a:some t=some t':=a
   have b:some (p.1,u2)=some p':=b
   cases a
   cases b
   exact⟨u1,ahq r1,tp⟩
  |succ i=>exact h2.at_ i t' p' a b
theorem ZK:∀{kvs:List (Key × V)}{ps:List (Key × Value)},KV kvs ps->ps.map (·.1)=kvs.map (·.1)
 |_,_,.nil=>rfl
 |_,_,.cons h t=>by rw[Q0v,Q0v,ZK t,h.1]
noncomputable def ahr (K:W.Frag):List V->Hp->VK->Prop:=λxs H Q=>∃a,∃ts:List Addr,∃kvs:List (Key × V),xs=[.ref a]/\aC K H a (ts.map V.ref)/\ts.length=kvs.length/\(∀(i:Nat) t p,ts[i]? =some t->kvs[i]? =some p->H t=some (.tup [kV p.1,p.2]))/\(kvs.map (·.1)).Nodup/\kvs.length<=100/\∀l,H l=none->Q (.ref l) (upd H l (.dK kvs))
theorem ZL (hc:X.calm=true):gU X (.type "dict") (ahr X.K):=by
 intro pins s σ H xs us Q I r h
 obtain⟨a,ts,kvs,rfl,hq,hlen,hat,hn,h100,q⟩:=h
 obtain⟨u,rfl,ru⟩:=vals1 r
 cases ru
 obtain⟨its,rv,pl,hz⟩:=I.list hq
 obtain rfl:=ZG rv
 obtain⟨ps,kv,hp⟩:=ZJ I ts kvs hlen hat
 have ZM:kvs.length<=sizeLine:=Q0m (cP (by omega))
 refine ahp (I.ok.hd hc) pl hp (by rw[ZK kv];exact hn) (by rw[<-kv.length];exact ZM) λh' tk hd hk=>?_
 have hb:(s.heap.objs.size == sysModules)=false:=beq_eq_false_iff_ne.mpr (Q0n I.big)
 exact⟨.ref s.heap.objs.size,_,I.laid (a:=s.heap.objs.size) (o:=.dK kvs) (t':=tk) hk (Q01 _) ⟨ZM,hb,ps,kv,hd⟩,rfl,q _ (I.hok.fresh (Q01 _))⟩
end
noncomputable def qd (h:Heap) (C fI:Addr) (gC:List Value) (nid:String):Prop:=
 ∃tl N nm q bs hdct sn sub ab col dd k0 k1 k2 k3 k5 mN oI,h.get? C=some (excClassObj nm q C N bs tl hdct sn sub ab col dd k0 k1 k2 k3 k5 nid)/\h.Ns N mN/\mN "__init__"=some (.ref fI)/\OwnTail h gC tl/\h.get? fI=some oI/\oI.cls=.type "function"
theorem qd.keeps {h h':Heap}{C fI:Addr}{gC:List Value}{nid:String}(x:qd h C fI gC nid)(k:∀b o,h.get? b=some o->h'.get? b=some o):qd h' C fI gC nid:=by
 obtain⟨tl,N,nm,q,bs,hdct,sn,sub,ab,col,dd,k0,k1,k2,k3,k5,mN,oI,h1,h2,h3,h4,h5,h6⟩:=x
 exact⟨tl,N,nm,q,bs,hdct,sn,sub,ab,col,dd,k0,k1,k2,k3,k5,mN,oI,k _ _ h1,h2.keeps k,h3,h4.keeps k,k _ _ h5,h6⟩
section
variable {prog:Program}{w:World}{A:Around}{E:Value->Shared->Prop}{hp:Heap}{g:Array GenState}{dr:Drawn}{tk:Nat}{os:OsState}{C fI:Addr}{gC:List Value}{B nid Bg:String}
theorem ahs (FB:ExcBaseFacts B nid Bg gC){us:List Value}{Q:Fin->Shared->Prop}(x:qd hp C fI gC nid)
 (q1:∀h' e,Heap.MadeExcOf hp h' e (.ref C) us->wpAny (model prog w) A (call (.ref fI) (.ref e::us)) (λr s'=>r=.none/\Q (.done (.ret (.ref e))) s') E ⟨h',g,dr,tk,os⟩) (hl:us.length<=sizeLine):
 wpAny (model prog w) A (Builtin.«type.__call__» ⟨.ref C::us,[]⟩) Q E ⟨hp,g,dr,tk,os⟩:=by
 obtain⟨tl,N,nm,q,bs,hdct,sn,sub,ab,col,dd,k0,k1,k2,k3,k5,mN,oI,cl,ns,ini,tail,ZP,fty⟩:=x
 repeat (first|with_reducible refine wpAny_loadPart_at cl ?_|with_reducible refine wpAny_madeBy_exc cl ?_|wp_step)
 refine codeAny_call_builtin_code (Code.quiet_builtin _ FB.quiet) (wpAny_check_new_subT FB tail cl (codeAny_exc_new_subT FB tail cl ?_ hl))
 show wpAny _ _ _ _ _ _
 generalize hO1:({ cls:=.type "tuple",data:=.seq us.toArray }:Obj)=o1
 generalize Ih:({ cls:=.ref C,data:=.fields #[.ref hp.objs.size,.none,.none,.none,.bool false,.none] }:Obj)=o2
 have up:∀b o,hp.get? b=some o->((hp.push o1).push o2).get? b=some o:=λb o e=>Q04 _ (Q04 _ e)
 have ZQ:=up _ _ cl
 have ns':((hp.push o1).push o2).Ns N mN:=ns.keeps up
 have ahu:=up _ _ ZP
 have tail':=tail.keeps up
 have ex:((hp.push o1).push o2).get? (hp.objs.size+1)=some o2:=by
  subst Ih
  exact Q29 (by rw[Q0w]) rfl
 have ecl:o2.cls=.ref C:=by rw[<-Ih]
 have inC:(Value.ref C::tl).contains (.ref C)=true:=by simp
 unfold isInstance
 repeat (first|(with_reducible refine wpAny_loadPart_at ex ?_;rw[ecl])|(with_reducible refine wpAny_isSubtype_exc ZQ ?_;rw[inC])|wp_step)
 show wpAny _ _ (typeLookup (.ref C) _) _ _ _
 refine wpAny_typeLookup_tail ZQ ns' tail' FB.mroIs FB.init.lookup ?_
 rw[ini]
 refine wpAny_holding (Q00 ?_)
 unfold bindSpecial
 refine Q00 (wpAny_typeOf (T:="function") ⟨_,ahu,fty⟩ ?_)
 rw[if_pos (by decide)]
 refine Q03 (Q00 (Q0h (q1 _ (hp.objs.size+1) ⟨up,Q2 (Q13 _),hp.objs.size,?_,Q2 (Q01 _),?_⟩) (λr s' hr=>?_) λ_ _ z=>z))
 . rw[ex,<-Ih]
 . rw[<-hO1]
   exact Q04 _ (Q29 rfl rfl)
 . obtain⟨rfl,hQ⟩:=hr
   wp_walk
   exact hQ
theorem ahw (FB:ExcBaseFacts B nid Bg gC){us:List Value}{Q:Value->Shared->Prop}(x:qd hp C fI gC nid)
 (q1:∀h' e,Heap.MadeExcOf hp h' e (.ref C) us->wpAny (model prog w) (A.under (.builtin "type.__call__" ⟨.ref C::us,[]⟩)) (call (.ref fI) (.ref e::us)) (λr s'=>r=.none/\Q (.ref e) s') E ⟨h',g,dr,tk,os⟩) (hl:us.length<=sizeLine):
 wpAny (model prog w) A (call (.ref C) us) Q E ⟨hp,g,dr,tk,os⟩:=by
 have tl1:=tc_lookup
 have tl2:=tc_bind (.ref C)
 have x':=x
 obtain⟨tl,N,nm,q,bs,hdct,sn,sub,ab,col,dd,k0,k1,k2,k3,k5,mN,oI,cl,ns,ini,tail,ZP,fty⟩:=x'
 have ty:(⟨hp,g,dr,tk,os⟩:Shared).TypeIs (.ref C) "type":=⟨_,cl,rfl⟩
 refine wpAny_call (codeAny_of_tree ?_)
 show wpAny _ _ (callAny (.ref C) _) _ _ _
 repeat (any_goals (first|assumption|with_reducible refine wpAny_loadPart_at cl ?_|wp_step))
 exact⟨rfl,codeAny_call_builtin_at (Code.quiet_builtin _ (by decide+kernel)) entry_typeCall (wpAny_check_type_call_sub cl (ahs FB x (λh' e hm=>q1 h' e hm) hl))⟩
end
theorem ahx {M:Model}{A:Around}{E:Value->Shared->Prop}{env:Env}{s:Shared}{x:Sem Value}{Q:Flow->Shared->Prop}(hh:A.handled=none)
 (h:wpAny M A x (λv s1=>∃(e C:Addr) (oe:Obj) (t:Value) (r:Array Value),v=.ref e/\s1.heap.get? e=some oe/\oe.cls=.ref C/\oe.data=.fields #[t,.none,.none,.none,.bool false,.none]/\
   (∃tl N nm q bs hdct sn sub ab col dd k0 k1 k2 k3 k5 nid,s1.heap.get? C=some (excClassObj nm q C N bs tl hdct sn sub ab col dd k0 k1 k2 k3 k5 nid)/\tl.contains (.type "BaseException")=true)/\E (.ref e) s1) E s):
 wpAny M A (raiseStmt env (some x) none) Q E s:=by
 unfold raiseStmt
 refine Q00 (Q0h h (λv s1 h1=>?_) λ_ _ z=>z)
 obtain⟨e,C,oe,t,r,rfl,he,hc,hd,⟨tl,N,nm,q,bs,hdct,sn,sub,ab,col,dd,k0,k1,k2,k3,k5,nid,cl,hb⟩,hE⟩:=h1
 have inB:(Value.ref C::tl).contains (.type "BaseException")=true:=by rw[List.contains_cons,hb,Bool.or_true]
 obtain⟨hp,g,dr,tk,os⟩:=s1
 obtain⟨oc,od,oda,osl⟩:=oe
 have hc:oc=.ref C:=hc
 have hd:oda=.fields #[t,.none,.none,.none,.bool false,.none]:=hd
 subst hc
 subst hd
 repeat (first|with_reducible refine wpAny_loadPart_at he ?_|with_reducible refine wpAny_loadPart_at cl ?_|(with_reducible refine wpAny_isSubtype_exc cl ?_;rw[inB])|wp_step)
 exact wpAny_raiseNew_none hh hE
end L2
namespace L2
open PySem PySem.Spec PySem.Calls PyProof.Rows PySem.W PySem.Builtin PySem.Builtin.ObjectAttr
noncomputable def Bh:List Value->Bool
 | .ref _::r=>Bh r
 |l=>l == [.type "ValueError",.type "Exception",.type "BaseException",.type "object"]
theorem ZR {self:Value}:∀{l:List Value},Bh l=true->refuseLoop self "__setattr__" l=pure ()
 |[],h=>by cases h
 | .ref C::r,h=>by
   rw[refuseLoop_ref]
   exact ZR (l:=r) h
 | .type n::r,h=>by
   have e:Value.type n::r=[.type "ValueError",.type "Exception",.type "BaseException",.type "object"]:=beq_iff_eq.mp h
   rw[e]
   exact F.store_ValueError.passes self
 | .none::r,h=>by cases beq_iff_eq.mp (show(Value.none::r == _)=true from h)
 | .bool b::r,h=>by cases beq_iff_eq.mp (show(Value.bool b::r == _)=true from h)
 | .int i t::r,h=>by cases beq_iff_eq.mp (show(Value.int i t::r == _)=true from h)
 | .str x t::r,h=>by cases beq_iff_eq.mp (show(Value.str x t::r == _)=true from h)
 | .bytes x t::r,h=>by cases beq_iff_eq.mp (show(Value.bytes x t::r == _)=true from h)
 | .float x t::r,h=>by cases beq_iff_eq.mp (show(Value.float x t::r == _)=true from h)
 | .builtin x::r,h=>by cases beq_iff_eq.mp (show(Value.builtin x::r == _)=true from h)
 | .ellipsis::r,h=>by cases beq_iff_eq.mp (show(Value.ellipsis::r == _)=true from h)
 | .notImplemented::r,h=>by cases beq_iff_eq.mp (show(Value.notImplemented::r == _)=true from h)
structure qe (K:Frag) (C:Addr) (name:Str):Prop where
 sa:findIn K (.ref C) "__setattr__"=some (some (.builtin "object.__setattr__"))
 na:findIn K (.ref C) name=some none
 ob:mroIn K C (.type "object")=some true
 row:((clsIn K C).any λcd=>Bh cd.mro && cd.hasDict)=true
section
variable {prog:Program}{w:World}{A:Around}{E:Value->Shared->Prop}{s:Shared}{K:Frag}{x C:Addr}{ox:Obj}{name:Str}{v:Value}
theorem ahy {R:Result->Shared->Prop}{tk:Tok}(X:K.In s.heap)(Z:qe K C name)(hx:s.heap.get? x=some ox)(hc:ox.cls=.ref C)
 (h:wpAny (model prog w) A.in1 (storeInOwnDict (.ref x) (.ref C) (.str name tk) name v false) (λfin s'=>match fin with| .done f=>R (.ok f) s'| .again c'=>c'.quiet=true/\codeAny (model prog w) A c' R s') (λe s'=>R (.error e) s') s):
 codeAny (model prog w) A (.call (.builtin "object.__setattr__") ⟨[.ref x,.str name tk,v],[]⟩) R s:=by
 have SF:=PySem.F.store_object
 have L0:Looks (model prog w) s.heap (typeOf (.ref x)) (.ref C):=by
  have z:Looks (model prog w) s.heap (typeOf (.ref x)) ox.cls:=(Looks.ld hx).andThen .now
  rw[hc] at z
  exact z
 have Lo:Looks (model prog w) s.heap (isInstance (.ref x) (.type "object")) true:=L0.andThen (looks_mroIn X Z.ob)
 obtain⟨cd,hcd,hrow⟩:=any_some Z.row
 have hr:=(Bool.and_eq_true_iff.mp hrow).1
 have Lm:Looks (model prog w) s.heap (mroOf (.ref C)) cd.mro:=(looks_clsIn X hcd).andThen .now
 refine codeAny_call_builtin SF.slot.plain SF.entry (@check_slot (model prog w) _ _ s "object.__setattr__" "object" "__setattr__" (.ref x) [.str name tk,v] [] _ SF.kind SF.split Lo (SF.args (.ref x) (.str name tk) v) ?_)
 rw[osa_eq,refuse_eq]
 refine Q00 (Q00 (L0.here (Q00 (Lm.here ?_))))
 rw[ZR hr]
 refine Q03 (Q00 (L0.here (Q00 ((looks_findIn X Z.na).here (Q00 ?_)))))
 exact(show Looks (model prog w) s.heap (storeTaker? none) none from .now).here h
theorem ahz {Q:Unit->Shared->Prop}{vs:Array Value}(X:K.In s.heap)(Z:qe K C name)(hx:s.heap.get? x=some ox)(hc:ox.cls=.ref C)(hdn:ox.dict=none)(hd:ox.data=.fields vs)
 (h:∀h' tk',h'.Ns1 s.heap.objs.size (λy=>if y=name then some v else none)->h'.get? x=some { ox with dict:=some s.heap.objs.size }->(∀b o,b≠x->s.heap.get? b=some o->h'.get? b=some o)->Q () { s with heap:=h',toks:=tk' }):
 wpAny (model prog w) A (setAttr (.ref x) name v) Q E s:=by
 have I:InstAt s.heap x ox C none:=⟨hx,hc,by unfold notCls;rw[hd],by rw[hdn];trivial⟩
 refine set_plain X I Z.sa (ahy (s:={ s with toks:=s.toks+1 }) X Z hx hc ?_)
 obtain⟨cd,hcd,hrow⟩:=any_some Z.row
 have hdct:=(Bool.and_eq_true_iff.mp hrow).2
 obtain⟨oc,od,oda,osl⟩:=ox
 have hc:oc=.ref C:=hc
 have hdn:od=none:=hdn
 have hd:oda=.fields vs:=hd
 subst hc
 subst hdn
 subst hd
 have Lc:=looks_clsIn (M:=model prog w) X hcd
 obtain⟨hp,g,dr,tk,os⟩:=s
 have hx:hp.get? x=some ⟨.ref C,none,.fields vs,osl⟩:=hx
 have hxs:x≠hp.objs.size:=Q09 (Q02 hx)
 unfold storeInOwnDict
 refine Q00 (Q03 ?_)
 refine Q00 ?_
 show wpAny _ _ (instanceDict x true) _ _ _
 unfold instanceDict
 refine Q00 (wpAny_loadPart hx (Q00 (Lc.at ?_)))
 rw[hdct]
 rw[if_neg (by decide)]
 show wpAny _ _ (if(!true || !typeHasDict (.ref C))=true then _ else _) _ _ _
 rw[if_neg (by simp[typeHasDict])]
 show wpAny _ _ (alloc _ >>= _) _ _ _
 have hx1:(hp.push { cls:=.type "dict",data:=.dict #[] }).get? x=some ⟨.ref C,none,.fields vs,osl⟩:=Q04 _ hx
 refine Q00 (wpAny_alloc' (Q00 (wpAny_update' hx1 (Q03 ?_))))
 generalize hH:(hp.push { cls:=.type "dict",data:=.dict #[] }).update x (λo=>{ cls:=o.cls,dict:=some hp.objs.size,data:=o.data,slots:=o.slots })=h1
 have gd:h1.get? hp.objs.size=some { cls:=.type "dict",data:=.dict #[] }:=by
  rw[<-hH]
  exact(Q27 _ _ _ _ hxs.symm).trans (Q29 rfl rfl)
 have gx:h1.get? x=some ⟨.ref C,some hp.objs.size,.fields vs,osl⟩:=by
  rw[<-hH]
  exact Q18 _ hx1 rfl
 have go:∀b o,b≠x->hp.get? b=some o->h1.get? b=some o:=λb o hb e=>by
  rw[<-hH]
  exact(Q27 _ _ _ _ hb).trans (Q04 _ e)
 have nsd:h1.Ns hp.objs.size (λ_=>none):=⟨_,#[],_,gd,rfl,(λe he=>absurd he (by simp)),λ_=>rfl⟩
 show wpAny _ _ (storeInDict hp.objs.size (.str name tk) name v) _ _ _
 unfold storeInDict newKeyGuard
 refine Q00 (Q03 (Q00 (wpAny_nsSet1 (Heap.Ns1.of_empty nsd) λh2 hn2 hs2=>?_)))
 obtain⟨oD,esD,epD,hoD,hdD,hcD⟩:=hn2.count (PySem.Within.cons name v PySem.Within.nil)
 refine Q00 (wpAny_lookBehind hoD (by rw[hdD];exact pastItsLine_dict (Q0c hcD (by rw[Q0r,Q2k,sizeLine_eq];omega))) ?_)
 exact Q03 (h h2 _ hn2 ((hs2.2 x hxs).trans gx) λb o hb e=>(hs2.2 b (Q09 (Q02 e))).trans (go b o hb e))
end
end L2
namespace L2
open PySem PySem.Spec PySem.Calls PyProof.Rows PySem.W PySem.Builtin PySem.Builtin.ObjectAttr PySem.Builtin.Getset_descriptor
section
variable {prog:Program}{w:World}{A:Around}{E:Value->Shared->Prop}{K:Frag}{h:Heap}{g:Array GenState}{d:Drawn}{t:Nat}{os:OsState}{a C dx:Addr}{o:Obj}{vs:Array Value}{mA:Str->Option Value}{name:Str}{v:Value}
theorem ahB {tk:Tok}{Q:Fin->Shared->Prop}(X:K.In h)(Z:je K C)(Y:qe K C name)(hx:h.get? a=some o)(hc:o.cls=.ref C)(hd:o.data=.fields vs)(hdx:o.dict=some dx)(hn:h.Ns dx mA)(hv:mA name=some v)(hq:Q (.done (.ret v)) ⟨h,g,d,t,os⟩):
 wpAny (model prog w) A (Builtin.«object.__getattribute__» ⟨[.ref a,.str name tk],[]⟩) Q E ⟨h,g,d,t,os⟩:=by
 obtain⟨cd,hcd,hrow⟩:=any_some Y.row
 have hdct:=(Bool.and_eq_true_iff.mp hrow).2
 have L1:=looks_findIn (M:=model prog w) X Y.na
 have L2:=looks_clsIn (M:=model prog w) X hcd
 obtain⟨oc,od,oda,osl⟩:=o
 have hc:oc=.ref C:=hc
 have hd:oda=.fields vs:=hd
 have hdx:od=some dx:=hdx
 subst hc
 subst hd
 subst hdx
 have hC:∃c' d' sl',h.get? C=some ⟨c',d',.cls cd,sl'⟩:=by
  unfold clsIn at hcd
  split at hcd
  . rename_i c' d' cd' sl' ho
    cases hcd
    exact⟨c',d',sl',X _ _ ho⟩
  . cases hcd
 obtain⟨c',d',sl',hC⟩:=hC
 obtain⟨c1,c2,c3,c4,c5,c6,c7,c8,c9,Bj,Bk⟩:=cd
 have hdct:c6=true:=hdct
 subst hdct
 repeat (any_goals (first|assumption|with_reducible refine wpAny_loadPart_at hx ?_|with_reducible refine wpAny_loadPart_at hC ?_|with_reducible refine L1.at ?_|(with_reducible refine wpAny_nsGet hn ?_;rw[hv])|wp_step))
theorem ahC {tk:Tok}{fill expr:Bool}{Q:Value->Shared->Prop}(X:K.In h)(Z:je K C)(Y:qe K C name)(hx:h.get? a=some o)(hc:o.cls=.ref C)(hd:o.data=.fields vs)(hdx:o.dict=some dx)(hn:h.Ns dx mA)(hv:mA name=some v)(hh:handedOut v=pure v)(hq:Q v ⟨h,g,d,t,os⟩):
 wpAny (model prog w) A (getAttrBy (.ref a) (.str name tk) fill expr) Q E ⟨h,g,d,t,os⟩:=by
 have f3:=F.attr_ValueError.ga.bind (.ref a)
 have hx0:(expr && onTheHeap (Value.builtin "BaseException.__getattribute__"))=false:=by cases expr <;> rfl
 have hx2:(Value.builtin "BaseException.__getattribute__" == Value.builtin "object.__getattribute__")=false:=by decide+kernel
 have hx1:(onTheHeap (Value.ref C) && Value.builtin "BaseException.__getattribute__" == Value.builtin "object.__getattribute__")=false:=by rw[hx2];rfl
 have L1:=looks_findIn (M:=model prog w) X Z.ga
 have L2:=looks_findIn (M:=model prog w) X Z.gt
 repeat (any_goals (first|assumption|(with_reducible refine wpAny_loadPart_at hx ?_;rw[hc])|with_reducible refine L1.at ?_|with_reducible refine L2.at ?_|wp_step))
 refine codeAny_call_builtin F.attr_ValueError.ga.plain F.entry_bexc_ga (Zi X Z hx hc (ahB X Z Y hx hc hd hdx hn hv ?_))
 repeat (any_goals (first|assumption|wp_step))
theorem ahD {expr:Bool}{Q:Value->Shared->Prop}(X:K.In h)(Z:je K C)(Y:qe K C name)(hx:h.get? a=some o)(hc:o.cls=.ref C)(hd:o.data=.fields vs)(hdx:o.dict=some dx)(hn:h.Ns dx mA)(hv:mA name=some v)(hh:handedOut v=pure v)(hq:Q v ⟨h,g,d,t+1,os⟩):
 wpAny (model prog w) A (getAttr (.ref a) name expr) Q E ⟨h,g,d,t,os⟩:=by
 unfold getAttr
 repeat (any_goals (first|assumption|with_reducible apply ahC X Z Y hx hc hd hdx hn hv hh|wp_step))
end
end L2
namespace L2
open PySem PySem.Spec PyProof.Rows
section
variable {M:Model}{A:Around}{E:Value->Shared->Prop}{s:Shared}
structure jZ (h:Heap) (e T:Addr) (cls:Value) (dd:Option Addr) (fl:Value):Prop where
 ex:∃oe vs,h.get? e=some oe/\oe.cls=cls/\oe.dict=dd/\oe.data=.fields vs/\vs[1]? =some (.ref T)
 tb:∃oT ts,h.get? T=some oT/\oT.data=.fields ts/\ts[3]? =some fl
 ne:T≠e
theorem xg {e T:Addr}{cls fl:Value}{dd:Option Addr}{Q:Unit->Shared->Prop}(t:jZ s.heap e T cls dd fl)(h:∀h',jZ h' e T cls dd .none->(∀b o,b≠T->s.heap.get? b=some o->h'.get? b=some o)->(∃o',h'.get? T=some o')->Q () { s with heap:=h' }):wpAny M A (setFlight (.ref e) none) Q E s:=by
 obtain⟨⟨oe,vs,he,hc,hdi,hd,h1⟩,⟨oT,ts,hT,hdT,h3⟩,ne⟩:=t
 have em:Obj.mapFields (·.setIfInBounds 3 ((none:Option Addr).elim Value.none λf=>rawInt f)) oT={ oT with data:=.fields (ts.setIfInBounds 3 .none) }:=Hy hdT
 have hsz:=(Array.getElem?_eq_some_iff.mp h3).1
 unfold setFlight
 refine Q00 (wpAny_field he hd h1 ?_)
 rw[if_pos (show(Value.ref T != Value.none)=true by simp)]
 have self:=Q18 (Obj.mapFields (·.setIfInBounds 3 ((none:Option Addr).elim Value.none λf=>rawInt f))) hT (by rw[em];exact Obj.isFreed_of_fields rfl)
 rw[em] at self
 have oth:∀b o,b≠T->s.heap.get? b=some o->(s.heap.update T (Obj.mapFields (·.setIfInBounds 3 ((none:Option Addr).elim Value.none λf=>rawInt f)))).get? b=some o:=λb o hb ho=>by
  rw[Q15 _ _ (Ne.symm hb)];exact ho
 exact wpAny_setField hT hdT hsz (h _ ⟨⟨oe,vs,oth e oe (Ne.symm ne) he,hc,hdi,hd,h1⟩,⟨_,_,self,rfl,by simp[hsz]⟩,ne⟩ oth ⟨_,self⟩)
theorem ZS {base:Heap}{env:Env}{outer:List Env}{L e T:Addr}{cls:Value}{dd:Option Addr}{Q:Unit->Shared->Prop}(hfr:A.frames=some (env::outer))(hl:s.heap.FunFrames base (env::outer))(hf:env.frame=some L)(t:jZ s.heap e T cls dd .none)
 (h:∀(h':Heap) (T':Addr),s.heap.objs.size<=T'->(∀b o,b ∉ frs (env::outer)->b≠e->b≠T->s.heap.get? b=some o->h'.get? b=some o)->(∀b o,b≠e->b≠T->s.heap.get? b=some o->∃sl,h'.get? b=some { o with slots:=sl })->(∃o,h'.get? T=some o)->jZ h' e T' cls dd (rawInt L)->Q () { s with heap:=h' }):
 wpAny M A (noteFrame (.ref e) env) Q E s:=by
 obtain⟨⟨oe,vs,he,hc,hdi,hd,h1⟩,⟨oT,ts,hT,hdT,h3⟩,ne⟩:=t
 have hsz:=(Array.getElem?_eq_some_iff.mp h3).1
 have em:Obj.mapFields (·.setIfInBounds 3 Value.none) oT={ oT with data:=.fields (ts.setIfInBounds 3 .none) }:=Hy hdT
 unfold noteFrame
 simp only[hf]
 refine Q00 (wpAny_field he hd h1 ?_)
 rw[if_pos (show(Value.ref T != Value.none)=true by simp)]
 refine Q00 (wpAny_field hT hdT h3 ?_)
 rw[if_neg (show ¬(Value.none == rawInt L)=true by simp[rawInt])]
 refine Q00 (wpAny_setField hT hdT hsz ?_)
 have self:=Q18 (Obj.mapFields (·.setIfInBounds 3 Value.none)) hT (by rw[em];exact Obj.isFreed_of_fields rfl)
 rw[em] at self
 have oth:∀b o,b≠T->s.heap.get? b=some o->(s.heap.update T (Obj.mapFields (·.setIfInBounds 3 Value.none))).get? b=some o:=λb o hb ho=>by
  rw[Q15 _ _ (Ne.symm hb)];exact ho
 have nT:∀b o,s.heap.get? b=some o->(∀vs,o.data≠ .fields vs)->b≠T:=λb o ho hn z=>by
  rw[z,hT] at ho
  cases ho
  exact hn ts hdT
 have hsize:(s.heap.update T (Obj.mapFields (·.setIfInBounds 3 Value.none))).objs.size=s.heap.objs.size:=Q26 _ _ _
 refine Ze (s:={ s with heap:=s.heap.update T (Obj.mapFields (·.setIfInBounds 3 Value.none)) }) hfr (hl.of_keeps λb o ho hn=>⟨o,oth b o (nT b o ho hn) ho,rfl⟩) hf (oth e oe (Ne.symm ne) he) hd (Array.getElem?_eq_some_iff.mp h1).1 λh' T' hT' hP he' htb=>?_
 have hle:s.heap.objs.size<=T':=by rw[<-hsize];exact hT'
 refine h h' T' hle (λb o hb hbe hbT ho=>hP.1 b o hb hbe (oth b o hbT ho)) (λb o hbe hbT ho=>hP.2 b o hbe (oth b o hbT ho)) ?_ ⟨⟨_,_,he',hc,hdi,rfl,by simp[(Array.getElem?_eq_some_iff.mp h1).1]⟩,htb,?_⟩
 . obtain⟨sl,hs⟩:=hP.2 T _ ne self
   exact⟨_,hs⟩
 . have h1:e<s.heap.objs.size:=Q02 he
   exact λz=>Q0l e (Q0a h1 (by rw[<-z];exact hle))
end
section
variable {X:Cx}{pins:List (Addr × Obj)}{σ:St}{H:Hp}{s:Shared}
theorem Inv.ahE (I:Inv X pins σ H s)(hex:X.ex=[])(hst:X.stack=X.env::X.outer)(hfm:X.env.frame=some X.env.locals){a T:Addr}{cls:Value}{dd:Option Addr}{Q:Unit->Shared->Prop}{E:Value->Shared->Prop}{M:Model}(t:jZ s.heap a T cls dd .none)
 (ha:X.s₀.heap.get? a=none) (hT:X.s₀.heap.get? T=none) (na:H a=none) (nT:H T=none)
 (q:∀(h':Heap) (T':Addr),jZ h' a T' cls dd .none->X.s₀.heap.get? T'=none->H T'=none->Un (frs X.outer) [] X.H₀ H X.s₀.heap h'->cL X.prog X.w H h'->Q () { s with heap:=h' }):
 wpAny M X.A (leaving X.env (.ref a)) Q E s:=by
 have hfr:X.A.frames=some (X.env::X.outer):=by rw[<-hst];exact I.ok.frames
 have hl:s.heap.FunFrames X.base (X.env::X.outer):=by rw[<-hst];exact I.stack
 unfold leaving
 refine Q00 (ZS hfr hl hfm t λh1 T1 hT1 k1 k2 hTT t1=>?_)
 refine xg (s:={ s with heap:=h1 }) t1 λh2 t2 k3 hT2=>?_
 have Ii:H T1=none:=I.hok.fresh hT1
 have mL:∀b o,s.heap.get? b=some o->b≠T1:=λb o e z=>by
  have h3:=Q02 e
  rw[z] at h3
  exact Q0l _ (Q0a h3 hT1)
 obtain⟨u,ok⟩:=I.Zh hex (h':=h2) ha hT na nT (λb o hb h1' h2' e=>k3 b o (mL b o e) (k1 b o (by rw[<-hst];exact hb) h1' h2' e)) (λb o h1' h2' e=>by
  obtain⟨sl,e1⟩:=k2 b o h1' h2' e
  exact⟨sl,k3 b _ (mL b o e) e1⟩)
 exact q h2 T1 t2 (I.pX hex (Heap.Zg hT1)) Ii u ok
end
noncomputable def gY (P:Program) (w:World):iB:=λouter H s E e s'=>∃(a T C:Addr) (dd:Option Addr) (H':Hp),e=.ref a/\jZ s'.heap a T (.ref C) dd .none/\s.heap.get? a=none/\s.heap.get? T=none/\H' a=none/\H' T=none/\s'.os=s.os/\AllBare s'.gens/\Un (frs outer) [] H H' s.heap s'.heap/\cL P w H' s'.heap/\E (.ref C) dd H'
theorem ahF {P:Program}{w:World}{K:W.Frag}{mg:Str->Option Value}{base:Heap}{N:List Str}{qual:Str}{scope:Scope}{f:Addr}{cd:Value}{A:Around}{outer:List Env}{s₀:Shared}{H₀:Hp}{E E':XK}(hE:∀C d H,E' C d H->E C d H):
 Passes (gY P w) (jW (gY P w) P w K mg base N qual scope f cd A outer s₀ H₀ E) E':=λpins σ H s e s' I h=>by
 obtain⟨a,T,C,dd,H',rfl,t,la,lT,na,nT,os,bare,un,hok,hE'⟩:=h
 obtain⟨hh,g,d,tk,os'⟩:=s'
 obtain rfl:os'=s.os:=os
 have I':=I.call (h':=hh) (g':=g) (d':=d) (t':=tk) (ch:=[]) un hok bare (λb z=>absurd z (by simp))
 show wpAny (model P w) _ (leaving _ _) _ _ _
 refine I'.ahE rfl rfl rfl t (I.pX rfl la) (I.pX rfl lT) na nT λh' T' t' xr xu un' hok'=>?_
 exact⟨a,T',C,dd,H',rfl,t',I.pX rfl la,xr,na,xu,I'.os,bare,un',hok',hE _ _ _ hE'⟩
section
variable {M:Model}{A:Around}{E:Value->Shared->Prop}{s:Shared}
theorem ahG {base:Heap}{env:Env}{outer:List Env}{L e:Addr}{cls:Value}{dd:Option Addr}{oe:Obj}{vs:Array Value}{Q:Unit->Shared->Prop}(hfr:A.frames=some (env::outer))(hl:s.heap.FunFrames base (env::outer))(hf:env.frame=some L)
 (he:s.heap.get? e=some oe) (hc:oe.cls=cls) (hdi:oe.dict=dd) (hd:oe.data=.fields vs) (h1:vs[1]? =some .none)
 (h:∀(h':Heap) (T':Addr),s.heap.objs.size<=T'->(∀b o,b ∉ frs (env::outer)->b≠e->s.heap.get? b=some o->h'.get? b=some o)->(∀b o,b≠e->s.heap.get? b=some o->∃sl,h'.get? b=some { o with slots:=sl })->jZ h' e T' cls dd (rawInt L)->Q () { s with heap:=h' }):
 wpAny M A (noteFrame (.ref e) env) Q E s:=by
 have hsz:=(Array.getElem?_eq_some_iff.mp h1).1
 unfold noteFrame
 simp only[hf]
 refine Q00 (wpAny_field he hd h1 ?_)
 rw[if_neg (by decide)]
 refine Ze hfr hl hf he hd hsz λh' T' hT' hP he' htb=>?_
 refine h h' T' hT' hP.1 hP.2 ⟨⟨_,_,he',hc,hdi,rfl,by simp[hsz]⟩,htb,λz=>?_⟩
 have h3:=Q02 he
 rw[<-z] at h3
 exact Q0l _ (Q0a h3 hT')
end
section
variable {X:Cx}{pins:List (Addr × Obj)}{σ:St}{H:Hp}{s:Shared}
theorem Inv.ZV (I:Inv X pins σ H s)(hex:X.ex=[])(hst:X.stack=X.env::X.outer)(hfm:X.env.frame=some X.env.locals){a:Addr}{oe:Obj}{vs:Array Value}{cls:Value}{dd:Option Addr}{Q:Unit->Shared->Prop}{E:Value->Shared->Prop}{M:Model}
 (he:s.heap.get? a=some oe) (hc:oe.cls=cls) (hdi:oe.dict=dd) (hd:oe.data=.fields vs) (h1:vs[1]? =some .none) (ha:X.s₀.heap.get? a=none) (na:H a=none)
 (q:∀(h':Heap) (T':Addr),jZ h' a T' cls dd .none->X.s₀.heap.get? T'=none->H T'=none->Un (frs X.outer) [] X.H₀ H X.s₀.heap h'->cL X.prog X.w H h'->Q () { s with heap:=h' }):
 wpAny M X.A (leaving X.env (.ref a)) Q E s:=by
 have hfr:X.A.frames=some (X.env::X.outer):=by rw[<-hst];exact I.ok.frames
 have hl:s.heap.FunFrames X.base (X.env::X.outer):=by rw[<-hst];exact I.stack
 unfold leaving
 refine Q00 (ahG hfr hl hfm he hc hdi hd h1 λh1 T1 hT1 k1 k2 t1=>?_)
 refine xg (s:={ s with heap:=h1 }) t1 λh2 t2 k3 hT2=>?_
 have Ii:H T1=none:=I.hok.fresh hT1
 have mL:∀b o,s.heap.get? b=some o->b≠T1:=λb o e z=>by
  have h3:=Q02 e
  rw[z] at h3
  exact Q0l _ (Q0a h3 hT1)
 obtain⟨u,ok⟩:=I.Zh hex (h':=h2) ha ha na na (λb o hb h1' _ e=>k3 b o (mL b o e) (k1 b o (by rw[<-hst];exact hb) h1' e)) (λb o h1' _ e=>by
  obtain⟨sl,e1⟩:=k2 b o h1' e
  exact⟨sl,k3 b _ (mL b o e) e1⟩)
 exact q h2 T1 t2 (I.pX hex (Heap.Zg hT1)) Ii u ok
end
noncomputable def ZW (X:Cx) (C:Addr) (R:Hp->Prop):Prop:=∀(pins:List (Addr × Obj)) (σ:St) (H:Hp) (s:Shared) (h':Heap) (e:Addr) (vs:List Value),Inv X pins σ H s->Heap.MadeExcOf s.heap h' e (.ref C) vs->R H->X.xe (.ref e) { s with heap:=h' }
noncomputable def ahH (R:Hp->Prop) (t:TA):TS:=λ_ σ H=>t σ H λvs H1=>vs.length<=sizeLine/\R H1
theorem ahI {X:Cx}{x:Str}{C:Addr}{bm:List Value}{B newId initId:String}{e:Expr}{es:List Expr}{np cpos pos:Pos}{t:TA}{R:Hp->Prop}(O:OwnCls x C bm newId X.mg X.base)(FB:ExcBaseFacts B newId initId bm)(hcl:X.calm=true)(hg:Gl X x)(hx:ZW X C R)
 (ha:PA X (e::es) t) (hdb:(x == ("__debug__":Str))=false:=by decide) (hst:starEach (e::es) X.env=(false,eval e X.env)::starEach es X.env:=by rfl) (hpl:(backTo cpos (starEach es X.env)).any (·.1)=false:=by rfl):
 PS X (.Raise (some (.Call (.Name x np) (e::es) [] cpos)) none pos) (ahH R t):=by
 intro pins s σ H D I h
 obtain⟨tl,N,nm,q,bs,hdct,sn,sub,ab,col,dd,k0,k1,k2,k3,k5,mN,hC,hN,hni,T⟩:=O.obj
 refine wpAny_Raise_call_subT (C:=C) (nm:=nm) (q:=q) (N:=N) (bs:=bs) (bm:=tl) (hdct:=hdct) (sn:=sn) (sub:=sub) (ab:=ab) (col:=col) (dd:=dd) (k0:=k0) (k1:=k1) (k2:=k2) (k3:=k3) (k5:=k5) FB (mN:=mN) (T.hasType FB.hasBase) (I.ok.hd hcl) ?_ hni (pK I hg O.bound ⟨rfl,?_⟩ hdb)
 . rw[hst]
   show(false || (backTo cpos (starEach es X.env)).any (·.1))=false
   rw[hpl]
   rfl
 . have h2:=ha cpos pins s σ H _ I h
   rw[hst] at h2 ⊢
   refine Calls.evalArgs_plain (Q0h h2 (λus s2 ⟨vs,H1,I1,r,hl,hR⟩=>?_) λ_ _ y=>y)
   exact⟨rfl,by rw[<-r.length];exact hl,I1.bk _ _ hC,hN.keeps I1.bk,T.keeps I1.bk,λh' a hm=>hx pins σ H1 s2 h' a us I1 hm hR⟩
theorem ahJ {P:Program}{w:World}{K:W.Frag}{mg:Str->Option Value}{base:Heap}{N:List Str}{qual:Str}{scope:Scope}{f:Addr}{cd:Value}{A:Around}{outer:List Env}{s₀:Shared}{H₀:Hp}{E:XK}{C:Addr}:
 ZW (jW (gY P w) P w K mg base N qual scope f cd A outer s₀ H₀ E) C (λH=>E (.ref C) none H):=λpins σ H s h' e vs I hm hE=>by
 obtain⟨t,he,_,_⟩:=hm.there
 have I':=I.kept (h':=h') (t':=s.toks) hm.keeps
 have hnew:s.heap.get? e=none:=hm.new
 have na:H e=none:=by
  cases q:H e with
  |none=>rfl
  |some o=>
   obtain⟨o',e'⟩:=(I.hok e o q).ex
   rw[hnew] at e';cases e'
 show wpAny (model P w) _ (leaving _ _) _ _ _
 refine I'.ZV rfl rfl rfl he rfl rfl rfl rfl (I.pX rfl hnew) na λh2 T' t' xr xu un' hok'=>?_
 exact⟨e,T',C,none,H,rfl,t',I.pX rfl hnew,xr,na,xu,I'.os,I'.bare,un',hok',hE⟩
noncomputable def iJ (a C:Addr) (dd:Option Addr):HO:=.ext λh=>∃o,h.get? a=some o/\o.cls=.ref C/\o.dict=dd/\∃vs,o.data=.fields vs
theorem iJ.ok {P:Program}{w:World}{H:Hp}{h:Heap}{a C:Addr}{dd:Option Addr}(e:∃o,h.get? a=some o/\o.cls=.ref C/\o.dict=dd/\∃vs,o.data=.fields vs):cT P w H h a (iJ a C dd):=
 ⟨e,let⟨o,h1,_⟩:=e;⟨o,h1⟩,λ_ _ ⟨o,h1,h2⟩ k=>⟨o,k o h1,h2⟩⟩
noncomputable def xG (X:Cx) (pins:List (Addr × Obj)) (σ:St) (Ek:XK) (e:Value) (s':Shared):Prop:=∃H s,Inv X pins σ H s/\gY X.prog X.w X.stack H s Ek e s'
noncomputable def tZ (X:Cx) (Ek:XK) (e:Expr) (t:TE):Prop:=
 ∀(pins:List (Addr × Obj)) (s:Shared) (σ:St) (H:Hp) (Q:VK),Inv X pins σ H s->t σ H Q->wpAny (model X.prog X.w) X.A (eval e X.env) (EP X pins σ Q) (xG X pins σ Ek) s
noncomputable def Ij (X:Cx) (Ek:XK) (st:List Stmt) (t:TS):Prop:=
 ∀(pins:List (Addr × Obj)) (s:Shared) (σ:St) (H:Hp) (D:Ends),Inv X pins σ H s->t D σ H->wpAny (model X.prog X.w) X.A (execs st X.env) (SP X pins D) (xG X pins σ Ek) s
section
variable {X:Cx}{k:Nat}{f:Addr}{fd:FuncData}{ps:List Str}{sp:Sp}{eG:List V}{ds:List Value}{Ek:XK}{x:Str}{p pos:Pos}{e:Expr}{es:List Expr}{t:TA}{te:TE}
theorem Ik {i:Nat}{y:Str}{pos':Pos}(hN:X.N.Nodup)(hi:X.N[i]? =some y)(hx:Loc X.env.scope y)(he:tZ X Ek e te)(hs:swapsWith e (some (.Name y pos')) pos.line X.env=pure false:=by rfl)(hf:X.fn y=true\/X.env.scope.names.lookup y=some .local:=by first|exact .inl rfl|exact .inr rfl|assumption):
 Ij X Ek [.Assign [.Name y pos'] e pos] (nJ te (cF i)):=by
 intro pins s σ H D I h
 refine wpAny_execs_cons (wpAny_Assign_Name (Q0h (he pins s σ H _ I h) (λv s1 ⟨z,H1,I1,r1,q1⟩=>?_) λ_ _ z=>z) hs)
 exact sZ I1 hN hi hx r1 (λs2 I2=>wpAny_execs_nil ⟨_,H1,I2,q1⟩) hf
end
theorem ZX {X:Cx}{pins:List (Addr × Obj)}{σ:St}{Ek:XK}{e:Value}{s':Shared}{Q:Unit->Shared->Prop}{E:Value->Shared->Prop}(hst:X.stack=X.env::X.outer)(hfm:X.env.frame=some X.env.locals)(h:xG X pins σ Ek e s')
 (q:∀(a C T:Addr) (dd:Option Addr) (H':Hp) (h2:Heap),e=.ref a->H' a=none->Ek (.ref C) dd H'->jZ h2 a T (.ref C) dd .none->Inv X pins σ (upd H' a (iJ a C dd)) { s' with heap:=h2 }->
   (∀h3:Heap,jZ h3 a T (.ref C) dd .none->(∀b o,b≠T->h2.get? b=some o->h3.get? b=some o)->Inv X pins σ (upd H' a (iJ a C dd)) { s' with heap:=h3 })->Q () { s' with heap:=h2 }):
 wpAny (model X.prog X.w) X.A (noteFrame e X.env) (λ_ s2=>wpAny (model X.prog X.w) X.A (setFlight e none) Q E s2) E s':=by
 obtain⟨H,s,I,a,T,C,dd,H',rfl,t,la,lT,na,nT,os,bare,un,hok,hE⟩:=h
 have I':=I.call' (s':=s') (ch:=[]) os un hok bare (λb z=>absurd z (by simp))
 have hfr:X.A.frames=some (X.env::X.outer):=by rw[<-hst];exact I.ok.frames
 have hl:s'.heap.FunFrames X.base (X.env::X.outer):=by rw[<-hst];exact I'.stack
 refine ZS hfr hl hfm t λh1 T1 hT1 k1 k2 hTT t1=>?_
 refine xg (s:={ s' with heap:=h1 }) t1 λh2 t2 k3 hT2=>?_
 have mL:∀b o,s'.heap.get? b=some o->b≠T1:=λb o e z=>by
  have h3:=Q02 e
  rw[z] at h3
  exact Q0l _ (Q0a h3 hT1)
 have key:∀h3:Heap,jZ h3 a T1 (.ref C) dd .none->(∀b o,b≠T1->h2.get? b=some o->h3.get? b=some o)->Inv X pins σ (upd H' a (iJ a C dd)) { s' with heap:=h3 }:=λh3 t3 k4=>by
  have m1:∀b o,b ∉ frs X.stack->b≠a->b≠T->s'.heap.get? b=some o->h3.get? b=some o:=λb o hb n1 n2 e=>
   k4 b o (mL b o e) (k3 b o (mL b o e) (k1 b o (by rw[<-hst];exact hb) n1 n2 e))
  have m2:∀b o,b≠a->b≠T->s'.heap.get? b=some o->∃sl,h3.get? b=some { o with slots:=sl }:=λb o n1 n2 e=>by
   obtain⟨sl,e1⟩:=k2 b o n1 n2 e
   exact⟨sl,k4 b _ (mL b o e) (k3 b _ (mL b o e) e1)⟩
  have old:∀b o,s.heap.get? b=some o->b≠a/\b≠T:=λb o e=>⟨(λz=>by rw[z,la] at e;cases e),λz=>by rw[z,lT] at e;cases e⟩
  refine I.call' (s':={ s' with heap:=h3 }) (ch:=[]) os ⟨λb o e n hb _=>?_,λb o e n hb hx=>?_,λb o e n hx=>?_,λb o e hx=>?_,λb xs e=>?_,λb o u e=>?_,λb ps e=>?_⟩ (λb o e=>?_) bare (λb z=>absurd z (by simp))
  . exact m1 b o hb (old b o e).1 (old b o e).2 (un.keep b o e n hb (by simp))
  . obtain⟨sl,e1⟩:=un.slot b o e n hb hx
    obtain⟨sl',e2⟩:=m2 b _ (old b o e).1 (old b o e).2 e1
    exact⟨sl',e2⟩
  . rw[au (old b o e).1];exact un.free b o e n hx
  . obtain⟨o',e1⟩:=un.there b o e hx
    obtain⟨sl',e2⟩:=m2 b _ (old b o e).1 (old b o e).2 e1
    exact⟨_,e2⟩
  . have:=un.tups b xs e
    rw[au (aN this na)];exact this
  . have:=un.gZ b o u e
    rw[au (aN this na)];exact this
  . obtain⟨more,this⟩:=un.iw b ps e
    exact⟨more,by rw[au (aN this na)];exact this⟩
  . by_cases hb:b=a
    . subst hb
      rw[aF] at e
      cases e
      obtain⟨oe,vs,he,hc,hdi,hda,_⟩:=t3.ex
      exact iJ.ok ⟨oe,he,hc,hdi,vs,hda⟩
    . rw[au hb] at e
      refine(hok b o e).stay (λc u hc r=>?_) (λc r=>by rw[au (aN r na)];exact r) λc xs r=>by rw[au (aN r na)];exact r
      have hc':∃v,H' c=some v:=by
       rcases hc with z|z
       . exact⟨o,by rw[z];exact e⟩
       . exact⟨_,z⟩
      obtain⟨v,hv⟩:=hc'
      refine m1 c u (λz=>?_) (aN hv na) (aN hv nT) r
      rw[I'.v5 c z] at hv;cases hv
 exact q a C T1 dd H' h2 rfl na hE t2 (key h2 t2 λ_ _ _ e=>e) key
noncomputable def Z0 (Ek:XK) (i:Nat) (tb ts:TS):TS:=λD σ H=>tb D σ H/\∀(a C:Addr) (dd:Option Addr) (H':Hp),H' a=none->Ek (.ref C) dd H'->ts (D.un i) (σ.set i (some (.ref a))) (upd H' a (iJ a C dd))
theorem Z1 {X:Cx}{body:List Stmt}{x n:Str}{Dc:Addr}{Ek:XK}{i:Nat}{b₀:Stmt}{suite:List Stmt}{np hpos pos:Pos}{tb ts:TS}(hst:X.stack=X.env::X.outer)(hfm:X.env.frame=some X.env.locals)
 (hb:Ij X Ek body tb) (hg:Gl X x) (hm:X.mg x=some (.ref Dc)) (h1:W.typeIn X.K (.ref Dc)=some (.type "type")) (h2:(W.clsIn X.K Dc).isSome=true) (h3:W.subIn X.K (.ref Dc) (.type "BaseException")=some true)
 (h4:∀C dd H,Ek (.ref C) dd H->W.subIn X.K (.ref C) (.ref Dc)=some true) (hN:X.N.Nodup) (hi:X.N[i]? =some n) (hlo:X.env.kindOf n=some .local) (hs:∀a,fQ (X.marked a) (b₀::suite) ts) (hd:(x == ("__debug__":Str))=false:=by decide):
 PS X (.Try body [.ExceptHandler (some (.Name x np)) (some n) (b₀::suite) hpos] [] [] pos) (Z0 Ek i tb ts):=by
 intro pins s σ H D I h
 obtain⟨hq,hk⟩:=h
 refine wpAny_Try_except (Q0h (hb pins s σ H D I hq) (λf s1 q=>?_) λe s1 z=>?_)
 . cases f with
   |next=>exact wpAny_execs_nil q
   |ret v=>exact q
   |brk=>exact q
   |cont=>exact q
 . refine ZX hst hfm z λa C T dd H' h2' e1 na hE t2 I2 key=>?_
   subst e1
   have ok:=I2.ok
   refine wpAny_handleBy_cons (codeAny_handlers_test ?_) (by intro q;cases q)
   refine pK (X:=X.marked a) (I2.marked a) hg hm ?_ hd
   obtain⟨oe,vs,he,hc,_⟩:=id t2.ex
   refine Hz I2.cM h1 h2 h3 (h4 C dd H' hE) he hc ?_
   simp only[if_true]
   refine codeAny_handlers_suite_as ?_
   refine xg t2 λh3' t3 k3 _=>?_
   have I3:=key h3' t3 k3
   refine sZ I3 hN hi (.inl hlo) (show RelV (.ref a) (.ref a) from rfl) (λs4 I4=>?_) (.inr hlo)
   refine Q0h (hs a pins s4 _ _ (D.un i) (I4.marked a) (hk a C dd H' na hE)) (λf s5 q=>?_) λ_ _ z=>False.elim z
   show wpAny _ _ _ _ _ _
   cases f with
   |next=>
    obtain⟨σ',H5,I5,q⟩:=q
    exact(I5.unmarked ok).unbind hN hi hlo λs6 I6=>⟨_,_,I6,q⟩
   |ret v=>
    obtain⟨y,σ',H5,I5,r,q⟩:=q
    exact(I5.unmarked ok).unbind hN hi hlo λs6 I6=>⟨y,_,_,I6,r,q⟩
   |brk=>
    obtain⟨σ',H5,I5,q⟩:=q
    exact(I5.unmarked ok).unbind hN hi hlo λs6 I6=>⟨_,_,I6,q⟩
   |cont=>
    obtain⟨σ',H5,I5,q⟩:=q
    exact(I5.unmarked ok).unbind hN hi hlo λs6 I6=>⟨_,_,I6,q⟩
noncomputable def oE (a C:Addr):HO:=.ext λh=>∃o t,h.get? a=some o/\o.cls=.ref C/\o.dict=none/\o.data=.fields #[t,.none,.none,.none,.bool false,.none]
noncomputable def MadeX (a C dx:Addr):HO:=.ext λh=>∃o t,h.get? a=some o/\o.cls=.ref C/\o.dict=some dx/\o.data=.fields #[t,.none,.none,.none,.bool false,.none]
theorem oE.ok {P:Program}{w:World}{H:Hp}{h:Heap}{a C:Addr}(e:∃o t,h.get? a=some o/\o.cls=.ref C/\o.dict=none/\o.data=.fields #[t,.none,.none,.none,.bool false,.none]):cT P w H h a (oE a C):=
 ⟨e,let⟨o,t,h1,_⟩:=e;⟨o,h1⟩,λ_ _ ⟨o,t,h1,h2⟩ k=>⟨o,t,k o h1,h2⟩⟩
theorem MadeX.ok {P:Program}{w:World}{H:Hp}{h:Heap}{a C dx:Addr}(e:∃o t,h.get? a=some o/\o.cls=.ref C/\o.dict=some dx/\o.data=.fields #[t,.none,.none,.none,.bool false,.none]):cT P w H h a (MadeX a C dx):=
 ⟨e,let⟨o,t,h1,_⟩:=e;⟨o,h1⟩,λ_ _ ⟨o,t,h1,h2⟩ k=>⟨o,t,k o h1,h2⟩⟩
noncomputable def rem (H:Hp) (a:Addr):Hp:=λb=>if b=a then none else H b
theorem Il {H:Hp}{a:Addr}:rem H a a=none:=if_pos rfl
theorem oF {H:Hp}{a b:Addr}(h:b≠a):rem H a b=H b:=if_neg h
section
variable {X:Cx}{pins:List (Addr × Obj)}{σ:St}{H:Hp}{s:Shared}
noncomputable def ahK (K:W.Frag) (ta tv:TE) (f:Str):TS:=λD σ H=>tv σ H λy H1=>ta σ H1 λx H2=>∃a C,x=.ref a/\H2 a=some (oE a C)/\qe K C f/\
 ∀dx,H2 dx=none->dx≠a->D.nx σ (upd (upd H2 dx (.xd [(f,y)])) a (MadeX a C dx))
theorem ahL {o value:Expr}{ta tv:TE}{f:Str}{pos pos':Pos}(ha:PE X o ta)(hv:PE X value tv)(hs:swapsWith value (some (.Attribute o f pos')) pos.line X.env=pure false):PS X (.Assign [.Attribute o f pos'] value pos) (ahK X.K ta tv f):=by
 intro pins s σ H D I h
 refine plainObj_wpAny_Assign_Attribute (aM (hv pins s σ H _ I h) λu s1 ⟨y,H1,I1,ry,q⟩=>aM (ha pins s1 σ H1 _ I1 q) λov s2 ⟨x,H2,I2,rx,a,C,ex,ea,Z,q2⟩=>?_) hs
 subst ex
 obtain rfl:ov=Value.ref a:=rx
 obtain⟨oe,t,he,hc,hdi,hda⟩:=(I2.hok a _ ea).1
 refine ahz I2.cM Z he hc hdi hda λh' tk' hn hx hk=>?_
 have hfr:H2 s2.heap.objs.size=none:=I2.hok.fresh (Q01 _)
 have hne:s2.heap.objs.size≠a:=(Q09 (Q02 he)).symm
 have nea:∀b u,H2 b=some u->(∀C',u≠oE a C')->b≠a:=λb u e hu z=>by
  subst z
  rw[ea] at e
  exact hu C (Option.some.inj e).symm
 refine⟨σ,_,I2.call' (s':={ s2 with heap:=h',toks:=tk' }) (ch:=[]) rfl ⟨λb ob e n hb _=>?_,λb ob e n hb _=>?_,λb ob e n _=>?_,λb ob e _=>?_,λb xs e=>?_,λb ob u e=>?_,λb ps e=>?_⟩ (λb u e=>?_) I2.bare (λb z=>absurd z (by simp)),q2 s2.heap.objs.size hfr hne⟩
 . exact hk b ob (aN ea n).symm e
 . exact⟨ob.slots,hk b ob (aN ea n).symm e⟩
 . rw[au (aN ea n).symm,au (Q09 (Q02 e))];exact n
 . by_cases hb:b=a
   . subst hb;exact⟨_,hx⟩
   . exact⟨ob,hk b ob hb e⟩
 . have h1:b≠a:=λz=>by rw[z,ea] at e;cases e
   rw[au h1,au (aN e hfr)];exact e
 . have h1:b≠a:=λz=>by rw[z,ea] at e;cases e
   rw[au h1,au (aN e hfr)];exact e
 . have h1:b≠a:=λz=>by rw[z,ea] at e;cases e
   exact⟨#[],by rw[au h1,au (aN e hfr),Q1y];exact e⟩
 . by_cases h1:b=a
   . subst h1
     rw[aF] at e
     cases e
     exact MadeX.ok ⟨_,t,hx,hc,rfl,hda⟩
   . rw[au h1] at e
     by_cases h2:b=s2.heap.objs.size
     . subst h2
       rw[aF] at e
       cases e
       refine⟨_,hn,λg=>?_⟩
       by_cases hg:g=f
       . subst hg
         rw[if_pos rfl]
         rw[Q1a,beq_self_eq_true]
         exact ry
       . rw[if_neg hg]
         rw[Q1a,beq_false_of_ne hg]
         trivial
     . rw[au h2] at e
       refine(I2.hok b u e).stay (λc v hc' r=>hk c v ?_ r) (λc r=>?_) λc xs r=>?_
       . rintro rfl
         rcases hc' with z|z
         . exact h1 z.symm
         . rw[ea] at z;cases z
       . have n1:c≠a:=λz=>by rw[z,ea] at r;cases r
         rw[au n1,au (aN r hfr)];exact r
       . have n1:c≠a:=λz=>by rw[z,ea] at r;cases r
         rw[au n1,au (aN r hfr)];exact r
theorem Inv.ahM (I:Inv X pins σ H s){h':Heap}{e C:Addr}{us:List Value}(hm:Heap.MadeExcOf s.heap h' e (.ref C) us):H e=none/\Inv X pins σ (upd H e (oE e C)) { s with heap:=h' }:=by
 obtain⟨t,he,_,_⟩:=hm.there
 have hnew:s.heap.get? e=none:=hm.new
 have na:H e=none:=by
  cases q:H e with
  |none=>rfl
  |some o=>
   obtain⟨o',e'⟩:=(I.hok e o q).ex
   rw[hnew] at e';cases e'
 refine⟨na,I.call' (s':={ s with heap:=h' }) (ch:=[]) rfl ⟨λb ob e1 n hb _=>hm.keeps b ob e1,λb ob e1 n hb _=>⟨ob.slots,hm.keeps b ob e1⟩,λb ob e1 n _=>?_,λb ob e1 _=>⟨ob,hm.keeps b ob e1⟩,λb xs e1=>?_,λb ob u e1=>?_,λb ps e1=>?_⟩ (λb u e1=>?_) I.bare (λb z=>absurd z (by simp))⟩
 . rw[au (λz=>by rw[z,hnew] at e1;cases e1)];exact n
 . rw[au (aN e1 na)];exact e1
 . rw[au (aN e1 na)];exact e1
 . exact⟨#[],by rw[au (aN e1 na),Q1y];exact e1⟩
 . by_cases hb:b=e
   . subst hb
     rw[aF] at e1
     cases e1
     exact oE.ok ⟨_,_,he,rfl,rfl,rfl⟩
   . rw[au hb] at e1
     refine(I.hok b u e1).stay (λc v _ r=>hm.keeps c v r) (λc r=>?_) λc xs r=>?_
     . rw[au (aN r na)];exact r
     . rw[au (aN r na)];exact r
noncomputable def Z2 (X:Cx) (R:Addr->Addr->Hp->Prop):Prop:=∀(pins:List (Addr × Obj)) (σ:St) (H:Hp) (s:Shared) (a C dx:Addr),Inv X pins σ H s->X.s₀.heap.get? a=none->H a=some (MadeX a C dx)->R C dx (rem H a)->X.xe (.ref a) s
noncomputable def ahN (C:Addr) (sp:Sp) (R:Addr->Addr->Hp->Prop) (t:TA):TS:=λ_ σ H=>t σ H λvs H1=>vs.length<=sizeLine/\∀a,H1 a=none->sp (.ref a::vs) (upd H1 a (oE a C)) (λv H2=>v=.non/\∃dx,H2 a=some (MadeX a C dx)/\R C dx (rem H2 a)) E0
theorem ahO {x:Str}{C f:Addr}{fd:FuncData}{ps:List Str}{sp:Sp}{k:Nat}{B nid Bg:String}{gC:List Value}{e:Expr}{es:List Expr}{p cpos pos:Pos}{t:TA}{R:Addr->Addr->Hp->Prop}(hex:X.ex=[])(Z:qd X.base C f gC nid)(FB:ExcBaseFacts B nid Bg gC)(hkp:W.keepIn X.K (.ref C)=true)
 (F:aq X.prog X.w X.K X.mg X.base aB k f fd ps sp) (hr:cU (k+1) X.A) (hcl:X.calm=true) (hg:Gl X x) (hm:X.mg x=some (.ref C)) (hb:Binds X.K fd ps []) (hx:Z2 X R)
 (ha:PA X (e::es) t) (hdb:(x == ("__debug__":Str))=false:=by decide) (he:starEach (e::es) X.env=(false,eval e X.env)::starEach es X.env:=by rfl) (hpl:(backTo cpos (starEach es X.env)).any (·.1)=false:=by rfl):
 PS X (.Raise (some (.Call (.Name x p) (e::es) [] cpos)) none pos) (ahN C sp R t):=by
 intro pins s σ H D I h
 rw[arm_exec_Raise]
 have key:wpAny (model X.prog X.w) X.A (eval (.Call (.Name x p) (e::es) [] cpos) X.env) (λv s1=>∃(e C:Addr) (oe:Obj) (t:Value) (r:Array Value),v=.ref e/\s1.heap.get? e=some oe/\oe.cls=.ref C/\oe.data=.fields #[t,.none,.none,.none,.bool false,.none]/\
  (∃tl N nm q bs hdct sn sub ab col dd k0 k1 k2 k3 k5 nid,s1.heap.get? C=some (excClassObj nm q C N bs tl hdct sn sub ab col dd k0 k1 k2 k3 k5 nid)/\tl.contains (.type "BaseException")=true)/\X.xe (.ref e) s1) X.xe s:=by
  refine wpAny_Call_Name_kw (pK I hg hm ?_ hdb)
  refine W.callWith_K (h₀:=X.base) I.ok.mod.qM hkp (aM (ha cpos pins s σ H _ I h) λus s1 ⟨vs,H1,I1,r,hl,q⟩=>⟨I1.cM,?_⟩) he hpl
  obtain⟨hp,g,d,tk,os⟩:=s1
  refine ahw FB (Z.keeps I1.bk) (λh' e' hm'=>?_) (by show us.length<=sizeLine;rw[<-r.length];exact hl)
  have l0:X.s₀.heap.get? e'=none:=I1.pX hex hm'.new
  obtain⟨na,I2⟩:=I1.ahM hm'
  have hq:=q e' na
  have r2:Vals (V.ref e'::vs) (Value.ref e'::us):=.cons rfl r
  have hlen:(Value.ref e'::us++[]).length=ps.length:=by
   rw[Q0x,<-r2.length];exact F.len _ _ _ _ hq
  have hbd:=hb _ (Value.ref e'::us) I2.cM hlen
  rw[Q0x] at hbd
  refine wpAny_call (codeAny_mono (F.run _ X.stack _ _ ⟨Value.ref e'::us,[]⟩ (Value.ref e'::us) _ _ E0 (hr.make C us []) (I2.env0.make C us []) hbd r2 hq) λr' s' hq'=>?_)
  cases r' with
  |error e=>exact False.elim hq'
  |ok fl=>
   cases fl with
   |ret u=>
    obtain⟨v,H',I3,rv,ev,dx,xH,hR⟩:=I2.after hq'
    subst ev
    obtain⟨oe,t',he',hc',hd',ahP⟩:=(I3.hok _ _ xH).1
    obtain⟨tl,N,nm,q,bs,hdct,sn,sub,ab,col,dd,k0,k1,k2,k3,k5,mN,oI,z1,z2,z3,z4,z5,z6⟩:=Z.keeps I3.bk
    exact⟨rv,⟨e',C,oe,t',#[],rfl,he',hc',ahP,⟨tl,N,nm,q,bs,hdct,sn,sub,ab,col,dd,k0,k1,k2,k3,k5,nid,z1,z4.hasType FB.hasBase⟩,hx pins σ H' s' e' C dx I3 l0 xH hR⟩⟩
   |next=>exact False.elim hq'
   |brk=>exact False.elim hq'
   |cont=>exact False.elim hq'
 exact Q00 (wpAny_standAt (ahx (I.ok.hd hcl) (Q00 (Q0h key (λv s1 q=>Q00 (wpAny_standAt (Q03 q))) λ_ _ z=>z))))
theorem Inv.ahQ (I:Inv X pins σ H s)(hex:X.ex=[]){a:Addr}{φ:Heap->Prop}(l0:X.s₀.heap.get? a=none)(ha:H a=some (.ext φ)):Un (frs X.outer) [] X.H₀ (rem H a) X.s₀.heap s.heap/\cL X.prog X.w (rem H a) s.heap:=by
 have B:=I.base
 rw[hex] at B
 refine⟨⟨B.keep,B.slot,λb o e n hx=>?_,B.there,λb xs e=>?_,λb o u e=>?_,λb ps e=>?_⟩,λb u e=>?_⟩
 . rw[oF (λz=>by rw[z,l0] at e;cases e)];exact B.free b o e n hx
 . have:=B.tups b xs e
   rw[oF (λz=>by rw[z,ha] at this;cases this)];exact this
 . have:=B.gZ b o u e
   rw[oF (λz=>by rw[z,ha] at this;cases this)];exact this
 . obtain⟨more,this⟩:=B.iw b ps e
   exact⟨more,by rw[oF (λz=>by rw[z,ha] at this;cases this)];exact this⟩
 . have nb:b≠a:=λz=>by rw[z,Il] at e;cases e
   rw[oF nb] at e
   refine(I.hok b u e).stay (λc v _ r=>r) (λc r=>?_) λc xs r=>?_
   . rw[oF (λz=>by rw[z,ha] at r;cases r)];exact r
   . rw[oF (λz=>by rw[z,ha] at r;cases r)];exact r
end
theorem Im {H:Hp}{a b:Addr}(h:H b=none):rem H a b=none:=by
 unfold rem
 split
 . rfl
 . exact h
theorem Inv.rem {X:Cx}{pins:List (Addr × Obj)}{σ:St}{H:Hp}{s:Shared}(I:Inv X pins σ H s)(hex:X.ex=[]){a:Addr}{φ:Heap->Prop}(l0:X.s₀.heap.get? a=none)(ha:H a=some (.ext φ)):Inv X pins σ (L2.rem H a) s:=by
 obtain⟨un,hok⟩:=I.ahQ hex l0 ha
 refine⟨I.ok,I.os,I.bare,by rw[hex];exact un,I.loc,I.cell,Im I.free,λx c e=>Im (I.fO x c e),λp hp=>?_,hok,I.len⟩
 obtain⟨h1,h2,h3⟩:=I.pin p hp
 exact⟨h1,Im h2,h3⟩
theorem ahR {P:Program}{w:World}{K:W.Frag}{mg:Str->Option Value}{base:Heap}{N:List Str}{qual:Str}{scope:Scope}{f:Addr}{cd:Value}{A:Around}{outer:List Env}{s₀:Shared}{H₀:Hp}{E:XK}:
 Z2 (jW (gY P w) P w K mg base N qual scope f cd A outer s₀ H₀ E) (λC dx H=>E (.ref C) (some dx) H):=λpins σ H s a C dx I l0 xH hE=>by
 obtain⟨oe,t,he,hc,hdi,hda⟩:=(I.hok a _ xH).1
 have I':=I.rem rfl l0 xH
 show wpAny (model P w) _ (leaving _ _) _ _ _
 refine I'.ZV rfl rfl rfl he hc hdi hda rfl l0 Il λh2 T' t' xr xu un' hok'=>?_
 exact⟨a,T',C,some dx,_,rfl,t',l0,xr,Il,xu,I'.os,I'.bare,un',hok',hE⟩
section
variable {X:Cx}
noncomputable def Z4 (K:W.Frag) (ta:TE) (f:Str):TE:=λσ H Q=>ta σ H λx H1=>∃a C dx fs v,x=.ref a/\H1 a=some (iJ a C (some dx))/\H1 dx=some (.xd fs)/\je K C/\qe K C f/\fs.lookup f=some v/\Q v H1
theorem ahS {e:Expr}{ta:TE}{f:Str}{pos:Pos}(he:PE X e ta)(hb:attributeBase e f X.env (eval e X.env)=eval e X.env):PE X (.Attribute e f pos) (Z4 X.K ta f):=by
 intro pins s σ H Q I h
 refine XH hb (aM (he pins s σ H _ I h) λu s1 ⟨x,H1,I1,rx,a,C,dx,fs,v,ex,ea,ed,Z,Y,l,q⟩=>?_)
 subst ex
 obtain rfl:u=Value.ref a:=rx
 obtain⟨o,ho,hc,hdx,vs,hda⟩:=(I1.hok a _ ea).1
 obtain⟨mA,hn,hr⟩:=I1.hok dx _ ed
 obtain⟨u',hu,ru⟩:=gA.some_of (v:=v) (o:=mA f) (by rw[<-l];exact hr f)
 obtain⟨hp,g,d,tk,os⟩:=s1
 exact ahD I1.cM Z Y ho hc hda hdx hn.ns hu (W.handedOut_of (XF ru)) ⟨v,H1,I1.tok _,ru,q⟩
end
section
variable {X:Cx}{k:Nat}{f C:Addr}{fd:FuncData}{ps:List Str}{sp:Sp}{Ek:XK}{m:Str}{p pos apos:Pos}{e o:Expr}{es:List Expr}{t:TA}{te ta:TE}
theorem Z5 {pins:List (Addr × Obj)}{σ:St}{H:Hp}{s:Shared}{Q:VK}{us:List Value}{vs:List V}(F:aq X.prog X.w X.K X.mg X.base (gY X.prog X.w) k f fd ps sp)(hr:cU k X.A)(hb:Binds X.K fd ps [])
 (I:Inv X pins σ H s) (r:Vals vs us) (h:sp vs H Q Ek):wpAny (model X.prog X.w) X.A (call (.ref f) us) (EP X pins σ Q) (xG X pins σ Ek) s:=by
 have hl:(us++[]).length=ps.length:=by rw[Q0x,<-r.length];exact F.len _ _ _ _ h
 have hbd:=hb s us I.cM hl
 rw[Q0x] at hbd
 refine wpAny_call (codeAny_mono (F.run X.A X.stack s H ⟨us,[]⟩ us vs Q Ek hr I.env0 hbd r h) λr' s' hq=>?_)
 cases r' with
 |error e=>exact⟨H,s,I,hq⟩
 |ok fl=>
  cases fl with
  |ret u=>exact I.after hq
  |next=>exact False.elim hq
  |brk=>exact False.elim hq
  |cont=>exact False.elim hq
theorem Io (he:PE X.jV e te):tZ X Ek e te:=λpins s σ H Q I h=>
 Q0h (he pins s σ H Q (I.wish _) h) (λ_ _ ⟨v,H',I',r,q⟩=>⟨v,H',I'.jq,r,q⟩) λ_ _ z=>False.elim z
noncomputable def PAD (X:Cx) (Ek:XK) (es:List Expr) (t:TA):Prop:=
 ∀(pos:Pos) (pins:List (Addr × Obj)) (s:Shared) (σ:St) (H:Hp) (Q:List V->Hp->Prop),Inv X pins σ H s->t σ H Q->wpAny (model X.prog X.w) X.A (spliced (backTo pos (starEach es X.env))) (AP X pins σ Q) (xG X pins σ Ek) s
theorem Ip:PAD X Ek [] fX:=λ_ _ _ _ H Q I h=>Calls.spliced_nil ⟨[],H,I,.nil,h⟩
theorem t_ (ha:tZ X Ek e te)(hr:PAD X Ek es t)(hs:starEach (e::es) X.env=(false,eval e X.env)::starEach es X.env:=by rfl):PAD X Ek (e::es) (cA te t):=by
 intro pos pins s σ H Q I h
 rw[hs]
 show wpAny _ _ (spliced ((false,eval e X.env)::backTo pos (starEach es X.env))) _ _ s
 refine Calls.spliced_cons (aM (ha pins s σ H _ I h) λu s1 ⟨x,H1,I1,r1,q1⟩=>?_)
 exact aM (hr pos pins s1 σ H1 _ I1 q1) λus s2 ⟨xs,H2,I2,r2,q2⟩=>⟨x::xs,H2,I2,.cons r1 r2,q2⟩
theorem Ir {x1:Nat}(h:PAD X Ek es t):tZ X Ek (.Tuple es x1 pos) (pR t):=by
 intro pins s σ H Q I hq
 refine wpAny_Tuple_spliced (aM (h pos pins s σ H _ I hq) λus s1 ⟨xs,H1,I1,r,z,q⟩=>⟨by rw[<-r.length];exact z,?_⟩)
 have hf:H1 s1.heap.objs.size=none:=I1.hok.fresh (Q01 _)
 exact⟨.ref s1.heap.objs.size,upd H1 s1.heap.objs.size (.tup xs),I1.laid (t':=s1.toks) (λb u e=>Q04 _ e) (Q01 _) ⟨z,us,r,⟨_,Q0d _ rfl,rfl,_,rfl⟩⟩,rfl,q _ hf⟩
theorem Z6 {pl:Sem Bool}(he:PE X.jV o ta)(c:Cls X.K C)(hm:Meth X.K C m f)(F:aq X.prog X.w X.K X.mg X.base (gY X.prog X.w) k f fd ps sp)(hr:cU k X.A)(hb:Binds X.K fd ps [])(ha:PA X.jV (e::es) t)
 (hst:starEach (e::es) X.env=(false,eval e X.env)::starEach es X.env:=by rfl) (hpl:(backTo pos (starEach es X.env)).any (·.1)=false:=by rfl)
 (ht:eval (.Call (.Attribute o m apos) (e::es) [] pos) X.env=(do
   let ov <-eval o X.env
   standAt apos.atName
   let(f,first) <-holding [ov] (getMethod ov m pl)
   callWith pos f first (backTo pos (starEach (e::es) X.env)) (backToKw pos (keywordEach [] X.env))):=by rfl):
 tZ X Ek (.Call (.Attribute o m apos) (e::es) [] pos) (z_ C m sp [] Ek ta t):=by
 intro pins s σ H Q I h
 refine W.methodCall_KW (pl:=pl) (Q0h (he pins s σ H _ (I.wish _) h) (λu s1 ⟨x,H1,I1,rx,a,dx,fs,ex,ea,l,q⟩=>?_) λ_ _ z=>False.elim z) ht
 subst ex
 obtain rfl:u=Value.ref a:=rx
 have I1:=I1.jq
 refine z9 I1 ea c hm l ?_
 refine W.callWith_K (first:=[.ref a]) (h₀:=X.base) I.ok.mod.qM hm.kp (Q0h (ha pos pins s1 σ H1 _ (I1.wish _) q) (λus s2 ⟨vs,H2,I2,r,q2⟩=>⟨I2.jq.cM,?_⟩) λ_ _ z=>False.elim z) hst hpl
 exact Z5 (us:=.ref a::us) (vs:=.ref a::(vs++[])) F hr hb I2.jq (.cons rfl (by rw[Q0x];exact r)) q2
end
noncomputable def hk (l:List Key) (q:Key):Bool:=l.any λx=>decide (x=q)
noncomputable def stepK (l:List Key) (k:Key):List Key:=if hk l k=true then l else l++[k]
theorem Z7 {prog:Program}{w:World}{h:Heap}{a:Addr}{S S':Key->Bool}{n n':Nat}(hS:h.SetOf (cJ prog w) a S n)(e:∀k,S k=S' k)(en:n=n'):h.SetOf (cJ prog w) a S' n':=by
 obtain rfl:S=S':=funext e
 subst en
 exact hS
noncomputable def eU (v:Nat->Key):Nat->List Key
 |0=>[]
 |i+1=>stepK (eU v i) (v i)
theorem Z8 (v:Nat->Key):∀i,(eU v i).length<=i
 |0=>Q01 _
 |i+1=>by
  have:=Z8 v i
  show(stepK (eU v i) (v i)).length<=i+1
  unfold stepK
  split
  . omega
  . rw[Q07];exact Q2v this
theorem ahT (l m:List Key)(q:Key):hk (l++m) q=(hk l q || hk m q):=List.any_append
theorem ahU (l:List Key)(k q:Key):hk (stepK l k) q=(hk l q || decide (q=k)):=by
 unfold stepK
 split
 . rename_i h
   by_cases e:q=k
   . subst e;rw[h];rfl
   . rw[decide_eq_false e,Bool.or_false]
 . rw[ahT]
   have:hk [k] q=decide (q=k):=by
    show(decide (k=q) || false)=_
    rw[Bool.or_false]
    by_cases e:q=k
    . subst e;rfl
    . rw[decide_eq_false e,decide_eq_false λz=>e z.symm]
   rw[this]
theorem ahV (l:List Key)(k:Key):(stepK l k).length=if hk l k=true then l.length else l.length+1:=by
 unfold stepK
 split
 . rfl
 . rw[Q07];rfl
theorem ahW {l:List Key}{q:Key}:hk l q=true↔q∈l:=by
 unfold hk
 rw[Q2w]
 constructor
 . rintro⟨x,h1,h2⟩
   rw[<-of_decide_eq_true h2];exact h1
 . intro h
   exact⟨q,h,decide_eq_true rfl⟩
theorem Z9 {v:Nat->Key}:∀{i:Nat},((List.range i).map v).Nodup->eU v i=(List.range i).map v
 |0,_=>rfl
 |i+1,h=>by
  rw[Q2x,Q0k] at h ⊢
  obtain⟨h1,h2,h3⟩:=List.nodup_append.mp h
  show stepK (eU v i) (v i)=_
  rw[Z9 h1]
  unfold stepK
  rw[if_neg]
  . rfl
  . intro z
    exact h3 _ (ahW.mp z) (v i) (List.mem_singleton.mpr rfl) rfl
section
variable {prog:Program}{w:World}{A:Around}{R:Result->Shared->Prop}{I:Addr}{fp wr:List Addr}{G:Array GenState->Array GenState->Prop}{n:Nat}{Pp:Nat->Value->Prop}{St':Nat->Shared->Prop}
theorem ahX (W:WalksS prog w A.in1 I fp wr G n Pp St')(S:Addr)(sf:S ∉ fp)(v:Nat->Key)(hv:∀i u,Pp i u->(cJ prog w).is (v i) u=true/\u.scannable=true)(bd:n+1<scanBound):
 ∀(k i:Nat) (s:Shared),n - i=k->i<=n->St' i s->s.heap.SetOf (cJ prog w) S (λq=>hk (eU v i) q) (eU v i).length->
  (∀s',Moved (S::wr) G s s'->s'.heap.SetOf (cJ prog w) S (λq=>hk (eU v n) q) (eU v n).length->R (.ok (.ret .none)) s')->
  codeAny (model prog w) A (.builtin "set.update.loop" ⟨[.ref S,.ref I],[]⟩) R s:=by
 have sw:S ∉ wr:=λz=>sf (W.sub _ z)
 have up:∀b∈wr,b∈S::wr:=λb z=>Q0j _ z
 intro k
 induction k with
 |zero=>
  intro i s e1 e2 st so fin
  obtain rfl:i=n:=by omega
  refine codeAny_builtin PyProof.Rows.F.entry_set_update_loop ?_
  rw[Around.under_plainId PyProof.Rows.F.plain_set_update_loop _]
  show wpAny _ A.in1 (pyNext (.ref I) >>= _) _ _ s
  refine Q00 (W.done s _ _ st λs' mv=>?_)
  show wpAny _ A.in1 (ret Value.none) _ _ s'
  obtain⟨o,es,ep,t,ho,more⟩:=so
  exact Q03 (fin s' (mv.mono up) ⟨o,es,ep,t,mv.heap S _ sw ho,more⟩)
 |succ k ih=>
  intro i s e1 e2 st so fin
  have lt:i<n:=by omega
  refine codeAny_builtin PyProof.Rows.F.entry_set_update_loop ?_
  rw[Around.under_plainId PyProof.Rows.F.plain_set_update_loop _]
  show wpAny _ A.in1 (pyNext (.ref I) >>= _) _ _ s
  refine Q00 (W.item i s _ _ lt st λu s' hP st' mv=>?_)
  obtain⟨is,sc⟩:=hv i u hP
  have so':s'.heap.SetOf (cJ prog w) S (λq=>hk (eU v i) q) (eU v i).length:=by
   obtain⟨o,es,ep,tb,ho,more⟩:=so
   exact⟨o,es,ep,tb,mv.heap S _ sw ho,more⟩
  show wpAny _ A.in1 (holding [u] (setAdd S u) >>= _) _ _ s'
  refine Q00 (wpAny_holding ?_)
  unfold setAdd
  refine wpAny_holding (Q00 ((cJ prog w).pyHash (k:=v i) is ?_))
  have room:(eU v i).length+1<scanBound:=by have:=Z8 v i;omega
  refine wpAny_setAddHashed_of (knd:=cJ prog w) (s:={ s' with toks:=s'.toks+1 }) is sc so' room λh' sb mO=>?_
  have Iu:h'.SetOf (cJ prog w) S (λq=>hk (eU v (i+1)) q) (eU v (i+1)).length:=
   Z7 mO (λq=>(ahU _ _ _).symm) (ahV _ _).symm
  refine Q03 ⟨plainId_quiet PyProof.Rows.F.plain_set_update_loop _,ih (i+1) _ (by omega) lt (W.frame _ s' _ _ st' (Q13 _) λb hb o e=>?_) Iu λs'' mv' so4=>?_⟩
  . rw[sb.2 b (λz:b=S=>sf (by rw[<-z];exact hb))];exact e
  . refine fin s'' (Moved.trans W.gtrans ((mv.mono up).then_heap (Q13 _) λb o hb e=>?_) mv') so4
    rw[sb.2 b (λz:b=S=>hb (by rw[z];exact Q0f))];exact e
end
theorem ahZ:LawfulBEq Key where
 eq_of_beq:=by
  intro a b h
  cases a <;> cases b
  . exact congrArg Sum.inl (eq_of_beq (α:=Int) h)
  . cases h
  . cases h
  . exact congrArg Sum.inr (eq_of_beq (α:=Str) h)
 rfl:=by
  intro a
  cases a
  . exact BEq.rfl (α:=Int)
  . exact BEq.rfl (α:=Str)
theorem ah0 {prog:Program}{w:World}{A:Around}{E:Value->Shared->Prop}{s:Shared}{l:Addr}{its:Array Value}{v:Nat->Key}{Q:Value->Shared->Prop}(ah:A.handled=none)(il:s.heap.IsList l its)
 (hv:∀(i:Nat) (u:Value),its[i]? =some u->(cJ prog w).is (v i) u=true/\u.scannable=true) (bd:its.size+1<scanBound)
 (q:∀(h':Heap) (tk:Nat),h'.SetOf (cJ prog w) s.heap.objs.size (λk=>hk (eU v its.size) k) (eU v its.size).length->(∀b o,b<s.heap.objs.size->s.heap.get? b=some o->h'.get? b=some o)->Q (.ref s.heap.objs.size) { s with heap:=h',toks:=tk }):
 wpAny (model prog w) A (call (.type "set") [.ref l]) Q E s:=by
 obtain⟨c,tl,mro⟩:=PySem.F.called_set.mro
 have made:=PySem.F.called_set.made
 have sub:=PySem.F.called_set.sub
 refine wpAny_call (codeAny_of_tree ?_)
 show wpAny _ _ (callAny (.type "set") _) _ _ _
 refine Q03 ⟨Code.quiet_builtin _ (by decide+kernel),codeAny_builtin PySem.F.entry_type_call ?_⟩
 rw[Around.under_plain (weight_type_call_type "set" [.ref l] []) rfl]
 have n1:=PySem.F.called_set.notType
 have n2:=PySem.F.called_set.canCreate
 have ct:=PySem.F.typeCall_set_1 (.ref l)
 repeat (any_goals (first|assumption|wp_step))
 refine codeAny_mono (code_set_new_1 (.ref l) (E:=E) (Q₁:=λob s1=>∃ld:Bool,ob=.ref s.heap.objs.size/\s1={ s with heap:=s.heap.push { cls:=.type "set",dict:=none,data:=.set #[] 0 (.fresh 0 0 ld) } }) λld=>⟨ld,rfl,rfl⟩) λr s1 hr=>?_
 cases r with
 |error e=>exact hr
 |ok fl=>
  cases fl with
  |ret ob=>
   obtain⟨ld,rfl,rfl⟩:=hr
   have gS:(s.heap.push { cls:=.type "set",dict:=none,data:=.set #[] 0 (.fresh 0 0 ld) }).get? s.heap.objs.size=some { cls:=.type "set",dict:=none,data:=.set #[] 0 (.fresh 0 0 ld) }:=Q0d _ rfl
   have ty:Shared.TypeIs { s with heap:=s.heap.push { cls:=.type "set",dict:=none,data:=.set #[] 0 (.fresh 0 0 ld) } } (.ref s.heap.objs.size) "set":=⟨_,gS,rfl⟩
   have li:=PySem.F.called_set.init.lookup
   have bi:=PySem.F.called_set.init.bind (.ref s.heap.objs.size)
   repeat (any_goals (first|assumption|wp_step))
   refine codeAny_mono (codeAny_call_builtin (R:=wants (λr s2=>r=.none/\∃h' tk,s2={ s with heap:=h',toks:=tk }/\h'.SetOf (cJ prog w) s.heap.objs.size (λk=>hk (eU v its.size) k) (eU v its.size).length/\
    (∀b o,b<s.heap.objs.size->s.heap.get? b=some o->h'.get? b=some o)) E) PySem.F.called_set.init.plain PySem.F.entry_set_init (check_set_init_1 ty ?_)) λr2 s2 hr2=>?_
   . obtain⟨ol,hol,Iv,nl,dl⟩:=il
     obtain⟨oc,od,oda,osl⟩:=ol
     have Iv:oc=.type "list":=Iv
     have dl:oda=.seq its nl:=dl
     subst Iv
     subst dl
     have hol':(s.heap.push { cls:=.type "set",dict:=none,data:=.set #[] 0 (.fresh 0 0 ld) }).get? l=some { cls:=.type "list",dict:=od,data:=.seq its nl,slots:=osl }:=Q04 _ hol
     have sl1:=PySem.F.sub_list_set
     have sl2:=PySem.F.sub_list_frozenset
     have nd:(Value.type "list" == Value.type "dict")=false:=by decide
     have Z_:(s.heap.push { cls:=.type "set",dict:=none,data:=.set #[] 0 (.fresh 0 0 ld) }).IsList l its:=⟨_,hol',rfl,nl,rfl⟩
     unfold Builtin.«set.__init__» noKeywords Builtin.Frozenset.updateFrom
     generalize hPI:pyIter=PI
     wp_walk
     subst hPI
     refine wpAny_pyIter_list Z_ ?_
     refine Q00 (wpAny_runValue ?_)
     have ltl:l<s.heap.objs.size:=Q02 hol
     have ah3:A.in1.in1.in1.handled=none:=by simp[ah]
     have neI:l≠(s.heap.push { cls:=.type "set",dict:=none,data:=.set #[] 0 (.fresh 0 0 ld) }).objs.size:=by rw[Q0w];exact Q09 (Q1r ltl)
     have nin:s.heap.objs.size ∉ [(s.heap.push { cls:=.type "set",dict:=none,data:=.set #[] 0 (.fresh 0 0 ld) }).objs.size,l]:=by
      rw[Q0w];simp only[Q1u,Q2y,Q2a,or_false,not_or]
      exact⟨Q09 (Q1e _),Q0n ltl⟩
     refine ahX ((Walks.list ah3 _ l neI its).toS) s.heap.objs.size nin v hv bd (its.size - 0) 0 _ (by omega) (Q0b _) ⟨⟨_,Q0d _ rfl,rfl,rfl⟩,(Z_.push _)⟩ ?sA ?sB
     case sA=>
      have g2:((s.heap.push { cls:=.type "set",dict:=none,data:=.set #[] 0 (.fresh 0 0 ld) }).push { cls:=.type "list_iterator",data:=.fields #[.ref l,.int 0 0] }).get? s.heap.objs.size=some { cls:=.type "set",dict:=none,data:=.set #[] 0 (.fresh 0 0 ld) }:=Q04 _ gS
      haveI:=ahZ
      refine Z7 (Obj.SetObjOf.setOf (knd:=cJ prog w) (setObjOf_fresh ld) g2 (by unfold scanBound;omega)) (λ_=>rfl) rfl
     case sB=>
      intro s' mv so
      obtain⟨h',g',d',tk',os'⟩:=s'
      have eg:g'=s.gens:=mv.gens
      have ed:d'=s.drawn:=mv.drawn
      have eo:os'=s.os:=mv.os
      subst eg
      subst ed
      subst eo
      show wpAny _ _ _ _ _ _
      refine Q03 ?_
      show wpAny _ _ (ret Value.none) _ _ _
      refine Q03 ⟨rfl,h',tk',rfl,so,λb o hb e=>?_⟩
      have b1:b≠s.heap.objs.size:=Q09 hb
      have b2:b≠(s.heap.push { cls:=.type "set",dict:=none,data:=.set #[] 0 (.fresh 0 0 ld) }).objs.size:=by rw[Q0w];exact Q09 (Q1r hb)
      exact mv.heap b o (by simp only[Q1u,Q2y,Q2a,or_false,not_or];exact⟨b1,b2⟩) (Q04 _ (Q04 _ e))
   . cases r2 with
     |error e=>exact hr2
     |ok fl2=>
      cases fl2 with
      |ret r=>
       obtain⟨rfl,h',tk,rfl,so,kp⟩:=hr2
       repeat (any_goals (first|assumption|wp_step))
       exact q _ _ so kp
      |_=>exact hr2.elim
  |_=>exact hr.elim
noncomputable def xJ (P:Program) (w:World) (a:Addr) (n:Nat):HO:=.ext λh=>∃S,h.SetOf (cJ P w) a S n
section
variable {X:Cx}
theorem ah5 (hc:X.calm=true):gU X (.type "set") (λxs H Q=>∃(a:Addr) (ss:List Str),xs=[.ref a]/\aC X.K H a (ss.map V.str)/\ss.length<=60/\∀p,H p=none->Q (.ref p) (upd H p (xJ X.prog X.w p (eU (λi=>Sum.inr (ss.getD i "")) ss.length).length))):=by
 intro pins s σ H xs us Q I r h
 obtain⟨a,ss,rfl,hq,Bl,q⟩:=h
 obtain⟨u,rfl,ru⟩:=vals1 r
 cases ru
 obtain⟨its,rv,pl,hz⟩:=I.list hq
 have hl:its.length=ss.length:=by rw[<-rv.length,Q06]
 have hsz:its.toArray.size=ss.length:=by rw[Q08];exact hl
 refine ah0 (v:=λi=>Sum.inr (ss.getD i "")) (I.ok.hd hc) pl.isList (λi u hu=>?_) (by rw[hsz];unfold scanBound;omega) λh' tk so kp=>?_
 . have hi:i<ss.length:=by
    have:=(Array.getElem?_eq_some_iff.mp hu).1
    rw[hsz] at this;exact this
   have h1:(ss.map V.str)[i]? =some (V.str (ss.getD i "")):=by
    rw[Q0g,Q0p,Q05 hi];rfl
   obtain⟨u',e1,t,e2⟩:=rv.get h1
   have:u=u':=by
    have hu':its.toArray[i]? =some u:=hu
    rw[List.getElem?_toArray,e1] at hu'
    exact(Option.some.inj hu').symm
   subst this
   subst e2
   exact⟨Xb _ t,rfl⟩
 . rw[hsz] at so
   obtain⟨o,es,ep,t,ho,more⟩:=so
   refine⟨.ref s.heap.objs.size,_,I.laid (h':=h') (t':=tk) (λb u e=>kp b u (Q02 e) e) (Q01 _) ?_,rfl,q _ (I.hok.fresh (Q01 _))⟩
   exact⟨⟨_,o,es,ep,t,ho,more⟩,⟨o,ho⟩,λh1 h2 ⟨S,o',es',ep',t',ho',more'⟩ k=>⟨S,o',es',ep',t',k _ ho',more'⟩⟩
theorem ah6:gU X (.builtin "len") (λxs H Q=>∃a n,xs=[.ref a]/\H a=some (xJ X.prog X.w a n)/\Q (.int n) H):=by
 intro pins s σ H xs us Q I r h
 obtain⟨a,n,rfl,ha,q⟩:=h
 obtain⟨u,rfl,ru⟩:=vals1 r
 cases ru
 obtain⟨S,o,es,ep,t,ho,hex,hd,hel,hmem,hb,hf,hn⟩:=(I.hok a _ ha).1
 refine call_len_set ho hex hd hf (by unfold scanBound at hb;omega) ⟨.int n,H,I.tok _,⟨_,by rw[hn]⟩,q⟩
end
end L2
namespace L2
open PySem PySem.StrLaws PySem.Builtin PySem.Builtin.Str
end L2
namespace L2
open PySem PySem.NumText
end L2
namespace L2
open PySem
end L2
namespace L2
open PySem PySem.Builtin PySem.Builtin.Str
end L2
namespace L2
open PySem PySem.Spec PyProof.Rows
section
variable {X:Cx}
end
end L2
namespace L2
open PySem PyProof.Rows
open PySem.Builtin PySem.Builtin.Str PySem.Builtin.Int
theorem aad:∀{ss:List Str}{its:List Value},Vals (ss.map V.str) its->∃l:List (Str × Tok),strValues l=its/\l.map (·.1)=ss
 |[],[],.nil=>⟨[],rfl,rfl⟩
 |s::ss,_::_,.cons r t=>by
  obtain⟨k,rfl⟩:=r
  obtain⟨l,rfl,rfl⟩:=aad t
  exact⟨(s,k)::l,rfl,rfl⟩
section
variable {X:Cx}
theorem ah7:Ae X "str.join" (λx vs H Q=>∃z a ss,x=.str z/\vs=[.ref a]/\aC X.K H a (ss.map V.str)/\JoinOk z ss=true/\Q (.str (Txt.join z ss)) H):=by
 intro pins s σ H x vs v us Q I rx rv h
 obtain⟨z,a,ss,rfl,rfl,hq,hok,q⟩:=h
 obtain⟨t,rfl⟩:=rx
 obtain⟨u1,rfl,r1⟩:=vals1 rv
 cases r1
 obtain⟨its,r',pl,hz⟩:=I.list hq
 obtain⟨l,rfl,rfl⟩:=aad r'
 exact SC.join pl.isList rfl hok λt' k=>⟨.str _,H,I.tok _,⟨_,rfl⟩,q⟩
end
end L2
namespace Pb
open PySem L2
theorem boot_isinstance:bootBuiltins "isinstance"=some (.builtin "isinstance"):=by decide+kernel
theorem boot_sorted:bootBuiltins "sorted"=some (.builtin "sorted"):=by decide+kernel
theorem boot_all:bootBuiltins "all"=some (.builtin "all"):=by decide+kernel
theorem boot_int:bootBuiltins "int"=some (.type "int"):=by decide+kernel
theorem boot_bool:bootBuiltins "bool"=some (.type "bool"):=by decide+kernel
theorem boot_str:bootBuiltins "str"=some (.type "str"):=by decide+kernel
theorem boot_list:bootBuiltins "list"=some (.type "list"):=by decide+kernel
theorem boot_tuple:bootBuiltins "tuple"=some (.type "tuple"):=by decide+kernel
theorem boot_set:bootBuiltins "set"=some (.type "set"):=by decide+kernel
theorem boot_dict:bootBuiltins "dict"=some (.type "dict"):=by decide+kernel
structure Tb (mg:Str->Option Value):Prop where
 dG:mg "len"=none
 cC:mg "isinstance"=none
 Iw:mg "sorted"=none
 xK:mg "all"=none
 uc:mg "range"=none
 Iz:mg "enumerate"=none
 aae:mg "zip"=none
 xM:mg "int"=none
 Bm:mg "bool"=none
 ud:mg "str"=none
 lH:mg "list"=none
 mQ:mg "tuple"=none
 jf:mg "dict"=none
 ah8:mg "set"=none
 ah9:mg "reversed"=none
structure Dn (K:W.Frag) (mg:Str->Option Value) (x:Str) (ps:List Str) (st:Stmt) (f:Addr) (fd:FuncData):Prop where
 F:lE K x x st f fd
 b:Binds K fd ps []
 m:mg x=some (.ref f)
theorem aR {X:Cx}{k:Nat}{f:Addr}{fd:FuncData}{ps:List Str}{sp:Sp}{x:Str}{p pos:Pos}{e:Expr}{es:List Expr}{t:TA}{st:Stmt}(F:aq X.prog X.w X.K X.mg X.base aB k f fd ps sp)(hr:cU k X.A)(D:Dn X.K X.mg x ps st f fd)(ha:PA X (e::es) t)(hg:Gl X x:=by rfl)(hdb:(x == ("__debug__":Str))=false:=by decide)(he:starEach (e::es) X.env=(false,eval e X.env)::starEach es X.env:=by rfl)(hpl:(backTo pos (starEach es X.env)).any (·.1)=false:=by rfl):PE X (.Call (.Name x p) (e::es) [] pos) (pU sp [] E0 t):=XQ F hr hg D.m D.F.kp D.b .nil eN ha hdb he hpl
abbrev cN:List Str:=["_law_script","_law_at"]
abbrev dW:List Str:=["kind","value"]
abbrev g_:List Str:=["self","name"]
abbrev jg:List Str:=["self","new"]
abbrev jh:List Str:=["_law_found","_law_due"]
abbrev j4:List Str:=["fields","record"]
abbrev j5:List Str:=["kind","step","path","value"]
abbrev mR:List Str:=["self","kind"]
abbrev mU:List Str:=["self"]
abbrev oG:List Str:=["_law_script","_law_at","_law_kind_here","_law_room"]
abbrev oH:List Str:=["pairs"]
abbrev qg:List Str:=["self","kind","source"]
abbrev qj:List Str:=["kind","step","value"]
abbrev qm:List Str:=["kind","paper","value"]
abbrev qp:List Str:=["path","kind","old","new"]
abbrev uf:List Str:=["fields","name"]
abbrev ug:List Str:=["view","kind","source"]
abbrev uh:List Str:=["self","paper"]
abbrev um:List Str:=["_law_names_here","_law_value_here"]
abbrev uo:List Str:=["_law_hooks","_law_old","_law_new"]
abbrev Bo:List Str:=["_law_script","_law_at","_law_many"]
abbrev Bp:List Str:=["_law_script","_law_at","_law_deep"]
abbrev Bq:List Str:=["_law_script","_law_at","_law_many","_law_deep"]
abbrev Br:List Str:=["kind","names"]
abbrev Bs:List Str:=["fields","names"]
abbrev Bt:List Str:=["record","names"]
abbrev Bu:List Str:=["self","names"]
abbrev Bv:List Str:=["kind","seen"]
abbrev Bw:List Str:=["self","kind","source","seen"]
abbrev Bx:List Str:=["fields","step","path","record"]
abbrev BJ:List Str:=["path","fields","old","new"]
abbrev BK:List Str:=["kind","old","new"]
abbrev BL:List Str:=["self","view","old"]
abbrev BP:List Str:=["self","name","seen"]
abbrev BR:List Str:=["self","name","view"]
abbrev BW:List Str:=["kind","source"]
abbrev BX:List Str:=["self","at"]
abbrev BZ:List Str:=["_law_desk","_law_paper"]
abbrev B_:List Str:=["_law_desk","_law_name","_law_seen"]
abbrev Ca:List Str:=["_law_desk"]
abbrev Cd:List Str:=["_law_row","_law_m"]
abbrev Ce:List Str:=["_law_script","_law_at","_law_fields_here","_law_value_here","_law_many"]
abbrev Cg:List Str:=["_law_names_here","_law_m"]
abbrev Ci:List Str:=["_law_desk","_law_hooks","_law_past"]
abbrev Cj:List Str:=["_law_script","_law_at","_law_desk","_law_hooks","_law_fields_here","_law_past","_law_way"]
abbrev Ck:List Str:=["_law_script","_law_at","_law_desk","_law_hooks","_law_fields_here"]
noncomputable def jB (K:W.Frag) (H:Hp) (a:Addr) (ns:List Int):Prop:=
 (∃o,H a=some (.cu o (.lst (ns.map V.int))))\/
   ∃(o:Obj) (its:Array Value) (n:Nat),K.lookup a=some o/\o.cls=.type "list"/\o.dict=none/\o.data=.seq its n/\its.size<=sizeLine/\Vals (ns.map V.int) its.toList
theorem jB.sq {K:W.Frag}{H:Hp}{a:Addr}{ns:List Int}(h:jB K H a ns):aC K H a (ns.map V.int):=by
 rcases h with⟨o,h⟩|h
 . exact .inl (.inr ⟨o,h⟩)
 . exact .inr h
noncomputable def SB (b:Addr) (H H':Hp):Prop:=∀c o,c≠b->H c=some o->H' c=some o
theorem SB.refl (b:Addr)(H:Hp):SB b H H:=λ_ _ _ h=>h
theorem SB.trans {b:Addr}{H H1 H2:Hp}(x:SB b H H1)(y:SB b H1 H2):SB b H H2:=λc o n h=>y c o n (x c o n h)
theorem SB.of {b:Addr}{H H':Hp}(s:Same H H'):SB b H H':=λc o _ h=>s c o h
theorem SB.wr {b:Addr}{H:Hp}{o:HO}:SB b H (upd H b o):=λc u n h=>by rw[au n];exact h
theorem SB.new {b p:Addr}{H:Hp}{o:HO}(h:H p=none):SB b H (upd H p o):=λc u n q=>by rw[au (aN q h)];exact q
structure G0 (K:W.Frag) (H:Hp) (a b:Addr) (ns:List Int) (n:Int):Prop where
 jC:jB K H a ns
 len:ns.length<=63
 at_:H b=some (.lst [.int n])
 pos:0<=n
theorem SB.jC {K:W.Frag}{b:Addr}{H H':Hp}{a:Addr}{ns:List Int}{n:Int}(x:SB b H H')(hb:H b=some (.lst [.int n]))(h:jB K H a ns):jB K H' a ns:=by
 rcases h with⟨o,h⟩|h
 . exact .inl ⟨o,x a _ (kY h hb (by intro z;cases z)) h⟩
 . exact .inr h
theorem SB.tu {b:Addr}{H H':Hp}{n:Int}(x:SB b H H')(hb:H b=some (.lst [.int n])):Tu H H':=λc xs h=>x c _ (kY h hb (by intro z;cases z)) h
theorem G0.go {K:W.Frag}{H H':Hp}{a b:Addr}{ns:List Int}{n n':Int}(g:G0 K H a b ns n)(x:SB b H H')(h:H' b=some (.lst [.int n']))(hn:n<=n'):G0 K H' a b ns n':=
 ⟨x.jC g.at_ g.jC,g.len,h,by have:=g.pos;omega⟩
theorem Same.new {H:Hp}{p:Addr}{o:HO}(h:H p=none):Same H (upd H p o):=λc u q=>by rw[au (aN q h)];exact q
theorem int_at {ns:List Int}{z:Int}(h0:0<=z)(h1:z<ns.length):dZ (ns.map V.int) z=some (.int (ns.getD z.toNat 0)):=by
 obtain⟨j,rfl⟩:∃j:Nat,z=(j:Int):=⟨z.toNat,by omega⟩
 rw[Q1v]
 exact mG (by rw[Q0g,Q0p,Q05 (by omega)];rfl)
theorem uq {A B:TS}{D:Ends}{σ:L2.St}{H:Hp}(Pv:L2.St->Hp->Prop)(hB:∀σ' H',Pv σ' H'->B D σ' H')(hA:(∀σ' H',Pv σ' H'->B D σ' H')->A { D with nx:=B D } σ H):Gg A B D σ H:=hA hB
theorem new1 {H:Hp}{p:Addr}(hp:H p=none)(o:HO):∃H',upd H p o=H'/\Same H H'/\H' p=some o:=⟨_,rfl,Same.new hp,aF⟩
noncomputable def mV (K:W.Frag):Sp:=λvs H Q _=>∃a b ns n,vs=[.ref a,.ref b]/\G0 K H a b ns n/\n<=1000000000000/\
 ∀(r:Int) (H':Hp),0<=r->r<1999999973->SB b H H'->H' b=some (.lst [.int (n+1)])->Q (.int r) H'
noncomputable def aaf (K:W.Frag):Sp:=λvs H Q _=>∃a b ns n,vs=[.ref a,.ref b]/\G0 K H a b ns n/\n<=1000000000000/\
 ∀(v:V) (k:Kd) (H':Hp),SB b H H'->H' b=some (.lst [.int (n+1)])->KA H' v k->jY k->Q v H'
noncomputable def IK (K:W.Frag):Sp:=λvs H Q _=>∃a b ns n,vs=[.ref a,.ref b]/\G0 K H a b ns n/\n<=1000000000000/\
 ∀(z:Int) (H':Hp),SB b H H'->H' b=some (.lst [.int (n+1)])->Q (.int z) H'
noncomputable def IV (K:W.Frag):Sp:=λvs H Q _=>∃a b ns n,vs=[.ref a,.ref b]/\G0 K H a b ns n/\n<=1000000000000/\
 ∀(z:Str) (H':Hp),SB b H H'->H' b=some (.lst [.int (n+1)])->Q (.str z) H'
variable {P:Program}{w:World}{K:W.Frag}{mg:Str->Option Value}{base:Heap}
theorem aag:bA ["_law_script","_law_at","_law_cell","_law_m"] ["_law_script","_law_at"] (aL (top 64)):=by refine⟨rfl,rfl,rfl,?_,rfl,?_,?_⟩ <;> decide+kernel
theorem ah_ (T:Tb mg)(dB:Dn K mg "_law_next" cN (top 64) gj gk):aq P w K mg base aB (1) gj gk cN (mV K):=by
 refine dB.F.ok aag (λvs H Q E h=>?_) (λcdv A outer s H vs Q E hr h=>?_)
 . obtain⟨a,b,ns,n,rfl,_⟩:=h
   rfl
 obtain⟨a,b,ns,n,rfl,g,hn,q⟩:=h
 have nd:=aag.nd
 refine⟨_,(ao (qT (aU mz (aZ eO (pv 1) aG (λ_ _=>rfl)) aG) (aeA (pv 1) aG set_list))
  (ao (bw (i:=2) nd rfl (Or.inl rfl) (lA (aV wu (aY d8 (by rfl) T.dG PySem.boot_len (aj (pv 0) ak)) aG (aQ _)) (aZ eO (pv 0) (aU dh (aZ eO (pv 1) aG (λ_ _=>rfl)) (aY d8 (by rfl) T.dG PySem.boot_len (aj (pv 0) ak))) (λ_ _=>rfl)) aG))
  (ao (bw (i:=3) nd rfl (Or.inl rfl) (aU dh (aU mC (aU mz (aU mz (aU dh (pv 2) aG) (aU mC (aU mC (aZ eO (pv 1) aG (λ_ _=>rfl)) (aZ eO (pv 1) aG (λ_ _=>rfl))) aG)) aG) aG) aG))
  (aD (aP (aU dh (aU mC (pv 3) (pv 3)) aG)))))),?_⟩
 have hb:=g.at_
 have hp:=g.pos
 have hS:aC K (upd H b (.lst [.int (n+1)])) a (ns.map V.int):=(SB.wr.jC hb g.jC).sq
 have hb':upd H b (.lst [.int (n+1)]) b=some (.lst [.int (n+1)]):=aF
 refine⟨_,rfl,b,_,_,_,rfl,rfl,aC.of hb,rfl,_,_,rfl,rfl,_,rfl,b,_,_,0,rfl,rfl,hb,rfl,?_⟩
 dsimp only[cF]
 refine uq (A:=nJ _ _) (λσ' H'=>H'=upd H b (.lst [.int (n+1)])/\∃c:Int,σ'=[some (.ref a),some (.ref b),some (.int c),none]) ?_ (λhB=>?_)
 rotate_left
 . refine⟨_,rfl,a,_,rfl,.inl hS,_,_,rfl,rfl,_,rfl,?_⟩
   have hl:(ns.map V.int).length=ns.length:=Q06 _
   refine dM (λc=>?_) (λc=>?_)
   . have c':(0:Int)<((ns.map V.int).length:Nat):=of_decide_eq_true c
     rw[hl] at c'
     have i0:=Q11 (n+1) (show(ns.length:Int)≠0 by omega)
     have i1:=Q12 (n+1) c'
     refine⟨_,rfl,_,rfl,b,_,_,_,rfl,rfl,aC.of hb',rfl,_,rfl,a,_,rfl,.inl hS,_,_,rfl,rfl,by rw[hl];exact c',a,_,_,_,rfl,rfl,hS,by rw[hl];exact int_at i0 i1,?_⟩
     exact hB _ _ ⟨rfl,_,rfl⟩
   . exact hB _ _ ⟨rfl,_,rfl⟩
 rintro _ H2 ⟨rfl,c,rfl⟩
 refine⟨_,rfl,_,_,rfl,rfl,(by show(0:Int)<_;decide),_,rfl,b,_,_,_,rfl,rfl,aC.of hb',rfl,_,rfl,b,_,_,_,rfl,rfl,aC.of hb',rfl,_,_,rfl,rfl,.inl ⟨by omega,by omega⟩,_,_,rfl,rfl,.inr ⟨by decide,by decide⟩,
  _,_,rfl,rfl,_,_,rfl,rfl,_,_,rfl,rfl,.inr ⟨by decide,by decide⟩,_,_,rfl,rfl,(by show(0:Int)<_;decide),?_⟩
 refine⟨_,rfl,_,rfl,_,_,rfl,rfl,.inl ⟨?_,?_⟩,_,_,rfl,rfl,(by show(0:Int)<_;decide),q _ _ (Q11 _ (by decide)) (Q12 _ (by decide)) SB.wr hb'⟩
 . exact Int.lt_of_lt_of_le (by decide) (Q11 _ (by decide))
 . exact Int.lt_trans (Q12 _ (by decide)) (by decide)
theorem aah:bA ["_law_script","_law_at"] ["_law_script","_law_at"] (aL (top 68)):=by refine⟨rfl,rfl,rfl,?_,rfl,?_,?_⟩ <;> decide+kernel
theorem aia (T:Tb mg)(ur:Dn K mg "_law_plain" cN (top 68) IW I_)(dB:Dn K mg "_law_next" cN (top 64) gj gk)(gD:aq P w K mg base aB (1) gj gk cN (mV K)):aq P w K mg base aB (2) IW I_ cN (aaf K):=by
 refine ur.F.ok aah (λvs H Q E h=>?_) (λcdv A outer s H vs Q E hr h=>?_)
 . obtain⟨a,b,ns,n,rfl,_⟩:=h
   rfl
 obtain⟨a,b,ns,n,rfl,g,hn,q⟩:=h
 have nd:=aah.nd
 refine⟨_,(aD (aP (aZ eO (fu (aj (cO (aj bD ak)) (aj (cO (aj bD ak)) ak))) (aU dh (aR gD (hr.mono (by decide)) dB (aj (pv 0) (aj (pv 1) ak))) aG) (λ_ _=>rfl)))),?_⟩
 refine⟨gR,λp1 hp1=>⟨gR,λp2 hp2=>⟨dg,λp3 hp3=>?_⟩⟩⟩
 obtain⟨H1,e1,s1,f1⟩:=new1 hp1 (.tup [.str "number"])
 rw[e1] at hp2 hp3 ⊢
 obtain⟨H2,e2,s2,f2⟩:=new1 hp2 (.tup [.str "word"])
 rw[e2] at hp3 ⊢
 obtain⟨H3,e3,s3,f3⟩:=new1 hp3 (.lst [.ref p1,.ref p2])
 rw[e3]
 have t3:=s1.trans (s2.trans s3)
 refine⟨_,rfl,_,rfl,a,b,ns,n,rfl,g.go (SB.of t3) (t3 _ _ g.at_) (Q1c _),hn,λr H4 r0 r1 s4 h4=>?_⟩
 have npb:p3≠b:=λz=>by rw[z,s2 _ _ (s1 _ _ g.at_)] at hp3;cases hp3
 have f4:=s4 _ _ npb f3
 have tu:=s4.tu (t3 _ _ g.at_)
 have sb:SB b H H4:=(SB.of t3).trans s4
 have h01:r % 2=0\/r % 2=1:=by omega
 rcases h01 with e|e
 . refine⟨_,_,rfl,rfl,(by show(0:Int)<_;decide),p3,_,_,.ref p1,rfl,rfl,aC.of f4,by show dZ [V.ref p1,V.ref p2] (r % 2)=_;rw[e];rfl,q _ .num _ sb h4 (by unfold KA;exact⟨p1,rfl,tu _ _ (s3 _ _ (s2 _ _ f1))⟩) trivial⟩
 . refine⟨_,_,rfl,rfl,(by show(0:Int)<_;decide),p3,_,_,.ref p2,rfl,rfl,aC.of f4,by show dZ [V.ref p1,V.ref p2] (r % 2)=_;rw[e];rfl,q _ .gh _ sb h4 (by unfold KA;exact⟨p2,rfl,tu _ _ (s3 _ _ f2)⟩) trivial⟩
theorem aic (n:Nat)(h:n<=1000):Builtin.Str.tooLong n=false:=by
 have:n<=sizeLine:=Q0m (cP h)
 unfold Builtin.Str.tooLong
 exact decide_eq_false (by omega)
theorem aie {sep:Str}{ss:List Str}(h1:ss.length<=1000)(h2:∀x∈ss,x.length<=100)(h3:sep.length<=100):JoinOk sep ss=true:=by
 unfold JoinOk
 rw[StrLaws.joinTotal]
 have hs:∀(l:List Str),(∀x∈l,x.length<=100)->(l.map (·.length)).sum<=100 * l.length:=by
  intro l
  induction l with
  |nil=>intro _;exact Q01 _
  |cons x l ih=>
   intro h
   have a:=h x Q0f
   have b:=ih λy hy=>h y (Q0j _ hy)
   show x.length+(l.map (·.length)).sum<=100 * (l.length+1)
   omega
 have a:=hs ss h2
 have b:ss.length * sep.length<=1000 * 100:=Nat.mul_le_mul h1 h3
 have c:(ss.map (·.length)).sum+ss.length * sep.length<=200000:=by omega
 have d:Builtin.Str.tooLong ((ss.map (·.length)).sum+ss.length * sep.length)=false:=by
  unfold Builtin.Str.tooLong
  exact decide_eq_false (Nat.not_lt.mpr (Q0c c (by decide)))
 rw[d];rfl
theorem Ja {i m:Nat}{te:TE}{σ:L2.St}{H:Hp}{Q:VK}(Pv:Nat->List V->Hp->Prop)(hi:σ[i]? =some (some (.int m)))(hm:m<=1000)(h0:Pv 0 [] H)(hl:∀j ys H',Pv j ys H'->ys.length=j)
 (hs:∀(j:Nat) ys H',j<m->Pv j ys H'->∀R:V->Hp->Prop,(∀y H2,Pv (j+1) (ys++[y]) H2->R y H2)->te (some (.int j)::σ) H' R) (hd:∀ys H',Pv m ys H'->∀p,H' p=none->Q (.ref p) (upd H' p (.lst ys))):
 Aj 1 (Xp (cA (bC i) fX)) (cF 0) fZ te σ H Q:=by
 refine⟨_,hi,_,rfl,by omega,by omega,λj k ys H'=>k=m - j/\j<=m/\Pv j ys H',⟨m,by omega,Q0b _,h0⟩,?_⟩
 rintro j k ys H' ⟨rfl,hj,hp⟩
 have em:Int.toNat (m:Int)=m:=by omega
 by_cases hlt:j<m
 . refine .inr ⟨by show j<Int.toNat (m:Int);omega,by rw[hl _ _ _ hp];exact cP (by omega),λx H2 y=>?_⟩
   obtain⟨rfl,rfl⟩:=y
   refine⟨rfl,yes (bZ ?_)⟩
   rw[Int.zero_add]
   exact hs j ys H2 hlt hp _ λy H3 h=>⟨m - (j+1),by omega,rfl,by omega,h⟩
 . have ej:j=m:=by omega
   subst ej
   exact .inl ⟨by show Int.toNat (j:Int)<=j;omega,hd ys H' hp⟩
theorem aai:bA ["_law_script","_law_at","_law_m","_law_cell"] ["_law_script","_law_at"] (aL (top 65)):=by refine⟨rfl,rfl,rfl,?_,rfl,?_,?_⟩ <;> decide+kernel
theorem aif (T:Tb mg)(oJ:Dn K mg "_law_number" cN (top 65) xO xP)(dB:Dn K mg "_law_next" cN (top 64) gj gk)(gD:aq P w K mg base aB (1) gj gk cN (mV K)):aq P w K mg base aB (2) xO xP cN (IK K):=by
 refine oJ.F.ok aai (λvs H Q E h=>?_) (λcdv A outer s H vs Q E hr h=>?_)
 . obtain⟨a,b,ns,n,rfl,_⟩:=h
   rfl
 obtain⟨a,b,ns,n,rfl,g,hn,q⟩:=h
 have nd:=aai.nd
 refine⟨_,(ao (bw (i:=2) nd rfl (Or.inl rfl) (aR gD (hr.mono (by decide)) dB (aj (pv 0) (aj (pv 1) ak))))
  (ao (bw (i:=3) nd rfl (Or.inl rfl) (lA (aV wu (aY d8 (by rfl) T.dG PySem.boot_len (aj (pv 0) ak)) aG (aQ _)) (aZ eO (pv 0) (aU dh (aZ eO (pv 1) aG (λ_ _=>rfl)) (aY d8 (by rfl) T.dG PySem.boot_len (aj (pv 0) ak))) (λ_ _=>rfl)) aG))
  (ao (aW (aV bF (aU dh (pv 2) aG) aG (aQ _)) (aD (aP (aU Gs (aU dh (aU ju (pv 2) aG) aG) aG))) aX)
  (aD (aP (aU Gs (aU dh (aU mz (aU dh (pv 3) (aU zZ aG aG)) (aU mC (pv 2) (aU zZ aG aG))) (aU mC aG (aU zZ aG aG))) (aU zZ aG aG))))))),?_⟩
 refine⟨_,rfl,_,rfl,a,b,ns,n,rfl,g,hn,λr H1 r0 r1 s1 h1=>?_⟩
 have g1:=g.go s1 h1 (by omega)
 have hS:=g1.jC.sq
 have hp:=g.pos
 dsimp only[cF]
 refine uq (A:=nJ _ _) (λσ' H'=>H'=H1/\∃c:Int,σ'=[some (.ref a),some (.ref b),some (.int r),some (.int c)]) ?_ (λhB=>?_)
 rotate_left
 . refine⟨_,rfl,a,_,rfl,.inl hS,_,_,rfl,rfl,_,rfl,?_⟩
   have hl:(ns.map V.int).length=ns.length:=Q06 _
   refine dM (λc=>?_) (λc=>?_)
   . have c':(0:Int)<((ns.map V.int).length:Nat):=of_decide_eq_true c
     rw[hl] at c'
     have i0:=Q11 (n+1) (show(ns.length:Int)≠0 by omega)
     have i1:=Q12 (n+1) c'
     refine⟨_,rfl,_,rfl,b,_,_,_,rfl,rfl,aC.of h1,rfl,_,rfl,a,_,rfl,.inl hS,_,_,rfl,rfl,by rw[hl];exact c',a,_,_,_,rfl,rfl,hS,by rw[hl];exact int_at i0 i1,?_⟩
     exact hB _ _ ⟨rfl,_,rfl⟩
   . exact hB _ _ ⟨rfl,_,rfl⟩
 rintro _ H2 ⟨rfl,c,rfl⟩
 have pw:Gq 10 40:=⟨by decide,by decide,by decide⟩
 have pw2:Gq 10 29:=⟨by decide,by decide,by decide⟩
 refine⟨_,rfl,_,_,rfl,rfl,(by show(0:Int)<_;decide),rfl,_,rfl,dM (λc2=>?_) (λc2=>?_)⟩
 . exact⟨_,rfl,_,_,rfl,rfl,⟨by decide,by decide⟩,_,_,rfl,rfl,(by show(0:Int)<_;decide),_,_,rfl,rfl,q _ _ s1 h1⟩
 . exact⟨_,rfl,_,_,rfl,rfl,pw,_,_,rfl,rfl,(by show(0:Int)<_;decide),_,rfl,_,_,rfl,rfl,pw2,_,_,rfl,rfl,.inl ⟨by omega,by omega⟩,_,_,rfl,rfl,_,_,rfl,rfl,pw,_,_,rfl,rfl,.inl ⟨by decide,by decide⟩,_,_,rfl,rfl,(by show(0:Int)<_;decide),_,_,rfl,rfl,pw,_,_,rfl,rfl,q _ _ s1 h1⟩
noncomputable abbrev sgn:Str:=(" !#$&'()*+,-./0123456789:;<=>?@ABCDEFGHIJKLMNOPQRSTUVWXYZ":Str)++("[\\]^_`abcdefghijklmnopqrstuvwxyz{|}~":Str)
theorem uw:sgn.length=93:=by decide+kernel
theorem aij {z:Int}(h0:0<=z)(h1:z<93):∃c,dZ sgn.cps.toList z=some c:=by
 have hl:sgn.cps.toList.length=93:=by
  have:=uw
  rw[Q1i];exact this
 unfold dZ jy
 rw[hl,if_pos h0,if_pos (show z<((93:Nat):Int) by omega)]
 exact⟨_,Q05 (by omega)⟩
theorem aaj:bA ["_law_script","_law_at","_law_signs","_law_m","_law_many"] ["_law_script","_law_at"] (aL (top 66)):=by refine⟨rfl,rfl,rfl,?_,rfl,?_,?_⟩ <;> decide+kernel
theorem aik (T:Tb mg)(oK:Dn K mg "_law_word" cN (top 66) xQ xR)(dB:Dn K mg "_law_next" cN (top 64) gj gk)(gD:aq P w K mg base aB (1) gj gk cN (mV K)):aq P w K mg base aB (2) xQ xR cN (IV K):=by
 refine oK.F.ok aaj (λvs H Q E h=>?_) (λcdv A outer s H vs Q E hr h=>?_)
 . obtain⟨a,b,ns,n,rfl,_⟩:=h
   rfl
 obtain⟨a,b,ns,n,rfl,g,hn,q⟩:=h
 have nd:=aaj.nd
 refine⟨_,(ao (bw (i:=2) nd rfl (Or.inr rfl) bD)
  (ao (bw (i:=2) nd rfl (Or.inr rfl) (aU wz (pv 2) bD))
  (ao (bw (i:=3) nd rfl (Or.inr rfl) (aR gD (hr.mono (by decide)) dB (aj (pv 0) (aj (pv 1) ak))))
  (ao (bw (i:=4) nd rfl (Or.inl rfl) (lA (aV bF (aU dh (aU ju (pv 3) aG) aG) aG (aQ _)) aG (aU dh (pv 3) aG)))
  (aD (aP (pW PySem.F.plainAttrs_str PySem.F.slot_str_join PySem.F.type_str_join ah7 bD (aj (g8 (g:=(cF 0)) (tt:=fZ) (te:=(bL _ (bC 3) (bL _ (bL _ (bL _ (bC 4) (tC (.int 145))) (bL _ (bL _ (bC 0) (bC 0)) (bL _ (bL _ (bC 4) (tC (.int 7))) (tC (.int 3))))) _))) (own:=["_law_k"]) rfl (dw.of (N:=["_law_script","_law_at","_law_signs","_law_m","_law_many"]) (sc:=aL (top 66)) rfl rfl rfl (by decide+kernel)) (wg rfl T.uc (aj (pv 4) ak)) (λ_ _ _ _ _=>(bG (i:=0) (show(["_law_k","_law_script","_law_at","_law_signs","_law_m","_law_many"]:List Str).Nodup by decide+kernel) rfl (Or.inl rfl) (.inr rfl))) (λ_ _ _ _ _=>iG) (λ_ _ _ _ _=>(aZ tK (pv 3) (aU dh (aU mz (aU ju (pv 4) aG) (aU mC (aU mC (pv 0) (pv 0)) (aU dh (aU ju (pv 4) aG) aG))) (aY afu (by rfl) T.dG PySem.boot_len (aj (pv 3) ak))) (λ_ _=>rfl)))) ak)))))))),?_⟩
 have hz1:sgn.length<=sizeLine:=by rw[uw];decide
 refine⟨_,rfl,_,_,rfl,rfl,by decide+kernel,?_⟩
 refine⟨_,rfl,_,rfl,a,b,ns,n,rfl,g,hn,λr H1 r0 r1 s1 h1=>?_⟩
 dsimp only[cF]
 refine uq (A:=nJ _ _) (λσ' H'=>H'=H1/\∃m:Nat,m<=40/\σ'=[some (.ref a),some (.ref b),some (.str sgn),some (.int r),some (.int m)]) ?_ (λhB=>?_)
 rotate_left
 . refine⟨_,rfl,_,_,rfl,rfl,⟨by decide,by decide⟩,_,_,rfl,rfl,(by show(0:Int)<_;decide),rfl,_,rfl,dM (λc=>?_) (λc=>?_)⟩
   . exact hB _ _ ⟨rfl,40,Q01 _,rfl⟩
   . exact⟨_,rfl,_,_,rfl,rfl,(by show(0:Int)<_;decide),hB _ _ ⟨rfl,(r % 5).toNat,by omega,by rw[show(((r % 5).toNat:Nat):Int)=r % 5 by omega];rfl⟩⟩
 rintro _ H2 ⟨rfl,m,hm,rfl⟩
 have em:Int.toNat (m:Int)=m:=by omega
 refine⟨rfl,Ja (λj ys H'=>H'=H2/\∃ss:List Str,ys=ss.map V.str/\ss.length=j/\∀x∈ss,x.length<=1) rfl (by omega) ⟨rfl,[],rfl,rfl,λx hx=>absurd hx (by simp)⟩ (λj ys H' h=>by obtain⟨_,ss,rfl,e,_⟩:=h;rw[Q06];exact e) ?_ ?_⟩
 . rintro j ys H' hj ⟨rfl,ss,rfl,hsl,hs1⟩ R hR
   have i0:=Q11 (r / 145+(j:Int) * (j:Int) * (r / 7 % 3)) (show((sgn.length:Nat):Int)≠0 by rw[uw];decide)
   have i1:=Q12 (r / 145+(j:Int) * (j:Int) * (r / 7 % 3)) (show(0:Int)<((sgn.length:Nat):Int) by rw[uw];decide)
   obtain⟨c,hc⟩:=aij i0 (by rw[uw] at i1 ⊢;exact i1)
   have hjj:(j:Int) * (j:Int)<=40 * 40:=Int.mul_le_mul (by omega) (by omega) (by omega) (by omega)
   have hj0:0<=(j:Int) * (j:Int):=Int.mul_nonneg (by omega) (by omega)
   refine⟨_,rfl,_,rfl,_,_,rfl,rfl,⟨by decide,by decide⟩,_,rfl,_,rfl,_,_,rfl,rfl,.inl ⟨by omega,by omega⟩,_,rfl,_,_,rfl,rfl,⟨by decide,by decide⟩,_,_,rfl,rfl,(by show(0:Int)<_;decide),_,_,rfl,rfl,.inl ⟨by omega,by omega⟩,_,_,rfl,rfl,_,rfl,_,rfl,hz1,_,_,rfl,rfl,(by show(0:Int)<((sgn.length:Nat):Int);rw[uw];decide),_,_,c,rfl,rfl,hz1,hc,hR _ _ ⟨rfl,ss++[⟨#[c]⟩],by rw[Q0k];rfl,by rw[Q07,hsl];rfl,λx hx=>?_⟩⟩
   rcases List.mem_append.mp hx with h|h
   . exact hs1 x h
   . rw[List.mem_singleton.mp h];exact Q01 _
 . rintro ys H' ⟨rfl,ss,rfl,hsl,hs1⟩ p hp
   exact⟨_,p,ss,rfl,rfl,aC.of aF,aie (by omega) (λx hx=>Q0c (hs1 x hx) (by decide)) (by decide),q _ _ (s1.trans (SB.new hp)) (by rw[au (aN h1 hp)];exact h1)⟩
noncomputable def oM (m:Int) (k:Nat):Str:=Txt.mul (lt (m / 4 % 26)) ((k:Int)+1)
noncomputable def mW (m:Int) (k:Nat):Str:=lt ((m / 624+(k:Int) * (2 * (m / 4 % 6)+1)) % 26)
noncomputable def mY (m:Int) (x:Str):Str:=if m % 4=1 then lt (m / 24 % 26)++x else x++lt (m / 24 % 26)
theorem aak (c:Nat):∀(n m:Nat),m<=n->PySem.Spec.ltCps (List.replicate n c) (List.replicate m c)=false
 |n,0,_=>by cases n <;> rfl
 |0,m+1,h=>absurd h (by omega)
 |n+1,m+1,h=>by
  rw[Q1s,Q1s]
  have:=aak c n m (by omega)
  simp[PySem.Spec.ltCps,this]
theorem ail (m:Int){i j:Nat}(h:i<=j):sle (oM m i) (oM m j):=by
 unfold sle wR
 rw[<-Zu]
 unfold oM
 rw[Ia,Ia]
 exact aak _ _ _ (by omega)
theorem ain (m:Int){i j:Nat}(h:oM m i=oM m j):i=j:=by
 have e:=congrArg Str.length h
 unfold oM at e
 rw[Zr (A_ _),Zr (A_ _)] at e
 omega
theorem aio {m:Int}{i j:Nat}(hm:0<=m)(hi:i<12)(hj:j<12)(h:mW m i=mW m j):i=j:=by
 have e:((m / 624+(i:Int) * (2 * (m / 4 % 6)+1)) % 26).toNat=((m / 624+(j:Int) * (2 * (m / 4 % 6)+1)) % 26).toNat:=by
  have e:=congrArg (λs:Str=>s.cps.toList) h
  have e:[97+((m / 624+(i:Int) * (2 * (m / 4 % 6)+1)) % 26).toNat]=[97+((m / 624+(j:Int) * (2 * (m / 4 % 6)+1)) % 26).toNat]:=e
  have e:=(List.cons.inj e).1
  omega
 have hs:m / 4 % 6=0\/m / 4 % 6=1\/m / 4 % 6=2\/m / 4 % 6=3\/m / 4 % 6=4\/m / 4 % 6=5:=by omega
 generalize m / 624=a at e
 rcases hs with s|s|s|s|s|s <;> rw[s] at e <;> omega
theorem aal {x y:Str}(h:x.cps.toList=y.cps.toList):x=y:=by
 obtain⟨⟨x⟩⟩:=x
 obtain⟨⟨y⟩⟩:=y
 have h:x=y:=h
 rw[h]
theorem aip {m:Int}{x y:Str}(h:mY m x=mY m y):x=y:=by
 unfold mY at h
 have e:=congrArg (λs:Str=>s.cps.toList) h
 split at e
 . simp only[Bb] at e
   exact aal (List.append_cancel_left e)
 . simp only[Bb] at e
   exact aal (List.append_cancel_right e)
theorem aiq (m:Int)(i:Nat):oM m i≠"qzqzqz":=λh=>by
 have e:=congrArg (λs:Str=>s.cps.toList) h
 unfold oM at e
 simp only[Ia] at e
 have e:List.replicate ((i:Int)+1).toNat (97+(m / 4 % 26).toNat)=[113,122,113,122,113,122]:=e
 have h1:(113:Nat)∈List.replicate ((i:Int)+1).toNat (97+(m / 4 % 26).toNat):=by rw[e];decide
 have h2:(122:Nat)∈List.replicate ((i:Int)+1).toNat (97+(m / 4 % 26).toNat):=by rw[e];decide
 have h1:=Q2b h1
 have h2:=Q2b h2
 omega
theorem air (m:Int)(i:Nat):mY m (mW m i)≠"qzqzqz":=λh=>by
 have e:=congrArg (λs:Str=>s.cps.toList.length) h
 unfold mY at e
 split at e
 . simp only[Bb] at e
   cases e
 . simp only[Bb] at e
   cases e
noncomputable def aam (K:W.Frag):Sp:=λvs H Q _=>∃a b ns n,∃m:Nat,vs=[.ref a,.ref b,.int m]/\m<=12/\G0 K H a b ns n/\n<=1000000000000/\
 ∀(p:Addr) (ss:List Str) (H':Hp),SB b H H'->H' b=some (.lst [.int (n+1)])->p≠b->H' p=some (.lst (ss.map V.str))->ss.length=m->ss.Nodup->ss.Pairwise sle->(∀x∈ss,x≠"qzqzqz")->Q (.ref p) H'
theorem ais {K:W.Frag}{i:Nat}{a:Addr}{xs:List V}{te:TE}{σ:L2.St}{H:Hp}{Q:VK}(Pv:Nat->List V->Hp->Prop)(hi:σ[i]? =some (some (.ref a)))(ha:aC K H a xs)(hm:xs.length<=1000)(h0:Pv 0 [] H)(hl:∀j ys H',Pv j ys H'->ys.length=j/\aC K H' a xs)
 (hs:∀(j:Nat) x ys H',xs[j]? =some x->Pv j ys H'->∀R:V->Hp->Prop,(∀y H2,Pv (j+1) (ys++[y]) H2->R y H2)->te (some x::σ) H' R) (hd:∀ys H',Pv xs.length ys H'->∀p,H' p=none->Q (.ref p) (upd H' p (.lst ys))):
 Aj 1 (Xn K (bC i)) (cF 0) fZ te σ H Q:=by
 refine⟨_,hi,a,rfl,⟨_,ha⟩,λj k ys H'=>k=xs.length - j/\j<=xs.length/\Pv j ys H',⟨xs.length,by omega,Q0b _,h0⟩,?_⟩
 rintro j k ys H' ⟨rfl,hj,hp⟩
 obtain⟨hyl,Jb⟩:=hl _ _ _ hp
 by_cases hlt:j<xs.length
 . refine .inr ⟨⟨xs,xs[j],Jb,Q05 hlt⟩,by rw[hyl];exact cP (by omega),λx H2 y=>?_⟩
   obtain⟨rfl,y⟩:=y
   refine⟨rfl,yes (bZ ?_)⟩
   exact hs j x ys H2 (y xs Jb) hp _ λy H3 h=>⟨xs.length - (j+1),by omega,rfl,by omega,h⟩
 . have ej:j=xs.length:=by omega
   subst ej
   exact .inl ⟨⟨xs,Jb,Q01 _⟩,hd ys H' hp⟩
noncomputable abbrev abc:Str:="abcdefghijklmnopqrstuvwxyz"
theorem Cm (f:Nat->Str)(i:Nat):((List.range (i+1)).map f).map V.str=((List.range i).map f).map V.str++[V.str (f i)]:=by
 rw[Q2x,Q0k,Q0k];rfl
theorem aan:bA ["_law_script","_law_at","_law_many","_law_letters","_law_m","_law_stem","_law_signs"] ["_law_script","_law_at","_law_many"] (aL (top 67)):=by refine⟨rfl,rfl,rfl,?_,rfl,?_,?_⟩ <;> decide+kernel
theorem ait (T:Tb mg)(ux:Dn K mg "_law_names" Bo (top 67) Jc Jd)(dB:Dn K mg "_law_next" cN (top 64) gj gk)(gD:aq P w K mg base aB (1) gj gk cN (mV K)):aq P w K mg base aB (2) Jc Jd Bo (aam K):=by
 refine ux.F.ok aan (λvs H Q E h=>?_) (λcdv A outer s H vs Q E hr h=>?_)
 . obtain⟨a,b,ns,n,m,rfl,_⟩:=h
   rfl
 obtain⟨a,b,ns,n,m,rfl,hm,g,hn,q⟩:=h
 have nd:=aan.nd
 refine⟨_,(ao (bw (i:=3) nd rfl (Or.inr rfl) bD)
  (ao (bw (i:=4) nd rfl (Or.inr rfl) (aR gD (hr.mono (by decide)) dB (aj (pv 0) (aj (pv 1) ak))))
  (ao (aW (aV bF (aU dh (pv 4) aG) aG (aQ _)) (aD (aP (g8 (g:=(cF 0)) (tt:=fZ) (te:=(bL _ (bL _ (bC 4) (bL _ (bL _ (bC 5) (tC (.int 4))) (tC (.int 26)))) (bL _ (bC 0) (tC (.int 1))))) (own:=["_law_k"]) rfl (dw.of (N:=["_law_script","_law_at","_law_many","_law_letters","_law_m","_law_stem","_law_signs"]) (sc:=aL (top 67)) rfl rfl rfl (by decide+kernel)) (wg rfl T.uc (aj (pv 2) ak)) (λ_ _ _ _ _=>(bG (i:=0) (show(["_law_k","_law_script","_law_at","_law_many","_law_letters","_law_m","_law_stem","_law_signs"]:List Str).Nodup by decide+kernel) rfl (Or.inl rfl) (.inr rfl))) (λ_ _ _ _ _=>iG) (λ_ _ _ _ _=>(aU agp (aZ tK (pv 4) (aU dh (aU ju (pv 5) aG) aG) (λ_ _=>rfl)) (aU mz (pv 0) aG)))))) aX)
  (ao (bw (i:=5) nd rfl (Or.inr rfl) (aZ tK (pv 3) (aU dh (aU ju (pv 4) aG) aG) (λ_ _=>rfl)))
  (ao (Hg (i:=6) nd rfl (Or.inl rfl) (g:=(cF 0)) (tt:=fZ) (te:=(bL _ (bC 4) (bL _ (bL _ (bL _ (bC 5) (tC (.int 624))) (bL _ (bC 0) (bL (GK K) (XJ (cA (tC (.int 1)) (cA (tC (.int 3)) (cA (tC (.int 5)) (cA (tC (.int 7)) (cA (tC (.int 9)) (cA (tC (.int 11)) fX))))))) (bL _ (bL _ (bC 5) (tC (.int 4))) (tC (.int 6)))))) (tC (.int 26))))) (own:=["_law_k"]) rfl (dw.of (N:=["_law_script","_law_at","_law_many","_law_letters","_law_m","_law_stem","_law_signs"]) (sc:=aL (top 67)) rfl rfl rfl (by decide+kernel)) (wg rfl T.uc (aj (pv 2) ak)) (λ_ _ _ _ _=>(bG (i:=0) (show(["_law_k","_law_script","_law_at","_law_many","_law_letters","_law_m","_law_stem","_law_signs"]:List Str).Nodup by decide+kernel) rfl (Or.inl rfl) (.inr rfl))) (λ_ _ _ _ _=>iG) (λ_ _ _ _ _=>(aZ tK (pv 4) (aU dh (aU mz (aU ju (pv 5) aG) (aU mC (pv 0) (aZ eO (fu (aj aG (aj aG (aj aG (aj aG (aj aG (aj aG ak))))))) (aU dh (aU ju (pv 5) aG) aG) (λ_ _=>rfl)))) aG) (λ_ _=>rfl))))
  (aD (aP (aY YG (by rfl) T.Iw boot_sorted (aj (g8 (g:=(cF 0)) (tt:=fZ) (te:=(Xk (mF (bL tD (bL _ (bC 5) (tC (.int 4))) (tC (.int 1)))) (bL _ (bC 6) (bC 0)) (bL _ (bC 0) (bC 6)))) (own:=["_law_sign"]) rfl (dw.of (N:=["_law_script","_law_at","_law_many","_law_letters","_law_m","_law_stem","_law_signs"]) (sc:=aL (top 67)) rfl rfl rfl (by decide+kernel)) (lB (pv 6)) (λ_ _ _ _ _=>(bG (i:=0) (show(["_law_sign","_law_script","_law_at","_law_many","_law_letters","_law_m","_law_stem","_law_signs"]:List Str).Nodup by decide+kernel) rfl (Or.inl rfl) (.inr rfl))) (λ_ _ _ _ _=>iG) (λ_ _ _ _ _=>(lA (aV bF (aU dh (pv 5) aG) aG (aQ _)) (aU wz (pv 6) (pv 0)) (aU wz (pv 0) (pv 6))))) ak))))))))),?_⟩
 refine⟨_,rfl,_,rfl,a,b,ns,n,rfl,g,hn,λr H1 r0 r1 s1 h1=>?_⟩
 have hz:(abc).length<=sizeLine:=by decide+kernel
 have l1:0<=r / 4 % 26/\r / 4 % 26<26:=by omega
 have l2:0<=r / 24 % 26/\r / 24 % 26<26:=by omega
 have m6:0<=r / 4 % 6/\r / 4 % 6<6:=by omega
 refine⟨_,rfl,_,_,rfl,rfl,(by show(0:Int)<_;decide),rfl,_,rfl,dM (λc=>?_) (λc=>?_)⟩
 . refine Ja (λj ys H'=>H'=H1/\ys=((List.range j).map (oM r)).map V.str) rfl (by omega) ⟨rfl,rfl⟩ (λj ys H' h=>by rw[h.2,Q06,Q06,Q10]) ?_ ?_
   . rintro j ys H' hj ⟨rfl,rfl⟩ R hR
     refine⟨_,rfl,_,rfl,_,_,rfl,rfl,⟨by decide,by decide⟩,_,_,rfl,rfl,(by show(0:Int)<_;decide),_,_,_,rfl,rfl,hz,Ba l1.1 l1.2,_,rfl,_,_,rfl,rfl,_,_,rfl,rfl,ahb (A_ _) (by omega) aic,hR _ _ ⟨rfl,by rw[Cm];rfl⟩⟩
   . rintro ys H' ⟨rfl,rfl⟩ p hp
     refine q p _ _ (s1.trans (SB.new hp)) (by rw[au (aN h1 hp)];exact h1) (λz=>by rw[z,h1] at hp;cases hp) aF (by rw[Q06,Q10]) (Zt λi j _ _ e=>ain r e) ?_ ?_
     . rw[Q1q]
       exact List.pairwise_lt_range.imp λh=>ail r (Q0m h)
     . intro x hx
       obtain⟨i,_,rfl⟩:=List.mem_map.mp hx
       exact aiq r i
 refine⟨_,rfl,_,rfl,_,_,rfl,rfl,⟨by decide,by decide⟩,_,_,rfl,rfl,(by show(0:Int)<_;decide),_,_,_,rfl,rfl,hz,Ba l2.1 l2.2,?_⟩
 dsimp only[cF]
 refine uq (A:=nJ _ _) (λσ' H'=>∃p,σ'=[some (.ref a),some (.ref b),some (.int m),some (.str abc),some (.int r),some (.str (lt (r / 24 % 26))),some (.ref p)]/\SB b H H'/\H' b=some (.lst [.int (n+1)])/\H' p=some (.lst (((List.range m).map (mW r)).map V.str))) ?_ (λhB=>?_)
 rotate_left
 . refine Ja (λj ys H'=>SB b H H'/\H' b=some (.lst [.int (n+1)])/\ys=((List.range j).map (mW r)).map V.str) rfl (by omega) ⟨s1,h1,rfl⟩ (λj ys H' h=>by rw[h.2.2,Q06,Q06,Q10]) ?_ ?_
   . rintro j ys H' hj ⟨s2,h2,rfl⟩ R hR
     have l3:0<=(r / 624+(j:Int) * (2 * (r / 4 % 6)+1)) % 26/\(r / 624+(j:Int) * (2 * (r / 4 % 6)+1)) % 26<26:=⟨Q11 _ (by decide),Q12 _ (by decide)⟩
     refine⟨_,rfl,_,rfl,_,_,rfl,rfl,⟨by decide,by decide⟩,_,rfl,adP,λp1 hp1=>⟨_,rfl,_,_,rfl,rfl,⟨by decide,by decide⟩,_,_,rfl,rfl,(by show(0:Int)<_;decide),p1,_,_,_,rfl,rfl,aC.of aF,ag9 m6.1 m6.2,_,_,rfl,rfl,.inl ⟨by omega,by omega⟩,_,_,rfl,rfl,_,_,rfl,rfl,(by show(0:Int)<_;decide),_,_,_,rfl,rfl,hz,Ba l3.1 l3.2,hR _ _ ⟨s2.trans (SB.new hp1),by rw[au (aN h2 hp1)];exact h2,by rw[Cm];rfl⟩⟩⟩
   . rintro ys H' ⟨s2,h2,rfl⟩ p hp
     exact hB _ _ ⟨p,rfl,s2.trans (SB.new hp),by rw[au (aN h2 hp)];exact h2,aF⟩
 rintro _ H2 ⟨p,rfl,s2,h2,hp2⟩
 have c':r % 4≠0:=λz=>c (decide_eq_true (show V.int (r % 4)=V.int 0 by rw[z]))
 dsimp only[Gh,Ab,cA]
 refine ais (K:=K) (xs:=((List.range m).map (mW r)).map V.str) (λj ys H'=>H'=H2/\ys=((List.range j).map λk=>mY r (mW r k)).map V.str) rfl (aC.of hp2) (by rw[Q06,Q06,Q10];omega) ⟨rfl,rfl⟩ (λj ys H' h=>⟨by rw[h.2,Q06,Q06,Q10],by rw[h.1];exact aC.of hp2⟩) ?_ ?_
 . rintro j x ys H' hx ⟨rfl,rfl⟩ R hR
   have hxx:x=.str (mW r j):=by
    rw[Q0g,Q0g] at hx
    cases e:(List.range m)[j]? with
    |none=>rw[e] at hx;cases hx
    |some k=>
     rw[e] at hx
     have:=List.getElem?_range (n:=m) (i:=j) (by have:=(List.getElem?_eq_some_iff.mp e).1;rw[Q10] at this;exact this)
     rw[this] at e
     cases e
     exact(Option.some.inj hx).symm
   subst hxx
   refine⟨_,rfl,_,_,rfl,rfl,(by show(0:Int)<_;decide),rfl,_,rfl,dM (λc1=>?_) (λc1=>?_)⟩
   . have e1:r % 4=1:=by
      have:=of_decide_eq_true c1
      injection this
     exact⟨_,rfl,_,rfl,_,_,rfl,rfl,dg,hR _ _ ⟨rfl,by rw[Cm];unfold mY;rw[if_pos e1]⟩⟩
   . have e1:r % 4≠1:=λz=>c1 (decide_eq_true (show V.int (r % 4)=V.int 1 by rw[z]))
     exact⟨_,rfl,_,rfl,_,_,rfl,rfl,dg,hR _ _ ⟨rfl,by rw[Cm];unfold mY;rw[if_neg e1]⟩⟩
 . rintro ys H' ⟨rfl,rfl⟩ p2 hp2'
   rw[Q06,Q06,Q10]
   have hlen:((List.range m).map λk=>mY r (mW r k)).length=m:=by rw[Q06,Q10]
   have s3:=Same.new hp2' (o:=.lst (((List.range m).map λk=>mY r (mW r k)).map V.str))
   refine⟨p2,_,rfl,aC.of aF,by rw[hlen];omega,λp' ss' hp3 hperm Je=>?_⟩
   exact q p' ss' _ ((s2.trans (SB.of s3)).trans (SB.new hp3)) (by rw[au (aN (s3 _ _ h2) hp3)];exact s3 _ _ h2) (λz=>by rw[z,s3 _ _ h2] at hp3;cases hp3) aF (hperm.length_eq.trans hlen) (hperm.nodup_iff.mpr (Zt λi j hi hj e=>aio r0 (by omega) (by omega) (aip e))) (HY Je) (λx hx=>by obtain⟨i,_,rfl⟩:=List.mem_map.mp (hperm.mem_iff.mp hx);exact air r i)
end Pb
namespace L2
open PySem PySem.Spec PyProof.Rows
noncomputable def oN (kvs more:List (Key × V)):List (Key × V):=more.foldl (λacc kv=>putK acc kv.1 kv.2) kvs
theorem KV.puts:∀{more:List (Key × V)}{vm:List (Key × Value)},KV more vm->∀{kvs:List (Key × V)}{vs:List (Key × Value)},KV kvs vs->KV (oN kvs more) (merged vs vm)
 |_,_,.nil,_,_,r=>r
 |_,_,.cons (a:=p) (b:=q) h t,kvs,vs,r=>by
  obtain⟨h1,h2⟩:=h
  have:=KV.puts t (r.put p.1 h2)
  unfold oN merged at this ⊢
  rw[Q1t,Q1t,<-h1]
  exact this
theorem aiu (kvs:List (Key × V))(k:Key)(v:V):(putK kvs k v).length<=kvs.length+1:=by
 unfold putK
 split
 . rw[Q06];omega
 . rw[Q07];exact Q01 _
theorem aao:∀(more kvs:List (Key × V)),(oN kvs more).length<=kvs.length+more.length
 |[],kvs=>Q01 _
 |p::r,kvs=>by
  have:=aao r (putK kvs p.1 p.2)
  have h2:=aiu kvs p.1 p.2
  have e:oN kvs (p::r)=oN (putK kvs p.1 p.2) r:=rfl
  rw[e,Q0r];omega
section
variable {X:Cx}
noncomputable def aiv:V->List V->Hp->VK->Prop:=λx vs H Q=>∃a b kvs more,x=.ref a/\vs=[.ref b]/\a≠b/\H a=some (.dK kvs)/\H b=some (.dK more)/\kvs.length+more.length<=sizeLine/\Q .non (upd H a (.dK (oN kvs more)))
theorem aap:wA X "dict.update" aiv:=by
 intro pins s σ H x vs v us Q I rx rv h
 obtain⟨a,b,kvs,more,rfl,rfl,ne,hA,hB,hz,q⟩:=h
 obtain⟨u,rfl,ru⟩:=vals1 rv
 cases rx
 cases ru
 obtain⟨z,hd,wa,rel,dd⟩:=wD I.hok hA
 obtain⟨z2,hd2,wb,aaq,dd2⟩:=wD I.hok hB
 refine call_meetsIn PySem.F.slot_dict_update dd.typeIs PySem.F.entry_dict_update (PySem.F.args_dict_update_2 _ _) (meets_dict_update (cJ X.prog X.w) a b ne hd2) ⟨wa,wb,dd,dd2,by rw[<-rel.length,<-aaq.length];exact hz,λh' mJ _ hs=>?_⟩
 have he:∃q,h'.get? a=some q:=let⟨q,_,_,hq,_⟩:=mJ;⟨q,hq⟩
 exact⟨.non,_,Ah (t':=s.toks) I (by rw[hA];exact True.intro) hs he (G4 (Q0c (aao more kvs) hz) hd (aaq.puts rel) mJ),rfl,q⟩
end
section
variable {X:Cx}{N':List Str}{e:Expr}{t:TE}
structure uy (X:Cx) (N':List Str):Prop where
 len:N'.length=X.N.length
 old:∀(i:Nat) y,N'[i]? =some y->X.N[i]? =some y\/¬zM X.env.scope y
theorem Inv.ren {pins:List (Addr × Obj)}{σ:St}{H:Hp}{s:Shared}(r:uy X N')(I:Inv X pins σ H s):Inv { X with N:=N' } pins σ H s:=by
 refine⟨⟨I.ok.mod,I.ok.kind,I.ok.glob,I.ok.blt,I.ok.above,I.ok.inj,I.ok.has,I.ok.cab,I.ok.hd,I.ok.frames,I.ok.stk,I.ok.vZ,I.ok.bs,I.ok.jo,I.ok.pI,I.ok.qN,I.ok.iy,I.ok.lY⟩,I.os,I.bare,I.base,?_,I.cell,I.free,I.fO,I.pin,I.hok,I.len.trans r.len.symm⟩
 obtain⟨m,h1,h2⟩:=I.loc
 refine⟨m,h1,λi x v hi hs Cp=>?_⟩
 rcases r.old i x hi with h|h
 . exact h2 i x v h hs Cp
 . exact absurd Cp h
theorem Inv.aix {pins:List (Addr × Obj)}{σ:St}{H:Hp}{s:Shared}(r:uy X N')(hσ:∀(i:Nat) v,X.N[i]? ≠N'[i]? ->σ[i]? ≠some (some v))(I:Inv { X with N:=N' } pins σ H s):Inv X pins σ H s:=by
 refine⟨⟨I.ok.mod,I.ok.kind,I.ok.glob,I.ok.blt,I.ok.above,I.ok.inj,I.ok.has,I.ok.cab,I.ok.hd,I.ok.frames,I.ok.stk,I.ok.vZ,I.ok.bs,I.ok.jo,I.ok.pI,I.ok.qN,I.ok.iy,I.ok.lY⟩,I.os,I.bare,I.base,?_,I.cell,I.free,I.fO,I.pin,I.hok,I.len.trans r.len⟩
 obtain⟨m,h1,h2⟩:=I.loc
 refine⟨m,h1,λi x v hi hs Cp=>?_⟩
 by_cases hn:X.N[i]? =N'[i]?
 . exact h2 i x v (by rw[<-hn];exact hi) hs Cp
 . exact absurd hs (hσ i v hn)
noncomputable def aiy (N N':List Str) (t:TE):TE:=λσ H Q=>(∀(i:Nat) v,N[i]? ≠N'[i]? ->σ[i]? ≠some (some v))/\t σ H Q
theorem aiz (r:uy X N')(h:PE { X with N:=N' } e t):PE X e (aiy X.N N' t):=by
 intro pins s σ H Q I q
 refine aM (h pins s σ H Q (I.ren r) q.2) λv s1 ⟨x,H1,I1,r1,q1⟩=>?_
 exact⟨x,H1,I1.aix r q.1,r1,q1⟩
theorem uy.of {N:List Str}{sc:Scope}(hN:X.N=N)(hs:X.env.scope=sc)(hl:N'.length=N.length)(hb:(List.zip N' N).all (λp=>p.1 == p.2 || ((sc.names.lookup p.1 != some .local) && (sc.names.lookup p.1 != some .cell) && (sc.names.lookup p.1 != some .free)))=true):uy X N':=by
 subst hN
 subst hs
 refine⟨hl,λi y hy=>?_⟩
 have hi:=(List.getElem?_eq_some_iff.mp hy).1
 have hx:X.N[i]? =some (X.N[i]'(by omega)):=Q05 _
 have hm:(y,X.N[i]'(by omega))∈List.zip N' X.N:=by
  refine Q0y (i:=i) ?_
  rw[Q2z]
  exact⟨hy,hx⟩
 have:=List.all_eq_true.mp hb _ hm
 simp only[Bool.or_eq_true,Bool.and_eq_true,beq_iff_eq,bne_iff_ne] at this
 rcases this with h|⟨⟨h1,h2⟩,h3⟩
 . exact .inl (by rw[hx,h])
 . exact .inr λz=>z.elim h1 λz=>z.elim h2 h3
end
end L2
namespace Pb
open PySem L2
noncomputable def Fs.cV:Fs->Prop
 | .nil=>True
 | .cons _ k r=>jY k/\r.cV
theorem Fs.aar {x:Str}{k:Kd}(hk:jY k):∀{fs:Fs},fs.cV->(fs.snoc x k).cV
 | .nil,_=>⟨hk,trivial⟩
 | .cons _ _ _,h=>⟨h.1,Fs.aar hk h.2⟩
theorem jY.W:∀{k:Kd},jY k->k.W
 | .num,_=>by unfold Kd.W;trivial
 | .gh,_=>by unfold Kd.W;trivial
theorem Fs.cV.W:∀{fs:Fs},fs.cV->fs.W
 | .nil,_=>by unfold Fs.W;trivial
 | .cons _ _ _,h=>by unfold Fs.W;exact⟨h.1.W,Fs.cV.W h.2⟩
theorem Fs.Cq:∀{fs:Fs}{i:Nat}{x:Str}{k:Kd},fs.cV->fs.at i=some (x,k)->jY k
 | .nil,_,_,_,_,h=>by cases h
 | .cons _ _ _,0,_,_,w,h=>by cases h;exact w.1
 | .cons _ _ r,i+1,_,_,w,h=>Fs.Cq (fs:=r) (i:=i) w.2 h
noncomputable def aas (K:W.Frag):Sp:=λvs H Q _=>∃a b ns n,vs=[.ref a,.ref b,.int 0]/\G0 K H a b ns n/\n+2<=1000000000000/\
 ∀(v:V) (k:Kd) (n':Int) (H':Hp),SB b H H'->H' b=some (.lst [.int n'])->n<=n'->n'<=n+2->KA H' v k->jY k->Q v H'
noncomputable def aat (K:W.Frag):Sp:=λvs H Q _=>∃a b ns n,∃m:Nat,vs=[.ref a,.ref b,.int m,.int 0]/\m<=8/\G0 K H a b ns n/\n+17<=1000000000000/\
 ∀(t:Addr) (xs:List V) (fs:Fs) (n':Int) (H':Hp),SB b H H'->H' b=some (.lst [.int n'])->n<=n'->n'<=n+17->H' t=some (.tup xs)->FA H' xs fs->fs.names.Nodup->fs.names.length=m->fs.cV->fs.names.Pairwise sle->(∀x∈fs.names,x≠"qzqzqz")->Q (.ref t) H'
variable {P:Program}{w:World}{K:W.Frag}{mg:Str->Option Value}{base:Heap}
theorem aau:bA ["_law_script","_law_at","_law_deep","_law_m"] ["_law_script","_law_at","_law_deep"] (aL (top 71)):=by refine⟨rfl,rfl,rfl,?_,rfl,?_,?_⟩ <;> decide+kernel
theorem aiA (T:Tb mg)(uz:Dn K mg "_law_kind" Bp (top 71) Jf Jg)(dB:Dn K mg "_law_next" cN (top 64) gj gk)(gD:aq P w K mg base aB (1) gj gk cN (mV K))(ur:Dn K mg "_law_plain" cN (top 68) IW I_)(aiB:aq P w K mg base aB (2) IW I_ cN (aaf K)):aq P w K mg base aB (4) Jf Jg Bp (aas K):=by
 refine uz.F.ok aau (λvs H Q E h=>?_) (λcdv A outer s H vs Q E hr h=>?_)
 . obtain⟨a,b,ns,n,rfl,_⟩:=h
   rfl
 obtain⟨a,b,ns,n,rfl,g,hn,q⟩:=h
 have nd:=aau.nd
 refine⟨_,(ao (bw (i:=3) nd rfl (Or.inl rfl) (aR gD (hr.mono (by decide)) dB (aj (pv 0) (aj (pv 1) ak))))
  (ao (aW (PW.pt (jU (aV aeQ (pv 2) aG (aQ _)) (jT Ak))) (aD (aP (aR aiB (hr.mono (by decide)) ur (aj (pv 0) (aj (pv 1) ak))))) aX) aey)),?_⟩
 refine⟨_,rfl,_,rfl,a,b,ns,n,rfl,g,by omega,λr H1 r0 r1 s1 h1=>?_⟩
 refine⟨_,rfl,_,_,rfl,rfl,_,rfl,?_⟩
 refine dM (λc=>bZ ?_) (λc=>(c (by decide)).elim)
 refine⟨_,rfl,_,rfl,a,b,ns,n+1,rfl,g.go s1 h1 (by omega),by omega,λv k H2 s2 h2 hk hp=>?_⟩
 exact q v k (n+1+1) H2 (s1.trans s2) h2 (by omega) (by omega) hk hp
theorem aav:bA ["_law_script","_law_at","_law_many","_law_deep"] ["_law_script","_law_at","_law_many","_law_deep"] (aL (top 69)):=by refine⟨rfl,rfl,rfl,?_,rfl,?_,?_⟩ <;> decide+kernel
theorem aiC (T:Tb mg)(uD:Dn K mg "_law_fields" Bq (top 69) Jh Ji)(ux:Dn K mg "_law_names" Bo (top 67) Jc Jd)(aiD:aq P w K mg base aB (2) Jc Jd Bo (aam K))(uz:Dn K mg "_law_kind" Bp (top 71) Jf Jg)(aiE:aq P w K mg base aB (4) Jf Jg Bp (aas K)):aq P w K mg base aB (5) Jh Ji Bq (aat K):=by
 refine uD.F.ok aav (λvs H Q E h=>?_) (λcdv A outer s H vs Q E hr h=>?_)
 . obtain⟨a,b,ns,n,m,rfl,_⟩:=h
   rfl
 obtain⟨a,b,ns,n,m,rfl,hm,g,hn,q⟩:=h
 have nd:=aav.nd
 refine⟨_,(aD (aP (jx Yl (by rfl) T.mQ boot_tuple (aj (g8 (g:=(cF 0)) (tt:=fZ) (te:=(pR (cA (bC 0) (cA (pU _ _ _ (cA (bC 1) (cA (bC 2) (cA (bC 4) fX)))) fX)))) (own:=["_law_name"]) rfl (dw.of (N:=["_law_script","_law_at","_law_many","_law_deep"]) (sc:=aL (top 69)) rfl rfl rfl (by decide+kernel)) (lB (aR aiD (hr.mono (by decide)) ux (aj (pv 0) (aj (pv 1) (aj (pv 2) ak))))) (λ_ _ _ _ _=>(bG (i:=0) (show(["_law_name","_law_script","_law_at","_law_many","_law_deep"]:List Str).Nodup by decide+kernel) rfl (Or.inl rfl) (.inr rfl))) (λ_ _ _ _ _=>iG) (λ_ _ _ _ _=>(cO (aj (pv 0) (aj (aR aiE (hr.mono (by decide)) uz (aj (pv 1) (aj (pv 2) (aj (pv 4) ak)))) ak))))) ak)))),?_⟩
 have hn2:n<=1000000000000:=by omega
 refine⟨_,rfl,_,rfl,_,rfl,a,b,ns,n,m,rfl,by omega,g,hn2,λp ss H1 s1 h1 hpb hp hl hnd hsr hqz=>?_⟩
 refine⟨p,rfl,⟨_,aC.of hp⟩,λi m' ys H'=>m'=ss.length - i/\i<=ss.length/\∃(fs:Fs) (n':Int),SB b H H'/\H' b=some (.lst [.int n'])/\n<=n'/\n'<=n+1+i * 2/\H' p=some (.lst (ss.map V.str))/\FA H' ys fs/\fs.names=ss.take i/\ys.length=i/\fs.cV,
  ⟨_,rfl,Q0b _,.nil,n+1,s1,h1,by omega,by omega,hp,by unfold FA;rfl,by simp[Fs.names],rfl,trivial⟩,?_⟩
 rintro i m' ys H' ⟨rfl,hile,fs,n',sb,hb',z1,z2,hp',hf,hnm,hy,hW⟩
 by_cases hi:i<ss.length
 . refine .inr ⟨⟨_,.str ss[i],aC.of hp',by rw[Q0g,Q05 hi];rfl⟩,cP (by omega),λx gW y=>?_⟩
   obtain⟨rfl,y⟩:=y
   have hx:=y _ (aC.of hp')
   have ex:x=.str ss[i]:=by
    rw[Q0g,Q05 hi] at hx
    exact(Option.some.inj hx).symm
   subst ex
   refine⟨rfl,yes (bZ ?_)⟩
   refine⟨_,rfl,_,rfl,_,rfl,_,rfl,a,b,ns,n',rfl,g.go sb hb' z1,by omega,λv k n'' H2 s2 h2 y1 y2 hk hkW=>?_⟩
   refine⟨dg,λt ht=>?_⟩
   have hne:t≠b:=λz=>by rw[z,h2] at ht;cases ht
   have Cr:Tu H2 (upd H2 t (.tup [.str ss[i],v])):=Tu.of (λc o h=>by rw[au (aN h ht)];exact h)
   have tu:Tu gW (upd H2 t (.tup [.str ss[i],v])):=(s2.tu hb').trans Cr
   refine⟨_,Nat.sub_lt_sub_left hi (Q1e i),rfl,hi,fs.snoc ss[i] k,n'',sb.trans (s2.trans (SB.new ht)),by rw[au (Ne.symm hne)];exact h2,by omega,by omega,?_,FA.snoc aF (KA.mono Cr k hk) fs (FA.mono tu fs hf),?_,?_,Fs.aar hkW hW⟩
   . have h3:=s2 p _ hpb hp'
     rw[au (aN h3 ht)];exact h3
   . rw[Fs.Zo,hnm,Q0u,Q05 hi];rfl
   . rw[Q07,hy];rfl
 . have ei:i=m:=by omega
   subst ei
   refine .inl ⟨⟨_,aC.of hp',by rw[Q06];omega⟩,λp' hp2=>?_⟩
   refine⟨p',ys,rfl,.inl ⟨aC.of aF,λt ht=>?_⟩⟩
   have aiI:p'≠b:=λz=>by rw[z,hb'] at hp2;cases hp2
   have hb2:upd H' p' (.lst ys) b=some (.lst [.int n']):=by rw[au (Ne.symm aiI)];exact hb'
   have tu:Tu H' (upd (upd H' p' (.lst ys)) t (.tup ys)):=λc xs h=>by
    rw[au (aN (show upd H' p' (.lst ys) c=some (.tup xs) by rw[au (aN h hp2)];exact h) ht),au (aN h hp2)];exact h
   have hst:ss.take i=ss:=by rw[<-hl,Q1b]
   refine q t ys fs n' _ (sb.trans ((SB.new hp2).trans (SB.new ht))) (by rw[au (aN hb2 ht)];exact hb2) z1 (by omega) aF (FA.mono tu fs hf) ?_ ?_ hW (by rw[hnm,hst];exact hsr) (by rw[hnm,hst];exact hqz)
   . rw[hnm,hst];exact hnd
   . rw[hnm,hst];exact hl
noncomputable def dX:Kd->V->Prop
 | .num,v=>∃z,v=.int z
 | .gh,v=>∃s,v=.str s
 |_,_=>False
noncomputable def aK (f:Str->V) (l:List Str):List (Key × V):=l.map λx=>(Sum.inr x,f x)
theorem gF (f:Str->V)(l:List Str):(aK f l).length=l.length:=Q06 _
theorem iK (f:Str->V):∀(l:List Str) (x:Str),dO (aK f l) (Sum.inr x)=if x∈l then some (f x) else none
 |[],x=>rfl
 |y::r,x=>by
  show dO ((Sum.inr y,f y)::aK f r) (Sum.inr x)=_
  by_cases e:y=x
  . subst e
    rw[wB rfl,if_pos Q0f]
  . rw[tM (λz=>e (Sum.inr.inj z)),iK f r x]
    by_cases h:x∈r
    . rw[if_pos h,if_pos (Q0j _ h)]
    . rw[if_neg h,if_neg (λz=>(List.mem_cons.mp z).elim (λz=>e z.symm) h)]
theorem aiJ (f:Str->V)(l:List Str):(aK f l).map (·.1)=l.map Sum.inr:=by unfold aK;rw[Q1w];rfl
theorem aaw {f:Str->V}{l:List Str}(h:l.Nodup):((aK f l).map (·.1)).Nodup:=by
 rw[aiJ]
 exact List.Pairwise.map _ (λa b h z=>h (Sum.inr.inj z)) h
theorem aax {f g:Str->V}{l:List Str}(h:∀x∈l,f x=g x):aK f l=aK g l:=by
 unfold aK
 exact Q1o λx hx=>by rw[h x hx]
noncomputable def gG (f:Str->V) (x:Str) (v:V):Str->V:=λy=>if y=x then v else f y
theorem Jj {f:Str->V}{l:List Str}{i:Nat}{x:Str}(h:l[i]? =some x):(aK f l)[i]? =some (Sum.inr x,f x):=by
 unfold aK;rw[Q0g,h];rfl
theorem Jk {f:Str->V}{l:List Str}{x:Str}(v:V)(h:x∈l):putK (aK f l) (Sum.inr x) v=aK (gG f x v) l:=by
 unfold putK
 rw[if_pos]
 . unfold aK
   rw[Q1w]
   refine Q1o λy _=>?_
   show(if Sum.inr y=(Sum.inr x:Key) then _ else _)=_
   unfold gG
   by_cases e:y=x
   . subst e;simp
   . simp[e]
 . simp only[Q2w]
   exact⟨(Sum.inr x,f x),List.mem_map.mpr ⟨x,h,rfl⟩,by simp⟩
noncomputable def Jl (K:W.Frag):Sp:=λvs H Q _=>∃a b ns n kv k,∃room:Int,vs=[.ref a,.ref b,kv,.int room]/\G0 K H a b ns n/\n<=1000000000000/\KA H kv k/\jY k/\
 ∀(v:V) (H':Hp),SB b H H'->H' b=some (.lst [.int (n+1)])->dX k v->Q v H'
noncomputable def aay (K:W.Frag):Sp:=λvs H Q _=>∃a b ns n kk t xs fs,∃room:Int,vs=[.ref a,.ref b,.ref kk,.int room]/\G0 K H a b ns n/\n+12<=1000000000000/\H kk=some (.tup [.str "record",.ref t])/\H t=some (.tup xs)/\FA H xs fs/\fs.cV/\fs.names.Nodup/\fs.names.length<=8/\
 ∀(p:Addr) (f:Str->V) (n':Int) (H':Hp),SB b H H'->H' b=some (.lst [.int n'])->n<=n'->n'<=n+8->H p=none->H' p=some (.dK (aK f fs.names))->(∀i nm k,fs.at i=some (nm,k)->dX k (f nm))->Q (.ref p) H'
theorem Cu:bA ["_law_script","_law_at","_law_kind_here","_law_room","_law_m","_law_top","_law_name","_law_inner"] ["_law_script","_law_at","_law_kind_here","_law_room"] (aL (top 74)):=by refine⟨rfl,rfl,rfl,?_,rfl,?_,?_⟩ <;> decide+kernel
theorem aiK (T:Tb mg)(jD:Dn K mg "_law_value" oG (top 74) qt qu)(oJ:Dn K mg "_law_number" cN (top 65) xO xP)(Jm:aq P w K mg base aB (2) xO xP cN (IK K))(oK:Dn K mg "_law_word" cN (top 66) xQ xR)(Jo:aq P w K mg base aB (2) xQ xR cN (IV K)):aq P w K mg base aB (3) qt qu oG (Jl K):=by
 refine jD.F.ok Cu (λvs H Q E h=>?_) (λcdv A outer s H vs Q E hr h=>?_)
 . obtain⟨a,b,ns,n,kv,k,room,rfl,_⟩:=h
   rfl
 obtain⟨a,b,ns,n,kv,k,room,rfl,g,hn,hk,hp,q⟩:=h
 have nd:=Cu.nd
 refine⟨_,(ao (aW (aV bF (aZ bV (pv 2) aG (λ_ _=>rfl)) bD (aQ _)) (aD (aP (aR Jm (hr.mono (by decide)) oJ (aj (pv 0) (aj (pv 1) ak))))) aX)
  (ao (aW (aV bF (aZ bV (pv 2) aG (λ_ _=>rfl)) bD (aQ _)) (aD (aP (aR Jo (hr.mono (by decide)) oK (aj (pv 0) (aj (pv 1) ak))))) aX)
  (ao aO
  (ao aO
  (ao aO
  (ao aO
  (ao aO
  (aD aO)))))))),?_⟩
 cases k with
 |num=>
  unfold KA at hk
  obtain⟨c,rfl,hc⟩:=hk
  refine Hi rfl hc rfl (by decide+kernel) ?_
  exact⟨_,rfl,_,rfl,a,b,ns,n,rfl,g,hn,λz H1 s1 h1=>q _ _ s1 h1 ⟨z,rfl⟩⟩
 |gh=>
  unfold KA at hk
  obtain⟨c,rfl,hc⟩:=hk
  refine Hj rfl hc rfl (by decide+kernel) ?_
  refine Hi rfl hc rfl (by decide+kernel) ?_
  exact⟨_,rfl,_,rfl,a,b,ns,n,rfl,g,hn,λz H1 s1 h1=>q _ _ s1 h1 ⟨z,rfl⟩⟩
 |_=>exact hp.elim
theorem aiL (T:Tb mg)(jD:Dn K mg "_law_value" oG (top 74) qt qu)(xT:aq P w K mg base aB (3) qt qu oG (Jl K))(oJ:Dn K mg "_law_number" cN (top 65) xO xP)(Jm:aq P w K mg base aB (2) xO xP cN (IK K))(oK:Dn K mg "_law_word" cN (top 66) xQ xR)(Jo:aq P w K mg base aB (2) xQ xR cN (IV K)):aq P w K mg base aB (4) qt qu oG (aay K):=by
 refine jD.F.ok Cu (λvs H Q E h=>?_) (λcdv A outer s H vs Q E hr h=>?_)
 . obtain⟨a,b,ns,n,kk,t,xs,fs,room,rfl,_⟩:=h
   rfl
 obtain⟨a,b,ns,n,kk,t,xs,fs,room,rfl,g,hn,hkk,ht,hfa,hpl,hnd,h8,q⟩:=h
 have nd:=Cu.nd
 refine⟨_,(ao (aW (aV bF (aZ bV (pv 2) aG (λ_ _=>rfl)) bD (aQ _)) (aD (aP (aR Jm (hr.mono (by decide)) oJ (aj (pv 0) (aj (pv 1) ak))))) aX)
  (ao (aW (aV bF (aZ bV (pv 2) aG (λ_ _=>rfl)) bD (aQ _)) (aD (aP (aR Jo (hr.mono (by decide)) oK (aj (pv 0) (aj (pv 1) ak))))) aX)
  (ao (aW (aV bF (aZ bV (pv 2) aG (λ_ _=>rfl)) bD (aQ _)) (aD (aP (aiz (N':=["_law_script","_law_at","_law_kind_here","_law_room","_law_m","_law_top","~6","~7"]) (uy.of (N:=["_law_script","_law_at","_law_kind_here","_law_room","_law_m","_law_top","_law_name","_law_inner"]) (sc:=aL (top 74)) rfl rfl rfl (by decide+kernel)) (jx (ZL rfl) (by rfl) T.jf boot_dict (aj (g8 (g:=(qR K 2 (jr (cF 0) (jr (cF 1) qQ)))) (tt:=fZ) (te:=(pR (cA (bC 0) (cA (pU _ _ _ (cA (bC 2) (cA (bC 3) (cA (bC 1) (cA (bC 5) fX))))) fX)))) (own:=["_law_name","_law_inner"]) rfl (dw.of (N:=["_law_script","_law_at","_law_kind_here","_law_room","_law_m","_law_top","~6","~7"]) (sc:=aL (top 74)) rfl rfl rfl (by decide+kernel)) (pO (aZ bV (pv 2) aG (λ_ _=>rfl))) (λ_ _ _ _ _=>(fV rfl (cB (bG (i:=0) (show(["_law_name","_law_inner","_law_script","_law_at","_law_kind_here","_law_room","_law_m","_law_top","~6","~7"]:List Str).Nodup by decide+kernel) rfl (Or.inl rfl) (.inr rfl)) (cB (bG (i:=1) (show(["_law_name","_law_inner","_law_script","_law_at","_law_kind_here","_law_room","_law_m","_law_top","~6","~7"]:List Str).Nodup by decide+kernel) rfl (Or.inl rfl) (.inr rfl)) fU)))) (λ_ _ _ _ _=>iG) (λ_ _ _ _ _=>(cO (aj (pv 0) (aj (aR xT (hr.mono (by decide)) jD (aj (pv 2) (aj (pv 3) (aj (pv 1) (aj (pv 5) ak))))) ak))))) ak))))) aX)
  (ao aO
  (ao aO
  (ao aO
  (ao aO
  (aD aO)))))))),?_⟩
 refine Hj rfl hkk rfl (by decide+kernel) ?_
 refine Hj rfl hkk rfl (by decide+kernel) ?_
 refine Hi rfl hkk rfl (by decide+kernel) ?_
 have uE:xs.length=fs.names.length:=FA.len fs hfa
 refine⟨λi v hne=>?_,?_⟩
 . match i with
   |0=>exact absurd rfl hne
   |1=>exact absurd rfl hne
   |2=>exact absurd rfl hne
   |3=>exact absurd rfl hne
   |4=>exact absurd rfl hne
   |5=>exact absurd rfl hne
   |6=>exact λz=>by cases z
   |7=>exact λz=>by cases z
   |i+8=>exact absurd rfl hne
 dsimp only[Gh,Ab,cA]
 refine⟨_,rfl,kk,_,_,_,rfl,rfl,aH.of hkk,rfl,t,rfl,⟨_,aH.of ht⟩,λi m ys H'=>m=xs.length - i/\i<=xs.length/\∃(ts:List Addr) (f:Str->V) (n':Int),ys=ts.map V.ref/\ts.length=i/\SB b H H'/\H' b=some (.lst [.int n'])/\n<=n'/\n'<=n+i/\(∀(j:Nat) c nm k,ts[j]? =some c->fs.at j=some (nm,k)->H' c=some (.tup [.str nm,f nm])/\dX k (f nm)),
  ⟨_,rfl,Q0b _,[],λ_=>.non,n,rfl,rfl,SB.refl _ _,g.at_,by omega,by omega,λj c nm k h=>by simp at h⟩,?_⟩
 rintro i m ys H' ⟨rfl,hile,ts,f,n',rfl,htl,sb,hb',z1,z2,hat⟩
 have tu:Tu H H':=sb.tu g.at_
 by_cases hi:i<xs.length
 . refine .inr ⟨⟨xs,xs[i],aH.of (tu _ _ ht),Q05 hi⟩,by rw[Q06];exact cP (by omega),λx gW y=>?_⟩
   obtain⟨rfl,y⟩:=y
   obtain⟨c,u,nm,k,rfl,Jp,hc,hk⟩:=FA.get fs hfa (y xs (aH.of (tu _ _ ht)))
   refine⟨c,_,rfl,aH.of (tu _ _ hc),rfl,_,_,rfl,_,_,rfl,rfl,rfl,yes (bZ ?_)⟩
   refine⟨_,rfl,_,rfl,_,rfl,_,rfl,_,rfl,a,b,ns,n',u,k,room,rfl,g.go sb hb' z1,by omega,KA.mono tu k hk,Fs.Cq hpl Jp,λv H2 s2 h2 hv=>⟨dg,λt2 j6=>?_⟩⟩
   have s3:=Same.new j6 (o:=.tup [.str nm,v])
   have nmi:fs.names[i]? =some nm:=by rw[Fs.jA,Jp];rfl
   refine⟨xs.length - (i+1),by omega,rfl,hi,ts++[t2],gG f nm v,n'+1,by rw[Q0k];rfl,by rw[Q07,htl];rfl,sb.trans (s2.trans (SB.of s3)),s3 _ _ h2,by omega,by omega,λj c' nm' k' hj Cw=>?_⟩
   by_cases hji:j<ts.length
   . rw[Q0q hji] at hj
     obtain⟨h1,h2'⟩:=hat j c' nm' k' hj Cw
     have hne:nm'≠nm:=λz=>by
      have e1:fs.names[j]? =some nm':=by rw[Fs.jA,Cw];rfl
      have:=(List.getElem?_inj (by have:=(List.getElem?_eq_some_iff.mp e1).1;exact this) hnd).mp (e1.trans (by rw[z];exact nmi.symm))
      omega
     unfold gG
     rw[if_neg hne]
     exact⟨s3 _ _ ((s2.tu hb') _ _ h1),h2'⟩
   . have hjl:=(List.getElem?_eq_some_iff.mp hj).1
     rw[Q07] at hjl
     have ej:j=i:=by simp at hjl;omega
     subst ej
     rw[Q0i (by omega),htl,Q16] at hj
     have hj:some t2=some c':=hj
     cases hj
     rw[Jp] at Cw
     cases Cw
     unfold gG
     rw[if_pos rfl]
     exact⟨aF,hv⟩
 . have ei:i=xs.length:=by omega
   refine .inl ⟨⟨_,aH.of (tu _ _ ht),by omega⟩,λp' hp2=>?_⟩
   have s3:=Same.new hp2 (o:=.lst (ts.map V.ref))
   refine⟨p',ts,aK f fs.names,rfl,aC.of aF,by rw[gF];omega,λj c p hj hpj=>?_,aaw hnd,by rw[gF];omega,λl hl=>?_⟩
   . have hjl:j<fs.names.length:=by have:=(List.getElem?_eq_some_iff.mp hj).1;omega
     obtain⟨nm,k,e⟩:=Fs.Zq hjl
     rw[Jj (by rw[Fs.jA,e];rfl)] at hpj
     cases hpj
     exact s3 _ _ (hat j c nm k hj e).1
   . have s4:=Same.new hl (o:=.dK (aK f fs.names))
     refine q l f n' _ (sb.trans (SB.of (s3.trans s4))) (s4 _ _ (s3 _ _ hb')) z1 (by omega) ?_ aF λj nm k e=>?_
     . cases e:H l with
       |none=>rfl
       |some o=>
        by_cases hlb:l=b
        . rw[hlb,s3 _ _ hb'] at hl;cases hl
        . rw[s3 _ _ (sb _ _ hlb e)] at hl;cases hl
     . have hjl:j<ts.length:=by
        have e1:fs.names[j]? =some nm:=by rw[Fs.jA,e];rfl
        have:=(List.getElem?_eq_some_iff.mp e1).1
        omega
       exact(hat j ts[j] nm k (Q05 hjl) e).2
end Pb
namespace Pb
open PySem L2 PyProof.Rows
theorem _root_.L2.bB.tab {P:Addr}{lp:Pos}{ql:Str}{H:Hp}(h:bB P lp ql H):∃ps,H P=some (.dD ps):=by
 rcases h with e|⟨c,e,_⟩ <;> exact⟨_,e⟩
theorem _root_.L2.bB.keep {P:Addr}{lp:Pos}{ql:Str}{H H':Hp}(h:bB P lp ql H)(k:∀c o,(∀xs,o≠ .lst xs)->H c=some o->H' c=some o):bB P lp ql H':=by
 rcases h with e|⟨c,e,f⟩
 . exact .inl (k _ _ (by intro xs z;cases z) e)
 . exact .inr ⟨c,k _ _ (by intro xs z;cases z) e,k _ _ (by intro xs z;cases z) f⟩
theorem _root_.L2.bB.same {P:Addr}{lp:Pos}{ql:Str}{H H':Hp}(h:bB P lp ql H)(s:Same H H'):bB P lp ql H':=h.keep λc o _ e=>s c o e
theorem _root_.L2.bB.sb {P b:Addr}{lp:Pos}{ql:Str}{H H':Hp}{l:List V}(h:bB P lp ql H)(hb:H b=some (.lst l))(s:SB b H H'):bB P lp ql H':=
 h.keep λc o ho e=>s c o (kY e hb (ho l)) e
theorem KA.Jq {H:Hp}:∀{u:V}{k:Kd},KA H u k->u≠ .non
 |_,.num,h=>by unfold KA at h;obtain⟨a,rfl,_⟩:=h;intro z;cases z
 |_,.gh,h=>by unfold KA at h;obtain⟨a,rfl,_⟩:=h;intro z;cases z
 |_,.wX _,h=>by unfold KA at h;obtain⟨a,b,vs,rfl,_⟩:=h;intro z;cases z
 |_,.rows _ _ _,h=>by unfold KA at h;obtain⟨a,b,vs,rfl,_⟩:=h;intro z;cases z
 |_,.tree _,h=>by unfold KA at h;obtain⟨a,b,rfl,_⟩:=h;intro z;cases z
 |_,.wY _,h=>by unfold KA at h;obtain⟨a,b,vs,rfl,_⟩:=h;intro z;cases z
theorem Fs.get_mem:∀{fs:Fs}{x:Str}{k:Kd},fs.get x=some k->x∈fs.names
 | .nil,_,_,h=>by cases h
 | .cons y q r,x,k,h=>by
   have h:(if x=y then some q else r.get x)=some k:=h
   by_cases e:x=y
   . rw[e];exact Q0f
   . rw[if_neg e] at h
     exact Q0j _ (Fs.get_mem h)
noncomputable def Jr:Sp:=λvs H Q _=>∃b x xs fs k,vs=[.ref b,.str x]/\H b=some (.tup xs)/\FA H xs fs/\fs.names.Nodup/\fs.get x=some k/\∀u,KA H u k->u≠ .non->Q u H
variable {P:Program}{w:World}{K:W.Frag}{mg:Str->Option Value}{base:Heap}
theorem aaz:bA ["fields","name","pair"] ["fields","name"] (aL (top 13)):=by refine⟨rfl,rfl,rfl,?_,rfl,?_,?_⟩ <;> decide+kernel
theorem aiN (T:Tb mg)(oO:Dn K mg "kind_at" uf (top 13) xU xV):aq P w K mg base aB (1) xU xV uf (Jr):=by
 refine oO.F.ok aaz (λvs H Q E h=>?_) (λcdv A outer s H vs Q E hr h=>?_)
 . obtain⟨b,x,xs,fs,k,rfl,_⟩:=h
   rfl
 obtain⟨b,x,xs,fs,k,rfl,hb,hfa,hnd,hget,q⟩:=h
 have nd:=aaz.nd
 refine⟨_,(ao (jt PassesOwn.never rfl (pO (pv 0)) (bG (i:=2) nd rfl (Or.inl rfl)) (aD (aW (aV bF (aZ bV (pv 2) aG (λ_ _=>rfl)) (pv 1) (aQ _)) (aD (aP (aZ bV (pv 2) aG (λ_ _=>rfl)))) aX)))
  (aD (aP fj))),?_⟩
 refine⟨_,rfl,b,rfl,⟨_,aH.of hb⟩,zX (xs:=xs) (λi σ H'=>H'=H/\(∃z,σ=[some (.ref b),some (.str x),z])/\∀j,j<i->fs.names[j]? ≠some x) ⟨rfl,⟨_,rfl⟩,λj hj=>absurd hj (by omega)⟩ ?_ ?_ ?_⟩
 . rintro i σ H' _ ⟨rfl,_⟩
   exact aH.of hb
 . rintro i v σ H' hv ⟨rfl,⟨z,rfl⟩,hno⟩
   obtain⟨c,u,nm,k',rfl,hat,hc,hk⟩:=FA.get fs hfa hv
   have hnm:fs.names[i]? =some nm:=by rw[Fs.jA,hat];rfl
   refine⟨_,rfl,c,_,_,_,rfl,rfl,aH.of hc,rfl,_,rfl,rfl,_,rfl,dM (λcc=>?_) (λcc=>?_)⟩
   . have e:nm=x:=by
      have:=of_decide_eq_true cc
      injection this
     subst e
     have ek:=Fs.tX hnd hat
     rw[hget] at ek
     cases ek
     exact⟨_,rfl,c,_,_,_,rfl,rfl,aH.of hc,rfl,q u hk hk.Jq⟩
   . refine⟨rfl,⟨_,rfl⟩,λj hj=>?_⟩
     by_cases e:j<i
     . exact hno j e
     . have:j=i:=by omega
       subst this
       rw[hnm]
       intro z
       cases z
       exact cc (decide_eq_true rfl)
 . rintro σ H' ⟨rfl,_,hno⟩
   obtain⟨j,hj,e⟩:=Q1h (Fs.get_mem hget)
   exact absurd (by rw[Q05 hj,e]) (hno j (by rw[FA.len fs hfa];exact hj))
noncomputable def aiO (st:Stmt):Pos:=match eE st with
 | .Assign _ (.Call _ [.Call _ _ [⟨_,.Lambda _ _ _ lp,_⟩] _] _ _) _::_=>lp
 |_=>⟨0,0,0,0⟩
noncomputable abbrev bM:Pos:=aiO (top 14)
noncomputable abbrev bN:Str:=("sorted_fields":Str)++".<locals>."++"<lambda>"
noncomputable abbrev fG (Pt:Addr) (H H':Hp):Prop:=Kp (λc=>c=Pt) H H'
theorem fG.tu {Pt:Addr}{H H':Hp}{lp:Pos}{ql:Str}(x:fG Pt H H')(hT:bB Pt lp ql H):Tu H H':=λc xs h=>by
 obtain⟨ps,hP⟩:=hT.tab
 exact x c _ (kY h hP (by intro z;cases z)) h
noncomputable def aaA (K:W.Frag) (Pt:Addr):Sp:=λvs H Q E=>∃l qs,vs=[.ref l]/\aC K H l (dz qs)/\lF H qs/\qs.length<=13/\bB Pt bM bN H/\(nms qs).Nodup/\(nms qs).Pairwise sle/\
 (∀t H',fG Pt H H'->bB Pt bM bN H'->H' t=some (.tup (dz qs))->Q (.ref t) H')
noncomputable def aaB (K:W.Frag) (Pt:Addr):Sp:=λvs H Q E=>∃l qs,vs=[.ref l]/\aC K H l (dz qs)/\lF H qs/\qs.length<=13/\bB Pt bM bN H/\(nms qs).Nodup/\(nms qs).Pairwise sle/\
 (∀r t H',fG Pt H H'->bB Pt bM bN H'->H' t=some (.tup (dz qs))->H' r=some (.tup [.str "record",.ref t])->Q (.ref r) H')
theorem aiP {qs:List Qd}{i:Nat}{v:V}(h:(dz qs)[i]? =some v):∃q,qs[i]? =some q/\q.1=v:=by
 have h:(qs.map (·.1))[i]? =some v:=h
 rw[Q0g] at h
 cases e:qs[i]? with
 |none=>rw[e] at h;cases h
 |some q=>rw[e] at h;exact⟨q,rfl,Option.some.inj h⟩
theorem xW (qs:List Qd):(dz qs).length=qs.length:=Q06 _
theorem Cy (qs:List Qd):(nms qs).length=qs.length:=Q06 _
noncomputable def q0:Qd:=(.non,"",false)
theorem aiQ (qs:List Qd)(p:List Nat):dz (p.map λi=>qs.getD i q0)=p.map λi=>(dz qs).getD i .non:=by
 unfold dz
 rw[Q1w]
 refine Q1o λi _=>?_
 show(qs.getD i q0).1=_
 rw[Q0p,Q0p,Q0g]
 cases qs[i]? <;> rfl
theorem aiR (qs:List Qd){p:List Nat}(h:p.Perm (List.range qs.length)):(p.map λi=>qs.getD i q0).Perm qs:=by
 have:=h.map λi=>qs.getD i q0
 rw[Y7] at this
 exact this
theorem Cz {x:Str}{ss:List Str}:inV (.str x) (ss.map V.str)=decide (x∈ss):=by
 unfold inV
 rw[List.any_map]
 have:∀y:Str,((λy=>nW y (V.str x)) ∘ V.str) y=decide (y=x):=λy=>rfl
 induction ss with
 |nil=>rfl
 |cons y r ih=>
  rw[Q1f,ih,this]
  by_cases e:y=x
  . rw[decide_eq_true e,decide_eq_true (show x∈y::r by rw[e];exact Q0f)];rfl
  . rw[decide_eq_false e]
    by_cases h:x∈r
    . rw[decide_eq_true h,decide_eq_true (Q0j _ h)];rfl
    . rw[decide_eq_false h,decide_eq_false λz=>(List.mem_cons.mp z).elim (λz=>e z.symm) h];rfl
theorem Js:∀{ss:List Str},(ss.map V.str).all nU=true
 |[]=>rfl
 |x::r=>by rw[Q0v,Q23,Js];rfl
noncomputable def Fs.dH (ss:List Str):Fs->Fs
 | .nil=>.nil
 | .cons x k r=>if x∈ss then .cons x k (r.dH ss) else r.dH ss
noncomputable def qw (ss:List Str) (xs:List V) (ns:List Str):List V:=((xs.zip ns).filter λq=>decide (q.2∈ss)).map (·.1)
theorem FA.few {H:Hp}{ss:List Str}:∀{xs:List V}(fs:Fs),FA H xs fs->FA H (qw ss xs fs.names) (fs.dH ss)
 |xs,.nil,h=>by
  unfold FA at h
  subst h
  show FA H [] .nil
  unfold FA
  rfl
 |xs,.cons x k r,h=>by
  unfold FA at h
  obtain⟨c,u,vr,rfl,h1,h2,h3⟩:=h
  have ih:=FA.few (ss:=ss) r h3
  show FA H (qw ss (.ref c::vr) (x::r.names)) (if x∈ss then .cons x k (r.dH ss) else r.dH ss)
  unfold qw
  rw[List.zip_cons_cons,Q0s]
  by_cases e:x∈ss
  . rw[if_pos e,if_pos (decide_eq_true e),Q0v]
    unfold FA
    exact⟨c,u,_,rfl,h1,h2,ih⟩
  . rw[if_neg e,if_neg (by rw[decide_eq_false e];decide)]
    exact ih
theorem Fs.ji (ss:List Str):∀fs:Fs,(fs.dH ss).names=fs.names.filter λx=>decide (x∈ss)
 | .nil=>rfl
 | .cons x k r=>by
   show(if x∈ss then Fs.cons x k (r.dH ss) else r.dH ss).names=(x::r.names).filter _
   rw[Q0s]
   by_cases e:x∈ss
   . rw[if_pos e,if_pos (decide_eq_true e)]
     show x::(r.dH ss).names=_
     rw[Fs.ji ss r]
   . rw[if_neg e,if_neg (by rw[decide_eq_false e];decide)]
     exact Fs.ji ss r
theorem Fs.CG (ss:List Str):∀{fs:Fs}{x:Str},(fs.dH ss).get x=if x∈ss then fs.get x else none
 | .nil,x=>by
   show none=_
   split <;> rfl
 | .cons y k r,x=>by
   have ih:=Fs.CG ss (fs:=r) (x:=x)
   show(if y∈ss then Fs.cons y k (r.dH ss) else r.dH ss).get x=if x∈ss then(if x=y then some k else r.get x) else none
   by_cases e:y∈ss
   . rw[if_pos e]
     show(if x=y then some k else(r.dH ss).get x)=_
     by_cases z:x=y
     . rw[if_pos z,if_pos (by rw[z];exact e),if_pos z]
     . rw[if_neg z,ih,if_neg z]
   . rw[if_neg e,ih]
     by_cases z:x∈ss
     . rw[if_pos z,if_pos z,if_neg λq=>e (by rw[<-q];exact z)]
     . rw[if_neg z,if_neg z]
theorem Fs.Jt (ss:List Str):∀{fs:Fs},fs.W->(fs.dH ss).W
 | .nil,h=>h
 | .cons y k r,h=>by
   unfold Fs.W at h
   show(if y∈ss then Fs.cons y k (r.dH ss) else r.dH ss).W
   split
   . unfold Fs.W
     exact⟨h.1,Fs.Jt ss h.2⟩
   . exact Fs.Jt ss h.2
structure Dm (K:W.Frag) (x qual:Str) (ps:List Str) (st:Stmt) (f:Addr) (fd:FuncData):Prop where
 F:lE K x qual st f fd
 b:Binds K fd ps []
theorem aaC:bA ["pairs","fields","number","name"] ["pairs"] (aL (top 14)):=by refine⟨rfl,rfl,rfl,?_,rfl,?_,?_⟩ <;> decide+kernel
theorem aiS {Pt c:Addr}(T:Tb mg)(uF:Dn K mg "sorted_fields" oH (top 14) Ju CJ)(hcode:CJ.code=.ref c)(hCd:W.CodeHd base c Pt)(wW:BM mg base):aq P w K mg base aB (8) Ju CJ oH (aaA K Pt):=by
 refine uF.F.okL hcode aaC (λvs H Q E h=>?_) (λA outer s H vs Q E hr h=>?_)
 . obtain⟨l,qs,rfl,_⟩:=h
   rfl
 obtain⟨l,qs,rfl,hl,hp,h13,hT,hnd,hso,q1⟩:=h
 have nd:=aaC.nd
 have hu:=fY hr
 refine⟨_,(ao (bw (i:=1) nd rfl (Or.inl rfl) (jx Yl (by rfl) T.mQ boot_tuple (aj (ag0 (te:=(bL (mH K) (bC 0) (tC (.int 0)))) (x:="pair") (N':=["","","",""]) rfl T.Iw boot_sorted hr rfl rfl hCd wW (tV.of (N:=["pairs","fields","number","name"]) (sc:=aL (top 14)) rfl rfl rfl rfl rfl (by decide+kernel)) rfl (λ_ _ _ _ _=>rfl) (pv 0) (λ_ _ _ _ _=>(aZ bV (pv 0) aG (λ_ _=>rfl)))) ak)))
  (ao (jt PassesOwn.never rfl (aeI rfl T.uc (aj aG (aj (aY d8 (by rfl) T.dG PySem.boot_len (aj (pv 1) ak)) ak))) (bG (i:=2) nd rfl (Or.inl rfl)) (ao (bw (i:=3) nd rfl (Or.inl rfl) (aZ bV (aZ bV (pv 1) (pv 2) (λ_ _=>rfl)) aG (λ_ _=>rfl)))
  (aD (aW (aV bF (pv 3) (aZ bV (aZ bV (pv 1) (aU Gs (pv 2) aG) (λ_ _=>rfl)) aG (λ_ _=>rfl)) (aQ _)) (aD aO) aX))))
  (aD (aP (pv 1))))),?_⟩
 refine⟨_,rfl,l,dz qs,rfl,hl,by rw[xW];omega,hT,λc' H2 hL2 mono=>?_⟩
 have oR:fG Pt H H2:=λcc o hc e=>mono cc o hc e
 have hp2:lF H2 qs:=hp.mono (oR.tu hT)
 refine⟨λks H3=>H3=H2/\ks.length<=qs.length/\ks=((nms qs).map V.str).take ks.length,⟨rfl,Q0b _,rfl⟩,λks H3 hw=>by rw[hw.1];exact hL2,?_,?_⟩
 . rintro ks H3 yv ⟨rfl,hle,hks⟩ hy
   obtain⟨qq,hq,rfl⟩:=aiP hy
   obtain⟨cc,u,ec,hc,hk⟩:=hp2 qq (Q0y hq)
   obtain⟨qv,qn,qb⟩:=qq
   have ec:qv=.ref cc:=ec
   subst ec
   have hlt:ks.length<qs.length:=(List.getElem?_eq_some_iff.mp hq).1
   refine⟨_,rfl,cc,_,_,_,rfl,rfl,aH.of hc,rfl,rfl,by rw[Q07];exact hlt,?_⟩
   rw[Q07]
   show _=List.take (ks.length+1) _
   rw[Q0u,<-hks,Q0g]
   have:(nms qs)[ks.length]? =some qn:=by
    show(qs.map (·.2.1))[ks.length]? =_
    rw[Q0g,hq];rfl
   rw[this]
   rfl
 . rintro ks H3 ⟨rfl,_,hks⟩ hlen
   have hks:ks=(nms qs).map V.str:=by
    rw[hks,hlen,xW,Q1d (by rw[Q06,Cy];exact Q01 _)]
   refine⟨nms qs,hks,λp hpm hs D hD=>?_⟩
   rw[xW] at hpm
   rw[<-aiQ]
   have hperm:=aiR qs hpm
   have aiU:(nms (p.map λi=>qs.getD i q0)).Pairwise sle:=by
    show((p.map λi=>qs.getD i q0).map (·.2.1)).Pairwise sle
    rw[Q1w,Q1q]
    rw[Q1q] at hs
    refine List.Pairwise.imp_of_mem (λ{i j} hi hj h=>?_) hs
    have ge:∀i∈p,((nms qs).map dR).getD i []=dR (qs.getD i q0).2.1:=λi hi=>by
     have hi':i<qs.length:=by
      have:=hpm.mem_iff.mp hi
      simpa using this
     unfold nms
     rw[Q0p,Q0p,Q0g,Q0g,Q05 hi']
     rfl
    rw[ge i hi,ge j hj] at h
    exact h
   have HS:(p.map λi=>qs.getD i q0)=qs:=ahf hperm aiU hso hnd
   rw[HS]
   refine⟨D,dz qs,rfl,.inl ⟨aC.of aF,λt ht=>?_⟩⟩
   have sD:Same H3 (upd H3 D (.lst (dz qs))):=Same.new hD
   have s5:Same H3 (upd (upd H3 D (.lst (dz qs))) t (.tup (dz qs))):=sD.trans (Same.new ht)
   have kp5:fG Pt H (upd (upd H3 D (.lst (dz qs))) t (.tup (dz qs))):=oR.trans (Kp.of s5)
   have hT5:bB Pt bM bN (upd (upd H3 D (.lst (dz qs))) t (.tup (dz qs))):=.inr ⟨c',hL2.mono λb o _ e=>s5 _ _ e⟩
   have xX:upd (upd H3 D (.lst (dz qs))) t (.tup (dz qs)) t=some (.tup (dz qs)):=aF
   have xY:lF (upd (upd H3 D (.lst (dz qs))) t (.tup (dz qs))) qs:=hp2.mono (Tu.of s5)
   generalize upd (upd H3 D (.lst (dz qs))) t (.tup (dz qs))=H5 at kp5 hT5 xX xY
   have itm:∀j,j<qs.length->∃cc u,(dz qs)[j]? =some (.ref cc)/\H5 cc=some (.tup [.str ((nms qs).getD j ""),u]):=λj hj=>by
    obtain⟨cc,u,ec,hc,_⟩:=xY qs[j] (Q0t hj)
    refine⟨cc,u,?_,?_⟩
    . show(qs.map (·.1))[j]? =_
      rw[Q0g,Q05 hj]
      exact congrArg some ec
    . have e:(nms qs).getD j ""=qs[j].2.1:=by
       unfold nms
       rw[Q0p,Q0g,Q05 hj]
       rfl
      rw[e];exact hc
   refine⟨_,rfl,t,_,rfl,.inr (aH.of xX),_,_,rfl,⟨by decide,by decide,by omega,by rw[xW];omega⟩,Gk (lo:=1) (n:=(((dz qs).length:Int) - 1).toNat) (λk σ H'=>H'=H5/\∃y z,σ=[some (.ref l),some (.ref t),y,z]) ⟨rfl,_,_,rfl⟩ ?_ ?_⟩
   . rintro k σ H' hk ⟨rfl,y,z,rfl⟩
     rw[xW] at hk
     obtain⟨c1,u1,a1,b1⟩:=itm (k+1) (by omega)
     obtain⟨c2,u2,a2,b2⟩:=itm k (by omega)
     have e1:dZ (dz qs) ((1:Int)+(k:Int))=some (.ref c1):=by
      have:=mG (j:=k+1) a1
      rw[show((1:Int)+(k:Int))=((k+1:Nat):Int) by omega];exact this
     have e2:dZ (dz qs) ((1:Int)+(k:Int) - 1)=some (.ref c2):=by
      have:=mG (j:=k) a2
      rw[show((1:Int)+(k:Int) - 1)=((k:Nat):Int) by omega];exact this
     refine⟨_,rfl,_,rfl,t,_,_,_,rfl,rfl,aH.of xX,e1,c1,_,_,_,rfl,rfl,aH.of b1,rfl,?_⟩
     refine⟨_,rfl,_,rfl,_,rfl,_,_,rfl,rfl,t,_,_,_,rfl,rfl,aH.of xX,e2,c2,_,_,_,rfl,rfl,aH.of b2,rfl,rfl,_,rfl,dM (λcc=>?_) λcc=>⟨rfl,_,_,rfl⟩⟩
     have e:(nms qs).getD (k+1) ""=(nms qs).getD k "":=by
      have:=of_decide_eq_true cc
      injection this
     have hl1:k+1<(nms qs).length:=by rw[Cy];omega
     have hl2:k<(nms qs).length:=by rw[Cy];omega
     rw[Q0p,Q0p,Q05 hl1,Q05 hl2] at e
     have e:(nms qs)[k+1]=(nms qs)[k]:=e
     exact absurd e.symm (List.pairwise_iff_getElem.mp hnd k (k+1) hl2 hl1 (by omega))
   . rintro σ H' ⟨rfl,y,z,rfl⟩
     exact⟨_,rfl,q1 t _ kp5 hT5 xX⟩
theorem aaF:bA ["pairs"] ["pairs"] (aL (top 15)):=by refine⟨rfl,rfl,rfl,?_,rfl,?_,?_⟩ <;> decide+kernel
theorem aiV {Pt:Addr}(T:Tb mg)(uG:Dn K mg "record_of" oH (top 15) Jv Jw)(uF:Dn K mg "sorted_fields" oH (top 14) Ju CJ)(aiW:aq P w K mg base aB (8) Ju CJ oH (aaA K Pt)):aq P w K mg base aB (9) Jv Jw oH (aaB K Pt):=by
 refine uG.F.ok aaF (λvs H Q E h=>?_) (λcdv A outer s H vs Q E hr h=>?_)
 . obtain⟨l,qs,rfl,_⟩:=h
   rfl
 obtain⟨l,qs,rfl,hl,hp,h13,hT,hnd,hso,q1⟩:=h
 have nd:=aaF.nd
 refine⟨_,(aD (aP (cO (aj bD (aj (aR aiW (hr.mono (by decide)) uF (aj (pv 0) ak)) ak))))),?_⟩
 refine⟨_,rfl,l,qs,rfl,hl,hp,h13,hT,hnd,hso,λt H' kp hT' ht'=>?_⟩
 refine⟨dg,λr hr'=>?_⟩
 exact q1 r t _ (kp.trans (Kp.of (Same.new hr'))) (hT'.same (Same.new hr')) (by rw[au (aN ht' hr')];exact ht') aF
noncomputable abbrev aiX:R2:=λx y H Q=>y=.non/\Q (.bl (!decide (x=.non))) H
theorem aaG (f:Str->V){ss:List Str}{x:Str}(h:x ∉ ss):putK (aK f ss) (Sum.inr x) (f x)=aK f (ss++[x]):=by
 unfold putK
 rw[if_neg]
 . unfold aK
   rw[Q0k]
   rfl
 . rw[Ag,iK,if_neg h]
   decide
theorem Fs.uH:∀{fs:Fs}{x:Str},x∈fs.names->∃k,fs.get x=some k
 | .nil,_,h=>nomatch h
 | .cons y q r,x,h=>by
   by_cases e:x=y
   . exact⟨q,by show(if x=y then some q else r.get x)=_;rw[if_pos e]⟩
   . obtain⟨k,hk⟩:=Fs.uH (fs:=r) (x:=x) (by
      rcases List.mem_cons.mp h with z|z
      . exact absurd z e
      . exact z)
     exact⟨k,by show(if x=y then some q else r.get x)=_;rw[if_neg e];exact hk⟩
theorem xZ (i:Nat):(List.replicate i true).all id=true:=by
 rw[Q1k]
 intro z hz
 rw[Q2b hz]
 rfl
theorem aiY {ss:List Str}{i:Nat}{v:V}(h:(ss.map V.str)[i]? =some v):∃x,ss[i]? =some x/\v=.str x:=by
 rw[Q0g] at h
 cases e:ss[i]? with
 |none=>rw[e] at h;cases h
 |some x=>rw[e] at h;exact⟨x,rfl,(Option.some.inj h).symm⟩
theorem aiZ (ss:List Str):((List.range ss.length).map λi=>(Sum.inr (ss.getD i ""):Key))=ss.map Sum.inr:=by
 refine Q2n (by simp) λi h1 h2=>?_
 have hi:i<ss.length:=by simpa using h2
 rw[Q1l,List.getElem_range,Q1l,Q0p,Q05 hi]
 rfl
theorem aC.yc {K:W.Frag}{H H':Hp}{l:Addr}{xs:List V}(h:aC K H l xs)(s:Same H H'):aC K H' l xs:=by
 rcases h with(h|⟨o,h⟩)|h
 . exact .inl (.inl (s _ _ h))
 . exact .inl (.inr ⟨o,s _ _ h⟩)
 . exact .inr h
noncomputable def aaH:Sp:=λvs H Q _=>vs=[.bl true]/\Q .non H
noncomputable def aaI (K:W.Frag):Sp:=λvs H Q _=>∃kk t l xs fs,∃ss:List Str,vs=[.ref kk,.ref l]/\H kk=some (.tup [.str "record",.ref t])/\H t=some (.tup xs)/\FA H xs fs/\fs.names.Nodup/\aC K H l (ss.map V.str)/\ss.Nodup/\ss.length<=12/\(∀x∈ss,x∈fs.names)/\∀H',Same H H'->Q (.bl true) H'
noncomputable def aaJ (K:W.Frag):Sp:=λvs H Q _=>∃t l xs fs,∃ss:List Str,vs=[.ref t,.ref l]/\H t=some (.tup xs)/\FA H xs fs/\fs.names.length<=12/\aC K H l (ss.map V.str)/\∀p H',Same H H'->H' p=some (.lst (qw ss xs fs.names))->H p=none->Q (.ref p) H'
noncomputable def aaK (K:W.Frag):Sp:=λvs H Q _=>∃a l kvs,∃ss:List Str,∃f:Str->V,vs=[.ref a,.ref l]/\H a=some (.dK kvs)/\aC K H l (ss.map V.str)/\ss.Nodup/\ss.length<=12/\(∀x∈ss,dO kvs (Sum.inr x)=some (f x))/\∀p H',Same H H'->H' p=some (.dK (aK f ss))->H p=none->Q (.ref p) H'
theorem aaL:bA ["stands"] ["stands"] (aL (top 56)):=by refine⟨rfl,rfl,rfl,?_,rfl,?_,?_⟩ <;> decide+kernel
theorem ai0 (T:Tb mg)(uI:Dn K mg "ask_stands" ["stands"] (top 56) Jx Jy):aq P w K mg base aB (1) Jx Jy ["stands"] (aaH):=by
 refine uI.F.ok aaL (λvs H Q E h=>?_) (λcdv A outer s H vs Q E hr h=>?_)
 . obtain⟨rfl,_⟩:=h
   rfl
 obtain⟨rfl,q⟩:=h
 have nd:=aaL.nd
 refine⟨_,(aD (aW (lZ (dF (pv 0))) (aD aO) aX)),?_⟩
 exact⟨_,rfl,true,rfl,bH q⟩
theorem aaM:bA ["kind","names"] ["kind","names"] (aL (top 59)):=by refine⟨rfl,rfl,rfl,?_,rfl,?_,?_⟩ <;> decide+kernel
theorem ai1 (T:Tb mg)(uJ:Dn K mg "has_each_once" Br (top 59) Jz JB)(oO:Dn K mg "kind_at" uf (top 13) xU xV)(JC:aq P w K mg base aB (1) xU xV uf (Jr)):aq P w K mg base aB (3) Jz JB Br (aaI K):=by
 refine uJ.F.ok aaM (λvs H Q E h=>?_) (λcdv A outer s H vs Q E hr h=>?_)
 . obtain⟨kk,t,l,xs,fs,ss,rfl,_⟩:=h
   rfl
 obtain⟨kk,t,l,xs,fs,ss,rfl,hkk,ht,hfa,hnd,hl,hsn,h12,hin,q⟩:=h
 have nd:=aaM.nd
 refine⟨_,(ao (aW (aV pQ (aY ah6 (by rfl) T.dG PySem.boot_len (aj (jx (ah5 rfl) (by rfl) T.ah8 boot_set (aj (pv 1) ak)) ak)) (aY d8 (by rfl) T.dG PySem.boot_len (aj (pv 1) ak)) (aQ _)) (aD (aP pJ)) aX)
  (aD (aP (lu (lC bF (aZ bV (pv 0) aG (λ_ _=>rfl)) bD (aQ _)) (mj (aY (wM rfl) (by rfl) T.xK boot_all (aj (g8 (g:=(cF 0)) (tt:=fZ) (te:=(bL aiX (pU _ _ _ (cA (bL (mH K) (bC 1) (tC (.int 1))) (cA (bC 0) fX))) (tC .non))) (own:=["name"]) rfl (dw.of (N:=["kind","names"]) (sc:=aL (top 59)) rfl rfl rfl (by decide+kernel)) (lB (pv 1)) (λ_ _ _ _ _=>(bG (i:=0) (show(["name","kind","names"]:List Str).Nodup by decide+kernel) rfl (Or.inl rfl) (.inr rfl))) (λ_ _ _ _ _=>iG) (λ_ _ _ _ _=>(lC z7 (aR JC (hr.mono (by decide)) oO (aj (aZ bV (pv 1) aG (λ_ _=>rfl)) (aj (pv 0) ak))) fj (aQ _)))) ak))))))),?_⟩
 refine⟨_,rfl,l,ss,rfl,hl,by omega,λp hp=>?_⟩
 have s1:Same H (upd H p (xJ P w p (eU (λi=>Sum.inr (ss.getD i "")) ss.length).length)):=Same.new hp
 have hml:(eU (λi=>(Sum.inr (ss.getD i ""):Key)) ss.length).length=ss.length:=by
  have hn:((List.range ss.length).map λi=>(Sum.inr (ss.getD i ""):Key)).Nodup:=by
   rw[aiZ]
   exact List.Pairwise.map _ (λa b h z=>h (Sum.inr.inj z)) hsn
  rw[Z9 hn,Q06,Q10]
 refine⟨p,_,rfl,aF,?_⟩
 have hl1:aC K (upd H p (xJ P w p (eU (λi=>Sum.inr (ss.getD i "")) ss.length).length)) l (ss.map V.str):=(Pb.aC.yc hl s1)
 rw[hml] at s1 hl1 ⊢
 refine⟨_,rfl,l,_,rfl,.inl hl1,rfl,_,rfl,af3 (by rw[Q06]) ?_⟩
 refine⟨_,rfl,kk,_,_,_,rfl,rfl,aH.of (s1 _ _ hkk),rfl,rfl,_,rfl,?_⟩
 rw[decide_eq_true rfl]
 refine bZ ?_
 have ht1:=s1 _ _ ht
 have ai2:=s1 _ _ hkk
 have ai3:=FA.mono (Tu.of s1) fs hfa
 refine⟨_,rfl,l,rfl,⟨_,hl1⟩,λi m ys H'=>H'=upd H p (xJ P w p ss.length)/\m=ss.length - i/\i<=ss.length/\ys=(List.replicate i true).map V.bl,⟨ss.length,rfl,by simp,Q0b _,rfl⟩,?_⟩
 rintro i m ys H' ⟨rfl,rfl,hi,rfl⟩
 by_cases hlt:i<ss.length
 . refine .inr ⟨⟨_,.str ss[i],hl1,by rw[Q0g,Q05 hlt];rfl⟩,by rw[Q06,Q17];exact cP (by omega),λx H' y=>?_⟩
   obtain⟨rfl,y⟩:=y
   have hx:=y _ hl1
   have ex:x=.str ss[i]:=by
    rw[Q0g,Q05 hlt] at hx
    exact(Option.some.inj hx).symm
   subst ex
   obtain⟨k,hk⟩:=Fs.uH (hin _ (Q0t hlt))
   refine⟨rfl,yes (bZ ?_)⟩
   refine⟨_,rfl,kk,_,_,_,rfl,rfl,aH.of ai2,rfl,_,rfl,t,ss[i],xs,fs,k,rfl,ht1,ai3,hnd,hk,λu hu hne=>⟨rfl,?_⟩⟩
   rw[decide_eq_false hne]
   refine⟨ss.length - (i+1),by omega,rfl,rfl,hlt,?_⟩
   rw[List.replicate_succ',Q0k]
   rfl
 . refine .inl ⟨⟨_,hl1,by rw[Q06];exact Q1 hlt⟩,λp hp=>⟨p,List.replicate i true,rfl,aC.of aF,?_⟩⟩
   rw[xZ]
   exact q _ (s1.trans (Same.new hp))
theorem aaN:bA ["fields","names"] ["fields","names"] (aL (top 60)):=by refine⟨rfl,rfl,rfl,?_,rfl,?_,?_⟩ <;> decide+kernel
theorem ai4 (T:Tb mg)(uK:Dn K mg "fields_among" Bs (top 60) JD JF):aq P w K mg base aB (1) JD JF Bs (aaJ K):=by
 refine uK.F.ok aaN (λvs H Q E h=>?_) (λcdv A outer s H vs Q E hr h=>?_)
 . obtain⟨t,l,xs,fs,ss,rfl,_⟩:=h
   rfl
 obtain⟨t,l,xs,fs,ss,rfl,ht,hfa,h12,hl,q⟩:=h
 have nd:=aaN.nd
 refine⟨_,(aD (aP (g8 (g:=(cF 0)) (tt:=(mF (bL (Yi K false) (bL (mH K) (bC 0) (tC (.int 0))) (bC 2)))) (te:=(bC 0)) (own:=["pair"]) rfl (dw.of (N:=["fields","names"]) (sc:=aL (top 60)) rfl rfl rfl (by decide+kernel)) (pO (pv 0)) (λ_ _ _ _ _=>(bG (i:=0) (show(["pair","fields","names"]:List Str).Nodup by decide+kernel) rfl (Or.inl rfl) (.inr rfl))) (λ_ _ _ _ _=>(Ai (aV Yj (aZ bV (pv 0) aG (λ_ _=>rfl)) (pv 2) (by with_unfolding_all rfl)))) (λ_ _ _ _ _=>(pv 0))))),?_⟩
 have uE:=FA.len fs hfa
 refine⟨_,rfl,t,rfl,⟨_,aH.of ht⟩,λi m ys H'=>H'=H/\m=xs.length - i/\i<=xs.length/\ys=(((xs.zip fs.names).take i).filter λq=>decide (q.2∈ss)).map (·.1),⟨xs.length,rfl,by simp,Q0b _,rfl⟩,?_⟩
 rintro i m ys H' ⟨rfl,rfl,hi,rfl⟩
 by_cases hlt:i<xs.length
 . have hb:((((xs.zip fs.names).take i).filter λq=>decide (q.2∈ss)).map (·.1)).length<=i:=by
    rw[Q06]
    exact Q0c (Q0z _ _) (by rw[Q0o];omega)
   refine .inr ⟨⟨xs,xs[i],aH.of ht,by simp[hlt]⟩,cP (by omega),λx H' y=>?_⟩
   obtain⟨rfl,y⟩:=y
   have hv:=y xs (aH.of ht)
   obtain⟨c,u,nm,k,rfl,hat,hc,hk⟩:=FA.get fs hfa hv
   have hnm:fs.names[i]? =some nm:=by rw[Fs.jA,hat];rfl
   have hz:(xs.zip fs.names)[i]? =some (.ref c,nm):=by
    rw[Q2z]
    exact⟨hv,hnm⟩
   have step:(((xs.zip fs.names).take (i+1)).filter λq=>decide (q.2∈ss)).map (·.1)=(((xs.zip fs.names).take i).filter λq=>decide (q.2∈ss)).map (·.1)++(if nm∈ss then [V.ref c] else []):=by
    rw[Q0u,hz,Q2c,Q0k]
    congr 1
    show(List.filter _ [(V.ref c,nm)]).map _=_
    rw[Q0s]
    by_cases e:nm∈ss
    . rw[if_pos (decide_eq_true e),if_pos e];rfl
    . rw[if_neg (by show ¬decide (nm∈ss)=true;rw[decide_eq_false e];decide),if_neg e];rfl
   refine⟨rfl,_,rfl,c,_,_,_,rfl,rfl,aH.of hc,rfl,_,rfl,l,_,rfl,.inl hl,rfl,Js,_,rfl,?_⟩
   refine dM (λcc=>?_) (λcc=>?_)
   . have e:nm∈ss:=of_decide_eq_true (Cz.symm.trans (show inV (V.str nm) (ss.map V.str)=true from cc))
     refine⟨_,rfl,xs.length - (i+1),by omega,rfl,rfl,hlt,?_⟩
     rw[step,if_pos e]
   . have e:¬nm∈ss:=λz=>cc (show inV (V.str nm) (ss.map V.str)=true from Cz.trans (decide_eq_true z))
     refine⟨xs.length - (i+1),by omega,rfl,rfl,hlt,?_⟩
     rw[step,if_neg e,Q0x]
 . refine .inl ⟨⟨xs,aH.of ht,Q1 hlt⟩,λp hp=>?_⟩
   refine q p _ (Same.new hp) ?_ hp
   rw[aF]
   unfold qw
   rw[Q1d (by rw[List.length_zip];omega)]
theorem aaO:bA ["record","names","part","name"] ["record","names"] (aL (top 61)):=by refine⟨rfl,rfl,rfl,?_,rfl,?_,?_⟩ <;> decide+kernel
theorem ai5 (T:Tb mg)(uL:Dn K mg "part_of" Bt (top 61) JG JH):aq P w K mg base aB (1) JG JH Bt (aaK K):=by
 refine uL.F.ok aaO (λvs H Q E h=>?_) (λcdv A outer s H vs Q E hr h=>?_)
 . obtain⟨a,l,kvs,ss,f,rfl,_⟩:=h
   rfl
 obtain⟨a,l,kvs,ss,f,rfl,ha,hl,hsn,h12,hv,q⟩:=h
 have nd:=aaO.nd
 have hu:=fY hr
 refine⟨_,(ao (bw (i:=2) nd rfl (Or.inl rfl) G6)
  (ao (jt PassesOwn.never rfl (lB (pv 1)) (bG (i:=3) nd rfl (Or.inl rfl)) (aD (wH hu (pv 2) (pv 3) (iD hu (pv 0) (pv 3) (λ_ _=>rfl)) rfl)))
  (aD (aP (pv 2))))),?_⟩
 intro p hp
 have s0:Same H (upd H p (.dK [])):=Same.new hp
 refine⟨_,rfl,l,rfl,⟨_,(Pb.aC.yc hl s0)⟩,zW (xs:=ss.map V.str) (λi σ H'=>Same H H'/\(∃z,σ=[some (.ref a),some (.ref l),some (.ref p),z])/\H' p=some (.dK (aK f (ss.take i)))) ⟨s0,⟨_,rfl⟩,aF⟩ ?_ ?_ ?_⟩
 . rintro i σ H' _ ⟨s1,_⟩
   exact(Pb.aC.yc hl s1)
 . rintro i v σ H' hv' ⟨s1,⟨z,rfl⟩,hp'⟩
   obtain⟨x,hx,rfl⟩:=aiY hv'
   have hi:i<ss.length:=(List.getElem?_eq_some_iff.mp hx).1
   have hxe:ss[i]=x:=(List.getElem?_eq_some_iff.mp hx).2
   refine⟨_,rfl,_,rfl,a,f x,rfl,?_,_,rfl,_,rfl,p,_,rfl,nZ.k (k:=Sum.inr x) hp' (by rw[gF,Q0o];exact cP (by omega)),?_⟩
   . have:=cG.k (k:=Sum.inr x) (s1 _ _ ha)
     rw[hv x (Q0y hx)] at this
     exact this
   . refine⟨λc o e=>?_,⟨_,rfl⟩,?_⟩
     . rw[au]
       . exact s1 c o e
       . exact aN e hp
     . rw[aF,aaG f,Q0u,hx]
       . rfl
       . intro hm
         obtain⟨j,hj,e⟩:=Q1h hm
         rw[Q0o] at hj
         rw[Q28] at e
         exact absurd (e.trans hxe.symm) (List.pairwise_iff_getElem.mp hsn j i (by omega) hi (by omega))
 . rintro σ H' ⟨s1,⟨z,rfl⟩,hp'⟩
   rw[Q06,Q1b] at hp'
   exact⟨_,rfl,q p _ s1 hp' hp⟩
structure d9 (H:Hp) (kk t:Addr) (xs:List V) (fs:Fs):Prop where
 at_:H kk=some (.tup [.str "record",.ref t])
 tu:H t=some (.tup xs)
 fa:FA H xs fs
 nd:fs.names.Nodup
 bO:fs.names.length<=12
 W:fs.W
 so:fs.names.Pairwise sle
theorem d9.mono {H H':Hp}{kk t:Addr}{xs:List V}{fs:Fs}(h:d9 H kk t xs fs)(u:Tu H H'):d9 H' kk t xs fs:=
 ⟨u _ _ h.at_,u _ _ h.tu,FA.mono u fs h.fa,h.nd,h.bO,h.W,h.so⟩
theorem d9.few {H:Hp}{kk t r t':Addr}{xs:List V}{fs:Fs}(ss:List Str)(h:d9 H kk t xs fs)(h1:H r=some (.tup [.str "record",.ref t']))(h2:H t'=some (.tup (qw ss xs fs.names))):d9 H r t' (qw ss xs fs.names) (fs.dH ss):=
 ⟨h1,h2,FA.few fs h.fa,by rw[Fs.ji];exact h.nd.filter _,by rw[Fs.ji];exact Q0c (Q0z _ _) h.bO,Fs.Jt ss h.W,by rw[Fs.ji];exact h.so.filter _⟩
structure eX (H:Hp) (C v dx nl:Addr) (ss:List Str):Prop where
 ob:H v=some (.ins C dx [("names",.ref nl)])
 nl:H nl=some (.lst (ss.map V.str))
 nd:ss.Nodup
 bO:ss.length<=12
structure mZ (K:W.Frag) (mg:Str->Option Value) (C fI fB fS fP:Addr):Prop where
 ct:Cls K C
 na:lD K C "names"
 mkk:Mk K C fI
 m:mg "Take"=some (.ref C)
 b:Meth K C "behind" fB
 s:Meth K C "see" fS
 p:Meth K C "put" fP
noncomputable def aaP (K:W.Frag) (C:Addr):Sp:=λvs H Q _=>∃x hl dx,∃ss:List Str,vs=[.ref x,.ref hl]/\H x=some (.ins C dx [])/\aC K H hl (ss.map V.str)/\∀p H',H p=none->(∀c o,c≠x->H c=some o->H' c=some o)->H' x=some (.ins C dx [("names",.ref p)])->H' p=some (.lst (ss.map V.str))->Q .non H'
noncomputable def yd (P2 C:Addr):Sp:=λvs H Q _=>∃v kk t dx nl xs fs ss,vs=[.ref v,.ref kk]/\eX H C v dx nl ss/\d9 H kk t xs fs/\(∀x∈ss,x∈fs.names)/\bB P2 bM bN H/\∀r t' H',fG P2 H H'->bB P2 bM bN H'->H' r=some (.tup [.str "record",.ref t'])->H' t'=some (.tup (qw ss xs fs.names))->Q (.ref r) H'
noncomputable def aaQ (C:Addr):Sp:=λvs H Q _=>∃v kv a dx nl ss kvs,∃f:Str->V,vs=[.ref v,kv,.ref a]/\eX H C v dx nl ss/\H a=some (.dK kvs)/\(∀x∈ss,dO kvs (Sum.inr x)=some (f x))/\∀p H',Same H H'->H' p=some (.dK (aK f ss))->H p=none->Q (.ref p) H'
section
variable {P:Program}{w:World}{K:W.Frag}{mg:Str->Option Value}{base:Heap}
variable {C P2:Addr}
theorem aaR:bA ["self","names"] ["self","names"] (aL (aJ 62 0)):=by refine⟨rfl,rfl,rfl,?_,rfl,?_,?_⟩ <;> decide+kernel
theorem ai8 (T:Tb mg)(TK:mZ K mg C j7 gH j8 j9)(uM:Dm K "__init__" "Take.__init__" Bu (aJ 62 0) j7 JK):aq P w K mg base aB (1) j7 JK Bu (aaP K C):=by
 refine uM.F.ok aaR (λvs H Q E h=>?_) (λcdv A outer s H vs Q E hr h=>?_)
 . obtain⟨x,hl,dx,ss,rfl,_⟩:=h
   rfl
 obtain⟨x,hl,dx,ss,rfl,hx,hs,q⟩:=h
 have nd:=aaR.nd
 refine⟨_,(aD (tH (pv 0) (jx Yk (by rfl) T.lH boot_list (aj (pv 1) ak)) rfl)),?_⟩
 refine⟨_,rfl,hl,_,rfl,.inl hs,λp hp=>?_⟩
 have hpx:x≠p:=aN hx hp
 refine⟨_,rfl,x,C,dx,[],rfl,by rw[au hpx];exact hx,TK.ct,TK.na,by decide,?_⟩
 refine q p _ hp (λc o hc e=>by rw[au hc,au (aN e hp)];exact e) aF ?_
 rw[au (Ne.symm hpx),aF]
theorem aaS:bA ["self","kind"] ["self","kind"] (aL (aJ 62 1)):=by refine⟨rfl,rfl,rfl,?_,rfl,?_,?_⟩ <;> decide+kernel
theorem ai9 (T:Tb mg)(TK:mZ K mg C j7 gH j8 j9)(iM:Dm K "behind" "Take.behind" mR (aJ 62 1) gH oU)(uI:Dn K mg "ask_stands" ["stands"] (top 56) Jx Jy)(ai_:aq P w K mg base aB (1) Jx Jy ["stands"] (aaH))(uJ:Dn K mg "has_each_once" Br (top 59) Jz JB)(aja:aq P w K mg base aB (3) Jz JB Br (aaI K))(uK:Dn K mg "fields_among" Bs (top 60) JD JF)(ajb:aq P w K mg base aB (1) JD JF Bs (aaJ K))(uG:Dn K mg "record_of" oH (top 15) Jv Jw)(ajc:aq P w K mg base aB (9) Jv Jw oH (aaB K P2)):aq P w K mg base aB (10) gH oU mR (yd P2 C):=by
 refine iM.F.ok aaS (λvs H Q E h=>?_) (λcdv A outer s H vs Q E hr h=>?_)
 . obtain⟨v,kk,t,dx,nl,xs,fs,ss,rfl,_⟩:=h
   rfl
 obtain⟨v,kk,t,dx,nl,xs,fs,ss,rfl,hV,hK,hin,hT,q⟩:=h
 have nd:=aaS.nd
 refine⟨_,(ao (iz (aR ai_ (hr.mono (by decide)) uI (aj (aR aja (hr.mono (by decide)) uJ (aj (pv 1) (aj (cY (pv 0) rfl) ak))) ak)))
  (aD (aP (aR ajc (hr.mono (by decide)) uG (aj (aR ajb (hr.mono (by decide)) uK (aj (aZ bV (pv 1) aG (λ_ _=>rfl)) (aj (cY (pv 0) rfl) ak))) ak))))),?_⟩
 refine⟨_,rfl,_,rfl,v,C,dx,_,_,rfl,hV.ob,TK.ct,TK.na,rfl,kk,t,nl,xs,fs,ss,rfl,hK.at_,hK.tu,hK.fa,hK.nd,aC.of hV.nl,hV.nd,hV.bO,hin,λH1 s1=>⟨rfl,?_⟩⟩
 have jE:=hK.mono (Tu.of s1)
 refine⟨_,rfl,kk,_,_,_,rfl,rfl,aH.of jE.at_,rfl,_,rfl,v,C,dx,_,_,rfl,s1 _ _ hV.ob,TK.ct,TK.na,rfl,t,nl,xs,fs,ss,rfl,jE.tu,jE.fa,jE.bO,aC.of (s1 _ _ hV.nl),λp H2 s2 hp2 _=>?_⟩
 have s12:=s1.trans s2
 have yg:=jE.mono (Tu.of s2)
 obtain⟨qs,e1,e2,hpr⟩:=lF.of (FA.few (ss:=ss) fs yg.fa)
 rw[<-e1] at hp2
 have h12:qs.length<=12:=by
  rw[<-Cy,e2,Fs.ji]
  exact Q0c (Q0z _ _) hK.bO
 refine⟨p,qs,rfl,aC.of hp2,hpr,by omega,hT.same s12,by rw[e2,Fs.ji];exact hK.nd.filter _,by rw[e2,Fs.ji];exact hK.so.filter _,λr t' H' kp hT' ht' hr'=>?_⟩
 exact q r t' H' ((Kp.of s12).trans kp) hT' hr' (by rw[ht',e1])
theorem aaT:bA ["self","kind","source"] ["self","kind","source"] (aL (aJ 62 2)):=by refine⟨rfl,rfl,rfl,?_,rfl,?_,?_⟩ <;> decide+kernel
theorem ajd (T:Tb mg)(TK:mZ K mg C j7 gH j8 j9)(uN:Dm K "see" "Take.see" qg (aJ 62 2) j8 JL)(uL:Dn K mg "part_of" Bt (top 61) JG JH)(aje:aq P w K mg base aB (1) JG JH Bt (aaK K)):aq P w K mg base aB (2) j8 JL qg (aaQ C):=by
 refine uN.F.ok aaT (λvs H Q E h=>?_) (λcdv A outer s H vs Q E hr h=>?_)
 . obtain⟨v,kv,a,dx,nl,ss,kvs,f,rfl,_⟩:=h
   rfl
 obtain⟨v,kv,a,dx,nl,ss,kvs,f,rfl,hV,ha,hf,q⟩:=h
 have nd:=aaT.nd
 refine⟨_,(aD (aP (aR aje (hr.mono (by decide)) uL (aj (pv 2) (aj (cY (pv 0) rfl) ak))))),?_⟩
 exact⟨_,rfl,_,rfl,v,C,dx,_,_,rfl,hV.ob,TK.ct,TK.na,rfl,a,nl,kvs,ss,f,rfl,ha,aC.of hV.nl,hV.nd,hV.bO,hf,q⟩
end
noncomputable def aaU:Sp:=λvs H Q _=>∃b a xs kvs fs,vs=[.ref b,.ref a]/\H b=some (.tup xs)/\FA H xs fs/\fs.names.length<=12/\H a=some (.dK kvs)/\kvs.length=fs.names.length/\(∀i nm k,fs.at i=some (nm,k)->∃v,dO kvs (Sum.inr nm)=some v)/\∀H',Same H H'->Q (.bl true) H'
noncomputable def m7 (fs:Fs) (kvs:List (Key × V)):Prop:=kvs.length=fs.names.length/\∀i nm k,fs.at i=some (nm,k)->∃v,dO kvs (Sum.inr nm)=some v/\dX k v
theorem ajf {k:Kd}{v:V}(h:dX k v):jY k:=by
 cases k with
 |num=>trivial
 |gh=>trivial
 |_=>exact h.elim
noncomputable def JM:Sp:=λvs H Q _=>∃kv v k,vs=[kv,v]/\KA H kv k/\dX k v/\Q .non H
noncomputable def aaV:Sp:=λvs H Q _=>∃b a xs kvs fs,vs=[.ref b,.ref a]/\H b=some (.tup xs)/\FA H xs fs/\fs.names.length<=12/\H a=some (.dK kvs)/\m7 fs kvs/\∀H',Same H H'->Q .non H'
noncomputable def yh:Sp:=λvs H Q _=>∃kk t a xs kvs fs,vs=[.ref kk,.ref a]/\d9 H kk t xs fs/\H a=some (.dK kvs)/\m7 fs kvs/\∀H',Same H H'->Q .non H'
noncomputable def aaW:Sp:=λvs H Q _=>∃kv k,vs=[kv]/\KA H kv k/\jY k/\∀H',Same H H'->Q (.bl true) H'
noncomputable def gn (f g:Str->V) (ss:List Str):Str->V:=λx=>if x∈ss then g x else f x
theorem JN {l:List Str}(g:Str->V):∀(ss:List Str) (f:Str->V),(∀x∈ss,x∈l)->oN (aK f l) (aK g ss)=aK (gn f g ss) l
 |[],f,_=>aax λx _=>by unfold gn;rw[if_neg (by simp)]
 |y::r,f,h=>by
  show oN (putK (aK f l) (Sum.inr y) (g y)) (aK g r)=_
  rw[Jk _ (h y Q0f),JN g r _ λx hx=>h x (Q0j _ hx)]
  refine aax λx _=>?_
  unfold gn gG
  by_cases e1:x∈r
  . rw[if_pos e1,if_pos (Q0j _ e1)]
  . rw[if_neg e1]
    by_cases e2:x=y
    . rw[if_pos e2,if_pos (by rw[e2];exact Q0f),e2]
    . rw[if_neg e2,if_neg (λz=>(List.mem_cons.mp z).elim e2 e1)]
noncomputable def aaX (P2 C:Addr):Sp:=λvs H Q _=>∃v kk t dx nl xs fs ss src sn,∃f g:Str->V,vs=[.ref v,.ref kk,.ref src,.ref sn]/\eX H C v dx nl ss/\d9 H kk t xs fs/\(∀x∈ss,x∈fs.names)/\bB P2 bM bN H/\H src=some (.dK (aK f fs.names))/\H sn=some (.dK (aK g ss))/\m7 (fs.dH ss) (aK g ss)/\
 ∀p H',fG P2 H H'->bB P2 bM bN H'->H' p=some (.dK (aK (gn f g ss) fs.names))->Q (.ref p) H'
section
variable {P:Program}{w:World}{K:W.Frag}{mg:Str->Option Value}{base:Heap}
variable {C P2:Addr}
theorem aaY:bA ["fields","record"] ["fields","record"] (aL (top 19)):=by refine⟨rfl,rfl,rfl,?_,rfl,?_,?_⟩ <;> decide+kernel
theorem ajg (T:Tb mg)(uO:Dn K mg "has_just" j4 (top 19) JQ JR):aq P w K mg base aB (1) JQ JR j4 (aaU):=by
 refine uO.F.ok aaY (λvs H Q E h=>?_) (λcdv A outer s H vs Q E hr h=>?_)
 . obtain⟨b,a,xs,kvs,fs,rfl,_⟩:=h
   rfl
 obtain⟨b,a,xs,kvs,fs,rfl,hb,hfa,hx,ha,hkl,hget,q⟩:=h
 have nd:=aaY.nd
 have hu:=fY hr
 refine⟨_,(aD (aP (lu (lC bF (aY G7 (by rfl) T.dG PySem.boot_len (aj (pv 1) ak)) (aY d8 (by rfl) T.dG PySem.boot_len (aj (pv 0) ak)) (aQ _)) (mj (aY (wM rfl) (by rfl) T.xK boot_all (aj (g8 (g:=(qR K 2 (jr (cF 0) (jr (cF 1) qQ)))) (tt:=fZ) (te:=_) (own:=["name","inner"]) rfl (dw.of (N:=["fields","record"]) (sc:=aL (top 19)) rfl rfl rfl (by decide+kernel)) (pO (pv 0)) (λ_ _ _ _ _=>(fV rfl (cB (bG (i:=0) (show(["name","inner","fields","record"]:List Str).Nodup by decide+kernel) rfl (Or.inl rfl) (.inr rfl)) (cB (bG (i:=1) (show(["name","inner","fields","record"]:List Str).Nodup by decide+kernel) rfl (Or.inl rfl) (.inr rfl)) fU)))) (λ_ _ _ _ _=>iG) (λ_ _ _ _ _=>(Xg (G5 hu (pv 0) (pv 3)) (by with_unfolding_all rfl)))) ak)))))),?_⟩
 have e1:kvs.length=xs.length:=by rw[hkl,FA.len fs hfa]
 have hx':xs.length<=12:=by rw[FA.len fs hfa];exact hx
 refine⟨_,rfl,a,_,rfl,ha,_,rfl,b,_,rfl,.inr (aH.of hb),rfl,_,rfl,?_⟩
 rw[decide_eq_true (show V.int (kvs.length:Nat)=V.int (xs.length:Nat) by rw[e1])]
 refine bZ ?_
 refine⟨_,rfl,b,rfl,⟨_,aH.of hb⟩,λi m ys H'=>H'=H/\m=xs.length - i/\i<=xs.length/\ys=(List.replicate i true).map V.bl,⟨xs.length,rfl,by simp,Q0b _,rfl⟩,?_⟩
 rintro i m ys H' ⟨rfl,rfl,hi,rfl⟩
 by_cases hlt:i<xs.length
 . refine .inr ⟨⟨xs,xs[i],aH.of hb,by simp[hlt]⟩,by rw[Q06,Q17];exact cP (by omega),λx H' y=>?_⟩
   obtain⟨rfl,y⟩:=y
   have hv:=y xs (aH.of hb)
   obtain⟨c,u,nm,k,rfl,hat,hc,hk⟩:=FA.get fs hfa hv
   obtain⟨v,hval⟩:=hget i nm k hat
   refine⟨c,_,rfl,aH.of hc,rfl,_,_,rfl,_,_,rfl,rfl,rfl,yes (bZ ?_)⟩
   refine⟨_,rfl,_,rfl,a,_,rfl,cG.k (k:=Sum.inr nm) ha,?_⟩
   rw[hval]
   refine⟨xs.length - (i+1),by omega,rfl,rfl,hlt,?_⟩
   rw[List.replicate_succ',Q0k]
   rfl
 . refine .inl ⟨⟨xs,aH.of hb,Q1 hlt⟩,λp hp=>⟨p,List.replicate i true,rfl,aC.of aF,?_⟩⟩
   rw[xZ]
   exact q _ (Same.new hp)
theorem CK:bA ["kind","value","form"] ["kind","value"] (aL (top 17)):=by refine⟨rfl,rfl,rfl,?_,rfl,?_,?_⟩ <;> decide+kernel
theorem ajh (T:Tb mg)(gJ:Dn K mg "misfit" dW (top 17) lJ lK):aq P w K mg base aB (1) lJ lK dW (JM):=by
 refine gJ.F.ok CK (λvs H Q E h=>?_) (λcdv A outer s H vs Q E hr h=>?_)
 . obtain⟨kv,v,k,rfl,_⟩:=h
   rfl
 obtain⟨kv,v,k,rfl,hk,hv,q⟩:=h
 have nd:=CK.nd
 refine⟨_,(ao (bw (i:=2) nd rfl (Or.inl rfl) (aZ bV (pv 0) aG (λ_ _=>rfl)))
  (ao (aW (aV bF (pv 2) bD (aQ _)) (aD (aP (lA (PW.pt (lq (dF (aY cH (by rfl) T.cC boot_isinstance (aj (pv 1) (aj (cD (v:=.ty "int") rfl T.xM boot_int rfl) ak)))) (lg (lZ (dF (aY cH (by rfl) T.cC boot_isinstance (aj (pv 1) (aj (cD (v:=.ty "bool") rfl T.Bm boot_bool rfl) ak)))))))) fj (fu ak)))) aX)
  (ao (aW (aV bF (pv 2) bD (aQ _)) (aD (aP (lA (dF (aY cH (by rfl) T.cC boot_isinstance (aj (pv 1) (aj (cD (v:=.ty "str") rfl T.ud boot_str rfl) ak)))) fj (fu ak)))) aX)
  (ao (aW (aV bF (pv 2) bD (aQ _)) (aD aO) aX)
  (ao (aW (aV bF (pv 2) bD (aQ _)) (aD aO) aX)
  (ao (aW (aV bF (pv 2) bD (aQ _)) (aD aO) aX)
  (aD aO))))))),?_⟩
 cases k with
 |num=>
  unfold KA at hk
  obtain⟨a,rfl,ha⟩:=hk
  obtain⟨z,rfl⟩:=hv
  refine⟨_,rfl,a,_,_,_,rfl,rfl,aH.of ha,rfl,?_⟩
  refine tR rfl (by decide+kernel) ?_
  refine⟨_,rfl,_,_,_,true,rfl,.int z,rfl,true,rfl,bZ ?_⟩
  exact⟨_,rfl,_,_,_,false,rfl,.int z,rfl,false,rfl,bZ q⟩
 |gh=>
  unfold KA at hk
  obtain⟨a,rfl,ha⟩:=hk
  obtain⟨z,rfl⟩:=hv
  refine⟨_,rfl,a,_,_,_,rfl,rfl,aH.of ha,rfl,?_⟩
  refine jc rfl (by decide+kernel) ?_
  refine tR rfl (by decide+kernel) ?_
  exact⟨_,rfl,_,_,_,true,rfl,.str z,rfl,true,rfl,bZ q⟩
 |_=>exact hv.elim
theorem aaZ:bA ["fields","record","name","inner","place"] ["fields","record"] (aL (top 18)):=by refine⟨rfl,rfl,rfl,?_,rfl,?_,?_⟩ <;> decide+kernel
theorem aji (T:Tb mg)(uP:Dn K mg "record_misfit" j4 (top 18) JT JV)(uO:Dn K mg "has_just" j4 (top 19) JQ JR)(ajj:aq P w K mg base aB (1) JQ JR j4 (aaU))(gJ:Dn K mg "misfit" dW (top 17) lJ lK)(rD:aq P w K mg base aB (1) lJ lK dW (JM)):aq P w K mg base aB (2) JT JV j4 (aaV):=by
 refine uP.F.ok aaZ (λvs H Q E h=>?_) (λcdv A outer s H vs Q E hr h=>?_)
 . obtain⟨b,a,xs,kvs,fs,rfl,_⟩:=h
   rfl
 obtain⟨b,a,xs,kvs,fs,rfl,hb,hfa,hx,ha,⟨hkl,hget⟩,q⟩:=h
 have nd:=aaZ.nd
 have hu:=fY hr
 refine⟨_,(ao (aW (PW.pt (jU (lZ (dF (aY cH (by rfl) T.cC boot_isinstance (aj (pv 1) (aj (cD (v:=.ty "dict") rfl T.jf boot_dict rfl) ak))))) (jT (lZ (dF (aR ajj (hr.mono (by decide)) uO (aj (pv 0) (aj (pv 1) ak)))))))) (aD (aP (fu ak))) aX)
  (ao (jt PassesOwn.never rfl (pO (pv 0)) (fV rfl (cB (bG (i:=2) nd rfl (Or.inl rfl)) (cB (bG (i:=3) nd rfl (Or.inl rfl)) fU))) (ao (bw (i:=4) nd rfl (Or.inl rfl) (aR rD (hr.mono (by decide)) gJ (aj (pv 3) (aj (iD hu (pv 1) (pv 2) (λ_ _=>rfl)) ak))))
  (aD (aW (aV z7 (pv 4) fj (aQ _)) (aD aO) aX))))
  (aD (aP fj)))),?_⟩
 refine⟨_,rfl,_,_,_,true,rfl,.dK ha,rfl,true,rfl,bH ?_⟩
 refine⟨_,rfl,_,rfl,b,a,xs,kvs,fs,rfl,hb,hfa,hx,ha,hkl,(λi nm k h=>by obtain⟨v,hv,_⟩:=hget i nm k h;exact⟨v,hv⟩),λH1 s1=>⟨true,rfl,bH ?_⟩⟩
 refine⟨_,rfl,b,rfl,⟨_,aH.of (s1 _ _ hb)⟩,zX (xs:=xs) (λi σ H'=>Same H H'/\∃x y z,σ=[some (.ref b),some (.ref a),x,y,z]) ⟨s1,_,_,_,rfl⟩ ?_ ?_ ?_⟩
 . rintro i σ H' _ ⟨s2,_⟩
   exact aH.of (s2 _ _ hb)
 . rintro i v σ H' hv ⟨s2,x,y,z,rfl⟩
   obtain⟨c,u,nm,k,rfl,hat,hc,hk⟩:=FA.get fs hfa hv
   obtain⟨e,hval,hpl⟩:=hget i nm k hat
   refine⟨c,_,rfl,aH.of (s2 _ _ hc),rfl,_,_,rfl,_,_,rfl,rfl,?_⟩
   refine⟨_,rfl,_,rfl,_,rfl,a,e,rfl,(by have:=cG.k (k:=Sum.inr nm) (s2 _ _ ha);rw[hval] at this;exact this),u,e,k,rfl,KA.mono (Tu.of s2) k hk,hpl,?_⟩
   refine⟨_,rfl,rfl,_,rfl,?_⟩
   rw[decide_eq_true rfl]
   exact bH ⟨s2,_,_,_,rfl⟩
 . rintro σ H' ⟨s2,_⟩
   exact q _ s2
theorem ajk (T:Tb mg)(gJ:Dn K mg "misfit" dW (top 17) lJ lK)(uP:Dn K mg "record_misfit" j4 (top 18) JT JV)(ajl:aq P w K mg base aB (2) JT JV j4 (aaV)):aq P w K mg base aB (3) lJ lK dW (yh):=by
 refine gJ.F.ok CK (λvs H Q E h=>?_) (λcdv A outer s H vs Q E hr h=>?_)
 . obtain⟨kk,t,a,xs,kvs,fs,rfl,_⟩:=h
   rfl
 obtain⟨kk,t,a,xs,kvs,fs,rfl,hK,ha,hH,q⟩:=h
 have nd:=CK.nd
 refine⟨_,(ao (bw (i:=2) nd rfl (Or.inl rfl) (aZ bV (pv 0) aG (λ_ _=>rfl)))
  (ao (aW (aV bF (pv 2) bD (aQ _)) (aD (aP (lA (PW.pt (lq (dF (aY cH (by rfl) T.cC boot_isinstance (aj (pv 1) (aj (cD (v:=.ty "int") rfl T.xM boot_int rfl) ak)))) (lg (lZ (dF (aY cH (by rfl) T.cC boot_isinstance (aj (pv 1) (aj (cD (v:=.ty "bool") rfl T.Bm boot_bool rfl) ak)))))))) fj (fu ak)))) aX)
  (ao (aW (aV bF (pv 2) bD (aQ _)) (aD (aP (lA (dF (aY cH (by rfl) T.cC boot_isinstance (aj (pv 1) (aj (cD (v:=.ty "str") rfl T.ud boot_str rfl) ak)))) fj (fu ak)))) aX)
  (ao (aW (aV bF (pv 2) bD (aQ _)) (aD (aP (aR ajl (hr.mono (by decide)) uP (aj (aZ bV (pv 0) aG (λ_ _=>rfl)) (aj (pv 1) ak))))) aX)
  (ao (aW (aV bF (pv 2) bD (aQ _)) (aD aO) aX)
  (ao (aW (aV bF (pv 2) bD (aQ _)) (aD aO) aX)
  (aD aO))))))),?_⟩
 refine⟨_,rfl,kk,_,_,_,rfl,rfl,aH.of hK.at_,rfl,?_⟩
 refine jc rfl (by decide+kernel) ?_
 refine jc rfl (by decide+kernel) ?_
 refine tR rfl (by decide+kernel) ?_
 exact⟨_,rfl,kk,_,_,_,rfl,rfl,aH.of hK.at_,rfl,_,rfl,t,a,xs,kvs,fs,rfl,hK.tu,hK.fa,hK.bO,ha,hH,q⟩
theorem aa0:bA ["kind","seen","place"] ["kind","seen"] (aL (top 55)):=by refine⟨rfl,rfl,rfl,?_,rfl,?_,?_⟩ <;> decide+kernel
theorem ajm (T:Tb mg)(uQ:Dn K mg "ask_fit" Bv (top 55) JW JX)(gJ:Dn K mg "misfit" dW (top 17) lJ lK)(rD:aq P w K mg base aB (3) lJ lK dW (yh)):aq P w K mg base aB (4) JW JX Bv (yh):=by
 refine uQ.F.ok aa0 (λvs H Q E h=>?_) (λcdv A outer s H vs Q E hr h=>?_)
 . obtain⟨kk,t,a,xs,kvs,fs,rfl,_⟩:=h
   rfl
 obtain⟨kk,t,a,xs,kvs,fs,rfl,hK,ha,hH,q⟩:=h
 have nd:=aa0.nd
 refine⟨_,(ao (bw (i:=2) nd rfl (Or.inl rfl) (aR rD (hr.mono (by decide)) gJ (aj (pv 0) (aj (pv 1) ak))))
  (aD (aW (aV z7 (pv 2) fj (aQ _)) (aD aO) aX))),?_⟩
 refine⟨_,rfl,_,rfl,kk,t,a,xs,kvs,fs,rfl,hK,ha,hH,λH' s1=>?_⟩
 refine⟨_,rfl,rfl,_,rfl,?_⟩
 rw[decide_eq_true rfl]
 exact bH (q _ s1)
theorem str1 {f g:Str}{rest:List V}{K:W.Frag}{H:Hp}:Zc K H 0 (.str f::rest) [.str g] (λ_=>decide (f=g)):=λj x y h1 h2=>by
 cases j with
 |zero=>
  cases h1
  cases h2
  exact jz.str f g
 |succ j=>cases h2
theorem aa1:bA ["kind"] ["kind"] (aL (top 12)):=by refine⟨rfl,rfl,rfl,?_,rfl,?_,?_⟩ <;> decide+kernel
theorem ajn (T:Tb mg)(uR:Dn K mg "is_plain" ["kind"] (top 12) JZ J0):aq P w K mg base aB (1) JZ J0 ["kind"] (aaW):=by
 refine uR.F.ok aa1 (λvs H Q E h=>?_) (λcdv A outer s H vs Q E hr h=>?_)
 . obtain⟨u,k,rfl,_⟩:=h
   rfl
 obtain⟨u,k,rfl,hk,hp,q⟩:=h
 have nd:=aa1.nd
 have hu:=fY hr
 refine⟨_,(aD (aP (aev (lC (Zk (n:=0) hu) (pv 0) (cO (aj bD ak)) (aQ _)) (mj (lC (Zk (n:=0) hu) (pv 0) (cO (aj bD ak)) (aQ _)))))),?_⟩
 refine⟨_,rfl,gR,λt ht=>?_⟩
 have s1:Same H (upd H t (.tup [.str "number"])):=Same.new ht
 cases k with
 |num=>
  unfold KA at hk
  obtain⟨a,rfl,ha⟩:=hk
  exact .inr ⟨a,t,_,_,_,rfl,rfl,str1 (f:="number") (g:="number") (rest:=[]),.inr ⟨aH.of (s1 _ _ ha),aH.of aF,_,rfl,bZ (q _ s1)⟩⟩
 |gh=>
  unfold KA at hk
  obtain⟨a,rfl,ha⟩:=hk
  refine .inr ⟨a,t,_,_,_,rfl,rfl,str1 (f:="word") (g:="number") (rest:=[]),.inr ⟨aH.of (s1 _ _ ha),aH.of aF,_,rfl,bH ?_⟩⟩
  refine⟨_,rfl,gR,λt2 j6=>?_⟩
  have s2:=s1.trans (Same.new (o:=.tup [.str "word"]) j6)
  exact .inr ⟨a,t2,_,_,_,rfl,rfl,str1 (f:="word") (g:="word") (rest:=[]),.inr ⟨aH.of (s2 _ _ ha),aH.of aF,q _ s2⟩⟩
 |_=>exact hp.elim
theorem aa2:bA ["self","kind","source","seen","fresh"] ["self","kind","source","seen"] (aL (aJ 62 3)):=by refine⟨rfl,rfl,rfl,?_,rfl,?_,?_⟩ <;> decide+kernel
theorem ajo (T:Tb mg)(TK:mZ K mg C j7 gH j8 j9)(uT:Dm K "put" "Take.put" Bw (aJ 62 3) j9 J1)(uQ:Dn K mg "ask_fit" Bv (top 55) JW JX)(ajp:aq P w K mg base aB (4) JW JX Bv (yh))(iM:Dm K "behind" "Take.behind" mR (aJ 62 1) gH oU)(rE:aq P w K mg base aB (10) gH oU mR (yd P2 C)):aq P w K mg base aB (11) j9 J1 Bw (aaX P2 C):=by
 have CT:=TK.ct
 have rF:=TK.b
 refine uT.F.ok aa2 (λvs H Q E h=>?_) (λcdv A outer s H vs Q E hr h=>?_)
 . obtain⟨v,kk,t,dx,nl,xs,fs,ss,src,sn,f,g,rfl,_⟩:=h
   rfl
 obtain⟨v,kk,t,dx,nl,xs,fs,ss,src,sn,f,g,rfl,hV,hK,hin,hT,yj,hsn,hH,q⟩:=h
 have nd:=aa2.nd
 refine⟨_,(ao (iz (aR ajp (hr.mono (by decide)) uQ (aj (gB (pv 0) CT rF rE (hr.mono (by decide)) iM.b .nil eN (aj (pv 1) ak)) (aj (pv 3) ak))))
  (ao (bw (i:=4) nd rfl (Or.inl rfl) (jx w5 (by rfl) T.jf boot_dict (aj (pv 2) ak)))
  (ao (iz (pW PySem.F.plainAttrs_dict PySem.F.slot_dict_update PySem.F.type_dict_update aap (pv 4) (aj (pv 3) ak)))
  (aD (aP (pv 4)))))),?_⟩
 obtain⟨ps,hP⟩:=hT.tab
 refine⟨_,rfl,v,dx,_,rfl,hV.ob,rfl,_,rfl,v,kk,t,dx,nl,xs,fs,ss,rfl,hV,hK,hin,hT,λr t' H1 dI hT1 hr1 ht1=>?_⟩
 have J3:=dI.tu hT
 have jE:=hK.mono J3
 have nP:∀c o,H c=some o->(∀ps,o≠ .dD ps)->H1 c=some o:=λc o e ho=>dI c o (λz=>by rw[z,hP] at e;cases e;exact ho _ rfl) e
 have aa3:=nP _ _ hsn (by intro ps z;cases z)
 have J4:=nP _ _ yj (by intro ps z;cases z)
 refine⟨_,rfl,r,t',sn,_,_,_,rfl,jE.few ss hr1 ht1,aa3,hH,λH2 s2=>?_⟩
 have aa4:=s2 _ _ aa3
 have ajq:=s2 _ _ J4
 refine⟨_,rfl,src,_,rfl,ajq,λl hl=>?_⟩
 have aa5:sn≠l:=aN aa4 hl
 have sF:Same H2 (upd (upd H2 l (.dK (aK f fs.names))) l (.dK (oN (aK f fs.names) (aK g ss)))):=λc o e=>by rw[au (aN e hl),au (aN e hl)];exact e
 have h12:=hK.bO
 have aor:=hV.bO
 refine⟨_,rfl,.inr (.inr (.inl ⟨rfl,.inl ⟨_,aF⟩⟩)),_,rfl,l,sn,_,_,rfl,rfl,Ne.symm aa5,aF,by rw[au aa5];exact aa4,Q0m (cP (by rw[gF,gF];omega)),?_⟩
 refine⟨_,rfl,q l _ (dI.trans ((Kp.of s2).trans (Kp.of sF))) ((hT1.same s2).same sF) ?_⟩
 rw[aF,JN g ss f hin]
end
end Pb
namespace L2
open PySem PySem.Spec PyProof.Rows
theorem ajr {prog:Program}{w:World}{A:Around}{E:Value->Shared->Prop}{s:Shared}{t b:Addr}{vs ws:List Value}{Q:Value->Shared->Prop}(ht:IsTup s.heap t vs.toArray)(hb:IsTup s.heap b ws.toArray)(hv:vs=[])(h0:Q (.ref b) s):wpAny (model prog w) A (binaryOp .Add (.ref t) (.ref b)) Q E s:=by
 obtain⟨⟨cls,dd,data,sl⟩,ho,hc,n,hd⟩:=id ht
 obtain⟨⟨cls2,dd2,data2,sl2⟩,ho2,hc2,n2,hd2⟩:=id hb
 simp only at hc hd hc2 hd2
 subst hc hd hc2 hd2
 exact concat_meets ⟨_,ho,rfl⟩ ⟨_,ho2,rfl⟩ noFill_tuple_add seq_tuple_add PySem.F.slot_tuple_add PySem.F.entry_tuple_add (PySem.F.args_tuple_add_2 _ _)
  (tuple_addW0 t b vs.toArray ws.toArray n n2 dd dd2 sl sl2 (by simp[hv])) ⟨ho,ho2,h0⟩
noncomputable def ajs (K:W.Frag):R2:=λx y H Q=>∃a b xs ys,x=.ref a/\y=.ref b/\aH K H a xs/\aH K H b ys/\ys≠[]/\xs.length+ys.length<=sizeLine/\
 (xs=[]->Q (.ref b) H)/\(xs≠[]->∀p,H p=none->Q (.ref p) (upd H p (.tup (xs++ys))))
theorem ajt {X:Cx}:dN X (binaryOp .Add) (ajs X.K):=by
 intro pins s σ H x y v u Q I rx ry h
 obtain⟨a,b,xs,ys,rfl,rfl,ha,hb,hy,hz,q1,q2⟩:=h
 by_cases hx:xs=[]
 . cases rx
   cases ry
   obtain⟨its,r1,p1,_⟩:=I.tuple ha
   obtain⟨its2,r2,p2,_⟩:=I.tuple hb
   exact ajr p1 p2 (r1.Ad.mpr hx) ⟨.ref b,H,I,rfl,q1 hx⟩
 . exact afk pins s σ H _ _ v u Q I rx ry ⟨a,b,xs,ys,rfl,rfl,ha,hb,hx,hz,λz=>absurd z hy,λ_=>q2 hx⟩
end L2
namespace Pb
open PySem L2 PyProof.Rows
theorem aa6 {K:PySem.W.Frag}{a:Addr}{xs:List V}{g:TG}{tb:TS}{D:Ends}{σ:L2.St}{H:Hp}(Pv:Nat->L2.St->Hp->Prop)(h0:Pv 0 σ H)(hl:∀i σ H,i<=xs.length->Pv i σ H->aC K H a xs)
 (hs:∀(i:Nat) y σ H p,xs[i]? =some y->Pv i σ H->H p=none->g (.ref p) σ (upd H p (.tup [.int i,y])) λσ2 H2=>tb { D with nx:=Pv (i+1),ct:=Pv (i+1),bk:=D.nx } σ2 H2) (hd:∀σ H,Pv xs.length σ H->D.nx σ H):
 ∃W:Nat->Nat->L2.St->Hp->Prop,(∃m,W 0 m σ H)/\∀i m σ H,W i m σ H->
  ((Ite K a).stop i H/\D.nx σ H)\/((Ite K a).go i H/\∃N:L2.St->Hp->Prop,(∀σ' H',N σ' H'->∃m',m'<m/\W (i+1) m' σ' H')/\∀x H',(Ite K a).pN i H x H'->g x σ H' λσ2 H2=>tb { D with nx:=N,ct:=N,bk:=D.nx } σ2 H2):=by
 refine⟨λi m σ H=>m=xs.length - i/\i<=xs.length/\Pv i σ H,⟨xs.length,by simp,Q0b _,h0⟩,?_⟩
 rintro i m σ H ⟨rfl,hi,p⟩
 by_cases hlt:i<xs.length
 . refine .inr ⟨⟨xs,xs[i],hl i σ H hi p,by simp[hlt]⟩,Pv (i+1),λσ' H' p'=>⟨xs.length - (i+1),by omega,rfl,hlt,p'⟩,λx H' y=>?_⟩
   obtain⟨q,y,hq,rfl,hy,rfl⟩:=y
   exact hs i y σ H q (hy xs (hl i σ H hi p)) p hq
 . have e:i=xs.length:=by omega
   subst e
   exact .inl ⟨⟨xs,hl _ σ H (Q01 _) p,Q01 _⟩,hd σ H p⟩
noncomputable abbrev Op:=Str × V
noncomputable def Itm (H:Hp) (v:V) (o:Op):Prop:=∃c t,v=.ref c/\H c=some (.tup [.str "set",.ref t,o.2])/\H t=some (.tup [.str o.1])
noncomputable def b_ (H:Hp) (xs:List V) (ops:List Op):Prop:=xs.length=ops.length/\∀(i:Nat) v o,xs[i]? =some v->ops[i]? =some o->Itm H v o
theorem Itm.mono {H H':Hp}{v:V}{o:Op}(u:Tu H H')(h:Itm H v o):Itm H' v o:=by
 obtain⟨c,t,e,h1,h2⟩:=h
 exact⟨c,t,e,u _ _ h1,u _ _ h2⟩
theorem b_.mono {H H':Hp}{xs:List V}{ops:List Op}(u:Tu H H')(h:b_ H xs ops):b_ H' xs ops:=⟨h.1,λi v o e1 e2=>(h.2 i v o e1 e2).mono u⟩
theorem b_.nil (H:Hp):b_ H [] []:=⟨rfl,λi v o e=>by simp at e⟩
theorem b_.app {H:Hp}{xs ys:List V}{os qs:List Op}(h1:b_ H xs os)(h2:b_ H ys qs):b_ H (xs++ys) (os++qs):=by
 refine⟨by rw[Q07,Q07,h1.1,h2.1],λi v o e1 e2=>?_⟩
 by_cases hi:i<xs.length
 . rw[Q0q hi] at e1
   rw[Q0q (by rw[<-h1.1];exact hi)] at e2
   exact h1.2 i v o e1 e2
 . rw[Q0i (by omega)] at e1
   rw[Q0i (by rw[<-h1.1];omega),<-h1.1] at e2
   exact h2.2 _ v o e1 e2
theorem b_.one {H:Hp}{v:V}{o:Op}(h:Itm H v o):b_ H [v] [o]:=⟨rfl,λi v' o' e1 e2=>by
 cases i with
 |zero=>cases e1;cases e2;exact h
 |succ i=>simp at e1⟩
noncomputable def jF (fs:Fs) (ops:List Op):Prop:=∀o∈ops,∃k,fs.get o.1=some k/\dX k o.2
noncomputable def cQ (f:Str->V) (ops:List Op):Str->V:=ops.foldl (λf o=>gG f o.1 o.2) f
theorem dX.Jq {k:Kd}{v:V}(h:dX k v):v≠ .non:=by
 cases k with
 |num=>obtain⟨z,rfl⟩:=h;intro z;cases z
 |gh=>obtain⟨z,rfl⟩:=h;intro z;cases z
 |_=>exact h.elim
noncomputable def aa7:Sp:=λvs H Q _=>∃kv c v0 k tv v,vs=[kv,.ref c,v0]/\KA H kv k/\H c=some (.tup [.str "set",tv,v])/\dX k v/\∀H',Same H H'->Q v H'
noncomputable def aa8:Sp:=λvs H Q _=>∃kv c e v0 k tv v,vs=[kv,.ref c,.ref e,v0]/\H e=some (.tup [])/\KA H kv k/\H c=some (.tup [.str "set",tv,v])/\dX k v/\∀H',Same H H'->Q v H'
noncomputable def aa9:Sp:=λvs H Q _=>∃t c pt a xs fs k tv v nm,∃f:Str->V,vs=[.ref t,.ref c,.ref pt,.ref a]/\H t=some (.tup xs)/\FA H xs fs/\fs.names.Nodup/\fs.names.length<=12/\H c=some (.tup [.str "set",tv,v])/\H pt=some (.tup [.str nm])/\fs.get nm=some k/\dX k v/\(∃l:List Str,nm∈l/\l.length<=12/\H a=some (.dK (aK f l))/\∀p H',Same H H'->H' p=some (.dK (aK (gG f nm v) l))->Q (.ref p) H')
noncomputable def J5:Sp:=λvs H Q _=>∃kk t c pt a xs fs k tv v nm,∃f:Str->V,vs=[.ref kk,.ref c,.ref pt,.ref a]/\d9 H kk t xs fs/\H c=some (.tup [.str "set",tv,v])/\H pt=some (.tup [.str nm])/\fs.get nm=some k/\dX k v/\(∃l:List Str,nm∈l/\l.length<=12/\H a=some (.dK (aK f l))/\∀p H',Same H H'->H' p=some (.dK (aK (gG f nm v) l))->Q (.ref p) H')
noncomputable def aa_ (K:W.Frag):Sp:=λvs H Q _=>∃kk t pl a xs fs ys ops,∃f:Str->V,∃l:List Str,vs=[.ref kk,.ref pl,.ref a]/\d9 H kk t xs fs/\aC K H pl ys/\b_ H ys ops/\jF fs ops/\(∀o∈ops,o.1∈l)/\l.length<=12/\H a=some (.dK (aK f l))/\∀p H',Same H H'->H' p=some (.dK (aK (cQ f ops) l))->Q (.ref p) H'
variable {P:Program}{w:World}{K:W.Frag}{mg:Str->Option Value}{base:Heap}
theorem CN:bA ["kind","step","value","deed","form"] ["kind","step","value"] (aL (top 43)):=by refine⟨rfl,rfl,rfl,?_,rfl,?_,?_⟩ <;> decide+kernel
theorem aju (T:Tb mg)(j_:Dn K mg "acted" qj (top 43) rG rH)(gJ:Dn K mg "misfit" dW (top 17) lJ lK)(rD:aq P w K mg base aB (1) lJ lK dW (JM))(uR:Dn K mg "is_plain" ["kind"] (top 12) JZ J0)(ajv:aq P w K mg base aB (1) JZ J0 ["kind"] (aaW)):aq P w K mg base aB (2) rG rH qj (aa7):=by
 refine j_.F.ok CN (λvs H Q E h=>?_) (λcdv A outer s H vs Q E hr h=>?_)
 . obtain⟨kv,c,v0,k,tv,v,rfl,_⟩:=h
   rfl
 obtain⟨kv,c,v0,k,tv,v,rfl,hk,hc,hp,q⟩:=h
 have nd:=CN.nd
 refine⟨_,(ao (bw (i:=3) nd rfl (Or.inl rfl) (aZ bV (pv 1) aG (λ_ _=>rfl)))
  (ao (bw (i:=4) nd rfl (Or.inl rfl) (aZ bV (pv 0) aG (λ_ _=>rfl)))
  (ao (aW (PW.pt (lq (aV bF (pv 3) bD (aQ _)) (lg (PW.pt (jU (dF (aR ajv (hr.mono (by decide)) uR (aj (pv 0) ak))) (jT Ak)))))) (aD (aP (lA (aV tE (aR rD (hr.mono (by decide)) gJ (aj (pv 0) (aj (aZ bV (pv 1) aG (λ_ _=>rfl)) ak))) fj (aQ _)) (aZ bV (pv 1) aG (λ_ _=>rfl)) fj))) aX)
  (ao aO
  (ao aO
  (ao aO
  (ao aO
  (aD aO)))))))),?_⟩
 obtain⟨ka,kx,rest,rfl,hka⟩:∃ka kx rest,kv=.ref ka/\H ka=some (.tup (kx::rest)):=by
  cases k with
  |num=>unfold KA at hk;obtain⟨a,rfl,ha⟩:=hk;exact⟨a,_,_,rfl,ha⟩
  |gh=>unfold KA at hk;obtain⟨a,rfl,ha⟩:=hk;exact⟨a,_,_,rfl,ha⟩
  |_=>exact hp.elim
 refine⟨_,rfl,c,_,_,_,rfl,rfl,aH.of hc,rfl,?_⟩
 refine⟨_,rfl,ka,_,_,kx,rfl,rfl,aH.of hka,mG (j:=0) rfl,?_⟩
 refine⟨_,rfl,rfl,_,rfl,?_⟩
 rw[decide_eq_true rfl]
 refine bZ ?_
 refine⟨_,rfl,_,k,rfl,hk,ajf hp,λH1 s1=>⟨true,rfl,bZ ?_⟩⟩
 have hc1:=s1 _ _ hc
 refine⟨_,rfl,_,rfl,c,_,_,_,rfl,rfl,aH.of hc1,rfl,_,v,k,rfl,KA.mono (Tu.of s1) k hk,hp,?_⟩
 refine⟨rfl,_,rfl,?_⟩
 rw[decide_eq_true rfl]
 refine bZ ?_
 exact⟨_,rfl,c,_,_,_,rfl,rfl,aH.of hc1,rfl,q _ s1⟩
theorem uU:bA ["kind","step","path","value","form"] ["kind","step","path","value"] (aL (top 34)):=by refine⟨rfl,rfl,rfl,?_,rfl,?_,?_⟩ <;> decide+kernel
theorem ajw (T:Tb mg)(gK:Dn K mg "stepped" j5 (top 34) lM lN)(j_:Dn K mg "acted" qj (top 43) rG rH)(J6:aq P w K mg base aB (2) rG rH qj (aa7)):aq P w K mg base aB (3) lM lN j5 (aa8):=by
 refine gK.F.ok uU (λvs H Q E h=>?_) (λcdv A outer s H vs Q E hr h=>?_)
 . obtain⟨kv,c,e,v0,k,tv,v,rfl,_⟩:=h
   rfl
 obtain⟨kv,c,e,v0,k,tv,v,rfl,he,hk,hc,hp,q⟩:=h
 have nd:=uU.nd
 refine⟨_,(ao (aW (aV bF (aY d8 (by rfl) T.dG PySem.boot_len (aj (pv 2) ak)) aG (aQ _)) (aD (aP (aR J6 (hr.mono (by decide)) j_ (aj (pv 0) (aj (pv 1) (aj (pv 3) ak)))))) aX)
  (ao aO
  (ao aO
  (ao aO
  (ao aO
  (ao aO
  (aD aO))))))),?_⟩
 refine⟨_,rfl,e,_,rfl,.inr (aH.of he),rfl,_,rfl,?_⟩
 rw[decide_eq_true (show V.int (([]:List V).length:Nat)=V.int 0 from rfl)]
 refine bZ ?_
 exact⟨_,rfl,_,rfl,_,rfl,kv,c,v0,k,tv,v,rfl,hk,hc,hp,q⟩
theorem abb:bA ["fields","step","path","record","name","inner","part","fresh"] ["fields","step","path","record"] (aL (top 35)):=by refine⟨rfl,rfl,rfl,?_,rfl,?_,?_⟩ <;> decide+kernel
theorem ajx (T:Tb mg)(uV:Dn K mg "stepped_in_record" Bx (top 35) J7 J8)(gK:Dn K mg "stepped" j5 (top 34) lM lN)(yp:aq P w K mg base aB (3) lM lN j5 (aa8))(oO:Dn K mg "kind_at" uf (top 13) xU xV)(JC:aq P w K mg base aB (1) xU xV uf (Jr)):aq P w K mg base aB (4) J7 J8 Bx (aa9):=by
 refine uV.F.ok abb (λvs H Q E h=>?_) (λcdv A outer s H vs Q E hr h=>?_)
 . obtain⟨t,c,pt,a,xs,fs,k,tv,v,nm,f,rfl,_⟩:=h
   rfl
 obtain⟨t,c,pt,a,xs,fs,k,tv,v,nm,f,rfl,ht,hfa,hnd,h12,hc,hpt,hg,hp,l,hnl,rJ,ha,q⟩:=h
 have nd:=abb.nd
 have hu:=fY hr
 refine⟨_,(ao (bw (i:=4) nd rfl (Or.inl rfl) (aZ bV (pv 2) aG (λ_ _=>rfl)))
  (ao (bw (i:=5) nd rfl (Or.inl rfl) (aR JC (hr.mono (by decide)) oO (aj (pv 0) (aj (pv 4) ak))))
  (ao (aW (aV tE (pv 5) fj (aQ _)) (aD (aP fj)) aX)
  (ao (bw (i:=6) nd rfl (Or.inl rfl) (aR yp (hr.mono (by decide)) gK (aj (pv 5) (aj (pv 1) (aj (GD afi (pv 2) (Gz aG) Gy) (aj (iD hu (pv 3) (pv 4) (λ_ _=>rfl)) ak))))))
  (ao (aW (aV tE (pv 6) fj (aQ _)) (aD (aP fj)) aX)
  (ao (bw (i:=7) nd rfl (Or.inl rfl) (jx w5 (by rfl) T.jf boot_dict (aj (pv 3) ak)))
  (ao (wH hu (pv 7) (pv 4) (pv 6) rfl)
  (aD (aP (pv 7)))))))))),?_⟩
 refine⟨_,rfl,pt,_,_,_,rfl,rfl,aH.of hpt,rfl,?_⟩
 refine⟨_,rfl,_,rfl,t,nm,xs,fs,k,rfl,ht,hfa,hnd,hg,λu hku hne=>?_⟩
 refine⟨_,rfl,rfl,_,rfl,?_⟩
 rw[decide_eq_false hne]
 refine bH ?_
 refine⟨_,rfl,_,rfl,_,rfl,_,rfl,pt,_,rfl,aH.of hpt,(by rintro⟨z,_⟩;exact absurd z (show ¬HT.bJ 1 0 (some 1)=0 by decide)),λe he=>?_⟩
 have s1:Same H (upd H e (.tup (iC [V.str nm] (some 1) none))):=Same.new he
 have hv0:cG (upd H e (.tup (iC [V.str nm] (some 1) none))) a (.str nm) (some (f nm)):=by
  have:=cG.k (k:=Sum.inr nm) (s1 _ _ ha)
  rw[iK,if_pos hnl] at this
  exact this
 refine⟨_,rfl,_,rfl,a,f nm,rfl,hv0,u,c,e,_,k,tv,v,rfl,aF,KA.mono (Tu.of s1) k hku,s1 _ _ hc,hp,λH2 s2=>?_⟩
 refine⟨_,rfl,rfl,_,rfl,?_⟩
 rw[decide_eq_false hp.Jq]
 refine bH ?_
 refine⟨_,rfl,a,_,rfl,s2 _ _ (s1 _ _ ha),λp hp2=>?_⟩
 have s3:Same H2 (upd H2 p (.dK (aK f l))):=Same.new hp2
 refine⟨_,rfl,_,rfl,_,rfl,p,_,rfl,nZ.k (k:=Sum.inr nm) aF (by rw[gF];exact cP (by omega)),?_⟩
 refine⟨_,rfl,q p _ (λb o e'=>?_) ?_⟩
 . have:=s2 _ _ (s1 _ _ e')
   rw[au (aN this hp2)]
   exact s3 _ _ this
 . rw[aF,Jk v hnl]
theorem ajz (T:Tb mg)(gK:Dn K mg "stepped" j5 (top 34) lM lN)(uV:Dn K mg "stepped_in_record" Bx (top 35) J7 J8)(ajA:aq P w K mg base aB (4) J7 J8 Bx (aa9)):aq P w K mg base aB (5) lM lN j5 (J5):=by
 refine gK.F.ok uU (λvs H Q E h=>?_) (λcdv A outer s H vs Q E hr h=>?_)
 . obtain⟨kk,t,c,pt,a,xs,fs,k,tv,v,nm,f,rfl,_⟩:=h
   rfl
 obtain⟨kk,t,c,pt,a,xs,fs,k,tv,v,nm,f,rfl,hK,hc,hpt,hg,hp,hq⟩:=h
 have nd:=uU.nd
 refine⟨_,(ao (aW (aV bF (aY d8 (by rfl) T.dG PySem.boot_len (aj (pv 2) ak)) aG (aQ _)) (aD aO) aX)
  (ao (bw (i:=4) nd rfl (Or.inl rfl) (aZ bV (pv 0) aG (λ_ _=>rfl)))
  (ao (aW (aV bF (pv 4) bD (aQ _)) (aD (aP (aR ajA (hr.mono (by decide)) uV (aj (aZ bV (pv 0) aG (λ_ _=>rfl)) (aj (pv 1) (aj (pv 2) (aj (pv 3) ak))))))) aX)
  (ao aO
  (ao aO
  (ao aO
  (aD aO))))))),?_⟩
 refine⟨_,rfl,pt,_,rfl,.inr (aH.of hpt),rfl,_,rfl,?_⟩
 rw[decide_eq_false (by intro z;cases z)]
 refine bH ?_
 refine⟨_,rfl,kk,_,_,_,rfl,rfl,aH.of hK.at_,rfl,?_⟩
 refine tR rfl (by decide+kernel) ?_
 exact⟨_,rfl,kk,_,_,_,rfl,rfl,aH.of hK.at_,rfl,_,rfl,_,rfl,_,rfl,t,c,pt,a,xs,fs,k,tv,v,nm,f,rfl,hK.tu,hK.fa,hK.nd,hK.bO,hc,hpt,hg,hp,hq⟩
theorem CQ:bA ["kind","paper","value","now","number","step"] ["kind","paper","value"] (aL (top 32)):=by refine⟨rfl,rfl,rfl,?_,rfl,?_,?_⟩ <;> decide+kernel
theorem ajB (T:Tb mg)(jj:Dn K mg "done" qm (top 32) rK rM)(gK:Dn K mg "stepped" j5 (top 34) lM lN)(yp:aq P w K mg base aB (5) lM lN j5 (J5)):aq P w K mg base aB (6) rK rM qm (aa_ K):=by
 refine jj.F.ok CQ (λvs H Q E h=>?_) (λcdv A outer s H vs Q E hr h=>?_)
 . obtain⟨kk,t,pl,a,xs,fs,ys,ops,f,l,rfl,_⟩:=h
   rfl
 obtain⟨kk,t,pl,a,xs,fs,ys,ops,f,l,rfl,hK,hpl,hP,hO,hin,rJ,ha,q⟩:=h
 have nd:=CQ.nd
 refine⟨_,(ao (bw (i:=3) nd rfl (Or.inl rfl) (pv 2))
  (ao (jt PassesOwn.never rfl (Hh rfl T.Iz (aj (pv 1) ak)) (fV rfl (cB (bG (i:=4) nd rfl (Or.inl rfl)) (cB (bG (i:=5) nd rfl (Or.inl rfl)) fU))) (ao (bw (i:=3) nd rfl (Or.inl rfl) (aR yp (hr.mono (by decide)) gK (aj (pv 0) (aj (pv 5) (aj (aZ bV (pv 5) aG (λ_ _=>rfl)) (aj (pv 3) ak))))))
  (aD (aW (aV tE (pv 3) fj (aQ _)) (aD aO) aX))))
  (aD (aP (pv 3))))),?_⟩
 refine⟨_,rfl,?_⟩
 refine⟨_,rfl,pl,rfl,⟨_,hpl⟩,aa6 (xs:=ys) (λi σ H'=>Same H H'/\∃p x y,σ=[some (.ref kk),some (.ref pl),some (.ref a),some (.ref p),x,y]/\H' p=some (.dK (aK (cQ f (ops.take i)) l))) ⟨Same.refl _,a,_,_,rfl,ha⟩ ?_ ?_ ?_⟩
 . rintro i σ H' _ ⟨s1,_⟩
   exact Pb.aC.yc hpl s1
 . rintro i v σ H' z hv ⟨s1,p,x,y,rfl,hp⟩ hz
   have hi:i<ops.length:=by rw[<-hP.1];exact(List.getElem?_eq_some_iff.mp hv).1
   have ho:ops[i]? =some ops[i]:=Q05 hi
   obtain⟨c,pt,rfl,hc,hpt⟩:=(hP.mono (Tu.of s1)).2 i v ops[i] hv ho
   obtain⟨k,hg,hpk⟩:=hO _ (Q0t hi)
   have s2:Same H' (upd H' z (.tup [.int i,.ref c])):=Same.new hz
   refine⟨z,_,rfl,aH.of aF,rfl,_,_,rfl,_,_,rfl,rfl,?_⟩
   refine⟨_,rfl,_,rfl,_,rfl,c,_,_,_,rfl,rfl,aH.of (s2 _ _ hc),rfl,_,rfl,kk,t,c,pt,p,xs,fs,k,_,_,_,_,rfl,(hK.mono (Tu.of s1)).mono (Tu.of s2),s2 _ _ hc,s2 _ _ hpt,hg,hpk,l,hin _ (Q0t hi),rJ,s2 _ _ hp,λp' H3 s3 hp'=>?_⟩
   refine⟨_,rfl,rfl,_,rfl,?_⟩
   rw[decide_eq_false (by intro z;cases z)]
   refine bH ⟨s1.trans (s2.trans s3),p',_,_,rfl,?_⟩
   rw[hp',Q0u,ho]
   unfold cQ
   rw[Q2d]
   rfl
 . rintro σ H' ⟨s1,p,x,y,rfl,hp⟩
   rw[hP.1,Q1b] at hp
   exact⟨_,rfl,q p _ s1 hp⟩
noncomputable def fH (f g:Str->V) (l:List Str):List Op:=(l.filter λx=> !decide (f x=g x)).map λx=>(x,g x)
theorem J9 (f g:Str->V)(l m:List Str):fH f g (l++m)=fH f g l++fH f g m:=by
 unfold fH;rw[Q2c,Q0k]
theorem J_ (f g:Str->V)(x:Str):fH f g [x]=if f x=g x then [] else [(x,g x)]:=by
 unfold fH
 rw[Q0s]
 by_cases e:f x=g x
 . rw[if_pos e,if_neg (by rw[decide_eq_true e];decide)];rfl
 . rw[if_neg e,if_pos (by rw[decide_eq_false e];decide)];rfl
theorem Kc (f g:Str->V)(l:List Str):(fH f g l).length<=l.length:=by
 unfold fH
 rw[Q06]
 exact Q0z _ _
theorem dX.nQ {k:Kd}{v u:V}(h:dX k v)(h2:dX k u):nQ v u=true:=by
 cases k with
 |num=>obtain⟨z,rfl⟩:=h;obtain⟨y,rfl⟩:=h2;rfl
 |gh=>obtain⟨z,rfl⟩:=h;obtain⟨y,rfl⟩:=h2;rfl
 |_=>exact h.elim
theorem fG.keep {Pt:Addr}{H H':Hp}{lp:Pos}{ql:Str}(x:fG Pt H H')(hT:bB Pt lp ql H){c:Addr}{o:HO}(e:H c=some o)(ho:∀ps,o≠ .dD ps):H' c=some o:=by
 obtain⟨ps,hP⟩:=hT.tab
 exact x c o (λz=>by rw[z,hP] at e;cases e;exact ho _ rfl) e
theorem eX.keep {Pt:Addr}{H H':Hp}{lp:Pos}{ql:Str}{C v dx nl:Addr}{ss:List Str}(x:fG Pt H H')(hT:bB Pt lp ql H)(h:eX H C v dx nl ss):eX H' C v dx nl ss:=
 ⟨x.keep hT h.ob (by intro ps z;cases z),x.keep hT h.nl (by intro ps z;cases z),h.nd,h.bO⟩
theorem eX.same {H H':Hp}{C v dx nl:Addr}{ss:List Str}(x:Same H H')(h:eX H C v dx nl ss):eX H' C v dx nl ss:=⟨x _ _ h.ob,x _ _ h.nl,h.nd,h.bO⟩
noncomputable def abd:Sp:=λvs H Q _=>∃pt kv o n k nm,vs=[.ref pt,kv,o,n]/\KA H kv k/\dX k o/\dX k n/\H pt=some (.tup [.str nm])/\∀p ys H',Same H H'->H' p=some (.lst ys)->H p=none->b_ H' ys (if o=n then [] else [(nm,n)])->Q (.ref p) H'
noncomputable def Two (fs:Fs) (ka kb:List (Key × V)) (f g:Str->V):Prop:=∀i nm k,fs.at i=some (nm,k)->dO ka (Sum.inr nm)=some (f nm)/\dO kb (Sum.inr nm)=some (g nm)/\dX k (f nm)/\dX k (g nm)
noncomputable def abe:Sp:=λvs H Q _=>∃pt t a b xs fs ka kb,∃f g:Str->V,vs=[.ref pt,.ref t,.ref a,.ref b]/\H pt=some (.tup [])/\H t=some (.tup xs)/\FA H xs fs/\fs.names.length<=12/\H a=some (.dK ka)/\H b=some (.dK kb)/\Two fs ka kb f g/\∀p ys H',Same H H'->H' p=some (.lst ys)->b_ H' ys (fH f g fs.names)->Q (.ref p) H'
noncomputable def abf:Sp:=λvs H Q _=>∃pt kk t a b xs fs ka kb,∃f g:Str->V,vs=[.ref pt,.ref kk,.ref a,.ref b]/\H pt=some (.tup [])/\d9 H kk t xs fs/\H a=some (.dK ka)/\H b=some (.dK kb)/\Two fs ka kb f g/\∀p ys H',Same H H'->H' p=some (.lst ys)->b_ H' ys (fH f g fs.names)->Q (.ref p) H'
noncomputable def abg:Sp:=λvs H Q _=>∃kk t a b xs fs ka kb,∃f g:Str->V,vs=[.ref kk,.ref a,.ref b]/\d9 H kk t xs fs/\H a=some (.dK ka)/\H b=some (.dK kb)/\Two fs ka kb f g/\∀p ys H',Same H H'->H' p=some (.lst ys)->b_ H' ys (fH f g fs.names)->Q (.ref p) H'
theorem CV:bA ["path","kind","old","new","form"] ["path","kind","old","new"] (aL (top 46)):=by refine⟨rfl,rfl,rfl,?_,rfl,?_,?_⟩ <;> decide+kernel
theorem ajC (T:Tb mg)(kh:Dn K mg "paper_at" qp (top 46) rN rO):aq P w K mg base aB (1) rN rO qp (abd):=by
 refine kh.F.ok CV (λvs H Q E h=>?_) (λcdv A outer s H vs Q E hr h=>?_)
 . obtain⟨pt,kv,o,n,k,nm,rfl,_⟩:=h
   rfl
 obtain⟨pt,kv,o,n,k,nm,rfl,hk,ho,hn,hpt,q⟩:=h
 have nd:=CV.nd
 refine⟨_,(ao (bw (i:=4) nd rfl (Or.inl rfl) (aZ bV (pv 1) aG (λ_ _=>rfl)))
  (ao (aW (aV bF (pv 4) bD (aQ _)) (aD aO) aX)
  (ao (aW (aV bF (pv 4) bD (aQ _)) (aD aO) aX)
  (ao (aW (aV bF (pv 4) bD (aQ _)) (aD aO) aX)
  (ao (aW (PW.pt (lq (aV bF (pv 4) bD (aQ _)) (lg Ak))) (aD aO) aX)
  (aD (aP (lA (aV bF (pv 2) (pv 3) (aQ _)) (fu ak) (fu (aj (cO (aj bD (aj (pv 0) (aj (pv 3) ak)))) ak)))))))))),?_⟩
 obtain⟨ka,kx,rfl,hka,hkx⟩:∃ka kx,kv=.ref ka/\H ka=some (.tup [.str kx])/\(kx="number"\/kx="word"):=by
  cases k with
  |num=>unfold KA at hk;obtain⟨a,rfl,ha⟩:=hk;exact⟨a,_,rfl,ha,.inl rfl⟩
  |gh=>unfold KA at hk;obtain⟨a,rfl,ha⟩:=hk;exact⟨a,_,rfl,ha,.inr rfl⟩
  |_=>exact ho.elim
 refine⟨_,rfl,ka,_,_,_,rfl,rfl,aH.of hka,rfl,?_⟩
 have nk:∀z:Str,(z="record"\/z="rows"\/z="tree"\/z="either")->decide (V.str kx=V.str z)=false:=by
  rintro z (rfl|rfl|rfl|rfl) <;> rcases hkx with rfl|rfl <;> decide+kernel
 refine jc rfl (nk _ (.inl rfl)) ?_
 refine jc rfl (nk _ (.inr (.inl rfl))) ?_
 refine jc rfl (nk _ (.inr (.inr (.inl rfl)))) ?_
 refine⟨_,rfl,rfl,_,rfl,?_⟩
 rw[nk _ (.inr (.inr (.inr rfl)))]
 refine bH ?_
 refine⟨_,rfl,_,rfl,ho.nQ hn,_,rfl,dM (λc=>?_) (λc=>?_)⟩
 . have e:o=n:=of_decide_eq_true c
   refine⟨nG,λp hp=>q p [] _ (Same.new hp) aF hp ?_⟩
   rw[if_pos e]
   exact b_.nil _
 . have e:¬o=n:=λz=>c (decide_eq_true z)
   refine⟨_,rfl,_,rfl,sW,λt ht=>⟨gR,λp hp=>?_⟩⟩
   have s1:=Same.new ht (o:=.tup [.str "set",.ref pt,n])
   have s2:=Same.new hp (o:=.lst [.ref t])
   refine q p _ _ (s1.trans s2) aF ?_ ?_
   . cases e:H p with
     |none=>rfl
     |some o=>rw[s1 _ _ e] at hp;cases hp
   . rw[if_neg e]
     exact b_.one ⟨t,pt,rfl,s2 _ _ aF,s2 _ _ (s1 _ _ hpt)⟩
theorem abh:bA ["path","fields","old","new","paper","name","inner"] ["path","fields","old","new"] (aL (top 47)):=by refine⟨rfl,rfl,rfl,?_,rfl,?_,?_⟩ <;> decide+kernel
theorem ajD (T:Tb mg)(uW:Dn K mg "record_paper" BJ (top 47) Ke Kf)(kh:Dn K mg "paper_at" qp (top 46) rN rO)(Kg:aq P w K mg base aB (1) rN rO qp (abd)):aq P w K mg base aB (2) Ke Kf BJ (abe):=by
 refine uW.F.ok abh (λvs H Q E h=>?_) (λcdv A outer s H vs Q E hr h=>?_)
 . obtain⟨pt,t,a,b,xs,fs,ka,kb,f,g,rfl,_⟩:=h
   rfl
 obtain⟨pt,t,a,b,xs,fs,ka,kb,f,g,rfl,hpt,ht,hfa,h12,ha,hb,h2,q⟩:=h
 have nd:=abh.nd
 have hu:=fY hr
 refine⟨_,(ao (bw (i:=4) nd rfl (Or.inl rfl) (fu ak))
  (ao (jt PassesOwn.never rfl (pO (pv 1)) (fV rfl (cB (bG (i:=5) nd rfl (Or.inl rfl)) (cB (bG (i:=6) nd rfl (Or.inl rfl)) fU))) (aD (iz (pW PySem.F.plainAttrs_list PySem.F.slot_list_extend PySem.F.type_list_extend afD (pv 4) (aj (aR Kg (hr.mono (by decide)) kh (aj (aU ajt (pv 0) (cO (aj (pv 5) ak))) (aj (pv 6) (aj (iD hu (pv 2) (pv 5) (λ_ _=>rfl)) (aj (iD hu (pv 3) (pv 5) (λ_ _=>rfl)) ak))))) ak)))))
  (aD (aP (pv 4))))),?_⟩
 refine⟨nG,λp hp=>?_⟩
 have s0:Same H (upd H p (.lst [])):=Same.new hp
 refine⟨_,rfl,t,rfl,⟨_,aH.of (s0 _ _ ht)⟩,zX (xs:=xs) (λi σ H'=>Same H H'/\(∃x y,σ=[some (.ref pt),some (.ref t),some (.ref a),some (.ref b),some (.ref p),x,y])/\∃ys,H' p=some (.lst ys)/\b_ H' ys (fH f g (fs.names.take i))) ⟨s0,⟨_,_,rfl⟩,[],aF,b_.nil _⟩ ?_ ?_ ?_⟩
 . rintro i σ H' _ ⟨s1,_⟩
   exact aH.of (s1 _ _ ht)
 . rintro i v σ H' hv ⟨s1,⟨x,y,rfl⟩,ys,hpp,hP⟩
   obtain⟨c,u,nm,k,rfl,hat,hc,hk⟩:=FA.get fs hfa hv
   obtain⟨va,vb,pf,pg⟩:=h2 i nm k hat
   have hnm:fs.names[i]? =some nm:=by rw[Fs.jA,hat];rfl
   have hi:i<fs.names.length:=(List.getElem?_eq_some_iff.mp hnm).1
   refine⟨c,_,rfl,aH.of (s1 _ _ hc),rfl,_,_,rfl,_,_,rfl,rfl,?_⟩
   refine⟨_,rfl,.inl ⟨rfl,_,aC.of hpp⟩,_,rfl,_,rfl,gR,λz hz=>?_⟩
   have s2:=Same.new hz (o:=.tup [.str nm])
   have s12:=s1.trans s2
   refine⟨pt,z,_,_,rfl,rfl,aH.of (s12 _ _ hpt),aH.of aF,by simp,gR,λ_=>?_,λw=>absurd rfl w⟩
   have ga:cG (upd H' z (.tup [.str nm])) a (.str nm) (some (f nm)):=by
    have:=cG.k (k:=Sum.inr nm) (s12 _ _ ha)
    rw[va] at this
    exact this
   have gb:cG (upd H' z (.tup [.str nm])) b (.str nm) (some (g nm)):=by
    have:=cG.k (k:=Sum.inr nm) (s12 _ _ hb)
    rw[vb] at this
    exact this
   refine⟨_,rfl,_,rfl,_,rfl,a,_,rfl,ga,_,rfl,_,rfl,b,_,rfl,gb,z,u,_,_,k,nm,rfl,KA.mono (Tu.of s12) k hk,pf,pg,aF,λp2 zs H3 s3 hp2 hn2 hP2=>?_⟩
   have hp3:=s3 _ _ (s2 _ _ hpp)
   have hne:p2≠p:=λe=>by rw[e,s2 _ _ hpp] at hn2;cases hn2
   have hl1:ys.length<=i:=by rw[hP.1];exact Q0c (Kc _ _ _) (by rw[Q0o];omega)
   have hl2:zs.length<=1:=by rw[hP2.1];split <;> simp
   refine⟨p,p2,_,_,rfl,rfl,hp3,hp2,Q0m (cP (by omega)),?_⟩
   have tu:Tu H3 (upd H3 p (.lst (ys++zs))):=λc' xs' e=>by rw[au (kY e hp3 (by intro z;cases z))];exact e
   refine⟨λc' o e=>?_,⟨_,_,rfl⟩,_,aF,?_⟩
   . rw[au (aN e hp)]
     exact s3 _ _ (s12 _ _ e)
   . rw[Q0u,hnm,J9]
     refine b_.app (hP.mono ((Tu.of (s2.trans s3)).trans tu)) ?_
     show b_ _ zs (fH f g [nm])
     rw[J_]
     exact hP2.mono tu
 . rintro σ H' ⟨s1,⟨x,y,rfl⟩,ys,hpp,hP⟩
   rw[FA.len fs hfa,Q1b] at hP
   exact⟨_,rfl,q p ys _ s1 hpp hP⟩
theorem ajE (T:Tb mg)(kh:Dn K mg "paper_at" qp (top 46) rN rO)(uW:Dn K mg "record_paper" BJ (top 47) Ke Kf)(ajF:aq P w K mg base aB (2) Ke Kf BJ (abe)):aq P w K mg base aB (3) rN rO qp (abf):=by
 refine kh.F.ok CV (λvs H Q E h=>?_) (λcdv A outer s H vs Q E hr h=>?_)
 . obtain⟨pt,kk,t,a,b,xs,fs,ka,kb,f,g,rfl,_⟩:=h
   rfl
 obtain⟨pt,kk,t,a,b,xs,fs,ka,kb,f,g,rfl,hpt,hK,ha,hb,h2,q⟩:=h
 have nd:=CV.nd
 refine⟨_,(ao (bw (i:=4) nd rfl (Or.inl rfl) (aZ bV (pv 1) aG (λ_ _=>rfl)))
  (ao (aW (aV bF (pv 4) bD (aQ _)) (aD (aP (aR ajF (hr.mono (by decide)) uW (aj (pv 0) (aj (aZ bV (pv 1) aG (λ_ _=>rfl)) (aj (pv 2) (aj (pv 3) ak))))))) aX)
  (ao aO
  (ao aO
  (ao aO
  (aD aO)))))),?_⟩
 refine⟨_,rfl,kk,_,_,_,rfl,rfl,aH.of hK.at_,rfl,?_⟩
 refine tR rfl (by decide+kernel) ?_
 exact⟨_,rfl,_,rfl,kk,_,_,_,rfl,rfl,aH.of hK.at_,rfl,_,rfl,_,rfl,pt,t,a,b,xs,fs,ka,kb,f,g,rfl,hpt,hK.tu,hK.fa,hK.bO,ha,hb,h2,q⟩
theorem abj:bA ["kind","old","new"] ["kind","old","new"] (aL (top 33)):=by refine⟨rfl,rfl,rfl,?_,rfl,?_,?_⟩ <;> decide+kernel
theorem ajG (T:Tb mg)(uX:Dn K mg "between" BK (top 33) Kh Kl)(kh:Dn K mg "paper_at" qp (top 46) rN rO)(Kg:aq P w K mg base aB (3) rN rO qp (abf)):aq P w K mg base aB (4) Kh Kl BK (abg):=by
 refine uX.F.ok abj (λvs H Q E h=>?_) (λcdv A outer s H vs Q E hr h=>?_)
 . obtain⟨kk,t,a,b,xs,fs,ka,kb,f,g,rfl,_⟩:=h
   rfl
 obtain⟨kk,t,a,b,xs,fs,ka,kb,f,g,rfl,hK,ha,hb,h2,q⟩:=h
 have nd:=abj.nd
 refine⟨_,(aD (aP (aR Kg (hr.mono (by decide)) kh (aj (cO ak) (aj (pv 0) (aj (pv 1) (aj (pv 2) ak))))))),?_⟩
 refine⟨nG,λe he=>?_⟩
 have s1:=Same.new he (o:=.tup [])
 exact⟨_,rfl,_,rfl,_,rfl,e,kk,t,a,b,xs,fs,ka,kb,f,g,rfl,aF,hK.mono (Tu.of s1),s1 _ _ ha,s1 _ _ hb,h2,λp ys H' s2=>q p ys H' (s1.trans s2)⟩
end Pb
namespace Pb
open PySem L2
theorem Fs.Km (ss:List Str):∀{fs:Fs},fs.cV->(fs.dH ss).cV
 | .nil,h=>h
 | .cons y k r,h=>by
   show(if y∈ss then Fs.cons y k (r.dH ss) else r.dH ss).cV
   split
   . exact⟨h.1,Fs.Km ss h.2⟩
   . exact Fs.Km ss h.2
end Pb
namespace Pb
open PySem L2 PyProof.Rows
noncomputable def abk:Sp:=λvs H Q _=>∃kv v k,vs=[kv,v]/\KA H kv k/\jY k/\Q v H
noncomputable def Hv (fs:Fs) (kvs:List (Key × V)) (f:Str->V):Prop:=∀x∈fs.names,dO kvs (Sum.inr x)=some (f x)
theorem Hv.mk {fs:Fs}{l:List Str}{f:Str->V}(h:∀x∈fs.names,x∈l):Hv fs (aK f l) f:=λx hx=>by rw[iK,if_pos (h x hx)]
noncomputable def abl:Sp:=λvs H Q _=>∃t a xs fs kvs,∃f:Str->V,vs=[.ref t,.ref a]/\H t=some (.tup xs)/\FA H xs fs/\fs.cV/\fs.names.Nodup/\fs.names.length<=12/\H a=some (.dK kvs)/\Hv fs kvs f/\∀p H',Same H H'->H p=none->H' p=some (.dK (aK f fs.names))->Q (.ref p) H'
noncomputable def yq:Sp:=λvs H Q _=>∃kk t a xs fs kvs,∃f:Str->V,vs=[.ref kk,.ref a]/\d9 H kk t xs fs/\fs.cV/\H a=some (.dK kvs)/\Hv fs kvs f/\∀p H',Same H H'->H p=none->H' p=some (.dK (aK f fs.names))->Q (.ref p) H'
noncomputable def Ko (P2 C:Addr):Sp:=λvs H Q _=>∃v kk t dx nl xs fs ss src kvs,∃f:Str->V,vs=[.ref v,.ref kk,.ref src]/\eX H C v dx nl ss/\d9 H kk t xs fs/\fs.cV/\(∀x∈ss,x∈fs.names)/\bB P2 bM bN H/\H src=some (.dK kvs)/\Hv fs kvs f/\
 ∀p H',fG P2 H H'->bB P2 bM bN H'->H p=none->H' p=some (.dK (aK f (fs.names.filter λx=>decide (x∈ss))))->Q (.ref p) H'
section
variable {P:Program}{w:World}{K:W.Frag}{mg:Str->Option Value}{base:Heap}
variable {C P2:Addr}
theorem CW:bA ["kind","value","form"] ["kind","value"] (aL (top 26)):=by refine⟨rfl,rfl,rfl,?_,rfl,?_,?_⟩ <;> decide+kernel
theorem ajH (T:Tb mg)(eY:Dn K mg "copied" dW (top 26) jG jH):aq P w K mg base aB (1) jG jH dW (abk):=by
 refine eY.F.ok CW (λvs H Q E h=>?_) (λcdv A outer s H vs Q E hr h=>?_)
 . obtain⟨kv,v,k,rfl,_⟩:=h
   rfl
 obtain⟨kv,v,k,rfl,hk,hp,q⟩:=h
 have nd:=CW.nd
 refine⟨_,(ao (bw (i:=2) nd rfl (Or.inl rfl) (aZ bV (pv 0) aG (λ_ _=>rfl)))
  (ao (aW (aV bF (pv 2) bD (aQ _)) (aD aO) aX)
  (ao (aW (aV bF (pv 2) bD (aQ _)) (aD aO) aX)
  (ao (aW (aV bF (pv 2) bD (aQ _)) (aD aO) aX)
  (ao (aW (aV bF (pv 2) bD (aQ _)) (aD aO) aX)
  (aD (aP (pv 1)))))))),?_⟩
 cases k with
 |num=>
  unfold KA at hk
  obtain⟨a,rfl,ha⟩:=hk
  refine⟨_,rfl,a,_,_,_,rfl,rfl,aH.of ha,rfl,?_⟩
  refine jc rfl (by decide+kernel) ?_
  refine jc rfl (by decide+kernel) ?_
  refine jc rfl (by decide+kernel) ?_
  refine jc rfl (by decide+kernel) ?_
  exact⟨_,rfl,q⟩
 |gh=>
  unfold KA at hk
  obtain⟨a,rfl,ha⟩:=hk
  refine⟨_,rfl,a,_,_,_,rfl,rfl,aH.of ha,rfl,?_⟩
  refine jc rfl (by decide+kernel) ?_
  refine jc rfl (by decide+kernel) ?_
  refine jc rfl (by decide+kernel) ?_
  refine jc rfl (by decide+kernel) ?_
  exact⟨_,rfl,q⟩
 |_=>exact hp.elim
theorem abm:bA ["fields","record","fresh","name","inner"] ["fields","record"] (aL (top 27)):=by refine⟨rfl,rfl,rfl,?_,rfl,?_,?_⟩ <;> decide+kernel
theorem ajI (T:Tb mg)(uY:Dn K mg "copied_record" j4 (top 27) Kq Kr)(eY:Dn K mg "copied" dW (top 26) jG jH)(oV:aq P w K mg base aB (1) jG jH dW (abk)):aq P w K mg base aB (2) Kq Kr j4 (abl):=by
 refine uY.F.ok abm (λvs H Q E h=>?_) (λcdv A outer s H vs Q E hr h=>?_)
 . obtain⟨t,a,xs,fs,kvs,f,rfl,_⟩:=h
   rfl
 obtain⟨t,a,xs,fs,kvs,f,rfl,ht,hfa,hpl,hnd,h12,ha,hv,q⟩:=h
 have nd:=abm.nd
 have hu:=fY hr
 refine⟨_,(ao (bw (i:=2) nd rfl (Or.inl rfl) G6)
  (ao (jt PassesOwn.never rfl (pO (pv 0)) (fV rfl (cB (bG (i:=3) nd rfl (Or.inl rfl)) (cB (bG (i:=4) nd rfl (Or.inl rfl)) fU))) (aD (wH hu (pv 2) (pv 3) (aR oV (hr.mono (by decide)) eY (aj (pv 4) (aj (iD hu (pv 1) (pv 3) (λ_ _=>rfl)) ak))) rfl)))
  (aD (aP (pv 2))))),?_⟩
 intro p hp
 have s0:Same H (upd H p (.dK [])):=Same.new hp
 refine⟨_,rfl,t,rfl,⟨_,aH.of (s0 _ _ ht)⟩,zX (xs:=xs) (λi σ H'=>Same H H'/\(∃x y,σ=[some (.ref t),some (.ref a),some (.ref p),x,y])/\H' p=some (.dK (aK f (fs.names.take i)))) ⟨s0,⟨_,_,rfl⟩,aF⟩ ?_ ?_ ?_⟩
 . rintro i σ H' _ ⟨s1,_⟩
   exact aH.of (s1 _ _ ht)
 . rintro i v σ H' hvx ⟨s1,⟨x,y,rfl⟩,hpp⟩
   obtain⟨c,u,nm,k,rfl,hat,hc,hk⟩:=FA.get fs hfa hvx
   have hnm:fs.names[i]? =some nm:=by rw[Fs.jA,hat];rfl
   have hi:i<fs.names.length:=(List.getElem?_eq_some_iff.mp hnm).1
   have hie:fs.names[i]=nm:=(List.getElem?_eq_some_iff.mp hnm).2
   have ga:cG H' a (.str nm) (some (f nm)):=by
    have:=cG.k (k:=Sum.inr nm) (s1 _ _ ha)
    rw[hv nm (Q0y hnm)] at this
    exact this
   refine⟨c,_,rfl,aH.of (s1 _ _ hc),rfl,_,_,rfl,_,_,rfl,rfl,?_⟩
   refine⟨_,rfl,_,rfl,_,rfl,a,_,rfl,ga,u,_,k,rfl,KA.mono (Tu.of s1) k hk,Fs.Cq hpl hat,?_⟩
   refine⟨_,rfl,_,rfl,p,_,rfl,nZ.k (k:=Sum.inr nm) hpp (by rw[gF,Q0o];exact cP (by omega)),?_⟩
   refine⟨λb o e=>?_,⟨_,_,rfl⟩,?_⟩
   . rw[au (aN e hp)]
     exact s1 _ _ e
   . rw[aF,aaG f,Q0u,hnm]
     . rfl
     . intro hm
       obtain⟨j,hj,e⟩:=Q1h hm
       rw[Q0o] at hj
       rw[Q28] at e
       exact absurd (e.trans hie.symm) (List.pairwise_iff_getElem.mp hnd j i (by omega) hi (by omega))
 . rintro σ H' ⟨s1,⟨x,y,rfl⟩,hpp⟩
   rw[FA.len fs hfa,Q1b] at hpp
   exact⟨_,rfl,q p _ s1 hp hpp⟩
theorem ajL (T:Tb mg)(eY:Dn K mg "copied" dW (top 26) jG jH)(uY:Dn K mg "copied_record" j4 (top 27) Kq Kr)(ajM:aq P w K mg base aB (2) Kq Kr j4 (abl)):aq P w K mg base aB (3) jG jH dW (yq):=by
 refine eY.F.ok CW (λvs H Q E h=>?_) (λcdv A outer s H vs Q E hr h=>?_)
 . obtain⟨kk,t,a,xs,fs,kvs,f,rfl,_⟩:=h
   rfl
 obtain⟨kk,t,a,xs,fs,kvs,f,rfl,hK,hpl,ha,hv,q⟩:=h
 have nd:=CW.nd
 refine⟨_,(ao (bw (i:=2) nd rfl (Or.inl rfl) (aZ bV (pv 0) aG (λ_ _=>rfl)))
  (ao (aW (aV bF (pv 2) bD (aQ _)) (aD (aP (aR ajM (hr.mono (by decide)) uY (aj (aZ bV (pv 0) aG (λ_ _=>rfl)) (aj (pv 1) ak))))) aX)
  (ao aO
  (ao aO
  (ao aO
  (aD aO)))))),?_⟩
 refine⟨_,rfl,kk,_,_,_,rfl,rfl,aH.of hK.at_,rfl,?_⟩
 refine tR rfl (by decide+kernel) ?_
 exact⟨_,rfl,kk,_,_,_,rfl,rfl,aH.of hK.at_,rfl,_,rfl,t,a,xs,fs,kvs,f,rfl,hK.tu,hK.fa,hpl,hK.nd,hK.bO,ha,hv,q⟩
theorem abn:bA ["view","kind","source"] ["view","kind","source"] (aL (top 52)):=by refine⟨rfl,rfl,rfl,?_,rfl,?_,?_⟩ <;> decide+kernel
theorem ajN (T:Tb mg)(TK:mZ K mg C j7 gH j8 j9)(m8:Dn K mg "shown" ug (top 52) yr yt)(eY:Dn K mg "copied" dW (top 26) jG jH)(oV:aq P w K mg base aB (3) jG jH dW (yq))(iM:Dm K "behind" "Take.behind" mR (aJ 62 1) gH oU)(rE:aq P w K mg base aB (10) gH oU mR (yd P2 C))(uN:Dm K "see" "Take.see" qg (aJ 62 2) j8 JL)(ajO:aq P w K mg base aB (2) j8 JL qg (aaQ C)):aq P w K mg base aB (11) yr yt ug (Ko P2 C):=by
 have CT:=TK.ct
 have rF:=TK.b
 have ajP:=TK.s
 refine m8.F.ok abn (λvs H Q E h=>?_) (λcdv A outer s H vs Q E hr h=>?_)
 . obtain⟨v,kk,t,dx,nl,xs,fs,ss,src,kvs,f,rfl,_⟩:=h
   rfl
 obtain⟨v,kk,t,dx,nl,xs,fs,ss,src,kvs,f,rfl,hV,hK,hpl,hin,hT,yj,hv,q⟩:=h
 have nd:=abn.nd
 refine⟨_,(aD (aP (aR oV (hr.mono (by decide)) eY (aj (gB (pv 0) CT rF rE (hr.mono (by decide)) iM.b .nil eN (aj (pv 1) ak)) (aj (gB (pv 0) CT ajP ajO (hr.mono (by decide)) uN.b .nil eN (aj (pv 1) (aj (pv 2) ak))) ak))))),?_⟩
 refine⟨_,rfl,v,dx,_,rfl,hV.ob,rfl,_,rfl,v,kk,t,dx,nl,xs,fs,ss,rfl,hV,hK,hin,hT,λr t' H1 dI hT1 hr1 ht1=>?_⟩
 have rP:=hV.keep dI hT
 have jE:=hK.mono (dI.tu hT)
 have J4:=dI.keep hT yj (by intro ps z;cases z)
 refine⟨_,rfl,v,dx,_,rfl,rP.ob,rfl,_,rfl,_,rfl,v,_,src,dx,nl,ss,_,f,rfl,rP,J4,λx hx=>hv x (hin x hx),λpa H2 s2 hpa _=>?_⟩
 refine⟨r,t',pa,_,_,_,f,rfl,(jE.few ss hr1 ht1).mono (Tu.of s2),Fs.Km ss hpl,hpa,Hv.mk (λx hx=>?_),λp H3 s3 hpn hp=>?_⟩
 . rw[Fs.ji] at hx
   exact of_decide_eq_true (List.mem_filter.mp hx).2
 . rw[Fs.ji] at hp
   refine q p H3 (dI.trans (Kp.of (s2.trans s3))) (hT1.same (s2.trans s3)) ?_ hp
   cases e:H p with
   |none=>rfl
   |some o=>
    obtain⟨ps,hP⟩:=hT.tab
    by_cases hpp:p=P2
    . obtain⟨ps',hP'⟩:=(hT1.same s2).tab
      rw[hpp,hP'] at hpn;cases hpn
    . rw[s2 _ _ (dI _ _ hpp e)] at hpn;cases hpn
end
end Pb
namespace L2
open PySem PySem.Spec PyProof.Rows
noncomputable def abo (a:Addr) (o:Obj) (kvs:List (Key × V)):It:=
 ⟨λi H=>i<kvs.length/\H a=some (.cu o (.dK kvs)),λi H x H'=>∃p kv,H p=none/\x=.ref p/\kvs[i]? =some kv/\H'=upd H p (.tup [kV kv.1,kv.2]),λi H=>kvs.length<=i/\H a=some (.cu o (.dK kvs))⟩
theorem abp:∀{kvs:List (Key × V)}{vs:List (Key × Value)}{i:Nat}{p:Key × V},KV kvs vs->kvs[i]? =some p->∃v,vs[i]? =some (p.1,v)/\RelV p.2 v
 |_,_,i,p,.nil,h=>by simp at h
 |_,_,0,p,.cons (b:=b) h t,e=>by
  have e:=Option.some.inj (show some _=some p from e)
  subst e
  exact⟨b.2,by show some b=_;rw[h.1],h.2⟩
 |_,_,i+1,p,.cons h t,e=>abp (i:=i) t e
theorem ajQ:entryFor table "dict_itemiterator.__iter__"=some Builtin.«dict_keyiterator.__iter__»:=
 entryFor_alias (id':="dict_keyiterator.__iter__") (by kernel_rfl) rfl (by decide+kernel) (by kernel_rfl)
theorem ajR {prog:Program}{w:World}{A:Around}{E:Value->Shared->Prop}{s:Shared}{it d:Addr}{i n ep:Nat}{ok ov:Value}{Q:Value->Shared->Prop}(hit:IsItemIter s.heap it d i n ep ok ov)(h:Q (.ref it) s):wpAny (model prog w) A (pyIter (.ref it)) Q E s:=by
 have hT:s.TypeIs (.ref it) "dict_itemiterator":=⟨_,hit,rfl⟩
 refine wpAny_pyIter_slot hT F.slot_dict_itemiterator_iter (wpAny_call_entry F.slot_dict_itemiterator_iter hT ajQ ?_ (F.args_dict_itemiterator_iter_1 _))
 show wpAny _ _ (ret (.ref it)) _ _ s
 exact Q03 ⟨_,rfl,"dict_itemiterator",_,hT,F.slot_dict_itemiterator_next.lookup,h⟩
theorem ajS {P:Program}{w:World}{K:W.Frag}{elts:List Expr}{k:Nat}{tpos:Pos}{a it:Addr}{o:Obj}{kvs:List (Key × V)}{vs:List (Key × Value)}{ep:Nat}(rel:KV kvs vs)(ha:∀h:Heap,h.get? a=some o->h.DictAt (cJ P w) a vs ep):
 Turn P w K (.Tuple elts k tpos) (abo a o kvs) [it] it (λi h=>∃ok ov,IsItemIter h it a i vs.length ep ok ov) where
 mem:=by simp
 obj:=λi h st b hb=>by
  have e:b=it:=by simpa using hb
  subst e
  obtain⟨ok,ov,e⟩:=st
  exact⟨_,e,λv z=>by
   have z:Data.fields _=Data.cell v:=z
   cases z⟩
 keep:=λi h h' st k=>by
  obtain⟨ok,ov,e⟩:=st
  exact⟨ok,ov,k it (by simp) _ e⟩
 item:=by
  intro X hP hw hK hc i pins s σ H E I hf st hg
  subst hP hw hK
  obtain⟨ok,ov,st⟩:=st
  obtain⟨hi,hfz⟩:=hg
  obtain⟨hao,_⟩:=I.hok a _ hfz
  have hp:kvs[i]? =some kvs[i]:=Q05 hi
  obtain⟨v,hv,rv⟩:=abp rel hp
  obtain⟨f0,f1,f2,f3,f4,f5⟩:=hf it (by simp)
  have fr:H s.heap.objs.size=none:=I.hok.fresh (Q01 _)
  refine wpAny_pyNext_items_item st (ha _ hao) hv λkey h' hk q1 q3 _ q5=>?_
  refine⟨_,rfl,wpAny_letOwnedTupleGo_items (s:={ s with heap:=h' }) q1 λh'' g1 g2=>?_⟩
  have ne1:∀b o,s.heap.get? b=some o->b≠s.heap.objs.size:=λb o q=>Q09 (Q02 q)
  have kk:∀b o,b≠it->s.heap.get? b=some o->h''.get? b=some o:=λb o n1 q=>g2.extBut b o n1 (q5 b o n1 q)
  have pe:s.heap.objs.size≠it:=Q0n (Q02 st)
  have tup:h''.get? s.heap.objs.size=some { cls:=.type "tuple",data:=.seq #[key,v] }:=g2.extBut _ _ pe q3
  have I1:Inv X pins σ (upd H s.heap.objs.size (.tup [kV kvs[i].1,kvs[i].2])) { s with heap:=h'' }:=by
   refine I.step (g':=s.gens) (d':=s.drawn) (t':=s.toks) (ch:=[it]) (λb hb=>?_) (λb o _ _ hc q _=>?_) (λb o _ _ hc q _=>?_) (λb o _ q n=>?_) (λb o hc q=>?_) (λb ys q=>?_) (λb o v q=>?_) (λb ps q=>?_) (λm hm=>?_) (λb o q=>?_) I.bare
   . have hb:b=it:=by simpa using hb
     rw[hb]
     exact⟨f3,f1,f4,f5⟩
   . exact kk b o (λz=>hc (by simp[z])) q
   . exact⟨o.slots,kk b o (λz=>hc (by simp[z])) q⟩
   . rw[au (ne1 b o q)];exact n
   . exact⟨o,kk b o (λz=>hc (by simp[z])) q⟩
   . rw[au (aN q fr)];exact q
   . rw[au (aN q fr)];exact q
   . exact⟨#[],by rw[au (aN q fr),q];simp⟩
   . obtain⟨o,es,ep,ho,r⟩:=hm
     exact⟨o,es,ep,kk _ o (Ne.symm f1) ho,r⟩
   . by_cases hb:b=s.heap.objs.size
     . subst hb
       rw[aF] at q;cases q
       refine⟨dg,[key,v],.cons (Zy hk) (.cons rv .nil),?_⟩
       exact⟨_,tup,rfl,_,rfl⟩
     . rw[au hb] at q
       refine(I.hok b o q).stay (λc v hc' z=>kk c v ?_ z) (λc z=>by rw[au (aN z fr)];exact z) λc ys z=>by rw[au (aN z fr)];exact z
       rcases hc' with z|z
       . rw[z];exact aN q f0
       . exact aN z f0
  refine⟨.ref s.heap.objs.size,_,I1,rfl,⟨s.heap.objs.size,kvs[i],fr,rfl,hp,rfl⟩,⟨key,v,g1⟩,λb hb=>?_⟩
  have hb':b=it:=by simpa using hb
  rw[hb',au (Ne.symm pe)]
  exact(hf it (by simp)).1
 done:=by
  intro X hP hw hK hc i pins s σ H E I hf st hg
  subst hP hw hK
  obtain⟨ok,ov,st⟩:=st
  obtain⟨hi,hfz⟩:=hg
  obtain⟨hao,_⟩:=I.hok a _ hfz
  obtain⟨f0,f1,f2,f3,f4,f5⟩:=hf it (by simp)
  have hl:=Paired.length rel
  exact wpAny_pyNext_items_end (I.ok.hd hc) st (ha _ hao) (Q2u (by omega)) λh' eb=>⟨rfl,I.turned (t':=s.toks) (λb o hb e=>eb b o hb e) f0 f1 f3 f4 f5⟩
 self:=λ_ _ _ _ _ st h=>by
  obtain⟨ok,ov,st⟩:=st
  exact ajR st h
section
variable {X:Cx}
noncomputable def ajT (H0:Hp) (tl:TE):TI:=λσ H R=>tl σ H λx H1=>∃a kvs,x=.ref a/\H1 a=some (.dK kvs)/\∀o,wZ H0 a->R (abo a o kvs) (upd H1 a (.cu o (.dK kvs)))
theorem ajU {H0:Hp}(h0:X.H₀=H0){elts:List Expr}{k:Nat}{tpos apos cpos:Pos}{l:Expr}{tl:TE}(hl:PE X l tl)
 (hbase:attributeBase l "items" X.env (eval l X.env)=eval l X.env:=by rfl) (hline:(apos.endLine == cpos.line)=true:=by rfl):
 PI X (.Tuple elts k tpos) (.Call (.Attribute l "items" apos) [] [] cpos) (ajT H0 tl):=by
 subst h0
 intro pins s σ H R I h
 refine wpAny_Call_method0_late hbase hline (aM (hl pins s σ H _ I h) λv s1 ⟨x,H1,I1,r1,q1⟩=>?_)
 obtain⟨a,kvs,e,hq,q⟩:=q1
 subst e
 cases r1
 obtain⟨o,vs,ep,rel,hs,hao,hda,hz,I2⟩:=I1.freeze hq
 have hat:=hda _ hao
 have hm:s1.heap.DictOf (cJ X.prog X.w) a vs:=hat.dictOf
 refine⟨"dict","dict.items",F.plainAttrs_dict,F.slot_dict_items,F.type_dict_items,hm.typeIs,hm.mapOf.noDict,?_⟩
 show wpAny _ _ (callWith cpos (.builtin "dict.items") [.ref a] [] []) _ _ s1
 refine method_meetsIn F.slot_dict_items F.entry_dict_items rfl (PySem.evalArgs_none ⟨rfl,hm.typeIs,F.args_dict_items_1 _,_,meets_dict_items (cJ X.prog X.w) a hs,⟨vs,hm⟩,?_⟩)
 have up:∀b ob,s1.heap.get? b=some ob->(s1.heap.push { cls:=.type "dict_items",data:=.fields #[.ref a] }).get? b=some ob:=λb ob e=>Q04 _ e
 refine wpAny_pyIter_items (s:={ s1 with heap:=s1.heap.push { cls:=.type "dict_items",data:=.fields #[.ref a] } }) ⟨_,Q0d _ rfl,rfl,rfl⟩ (hda _ (up _ _ hao)) ?_
 have I3:Inv X pins σ (upd H1 a (.cu o (.dK kvs))) { s1 with heap:=s1.heap.push { cls:=.type "dict_items",data:=.fields #[.ref a] } }:=I2.kept (t':=s1.toks) up
 refine⟨_,[_],_,_,upd H1 a (.cu o (.dK kvs)),rfl,I3.kept (t':=s1.toks) λb o e=>Q04 _ e,ajS rel hda,⟨.none,.none,Q0d _ rfl⟩,λb hb=>?_,q o hz⟩
 have e:=List.mem_singleton.mp hb
 subst e
 exact I3.mq (Q01 _) (I3.hok.fresh (Q01 _))
end
end L2
namespace Pb
open PySem L2 PyProof.Rows
structure fJ (K:W.Frag) (CD:Addr):Prop where
 ct:Cls K CD
 nk:lD K CD "kind"
 ns:lD K CD "source"
 nv:lD K CD "views"
 np:lD K CD "past"
noncomputable abbrev jJ (CD dd kk src vs ps:Addr):HO:=.ins CD dd [("kind",.ref kk),("source",.ref src),("views",.ref vs),("past",.ref ps)]
theorem m7.dH {fs:Fs}{ss:List Str}{f g:Str->V}(nd:fs.names.Nodup)(hf:∀x k,fs.get x=some k->dX k (f x))(hg:∀x k,fs.get x=some k->dX k (g x)):Two (fs.dH ss) (aK f (fs.names.filter λx=>decide (x∈ss))) (aK g (fs.names.filter λx=>decide (x∈ss))) f g:=λi nm k hat=>by
 have e:=Fs.tX (by rw[Fs.ji];exact nd.filter _) hat
 rw[Fs.CG] at e
 by_cases z:nm∈ss
 . rw[if_pos z] at e
   have hm:nm∈fs.names.filter λx=>decide (x∈ss):=List.mem_filter.mpr ⟨Fs.get_mem e,decide_eq_true z⟩
   exact⟨by rw[iK,if_pos hm],by rw[iK,if_pos hm],hf _ _ e,hg _ _ e⟩
 . rw[if_neg z] at e;cases e
noncomputable def FK (fs:Fs) (f:Str->V):Prop:=∀x k,fs.get x=some k->dX k (f x)
noncomputable def abq (P2 C CD:Addr):Sp:=λvs H Q _=>∃d v old dd kk t src vv ps dx nl xs fs ss k1 k2,∃f g:Str->V,vs=[.ref d,.ref v,.ref old]/\H d=some (jJ CD dd kk src vv ps)/\eX H C v dx nl ss/\d9 H kk t xs fs/\fs.cV/\(∀x∈ss,x∈fs.names)/\bB P2 bM bN H/\H old=some (.dK k1)/\Hv fs k1 f/\FK fs f/\H src=some (.dK k2)/\Hv fs k2 g/\FK fs g/\
 ∀p ys H',fG P2 H H'->bB P2 bM bN H'->H' p=some (.lst ys)->b_ H' ys (fH f g (fs.names.filter λx=>decide (x∈ss)))->Q (.ref p) H'
section
variable {P:Program}{w:World}{K:W.Frag}{mg:Str->Option Value}{base:Heap}
variable {C P2 CD:Addr}
theorem abr:bA ["self","view","old"] ["self","view","old"] (aL (aJ 53 12)):=by refine⟨rfl,rfl,rfl,?_,rfl,?_,?_⟩ <;> decide+kernel
theorem ajV (T:Tb mg)(TK:mZ K mg C j7 gH j8 j9)(DK:fJ K CD)(uZ:Dm K "paper_for" "Desk.paper_for" BL (aJ 53 12) CZ Ks)(uX:Dn K mg "between" BK (top 33) Kh Kl)(ajW:aq P w K mg base aB (4) Kh Kl BK (abg))(m8:Dn K mg "shown" ug (top 52) yr yt)(C_:aq P w K mg base aB (11) yr yt ug (Ko P2 C))(iM:Dm K "behind" "Take.behind" mR (aJ 62 1) gH oU)(rE:aq P w K mg base aB (10) gH oU mR (yd P2 C)):aq P w K mg base aB (12) CZ Ks BL (abq P2 C CD):=by
 have CT:=TK.ct
 have rF:=TK.b
 refine uZ.F.ok abr (λvs H Q E h=>?_) (λcdv A outer s H vs Q E hr h=>?_)
 . obtain⟨d,v,old,dd,kk,t,src,vv,ps,dx,nl,xs,fs,ss,k1,k2,f,g,rfl,_⟩:=h
   rfl
 obtain⟨d,v,old,dd,kk,t,src,vv,ps,dx,nl,xs,fs,ss,k1,k2,f,g,rfl,hd,hV,hK,hpl,hin,hT,ho,ho1,hf,hs,hs1,hg,q⟩:=h
 have nd:=abr.nd
 refine⟨_,(aD (aP (aR ajW (hr.mono (by decide)) uX (aj (gB (pv 1) CT rF rE (hr.mono (by decide)) iM.b .nil eN (aj (cY (pv 0) rfl) ak)) (aj (aR C_ (hr.mono (by decide)) m8 (aj (pv 1) (aj (cY (pv 0) rfl) (aj (pv 2) ak)))) (aj (aR C_ (hr.mono (by decide)) m8 (aj (pv 1) (aj (cY (pv 0) rfl) (aj (cY (pv 0) rfl) ak)))) ak)))))),?_⟩
 refine⟨_,rfl,v,dx,_,rfl,hV.ob,rfl,_,rfl,d,CD,dd,_,_,rfl,hd,DK.ct,DK.nk,rfl,v,kk,t,dx,nl,xs,fs,ss,rfl,hV,hK,hin,hT,λr t' H1 dI hT1 hr1 ht1=>?_⟩
 have rP:=hV.keep dI hT
 have jE:=hK.mono (dI.tu hT)
 have kf:=jE.few ss hr1 ht1
 have hd1:=dI.keep hT hd (by intro ps z;cases z)
 have ajX:=dI.keep hT ho (by intro ps z;cases z)
 have ajY:=dI.keep hT hs (by intro ps z;cases z)
 refine⟨_,rfl,_,rfl,d,CD,dd,_,_,rfl,hd1,DK.ct,DK.nk,rfl,_,rfl,v,kk,t,dx,nl,xs,fs,ss,old,k1,f,rfl,rP,jE,hpl,hin,hT1,ajX,ho1,λpa H2 oR hT2 _ hpa=>?_⟩
 have Ku:=rP.keep oR hT1
 have yg:=jE.mono (oR.tu hT1)
 have hd2:=oR.keep hT1 hd1 (by intro ps z;cases z)
 have hs2:=oR.keep hT1 ajY (by intro ps z;cases z)
 refine⟨_,rfl,_,rfl,d,CD,dd,_,_,rfl,hd2,DK.ct,DK.nk,rfl,_,rfl,d,CD,dd,_,_,rfl,hd2,DK.ct,DK.ns,rfl,v,kk,t,dx,nl,xs,fs,ss,src,k2,g,rfl,Ku,yg,hpl,hin,hT2,hs2,hs1,λpb H3 m9 m_ _ hpb=>?_⟩
 have kf3:=(kf.mono (oR.tu hT1)).mono (m9.tu hT2)
 refine⟨r,t',pa,pb,_,_,_,_,f,g,rfl,kf3,m9.keep hT2 hpa (by intro ps z;cases z),hpb,m7.dH hK.nd hf hg,λp ys H4 s4 hp hP=>?_⟩
 rw[Fs.ji] at hP
 exact q p ys H4 (dI.trans (oR.trans (m9.trans (Kp.of s4)))) (m_.same s4) hp hP
end
noncomputable abbrev Hk:=Str × Addr × List Str
noncomputable def d_ (hks:List Hk):List (Key × V):=hks.map λh=>(Sum.inr h.1,.ref h.2.1)
noncomputable def aj0 (H:Hp) (C:Addr) (hks:List Hk):Prop:=∀h∈hks,∃dx nl,eX H C h.2.1 dx nl h.2.2
noncomputable def eZ (H:Hp) (cs:List V) (hks:List Hk) (F:List Str->List Op):Prop:=cs.length=hks.length/\∀(i:Nat) v h,cs[i]? =some v->hks[i]? =some h->∃c p ys,v=.ref c/\H c=some (.tup [.str h.1,.ref p])/\H p=some (.lst ys)/\b_ H ys (F h.2.2)
noncomputable def KD (P2 d:Addr) (H H':Hp):Prop:=∀c o,c≠P2->c≠d->H c=some o->H' c=some o
noncomputable def Kv (P2 C CD:Addr):Sp:=λvs H Q _=>∃d new dd kk t src vv ps xs fs hks k1 k2,∃f g:Str->V,vs=[.ref d,.ref new]/\H d=some (jJ CD dd kk src vv ps)/\H vv=some (.dK (d_ hks))/\aj0 H C hks/\hks.length<=12/\d9 H kk t xs fs/\fs.cV/\(∀h∈hks,∀x∈h.2.2,x∈fs.names)/\bB P2 bM bN H/\src≠vv/\new≠vv/\H src=some (.dK k1)/\Hv fs k1 f/\FK fs f/\H new=some (.dK k2)/\Hv fs k2 g/\FK fs g/\
 ∀p cs H',KD P2 d H H'->bB P2 bM bN H'->H' d=some (jJ CD dd kk new vv ps)->H' p=some (.lst cs)->eZ H' cs hks (λss=>fH f g (fs.names.filter λx=>decide (x∈ss)))->Q (.ref p) H'
theorem eZ.keep {H H':Hp}{cs:List V}{hks:List Hk}{F:List Str->List Op}(k:∀c o,((∃xs,o=.tup xs)\/∃xs,o=.lst xs)->H c=some o->H' c=some o)(h:eZ H cs hks F):eZ H' cs hks F:=by
 refine⟨h.1,λi v hk e1 e2=>?_⟩
 obtain⟨c,p,ys,e,h1,h2,h3⟩:=h.2 i v hk e1 e2
 exact⟨c,p,ys,e,k _ _ (.inl ⟨_,rfl⟩) h1,k _ _ (.inr ⟨_,rfl⟩) h2,h3.mono λc xs e=>k _ _ (.inl ⟨_,rfl⟩) e⟩
theorem eZ.snoc {H:Hp}{cs:List V}{hks:List Hk}{F:List Str->List Op}{v:V}{hk:Hk}(h:eZ H cs hks F)(hv:∃c p ys,v=.ref c/\H c=some (.tup [.str hk.1,.ref p])/\H p=some (.lst ys)/\b_ H ys (F hk.2.2)):eZ H (cs++[v]) (hks++[hk]) F:=by
 refine⟨by rw[Q07,Q07,h.1];rfl,λi v' hk' e1 e2=>?_⟩
 by_cases hi:i<cs.length
 . rw[Q0q hi] at e1
   rw[Q0q (by rw[<-h.1];exact hi)] at e2
   exact h.2 i v' hk' e1 e2
 . rw[Q0i (by omega)] at e1
   rw[Q0i (by rw[<-h.1];omega),<-h.1] at e2
   cases hj:i - cs.length with
   |zero=>
    rw[hj] at e1 e2
    cases e1
    cases e2
    exact hv
   |succ j=>rw[hj] at e1;cases e1
theorem _root_.L2.bB.Ib {P:Addr}{lp:Pos}{ql:Str}{H:Hp}{a:Addr}{o:Obj}{kvs:List (Key × V)}{u:HO}(h:bB P lp ql H)(ha:H a=some (.cu o (.dK kvs))):bB P lp ql (upd H a u):=by
 have nn:∀{c:Addr} {v:HO},H c=some v->(∀o' w,v≠ .cu o' w)->c≠a:=λ{c v} e hv z=>by rw[z,ha] at e;cases e;exact hv _ _ rfl
 rcases h with e|⟨c,e,fe⟩
 . exact .inl (by rw[au (nn e (by intro o' w z;cases z))];exact e)
 . exact .inr ⟨c,by rw[au (nn e (by intro o' w z;cases z))];exact e,by rw[au (nn fe (by intro o' w z;cases z))];exact fe⟩
section
variable {P:Program}{w:World}{K:W.Frag}{mg:Str->Option Value}{base:Heap}
variable {C P2 CD:Addr}
theorem abt:bA ["self","new","old"] ["self","new"] (aL (aJ 53 11)):=by refine⟨rfl,rfl,rfl,?_,rfl,?_,?_⟩ <;> decide+kernel
theorem aj1 (T:Tb mg)(DK:fJ K CD)(aj2:Meth K CD "paper_for" CZ)(oW:Dm K "moved_to" "Desk.moved_to" jg (aJ 53 11) rQ yu)(uZ:Dm K "paper_for" "Desk.paper_for" BL (aJ 53 12) CZ Ks)(aj3:aq P w K mg base aB (12) CZ Ks BL (abq P2 C CD)):aq P w K mg base aB (13) rQ yu jg (Kv P2 C CD):=by
 have dJ:=DK.ct
 refine oW.F.ok abt (λvs H Q E h=>?_) (λcdv A outer s H vs Q E hr h=>?_)
 . obtain⟨d,new,dd,kk,t,src,vv,ps,xs,fs,hks,k1,k2,f,g,rfl,_⟩:=h
   rfl
 obtain⟨d,new,dd,kk,t,src,vv,ps,xs,fs,hks,k1,k2,f,g,rfl,hd,jk,hHk,h12,hK,hpl,hin,hT,gM,nnv,hs,hs1,hf,hn,hn1,hg,q⟩:=h
 have nd:=abt.nd
 refine⟨_,(ao (bw (i:=2) nd rfl (Or.inr rfl) (cY (pv 0) rfl))
  (ao (tH (pv 0) (pv 1) rfl)
  (aD (aP (ZC rfl (g8 (g:=(qR K 2 (jr (cF 0) (jr (cF 1) qQ)))) (tt:=fZ) (te:=(pR (cA (bC 0) (cA _ fX)))) (own:=["name","view"]) rfl (dw.of (N:=["self","new","old"]) (sc:=aL (aJ 53 11)) rfl rfl rfl (by decide+kernel)) (ajU rfl (cY (pv 0) rfl)) (λ_ _ _ _ _=>(fV rfl (cB (bG (i:=0) (show(["name","view","self","new","old"]:List Str).Nodup by decide+kernel) rfl (Or.inl rfl) (.inr rfl)) (cB (bG (i:=1) (show(["name","view","self","new","old"]:List Str).Nodup by decide+kernel) rfl (Or.inl rfl) (.inr rfl)) fU)))) (λ_ _ _ _ _=>iG) (λ_ _ _ _ _=>(cO (aj (pv 0) (aj (gB (pv 2) dJ aj2 aj3 (hr.mono (by decide)) uZ.b .nil eN (aj (pv 1) (aj (pv 4) ak))) ak)))))))))),?_⟩
 refine⟨_,rfl,d,CD,dd,_,_,rfl,hd,DK.ct,DK.ns,rfl,?_⟩
 refine⟨_,rfl,_,rfl,d,CD,dd,_,rfl,hd,DK.ct,DK.ns,by show 4<1000;decide,?_⟩
 have e1:upd H d (.ins CD dd (dj "source" (.ref new) [("kind",.ref kk),("source",.ref src),("views",.ref vv),("past",.ref ps)]))=upd H d (jJ CD dd kk new vv ps):=rfl
 rw[e1]
 have hd1:upd H d (jJ CD dd kk new vv ps) d=some (jJ CD dd kk new vv ps):=aF
 have k0:∀c o,c≠d->H c=some o->upd H d (jJ CD dd kk new vv ps) c=some o:=λc o hc e=>by rw[au hc];exact e
 have rR:∀{c:Addr} {o:HO},H c=some o->(∀a b l,o≠ .ins a b l)->c≠d:=λ{c o} e ho z=>by rw[z,hd] at e;cases e;exact ho _ _ _ rfl
 generalize upd H d (jJ CD dd kk new vv ps)=H1 at hd1 k0
 obtain⟨pt,hPt⟩:=hT.tab
 have nPd:P2≠d:=rR hPt (by intro a b l z;cases z)
 have Kw:vv≠d:=rR jk (by intro a b l z;cases z)
 have abv:=k0 _ _ Kw jk
 have hT1:bB P2 bM bN H1:=by
  rcases hT with e|⟨c,e,fe⟩
  . exact .inl (k0 _ _ nPd e)
  . exact .inr ⟨c,k0 _ _ nPd e,k0 _ _ (rR fe (by intro a b l z;cases z)) fe⟩
 refine⟨_,rfl,d,CD,dd,_,_,rfl,hd1,DK.ct,DK.nv,rfl,vv,_,rfl,abv,λo hz=>?_⟩
 have nvP:vv≠P2:=λz=>by rw[z,hPt] at jk;cases jk
 have f2:upd H1 vv (.cu o (.dK (d_ hks))) vv=some (.cu o (.dK (d_ hks))):=aF
 have k2':∀c u,c≠vv->H1 c=some u->upd H1 vv (.cu o (.dK (d_ hks))) c=some u:=λc u hc e=>by rw[au hc];exact e
 generalize upd H1 vv (.cu o (.dK (d_ hks)))=H2 at f2 k2'
 have hT2:bB P2 bM bN H2:=by
  have nn:∀{c:Addr} {u:HO},H1 c=some u->(∀kv,u≠ .dK kv)->c≠vv:=λ{c u} e hu z=>by rw[z,abv] at e;cases e;exact hu _ rfl
  rcases hT1 with e|⟨c,e,fe⟩
  . exact .inl (k2' _ _ (nn e (by intro kv z;cases z)) e)
  . exact .inr ⟨c,k2' _ _ (nn e (by intro kv z;cases z)) e,k2' _ _ (nn fe (by intro kv z;cases z)) fe⟩
 have u5:∀c u,c≠d->c≠vv->H c=some u->H2 c=some u:=λc u h1 h2 e=>k2' c u h2 (k0 c u h1 e)
 have Ky:∀{c:Addr} {u:HO},H c=some u->(∀kv,u≠ .dK kv)->c≠vv:=λ{c u} e hu z=>by rw[z,jk] at e;cases e;exact hu _ rfl
 have Cr:Tu H H2:=λc ys e=>u5 c _ (rR e (by intro a b l z;cases z)) (Ky e (by intro kv z;cases z)) e
 have hd2:H2 d=some (jJ CD dd kk new vv ps):=k2' _ _ (Ne.symm Kw) hd1
 have yg:=hK.mono Cr
 have hs2:H2 src=some (.dK k1):=u5 _ _ (rR hs (by intro a b l z;cases z)) gM hs
 have hn2:H2 new=some (.dK k2):=u5 _ _ (rR hn (by intro a b l z;cases z)) nnv hn
 have Ku:∀h∈hks,∃dx nl,eX H2 C h.2.1 dx nl h.2.2:=λh hh=>by
  obtain⟨dx,nl,hV⟩:=hHk h hh
  refine⟨dx,nl,u5 _ _ (λz=>?_) (Ky hV.ob (by intro kv z;cases z)) hV.ob,u5 _ _ (rR hV.nl (by intro a b l z;cases z)) (Ky hV.nl (by intro kv z;cases z)) hV.nl,hV.nd,hV.bO⟩
  have:=hV.ob
  rw[z,hd] at this
  cases this
 refine⟨λi m ys H'=>m=hks.length - i/\i<=hks.length/\fG P2 H2 H'/\bB P2 bM bN H'/\eZ H' ys (hks.take i) (λss=>fH f g (fs.names.filter λx=>decide (x∈ss))),⟨_,rfl,Q0b _,Kp.of (Same.refl _),hT2,rfl,λi v h e=>by cases e⟩,?_⟩
 rintro i m ys H' ⟨rfl,hi0,kp,hT',hP⟩
 have hvl:(d_ hks).length=hks.length:=Q06 _
 have hfz:=kp.keep hT2 f2 (by intro ps z;cases z)
 by_cases hi:i<hks.length
 . refine .inr ⟨⟨by rw[hvl];exact hi,hfz⟩,by rw[hP.1,Q0o];exact cP (by omega),λx gW y=>?_⟩
   obtain⟨p,kv,hp,rfl,hkv,rfl⟩:=y
   have hki:hks[i]? =some hks[i]:=Q05 hi
   have ekv:kv=(Sum.inr hks[i].1,.ref hks[i].2.1):=by
    unfold d_ at hkv
    rw[Q0g,hki] at hkv
    exact(Option.some.inj hkv).symm
   subst ekv
   have hmem:hks[i]∈hks:=Q0t hi
   obtain⟨dx,nl,hV⟩:=Ku _ hmem
   have s3:=Same.new hp (o:=.tup [kV (Sum.inr hks[i].1),.ref hks[i].2.1])
   have m9:fG P2 H2 (upd H' p (.tup [kV (Sum.inr hks[i].1),.ref hks[i].2.1])):=kp.trans (Kp.of s3)
   have m_:=hT'.same s3
   refine⟨p,_,rfl,aH.of aF,rfl,_,_,rfl,_,_,rfl,rfl,rfl,L2.yes (bZ ?_)⟩
   refine⟨_,rfl,_,rfl,d,dd,_,rfl,m9.keep hT2 hd2 (by intro ps z;cases z),rfl,_,rfl,_,rfl,d,hks[i].2.1,src,dd,kk,t,new,vv,ps,dx,nl,xs,fs,hks[i].2.2,k1,k2,f,g,rfl,m9.keep hT2 hd2 (by intro ps z;cases z),hV.keep m9 hT2,yg.mono (m9.tu hT2),hpl,hin _ hmem,m_,m9.keep hT2 hs2 (by intro ps z;cases z),hs1,hf,m9.keep hT2 hn2 (by intro ps z;cases z),hn1,hg,λp4 ys4 H4 kp4 u6 hp4 hP4=>?_⟩
   refine⟨dg,λc hc=>?_⟩
   have s5:=Same.new hc (o:=.tup [.str hks[i].1,.ref p4])
   have kpA:fG P2 H' (upd H4 c (.tup [.str hks[i].1,.ref p4])):=(Kp.of s3).trans (kp4.trans (Kp.of s5))
   refine⟨hks.length - (i+1),by omega,rfl,hi,kp.trans kpA,u6.same s5,?_⟩
   rw[Q0u,hki]
   refine(hP.keep λc' o' ho e=>kpA.keep hT' e (by rcases ho with⟨_,rfl⟩|⟨_,rfl⟩ <;> intro ps z <;> cases z)).snoc ⟨c,p4,ys4,rfl,aF,s5 _ _ hp4,hP4.mono (Tu.of s5)⟩
 . refine .inl ⟨⟨by rw[hvl];omega,hfz⟩,λr hr'=>?_⟩
   have s6:=Same.new hr' (o:=.lst ys)
   have Dd:=s6 _ _ hfz
   have e6:upd H' r (.lst ys) r=some (.lst ys):=aF
   refine⟨vv,o,_,hz,Dd,?_⟩
   have Kz:fG P2 H2 (upd H' r (.lst ys)):=kp.trans (Kp.of s6)
   have yw:=hT'.same s6
   have KC:=hP.keep λc' o' _ e=>s6 _ _ e
   generalize upd H' r (.lst ys)=H6 at Dd e6 Kz yw KC
   have nn:∀{c:Addr} {v:HO},H6 c=some v->(∀o' w,v≠ .cu o' w)->c≠vv:=λ{c v} e hv z=>by rw[z,Dd] at e;cases e;exact hv _ _ rfl
   rw[Q1d (by omega)] at KC
   refine q r ys _ (λc u n1 n2 e=>?_) (yw.Ib Dd) ?_ ?_ (KC.keep λc' o' ho e=>?_)
   . by_cases hc:c=vv
     . rw[hc,aF,<-e,hc,jk]
     . rw[au hc]
       exact Kz c u n1 (u5 c u n2 hc e)
   . rw[au (Ne.symm Kw)]
     exact Kz.keep hT2 hd2 (by intro ps z;cases z)
   . rw[au (nn e6 (by intro o' w z;cases z))]
     exact e6
   . rw[au (nn e (by rcases ho with⟨_,rfl⟩|⟨_,rfl⟩ <;> intro o' w z <;> cases z))]
     exact e
end
structure bW (H:Hp) (C CD d dd kk t src vv ps:Addr) (xs:List V) (fs:Fs) (f:Str->V) (hks:List Hk) (pl:List V):Prop where
 ob:H d=some (jJ CD dd kk src vv ps)
 gM:src≠vv
 hk:∀h∈hks,∃dx nl,eX H C h.2.1 dx nl h.2.2/\nl≠ps
 bO:hks.length<=12
 oX:(hks.map (·.1)).Nodup
 kd:d9 H kk t xs fs
 cV:fs.cV
 inn:∀h∈hks,∀x∈h.2.2,x∈fs.names
 sr:H src=some (.dK (aK f fs.names))
 fk:FK fs f
 vs:H vv=some (.dK (d_ hks))
 past:H ps=some (.lst pl)
noncomputable def KP (P2 d ps:Addr) (H H':Hp):Prop:=∀c o,c≠P2->c≠d->c≠ps->H c=some o->H' c=some o
theorem KP.keep {P2 d ps:Addr}{H H':Hp}(k:KP P2 d ps H H')(hT:bB P2 bM bN H){CD dd kk src vv:Addr}(hd:H d=some (jJ CD dd kk src vv ps)){pl:List V}(hp:H ps=some (.lst pl)){c:Addr}{o:HO}(e:H c=some o)(h1:∀ps,o≠ .dD ps)(h2:∀a b l,o≠ .ins a b l)(h3:∀l,o≠ .lst l):H' c=some o:=by
 obtain⟨pt,hP⟩:=hT.tab
 exact k c o (λz=>by rw[z,hP] at e;cases e;exact h1 _ rfl) (λz=>by rw[z,hd] at e;cases e;exact h2 _ _ _ rfl) (λz=>by rw[z,hp] at e;cases e;exact h3 _ rfl) e
theorem bW.go {P2:Addr}{H H':Hp}{C CD d dd kk t src vv ps src':Addr}{xs:List V}{fs:Fs}{f g:Str->V}{hks:List Hk}{pl cZ:List V}(h:bW H C CD d dd kk t src vv ps xs fs f hks pl)(k:KP P2 d ps H H')(hT:bB P2 bM bN H)(hd:H' d=some (jJ CD dd kk src' vv ps))(hs:H' src'=some (.dK (aK g fs.names)))(hg:FK fs g)(hn:src'≠vv)(hp:H' ps=some (.lst cZ)):bW H' C CD d dd kk t src' vv ps xs fs g hks cZ:=by
 have kk':=@KP.keep _ _ _ _ _ k hT _ _ _ _ _ h.ob _ h.past
 have tu:Tu H H':=λc xs e=>kk' e (by intro ps z;cases z) (by intro a b l z;cases z) (by intro l z;cases z)
 obtain⟨pt,hP⟩:=hT.tab
 refine⟨hd,hn,λx hx=>?_,h.bO,h.oX,h.kd.mono tu,h.cV,h.inn,hs,hg,kk' h.vs (by intro ps z;cases z) (by intro a b l z;cases z) (by intro l z;cases z),hp⟩
 obtain⟨dx,nl,hV,hne⟩:=h.hk x hx
 refine⟨dx,nl,⟨k _ _ (λz=>?_) (λz=>?_) (λz=>?_) hV.ob,k _ _ (λz=>?_) (λz=>?_) hne hV.nl,hV.nd,hV.bO⟩,hne⟩
 . have:=hV.ob;rw[z,hP] at this;cases this
 . have:=hV.ob;rw[z,h.ob] at this;cases this
 . have:=hV.ob;rw[z,h.past] at this;cases this
 . have:=hV.nl;rw[z,hP] at this;cases this
 . have:=hV.nl;rw[z,h.ob] at this;cases this
noncomputable def iQ (fs:Fs) (f g:Str->V):List Str->List Op:=λss=>fH f g (fs.names.filter λx=>decide (x∈ss))
noncomputable def Df (P2 C CD:Addr):Sp:=λvs H Q _=>∃d new dd kk t src vv ps xs fs hks pl k2,∃f g:Str->V,vs=[.ref d,.ref new]/\bW H C CD d dd kk t src vv ps xs fs f hks pl/\bB P2 bM bN H/\pl.length<=900/\H new=some (.dK k2)/\Hv fs k2 g/\FK fs g/\
 ∀p cs src' H',KP P2 d ps H H'->bB P2 bM bN H'->bW H' C CD d dd kk t src' vv ps xs fs g hks (pl++[.ref src])->H' p=some (.lst cs)->eZ H' cs hks (iQ fs f g)->Q (.ref p) H'
section
variable {P:Program}{w:World}{K:W.Frag}{mg:Str->Option Value}{base:Heap}
variable {C P2 CD:Addr}
theorem aby:bA ["self","new"] ["self","new"] (aL (aJ 53 10)):=by refine⟨rfl,rfl,rfl,?_,rfl,?_,?_⟩ <;> decide+kernel
theorem aj_ (T:Tb mg)(DK:fJ K CD)(KH:Meth K CD "moved_to" rQ)(kj:Dm K "did" "Desk.did" jg (aJ 53 10) ni rT)(oW:Dm K "moved_to" "Desk.moved_to" jg (aJ 53 11) rQ yu)(KJ:aq P w K mg base aB (13) rQ yu jg (Kv P2 C CD))(eY:Dn K mg "copied" dW (top 26) jG jH)(oV:aq P w K mg base aB (3) jG jH dW (yq)):aq P w K mg base aB (14) ni rT jg (Df P2 C CD):=by
 have dJ:=DK.ct
 refine kj.F.ok aby (λvs H Q E h=>?_) (λcdv A outer s H vs Q E hr h=>?_)
 . obtain⟨d,new,dd,kk,t,src,vv,ps,xs,fs,hks,pl,k2,f,g,rfl,_⟩:=h
   rfl
 obtain⟨d,new,dd,kk,t,src,vv,ps,xs,fs,hks,pl,k2,f,g,rfl,hD,hT,qy,hn,hn1,hg,q⟩:=h
 have nd:=aby.nd
 refine⟨_,(ao (iz (pW PySem.F.plainAttrs_list PySem.F.slot_list_append PySem.F.type_list_append GZ (cY (pv 0) rfl) (aj (cY (pv 0) rfl) ak)))
  (aD (aP (gB (pv 0) dJ KH KJ (hr.mono (by decide)) oW.b .nil eN (aj (aR oV (hr.mono (by decide)) eY (aj (cY (pv 0) rfl) (aj (pv 1) ak))) ak))))),?_⟩
 refine⟨_,rfl,d,CD,dd,_,_,rfl,hD.ob,DK.ct,DK.np,rfl,.inl ⟨rfl,_,aC.of hD.past⟩,_,rfl,d,CD,dd,_,_,rfl,hD.ob,DK.ct,DK.ns,rfl,ps,_,_,rfl,rfl,hD.past,cP (by omega),?_⟩
 have e1:upd H ps (.lst (pl++[.ref src])) ps=some (.lst (pl++[.ref src])):=aF
 have k1:KP P2 d ps H (upd H ps (.lst (pl++[.ref src]))):=λc o _ _ h e=>by rw[au h];exact e
 have Dg:∀{c:Addr} {o:HO},H c=some o->(∀l,o≠ .lst l)->upd H ps (.lst (pl++[.ref src])) c=some o:=λ{c o} e ho=>by
  rw[au (λz=>by rw[z,hD.past] at e;cases e;exact ho _ rfl)]
  exact e
 have hd1:=Dg hD.ob (by intro l z;cases z)
 have hT1:bB P2 bM bN (upd H ps (.lst (pl++[.ref src]))):=hT.keep λc o ho e=>Dg e ho
 have hD1:=hD.go k1 hT hd1 (Dg hD.sr (by intro l z;cases z)) hD.fk hD.gM e1
 have hn':=Dg hn (by intro l z;cases z)
 generalize upd H ps (.lst (pl++[.ref src]))=H1 at e1 k1 hd1 hT1 hD1 hn'
 refine⟨_,rfl,d,dd,_,rfl,hd1,rfl,_,rfl,d,CD,dd,_,_,rfl,hd1,DK.ct,DK.nk,rfl,_,rfl,kk,t,new,xs,fs,k2,g,rfl,hD1.kd,hD.cV,hn',hn1,λsrc' H2 s2 hsn hs'=>?_⟩
 have Dh:src'≠vv:=λz=>by rw[z,hD1.vs] at hsn;cases hsn
 have hD2:=hD1.go (P2:=P2) (λc o _ _ _ e=>s2 c o e) hT1 (s2 _ _ hd1) (s2 _ _ hD1.sr) hD.fk hD.gM (s2 _ _ e1)
 have hT2:=hT1.same s2
 refine⟨d,src',dd,kk,t,src,vv,ps,xs,fs,hks,_,_,f,g,rfl,hD2.ob,hD2.vs,(λh hh=>by obtain⟨dx,nl,hV,_⟩:=hD2.hk h hh;exact⟨dx,nl,hV⟩),hD.bO,hD2.kd,hD.cV,hD.inn,hT2,hD.gM,Dh,hD2.sr,Hv.mk (λx hx=>hx),hD.fk,hs',Hv.mk (λx hx=>hx),hg,λp cs H3 k3 m_ w6 hp hP=>?_⟩
 obtain⟨pt,hPt⟩:=hT2.tab
 have KN:ps≠d:=λz=>by have:=hD.past;rw[z,hD.ob] at this;cases this
 have nP:∀{c:Addr} {o:HO},H2 c=some o->(∀ps,o≠ .dD ps)->c≠P2:=λ{c o} e ho z=>by rw[z,hPt] at e;cases e;exact ho _ rfl
 have KQ:=k3 _ _ (nP hD2.past (by intro ps z;cases z)) KN hD2.past
 have hs3:=k3 _ _ (nP hs' (by intro ps z;cases z)) (λz=>by rw[z,s2 _ _ hd1] at hs';cases hs') hs'
 have kA:KP P2 d ps H H3:=λc o n1 n2 n3 e=>k3 c o n1 n2 (s2 _ _ (k1 c o n1 n2 n3 e))
 exact q p cs src' H3 kA m_ (hD.go kA hT w6 hs3 hg Dh KQ) hp hP
end
theorem yC:∀{hks:List Hk}{h:Hk},(hks.map (·.1)).Nodup->h∈hks->dO (d_ hks) (Sum.inr h.1)=some (.ref h.2.1)
 |x::r,h,nd,hm=>by
  show dO ((Sum.inr x.1,.ref x.2.1)::d_ r) (Sum.inr h.1)=_
  rcases List.mem_cons.mp hm with e|e
  . subst e
    rw[wB rfl]
  . have nd':x.1 ∉ r.map (·.1)/\(r.map (·.1)).Nodup:=List.nodup_cons.mp nd
    rw[tM (λz=>nd'.1 (by rw[Sum.inr.inj z];exact List.mem_map.mpr ⟨h,e,rfl⟩))]
    exact yC nd'.2 e
theorem KR {fs:Fs}:∀{ops:List Op}{f:Str->V},FK fs f->jF fs ops->FK fs (cQ f ops)
 |[],f,h,_=>h
 |o::r,f,h,ho=>by
  refine KR (ops:=r) (f:=gG f o.1 o.2) (λx k e=>?_) λo' h'=>ho o' (Q0j _ h')
  unfold gG
  by_cases z:x=o.1
  . rw[if_pos z]
    obtain⟨k',e',p⟩:=ho o Q0f
    rw[z,e'] at e
    cases e
    exact p
  . rw[if_neg z]
    exact h x k e
theorem abz {fs:Fs}{ops:List Op}(h:jF fs ops):∀o∈ops,o.1∈fs.names:=λo ho=>by
 obtain⟨k,e,_⟩:=h o ho
 exact Fs.get_mem e
noncomputable def Di (C CD:Addr):Sp:=λvs H Q _=>∃d dd kk t src vv ps xs fs hks pl h,∃f:Str->V,vs=[.ref d,.str h.1]/\bW H C CD d dd kk t src vv ps xs fs f hks pl/\h∈hks/\Q .non H
noncomputable def abA (C CD:Addr):Sp:=λvs H Q _=>∃d dd kk t src vv ps xs fs hks pl,∃f:Str->V,vs=[.ref d]/\bW H C CD d dd kk t src vv ps xs fs f hks pl/\∀p H',Same H H'->H p=none->H' p=some (.dK (aK f fs.names))->Q (.ref p) H'
noncomputable def abB (P2 C CD:Addr):Sp:=λvs H Q _=>∃d dd kk t src vv ps xs fs hks pl h,∃f:Str->V,vs=[.ref d,.str h.1]/\bW H C CD d dd kk t src vv ps xs fs f hks pl/\h∈hks/\bB P2 bM bN H/\
 ∀p H',fG P2 H H'->bB P2 bM bN H'->H p=none->H' p=some (.dK (aK f (fs.names.filter λx=>decide (x∈h.2.2))))->Q (.ref p) H'
noncomputable def abC (K:W.Frag) (P2 C CD:Addr):Sp:=λvs H Q _=>∃d pa dd kk t src vv ps xs fs hks pl ys ops,∃f:Str->V,vs=[.ref d,.ref pa]/\bW H C CD d dd kk t src vv ps xs fs f hks pl/\bB P2 bM bN H/\pl.length<=900/\H pa=some (.lst ys)/\b_ H ys ops/\jF fs ops/\
 ∀p cs src' H',KP P2 d ps H H'->bB P2 bM bN H'->bW H' C CD d dd kk t src' vv ps xs fs (cQ f ops) hks (pl++[.ref src])->H' p=some (.lst cs)->eZ H' cs hks (iQ fs f (cQ f ops))->Q (.ref p) H'
section
variable {P:Program}{w:World}{K:W.Frag}{mg:Str->Option Value}{base:Heap}
variable {C P2 CD:Addr}
theorem abD:bA ["self","name"] ["self","name"] (aL (aJ 53 3)):=by refine⟨rfl,rfl,rfl,?_,rfl,?_,?_⟩ <;> decide+kernel
theorem akb (T:Tb mg)(DK:fJ K CD)(kE:Dm K "ask_hung" "Desk.ask_hung" g_ (aJ 53 3) nu rW):aq P w K mg base aB (1) nu rW g_ (Di C CD):=by
 refine kE.F.ok abD (λvs H Q E h=>?_) (λcdv A outer s H vs Q E hr h=>?_)
 . obtain⟨d,dd,kk,t,src,vv,ps,xs,fs,hks,pl,h,f,rfl,_⟩:=h
   rfl
 obtain⟨d,dd,kk,t,src,vv,ps,xs,fs,hks,pl,h,f,rfl,hD,hm,q⟩:=h
 have nd:=abD.nd
 have hu:=fY hr
 refine⟨_,(aD (aW (Xh (afV hu (pv 1) (cY (pv 0) rfl)) (by with_unfolding_all rfl)) (aD aO) aX)),?_⟩
 refine⟨_,rfl,_,rfl,d,CD,dd,_,_,rfl,hD.ob,DK.ct,DK.nv,rfl,vv,_,rfl,cG.k (k:=Sum.inr h.1) hD.vs,?_⟩
 rw[yC hD.oX hm]
 exact⟨false,rfl,bH q⟩
theorem abE:bA ["self"] ["self"] (aL (aJ 53 5)):=by refine⟨rfl,rfl,rfl,?_,rfl,?_,?_⟩ <;> decide+kernel
theorem akc (T:Tb mg)(DK:fJ K CD)(rY:Dm K "source_now" "Desk.source_now" mU (aJ 53 5) Dj KY)(eY:Dn K mg "copied" dW (top 26) jG jH)(oV:aq P w K mg base aB (3) jG jH dW (yq)):aq P w K mg base aB (4) Dj KY mU (abA C CD):=by
 refine rY.F.ok abE (λvs H Q E h=>?_) (λcdv A outer s H vs Q E hr h=>?_)
 . obtain⟨d,dd,kk,t,src,vv,ps,xs,fs,hks,pl,f,rfl,_⟩:=h
   rfl
 obtain⟨d,dd,kk,t,src,vv,ps,xs,fs,hks,pl,f,rfl,hD,q⟩:=h
 have nd:=abE.nd
 refine⟨_,(aD (aP (aR oV (hr.mono (by decide)) eY (aj (cY (pv 0) rfl) (aj (cY (pv 0) rfl) ak))))),?_⟩
 exact⟨_,rfl,d,CD,dd,_,_,rfl,hD.ob,DK.ct,DK.nk,rfl,_,rfl,d,CD,dd,_,_,rfl,hD.ob,DK.ct,DK.ns,rfl,kk,t,src,xs,fs,_,f,rfl,hD.kd,hD.cV,hD.sr,Hv.mk (λx hx=>hx),q⟩
theorem abF:bA ["self","name"] ["self","name"] (aL (aJ 53 6)):=by refine⟨rfl,rfl,rfl,?_,rfl,?_,?_⟩ <;> decide+kernel
theorem akd (T:Tb mg)(DK:fJ K CD)(yD:Meth K CD "ask_hung" nu)(u9:Dm K "seen_by" "Desk.seen_by" g_ (aJ 53 6) Dk KZ)(kE:Dm K "ask_hung" "Desk.ask_hung" g_ (aJ 53 3) nu rW)(yE:aq P w K mg base aB (1) nu rW g_ (Di C CD))(m8:Dn K mg "shown" ug (top 52) yr yt)(C_:aq P w K mg base aB (11) yr yt ug (Ko P2 C)):aq P w K mg base aB (12) Dk KZ g_ (abB P2 C CD):=by
 have dJ:=DK.ct
 refine u9.F.ok abF (λvs H Q E h=>?_) (λcdv A outer s H vs Q E hr h=>?_)
 . obtain⟨d,dd,kk,t,src,vv,ps,xs,fs,hks,pl,h,f,rfl,_⟩:=h
   rfl
 obtain⟨d,dd,kk,t,src,vv,ps,xs,fs,hks,pl,h,f,rfl,hD,hm,hT,q⟩:=h
 have nd:=abF.nd
 have hu:=fY hr
 refine⟨_,(ao (iz (gB (pv 0) dJ yD yE (hr.mono (by decide)) kE.b .nil eN (aj (pv 1) ak)))
  (aD (aP (aR C_ (hr.mono (by decide)) m8 (aj (iD hu (cY (pv 0) rfl) (pv 1) (λ_ _=>rfl)) (aj (cY (pv 0) rfl) (aj (cY (pv 0) rfl) ak))))))),?_⟩
 refine⟨_,rfl,d,dd,_,rfl,hD.ob,rfl,_,rfl,d,dd,kk,t,src,vv,ps,xs,fs,hks,pl,h,f,rfl,hD,hm,?_⟩
 have hg:cG H vv (.str h.1) (some (.ref h.2.1)):=by
  have:=cG.k (k:=Sum.inr h.1) hD.vs
  rw[yC hD.oX hm] at this
  exact this
 obtain⟨dx,nl,hV,_⟩:=hD.hk h hm
 exact⟨_,rfl,d,CD,dd,_,_,rfl,hD.ob,DK.ct,DK.nv,rfl,_,rfl,vv,_,rfl,hg,_,rfl,d,CD,dd,_,_,rfl,hD.ob,DK.ct,DK.nk,rfl,_,rfl,d,CD,dd,_,_,rfl,hD.ob,DK.ct,DK.ns,rfl,h.2.1,kk,t,dx,nl,xs,fs,h.2.2,src,_,f,rfl,hV,hD.kd,hD.cV,hD.inn h hm,hT,hD.sr,Hv.mk (λx hx=>hx),q⟩
theorem Dl:bA ["self","paper"] ["self","paper"] (aL (aJ 53 8)):=by refine⟨rfl,rfl,rfl,?_,rfl,?_,?_⟩ <;> decide+kernel
theorem ake (T:Tb mg)(DK:fJ K CD)(yF:Meth K CD "did" ni)(oY:Dm K "change" "Desk.change" uh (aJ 53 8) u_ yG)(kj:Dm K "did" "Desk.did" jg (aJ 53 10) ni rT)(yH:aq P w K mg base aB (14) ni rT jg (Df P2 C CD))(jj:Dn K mg "done" qm (top 32) rK rM)(akf:aq P w K mg base aB (6) rK rM qm (aa_ K)):aq P w K mg base aB (15) u_ yG uh (abC K P2 C CD):=by
 have dJ:=DK.ct
 refine oY.F.ok Dl (λvs H Q E h=>?_) (λcdv A outer s H vs Q E hr h=>?_)
 . obtain⟨d,pa,dd,kk,t,src,vv,ps,xs,fs,hks,pl,ys,ops,f,rfl,_⟩:=h
   rfl
 obtain⟨d,pa,dd,kk,t,src,vv,ps,xs,fs,hks,pl,ys,ops,f,rfl,hD,hT,qy,hpa,hP,hO,q⟩:=h
 have nd:=Dl.nd
 refine⟨_,(aD (aP (gB (pv 0) dJ yF yH (hr.mono (by decide)) kj.b .nil eN (aj (aR akf (hr.mono (by decide)) jj (aj (cY (pv 0) rfl) (aj (pv 1) (aj (cY (pv 0) rfl) ak)))) ak)))),?_⟩
 refine⟨_,rfl,d,dd,_,rfl,hD.ob,rfl,_,rfl,d,CD,dd,_,_,rfl,hD.ob,DK.ct,DK.nk,rfl,_,rfl,_,rfl,d,CD,dd,_,_,rfl,hD.ob,DK.ct,DK.ns,rfl,kk,t,pa,src,xs,fs,ys,ops,f,fs.names,rfl,hD.kd,aC.of hpa,hP,hO,abz hO,hD.kd.bO,hD.sr,λnew H1 s1 hnew=>?_⟩
 have hD1:=hD.go (P2:=P2) (λc o _ _ _ e=>s1 c o e) hT (s1 _ _ hD.ob) (s1 _ _ hD.sr) hD.fk hD.gM (s1 _ _ hD.past)
 refine⟨d,new,dd,kk,t,src,vv,ps,xs,fs,hks,pl,_,f,cQ f ops,rfl,hD1,hT.same s1,qy,hnew,Hv.mk (λx hx=>hx),KR hD.fk hO,λp cs src' H2 k2 hT2 hD2 hp iR=>?_⟩
 exact q p cs src' H2 (λc o n1 n2 n3 e=>k2 c o n1 n2 n3 (s1 _ _ e)) hT2 hD2 hp iR
end
theorem Fs.K1:∀{fs:Fs}{x:Str}{k:Kd},fs.get x=some k->∃i,fs.at i=some (x,k)
 | .nil,_,_,h=>by cases h
 | .cons y q r,x,k,h=>by
   have h:(if x=y then some q else r.get x)=some k:=h
   by_cases e:x=y
   . rw[if_pos e] at h
     cases h
     exact⟨0,by rw[e];rfl⟩
   . rw[if_neg e] at h
     obtain⟨i,hi⟩:=Fs.K1 h
     exact⟨i+1,hi⟩
theorem abG {fs:Fs}{f g:Str->V}{ss:List Str}(hf:FK fs f)(hg:m7 (fs.dH ss) (aK g ss)):FK fs (gn f g ss):=λx k e=>by
 unfold gn
 split
 . rename_i hx
   obtain⟨i,hi⟩:=Fs.K1 (fs:=fs.dH ss) (x:=x) (k:=k) (by rw[Fs.CG,if_pos hx];exact e)
   obtain⟨v,h1,h2⟩:=hg.2 i x k hi
   rw[iK,if_pos hx] at h1
   cases h1
   exact h2
 . exact hf x k e
noncomputable def abH (P2 C CD:Addr):Sp:=λvs H Q _=>∃d sn dd kk t src vv ps xs fs hks pl h,∃f g:Str->V,vs=[.ref d,.str h.1,.ref sn]/\bW H C CD d dd kk t src vv ps xs fs f hks pl/\h∈hks/\bB P2 bM bN H/\pl.length<=900/\H sn=some (.dK (aK g h.2.2))/\m7 (fs.dH h.2.2) (aK g h.2.2)/\
 ∀p cs src' H',KP P2 d ps H H'->bB P2 bM bN H'->bW H' C CD d dd kk t src' vv ps xs fs (gn f g h.2.2) hks (pl++[.ref src])->H' p=some (.lst cs)->eZ H' cs hks (iQ fs f (gn f g h.2.2))->Q (.ref p) H'
section
variable {P:Program}{w:World}{K:W.Frag}{mg:Str->Option Value}{base:Heap}
variable {C P2 CD:Addr}
theorem abI:bA ["self","name","seen"] ["self","name","seen"] (aL (aJ 53 7)):=by refine⟨rfl,rfl,rfl,?_,rfl,?_,?_⟩ <;> decide+kernel
theorem akg (T:Tb mg)(TK:mZ K mg C j7 gH j8 j9)(DK:fJ K CD)(yD:Meth K CD "ask_hung" nu)(yF:Meth K CD "did" ni)(vd:Dm K "put_by" "Desk.put_by" BP (aJ 53 7) Dp K3)(kE:Dm K "ask_hung" "Desk.ask_hung" g_ (aJ 53 3) nu rW)(yE:aq P w K mg base aB (1) nu rW g_ (Di C CD))(kj:Dm K "did" "Desk.did" jg (aJ 53 10) ni rT)(yH:aq P w K mg base aB (14) ni rT jg (Df P2 C CD))(uT:Dm K "put" "Take.put" Bw (aJ 62 3) j9 J1)(akh:aq P w K mg base aB (11) j9 J1 Bw (aaX P2 C)):aq P w K mg base aB (15) Dp K3 BP (abH P2 C CD):=by
 have dJ:=DK.ct
 have CT:=TK.ct
 have aki:=TK.p
 refine vd.F.ok abI (λvs H Q E h=>?_) (λcdv A outer s H vs Q E hr h=>?_)
 . obtain⟨d,sn,dd,kk,t,src,vv,ps,xs,fs,hks,pl,h,f,g,rfl,_⟩:=h
   rfl
 obtain⟨d,sn,dd,kk,t,src,vv,ps,xs,fs,hks,pl,h,f,g,rfl,hD,hm,hT,qy,hsn,hH,q⟩:=h
 have nd:=abI.nd
 have hu:=fY hr
 refine⟨_,(ao (iz (gB (pv 0) dJ yD yE (hr.mono (by decide)) kE.b .nil eN (aj (pv 1) ak)))
  (aD (aP (gB (pv 0) dJ yF yH (hr.mono (by decide)) kj.b .nil eN (aj (gB (iD hu (cY (pv 0) rfl) (pv 1) (λ_ _=>rfl)) CT aki akh (hr.mono (by decide)) uT.b .nil eN (aj (cY (pv 0) rfl) (aj (cY (pv 0) rfl) (aj (pv 2) ak)))) ak))))),?_⟩
 refine⟨_,rfl,d,dd,_,rfl,hD.ob,rfl,_,rfl,d,dd,kk,t,src,vv,ps,xs,fs,hks,pl,h,f,rfl,hD,hm,?_⟩
 have hg:cG H vv (.str h.1) (some (.ref h.2.1)):=by
  have:=cG.k (k:=Sum.inr h.1) hD.vs
  rw[yC hD.oX hm] at this
  exact this
 obtain⟨dx,nl,hV,_⟩:=hD.hk h hm
 refine⟨_,rfl,d,dd,_,rfl,hD.ob,rfl,_,rfl,d,CD,dd,_,_,rfl,hD.ob,DK.ct,DK.nv,rfl,_,rfl,vv,_,rfl,hg,h.2.1,dx,_,rfl,hV.ob,rfl,_,rfl,d,CD,dd,_,_,rfl,hD.ob,DK.ct,DK.nk,rfl,_,rfl,d,CD,dd,_,_,rfl,hD.ob,DK.ct,DK.ns,rfl,_,rfl,h.2.1,kk,t,dx,nl,xs,fs,h.2.2,src,sn,f,g,rfl,hV,hD.kd,hD.inn h hm,hT,hD.sr,hsn,hH,λnew H1 dI hT1 hnew=>?_⟩
 have kA:KP P2 d ps H H1:=λc o n1 _ _ e=>dI c o n1 e
 have hD1:=hD.go kA hT (dI.keep hT hD.ob (by intro ps z;cases z)) (dI.keep hT hD.sr (by intro ps z;cases z)) hD.fk hD.gM (dI.keep hT hD.past (by intro ps z;cases z))
 refine⟨d,new,dd,kk,t,src,vv,ps,xs,fs,hks,pl,_,f,gn f g h.2.2,rfl,hD1,hT1,qy,hnew,Hv.mk (λx hx=>hx),abG hD.fk hH,λp cs src' H2 k2 hT2 hD2 hp iR=>?_⟩
 exact q p cs src' H2 (λc o n1 n2 n3 e=>k2 c o n1 n2 n3 (dI c o n1 e)) hT2 hD2 hp iR
end
theorem K4:∀{hks:List Hk}{x:Str},x ∉ hks.map (·.1)->dO (d_ hks) (Sum.inr x)=none
 |[],_,_=>rfl
 |y::r,x,h=>by
  show dO ((Sum.inr y.1,.ref y.2.1)::d_ r) (Sum.inr x)=_
  rw[tM (λz=>h (by rw[<-Sum.inr.inj z];exact Q0f))]
  exact K4 λz=>h (Q0j _ z)
theorem akj {hks:List Hk}{h:Hk}(hn:h.1 ∉ hks.map (·.1)):putK (d_ hks) (Sum.inr h.1) (.ref h.2.1)=d_ (hks++[h]):=by
 unfold putK
 rw[if_neg]
 . unfold d_
   rw[Q0k]
   rfl
 . rw[Ag,K4 hn]
   decide
theorem FK.hld {fs:Fs}{f:Str->V}(nd:fs.names.Nodup)(h:FK fs f):m7 fs (aK f fs.names):=by
 refine⟨gF _ _,λi nm k hat=>⟨f nm,?_,h _ _ (Fs.tX nd hat)⟩⟩
 have:nm∈fs.names:=Q0y (by rw[Fs.jA,hat];rfl)
 rw[iK,if_pos this]
noncomputable def abJ (P2 C CD:Addr):Sp:=λvs H Q _=>∃d dd kk t src vv ps xs fs hks pl h dx nl,∃f:Str->V,vs=[.ref d,.str h.1,.ref h.2.1]/\bW H C CD d dd kk t src vv ps xs fs f hks pl/\h.1 ∉ hks.map (·.1)/\hks.length<12/\eX H C h.2.1 dx nl h.2.2/\nl≠ps/\(∀x∈h.2.2,x∈fs.names)/\bB P2 bM bN H/\
 ∀H',(∀c o,c≠P2->c≠vv->H c=some o->H' c=some o)->bB P2 bM bN H'->bW H' C CD d dd kk t src vv ps xs fs f (hks++[h]) pl->Q .non H'
noncomputable def abK:Sp:=λvs H Q _=>∃kk t a xs fs,∃f:Str->V,vs=[.ref kk,.ref a]/\d9 H kk t xs fs/\fs.cV/\H a=some (.dK (aK f fs.names))/\FK fs f/\∀p H',Same H H'->H p=none->H' p=some (.dK (aK f fs.names))->Q (.ref p) H'
noncomputable def abL (C CD:Addr):Sp:=λvs H Q _=>∃x dx kk t a xs fs,∃f:Str->V,vs=[.ref x,.ref kk,.ref a]/\H x=some (.ins CD dx [])/\d9 H kk t xs fs/\fs.cV/\H a=some (.dK (aK f fs.names))/\FK fs f/\
 ∀src vv ps H',(∀c o,c≠x->H c=some o->H' c=some o)->H src=none->H vv=none->H ps=none->bW H' C CD x dx kk t src vv ps xs fs f [] []->Q .non H'
section
variable {P:Program}{w:World}{K:W.Frag}{mg:Str->Option Value}{base:Heap}
variable {C P2 CD:Addr}
theorem abM:bA ["self","name","view"] ["self","name","view"] (aL (aJ 53 1)):=by refine⟨rfl,rfl,rfl,?_,rfl,?_,?_⟩ <;> decide+kernel
theorem akl (T:Tb mg)(TK:mZ K mg C j7 gH j8 j9)(DK:fJ K CD)(vf:Dm K "hang" "Desk.hang" BR (aJ 53 1) Dq K5)(iM:Dm K "behind" "Take.behind" mR (aJ 62 1) gH oU)(rE:aq P w K mg base aB (10) gH oU mR (yd P2 C)):aq P w K mg base aB (11) Dq K5 BR (abJ P2 C CD):=by
 have CT:=TK.ct
 have rF:=TK.b
 refine vf.F.ok abM (λvs H Q E h=>?_) (λcdv A outer s H vs Q E hr h=>?_)
 . obtain⟨d,dd,kk,t,src,vv,ps,xs,fs,hks,pl,h,dx,nl,f,rfl,_⟩:=h
   rfl
 obtain⟨d,dd,kk,t,src,vv,ps,xs,fs,hks,pl,h,dx,nl,f,rfl,hD,hnew,rJ,hV,hnp,hin,hT,q⟩:=h
 have nd:=abM.nd
 have hu:=fY hr
 refine⟨_,(ao (aW (Xh (G5 hu (pv 1) (cY (pv 0) rfl)) (by with_unfolding_all rfl)) (aD aO) aX)
  (ao (iz (gB (pv 2) CT rF rE (hr.mono (by decide)) iM.b .nil eN (aj (cY (pv 0) rfl) ak)))
  (aD (wH hu (cY (pv 0) rfl) (pv 1) (pv 2) rfl)))),?_⟩
 refine⟨_,rfl,_,rfl,d,CD,dd,_,_,rfl,hD.ob,DK.ct,DK.nv,rfl,vv,_,rfl,cG.k (k:=Sum.inr h.1) hD.vs,?_⟩
 rw[K4 hnew]
 refine⟨false,rfl,bH ?_⟩
 refine⟨_,rfl,h.2.1,dx,_,rfl,hV.ob,rfl,_,rfl,d,CD,dd,_,_,rfl,hD.ob,DK.ct,DK.nk,rfl,h.2.1,kk,t,dx,nl,xs,fs,h.2.2,rfl,hV,hD.kd,hin,hT,λr t' H1 dI hT1 hr1 ht1=>?_⟩
 have hD1:=hD.go (P2:=P2) (λc o n1 _ _ e=>dI c o n1 e) hT (dI.keep hT hD.ob (by intro ps z;cases z)) (dI.keep hT hD.sr (by intro ps z;cases z)) hD.fk hD.gM (dI.keep hT hD.past (by intro ps z;cases z))
 have rP:=hV.keep dI hT
 have hvl:(d_ hks).length=hks.length:=Q06 _
 refine⟨_,rfl,_,rfl,d,CD,dd,_,_,rfl,hD1.ob,DK.ct,DK.nv,rfl,_,rfl,vv,_,rfl,nZ.k (k:=Sum.inr h.1) hD1.vs (by rw[hvl];exact cP (by omega)),?_⟩
 rw[akj hnew]
 have k2:∀c o,c≠vv->H1 c=some o->upd H1 vv (.dK (d_ (hks++[h]))) c=some o:=λc o hc e=>by rw[au hc];exact e
 have e2:upd H1 vv (.dK (d_ (hks++[h]))) vv=some (.dK (d_ (hks++[h]))):=aF
 generalize upd H1 vv (.dK (d_ (hks++[h])))=H2 at k2 e2
 have nv:∀{c:Addr} {o:HO},H1 c=some o->(∀kv,o≠ .dK kv)->H2 c=some o:=λ{c o} e ho=>k2 c o (λz=>by rw[z,hD1.vs] at e;cases e;exact ho _ rfl) e
 have hT2:bB P2 bM bN H2:=by
  rcases hT1 with e|⟨c,e,fe⟩
  . exact .inl (nv e (by intro kv z;cases z))
  . exact .inr ⟨c,nv e (by intro kv z;cases z),nv fe (by intro kv z;cases z)⟩
 have tu:Tu H1 H2:=λc ys e=>nv e (by intro kv z;cases z)
 have vw:∀{v dx nl:Addr} {ss:List Str},eX H1 C v dx nl ss->eX H2 C v dx nl ss:=λhv=>⟨nv hv.ob (by intro kv z;cases z),nv hv.nl (by intro kv z;cases z),hv.nd,hv.bO⟩
 refine q H2 (λc o n1 n2 e=>k2 c o n2 (dI c o n1 e)) hT2 ⟨nv hD1.ob (by intro kv z;cases z),hD.gM,λy hy=>?_,by rw[Q07];show hks.length+1<=12;omega,?_,hD1.kd.mono tu,hD.cV,λy hy=>?_,k2 _ _ hD.gM hD1.sr,hD.fk,e2,nv hD1.past (by intro kv z;cases z)⟩
 . rcases List.mem_append.mp hy with z|z
   . obtain⟨K6,K7,hv,hn⟩:=hD1.hk y z
     exact⟨K6,K7,vw hv,hn⟩
   . obtain rfl:=List.mem_singleton.mp z
     exact⟨dx,nl,vw rP,hnp⟩
 . rw[Q0k]
   exact List.nodup_append.mpr ⟨hD.oX,by simp,λa ha b hb z=>by
    obtain rfl:=List.mem_singleton.mp hb
    exact hnew (by have z:a=h.1:=z;rw[<-z];exact ha)⟩
 . rcases List.mem_append.mp hy with z|z
   . exact hD.inn y z
   . obtain rfl:=List.mem_singleton.mp z
     exact hin
theorem abN:bA ["kind","source","place"] ["kind","source"] (aL (top 51)):=by refine⟨rfl,rfl,rfl,?_,rfl,?_,?_⟩ <;> decide+kernel
theorem akm (T:Tb mg)(vg:Dn K mg "first_source" BW (top 51) K8 K9)(gJ:Dn K mg "misfit" dW (top 17) lJ lK)(rD:aq P w K mg base aB (3) lJ lK dW (yh))(eY:Dn K mg "copied" dW (top 26) jG jH)(oV:aq P w K mg base aB (3) jG jH dW (yq)):aq P w K mg base aB (4) K8 K9 BW (abK):=by
 refine vg.F.ok abN (λvs H Q E h=>?_) (λcdv A outer s H vs Q E hr h=>?_)
 . obtain⟨kk,t,a,xs,fs,f,rfl,_⟩:=h
   rfl
 obtain⟨kk,t,a,xs,fs,f,rfl,hK,hpl,ha,hf,q⟩:=h
 have nd:=abN.nd
 refine⟨_,(ao (aW (aV tE (pv 1) fj (aQ _)) (aD aO) aX)
  (ao (bw (i:=2) nd rfl (Or.inl rfl) (aR rD (hr.mono (by decide)) gJ (aj (pv 0) (aj (pv 1) ak))))
  (ao (aW (aV z7 (pv 2) fj (aQ _)) (aD aO) aX)
  (aD (aP (aR oV (hr.mono (by decide)) eY (aj (pv 0) (aj (pv 1) ak)))))))),?_⟩
 refine⟨_,rfl,rfl,_,rfl,?_⟩
 rw[decide_eq_false (by intro z;cases z)]
 refine bH ?_
 refine⟨_,rfl,_,rfl,kk,t,a,xs,_,fs,rfl,hK,ha,hf.hld hK.nd,λH1 s1=>?_⟩
 refine⟨_,rfl,rfl,_,rfl,?_⟩
 rw[decide_eq_true rfl]
 refine bH ?_
 exact⟨_,rfl,_,rfl,kk,t,a,xs,fs,_,f,rfl,hK.mono (Tu.of s1),hpl,s1 _ _ ha,Hv.mk (λx hx=>hx),λp H2 s2 hpn hp=>q p H2 (s1.trans s2) (by
  cases e:H p with
  |none=>rfl
  |some o=>rw[s1 _ _ e] at hpn;cases hpn) hp⟩
end
structure K_ (K:W.Frag) (x qual:Str) (st:Stmt) (f:Addr) (fd:FuncData):Prop where
 ex:∃(oc:Value) (od:Option Addr) (dV kV doc pm:Value) (an:Option Addr) (cdv ct:Value) (osl:Array (Option Value)),
  fd=W.fnOf x qual (fM st) (eE st) (aL st) dV kV doc pm an cdv ct/\K.lookup f=some ⟨oc,od,.func fd,osl⟩/\W.codeIn K cdv qual=true
 kp:W.keepIn K (.ref f)=true
theorem K_.ok {P:Program}{w:World}{K:W.Frag}{mg:Str->Option Value}{base:Heap}{x qual:Str}{st:Stmt}{f:Addr}{fd:FuncData}{N ps:List Str}{k:Nat}{sp:Sp}(F:K_ K x qual st f fd)(S:bA N ps (aL st))(len:∀vs H Q E,sp vs H Q E->vs.length=ps.length)
 (hbody:∀(cdv:Value) (A:Around) (outer:List Env) (s:Shared) (H:Hp) (vs:List V) (Q:VK) (E:XK),cU k (A.deeper (envOfC qual (aL st) s.heap.objs.size f cdv))->sp vs H Q E->
   ∃t,fQ (jW aB P w K mg base N qual (aL st) f cdv A outer s H E).jV (eE st) t/\t { nx:=λ_ H'=>Q .non H',rt:=Q } (start N vs) H):aq P w K mg base aB (k+1) f fd ps sp:=by
 obtain⟨oc,od,dV,kV,doc,pm,an,cdv,ct,osl,rfl,lk,hcd⟩:=F.ex
 refine Aa lk hcd S len λA outer s H vs Q E hr hsp=>?_
 obtain⟨t,h,q⟩:=hbody cdv A outer s H vs Q E hr hsp
 exact⟨t,h.jV,q⟩
structure La (K:W.Frag) (x qual:Str) (ps:List Str) (st:Stmt) (f:Addr) (fd:FuncData):Prop where
 F:K_ K x qual st f fd
 b:Binds K fd ps []
theorem akn {K:W.Frag}{x ql:Str}{st:Stmt}{p1 p2 p3:Str}{f T:Addr}{oc Lb:Value}{od an Ld:Option Addr}{osl Le:Array (Option Value)}{nT:Nat}{kV doc pm cdv ct:Value}
 (l:K.lookup f=some ⟨oc,od,.func (W.fnOf x ql (fM st) (eE st) (aL st) (.ref T) kV doc pm an cdv ct),osl⟩) (c:W.codeIn K cdv ql=true) (k:W.keepIn K (.ref f)=true) (lT:K.lookup T=some ⟨Lb,Ld,.seq #[.none] nT,Le⟩)
 (hb:∀(kV doc pm:Value) (an:Option Addr) (cdv ct u1 u2 u3:Value),∃kk:Option (Array Value)->Sem (List (Str × Value)),bindArgs (W.fnOf x ql (fM st) (eE st) (aL st) (.ref T) kV doc pm an cdv ct) ⟨[u1,u2,u3],[]⟩=seqItems? (.ref T) >>= kk/\kk (some #[.none])=pure ([p1,p2,p3].zip [u1,u2,u3])):
 La K x ql [p1,p2,p3] st f (W.fnOf x ql (fM st) (eE st) (aL st) (.ref T) kV doc pm an cdv ct):=by
 refine⟨⟨⟨oc,od,.ref T,kV,doc,pm,an,cdv,ct,osl,rfl,l,c⟩,k⟩,λs us X hl=>?_⟩
 obtain⟨u1,u2,u3,rfl⟩:∃u1 u2 u3,us=[u1,u2,u3]:=by
  rw[Q0x] at hl
  match us,hl with
  |[u1,u2,u3],_=>exact⟨u1,u2,u3,rfl⟩
 obtain⟨kk,h1,h2⟩:=hb kV doc pm an cdv ct u1 u2 u3
 exact BindsTo.of_defaults rfl (X T _ lT) rfl h1 h2
section
variable {P:Program}{w:World}{K:W.Frag}{mg:Str->Option Value}{base:Heap}
variable {C CD:Addr}
theorem abO:bA ["self","kind","source"] ["self","kind","source"] (aL (aJ 53 0)):=by refine⟨rfl,rfl,rfl,?_,rfl,?_,?_⟩ <;> decide+kernel
theorem ako (T:Tb mg)(DK:fJ K CD)(vh:La K "__init__" "Desk.__init__" qg (aJ 53 0) Dr Lf)(vg:Dn K mg "first_source" BW (top 51) K8 K9)(akp:aq P w K mg base aB (4) K8 K9 BW (abK)):aq P w K mg base aB (5) Dr Lf qg (abL C CD):=by
 refine vh.F.ok abO (λvs H Q E h=>?_) (λcdv A outer s H vs Q E hr h=>?_)
 . obtain⟨x,dx,kk,t,a,xs,fs,f,rfl,_⟩:=h
   rfl
 obtain⟨x,dx,kk,t,a,xs,fs,f,rfl,hx,hK,hpl,ha,hf,q⟩:=h
 have nd:=abO.nd
 refine⟨_,(ao (tH (pv 0) (pv 1) rfl)
  (ao (tH (pv 0) (aR akp (hr.mono (by decide)) vg (aj (pv 1) (aj (pv 2) ak))) rfl)
  (ao (tH (pv 0) G6 rfl)
  (aD (tH (pv 0) (fu ak) rfl))))),?_⟩
 have nx:∀{c:Addr} {o:HO},H c=some o->(∀a b l,o≠ .ins a b l)->c≠x:=λ{c o} e ho z=>by rw[z,hx] at e;cases e;exact ho _ _ _ rfl
 refine⟨_,rfl,_,rfl,x,CD,dx,[],rfl,hx,DK.ct,DK.nk,by decide,?_⟩
 have x1:upd H x (.ins CD dx (dj "kind" (.ref kk) [])) x=some (.ins CD dx [("kind",.ref kk)]):=aF
 have k1:∀c o,c≠x->H c=some o->upd H x (.ins CD dx (dj "kind" (.ref kk) [])) c=some o:=λc o hc e=>by rw[au hc];exact e
 have r1:∀c,c≠x->upd H x (.ins CD dx (dj "kind" (.ref kk) [])) c=none->H c=none:=λc hc e=>by rw[au hc] at e;exact e
 generalize upd H x (.ins CD dx (dj "kind" (.ref kk) []))=H1 at x1 k1 r1
 have J3:Tu H H1:=λc ys e=>k1 c _ (nx e (by intro a b l z;cases z)) e
 have ha1:=k1 _ _ (nx ha (by intro a b l z;cases z)) ha
 refine⟨_,rfl,_,rfl,kk,t,a,xs,fs,f,rfl,hK.mono J3,hpl,ha1,hf,λsrc H2 s2 hsn hs=>?_⟩
 have Ds:src≠x:=λz=>by rw[z,x1] at hsn;cases hsn
 have x2:=s2 _ _ x1
 refine⟨_,rfl,x,CD,dx,_,rfl,x2,DK.ct,DK.ns,by show 1<1000;decide,?_⟩
 have x3:upd H2 x (.ins CD dx (dj "source" (.ref src) [("kind",.ref kk)])) x=some (.ins CD dx [("kind",.ref kk),("source",.ref src)]):=aF
 have k3:∀c o,c≠x->H2 c=some o->upd H2 x (.ins CD dx (dj "source" (.ref src) [("kind",.ref kk)])) c=some o:=λc o hc e=>by rw[au hc];exact e
 have r3:∀c,c≠x->upd H2 x (.ins CD dx (dj "source" (.ref src) [("kind",.ref kk)])) c=none->H2 c=none:=λc hc e=>by rw[au hc] at e;exact e
 generalize upd H2 x (.ins CD dx (dj "source" (.ref src) [("kind",.ref kk)]))=H3 at x3 k3 r3
 intro vv jk
 have s4:Same H3 (upd H3 vv (.dK [])):=Same.new jk
 have e4:upd H3 vv (.dK []) vv=some (.dK []):=aF
 have yI:vv≠x:=λz=>by rw[z,x3] at jk;cases jk
 have nvs:src≠vv:=λz=>by rw[<-z,k3 _ _ Ds hs] at jk;cases jk
 generalize upd H3 vv (.dK [])=H4 at s4 e4
 refine⟨_,rfl,x,CD,dx,_,rfl,s4 _ _ x3,DK.ct,DK.nv,by show 2<1000;decide,?_⟩
 have x5:upd H4 x (.ins CD dx (dj "views" (.ref vv) [("kind",.ref kk),("source",.ref src)])) x=some (.ins CD dx [("kind",.ref kk),("source",.ref src),("views",.ref vv)]):=aF
 have k5:∀c o,c≠x->H4 c=some o->upd H4 x (.ins CD dx (dj "views" (.ref vv) [("kind",.ref kk),("source",.ref src)])) c=some o:=λc o hc e=>by rw[au hc];exact e
 generalize upd H4 x (.ins CD dx (dj "views" (.ref vv) [("kind",.ref kk),("source",.ref src)]))=H5 at x5 k5
 refine⟨nG,λps hps=>?_⟩
 have s6:Same H5 (upd H5 ps (.lst [])):=Same.new hps
 have e6:upd H5 ps (.lst []) ps=some (.lst []):=aF
 have npx:ps≠x:=λz=>by rw[z,x5] at hps;cases hps
 generalize upd H5 ps (.lst [])=H6 at s6 e6
 refine⟨_,rfl,x,CD,dx,_,rfl,s6 _ _ x5,DK.ct,DK.np,by show 3<1000;decide,?_⟩
 have x7:upd H6 x (.ins CD dx (dj "past" (.ref ps) [("kind",.ref kk),("source",.ref src),("views",.ref vv)])) x=some (jJ CD dx kk src vv ps):=aF
 have k7:∀c o,c≠x->H6 c=some o->upd H6 x (.ins CD dx (dj "past" (.ref ps) [("kind",.ref kk),("source",.ref src),("views",.ref vv)])) c=some o:=λc o hc e=>by rw[au hc];exact e
 generalize upd H6 x (.ins CD dx (dj "past" (.ref ps) [("kind",.ref kk),("source",.ref src),("views",.ref vv)]))=H7 at x7 k7
 have kA:∀c o,c≠x->H2 c=some o->H7 c=some o:=λc o hc e=>k7 c o hc (s6 _ _ (k5 c o hc (s4 _ _ (k3 c o hc e))))
 have kB:∀c o,c≠x->H c=some o->H7 c=some o:=λc o hc e=>kA c o hc (s2 _ _ (k1 c o hc e))
 have fr:∀{c:Addr},c≠x->(∀o,H c=some o->False)->H c=none:=λ{c} _ h=>by
  cases e:H c with
  |none=>rfl
  |some o=>exact(h o e).elim
 refine q src vv ps H7 kB (fr Ds λo e=>?_) (fr yI λo e=>?_) (fr npx λo e=>?_) ⟨x7,nvs,(λh hh=>nomatch hh),by decide,List.nodup_nil,hK.mono λc ys e=>kB c _ (nx e (by intro a b l z;cases z)) e,hpl,(λh hh=>nomatch hh),kA _ _ Ds hs,hf,k7 _ _ yI (s6 _ _ (k5 _ _ yI e4)),k7 _ _ npx e6⟩
 . rw[k1 _ _ Ds e] at hsn;cases hsn
 . rw[k3 _ _ yI (s2 _ _ (k1 _ _ yI e))] at jk;cases jk
 . rw[k5 _ _ npx (s4 _ _ (k3 _ _ npx (s2 _ _ (k1 _ _ npx e))))] at hps;cases hps
end
noncomputable abbrev Dt:List Value:=[.type "ValueError",.type "Exception",.type "BaseException",.type "object"]
structure Du (K:W.Frag) (mg:Str->Option Value) (base:Heap) (x fl:Str) (C fI:Addr):Prop where
 xi:qd base C fI Dt "ValueError.__new__"
 kp:W.keepIn K (.ref C)=true
 m:mg x=some (.ref C)
 fld:qe K C fl
 cls:je K C
 ty:W.typeIn K (.ref C)=some (.type "type")
 is:(W.clsIn K C).isSome=true
 bx:W.subIn K (.ref C) (.type "BaseException")=some true
 sub:W.subIn K (.ref C) (.ref C)=some true
theorem Lg {P:Program}{w:World}{K:W.Frag}{mg:Str->Option Value}{base:Heap}{x qual:Str}{st:Stmt}{f:Addr}{fd:FuncData}{N ps:List Str}{k:Nat}{sp:Sp}(F:lE K x qual st f fd)(S:bA N ps (aL st))(len:∀vs H Q E,sp vs H Q E->vs.length=ps.length)
 (hbody:∀(cdv:Value) (A:Around) (outer:List Env) (s:Shared) (H:Hp) (vs:List V) (Q:VK) (E:XK),cU k (A.deeper (envOfC qual (aL st) s.heap.objs.size f cdv))->sp vs H Q E->
   ∃t,fQ (jW (gY P w) P w K mg base N qual (aL st) f cdv A outer s H E) (eE st) t/\t { nx:=λ_ H'=>Q .non H',rt:=Q } (start N vs) H):aq P w K mg base (gY P w) (k+1) f fd ps sp:=by
 obtain⟨oc,od,kV,doc,pm,an,cdv,ct,osl,rfl,lk,hcd⟩:=F.ex
 refine Aa lk hcd S len λA outer s H vs Q E hr hsp=>?_
 exact hbody cdv A outer s H vs Q E hr hsp
theorem Lh {P:Program}{w:World}{K:W.Frag}{mg:Str->Option Value}{base:Heap}{CX:iB}{k:Nat}{f:Addr}{fd:FuncData}{ps:List Str}{s1 s2:Sp}(F:aq P w K mg base CX k f fd ps s1)(G:aq P w K mg base CX k f fd ps s2):
 aq P w K mg base CX k f fd ps (λvs H Q E=>s1 vs H Q E\/s2 vs H Q E):=
 ⟨λvs H Q E q=>q.elim (F.len vs H Q E) (G.len vs H Q E),λA outer s H args us vs Q E hr he hb hv hs=>hs.elim (F.run A outer s H args us vs Q E hr he hb hv) (G.run A outer s H args us vs Q E hr he hb hv)⟩
noncomputable def Li (C:Addr):Sp:=λvs H Q _=>∃a v0,vs=[.ref a,v0]/\H a=some (oE a C)/\∀dx H',dx≠a->(∀c o,c≠a->H c=some o->H' c=some o)->H' a=some (MadeX a C dx)->H' dx=some (.xd [("at",v0)])->Q .non H'
noncomputable def Lj (cR:Addr) (n:Nat) (Kp:Hp->Prop) (E:XK):Prop:=∀dx H',Kp H'->H' dx=some (.xd [("at",.int n)])->E (.ref cR) (some dx) H'
section
variable {P:Program}{w:World}{K:W.Frag}{mg:Str->Option Value}{base:Heap}
variable {cR:Addr}
theorem abP:bA ["self","at"] ["self","at"] (aL (aJ 10 0)):=by refine⟨rfl,rfl,rfl,?_,rfl,?_,?_⟩ <;> decide+kernel
theorem akr (T:Tb mg)(XN:Du K mg base "NoPaper" "at" cR vo)(vp:Dm K "__init__" "NoPaper.__init__" BX (aJ 10 0) vo Lk):aq P w K mg base aB (1) vo Lk BX (Li cR):=by
 refine vp.F.ok abP (λvs H Q E h=>?_) (λcdv A outer s H vs Q E hr h=>?_)
 . obtain⟨a,v0,rfl,_⟩:=h
   rfl
 obtain⟨a,v0,rfl,ha,q⟩:=h
 have nd:=abP.nd
 refine⟨_,(aD (ahL (pv 0) (pv 1) rfl)),?_⟩
 refine⟨_,rfl,_,rfl,a,cR,rfl,ha,XN.fld,λdx hdx hda=>?_⟩
 refine q dx _ hda (λc o hc e=>?_) aF ?_
 . rw[au hc,au (aN e hdx)];exact e
 . rw[au hda,aF]
end
end Pb
namespace L2
open PySem PySem.Spec PyProof.Rows
section
variable {X:Cx}
noncomputable def aks:V->List V->Hp->VK->Prop:=λx vs H Q=>∃a kvs k v,x=.ref a/\vs=[kV k]/\H a=some (.dK kvs)/\dO kvs k=some v/\Q v (upd H a (.dK (qZ kvs k)))
theorem akt:wA X "dict.pop" aks:=by
 intro pins s σ H x vs v us Q I rx rv h
 obtain⟨a,kvs,k,w,rfl,rfl,hH,hv,q⟩:=h
 obtain⟨u,rfl,ru⟩:=vals1 rv
 cases rx
 exact afO I hH ru hv (.inl rfl) λw' s3 I3 r=>⟨w,_,I3,r,q⟩
end
theorem aku {X:Cx}{k:Nat}{f C:Addr}{fd:FuncData}{ps:List Str}{sp:Sp}{Ek:XK}{m:Str}{pos apos:Pos}{o:Expr}{ta:TE}{pl:Sem Bool}(he:PE X.jV o ta)(c:Cls X.K C)(hm:Meth X.K C m f)(F:aq X.prog X.w X.K X.mg X.base (gY X.prog X.w) k f fd ps sp)(hr:cU k X.A)(hb:Binds X.K fd ps [])
 (ht:eval (.Call (.Attribute o m apos) [] [] pos) X.env=(do
   let ov <-eval o X.env
   standAt apos.atName
   let(f,first) <-holding [ov] (getMethod ov m pl)
   callWith pos f first (backTo pos (starEach [] X.env)) (backToKw pos (keywordEach [] X.env))):=by rfl):
 tZ X Ek (.Call (.Attribute o m apos) [] [] pos) (z_ C m sp [] Ek ta fX):=by
 intro pins s σ H Q I h
 refine W.methodCall_KW (pl:=pl) (Q0h (he pins s σ H _ (I.wish _) h) (λu s1 ⟨x,H1,I1,rx,a,dx,fs,ex,ea,l,q⟩=>?_) λ_ _ z=>False.elim z) ht
 subst ex
 obtain rfl:u=Value.ref a:=rx
 have I1:=I1.jq
 refine z9 I1 ea c hm l ?_
 exact W.callWith_K0 (first:=[.ref a]) I1.cM hm.kp (Z5 (us:=[.ref a]) (vs:=[.ref a]) F hr hb I1 (.cons rfl .nil) q)
end L2
namespace Pb
open PySem L2 PyProof.Rows
noncomputable def fL (hks:List Hk) (x:Str):List Hk:=hks.filter λh=> !decide (h.1=x)
theorem abQ (x:Str):∀hks:List Hk,qZ (d_ hks) (Sum.inr x)=d_ (fL hks x)
 |[]=>rfl
 |h::r=>by
  have ih:=abQ x r
  unfold qZ d_ fL at ih ⊢
  rw[Q0v,Q0s,Q0s,ih]
  by_cases e:h.1=x
  . simp[e]
  . simp[e]
theorem Ln {hks:List Hk}{x:Str}{h:Hk}(hh:h∈fL hks x):h∈hks:=(List.mem_filter.mp hh).1
theorem akv {hks:List Hk}{x:Str}(nd:(hks.map (·.1)).Nodup):((fL hks x).map (·.1)).Nodup:=List.Nodup.sublist (List.Sublist.map _ (List.filter_sublist)) nd
noncomputable def abR (C CD:Addr):Sp:=λvs H Q _=>∃d dd kk t src vv ps xs fs hks pl h,∃f:Str->V,vs=[.ref d,.str h.1]/\bW H C CD d dd kk t src vv ps xs fs f hks pl/\h∈hks/\
 ∀H',(∀c o,c≠vv->H c=some o->H' c=some o)->bW H' C CD d dd kk t src vv ps xs fs f (fL hks h.1) pl->Q .non H'
noncomputable def abS (P2 C CD:Addr):Sp:=λvs H Q _=>∃d dd kk t src vv ps xs fs hks pl s0,∃f g:Str->V,vs=[.ref d]/\bW H C CD d dd kk t src vv ps xs fs f hks (pl++[.ref s0])/\bB P2 bM bN H/\H s0=some (.dK (aK g fs.names))/\s0≠vv/\FK fs g/\
 ∀p cs H',KP P2 d ps H H'->bB P2 bM bN H'->bW H' C CD d dd kk t s0 vv ps xs fs g hks pl->H' p=some (.lst cs)->eZ H' cs hks (iQ fs f g)->Q (.ref p) H'
noncomputable def abT (C CD gO:Addr):Sp:=λvs H _ E=>∃d dd kk t src vv ps xs fs hks,∃f:Str->V,vs=[.ref d]/\bW H C CD d dd kk t src vv ps xs fs f hks []/\E (.ref gO) none H
noncomputable def abU:Sp:=λvs H Q _=>∃kk t c v0 xs fs tv x,vs=[.ref kk,.ref c,v0]/\d9 H kk t xs fs/\H c=some (.tup [.str "cut",tv,x])/\Q .non H
noncomputable def abV:Sp:=λvs H Q _=>∃kk t c e v0 xs fs tv x,vs=[.ref kk,.ref c,.ref e,v0]/\H e=some (.tup [])/\d9 H kk t xs fs/\H c=some (.tup [.str "cut",tv,x])/\Q .non H
theorem bW.akx {H H':Hp}{P2 C CD d dd kk t src vv ps:Addr}{xs:List V}{fs:Fs}{f:Str->V}{hks:List Hk}{pl cZ:List V}(h:bW H C CD d dd kk t src vv ps xs fs f hks pl)(hT:bB P2 bM bN H)(e:H'=upd H ps (.lst cZ)):bW H' C CD d dd kk t src vv ps xs fs f hks cZ:=by
 subst e
 have k:∀{c:Addr} {o:HO},H c=some o->(∀l,o≠ .lst l)->upd H ps (.lst cZ) c=some o:=λ{c o} ec ho=>by
  rw[au (λz=>by rw[z,h.past] at ec;cases ec;exact ho _ rfl)]
  exact ec
 exact h.go (P2:=P2) (λc o _ _ n e=>by rw[au n];exact e) hT (k h.ob (by intro l z;cases z)) (k h.sr (by intro l z;cases z)) h.fk h.gM aF
section
variable {P:Program}{w:World}{K:W.Frag}{mg:Str->Option Value}{base:Heap}
variable {C P2 CD gO:Addr}
theorem abW:bA ["self","name"] ["self","name"] (aL (aJ 53 2)):=by refine⟨rfl,rfl,rfl,?_,rfl,?_,?_⟩ <;> decide+kernel
theorem aky (T:Tb mg)(DK:fJ K CD)(yD:Meth K CD "ask_hung" nu)(vq:Dm K "take_down" "Desk.take_down" g_ (aJ 53 2) Dv Lp)(kE:Dm K "ask_hung" "Desk.ask_hung" g_ (aJ 53 3) nu rW)(yE:aq P w K mg base aB (1) nu rW g_ (Di C CD)):aq P w K mg base aB (2) Dv Lp g_ (abR C CD):=by
 have dJ:=DK.ct
 refine vq.F.ok abW (λvs H Q E h=>?_) (λcdv A outer s H vs Q E hr h=>?_)
 . obtain⟨d,dd,kk,t,src,vv,ps,xs,fs,hks,pl,h,f,rfl,_⟩:=h
   rfl
 obtain⟨d,dd,kk,t,src,vv,ps,xs,fs,hks,pl,h,f,rfl,hD,hm,q⟩:=h
 have nd:=abW.nd
 refine⟨_,(ao (iz (gB (pv 0) dJ yD yE (hr.mono (by decide)) kE.b .nil eN (aj (pv 1) ak)))
  (aD (iz (pW PySem.F.plainAttrs_dict PySem.F.slot_dict_pop PySem.F.type_dict_pop akt (cY (pv 0) rfl) (aj (pv 1) ak))))),?_⟩
 refine⟨_,rfl,d,dd,_,rfl,hD.ob,rfl,_,rfl,d,dd,kk,t,src,vv,ps,xs,fs,hks,pl,h,f,rfl,hD,hm,?_⟩
 refine⟨_,rfl,d,CD,dd,_,_,rfl,hD.ob,DK.ct,DK.nv,rfl,.inr (.inr (.inl ⟨rfl,.inl ⟨_,hD.vs⟩⟩)),_,rfl,vv,_,Sum.inr h.1,_,rfl,rfl,hD.vs,yC hD.oX hm,?_⟩
 rw[abQ]
 have k1:∀c o,c≠vv->H c=some o->upd H vv (.dK (d_ (fL hks h.1))) c=some o:=λc o n e=>by rw[au n];exact e
 have nv:∀{c:Addr} {o:HO},H c=some o->(∀kv,o≠ .dK kv)->upd H vv (.dK (d_ (fL hks h.1))) c=some o:=λ{c o} e ho=>k1 c o (λz=>by rw[z,hD.vs] at e;cases e;exact ho _ rfl) e
 refine q _ k1 ⟨nv hD.ob (by intro kv z;cases z),hD.gM,λx hx=>?_,Q0c (Q0z _ _) hD.bO,akv hD.oX,hD.kd.mono λc ys e=>nv e (by intro kv z;cases z),hD.cV,λx hx=>hD.inn x (Ln hx),k1 _ _ hD.gM hD.sr,hD.fk,aF,nv hD.past (by intro kv z;cases z)⟩
 obtain⟨dx,nl,hV,hne⟩:=hD.hk x (Ln hx)
 exact⟨dx,nl,⟨nv hV.ob (by intro kv z;cases z),nv hV.nl (by intro kv z;cases z),hV.nd,hV.bO⟩,hne⟩
theorem Dw:bA ["self"] ["self"] (aL (aJ 53 9)):=by refine⟨rfl,rfl,rfl,?_,rfl,?_,?_⟩ <;> decide+kernel
theorem akz (T:Tb mg)(DK:fJ K CD)(KH:Meth K CD "moved_to" rQ)(oZ:Dm K "undo" "Desk.undo" mU (aJ 53 9) vA yJ)(oW:Dm K "moved_to" "Desk.moved_to" jg (aJ 53 11) rQ yu)(KJ:aq P w K mg base aB (13) rQ yu jg (Kv P2 C CD)):aq P w K mg base aB (14) vA yJ mU (abS P2 C CD):=by
 have dJ:=DK.ct
 refine oZ.F.ok Dw (λvs H Q E h=>?_) (λcdv A outer s H vs Q E hr h=>?_)
 . obtain⟨d,dd,kk,t,src,vv,ps,xs,fs,hks,pl,s0,f,g,rfl,_⟩:=h
   rfl
 obtain⟨d,dd,kk,t,src,vv,ps,xs,fs,hks,pl,s0,f,g,rfl,hD,hT,hs0,hsv,hg,q⟩:=h
 have nd:=Dw.nd
 refine⟨_,(ao (aW (aV bF (aY d8 (by rfl) T.dG PySem.boot_len (aj (cY (pv 0) rfl) ak)) aG (aQ _)) (aD aO) aX)
  (aD (aP (gB (pv 0) dJ KH KJ (hr.mono (by decide)) oW.b .nil eN (aj (afx PySem.F.plainAttrs_list PySem.F.slot_list_pop PySem.F.type_list_pop afG (cY (pv 0) rfl)) ak))))),?_⟩
 refine⟨_,rfl,d,CD,dd,_,_,rfl,hD.ob,DK.ct,DK.np,rfl,ps,_,rfl,.inl (aC.of hD.past),rfl,_,rfl,?_⟩
 refine dM (λc=>?_) (λ_=>?_)
 . have:=of_decide_eq_true c
   injection this with this
   rw[Q07] at this
   have this:((pl.length+1:Nat):Int)=0:=this
   omega
 have akA:(pl++[V.ref s0])[(pl++[V.ref s0]).length - 1]? =some (.ref s0):=by
  rw[Q07]
  show(pl++[V.ref s0])[pl.length+1 - 1]? =_
  rw[Nat.add_sub_cancel,Q0i (Q01 _),Q16]
  rfl
 refine⟨_,rfl,d,dd,_,rfl,hD.ob,rfl,_,rfl,d,CD,dd,_,_,rfl,hD.ob,DK.ct,DK.np,rfl,.inl ⟨rfl,_,aC.of hD.past⟩,ps,_,_,rfl,rfl,hD.past,akA,?_⟩
 rw[List.dropLast_concat]
 have hD1:=hD.akx (cZ:=pl) hT rfl
 have k1:KP P2 d ps H (upd H ps (.lst pl)):=λc o _ _ n e=>by rw[au n];exact e
 have hT1:bB P2 bM bN (upd H ps (.lst pl)):=hT.keep λc o ho e=>by rw[au (λz=>by rw[z,hD.past] at e;cases e;exact ho _ rfl)];exact e
 have hs1:upd H ps (.lst pl) s0=some (.dK (aK g fs.names)):=by rw[au (λz=>by rw[z,hD.past] at hs0;cases hs0)];exact hs0
 generalize upd H ps (.lst pl)=H1 at hD1 k1 hT1 hs1
 refine⟨d,s0,dd,kk,t,src,vv,ps,xs,fs,hks,_,_,f,g,rfl,hD1.ob,hD1.vs,(λh hh=>by obtain⟨dx,nl,hV,_⟩:=hD1.hk h hh;exact⟨dx,nl,hV⟩),hD1.bO,hD1.kd,hD1.cV,hD1.inn,hT1,hD1.gM,hsv,hD1.sr,Hv.mk (λx hx=>hx),hD1.fk,hs1,Hv.mk (λx hx=>hx),hg,λp cs H3 k3 m_ w6 hp hP=>?_⟩
 obtain⟨pt,hPt⟩:=hT1.tab
 have KN:ps≠d:=λz=>by have:=hD1.past;rw[z,hD1.ob] at this;cases this
 have nP:∀{c:Addr} {o:HO},H1 c=some o->(∀ps,o≠ .dD ps)->c≠P2:=λ{c o} e ho z=>by rw[z,hPt] at e;cases e;exact ho _ rfl
 have KQ:=k3 _ _ (nP hD1.past (by intro ps z;cases z)) KN hD1.past
 have hs3:=k3 _ _ (nP hs1 (by intro ps z;cases z)) (λz=>by rw[z,hD1.ob] at hs1;cases hs1) hs1
 have kA:KP P2 d ps H H3:=λc o n1 n2 n3 e=>k3 c o n1 n2 (k1 c o n1 n2 n3 e)
 exact q p cs H3 kA m_ (hD.go kA hT w6 hs3 hg hsv KQ) hp hP
theorem akB (T:Tb mg)(DK:fJ K CD)(XD:OwnCls "NoDeed" gO Dt "ValueError.__new__" mg base)(oZ:Dm K "undo" "Desk.undo" mU (aJ 53 9) vA yJ):aq P w K mg base (gY P w) 14 vA yJ mU (abT C CD gO):=by
 refine Lg oZ.F Dw (λvs H Q E h=>?_) (λcdv A outer s H vs Q E hr h=>?_)
 . obtain⟨d,dd,kk,t,src,vv,ps,xs,fs,hks,f,rfl,_⟩:=h
   rfl
 obtain⟨d,dd,kk,t,src,vv,ps,xs,fs,hks,f,rfl,hD,q⟩:=h
 have nd:=Dw.nd
 refine⟨_,(ao (aW (aV bF (aY d8 (by rfl) T.dG PySem.boot_len (aj (cY (pv 0) rfl) ak)) aG (aQ _)) (aD (ahI XD F.excBase_ValueError rfl rfl ahJ (aj bD ak))) aX)
  (aD aO)),?_⟩
 refine⟨_,rfl,d,CD,dd,_,_,rfl,hD.ob,DK.ct,DK.np,rfl,ps,_,rfl,.inl (aC.of hD.past),rfl,_,rfl,?_⟩
 exact dM (λ_=>⟨gR,q⟩) (λc=>(c (decide_eq_true rfl)).elim)
theorem akC (T:Tb mg)(j_:Dn K mg "acted" qj (top 43) rG rH):aq P w K mg base aB (2) rG rH qj (abU):=by
 refine j_.F.ok CN (λvs H Q E h=>?_) (λcdv A outer s H vs Q E hr h=>?_)
 . obtain⟨kk,t,c,v0,xs,fs,tv,x,rfl,_⟩:=h
   rfl
 obtain⟨kk,t,c,v0,xs,fs,tv,x,rfl,hK,hc,q⟩:=h
 have nd:=CN.nd
 refine⟨_,(ao (bw (i:=3) nd rfl (Or.inl rfl) (aZ bV (pv 1) aG (λ_ _=>rfl)))
  (ao (bw (i:=4) nd rfl (Or.inl rfl) (aZ bV (pv 0) aG (λ_ _=>rfl)))
  (ao (aW (PW.pt (lq (aV bF (pv 3) bD (aQ _)) (lg Ak))) (aD aO) aX)
  (ao (aW (PW.pt (lq (aV bF (pv 3) bD (aQ _)) (lg (aV bF (pv 4) bD (aQ _))))) (aD aO) aX)
  (ao (aW (PW.pt (lq (aV bF (pv 3) bD (aQ _)) (lg (aV bF (pv 4) bD (aQ _))))) (aD aO) aX)
  (ao (aW (PW.pt (lq (aV bF (pv 3) bD (aQ _)) (lg (aV bF (pv 4) bD (aQ _))))) (aD aO) aX)
  (ao (aW (PW.pt (lq (aV bF (pv 3) bD (aQ _)) (lg (aV bF (pv 4) bD (aQ _))))) (aD aO) aX)
  (aD (aP fj))))))))),?_⟩
 refine⟨_,rfl,c,_,_,_,rfl,rfl,aH.of hc,rfl,?_⟩
 refine⟨_,rfl,kk,_,_,_,rfl,rfl,aH.of hK.at_,rfl,?_⟩
 have n1:decide (V.str "cut"=V.str "set")=false:=by decide+kernel
 have n2:decide (V.str "cut"=V.str "add")=false:=by decide+kernel
 have n3:decide (V.str "cut"=V.str "cut")=true:=by decide+kernel
 have n4:decide (V.str "record"=V.str "rows")=false:=by decide+kernel
 have n5:decide (V.str "cut"=V.str "grow")=false:=by decide+kernel
 have n6:decide (V.str "cut"=V.str "trim")=false:=by decide+kernel
 refine⟨_,rfl,rfl,_,rfl,?_⟩
 rw[n1]
 refine bH (bH ?_)
 refine⟨_,rfl,rfl,_,rfl,?_⟩
 rw[n2]
 refine bH (bH ?_)
 refine⟨_,rfl,rfl,_,rfl,?_⟩
 rw[n3]
 refine bZ ?_
 refine⟨_,rfl,rfl,_,rfl,?_⟩
 rw[n4]
 refine bH ?_
 refine⟨_,rfl,rfl,_,rfl,?_⟩
 rw[n5]
 refine bH (bH ?_)
 refine⟨_,rfl,rfl,_,rfl,?_⟩
 rw[n6]
 refine bH (bH ?_)
 exact q
theorem akD (T:Tb mg)(gK:Dn K mg "stepped" j5 (top 34) lM lN)(j_:Dn K mg "acted" qj (top 43) rG rH)(J6:aq P w K mg base aB (2) rG rH qj (abU)):aq P w K mg base aB (3) lM lN j5 (abV):=by
 refine gK.F.ok uU (λvs H Q E h=>?_) (λcdv A outer s H vs Q E hr h=>?_)
 . obtain⟨kk,t,c,e,v0,xs,fs,tv,x,rfl,_⟩:=h
   rfl
 obtain⟨kk,t,c,e,v0,xs,fs,tv,x,rfl,he,hK,hc,q⟩:=h
 have nd:=uU.nd
 refine⟨_,(ao (aW (aV bF (aY d8 (by rfl) T.dG PySem.boot_len (aj (pv 2) ak)) aG (aQ _)) (aD (aP (aR J6 (hr.mono (by decide)) j_ (aj (pv 0) (aj (pv 1) (aj (pv 3) ak)))))) aX)
  (ao aO
  (ao aO
  (ao aO
  (ao aO
  (ao aO
  (aD aO))))))),?_⟩
 refine⟨_,rfl,e,_,rfl,.inr (aH.of he),rfl,_,rfl,?_⟩
 exact dM (λ_=>⟨_,rfl,_,rfl,_,rfl,kk,t,c,v0,xs,fs,tv,x,rfl,hK,hc,q⟩) (λc=>(c (decide_eq_true rfl)).elim)
end
theorem akE {cR:Addr}{H:Hp}{E:XK}{n:Nat}(q:Lj cR n (Same H) E){H1:Hp}(s1:Same H H1)(a:Addr)(ha:H1 a=none):Li cR [.ref a,.int n] (upd H1 a (oE a cR)) (λv H2=>v=.non/\∃dx,H2 a=some (MadeX a cR dx)/\E (.ref cR) (some dx) (rem H2 a)) E0:=by
 refine⟨a,.int n,rfl,aF,λdx H' hda keep hMa hdx=>⟨rfl,dx,hMa,?_⟩⟩
 refine q dx _ (λc o e=>?_) (by rw[oF hda];exact hdx)
 have e1:=s1 c o e
 have hca:=aN e1 ha
 rw[oF hca]
 exact keep c o hca (by rw[au hca];exact e1)
noncomputable def abX (K:W.Frag) (cR:Addr):Sp:=λvs H _ E=>∃kk t pl a c pt xs fs ys zs ops x0,∃f:Str->V,∃l:List Str,vs=[.ref kk,.ref pl,.ref a]/\d9 H kk t xs fs/\aC K H pl (ys++ .ref c::zs)/\b_ H ys ops/\jF fs ops/\(∀o∈ops,o.1∈l)/\l.length<=12/\H a=some (.dK (aK f l))/\H c=some (.tup [.str "cut",.ref pt,x0])/\H pt=some (.tup [])/\Lj cR ops.length (Same H) E
section
variable {P:Program}{w:World}{K:W.Frag}{mg:Str->Option Value}{base:Heap}
variable {cR:Addr}
theorem akG (T:Tb mg)(XN:Du K mg base "NoPaper" "at" cR vo)(jj:Dn K mg "done" qm (top 32) rK rM)(gK:Dn K mg "stepped" j5 (top 34) lM lN)(yp:aq P w K mg base aB 5 lM lN j5 (λvs H Q E=>J5 vs H Q E\/abV vs H Q E))(vp:Dm K "__init__" "NoPaper.__init__" BX (aJ 10 0) vo Lk)(akH:aq P w K mg base aB (1) vo Lk BX (Li cR)):aq P w K mg base (gY P w) 6 rK rM qm (abX K cR):=by
 refine Lg jj.F CQ (λvs H Q E h=>?_) (λcdv A outer s H vs Q E hr h=>?_)
 . obtain⟨kk,t,pl,a,c,pt,xs,fs,ys,zs,ops,x0,f,l,rfl,_⟩:=h
   rfl
 obtain⟨kk,t,pl,a,c,pt,xs,fs,ys,zs,ops,x0,f,l,rfl,hK,hpl,hP,hO,hin,rJ,ha,hc,hpt,q⟩:=h
 have nd:=CQ.nd
 refine⟨_,(ao (bw (i:=3) nd rfl (Or.inl rfl) (pv 2))
  (ao (jt PassesOwn.leaving rfl (Hh rfl T.Iz (aj (pv 1) ak)) (fV rfl (cB (bG (i:=4) nd rfl (Or.inl rfl)) (cB (bG (i:=5) nd rfl (Or.inl rfl)) fU))) (ao (bw (i:=3) nd rfl (Or.inl rfl) (aR yp (hr.mono (by decide)) gK (aj (pv 0) (aj (pv 5) (aj (aZ bV (pv 5) aG (λ_ _=>rfl)) (aj (pv 3) ak))))))
  (aD (aW (aV tE (pv 3) fj (aQ _)) (aD (ahO rfl XN.xi PySem.F.excBase_ValueError XN.kp akH (hr.mono (by decide)) rfl rfl XN.m vp.b ahR (aj (pv 4) ak))) aX))))
  (aD (aP (pv 3))))),?_⟩
 refine⟨_,rfl,?_⟩
 refine⟨_,rfl,pl,rfl,⟨_,hpl⟩,aa6 (xs:=ys++ .ref c::zs) (λi σ H'=>i<=ops.length/\Same H H'/\∃p x y,σ=[some (.ref kk),some (.ref pl),some (.ref a),some (.ref p),x,y]/\H' p=some (.dK (aK (cQ f (ops.take i)) l))) ⟨Q0b _,Same.refl _,a,_,_,rfl,ha⟩ ?_ ?_ ?_⟩
 . rintro i σ H' _ ⟨_,s1,_⟩
   exact Pb.aC.yc hpl s1
 . rintro i v σ H' z hv ⟨hi0,s1,p,x,y,rfl,hp⟩ hz
   by_cases hi:i<ops.length
   . have ho:ops[i]? =some ops[i]:=Q05 hi
     rw[Q0q (by rw[hP.1];exact hi)] at hv
     obtain⟨c',pt',rfl,hc',akJ⟩:=(hP.mono (Tu.of s1)).2 i v ops[i] hv ho
     obtain⟨k,hg,hpk⟩:=hO _ (Q0t hi)
     have s2:Same H' (upd H' z (.tup [.int i,.ref c'])):=Same.new hz
     refine⟨z,_,rfl,aH.of aF,rfl,_,_,rfl,_,_,rfl,rfl,?_⟩
     refine⟨_,rfl,_,rfl,_,rfl,c',_,_,_,rfl,rfl,aH.of (s2 _ _ hc'),rfl,_,rfl,.inl ⟨kk,t,c',pt',p,xs,fs,k,_,_,_,_,rfl,(hK.mono (Tu.of s1)).mono (Tu.of s2),s2 _ _ hc',s2 _ _ akJ,hg,hpk,l,hin _ (Q0t hi),rJ,s2 _ _ hp,λp' H3 s3 hp'=>?_⟩⟩
     refine⟨_,rfl,rfl,_,rfl,?_⟩
     rw[decide_eq_false (by intro z;cases z)]
     refine bH ⟨hi,s1.trans (s2.trans s3),p',_,_,rfl,?_⟩
     rw[hp',Q0u,ho]
     unfold cQ
     rw[Q2d]
     rfl
   . have ei:i=ops.length:=by omega
     subst ei
     rw[Q0i (by rw[hP.1];exact Q01 _),hP.1,Q16] at hv
     have hv:some (V.ref c)=some v:=hv
     cases hv
     have s2:Same H' (upd H' z (.tup [.int ops.length,.ref c])):=Same.new hz
     have s12:=s1.trans s2
     refine⟨z,_,rfl,aH.of aF,rfl,_,_,rfl,_,_,rfl,rfl,?_⟩
     refine⟨_,rfl,_,rfl,_,rfl,c,_,_,_,rfl,rfl,aH.of (s12 _ _ hc),rfl,_,rfl,.inr ⟨kk,t,c,pt,.ref p,xs,fs,_,x0,rfl,s12 _ _ hpt,hK.mono (Tu.of s12),s12 _ _ hc,?_⟩⟩
     refine⟨_,rfl,rfl,_,rfl,?_⟩
     rw[decide_eq_true rfl]
     exact bZ ⟨_,rfl,gR,akE q s12⟩
 . rintro σ H' ⟨hi0,_⟩
   rw[Q07,hP.1,Q0r] at hi0
   omega
end
noncomputable def abY (C CD cR:Addr):Sp:=λvs H _ E=>∃d pa dd kk t src vv ps xs fs hks pl c pt ys zs ops x0,∃f:Str->V,vs=[.ref d,.ref pa]/\bW H C CD d dd kk t src vv ps xs fs f hks pl/\H pa=some (.lst (ys++ .ref c::zs))/\b_ H ys ops/\jF fs ops/\H c=some (.tup [.str "cut",.ref pt,x0])/\H pt=some (.tup [])/\Lj cR ops.length (Same H) E
section
variable {P:Program}{w:World}{K:W.Frag}{mg:Str->Option Value}{base:Heap}
variable {C P2 CD cR:Addr}
theorem akK (T:Tb mg)(DK:fJ K CD)(yF:Meth K CD "did" ni)(oY:Dm K "change" "Desk.change" uh (aJ 53 8) u_ yG)(kj:Dm K "did" "Desk.did" jg (aJ 53 10) ni rT)(yH:aq P w K mg base aB (14) ni rT jg (Df P2 C CD))(jj:Dn K mg "done" qm (top 32) rK rM)(akL:aq P w K mg base (gY P w) 6 rK rM qm (abX K cR)):aq P w K mg base (gY P w) 15 u_ yG uh (abY C CD cR):=by
 have dJ:=DK.ct
 refine Lg oY.F Dl (λvs H Q E h=>?_) (λcdv A outer s H vs Q E hr h=>?_)
 . obtain⟨d,pa,dd,kk,t,src,vv,ps,xs,fs,hks,pl,c,pt,ys,zs,ops,x0,f,rfl,_⟩:=h
   rfl
 obtain⟨d,pa,dd,kk,t,src,vv,ps,xs,fs,hks,pl,c,pt,ys,zs,ops,x0,f,rfl,hD,hpa,hP,hO,hc,hpt,q⟩:=h
 have nd:=Dl.nd
 refine⟨_,(aD (aP (gB (pv 0) dJ yF yH (hr.mono (by decide)) kj.b .nil eN (aj (XQ akL (hr.mono (by decide)) rfl jj.m jj.F.kp jj.b .nil (ahF λ_ _ _ z=>z) (aj (cY (pv 0) rfl) (aj (pv 1) (aj (cY (pv 0) rfl) ak)))) ak)))),?_⟩
 exact⟨_,rfl,d,dd,_,rfl,hD.ob,rfl,_,rfl,d,CD,dd,_,_,rfl,hD.ob,DK.ct,DK.nk,rfl,_,rfl,_,rfl,d,CD,dd,_,_,rfl,hD.ob,DK.ct,DK.ns,rfl,kk,t,pa,src,c,pt,xs,fs,ys,zs,ops,x0,f,fs.names,rfl,hD.kd,aC.of hpa,hP,hO,abz hO,hD.kd.bO,hD.sr,hc,hpt,q⟩
end
end Pb
namespace L2
open PySem PySem.Spec PyProof.Rows
theorem akM {X:Cx}{body:List Stmt}{x0 x n:Str}{D0 Dc:Addr}{Ek:XK}{i:Nat}{b₀:Stmt}{suite akN:List Stmt}{np0 akO np hpos pos:Pos}{tb ts:TS}(hst:X.stack=X.env::X.outer)(hfm:X.env.frame=some X.env.locals)
 (hb:Ij X Ek body tb)
 (hg0:Gl X x0) (hm0:X.mg x0=some (.ref D0)) (g1:W.typeIn X.K (.ref D0)=some (.type "type")) (g2:(W.clsIn X.K D0).isSome=true) (g3:W.subIn X.K (.ref D0) (.type "BaseException")=some true)
 (g4:∀C dd H,Ek (.ref C) dd H->W.subIn X.K (.ref C) (.ref D0)=some false)
 (hg:Gl X x) (hm:X.mg x=some (.ref Dc)) (h1:W.typeIn X.K (.ref Dc)=some (.type "type")) (h2:(W.clsIn X.K Dc).isSome=true) (h3:W.subIn X.K (.ref Dc) (.type "BaseException")=some true)
 (h4:∀C dd H,Ek (.ref C) dd H->W.subIn X.K (.ref C) (.ref Dc)=some true) (hN:X.N.Nodup) (hi:X.N[i]? =some n) (hlo:X.env.kindOf n=some .local) (hs:∀a,fQ (X.marked a) (b₀::suite) ts) (hd0:(x0 == ("__debug__":Str))=false:=by decide) (hd:(x == ("__debug__":Str))=false:=by decide):
 PS X (.Try body [.ExceptHandler (some (.Name x0 np0)) none akN akO,.ExceptHandler (some (.Name x np)) (some n) (b₀::suite) hpos] [] [] pos) (Z0 Ek i tb ts):=by
 intro pins s σ H D I h
 obtain⟨hq,hk⟩:=h
 refine wpAny_Try_except (Q0h (hb pins s σ H D I hq) (λf s1 q=>?_) λe s1 z=>?_)
 . cases f with
   |next=>exact wpAny_execs_nil q
   |ret v=>exact q
   |brk=>exact q
   |cont=>exact q
 . refine ZX hst hfm z λa C T dd H' h2' e1 na hE t2 I2 key=>?_
   subst e1
   have ok:=I2.ok
   obtain⟨oe,vs,he,hc,_⟩:=id t2.ex
   refine wpAny_handleBy_cons (codeAny_handlers_test ?_) (by intro q;cases q)
   refine pK (X:=X.marked a) (I2.marked a) hg0 hm0 ?_ hd0
   refine Hz I2.cM g1 g2 g3 (g4 C dd H' hE) he hc ?_
   simp only[Bool.false_eq_true,if_false]
   refine wpAny_handleBy_cons (codeAny_handlers_test ?_) (by intro q;cases q)
   refine pK (X:=X.marked a) (I2.marked a) hg hm ?_ hd
   refine Hz I2.cM h1 h2 h3 (h4 C dd H' hE) he hc ?_
   simp only[if_true]
   refine codeAny_handlers_suite_as ?_
   refine xg t2 λh3' t3 k3 _=>?_
   have I3:=key h3' t3 k3
   refine sZ I3 hN hi (.inl hlo) (show RelV (.ref a) (.ref a) from rfl) (λs4 I4=>?_) (.inr hlo)
   refine Q0h (hs a pins s4 _ _ (D.un i) (I4.marked a) (hk a C dd H' na hE)) (λf s5 q=>?_) λ_ _ z=>False.elim z
   show wpAny _ _ _ _ _ _
   cases f with
   |next=>
    obtain⟨σ',H5,I5,q⟩:=q
    exact(I5.unmarked ok).unbind hN hi hlo λs6 I6=>⟨_,_,I6,q⟩
   |ret v=>
    obtain⟨y,σ',H5,I5,r,q⟩:=q
    exact(I5.unmarked ok).unbind hN hi hlo λs6 I6=>⟨y,_,_,I6,r,q⟩
   |brk=>
    obtain⟨σ',H5,I5,q⟩:=q
    exact(I5.unmarked ok).unbind hN hi hlo λs6 I6=>⟨_,_,I6,q⟩
   |cont=>
    obtain⟨σ',H5,I5,q⟩:=q
    exact(I5.unmarked ok).unbind hN hi hlo λs6 I6=>⟨_,_,I6,q⟩
end L2
namespace Pb
open PySem L2 PyProof.Rows
theorem akP {X:Cx}{K:W.Frag}{e:Expr}{ta:TE}{f:Str}{pos:Pos}(hK:X.K=K)(he:PE X e ta)(hb:attributeBase e f X.env (eval e X.env)=eval e X.env):PE X (.Attribute e f pos) (Z4 K ta f):=by
 subst hK
 exact ahS he hb
noncomputable def abZ (K:W.Frag) (P2 C CD:Addr):Sp:=λvs H Q _=>
 (∃d pa dd kk t src vv ps xs fs hks pl ys ops,∃f:Str->V,vs=[.ref d,.ref pa]/\bW H C CD d dd kk t src vv ps xs fs f hks pl/\bB P2 bM bN H/\pl.length<=900/\H pa=some (.lst ys)/\b_ H ys ops/\jF fs ops/\
   ∀tq p cs src' H',KP P2 d ps H H'->bB P2 bM bN H'->bW H' C CD d dd kk t src' vv ps xs fs (cQ f ops) hks (pl++[.ref src])->H' tq=some (.tup [.str "told",.ref p])->H' p=some (.lst cs)->eZ H' cs hks (iQ fs f (cQ f ops))->Q (.ref tq) H')\/
 (∃d pa dd kk t src vv ps xs fs hks pl c pt ys zs ops x0,∃f:Str->V,vs=[.ref d,.ref pa]/\bW H C CD d dd kk t src vv ps xs fs f hks pl/\H pa=some (.lst (ys++ .ref c::zs))/\b_ H ys ops/\jF fs ops/\H c=some (.tup [.str "cut",.ref pt,x0])/\H pt=some (.tup [])/\
   ∀tq H',Same H H'->H' tq=some (.tup [.str "no paper",.int ops.length])->Q (.ref tq) H')
theorem bW.same {H H':Hp}{C CD d dd kk t src vv ps:Addr}{xs:List V}{fs:Fs}{f:Str->V}{hks:List Hk}{pl:List V}(h:bW H C CD d dd kk t src vv ps xs fs f hks pl)(s:Same H H'):bW H' C CD d dd kk t src vv ps xs fs f hks pl:=
 ⟨s _ _ h.ob,h.gM,λx hx=>by obtain⟨dx,nl,hV,hn⟩:=h.hk x hx;exact⟨dx,nl,hV.same s,hn⟩,h.bO,h.oX,h.kd.mono (Tu.of s),h.cV,h.inn,s _ _ h.sr,h.fk,s _ _ h.vs,s _ _ h.past⟩
section
variable {P:Program}{w:World}{K:W.Frag}{mg:Str->Option Value}{base:Heap}
variable {C P2 CD cR:Addr}
theorem ab0:bA ["_law_desk","_law_paper","_law_told","e"] ["_law_desk","_law_paper"] (aL (top 81)):=by refine⟨rfl,rfl,rfl,?_,rfl,?_,?_⟩ <;> decide+kernel
theorem akQ (T:Tb mg)(DK:fJ K CD)(XN:Du K mg base "NoPaper" "at" cR vo)(akR:Meth K CD "change" u_)(rZ:Dn K mg "_law_change" BZ (top 81) Lq Lr)(oY:Dm K "change" "Desk.change" uh (aJ 53 8) u_ yG)(akS:aq P w K mg base (gY P w) 15 u_ yG uh (λvs H Q E=>abC K P2 C CD vs H Q E\/abY C CD cR vs H Q E)):aq P w K mg base aB (16) Lq Lr BZ (abZ K P2 C CD):=by
 have dJ:=DK.ct
 refine rZ.F.ok ab0 (λvs H Q E h=>?_) (λcdv A outer s H vs Q E hr h=>?_)
 . rcases h with⟨d,pa,dd,kk,t,src,vv,ps,xs,fs,hks,pl,ys,ops,f,rfl,_⟩|⟨d,pa,dd,kk,t,src,vv,ps,xs,fs,hks,pl,c,pt,ys,zs,ops,x0,f,rfl,_⟩ <;> rfl
 have nd:=ab0.nd
 obtain⟨x0,y0,rfl⟩:∃x y,vs=[x,y]:=by
  rcases h with⟨d,pa,dd,kk,t,src,vv,ps,xs,fs,hks,pl,ys,ops,f,e,_⟩|⟨d,pa,dd,kk,t,src,vv,ps,xs,fs,hks,pl,c,pt,ys,zs,ops,x0,f,e,_⟩ <;> exact⟨_,_,e⟩
 let Ek:XK:=λCv dd H'=>Cv=.ref cR/\∃dx n,dd=some dx/\H' dx=some (.xd [("at",.int n)])/\∀tq H2,Same H' H2->H2 tq=some (.tup [.str "no paper",.int n])->Q (.ref tq) H2
 have yK:∀C' dd H',Ek (.ref C') dd H'->W.subIn K (.ref C') (.ref cR)=some true:=λC' dd H' z=>by rw[z.1];exact XN.sub
 refine⟨_,(ao (Z1 (Ek:=Ek) (i:=3) rfl rfl (Ik (i:=2) nd rfl (.inl rfl) (Ir (t_ (Io bD) (t_ (Z6 (pv 0) dJ akR akS (hr.mono (by decide)) oY.b (aj (pv 1) ak)) Ip)))) rfl XN.m XN.ty XN.is XN.bx yK nd rfl rfl (λa=>(aD (bw (i:=2) nd rfl (Or.inl rfl) (cO (aj bD (aj (akP (K:=K) rfl (pv 3) rfl) ak)))))))
  (aD (aP (pv 2)))),?_⟩
 refine⟨?_,λa C' dd H' na hE=>?_⟩
 . rcases h with⟨d,pa,dd,kk,t,src,vv,ps,xs,fs,hks,pl,ys,ops,f,hvs,hD,hT,qy,hpa,hP,hO,q⟩|⟨d,pa,dd,kk,t,src,vv,ps,xs,fs,hks,pl,c,pt,ys,zs,ops,x0,f,hvs,hD,hpa,hP,hO,hc,hpt,q⟩
   . cases hvs
     refine⟨_,rfl,d,dd,_,rfl,hD.ob,rfl,_,rfl,.inl ⟨d,pa,dd,kk,t,src,vv,ps,xs,fs,hks,pl,ys,ops,f,rfl,hD,hT,qy,hpa,hP,hO,λp cs src' H1 k1 hT1 hD1 hp iR=>?_⟩⟩
     refine⟨dg,λtq dY=>?_⟩
     have s2:=Same.new dY (o:=.tup [.str "told",.ref p])
     exact⟨_,rfl,q tq p cs src' _ (λc o n1 n2 n3 e=>s2 _ _ (k1 c o n1 n2 n3 e)) (hT1.same s2) (hD1.same s2) aF (s2 _ _ hp) (iR.keep λc' o' _ e=>s2 _ _ e)⟩
   . cases hvs
     refine⟨_,rfl,d,dd,_,rfl,hD.ob,rfl,_,rfl,.inr ⟨d,pa,dd,kk,t,src,vv,ps,xs,fs,hks,pl,c,pt,ys,zs,ops,x0,f,rfl,hD,hpa,hP,hO,hc,hpt,λdx H1 s1 hdx=>⟨rfl,dx,_,rfl,hdx,λtq H2 s2 dY=>q tq H2 (s1.trans s2) dY⟩⟩⟩
 . obtain⟨e,dx,n,rfl,hdx,q⟩:=hE
   injection e with e
   subst e
   have s1:Same H' (upd H' a (iJ a C' (some dx))):=Same.new na
   refine⟨_,rfl,a,C',dx,_,.int n,rfl,aF,s1 _ _ hdx,XN.cls,XN.fld,rfl,dg,λtq dY=>⟨_,rfl,q tq _ (s1.trans (Same.new dY)) aF⟩⟩
end
end Pb
namespace L2
open PySem PySem.Spec PyProof.Rows
theorem ab1:∀{cs:List Addr}{its:List Value},Vals (cs.map V.ref) its->its=cs.map Value.ref
 |[],_,h=>by cases h;rfl
 |c::r,_,h=>by
  cases h with
  |cons h t=>rw[ab1 (cs:=r) t,show _=Value.ref c from h];rfl
theorem akT {X:Cx}:gU X (.builtin "isinstance") (λxs H Q=>∃a C dd tp,∃cs:List Addr,∃b,xs=[.ref a,.ref tp]/\H a=some (iJ a C dd)/\je X.K C/\H tp=some (.tup (cs.map V.ref))/\W.kitAny X.K (.ref C) (cs.map Value.ref)=some b/\Q (.bl b) H):=by
 intro pins s σ H xs us Q I r h
 obtain⟨a,C,dd,tp,cs,b,rfl,ha,Z,htp,e,q⟩:=h
 obtain⟨u,c',rfl,ru,rc'⟩:=vals2 r
 cases ru
 cases rc'
 obtain⟨o,ho,hc,_⟩:=(I.hok a _ ha).1
 obtain⟨its,rv,⟨ot,het,hct,n,hdt⟩,_⟩:=I.tuple (aH.of htp)
 obtain rfl:=ab1 rv
 obtain⟨oc,od,oda,osl⟩:=ot
 have hct:oc=.type "tuple":=hct
 have hdt:oda=.seq (cs.map Value.ref).toArray n:=hdt
 subst hct
 subst hdt
 exact W.kia_tup (agX Z) I.cM ⟨o,ho,hc⟩ het e (by intro z;cases z) λtk=>⟨.bl b,H,I.tok tk,rfl,q⟩
theorem akV {X:Cx}{K:W.Frag}(hK:X.K=K):gU X (.builtin "isinstance") (λxs H Q=>∃a C dd tp,∃cs:List Addr,∃b,xs=[.ref a,.ref tp]/\H a=some (iJ a C dd)/\je K C/\H tp=some (.tup (cs.map V.ref))/\W.kitAny K (.ref C) (cs.map Value.ref)=some b/\Q (.bl b) H):=by
 subst hK
 exact akT
end L2
namespace Pb
open PySem L2 PyProof.Rows
structure Dy (K:W.Frag) (mg:Str->Option Value) (x:Str) (C:Addr):Prop where
 m:mg x=some (.ref C)
 ty:W.typeIn K (.ref C)=some (.type "type")
 is:(W.clsIn K C).isSome=true
 bx:W.subIn K (.ref C) (.type "BaseException")=some true
structure XDF (K:W.Frag) (mg:Str->Option Value) (gO o7 o8 cR:Addr):Prop where
 m:mg "NoDeed"=some (.ref gO)
 ty:W.typeIn K (.ref gO)=some (.type "type")
 is:(W.clsIn K gO).isSome=true
 bx:W.subIn K (.ref gO) (.type "BaseException")=some true
 sub:W.subIn K (.ref gO) (.ref gO)=some true
 cls:je K gO
 kit:W.kitAny K (.ref gO) [.ref o7,.ref o8,.ref cR]=some false
 cp:mg "CantPut"=some (.ref o7)
 nn:mg "NoName"=some (.ref o8)
 np:mg "NoPaper"=some (.ref cR)
noncomputable def ab3 (P2 C CD:Addr):Sp:=λvs H Q _=>∃d sn dd kk t src vv ps xs fs hks pl h,∃f g:Str->V,vs=[.ref d,.str h.1,.ref sn]/\bW H C CD d dd kk t src vv ps xs fs f hks pl/\h∈hks/\bB P2 bM bN H/\pl.length<=900/\H sn=some (.dK (aK g h.2.2))/\m7 (fs.dH h.2.2) (aK g h.2.2)/\
 ∀tq p cs src' H',KP P2 d ps H H'->bB P2 bM bN H'->bW H' C CD d dd kk t src' vv ps xs fs (gn f g h.2.2) hks (pl++[.ref src])->H' tq=some (.tup [.str "told",.ref p])->H' p=some (.lst cs)->eZ H' cs hks (iQ fs f (gn f g h.2.2))->Q (.ref tq) H'
noncomputable def ab4 (P2 C CD:Addr):Sp:=λvs H Q _=>
 (∃d dd kk t src vv ps xs fs hks pl s0,∃f g:Str->V,vs=[.ref d]/\bW H C CD d dd kk t src vv ps xs fs f hks (pl++[.ref s0])/\bB P2 bM bN H/\H s0=some (.dK (aK g fs.names))/\s0≠vv/\FK fs g/\
   ∀tq p cs H',KP P2 d ps H H'->bB P2 bM bN H'->bW H' C CD d dd kk t s0 vv ps xs fs g hks pl->H' tq=some (.tup [.str "told",.ref p])->H' p=some (.lst cs)->eZ H' cs hks (iQ fs f g)->Q (.ref tq) H')\/
 (∃d dd kk t src vv ps xs fs hks,∃f:Str->V,vs=[.ref d]/\bW H C CD d dd kk t src vv ps xs fs f hks []/\∀tq H',Same H H'->H' tq=some (.tup [.str "no deed",.int 0])->Q (.ref tq) H')
section
variable {P:Program}{w:World}{K:W.Frag}{mg:Str->Option Value}{base:Heap}
variable {C P2 CD o7 o8 cR gO:Addr}
theorem ab5:bA ["_law_desk","_law_name","_law_seen","_law_told","e"] ["_law_desk","_law_name","_law_seen"] (aL (top 82)):=by refine⟨rfl,rfl,rfl,?_,rfl,?_,?_⟩ <;> decide+kernel
theorem akW (T:Tb mg)(DK:fJ K CD)(XC:Dy K mg "CantPut" o7)(su:Dy K mg "NoName" o8)(akX:Meth K CD "put_by" Dp)(vB:Dn K mg "_law_put_by" B_ (top 82) Ls Lx)(vd:Dm K "put_by" "Desk.put_by" BP (aJ 53 7) Dp K3)(akY:aq P w K mg base (gY P w) 15 Dp K3 BP (abH P2 C CD)):aq P w K mg base aB (16) Ls Lx B_ (ab3 P2 C CD):=by
 have dJ:=DK.ct
 refine vB.F.ok ab5 (λvs H Q E h=>?_) (λcdv A outer s H vs Q E hr h=>?_)
 . obtain⟨d,sn,dd,kk,t,src,vv,ps,xs,fs,hks,pl,h,f,g,rfl,_⟩:=h
   rfl
 have nd:=ab5.nd
 obtain⟨d,sn,dd,kk,t,src,vv,ps,xs,fs,hks,pl,h,f,g,rfl,hD,hm,hT,qy,hsn,hH,q⟩:=h
 let Ek:XK:=λ_ _ _=>False
 have yK:∀C' dd H',Ek (.ref C') dd H'->W.subIn K (.ref C') (.ref o7)=some true:=λC' dd H' z=>z.elim
 have hE0:∀C' dd H',Ek (.ref C') dd H'->W.subIn K (.ref C') (.ref o8)=some false:=λC' dd H' z=>z.elim
 refine⟨_,(ao (akM (Ek:=Ek) (i:=4) rfl rfl (Ik (i:=3) nd rfl (.inl rfl) (Ir (t_ (Io bD) (t_ (Z6 (pv 0) dJ akX akY (hr.mono (by decide)) vd.b (aj (pv 1) (aj (pv 2) ak))) Ip)))) rfl su.m su.ty su.is su.bx hE0 rfl XC.m XC.ty XC.is XC.bx yK nd rfl rfl (λa=>(aD aO)))
  (aD (aP (pv 3)))),?_⟩
 refine⟨?_,λa C' dd H' na hE=>hE.elim⟩
 refine⟨_,rfl,d,dd,_,rfl,hD.ob,rfl,_,rfl,_,rfl,d,sn,dd,kk,t,src,vv,ps,xs,fs,hks,pl,h,f,g,rfl,hD,hm,hT,qy,hsn,hH,λp cs src' H1 k1 hT1 hD1 hp iR=>?_⟩
 refine⟨dg,λtq dY=>?_⟩
 have s2:=Same.new dY (o:=.tup [.str "told",.ref p])
 exact⟨_,rfl,q tq p cs src' _ (λc o n1 n2 n3 e=>s2 _ _ (k1 c o n1 n2 n3 e)) (hT1.same s2) (hD1.same s2) aF (s2 _ _ hp) (iR.keep λc' o' _ e=>s2 _ _ e)⟩
theorem ab6:bA ["_law_desk","_law_told","e"] ["_law_desk"] (aL (top 83)):=by refine⟨rfl,rfl,rfl,?_,rfl,?_,?_⟩ <;> decide+kernel
theorem ak0 (T:Tb mg)(DK:fJ K CD)(XD:XDF K mg gO o7 o8 cR)(ak1:Meth K CD "undo" vA)(sy:Dn K mg "_law_undo" Ca (top 83) Ly Lz)(oZ:Dm K "undo" "Desk.undo" mU (aJ 53 9) vA yJ)(ak2:aq P w K mg base (gY P w) 14 vA yJ mU (λvs H Q E=>abS P2 C CD vs H Q E\/abT C CD gO vs H Q E)):aq P w K mg base aB (15) Ly Lz Ca (ab4 P2 C CD):=by
 have dJ:=DK.ct
 have XV:=XD
 refine sy.F.ok ab6 (λvs H Q E h=>?_) (λcdv A outer s H vs Q E hr h=>?_)
 . rcases h with⟨d,dd,kk,t,src,vv,ps,xs,fs,hks,pl,s0,f,g,rfl,_⟩|⟨d,dd,kk,t,src,vv,ps,xs,fs,hks,f,rfl,_⟩ <;> rfl
 have nd:=ab6.nd
 obtain⟨x0,rfl⟩:∃x,vs=[x]:=by
  rcases h with⟨d,dd,kk,t,src,vv,ps,xs,fs,hks,pl,s0,f,g,e,_⟩|⟨d,dd,kk,t,src,vv,ps,xs,fs,hks,f,e,_⟩ <;> exact⟨_,e⟩
 let Ek:XK:=λCv dd H'=>Cv=.ref gO/\dd=none/\∀tq H2,Same H' H2->H2 tq=some (.tup [.str "no deed",.int 0])->Q (.ref tq) H2
 have yK:∀C' dd H',Ek (.ref C') dd H'->W.subIn K (.ref C') (.ref gO)=some true:=λC' dd H' z=>by rw[z.1];exact XD.sub
 refine⟨_,(ao (Z1 (Ek:=Ek) (i:=2) rfl rfl (Ik (i:=1) nd rfl (.inl rfl) (Ir (t_ (Io bD) (t_ (aku (pv 0) dJ ak1 ak2 (hr.mono (by decide)) oZ.b) Ip)))) rfl XD.m XD.ty XD.is XD.bx yK nd rfl rfl (λa=>(aD (bw (i:=1) nd rfl (Or.inl rfl) (cO (aj bD (aj (jx aeR (by rfl) T.xM boot_int (aj (aY (akV (K:=K) rfl) (by rfl) T.cC boot_isinstance (aj (pv 2) (aj (cO (aj (Gd (v:=.ref o7) rfl XV.cp rfl) (aj (Gd (v:=.ref o8) rfl XV.nn rfl) (aj (Gd (v:=.ref cR) rfl XV.np rfl) ak)))) ak))) ak)) ak)))))))
  (aD (aP (pv 1)))),?_⟩
 refine⟨?_,λa C' dd H' na hE=>?_⟩
 . rcases h with⟨d,dd,kk,t,src,vv,ps,xs,fs,hks,pl,s0,f,g,hvs,hD,hT,hs0,hsv,hg,q⟩|⟨d,dd,kk,t,src,vv,ps,xs,fs,hks,f,hvs,hD,q⟩
   . cases hvs
     refine⟨_,rfl,d,dd,_,rfl,hD.ob,rfl,.inl ⟨d,dd,kk,t,src,vv,ps,xs,fs,hks,pl,s0,f,g,rfl,hD,hT,hs0,hsv,hg,λp cs H1 k1 hT1 hD1 hp iR=>?_⟩⟩
     refine⟨dg,λtq dY=>?_⟩
     have s2:=Same.new dY (o:=.tup [.str "told",.ref p])
     exact⟨_,rfl,q tq p cs _ (λc o n1 n2 n3 e=>s2 _ _ (k1 c o n1 n2 n3 e)) (hT1.same s2) (hD1.same s2) aF (s2 _ _ hp) (iR.keep λc' o' _ e=>s2 _ _ e)⟩
   . cases hvs
     exact⟨_,rfl,d,dd,_,rfl,hD.ob,rfl,.inr ⟨d,dd,kk,t,src,vv,ps,xs,fs,hks,f,rfl,hD,rfl,rfl,q⟩⟩
 . obtain⟨e,rfl,q⟩:=hE
   injection e with e
   subst e
   have s1:Same H' (upd H' a (iJ a C' none)):=Same.new na
   have e1:upd H' a (iJ a C' none) a=some (iJ a C' none):=aF
   generalize upd H' a (iJ a C' none)=H1 at s1 e1
   refine⟨_,rfl,sW,λtp htp=>?_⟩
   have s2:=Same.new htp (o:=.tup [.ref o7,.ref o8,.ref cR])
   refine⟨a,C',none,tp,[o7,o8,cR],false,rfl,s2 _ _ e1,XD.cls,aF,XD.kit,.inr ⟨false,rfl,?_⟩⟩
   refine⟨dg,λtq dY=>⟨_,rfl,q tq _ (s1.trans (s2.trans (Same.new dY))) aF⟩⟩
end
end Pb
namespace PySem
namespace F
end F
namespace F
end F
open PyProof.Rows
section
variable {prog:Program}{w:World}{A:Around}{E:Value->Shared->Prop}{s:Shared}
end
section
variable {prog:Program}{w:World}{A:Around}{E:Value->Shared->Prop}{s:Shared}
end
end PySem
namespace L2
open PySem PyProof.Rows
section
variable {X:Cx}{e:Expr}{te:TE}{p p2 pos pos2:Pos}
end
end L2
namespace L2
open PySem PySem.Spec PyProof.Rows
section
variable {prog:Program}{w:World}{A:Around}{E:Value->Shared->Prop}{s:Shared}
theorem iT {h h':Heap}{it a c:Addr}{i:Nat}(x:h.IsTupleIter it a i)(k:Heap.ExtBut c h h')(n:it≠c):h'.IsTupleIter it a i:=let⟨o,ho,r⟩:=x;⟨o,k _ _ n ho,r⟩
theorem o9 {h h':Heap}{a c:Addr}{vs:Array Value}(x:h.IsTuple a vs)(k:Heap.ExtBut c h h')(n:a≠c):h'.IsTuple a vs:=let⟨o,ho,r⟩:=x;⟨o,k _ _ n ho,r⟩
theorem ak3 {z TI TO i1 i2 l1 l2:Addr}{k:Nat}{xs ys:Array Value}{x y a b:Value}{Q:Value->Shared->Prop}(D:ZipApart z TI TO i1 i2 l1 l2)
 (hz:IsZip s.heap z TI TO .none) (hTI:IsPair s.heap TI (.ref i1) (.ref i2)) (hTO:IsPair s.heap TO a b)
 (h1:s.heap.IsTupleIter i1 l1 k) (h2:s.heap.IsTupleIter i2 l2 k) (g1:s.heap.IsTuple l1 xs) (g2:s.heap.IsTuple l2 ys) (hx:xs[k]? =some x) (hy:ys[k]? =some y)
 (hQ:∀h',IsZip h' z TI TO (rawInt s.heap.objs.size)->IsPair h' TO x y->h'.IsTupleIter i1 l1 (k+1)->h'.IsTupleIter i2 l2 (k+1)->IsPair h' s.heap.objs.size x y->
   (∀c o,c≠z->c≠TO->c≠i1->c≠i2->s.heap.get? c=some o->h'.get? c=some o)->Q (.ref s.heap.objs.size) { s with heap:=h' }):
 wpAny (model prog w) A (Builtin.«zip.__next__» ⟨[.ref z],[]⟩) (λfin s'=>∃v,fin=.done (.ret v)/\Q v s') E s:=by
 show wpAny _ _ (field (.ref z) 2 >>= _) _ _ _;refine Q00 (wpAny_field hz rfl (x:=.bool false) rfl ?_)
 show wpAny _ _ (field (.ref z) 3 >>= _) _ _ _;refine Q00 (wpAny_field hz rfl (x:=.ref TI) rfl ?_);refine Q00 (wpAny_seqItems hTI rfl ?_)
 show wpAny _ _ (Builtin.SmallTypes.ownedTupleIsFree (.ref z) >>= _) _ _ _;refine Q00 ?_;unfold Builtin.SmallTypes.ownedTupleIsFree
 refine Q00 (wpAny_field hz rfl (x:=.none) rfl (Q03 ?_));simp only[if_true];refine Q00 (wpAny_rule ?_)
 refine Q00 (wpAny_field hz rfl (x:=.ref TO) rfl ?_);refine Q00 (wpAny_setField_rec hz (by simp) λha za sa=>?_)
 replace za:IsZip ha z TI TO .ellipsis:=za
 refine Q00 ?_;simp only[Q3,Q30,Q1p,Q31]
 refine Q00 (Q00 (wpAny_onRaise ?_));show wpAny _ _ (Builtin.SmallTypes.nextOf (.ref i1) >>= _) _ _ _
 refine Q00 (Ie (iT h1 sa.extBut D.i1z) (o9 g1 sa.extBut D.l1z) hx λhb b1 sb=>Q03 ?_)
 have tb:IsPair hb TO a b:=sb.extBut _ _ D.TOi1 (sa.extBut _ _ D.TOz hTO)
 refine Q00 (wpAny_seqItems tb rfl ?_);refine Q00 (wpAny_updateSeq_pair tb λhc tc sc=>?_)
 replace tc:IsPair hc TO x b:=tc
 refine Q00 (wpAny_letGo (Q03 ?_));refine Q00 (Q00 (wpAny_onRaise ?_));show wpAny _ _ (Builtin.SmallTypes.nextOf (.ref i2) >>= _) _ _ _
 refine Q00 (Ie (iT (iT (iT h2 sa.extBut D.i2z) sb.extBut D.i12.symm) sc.extBut D.TOi2.symm) (o9 (o9 (o9 g2 sa.extBut D.l2z) sb.extBut D.l2i1) sc.extBut D.l2TO) hy λhd d2 sd=>Q03 ?_)
 have td:IsPair hd TO x b:=sd.extBut _ _ D.TOi2 tc
 refine Q00 (wpAny_seqItems td rfl ?_);refine Q00 (wpAny_updateSeq_pair td λhe te se=>?_)
 replace te:IsPair he TO x y:=te
 refine Q00 (wpAny_letGo (Q03 (Q03 ?_)));refine Q00 (wpAny_seqItems te rfl ?_);refine Q00 (wpAny_newTuple ?_)
 have sz:he.objs.size=s.heap.objs.size:=by rw[se.1,sd.1,sc.1,sb.1,sa.1]
 have ze:IsZip he z TI TO .ellipsis:=se.extBut _ _ D.TOz.symm (sd.extBut _ _ D.i2z.symm (sc.extBut _ _ D.TOz.symm (sb.extBut _ _ D.i1z.symm za)))
 have ke:∀c o,c≠z->c≠TO->c≠i1->c≠i2->s.heap.get? c=some o->he.get? c=some o:=λc o c1 c2 c3 c4 q=>se.extBut _ _ c2 (sd.extBut _ _ c4 (sc.extBut _ _ c2 (sb.extBut _ _ c3 (sa.extBut _ _ c1 q))))
 have e1:he.IsTupleIter i1 l1 (k+1):=iT (iT (iT b1 sc.extBut D.TOi1.symm) sd.extBut D.i12) se.extBut D.TOi1.symm
 have e2:he.IsTupleIter i2 l2 (k+1):=iT d2 se.extBut D.TOi2.symm
 have zl:z<he.objs.size:=Q02 ze
 show wpAny _ _ (Builtin.SmallTypes.ownedTupleHandOut (.ref z) (.ref he.objs.size) >>= _) _ _ _;refine Q00 ?_;unfold Builtin.SmallTypes.ownedTupleHandOut
 have zf:IsZip (he.push { cls:=.type "tuple",data:=.seq #[x,y] }) z TI TO .ellipsis:=Q04 _ ze
 refine Q00 (wpAny_setField_rec zf (by simp) λhg zg sg=>?_)
 replace zg:IsZip hg z TI TO (rawInt he.objs.size):=zg
 refine wpAny_setField_rec zg (by simp) λhh zh sh=>?_
 replace zh:IsZip hh z TI TO (rawInt he.objs.size):=zh
 have up:∀c o,c≠z->he.get? c=some o->hh.get? c=some o:=λc o c1 q=>sh.extBut _ _ c1 (sg.extBut _ _ c1 (Q04 _ q))
 have pr:IsPair hh he.objs.size x y:=sh.extBut _ _ (Q0n zl) (sg.extBut _ _ (Q0n zl) (Q0d _ rfl))
 rw[sz] at zh pr
 refine Q03 ⟨_,rfl,?_⟩;show Q (.ref he.objs.size) _;rw[sz]
 exact hQ hh zh (up _ _ D.TOz te) (let⟨o,ho,r⟩:=e1;⟨o,up _ _ D.i1z ho,r⟩) (let⟨o,ho,r⟩:=e2;⟨o,up _ _ D.i2z ho,r⟩) pr λc o c1 c2 c3 c4 q=>up c o c1 (ke c o c1 c2 c3 c4 q)
theorem ak4 {z TI TO i1 i2 l1 l2:Addr}{k:Nat}{xs ys:Array Value}{a b:Value}{Q:Fin->Shared->Prop}(h0:A.handled=none)(D:ZipApart z TI TO i1 i2 l1 l2)
 (hz:IsZip s.heap z TI TO .none) (hTI:IsPair s.heap TI (.ref i1) (.ref i2)) (hTO:IsPair s.heap TO a b)
 (h1:s.heap.IsTupleIter i1 l1 k) (h2:s.heap.IsTupleIter i2 l2 k) (g1:s.heap.IsTuple l1 xs) (g2:s.heap.IsTuple l2 ys) (hend:xs[k]? =none\/ys[k]? =none)
 (hE:∀h' e,(∀c o,c≠z->c≠TO->c≠i1->c≠i2->s.heap.get? c=some o->h'.get? c=some o)->(∃o,h'.get? e=some o/\o.cls=.type "StopIteration")->E (.ref e) { s with heap:=h' }):
 wpAny (model prog w) A (Builtin.«zip.__next__» ⟨[.ref z],[]⟩) Q E s:=by
 show wpAny _ _ (field (.ref z) 2 >>= _) _ _ _;refine Q00 (wpAny_field hz rfl (x:=.bool false) rfl ?_)
 show wpAny _ _ (field (.ref z) 3 >>= _) _ _ _;refine Q00 (wpAny_field hz rfl (x:=.ref TI) rfl ?_);refine Q00 (wpAny_seqItems hTI rfl ?_)
 show wpAny _ _ (Builtin.SmallTypes.ownedTupleIsFree (.ref z) >>= _) _ _ _;refine Q00 ?_;unfold Builtin.SmallTypes.ownedTupleIsFree
 refine Q00 (wpAny_field hz rfl (x:=.none) rfl (Q03 ?_));simp only[if_true];refine Q00 (wpAny_rule ?_)
 refine Q00 (wpAny_field hz rfl (x:=.ref TO) rfl ?_);refine Q00 (wpAny_setField_rec hz (by simp) λha za sa=>?_)
 replace za:IsZip ha z TI TO .ellipsis:=za
 refine Q00 ?_;simp only[Q3,Q30,Q1p,Q31]
 refine Q00 (Q00 (wpAny_onRaise ?_));show wpAny _ _ (Builtin.SmallTypes.nextOf (.ref i1) >>= _) _ _ _
 cases hx:xs[k]? with
 |none=>
  refine Q00 (ZD h0 (iT h1 sa.extBut D.i1z) (o9 g1 sa.extBut D.l1z) hx λhb e sb he=>?_)
  obtain⟨oe,q1,q2⟩:=he
  have zb:IsZip hb z TI TO .ellipsis:=sb _ _ D.i1z.symm za
  have ez:e≠z:=λv=>by subst v;rw[zb] at q1;cases q1;simp at q2
  exact wpAny_setField_rec zb (by simp) λhc _ sc=>hE hc e (λc o c1 _ c3 _ v=>sc.extBut _ _ c1 (sb _ _ c3 (sa.extBut _ _ c1 v))) ⟨oe,sc.extBut _ _ ez q1,q2⟩
 |some x=>
  have hy:ys[k]? =none:=by rcases hend with v|v;rw[hx] at v;cases v;exact v
  refine Q00 (Ie (iT h1 sa.extBut D.i1z) (o9 g1 sa.extBut D.l1z) hx λhb b1 sb=>Q03 ?_)
  have tb:IsPair hb TO a b:=sb.extBut _ _ D.TOi1 (sa.extBut _ _ D.TOz hTO)
  refine Q00 (wpAny_seqItems tb rfl ?_);refine Q00 (wpAny_updateSeq_pair tb λhc tc sc=>?_)
  refine Q00 (wpAny_letGo (Q03 ?_));refine Q00 (Q00 (wpAny_onRaise ?_));show wpAny _ _ (Builtin.SmallTypes.nextOf (.ref i2) >>= _) _ _ _
  refine Q00 (ZD h0 (iT (iT (iT h2 sa.extBut D.i2z) sb.extBut D.i12.symm) sc.extBut D.TOi2.symm) (o9 (o9 (o9 g2 sa.extBut D.l2z) sb.extBut D.l2i1) sc.extBut D.l2TO) hy λhd e sd he=>?_)
  obtain⟨oe,q1,q2⟩:=he
  have zd:IsZip hd z TI TO .ellipsis:=sd _ _ D.i2z.symm (sc.extBut _ _ D.TOz.symm (sb.extBut _ _ D.i1z.symm za))
  have ez:e≠z:=λv=>by subst v;rw[zd] at q1;cases q1;simp at q2
  exact wpAny_setField_rec zd (by simp) λhg _ sg=>hE hg e (λc o c1 c2 c3 c4 v=>sg.extBut _ _ c1 (sd _ _ c4 (sc.extBut _ _ c2 (sb.extBut _ _ c3 (sa.extBut _ _ c1 v))))) ⟨oe,sg.extBut _ _ ez q1,q2⟩
theorem ak5 {z TI TO i1 i2 l1 l2:Addr}{k:Nat}{xs ys:Array Value}{x y a b:Value}{Q:Option Value->Shared->Prop}(D:ZipApart z TI TO i1 i2 l1 l2)
 (hz:IsZip s.heap z TI TO .none) (hTI:IsPair s.heap TI (.ref i1) (.ref i2)) (hTO:IsPair s.heap TO a b)
 (h1:s.heap.IsTupleIter i1 l1 k) (h2:s.heap.IsTupleIter i2 l2 k) (g1:s.heap.IsTuple l1 xs) (g2:s.heap.IsTuple l2 ys) (hx:xs[k]? =some x) (hy:ys[k]? =some y)
 (hQ:∀h',IsZip h' z TI TO (rawInt s.heap.objs.size)->IsPair h' TO x y->h'.IsTupleIter i1 l1 (k+1)->h'.IsTupleIter i2 l2 (k+1)->IsPair h' s.heap.objs.size x y->
   (∀c o,c≠z->c≠TO->c≠i1->c≠i2->s.heap.get? c=some o->h'.get? c=some o)->Q (some (.ref s.heap.objs.size)) { s with heap:=h' }):
 wpAny (model prog w) A (pyNext (.ref z)) Q E s:=by
 have hT:s.TypeIs (.ref z) "zip":=⟨_,hz,rfl⟩
 unfold pyNext
 exact Q00 (wpAny_attempt (wpAny_callSpecial?_slot (name:=Str.ofString "__next__") hT F.slot_zip_next (wpAny_call_entry F.slot_zip_next hT F.entry_zip_next (ak3 D hz hTI hTO h1 h2 g1 g2 hx hy λh' a1 a2 a3 a4 a5 a6=>Q03 (hQ h' a1 a2 a3 a4 a5 a6)) (F.args_zip_next_1 _))))
theorem ak6 {z TI TO i1 i2 l1 l2:Addr}{k:Nat}{xs ys:Array Value}{a b:Value}{Q:Option Value->Shared->Prop}(h0:A.handled=none)(D:ZipApart z TI TO i1 i2 l1 l2)
 (hz:IsZip s.heap z TI TO .none) (hTI:IsPair s.heap TI (.ref i1) (.ref i2)) (hTO:IsPair s.heap TO a b)
 (h1:s.heap.IsTupleIter i1 l1 k) (h2:s.heap.IsTupleIter i2 l2 k) (g1:s.heap.IsTuple l1 xs) (g2:s.heap.IsTuple l2 ys) (hend:xs[k]? =none\/ys[k]? =none)
 (hQ:∀h',(∀c o,c≠z->c≠TO->c≠i1->c≠i2->s.heap.get? c=some o->h'.get? c=some o)->Q none { s with heap:=h' }):wpAny (model prog w) A (pyNext (.ref z)) Q E s:=by
 have hT:s.TypeIs (.ref z) "zip":=⟨_,hz,rfl⟩
 unfold pyNext
 refine Q00 (wpAny_attempt (wpAny_callSpecial?_slot (name:=Str.ofString "__next__") hT F.slot_zip_next (wpAny_call_entry F.slot_zip_next hT F.entry_zip_next (ak4 h0 D hz hTI hTO h1 h2 g1 g2 hend λh' e hk he=>?_) (F.args_zip_next_1 _))))
 obtain⟨o,ho,hc⟩:=he
 exact Q00 (wpAny_isInstance (T:="StopIteration") (b:=true) ⟨o,ho,hc⟩ isSubtype_stop (Q03 (hQ _ hk)))
noncomputable abbrev DG (h:Heap) (l1:Addr):Heap:=h.push { cls:=.type "tuple_iterator",data:=.fields #[.ref l1,.int 0 0] }
noncomputable abbrev DN (h:Heap) (l1 l2:Addr):Heap:=(DG h l1).push { cls:=.type "tuple_iterator",data:=.fields #[.ref l2,.int 0 0] }
noncomputable abbrev DP (h:Heap) (l1 l2:Addr):Heap:=(DN h l1 l2).push { cls:=.type "tuple",data:=.seq #[.ref h.objs.size,.ref (DG h l1).objs.size] }
noncomputable abbrev DQ (h:Heap) (l1 l2:Addr):Heap:=(DP h l1 l2).push { cls:=.type "tuple",data:=.seq #[.none,.none] }
noncomputable abbrev vC (h:Heap) (l1 l2:Addr):Heap:=(DQ h l1 l2).push { cls:=.type "zip",data:=.fields #[.none,.bool false,.bool false,.ref (DN h l1 l2).objs.size,.ref (DP h l1 l2).objs.size] }
theorem ak7 (l1 l2:Addr)(xs ys:Array Value):Meets (Builtin.«zip.__new__» ⟨[.type "zip",.ref l1,.ref l2],[]⟩) (λ_ R s=>s.heap.IsTuple l1 xs/\s.heap.IsTuple l2 ys/\R (.ok (.ret (.ref (DQ s.heap l1 l2).objs.size))) { s with heap:=vC s.heap l1 l2 }):=
 .of_wp λprog w A R s h=>by
   obtain⟨hp,g,d,tk,os⟩:=s;obtain⟨t1,t2,h⟩:=h;have hsub:=sub_zip
   have L1:Heap.IsTuple (Shared.heap ⟨hp,g,d,tk,os⟩) l1 xs:=t1
   have L2:Heap.IsTuple (Shared.heap ⟨hp.push { cls:=.type "tuple_iterator",data:=.fields #[.ref l1,.int 0 0] },g,d,tk,os⟩) l2 ys:=let⟨o,ho,r⟩:=t2;⟨o,Q04 _ ho,r⟩
   wp_walk using wpAny_pyIter_tuple L1,wpAny_pyIter_tuple L2
   exact⟨_,rfl,h⟩
theorem ak8 {l1 l2:Addr}{xs ys:Array Value}{Q:Value->Shared->Prop}(t1:s.heap.IsTuple l1 xs)(t2:s.heap.IsTuple l2 ys)
 (h:∀h',IsZip h' (s.heap.objs.size+4) (s.heap.objs.size+2) (s.heap.objs.size+3) .none->IsPair h' (s.heap.objs.size+2) (.ref s.heap.objs.size) (.ref (s.heap.objs.size+1))->
   IsPair h' (s.heap.objs.size+3) .none .none->h'.IsTupleIter s.heap.objs.size l1 0->h'.IsTupleIter (s.heap.objs.size+1) l2 0->
   (∀c o,s.heap.get? c=some o->h'.get? c=some o)->Q (.ref (s.heap.objs.size+4)) { s with heap:=h' }):
 wpAny (model prog w) A (call (.type "zip") [.ref l1,.ref l2]) Q E s:=by
 refine callType_new F.called_zip (by decide) (F.typeCall_zip_2 _ _) (F.newCall_zip_2 _ _) (λobj=>F.args_object_init_3 obj _ _) F.entry_zip_new (ak7 l1 l2 xs ys) ⟨t1,t2,?_⟩
 have z1:(DG s.heap l1).objs.size=s.heap.objs.size+1:=Q0w ..
 have z2:(DN s.heap l1 l2).objs.size=s.heap.objs.size+2:=by rw[Q0w,z1]
 have z3:(DP s.heap l1 l2).objs.size=s.heap.objs.size+3:=by rw[Q0w,z2]
 have z4:(DQ s.heap l1 l2).objs.size=s.heap.objs.size+4:=by rw[Q0w,z3]
 have q5:(vC s.heap l1 l2).get? (DQ s.heap l1 l2).objs.size=some _:=Q0d _ rfl
 have q4:(vC s.heap l1 l2).get? (DP s.heap l1 l2).objs.size=some _:=Q04 _ (Q0d _ rfl)
 have q3:(vC s.heap l1 l2).get? (DN s.heap l1 l2).objs.size=some _:=Q04 _ (Q04 _ (Q0d _ rfl))
 have q2:(vC s.heap l1 l2).get? (DG s.heap l1).objs.size=some _:=Q04 _ (Q04 _ (Q04 _ (Q0d _ rfl)))
 have q1:(vC s.heap l1 l2).get? s.heap.objs.size=some _:=Q04 _ (Q04 _ (Q04 _ (Q04 _ (Q0d _ rfl))))
 show _/\_
 rw[z2,z3,z4] at q5;rw[z1,z2] at q3;rw[z3] at q4;rw[z1] at q2;rw[z4]
 exact⟨⟨_,q5,rfl⟩,h _ q5 q3 q4 ⟨_,q1,rfl,rfl⟩ ⟨_,q2,rfl,rfl⟩ λc o v=>Q04 _ (Q04 _ (Q04 _ (Q04 _ (Q04 _ v))))⟩
end
noncomputable def ab7 (K:W.Frag) (a b:Addr):It:=
 ⟨λi H=>∃xs ys x y,aH K H a xs/\aH K H b ys/\xs[i]? =some x/\ys[i]? =some y,
  λi H v H'=>∃p x y,H p=none/\v=.ref p/\(∀xs,aH K H a xs->xs[i]? =some x)/\(∀ys,aH K H b ys->ys[i]? =some y)/\H'=upd H p (.tup [x,y]),
  λi H=>∃xs ys,aH K H a xs/\aH K H b ys/\(xs.length<=i\/ys.length<=i)⟩
theorem ak9 {P:Program}{w:World}{K:W.Frag}{elts:List Expr}{k:Nat}{tpos:Pos}{z TI TO i1 i2 l1 l2:Addr}(D:ZipApart z TI TO i1 i2 l1 l2):
 Turn P w K (.Tuple elts k tpos) (ab7 K l1 l2) [z,TI,TO,i1,i2] z (λi h=>∃oa ob,IsZip h z TI TO .none/\IsPair h TI (.ref i1) (.ref i2)/\IsPair h TO oa ob/\h.IsTupleIter i1 l1 i/\h.IsTupleIter i2 l2 i) where
 mem:=by simp
 obj:=λi h st b hb=>by
  obtain⟨oa,ob,h1,h2,h3,h4,h5⟩:=st
  have hb:b=z\/b=TI\/b=TO\/b=i1\/b=i2:=by simpa using hb
  rcases hb with rfl|rfl|rfl|rfl|rfl
  . exact⟨_,h1,λv y=>by
     have y:Data.fields _=Data.cell v:=y
     cases y⟩
  . exact⟨_,h2,λv y=>by
     have y:Data.seq _ _=Data.cell v:=y
     cases y⟩
  . exact⟨_,h3,λv y=>by
     have y:Data.seq _ _=Data.cell v:=y
     cases y⟩
  . obtain⟨o,q,c,d⟩:=h4
    exact⟨o,q,λv y=>by rw[d] at y;cases y⟩
  . obtain⟨o,q,c,d⟩:=h5
    exact⟨o,q,λv y=>by rw[d] at y;cases y⟩
 keep:=λi h h' st k=>by
  obtain⟨oa,ob,h1,h2,h3,h4,h5⟩:=st
  exact⟨oa,ob,k z (by simp) _ h1,k TI (by simp) _ h2,k TO (by simp) _ h3,(let⟨o,ho,r⟩:=h4;⟨o,k i1 (by simp) o ho,r⟩),(let⟨o,ho,r⟩:=h5;⟨o,k i2 (by simp) o ho,r⟩)⟩
 item:=by
  intro X hP hw hK hc i pins s σ H E I hf st hg
  subst hP hw hK
  obtain⟨oa,ob,h1,h2,h3,h4,h5⟩:=st
  obtain⟨xs,ys,x,y,hq1,hq2,hx,hy⟩:=hg
  obtain⟨wU,ou,p1,hz1⟩:=I.tuple hq1
  obtain⟨its2,oA,p2,hz2⟩:=I.tuple hq2
  obtain⟨u1,hu1,rA⟩:=ou.get hx
  obtain⟨u2,hu2,rB⟩:=oA.get hy
  have fr:H s.heap.objs.size=none:=I.hok.fresh (Q01 _)
  refine ak5 D h1 h2 h3 h4 h5 p1 p2 (x:=u1) (y:=u2) (by simpa using hu1) (by simpa using hu2) λh' q1 q2 q3 q4 q5 q7=>?_
  refine⟨_,rfl,wpAny_letOwnedTupleGo_zip (s:={ s with heap:=h' }) q1 λh'' g1 g2=>?_⟩
  have Hx:∀b∈[z,TI,TO,i1,i2],b<s.heap.objs.size:=λb hb=>by
   have hb:b=z\/b=TI\/b=TO\/b=i1\/b=i2:=by simpa using hb
   rcases hb with rfl|rfl|rfl|rfl|rfl
   . exact Q02 h1
   . exact Q02 h2
   . exact Q02 h3
   . obtain⟨o,q,_⟩:=h4;exact Q02 q
   . obtain⟨o,q,_⟩:=h5;exact Q02 q
  have ne1:∀b o,s.heap.get? b=some o->b≠s.heap.objs.size:=λb o q=>Q09 (Q02 q)
  have kk:∀b o,b≠z->b≠TO->b≠i1->b≠i2->s.heap.get? b=some o->h''.get? b=some o:=λb o n1 n2 n3 n4 q=>g2.extBut b o n1 (q7 b o n1 n2 n3 n4 q)
  have kn:∀b o,b ∉ [z,TO,i1,i2]->s.heap.get? b=some o->h''.get? b=some o:=λb o n q=>kk b o (λy=>n (by simp[y])) (λy=>n (by simp[y])) (λy=>n (by simp[y])) (λy=>n (by simp[y])) q
  have tup:h''.get? s.heap.objs.size=some { cls:=.type "tuple",data:=.seq #[u1,u2] }:=g2.extBut _ _ (Q0n (Q02 h1)) q5
  have I1:Inv X pins σ (upd H s.heap.objs.size (.tup [x,y])) { s with heap:=h'' }:=by
   refine I.step (g':=s.gens) (d':=s.drawn) (t':=s.toks) (ch:=[z,TO,i1,i2]) (λb hb=>?_) (λb o _ _ hc q _=>kn b o hc q) (λb o _ _ hc q _=>⟨o.slots,kn b o hc q⟩) (λb o _ q n=>?_) (λb o hc q=>⟨o,kn b o hc q⟩) (λb ws q=>?_) (λb o v q=>?_) (λb ps q=>?_) (λm hm=>?_) (λb o q=>?_) I.bare
   . have hb':b∈[z,TI,TO,i1,i2]:=by
      have hb:b=z\/b=TO\/b=i1\/b=i2:=by simpa using hb
      rcases hb with rfl|rfl|rfl|rfl <;> simp
     obtain⟨f0,f1,f2,f3,f4,f5⟩:=hf b hb'
     exact⟨f3,f1,f4,f5⟩
   . rw[au (ne1 b o q)];exact n
   . rw[au (aN q fr)];exact q
   . rw[au (aN q fr)];exact q
   . exact⟨#[],by rw[au (aN q fr),q];simp⟩
   . obtain⟨o,es,ep,ho,r⟩:=hm
     exact⟨o,es,ep,kk _ o (Ne.symm (hf z (by simp)).2.1) (Ne.symm (hf TO (by simp)).2.1) (Ne.symm (hf i1 (by simp)).2.1) (Ne.symm (hf i2 (by simp)).2.1) ho,r⟩
   . by_cases hb:b=s.heap.objs.size
     . subst hb
       rw[aF] at q;cases q
       exact⟨dg,[u1,u2],.cons rA (.cons rB .nil),⟨_,tup,rfl,_,rfl⟩⟩
     . rw[au hb] at q
       have nn:∀c v,H c=some v->c ∉ [z,TO,i1,i2]:=λc v e hm=>by
        have hm':c∈[z,TI,TO,i1,i2]:=by
         have hm:c=z\/c=TO\/c=i1\/c=i2:=by simpa using hm
         rcases hm with rfl|rfl|rfl|rfl <;> simp
        have:=(hf c hm').1
        rw[e] at this;cases this
       refine(I.hok b o q).stay (λc v hc' y=>kn c v ?_ y) (λc y=>by rw[au (aN y fr)];exact y) λc ws y=>by rw[au (aN y fr)];exact y
       rcases hc' with y|y
       . rw[y];exact nn b o q
       . exact nn c _ y
  refine⟨.ref s.heap.objs.size,_,I1,rfl,⟨s.heap.objs.size,x,y,fr,rfl,λws hw=>by rw[I.Ge hw hq1];exact hx,λws hw=>by rw[I.Ge hw hq2];exact hy,rfl⟩,⟨u1,u2,g1,?_,?_,?_,?_⟩,λb hb=>?_⟩
  . exact kk TI _ D.TIz D.TITO D.TIi1 D.TIi2 h2
  . exact g2.extBut _ _ D.TOz q2
  . exact iT q3 g2.extBut D.i1z
  . exact iT q4 g2.extBut D.i2z
  . rw[au (Q09 (Hx b hb))]
    exact(hf b hb).1
 done:=by
  intro X hP hw hK hc i pins s σ H E I hf st hg
  subst hP hw hK
  obtain⟨oa,ob,h1,h2,h3,h4,h5⟩:=st
  obtain⟨xs,ys,hq1,hq2,hend⟩:=hg
  obtain⟨wU,ou,p1,hz1⟩:=I.tuple hq1
  obtain⟨its2,oA,p2,hz2⟩:=I.tuple hq2
  have e1:=ou.length
  have e2:=oA.length
  refine ak6 (I.ok.hd hc) D h1 h2 h3 h4 h5 p1 p2 (by
   rcases hend with q|q
   . exact .inl (by simp;omega)
   . exact .inr (by simp;omega)) λh' hk=>⟨rfl,?_⟩
  refine I.step (g':=s.gens) (d':=s.drawn) (t':=s.toks) (ch:=[z,TO,i1,i2]) (λb hb=>?_) (λb o _ _ hc q _=>?_) (λb o _ _ hc q _=>?_) (λb o _ q n=>n) (λb o hc q=>?_) (λb ys q=>q) (λb o v q=>q) (λb ps q=>⟨#[],by rw[q];simp⟩) (λm hm=>?_) (λb o q=>?_) I.bare
  . have hb':b∈[z,TI,TO,i1,i2]:=by
     have hb:b=z\/b=TO\/b=i1\/b=i2:=by simpa using hb
     rcases hb with rfl|rfl|rfl|rfl <;> simp
    obtain⟨f0,f1,f2,f3,f4,f5⟩:=hf b hb'
    exact⟨f3,f1,f4,f5⟩
  . exact hk b o (λy=>hc (by simp[y])) (λy=>hc (by simp[y])) (λy=>hc (by simp[y])) (λy=>hc (by simp[y])) q
  . exact⟨o.slots,hk b o (λy=>hc (by simp[y])) (λy=>hc (by simp[y])) (λy=>hc (by simp[y])) (λy=>hc (by simp[y])) q⟩
  . exact⟨o,hk b o (λy=>hc (by simp[y])) (λy=>hc (by simp[y])) (λy=>hc (by simp[y])) (λy=>hc (by simp[y])) q⟩
  . obtain⟨o,es,ep,ho,r⟩:=hm
    exact⟨o,es,ep,hk _ o (Ne.symm (hf z (by simp)).2.1) (Ne.symm (hf TO (by simp)).2.1) (Ne.symm (hf i1 (by simp)).2.1) (Ne.symm (hf i2 (by simp)).2.1) ho,r⟩
  . have nn:∀c v,H c=some v->∀y∈[z,TI,TO,i1,i2],c≠y:=λc v e y hy=>aN e (hf y hy).1
    refine(I.hok b o q).stay (λc v hc' y=>hk c v ?_ ?_ ?_ ?_ y) (λ_ y=>y) λ_ _ y=>y <;> (rcases hc' with y|y)
    all_goals first
     |(rw[y];exact nn b o q _ (by simp))
     |exact nn c _ y _ (by simp)
 self:=λA i s Q E st q=>by
  obtain⟨oa,ob,h1,_⟩:=st
  exact wpAny_pyIter_zip h1 q
noncomputable def ak_ (K:W.Frag) (ta:TA):TI:=λσ H R=>ta σ H λvs H1=>∃a b,vs=[.ref a,.ref b]/\(∃xs,aH K H1 a xs)/\(∃ys,aH K H1 b ys)/\R (ab7 K a b) H1
section
variable {X:Cx}
theorem ala {elts:List Expr}{k:Nat}{tpos:Pos}{a b:Expr}{ta:TA}{p pos:Pos}(hg:Gl X "zip")(hm:X.mg "zip"=none)(ha:PA X [a,b] ta)(hs:starEach [a,b] X.env=[(false,eval a X.env),(false,eval b X.env)]:=by rfl)
 (hs2:starEach [b] X.env=[(false,eval b X.env)]:=by rfl):PI X (.Tuple elts k tpos) (.Call (.Name "zip" p) [a,b] [] pos) (ak_ X.K ta):=by
 intro pins s σ H R I h
 refine Call_ (k_ I hg hm boot_zip (PyProof.Rows.callWith_type1 (aM (ha pos pins s σ H _ I h) λus s1 ⟨vs,H1,I1,r1,q1⟩=>?_) (by rw[hs,hs2]) (by rw[hs2];rfl)))
 obtain⟨l1,l2,e,⟨xs,hq1⟩,⟨ys,hq2⟩,q⟩:=q1
 subst e
 obtain⟨u1,u2,rfl,rA,rB⟩:=vals2 r1
 cases rA
 cases rB
 obtain⟨wU,ou,p1,hz1⟩:=I1.tuple hq1
 obtain⟨its2,oA,p2,hz2⟩:=I1.tuple hq2
 have a1:l1<s1.heap.objs.size:=by obtain⟨_,e,_⟩:=p1;exact Q02 e
 have a2:l2<s1.heap.objs.size:=by obtain⟨_,e,_⟩:=p2;exact Q02 e
 refine ak8 p1 p2 λh' q1 q2 q3 q4 q5 q7=>?_
 refine wpAny_pyIter_zip q1 ?_
 have I2:Inv X pins σ H1 { s1 with heap:=h' }:=I1.kept (t':=s1.toks) q7
 have Dz:ZipApart (s1.heap.objs.size+4) (s1.heap.objs.size+2) (s1.heap.objs.size+3) s1.heap.objs.size (s1.heap.objs.size+1) l1 l2:=by
  have b1:@LT.lt Nat _ l1 s1.heap.objs.size:=a1
  have b2:@LT.lt Nat _ l2 s1.heap.objs.size:=a2
  constructor <;> (intro z;have z':(_:Nat)=_:=z;omega)
 refine⟨s1.heap.objs.size+4,[s1.heap.objs.size+4,s1.heap.objs.size+2,s1.heap.objs.size+3,s1.heap.objs.size,s1.heap.objs.size+1],_,_,H1,rfl,I2,ak9 Dz,⟨.none,.none,q1,q2,q3,q4,q5⟩,λb hb=>?_,q⟩
 have hb:s1.heap.objs.size<=b:=by
  have hb:b=s1.heap.objs.size+4\/b=s1.heap.objs.size+2\/b=s1.heap.objs.size+3\/b=s1.heap.objs.size\/b=s1.heap.objs.size+1:=by simpa using hb
  rcases hb with z|z|z|z|z <;> rw[z]
  . exact Q14 _ _
  . exact Q14 _ _
  . exact Q14 _ _
  . exact Q01 _
  . exact Q14 _ _
 exact I1.mq hb (I1.hok.fresh hb)
end
end L2
namespace Pb
open PySem L2 PyProof.Rows
noncomputable def qz (a b:V):Prop:=(∃z,a=.int z/\b=.int z)\/∃z,a=.str z/\b=.str z
noncomputable def Sm (H:Hp):Nat->V->V->Prop
 |0,a,b=>qz a b
 |n+1,a,b=>qz a b\/(∃p q xs ys,a=.ref p/\b=.ref q/\H p=some (.tup xs)/\H q=some (.tup ys)/\xs.length=ys.length/\xs.length<=60/\∀(i:Nat) x y,xs[i]? =some x->ys[i]? =some y->Sm H n x y)\/
  (∃p q xs ys,a=.ref p/\b=.ref q/\H p=some (.lst xs)/\H q=some (.lst ys)/\xs.length=ys.length/\xs.length<=60/\∀(i:Nat) x y,xs[i]? =some x->ys[i]? =some y->Sm H n x y)\/
  ∃p q l l',∃f:Str->V,a=.ref p/\b=.ref q/\p≠q/\H p=some (.dK (aK f l'))/\H q=some (.dK (aK f l))/\l.length<=12/\l'.length=l.length/\∀x∈l,x∈l'/\qz (f x) (f x)
theorem Sm.zero {H:Hp}{a b:V}(h:qz a b):∀n,Sm H n a b
 |0=>h
 |_+1=>.inl h
theorem Sm.same {H H':Hp}(k:Same H H'):∀{n:Nat}{v u:V},Sm H n v u->Sm H' n v u
 |0,_,_,h=>h
 |n+1,_,_,.inl h=>.inl h
 |n+1,_,_,.inr (.inl ⟨a,b,xs,ys,e1,e2,h1,h2,h3,h4,h5⟩)=>.inr (.inl ⟨a,b,xs,ys,e1,e2,k _ _ h1,k _ _ h2,h3,h4,λi x y hx hy=>(h5 i x y hx hy).same k⟩)
 |n+1,_,_,.inr (.inr (.inl ⟨a,b,xs,ys,e1,e2,h1,h2,h3,h4,h5⟩))=>.inr (.inr (.inl ⟨a,b,xs,ys,e1,e2,k _ _ h1,k _ _ h2,h3,h4,λi x y hx hy=>(h5 i x y hx hy).same k⟩))
 |n+1,_,_,.inr (.inr (.inr ⟨p,q,l,l',f,e1,e2,e3,h1,h2,h⟩))=>.inr (.inr (.inr ⟨p,q,l,l',f,e1,e2,e3,k _ _ h1,k _ _ h2,h⟩))
noncomputable def qC (n:Nat):Sp:=λvs H Q _=>∃v u,vs=[v,u]/\Sm H n v u/\∀H',Same H H'->Q (.bl true) H'
variable {P:Program}{w:World}{K:W.Frag}{mg:Str->Option Value}{base:Heap}
theorem DR:bA ["_law_found","_law_due"] ["_law_found","_law_due"] (aL (top 75)):=by refine⟨rfl,rfl,rfl,?_,rfl,?_,?_⟩ <;> decide+kernel
theorem ab8 (T:Tb mg)(dU:Dn K mg "_law_same" jh (top 75) jK jL):aq P w K mg base aB (1) jK jL jh (qC 0):=by
 refine dU.F.ok DR (λvs H Q E h=>?_) (λcdv A outer s H vs Q E hr h=>?_)
 . obtain⟨v,u,rfl,_⟩:=h
   rfl
 obtain⟨v,u,rfl,hs,q⟩:=h
 have nd:=DR.nd
 refine⟨_,(ao (aW (dF (aY cH (by rfl) T.cC boot_isinstance (aj (pv 1) (aj (cD (v:=.ty "dict") rfl T.jf boot_dict rfl) ak)))) (ao aO
  (aD aO)) aX)
  (ao (aW (PW.pt (jU (dF (aY cH (by rfl) T.cC boot_isinstance (aj (pv 1) (aj (cD (v:=.ty "list") rfl T.lH boot_list rfl) ak)))) (jT (dF (aY cH (by rfl) T.cC boot_isinstance (aj (pv 1) (aj (cD (v:=.ty "tuple") rfl T.mQ boot_tuple rfl) ak))))))) (ao aO
  (aD aO)) aX)
  (ao (aW (dF (aY cH (by rfl) T.cC boot_isinstance (aj (pv 1) (aj (cD (v:=.ty "str") rfl T.ud boot_str rfl) ak)))) (aD (aP (lu (aY cH (by rfl) T.cC boot_isinstance (aj (pv 0) (aj (cD (v:=.ty "str") rfl T.ud boot_str rfl) ak))) (mj (lC bF (pv 0) (pv 1) (aQ _)))))) aX)
  (aD (aP (lu (aY cH (by rfl) T.cC boot_isinstance (aj (pv 0) (aj (cD (v:=.ty "int") rfl T.xM boot_int rfl) ak))) (lu (Xj (aY cH (by rfl) T.cC boot_isinstance (aj (pv 0) (aj (cD (v:=.ty "bool") rfl T.Bm boot_bool rfl) ak)))) (mj (lC bF (pv 0) (pv 1) (aQ _)))))))))),?_⟩
 rcases hs with⟨i,rfl,rfl⟩|⟨x,rfl,rfl⟩
 . refine⟨_,rfl,_,_,_,false,rfl,.int i,rfl,false,rfl,bH ?_⟩
   refine⟨_,rfl,_,_,_,false,rfl,.int i,rfl,false,rfl,bH ?_⟩
   refine⟨_,rfl,_,_,_,false,rfl,.int i,rfl,false,rfl,bH ?_⟩
   refine⟨_,rfl,_,_,_,false,rfl,.int i,rfl,false,rfl,bH ?_⟩
   refine⟨_,rfl,_,_,_,true,rfl,.int i,rfl,true,rfl,bZ ?_⟩
   refine⟨_,rfl,_,_,_,false,rfl,.int i,rfl,false,rfl,true,rfl,bZ ?_⟩
   refine⟨_,rfl,_,rfl,rfl,?_⟩
   rw[decide_eq_true rfl]
   exact q _ (Same.refl _)
 . refine⟨_,rfl,_,_,_,false,rfl,.str x,rfl,false,rfl,bH ?_⟩
   refine⟨_,rfl,_,_,_,false,rfl,.str x,rfl,false,rfl,bH ?_⟩
   refine⟨_,rfl,_,_,_,false,rfl,.str x,rfl,false,rfl,bH ?_⟩
   refine⟨_,rfl,_,_,_,true,rfl,.str x,rfl,true,rfl,bZ ?_⟩
   refine⟨_,rfl,_,_,_,true,rfl,.str x,rfl,true,rfl,bZ ?_⟩
   refine⟨_,rfl,_,rfl,rfl,?_⟩
   rw[decide_eq_true rfl]
   exact q _ (Same.refl _)
theorem alb (n:Nat)(T:Tb mg)(dU:Dn K mg "_law_same" jh (top 75) jK jL)(G0_:aq P w K mg base aB (1) jK jL jh (qC 0))(iU:aq P w K mg base aB (n+1) jK jL jh (qC n)):aq P w K mg base aB ((n+1)+1) jK jL jh (qC (n+1)):=by
 refine dU.F.ok DR (λvs H Q E h=>?_) (λcdv A outer s H vs Q E hr h=>?_)
 . obtain⟨v,u,rfl,_⟩:=h
   rfl
 obtain⟨v,u,rfl,hs,q⟩:=h
 have nd:=DR.nd
 have hu:=fY hr
 rcases hs with hs|⟨a,b,xs,ys,rfl,rfl,ha,hb,hl,Bl,hs⟩|⟨a,b,xs,ys,rfl,rfl,ha,hb,hl,Bl,hs⟩|⟨a,b,l,l',f,rfl,rfl,hne,ha,hb,hl,hll,hs⟩
 . refine⟨_,(ao (aW (dF (aY cH (by rfl) T.cC boot_isinstance (aj (pv 1) (aj (cD (v:=.ty "dict") rfl T.jf boot_dict rfl) ak)))) (ao aO
   (aD aO)) aX)
   (ao (aW (PW.pt (jU (dF (aY cH (by rfl) T.cC boot_isinstance (aj (pv 1) (aj (cD (v:=.ty "list") rfl T.lH boot_list rfl) ak)))) (jT (dF (aY cH (by rfl) T.cC boot_isinstance (aj (pv 1) (aj (cD (v:=.ty "tuple") rfl T.mQ boot_tuple rfl) ak))))))) (ao aO
   (aD aO)) aX)
   (ao (aW (dF (aY cH (by rfl) T.cC boot_isinstance (aj (pv 1) (aj (cD (v:=.ty "str") rfl T.ud boot_str rfl) ak)))) (aD (aP (lu (aY cH (by rfl) T.cC boot_isinstance (aj (pv 0) (aj (cD (v:=.ty "str") rfl T.ud boot_str rfl) ak))) (mj (lC bF (pv 0) (pv 1) (aQ _)))))) aX)
   (aD (aP (lu (aY cH (by rfl) T.cC boot_isinstance (aj (pv 0) (aj (cD (v:=.ty "int") rfl T.xM boot_int rfl) ak))) (lu (Xj (aY cH (by rfl) T.cC boot_isinstance (aj (pv 0) (aj (cD (v:=.ty "bool") rfl T.Bm boot_bool rfl) ak)))) (mj (lC bF (pv 0) (pv 1) (aQ _)))))))))),?_⟩
   rcases hs with⟨i,rfl,rfl⟩|⟨x,rfl,rfl⟩
   . refine⟨_,rfl,_,_,_,false,rfl,.int i,rfl,false,rfl,bH ?_⟩
     refine⟨_,rfl,_,_,_,false,rfl,.int i,rfl,false,rfl,bH ?_⟩
     refine⟨_,rfl,_,_,_,false,rfl,.int i,rfl,false,rfl,bH ?_⟩
     refine⟨_,rfl,_,_,_,false,rfl,.int i,rfl,false,rfl,bH ?_⟩
     refine⟨_,rfl,_,_,_,true,rfl,.int i,rfl,true,rfl,bZ ?_⟩
     refine⟨_,rfl,_,_,_,false,rfl,.int i,rfl,false,rfl,true,rfl,bZ ?_⟩
     refine⟨_,rfl,_,rfl,rfl,?_⟩
     rw[decide_eq_true rfl]
     exact q _ (Same.refl _)
   . refine⟨_,rfl,_,_,_,false,rfl,.str x,rfl,false,rfl,bH ?_⟩
     refine⟨_,rfl,_,_,_,false,rfl,.str x,rfl,false,rfl,bH ?_⟩
     refine⟨_,rfl,_,_,_,false,rfl,.str x,rfl,false,rfl,bH ?_⟩
     refine⟨_,rfl,_,_,_,true,rfl,.str x,rfl,true,rfl,bZ ?_⟩
     refine⟨_,rfl,_,_,_,true,rfl,.str x,rfl,true,rfl,bZ ?_⟩
     refine⟨_,rfl,_,rfl,rfl,?_⟩
     rw[decide_eq_true rfl]
     exact q _ (Same.refl _)
 . refine⟨_,(ao (aW (dF (aY cH (by rfl) T.cC boot_isinstance (aj (pv 1) (aj (cD (v:=.ty "dict") rfl T.jf boot_dict rfl) ak)))) (ao aO
   (aD aO)) aX)
   (ao (aW (PW.pt (jU (dF (aY cH (by rfl) T.cC boot_isinstance (aj (pv 1) (aj (cD (v:=.ty "list") rfl T.lH boot_list rfl) ak)))) (jT (dF (aY cH (by rfl) T.cC boot_isinstance (aj (pv 1) (aj (cD (v:=.ty "tuple") rfl T.mQ boot_tuple rfl) ak))))))) (ao (aW (PW.pt (jU (aV pQ (aY cH (by rfl) T.cC boot_isinstance (aj (pv 0) (aj (cD (v:=.ty "list") rfl T.lH boot_list rfl) ak))) (aY cH (by rfl) T.cC boot_isinstance (aj (pv 1) (aj (cD (v:=.ty "list") rfl T.lH boot_list rfl) ak))) (aQ _)) (jT (aV pQ (aY cH (by rfl) T.cC boot_isinstance (aj (pv 0) (aj (cD (v:=.ty "tuple") rfl T.mQ boot_tuple rfl) ak))) (aY cH (by rfl) T.cC boot_isinstance (aj (pv 1) (aj (cD (v:=.ty "tuple") rfl T.mQ boot_tuple rfl) ak))) (aQ _))))) (aD (aP pJ)) aX)
   (aD (aP (lu (lC bF (aY d8 (by rfl) T.dG PySem.boot_len (aj (pv 0) ak)) (aY d8 (by rfl) T.dG PySem.boot_len (aj (pv 1) ak)) (aQ _)) (mj (aY (wM rfl) (by rfl) T.xK boot_all (aj (g8 (g:=(qR K 2 (jr (cF 0) (jr (cF 1) qQ)))) (tt:=fZ) (te:=(pU _ _ _ (cA (bC 0) (cA (bC 1) fX)))) (own:=["_law_a","_law_b"]) rfl (dw.of (N:=["_law_found","_law_due"]) (sc:=aL (top 75)) rfl rfl rfl (by decide+kernel)) (ala rfl T.aae (aj (pv 0) (aj (pv 1) ak))) (λ_ _ _ _ _=>(fV rfl (cB (bG (i:=0) (show(["_law_a","_law_b","_law_found","_law_due"]:List Str).Nodup by decide+kernel) rfl (Or.inl rfl) (.inr rfl)) (cB (bG (i:=1) (show(["_law_a","_law_b","_law_found","_law_due"]:List Str).Nodup by decide+kernel) rfl (Or.inl rfl) (.inr rfl)) fU)))) (λ_ _ _ _ _=>iG) (λ_ _ _ _ _=>(aR iU (hr.mono (by omega)) dU (aj (pv 0) (aj (pv 1) ak))))) ak))))))) aX)
   (ao aO
   (aD aO)))),?_⟩
   refine⟨_,rfl,_,_,_,false,rfl,.tup hb,rfl,false,rfl,bH ?_⟩
   refine⟨_,rfl,_,_,_,false,rfl,.tup hb,rfl,false,rfl,bH ?_⟩
   refine⟨_,rfl,_,_,_,true,rfl,.tup hb,rfl,true,rfl,bZ ?_⟩
   refine⟨_,rfl,_,_,_,false,rfl,.tup ha,rfl,_,rfl,_,_,_,false,rfl,.tup hb,rfl,rfl,_,rfl,bH ?_⟩
   refine⟨_,rfl,_,_,_,true,rfl,.tup ha,rfl,_,rfl,_,_,_,true,rfl,.tup hb,rfl,rfl,_,rfl,bH ?_⟩
   refine⟨_,rfl,a,_,rfl,.inr (aH.of ha),_,rfl,b,_,rfl,.inr (aH.of hb),rfl,_,rfl,?_⟩
   refine dM (λ_=>?_) (λc=>absurd (decide_eq_true (show V.int (xs.length:Nat)=V.int (ys.length:Nat) by rw[hl])) c)
   refine⟨_,rfl,_,rfl,a,b,rfl,⟨_,aH.of ha⟩,⟨_,aH.of hb⟩,λi m zs H'=>m=xs.length - i/\i<=xs.length/\zs=(List.replicate i true).map V.bl/\Same H H',⟨xs.length,rfl,Q0b _,rfl,Same.refl _⟩,?_⟩
   rintro i m zs H' ⟨rfl,hi0,rfl,s2⟩
   by_cases hi:i<xs.length
   . have hi2:i<ys.length:=by omega
     refine .inr ⟨⟨xs,ys,xs[i],ys[i],aH.of (s2 _ _ ha),aH.of (s2 _ _ hb),Q05 hi,Q05 hi2⟩,by rw[Q06,Q17];exact Q19 hi0 (Q19 Bl (by decide)),λx gW y=>?_⟩
     obtain⟨p,x1,x2,hp,rfl,e1,e2,rfl⟩:=y
     have e1:=e1 _ (aH.of (s2 _ _ ha))
     have e2:=e2 _ (aH.of (s2 _ _ hb))
     have sa:=s2.trans (Same.new hp (o:=.tup [x1,x2]))
     refine⟨p,_,rfl,aH.of aF,rfl,_,_,rfl,_,_,rfl,rfl,rfl,L2.yes (bZ ?_)⟩
     refine⟨_,rfl,_,rfl,x1,x2,rfl,(hs i x1 x2 e1 e2).same sa,λH3 s4=>?_⟩
     refine⟨xs.length - (i+1),by omega,rfl,hi,?_,sa.trans s4⟩
     rw[List.replicate_succ',Q0k]
     rfl
   . refine .inl ⟨⟨xs,ys,aH.of (s2 _ _ ha),aH.of (s2 _ _ hb),.inl (Q1 hi)⟩,λp hp=>⟨p,List.replicate i true,rfl,aC.of aF,?_⟩⟩
     rw[xZ]
     exact q _ (s2.trans (Same.new hp))
 . refine⟨_,(ao (aW (dF (aY cH (by rfl) T.cC boot_isinstance (aj (pv 1) (aj (cD (v:=.ty "dict") rfl T.jf boot_dict rfl) ak)))) (ao aO
   (aD aO)) aX)
   (ao (aW (PW.pt (jU (dF (aY cH (by rfl) T.cC boot_isinstance (aj (pv 1) (aj (cD (v:=.ty "list") rfl T.lH boot_list rfl) ak)))) (jT (dF (aY cH (by rfl) T.cC boot_isinstance (aj (pv 1) (aj (cD (v:=.ty "tuple") rfl T.mQ boot_tuple rfl) ak))))))) (ao (aW (PW.pt (jU (aV pQ (aY cH (by rfl) T.cC boot_isinstance (aj (pv 0) (aj (cD (v:=.ty "list") rfl T.lH boot_list rfl) ak))) (aY cH (by rfl) T.cC boot_isinstance (aj (pv 1) (aj (cD (v:=.ty "list") rfl T.lH boot_list rfl) ak))) (aQ _)) (jT (aV pQ (aY cH (by rfl) T.cC boot_isinstance (aj (pv 0) (aj (cD (v:=.ty "tuple") rfl T.mQ boot_tuple rfl) ak))) (aY cH (by rfl) T.cC boot_isinstance (aj (pv 1) (aj (cD (v:=.ty "tuple") rfl T.mQ boot_tuple rfl) ak))) (aQ _))))) (aD (aP pJ)) aX)
   (aD (aP (lu (lC bF (aY d8 (by rfl) T.dG PySem.boot_len (aj (pv 0) ak)) (aY d8 (by rfl) T.dG PySem.boot_len (aj (pv 1) ak)) (aQ _)) (mj (aY (wM rfl) (by rfl) T.xK boot_all (aj (g8 (g:=(qR K 2 (jr (cF 0) (jr (cF 1) qQ)))) (tt:=fZ) (te:=(pU _ _ _ (cA (bC 0) (cA (bC 1) fX)))) (own:=["_law_a","_law_b"]) rfl (dw.of (N:=["_law_found","_law_due"]) (sc:=aL (top 75)) rfl rfl rfl (by decide+kernel)) (agN rfl T.aae (aj (pv 0) (aj (pv 1) ak))) (λ_ _ _ _ _=>(fV rfl (cB (bG (i:=0) (show(["_law_a","_law_b","_law_found","_law_due"]:List Str).Nodup by decide+kernel) rfl (Or.inl rfl) (.inr rfl)) (cB (bG (i:=1) (show(["_law_a","_law_b","_law_found","_law_due"]:List Str).Nodup by decide+kernel) rfl (Or.inl rfl) (.inr rfl)) fU)))) (λ_ _ _ _ _=>iG) (λ_ _ _ _ _=>(aR iU (hr.mono (by omega)) dU (aj (pv 0) (aj (pv 1) ak))))) ak))))))) aX)
   (ao aO
   (aD aO)))),?_⟩
   refine⟨_,rfl,_,_,_,false,rfl,.lst hb,rfl,false,rfl,bH ?_⟩
   refine⟨_,rfl,_,_,_,true,rfl,.lst hb,rfl,true,rfl,bZ ?_⟩
   refine⟨_,rfl,_,_,_,true,rfl,.lst ha,rfl,_,rfl,_,_,_,true,rfl,.lst hb,rfl,rfl,_,rfl,bH ?_⟩
   refine⟨_,rfl,_,_,_,false,rfl,.lst ha,rfl,_,rfl,_,_,_,false,rfl,.lst hb,rfl,rfl,_,rfl,bH ?_⟩
   refine⟨_,rfl,a,_,rfl,.inl (aC.of ha),_,rfl,b,_,rfl,.inl (aC.of hb),rfl,_,rfl,?_⟩
   refine dM (λ_=>?_) (λc=>absurd (decide_eq_true (show V.int (xs.length:Nat)=V.int (ys.length:Nat) by rw[hl])) c)
   refine⟨_,rfl,_,rfl,a,b,rfl,⟨_,aC.of ha⟩,⟨_,aC.of hb⟩,λi m zs H'=>m=xs.length - i/\i<=xs.length/\zs=(List.replicate i true).map V.bl/\Same H H',⟨xs.length,rfl,Q0b _,rfl,Same.refl _⟩,?_⟩
   rintro i m zs H' ⟨rfl,hi0,rfl,s2⟩
   by_cases hi:i<xs.length
   . have hi2:i<ys.length:=by omega
     refine .inr ⟨⟨xs,ys,xs[i],ys[i],aC.of (s2 _ _ ha),aC.of (s2 _ _ hb),Q05 hi,Q05 hi2⟩,by rw[Q06,Q17];exact Q19 hi0 (Q19 Bl (by decide)),λx gW y=>?_⟩
     obtain⟨p,x1,x2,hp,rfl,e1,e2,rfl⟩:=y
     have e1:=e1 _ (aC.of (s2 _ _ ha))
     have e2:=e2 _ (aC.of (s2 _ _ hb))
     have sa:=s2.trans (Same.new hp (o:=.tup [x1,x2]))
     refine⟨p,_,rfl,aH.of aF,rfl,_,_,rfl,_,_,rfl,rfl,rfl,L2.yes (bZ ?_)⟩
     refine⟨_,rfl,_,rfl,x1,x2,rfl,(hs i x1 x2 e1 e2).same sa,λH3 s4=>?_⟩
     refine⟨xs.length - (i+1),by omega,rfl,hi,?_,sa.trans s4⟩
     rw[List.replicate_succ',Q0k]
     rfl
   . refine .inl ⟨⟨xs,ys,aC.of (s2 _ _ ha),aC.of (s2 _ _ hb),.inl (Q1 hi)⟩,λp hp=>⟨p,List.replicate i true,rfl,aC.of aF,?_⟩⟩
     rw[xZ]
     exact q _ (s2.trans (Same.new hp))
 . have iU:=G0_
   refine⟨_,(ao (aW (dF (aY cH (by rfl) T.cC boot_isinstance (aj (pv 1) (aj (cD (v:=.ty "dict") rfl T.jf boot_dict rfl) ak)))) (ao (aW (PW.pt (jU (lZ (dF (aY cH (by rfl) T.cC boot_isinstance (aj (pv 0) (aj (cD (v:=.ty "dict") rfl T.jf boot_dict rfl) ak))))) (jT (aV pQ (aY G7 (by rfl) T.dG PySem.boot_len (aj (pv 0) ak)) (aY G7 (by rfl) T.dG PySem.boot_len (aj (pv 1) ak)) (aQ _))))) (aD (aP pJ)) aX)
   (aD (aP (aY (wM rfl) (by rfl) T.xK boot_all (aj (ZC rfl (g8 (g:=(cF 0)) (tt:=fZ) (te:=(Xi _ (pU _ _ _ (cA (q9 (bC 1) (bC 0)) (cA (q9 (bC 2) (bC 0)) fX))))) (own:=["_law_name"]) rfl (dw.of (N:=["_law_found","_law_due"]) (sc:=aL (top 75)) rfl rfl rfl (by decide+kernel)) (ahi rfl (pv 1)) (λ_ _ _ _ _=>(bG (i:=0) (show(["_law_name","_law_found","_law_due"]:List Str).Nodup by decide+kernel) rfl (Or.inl rfl) (.inr rfl))) (λ_ _ _ _ _=>iG) (λ_ _ _ _ _=>(lu (Xg (G5 hu (pv 0) (pv 1)) (by with_unfolding_all rfl)) (mj (aR iU (hr.mono (by omega)) dU (aj (iD hu (pv 1) (pv 0) (λ_ _=>rfl)) (aj (iD hu (pv 2) (pv 0) (λ_ _=>rfl)) ak)))))))) ak))))) aX)
   (ao aO
   (ao aO
   (aD aO)))),?_⟩
   refine⟨_,rfl,_,_,_,true,rfl,.dK hb,rfl,true,rfl,bZ ?_⟩
   refine⟨_,rfl,_,_,_,true,rfl,.dK ha,rfl,true,rfl,bH ?_⟩
   refine⟨_,rfl,a,_,rfl,ha,_,rfl,b,_,rfl,hb,rfl,_,rfl,?_⟩
   rw[decide_eq_true (show V.int ((aK f l').length:Nat)=V.int ((aK f l).length:Nat) by rw[gF,gF,hll])]
   refine bH ?_
   refine⟨_,rfl,b,_,rfl,hb,λo hz=>?_⟩
   have kf:∀c u,c≠b->H c=some u->upd H b (.cu o (.dK (aK f l))) c=some u:=λc u hc e=>by rw[au hc];exact e
   refine⟨λi m zs H'=>m=l.length - i/\i<=l.length/\zs=(List.replicate i true).map V.bl/\Same (upd H b (.cu o (.dK (aK f l)))) H',⟨l.length,rfl,Q0b _,rfl,Same.refl _⟩,?_⟩
   rintro i m zs H' ⟨rfl,hi0,rfl,s2⟩
   have hfz:=s2 _ _ (aF (H:=H) (a:=b) (o:=.cu o (.dK (aK f l))))
   by_cases hi:i<l.length
   . refine .inr ⟨⟨by rw[gF];exact hi,hfz⟩,by rw[Q06,Q17];exact cP (by omega),λx gW y=>?_⟩
     obtain⟨rfl,pr,hpr,rfl⟩:=y
     have hli:l[i]? =some l[i]:=Q05 hi
     rw[Jj hli] at hpr
     cases hpr
     have hmem:l[i]∈l:=Q0t hi
     have ga:cG gW a (.str l[i]) (some (f l[i])):=by
      have:=cG.k (k:=Sum.inr l[i]) (s2 _ _ (kf _ _ hne ha))
      rw[iK,if_pos (hs _ hmem).1] at this
      exact this
     have gb:cG gW b (.str l[i]) (some (f l[i])):=.inl ⟨_,Sum.inr l[i],.inr ⟨_,hfz⟩,rfl,by rw[iK,if_pos hmem]⟩
     refine⟨rfl,L2.yes (bZ ?_)⟩
     refine⟨_,rfl,_,rfl,a,_,rfl,ga,true,rfl,bZ ?_⟩
     refine⟨_,rfl,_,rfl,a,_,rfl,ga,_,rfl,_,rfl,b,_,rfl,gb,_,_,rfl,(hs _ hmem).2,λH3 s4=>?_⟩
     refine⟨l.length - (i+1),by omega,rfl,hi,?_,s2.trans s4⟩
     rw[List.replicate_succ',Q0k]
     rfl
   . refine .inl ⟨⟨by rw[gF];omega,hfz⟩,λp hp=>?_⟩
     have s5:=Same.new hp (o:=.lst ((List.replicate i true).map V.bl))
     refine⟨b,o,_,hz,s5 _ _ hfz,?_⟩
     have hpb:p≠b:=λz=>by rw[z,hfz] at hp;cases hp
     refine⟨p,List.replicate i true,rfl,aC.of (by rw[au hpb,aF]),?_⟩
     rw[xZ]
     refine q _ λc u e=>?_
     by_cases hc:c=b
     . subst hc
       rw[aF,<-hb];exact e
     . rw[au hc]
       exact s5 _ _ (s2 _ _ (kf _ _ hc e))
theorem ab9 (T:Tb mg)(dU:Dn K mg "_law_same" jh (top 75) jK jL):∀n:Nat,aq P w K mg base aB (n+1) jK jL jh (qC n)
 |0=>ab8 T dU
 |n+1=>alb n T dU (ab8 T dU) (ab9 T dU n)
end Pb
namespace PySem
namespace F
theorem ald:typeLookup (.type "list_reverseiterator") "__len__"=pure none:=by rw[typeLookup_type,builtinLookup_eq_fast];kernel_rfl
theorem ale:Slot "list_reverseiterator" "__length_hint__" "list_reverseiterator.__length_hint__":=
 .of (owner:="list_reverseiterator") (n:="__length_hint__") (by rw[typeLookup_type,builtinLookup_eq_fast];kernel_rfl) (by decide+kernel) (by decide+kernel) (by decide+kernel)
   (by first|exact .inl (by decide+kernel)|exact .inr (by decide+kernel)) (by rw[isSubtype_type];kernel_rfl)
end F
open PyProof.Rows
section
variable {prog:Program}{w:World}{A:Around}{E:Value->Shared->Prop}{s:Shared}
theorem alf {I l:Addr}{items:Array Value}{Q:Value->Shared->Prop}(hh:A.handled=none)(hne:l≠I)(hn:items.size<=sizeLine)
 (hit:s.heap.IsRevIter I l ((items.size:Int) - 1)) (ht:s.heap.IsList l items) (hlt:∀b∈[I,l],b<s.heap.objs.size)
 (hQ:∀s' acc' c',Moved [s.heap.objs.size,I] (λa b=>b=a) { s with heap:=s.heap.push { cls:=.type "list",data:=.seq #[] } } s'->s'.heap.get? s.heap.objs.size=some { cls:=.type "list",data:=.seq acc' c' }->ItemsOf (λi v=>items[items.size - 1 - i]? =some v) acc' items.size->Q (.ref s.heap.objs.size) s'):
 wpAny (model prog w) A (call (.type "list") [.ref I]) Q E s:=by
 refine callType_codes (Q₁:=λobj s₁=>obj=.ref s.heap.objs.size/\s₁={ s with heap:=s.heap.push { cls:=.type "list",data:=.seq #[] } }) F.called_list (F.typeCall_list_1 _) F.entry_list_init (code_list_new _ ⟨rfl,rfl⟩) λobj s₁ h₁=>?_
 obtain⟨rfl,rfl⟩:=h₁
 have W:=(Walks.listRev (prog:=prog) (w:=w) (A:=A.in1.in1) hh I l hne items).toS
 have hSf:s.heap.objs.size ∉ [I,l]:=λhm=>Q0l _ (hlt _ hm)
 have hSI:s.heap.objs.size≠I:=λe=>hSf (e ▸ Q0f)
 have hS₁:(s.heap.push { cls:=.type "list",data:=.seq #[] }).get? s.heap.objs.size=some { cls:=.type "list",data:=.seq #[] }:=Q0d _ rfl
 refine⟨⟨_,hS₁,rfl⟩,F.args_list_init_2 _ _,?_⟩
 have hit₁:(s.heap.push { cls:=.type "list",data:=.seq #[] }).IsRevIter I l ((items.size:Int) - 1):=hit.at λo e=>Q04 _ e
 unfold Builtin.«list.__init__»
 dsimp only
 rw[if_neg (by decide),if_neg (show ¬[Value.ref I].length > 1 from by show ¬1 > 1;decide)]
 refine Q00 (wpAny_listItems hS₁ rfl ?_)
 refine Q00 (PyProof.Rows.listUpdate_at hS₁ rfl ?_ (nG) (by show 0<=sizeLine+1;decide))
 refine Q00 (wpAny_letGo ?_)
 have hS₂:=Q18 (Obj.mapSeq (λ_=>(#[]:Array Value))) hS₁ rfl
 have oth:∀b o,b≠s.heap.objs.size->(s.heap.push { cls:=.type "list",data:=.seq #[] }).get? b=some o->
  ((s.heap.push { cls:=.type "list",data:=.seq #[] }).update s.heap.objs.size (Obj.mapSeq (λ_=>(#[]:Array Value)))).get? b=some o:=
  λb o hb e=>(Q15 _ _ (Ne.symm hb)).trans e
 have hit₂:((s.heap.push { cls:=.type "list",data:=.seq #[] }).update s.heap.objs.size (Obj.mapSeq (λ_=>(#[]:Array Value)))).IsRevIter I l ((items.size:Int) - 1):=hit₁.at λo e=>oth I o (Ne.symm hSI) e
 have h1:Builtin.List.listSameRef (.ref s.heap.objs.size) (.ref I)=false:=by simp[Builtin.List.listSameRef,hSI]
 have h2:(Value.type "list_reverseiterator" == Value.type "list")=false:=by decide
 have h3:(Value.type "list_reverseiterator" == Value.type "tuple")=false:=by decide
 have hst:0<=items.size/\s.heap.IsRevIter I l ((items.size:Int) - 1 - ((0:Nat):Int))/\s.heap.IsList l items:=⟨Q0b _,by
  have e:(items.size:Int) - 1 - ((0:Nat):Int)=(items.size:Int) - 1:=by omega
  rw[e];exact hit,ht⟩
 unfold Builtin.List.listExtendWith
 refine Q00 (wpAny_typeOf hit₂.typeIs ?_)
 simp only[h1,h2,h3,Bool.or_false,Bool.false_eq_true,if_false]
 refine Q00 (wpAny_pyIter_revIter hit₂ ?_)
 refine Q00 (wpAny_holding ?_)
 unfold Builtin.List.listLengthHint
 refine Q00 (wpAny_specialOf hit₂.typeIs F.ald ?_)
 show wpAny _ _ (specialOf (Value.ref I) (Str.ofString "__length_hint__") >>= _) _ _ _
 refine Q00 (wpAny_specialOf hit₂.typeIs F.ale.lookup ?_)
 (generalize hid:("list_reverseiterator.__length_hint__":String)=id0;(fail_if_success (clear hid id0));wp_delta;rw[show splitId id0=some ("list_reverseiterator","__length_hint__") from by subst hid;decide+kernel];subst hid)
 refine Q00 (wpAny_isInstance (b:=true) hit₂.typeIs (by rw[isSubtype_type];kernel_rfl) ?_)
 rw[if_neg (by decide)]
 dsimp only
 rw[if_pos (by decide+kernel),if_neg (by decide)]
 refine Q03 ?_
 rw[if_neg (by decide)]
 refine Q03 ⟨plainId_quiet F.plain_extend_loop _,codeAny_extend_loopS W hn _ hSf _ items.size 0 _ _ _ rfl (Q0b _) (W.frame 0 s _ s.toks hst (Q01 _) λb hb o e=>oth b o (λh=>hSf (h ▸ hb)) (Q04 _ e)) hS₂ (ItemsOf.nil _) λs' acc' c' hm hS' hacc=>?_⟩
 exact⟨rfl,hQ s' acc' c' ⟨λb o hb e=>hm.heap b o hb (oth b o (λh=>hb (by rw[h];exact Q0f)) e),hm.gens,hm.drawn,hm.os,hm.toks⟩ hS' hacc⟩
end
end PySem
namespace L2
open PySem PyProof.Rows
theorem ab_:∀{xs:List V}{us:List Value},xs.length=us.length->(∀(i:Nat) (x:V) (u:Value),xs[i]? =some x->us[i]? =some u->RelV x u)->Vals xs us
 |[],[],_,_=>.nil
 |x::xs,u::us,hl,h=>.cons (h 0 x u rfl rfl) (ab_ (by simpa using hl) λi y v hy hv=>h (i+1) y v (by simpa using hy) (by simpa using hv))
 |[],_::_,hl,_=>by cases hl
 |_::_,[],hl,_=>by cases hl
noncomputable def alg (K:W.Frag) (te:TE):TE:=λσ H Q=>te σ H λv H1=>∃a xs,v=.ref a/\aC K H1 a xs/\∀l,H1 l=none->Q (.ref l) (upd H1 l (.lst xs.reverse))
section
variable {X:Cx}{e:Expr}{te:TE}{p p2 pos pos2:Pos}
theorem alh (hc:X.calm=true)(hg:Gl X "list")(hm:X.mg "list"=none)(hb:bootBuiltins "list"=some (.type "list"))(hg2:Gl X "reversed")(hm2:X.mg "reversed"=none)(hb2:bootBuiltins "reversed"=some (.type "reversed"))(he:PE X e te)
 (hs:starEach [e] X.env=(false,eval e X.env)::starEach [] X.env:=by rfl)
 (hs2:starEach [.Call (.Name "reversed" p2) [e] [] pos2] X.env=(false,eval (.Call (.Name "reversed" p2) [e] [] pos2) X.env)::starEach [] X.env:=by rfl):
 PE X (.Call (.Name "list" p) [.Call (.Name "reversed" p2) [e] [] pos2] [] pos) (alg X.K te):=by
 intro pins s σ H Q I h
 refine wpAny_Call_Name_kw (k_ I hg hm hb ?_ (by decide) (by decide))
 refine PyProof.Rows.callWith_type1 ?_ hs2 rfl
 rw[hs2]
 show wpAny _ _ (spliced ((false,eval (.Call (.Name "reversed" p2) [e] [] pos2) X.env)::[])) _ _ s
 refine Calls.spliced_cons ?_
 refine wpAny_Call_Name_kw (k_ I hg2 hm2 hb2 ?_ (by decide) (by decide))
 refine PyProof.Rows.callWith_type1 ?_ hs rfl
 rw[hs]
 show wpAny _ _ (spliced ((false,eval e X.env)::[])) _ _ s
 refine Calls.spliced_cons (aM (he pins s σ H _ I h) λu s1 ⟨x,H1,I1,r1,q1⟩=>?_)
 refine Calls.spliced_nil ?_
 obtain⟨a,xs,rfl,hq,q⟩:=q1
 cases r1
 obtain⟨its,r',pl,hz⟩:=I1.list hq
 have hlen:=r'.length
 have hsz:its.toArray.size=its.length:=Q08
 have pl1:=pl.isList
 refine call_reversed_list pl1 ?_
 refine Calls.spliced_nil ?_
 have ho:=id pl1
 obtain⟨o,hoa,hr⟩:=ho
 have hne:a≠s1.heap.objs.size:=λz=>Q0l _ (z ▸ Q02 hoa)
 have jl:(s1.heap.push (revObj a ((its.toArray.size:Int) - 1))).IsList a its.toArray:=⟨o,Q04 _ hoa,hr⟩
 have hit:(s1.heap.push (revObj a ((its.toArray.size:Int) - 1))).IsRevIter s1.heap.objs.size a ((its.toArray.size:Int) - 1):=⟨_,Q0d _ rfl,rfl,rfl⟩
 refine alf (s:={ s1 with heap:=s1.heap.push (revObj a ((its.toArray.size:Int) - 1)) }) (I1.ok.hd hc) hne (by rw[hsz];omega) hit jl ?_ ?_
 . intro b hb'
   rcases List.mem_cons.mp hb' with z|z
   . rw[z];exact Q02 (Q0d _ rfl)
   . rw[List.mem_singleton.mp z];exact Q02 (Q04 _ hoa)
 . intro s' acc c' hm' hS' hacc
   have hlt1:(s1.heap.push (revObj a ((its.toArray.size:Int) - 1))).objs.size=s1.heap.objs.size+1:=by
    first|rfl|simp[Heap.push]
   have kp:∀b u,s1.heap.get? b=some u->s'.heap.get? b=some u:=λb u hbu=>hm'.heap b u (λz=>by
    have hb2:=Q02 hbu
    rcases List.mem_cons.mp z with z|z
    . exact absurd hb2 (Nat.not_lt.mpr (by rw[z];exact Q0c (Q13 _) (Q1j hlt1.symm)))
    . exact absurd hb2 (Nat.not_lt.mpr (by rw[List.mem_singleton.mp z];exact Q01 _))) (Q04 _ (Q04 _ hbu))
   have hv:Vals xs.reverse acc.toList:=by
    refine ab_ ?_ λi x u hx hu=>?_
    . rw[Q1x,hlen,<-hsz,<-hacc.1];exact Array.length_toList.symm
    . have hi:i<xs.length:=by
       have:=(List.getElem?_eq_some_iff.mp hx).1
       rw[Q1x] at this;exact this
      have hu2:acc[i]? =some u:=by rw[<-hu];simp
      have h1:=hacc.2 i u hu2
      rw[List.getElem?_reverse hi] at hx
      obtain⟨u',hu',ru⟩:=r'.get hx
      have e1:its.toArray[its.toArray.size - 1 - i]? =some u':=by
       rw[hsz,<-hlen];simpa using hu'
      rw[e1] at h1
      injection h1 with h1
      subst h1
      exact ru
   obtain⟨h',g',d',tk',os'⟩:=s'
   have eg:g'=s1.gens:=hm'.gens
   have ed:d'=s1.drawn:=hm'.drawn
   have eo:os'=s1.os:=hm'.os
   subst eg ed eo
   have hfr:s1.heap.objs.size<=(s1.heap.push (revObj a ((its.toArray.size:Int) - 1))).objs.size:=by rw[hlt1];omega
   have I2:Inv X pins σ (upd H1 (s1.heap.push (revObj a ((its.toArray.size:Int) - 1))).objs.size (.lst xs.reverse)) { s1 with heap:=h',toks:=tk' }:=
    I1.laid (t':=tk') kp hfr (show cT X.prog X.w _ h' _ (.lst xs.reverse) from⟨by rw[Q1x];exact hz,acc.toList,c',hv,by
      have:=hS'
      simpa using this⟩)
   exact⟨.ref _,_,I2,rfl,q _ (I1.hok.fresh hfr)⟩
end
end L2
namespace Pb
open PySem L2 PyProof.Rows
theorem boot_reversed:bootBuiltins "reversed"=some (.type "reversed"):=by decide+kernel
theorem ali {l1 l2 l:List Str}(nd:l.Nodup)(p1:l1.Perm l)(p2:l2.Perm l)(h1:l1.Pairwise sle)(h2:l2.Pairwise sle):l1=l2:=by
 have st:∀{m:List Str},m.Perm l->m.Pairwise sle->m.Pairwise slt:=λ{m} p h=>by
  have n:m.Pairwise (· ≠ ·):=p.nodup_iff.mpr nd
  refine(h.and n).imp λ{a b} ⟨x,y⟩=>?_
  rcases Bd x with z|z
  . exact z
  . exact absurd z y
 exact H_ HX (p1.trans p2.symm) (st p1 h1) (st p2 h2)
noncomputable def acf:Sp:=λvs H Q _=>∃l m,∃ss:List Str,vs=[.ref l,.int m]/\H l=some (.lst (ss.map V.str))/\ss.Nodup/\ss.length<=12/\∀p (rs:List Str) H',Same H H'->H' p=some (.lst (rs.map V.str))->H p=none->rs.Nodup->(∀x∈rs,x∈ss)->rs.length<=12->Q (.ref p) H'
noncomputable def acg (K:W.Frag):Sp:=λvs H Q _=>∃a b ns n t src xs fs l,∃f:Str->V,∃m:Nat,vs=[.ref a,.ref b,.ref t,.ref src,.int m]/\m<=6/\G0 K H a b ns n/\n+20<=1000000000000/\(H t=some (.tup xs)\/(H t=some (.lst xs)/\t≠b))/\FA H xs fs/\fs.cV/\fs.names.Nodup/\1<=fs.names.length/\fs.names.length<=12/\H src=some (.dK (aK f l))/\(∀x∈fs.names,x∈l)/\l.length<=12/\
 ∀r p nw ys ops n' H',SB b H H'->H' b=some (.lst [.int n'])->n<=n'->n'<=n+12->H' r=some (.tup [.ref p,.ref nw])->H p=none->H nw=none->H' p=some (.lst ys)->H' nw=some (.dK (aK (cQ f ops) l))->b_ H' ys ops->jF fs ops->ops.length<=6->Q (.ref r) H'
theorem alj {K:W.Frag}{t:Addr}{xs:List V}{i:Int}{v:V}{H:Hp}{Q:VK}(h:aC K H t xs\/aH K H t xs)(hv:dZ xs i=some v)(q:Q v H):Ye K (.ref t) (.int i) H Q:=by
 rcases h with h|h
 . exact .inl ⟨t,xs,i,v,rfl,rfl,h,hv,q⟩
 . exact .inr (.inl ⟨t,xs,i,v,rfl,rfl,h,hv,q⟩)
theorem alk {fs:Fs}{i:Nat}{x:Str}{k:Kd}(h:fs.at i=some (x,k)):x∈fs.names:=by
 have:fs.names[i]? =some x:=by rw[Fs.jA,h];rfl
 exact Q0y this
variable {P:Program}{w:World}{K:W.Frag}{mg:Str->Option Value}{base:Heap}
theorem ach:bA ["_law_row","_law_m","_law_some_here"] ["_law_row","_law_m"] (aL (top 77)):=by refine⟨rfl,rfl,rfl,?_,rfl,?_,?_⟩ <;> decide+kernel
theorem alm (T:Tb mg)(vD:Dn K mg "_law_some" Cd (top 77) LK LQ):aq P w K mg base aB (1) LK LQ Cd (acf):=by
 refine vD.F.ok ach (λvs H Q E h=>?_) (λcdv A outer s H vs Q E hr h=>?_)
 . obtain⟨l,m,ss,rfl,_⟩:=h
   rfl
 obtain⟨l,m,ss,rfl,hl,hnd,h12,q⟩:=h
 have nd:=ach.nd
 refine⟨_,(ao (Hg (i:=2) nd rfl (Or.inl rfl) (g:=(qR K 2 (jr (cF 0) (jr (cF 1) qQ)))) (tt:=(mF (bL _ (bL _ (bL _ (bC 3) (bL _ (bL _ (tC (.int 3)) (bC 0)) (tC (.int 1)))) (tC (.int 3))) (tC (.int 0))))) (te:=(bC 1)) (own:=["_law_k","_law_one"]) rfl (dw.of (N:=["_law_row","_law_m","_law_some_here"]) (sc:=aL (top 77)) rfl rfl rfl (by decide+kernel)) (Hh rfl T.Iz (aj (pv 0) ak)) (λ_ _ _ _ _=>(fV rfl (cB (bG (i:=0) (show(["_law_k","_law_one","_law_row","_law_m","_law_some_here"]:List Str).Nodup by decide+kernel) rfl (Or.inl rfl) (.inr rfl)) (cB (bG (i:=1) (show(["_law_k","_law_one","_law_row","_law_m","_law_some_here"]:List Str).Nodup by decide+kernel) rfl (Or.inl rfl) (.inr rfl)) fU)))) (λ_ _ _ _ _=>(Ai (aV wu (aU dh (aU ju (pv 3) (aU mz (aU mC aG (pv 0)) aG)) aG) aG (aQ _)))) (λ_ _ _ _ _=>(pv 1)))
  (aD (aP (lA (aV bF (aU dh (pv 1) aG) aG (aQ _)) (pv 2) (alh rfl rfl T.lH boot_list rfl T.ah9 boot_reversed (pv 2)))))),?_⟩
 refine⟨_,rfl,l,rfl,⟨_,aC.of hl⟩,λi k ys H'=>k=ss.length - i/\i<=ss.length/\Same H H'/\∃rs:List Str,ys=rs.map V.str/\rs.Sublist (ss.take i),⟨_,rfl,Q0b _,Same.refl _,[],rfl,List.nil_sublist _⟩,?_⟩
 rintro i k ys H' ⟨rfl,hi0,s1,rs,rfl,hsub⟩
 have hlen:rs.length<=i:=Q0c hsub.length_le (by rw[Q0o];omega)
 by_cases hi:i<ss.length
 . have hsi:(ss.map V.str)[i]? =some (.str ss[i]):=by rw[Q0g,Q05 hi];rfl
   refine .inr ⟨⟨_,.str ss[i],aC.of (s1 _ _ hl),hsi⟩,by rw[Q06];exact cP (by omega),λx gW y=>?_⟩
   obtain⟨p,y,hp,rfl,hy,rfl⟩:=y
   have hy:=hy _ (aC.of (s1 _ _ hl))
   rw[hsi] at hy
   cases hy
   have s2:=Same.new hp (o:=.tup [.int i,.str ss[i]])
   have stp:ss.take (i+1)=ss.take i++[ss[i]]:=by rw[Q0u,Q05 hi];rfl
   refine⟨p,_,rfl,aH.of aF,rfl,_,_,rfl,_,_,rfl,rfl,rfl,?_⟩
   refine⟨_,rfl,_,rfl,_,_,rfl,rfl,.inr ⟨by omega,by omega⟩,_,_,rfl,rfl,_,_,rfl,rfl,(by unfold Xr;exact⟨by omega,by omega⟩),_,_,rfl,rfl,by show(0:Int)<3;decide,_,_,rfl,rfl,_,rfl,?_⟩
   refine dM (λc=>?_) (λc=>?_)
   . refine⟨_,rfl,ss.length - (i+1),by omega,rfl,hi,s1.trans s2,rs++[ss[i]],by rw[Q0k];rfl,?_⟩
     rw[stp]
     exact hsub.append (List.Sublist.refl _)
   . refine⟨ss.length - (i+1),by omega,rfl,hi,s1.trans s2,rs,rfl,?_⟩
     rw[stp]
     exact hsub.trans (List.sublist_append_left _ _)
 . refine .inl ⟨⟨_,aC.of (s1 _ _ hl),by rw[Q06];omega⟩,λp hp=>?_⟩
   have hs:rs.Sublist ss:=hsub.trans (Q2h _ _)
   have hrn:rs.Nodup:=hs.nodup hnd
   have hrl:rs.length<=12:=Q0c hs.length_le h12
   have s2:=Same.new hp (o:=.lst (rs.map V.str))
   have e2:upd H' p (.lst (rs.map V.str)) p=some (.lst (rs.map V.str)):=aF
   have hpH:H p=none:=by
    cases e:H p with
    |none=>rfl
    |some o=>rw[s1 _ _ e] at hp;cases hp
   refine⟨_,rfl,_,_,rfl,rfl,by show(0:Int)<2;decide,rfl,_,rfl,dM (λc=>?_) (λc=>?_)⟩
   . exact⟨_,rfl,q p rs _ (s1.trans s2) e2 hpH hrn (λx hx=>hs.subset hx) hrl⟩
   . refine⟨_,rfl,p,_,rfl,aC.of e2,λp2 hp2=>?_⟩
     have s3:=Same.new hp2 (o:=.lst (rs.map V.str).reverse)
     refine q p2 rs.reverse _ (s1.trans (s2.trans s3)) (by rw[aF,List.map_reverse]) ?_ ((List.reverse_perm rs).nodup_iff.mpr hrn) (λx hx=>hs.subset (List.mem_reverse.mp hx)) (by rw[Q1x];exact hrl)
     cases e:H p2 with
     |none=>rfl
     |some o=>rw[s2 _ _ (s1 _ _ e)] at hp2;cases hp2
theorem jF.snoc {fs:Fs}{ops:List Op}{o:Op}(h:jF fs ops){k:Kd}(hk:fs.get o.1=some k)(hp:dX k o.2):jF fs (ops++[o]):=λx hx=>by
 rcases List.mem_append.mp hx with z|z
 . exact h x z
 . obtain rfl:=List.mem_singleton.mp z
   exact⟨k,hk,hp⟩
theorem alo (f:Str->V)(ops:List Op)(o:Op):cQ f (ops++[o])=gG (cQ f ops) o.1 o.2:=by
 unfold cQ
 rw[Q2d]
 rfl
theorem aci:bA ["_law_script","_law_at","_law_fields_here","_law_value_here","_law_many","_law_paper","_law_now","_law_k","_law_name","_law_inner"] ["_law_script","_law_at","_law_fields_here","_law_value_here","_law_many"] (aL (top 78)):=by refine⟨rfl,rfl,rfl,?_,rfl,?_,?_⟩ <;> decide+kernel
theorem alp (T:Tb mg)(vG:Dn K mg "_law_sets" Ce (top 78) LR L_)(dB:Dn K mg "_law_next" cN (top 64) gj gk)(gD:aq P w K mg base aB (1) gj gk cN (mV K))(jD:Dn K mg "_law_value" oG (top 74) qt qu)(xT:aq P w K mg base aB (3) qt qu oG (Jl K)):aq P w K mg base aB (4) LR L_ Ce (acg K):=by
 refine vG.F.ok aci (λvs H Q E h=>?_) (λcdv A outer s H vs Q E hr h=>?_)
 . obtain⟨a,b,ns,n,t,src,xs,fs,l,f,m,rfl,_⟩:=h
   rfl
 obtain⟨a,b,ns,n,t,src,xs,fs,l,f,m,rfl,hm,g,hn,ht,hfa,hpl,hnd,h1,h12,yj,hin,rJ,q⟩:=h
 have nd:=aci.nd
 have hu:=fY hr
 refine⟨_,(ao (bw (i:=5) nd rfl (Or.inl rfl) (fu ak))
  (ao (bw (i:=6) nd rfl (Or.inl rfl) (jx w5 (by rfl) T.jf boot_dict (aj (pv 3) ak)))
  (ao (jt PassesOwn.never rfl (wg rfl T.uc (aj (pv 4) ak)) (bG (i:=7) nd rfl (Or.inl rfl)) (ao (qT (aZ afm (pv 2) (aU dh (aR gD (hr.mono (by decide)) dB (aj (pv 0) (aj (pv 1) ak))) (aY d8 (by rfl) T.dG PySem.boot_len (aj (pv 2) ak))) (λ_ _=>rfl)) (fV rfl (cB (bG (i:=8) nd rfl (Or.inl rfl)) (cB (bG (i:=9) nd rfl (Or.inl rfl)) fU))))
  (ao (wH hu (pv 6) (pv 8) (aR xT (hr.mono (by decide)) jD (aj (pv 0) (aj (pv 1) (aj (pv 9) (aj aG ak))))) rfl)
  (aD (iz (pW PySem.F.plainAttrs_list PySem.F.slot_list_append PySem.F.type_list_append GZ (pv 5) (aj (cO (aj bD (aj (cO (aj (pv 8) ak)) (aj (iD hu (pv 6) (pv 8) (λ_ _=>rfl)) ak)))) ak)))))))
  (aD (aP (cO (aj (pv 5) (aj (pv 6) ak)))))))),?_⟩
 have uE:xs.length=fs.names.length:=FA.len fs hfa
 have hbb:=g.at_
 refine⟨nG,λp hp=>?_⟩
 have s0:=Same.new hp (o:=.lst [])
 have e0:upd H p (.lst []) p=some (.lst []):=aF
 generalize upd H p (.lst [])=H0 at s0 e0
 refine⟨_,rfl,src,_,rfl,s0 _ _ yj,λnw hnw=>?_⟩
 have s1:=Same.new hnw (o:=.dK (aK f l))
 have e1:upd H0 nw (.dK (aK f l)) nw=some (.dK (aK f l)):=aF
 have DW:H nw=none:=by
  cases e:H nw with
  |none=>rfl
  |some o=>rw[s0 _ _ e] at hnw;cases hnw
 have hpn:p≠nw:=λz=>by rw[<-z,e0] at hnw;cases hnw
 have hpb:p≠b:=λz=>by rw[z,hbb] at hp;cases hp
 have hnb:nw≠b:=λz=>by rw[z,hbb] at DW;cases DW
 have e0':=s1 _ _ e0
 generalize upd H0 nw (.dK (aK f l))=H1 at s1 e1 e0'
 have s01:=s0.trans s1
 refine⟨_,rfl,_,rfl,by omega,by omega,?_⟩
 refine Gk (lo:=0) (n:=Int.toNat (m:Int)) (λi σ H'=>SB b H H'/\(∃x y z,σ=[some (.ref a),some (.ref b),some (.ref t),some (.ref src),some (.int m),some (.ref p),some (.ref nw),x,y,z])/\∃ys ops n',H' b=some (.lst [.int n'])/\n<=n'/\n'<=n+2 * i/\H' p=some (.lst ys)/\H' nw=some (.dK (aK (cQ f ops) l))/\b_ H' ys ops/\jF fs ops/\ops.length=i)
  ⟨SB.of s01,⟨_,_,_,rfl⟩,[],[],n,s01 _ _ hbb,by omega,by omega,e0',e1,b_.nil _,(λo ho=>nomatch ho),rfl⟩ ?_ ?_
 . rintro i σ H' hi ⟨sb,⟨x,y,z,rfl⟩,ys,ops,n',hb',z1,z2,hpp,hnn,hP,hO,hol⟩
   have tu:Tu H H':=sb.tu hbb
   refine⟨_,rfl,_,rfl,_,rfl,a,b,ns,n',rfl,g.go sb hb' z1,by omega,λr H2 r0 r1 s2 h2=>?_⟩
   have j6:aC K H2 t xs\/aH K H2 t xs:=by
    rcases ht with ht|⟨ht,htb⟩
    . exact .inr (aH.of (s2.tu hb' _ _ (tu _ _ ht)))
    . exact .inl (aC.of (s2 _ _ htb (sb _ _ htb ht)))
   have hr2:0<=r % (fs.names.length:Int):=Q11 _ (by omega)
   have hr3:r % (fs.names.length:Int)<(fs.names.length:Int):=Q12 _ (by omega)
   obtain⟨j,hj⟩:∃j:Nat,r % (fs.names.length:Int)=(j:Int):=⟨(r % (fs.names.length:Int)).toNat,by omega⟩
   have hjl:j<xs.length:=by omega
   obtain⟨c,u,nm,k,ev,hat,hc,hk⟩:=FA.get fs hfa (Q05 hjl)
   have hc2:=s2.tu hb' _ _ (tu _ _ hc)
   refine⟨_,rfl,t,_,rfl,j6,_,_,rfl,rfl,by show(0:Int)<(xs.length:Nat);omega,alj (v:=.ref c) j6 ?_ ?_⟩
   . rw[uE,hj]
     exact mG (j:=j) (by rw[Q05 hjl,ev])
   refine⟨c,_,rfl,aH.of hc2,rfl,_,_,rfl,_,_,rfl,rfl,?_⟩
   refine⟨_,rfl,_,rfl,_,rfl,a,b,ns,n'+1,u,k,0,rfl,g.go (sb.trans s2) h2 (by omega),by omega,KA.mono ((sb.trans s2).tu hbb) k hk,Fs.Cq hpl hat,λv H3 s3 h3 hv=>?_⟩
   have hgk:=Fs.tX hnd hat
   have hml:nm∈l:=hin _ (alk hat)
   have acn:=s3 _ _ hnb (s2 _ _ hnb hnn)
   have alr:=s3 _ _ hpb (s2 _ _ hpb hpp)
   have tu3:Tu H' H3:=(s2.tu hb').trans (s3.tu h2)
   refine⟨_,rfl,_,rfl,nw,_,rfl,nZ.k (k:=Sum.inr nm) acn (by rw[gF];exact cP (by omega)),?_⟩
   rw[Jk v hml]
   have e4:upd H3 nw (.dK (aK (gG (cQ f ops) nm v) l)) nw=some (.dK (aK (gG (cQ f ops) nm v) l)):=aF
   have k4:∀c' o,c'≠nw->H3 c'=some o->upd H3 nw (.dK (aK (gG (cQ f ops) nm v) l)) c'=some o:=λc' o hc' e=>by rw[au hc'];exact e
   generalize upd H3 nw (.dK (aK (gG (cQ f ops) nm v) l))=H4 at e4 k4
   have Ma:Tu H3 H4:=λc' xs' e=>k4 _ _ (kY e acn (by intro z;cases z)) e
   have yL:=k4 _ _ hpn alr
   have g4:∀{H5:Hp},Same H4 H5->cG H5 nw (.str nm) (some v):=λ{H5} s5=>by
    have:=cG.k (k:=Sum.inr nm) (s5 _ _ e4)
    rw[iK,if_pos hml] at this
    have e:gG (cQ f ops) nm v nm=v:=by unfold gG;rw[if_pos rfl]
    rw[e] at this
    exact this
   refine⟨_,rfl,.inl ⟨rfl,_,aC.of yL⟩,_,rfl,gR,λz hz=>?_⟩
   have s5:=Same.new hz (o:=.tup [.str nm])
   refine⟨_,rfl,_,rfl,nw,_,rfl,g4 s5,sW,λc6 hc6=>?_⟩
   have s6:=Same.new hc6 (o:=.tup [.str "set",.ref z,v])
   have vH:=s5.trans s6
   have Mf:=vH _ _ yL
   have i6:Itm (upd (upd H4 z (.tup [.str nm])) c6 (.tup [.str "set",.ref z,v])) (.ref c6) (nm,v):=⟨c6,z,rfl,aF,s6 _ _ aF⟩
   generalize upd (upd H4 z (.tup [.str nm])) c6 (.tup [.str "set",.ref z,v])=H6 at vH Mf i6
   have hyl:ys.length<=6:=by rw[hP.1,hol];omega
   refine⟨p,_,_,rfl,rfl,Mf,cP (by omega),?_⟩
   have tu7:Tu H6 (upd H6 p (.lst (ys++[.ref c6]))):=λc' xs' e=>by rw[au (kY e Mf (by intro z;cases z))];exact e
   have keep:∀c' o,c'≠b->c'≠nw->c'≠p->H' c'=some o->upd H6 p (.lst (ys++[.ref c6])) c'=some o:=λc' o n1 n2 n3 e=>by
    rw[au n3]
    exact vH _ _ (k4 _ _ n2 (s3 _ _ n1 (s2 _ _ n1 e)))
   refine⟨λc' o n1 e=>keep c' o n1 (λz=>by rw[z,DW] at e;cases e) (λz=>by rw[z,hp] at e;cases e) (sb c' o n1 e),⟨_,_,_,rfl⟩,ys++[.ref c6],ops++[(nm,v)],n'+1+1,?_,by omega,by omega,aF,?_,?_,hO.snoc hgk hv,by rw[Q07,hol];rfl⟩
   . rw[au (Ne.symm hpb)]
     exact vH _ _ (k4 _ _ (Ne.symm hnb) h3)
   . rw[au (Ne.symm hpn),alo]
     exact vH _ _ e4
   . exact(hP.mono (tu3.trans (Ma.trans ((Tu.of vH).trans tu7)))).app (b_.one (i6.mono tu7))
 . rintro σ H' ⟨sb,⟨x,y,z,rfl⟩,ys,ops,n',hb',z1,z2,hpp,hnn,hP,hO,hol⟩
   refine⟨_,rfl,_,rfl,dg,λr hr'=>?_⟩
   have s5:=Same.new hr' (o:=.tup [.ref p,.ref nw])
   exact q r p nw ys ops n' _ (sb.trans (SB.of s5)) (s5 _ _ hb') z1 (by omega) aF hp DW (s5 _ _ hpp) (s5 _ _ hnn) (hP.mono (Tu.of s5)) hO (by omega)
noncomputable def Mg:Sp:=λvs H Q _=>∃nl a kvs,∃ss:List Str,∃f:Str->V,vs=[.ref nl,.ref a]/\H nl=some (.lst (ss.map V.str))/\ss.Nodup/\ss.length<=12/\H a=some (.dK kvs)/\(∀x∈ss,dO kvs (Sum.inr x)=some (f x))/\∀p H',Same H H'->H p=none->H' p=some (.dK (aK f ss))->Q (.ref p) H'
theorem acp:bA ["_law_names_here","_law_value_here"] ["_law_names_here","_law_value_here"] (aL (top 79)):=by refine⟨rfl,rfl,rfl,?_,rfl,?_,?_⟩ <;> decide+kernel
theorem alu (T:Tb mg)(o_:Dn K mg "_law_taken" um (top 79) yM yN):aq P w K mg base aB (1) yM yN um (Mg):=by
 refine o_.F.ok acp (λvs H Q E h=>?_) (λcdv A outer s H vs Q E hr h=>?_)
 . obtain⟨nl,a,kvs,ss,f,rfl,_⟩:=h
   rfl
 obtain⟨nl,a,kvs,ss,f,rfl,hnl,hnd,h12,ha,hv,q⟩:=h
 have nd:=acp.nd
 have hu:=fY hr
 refine⟨_,(aD (aP (jx (ZL rfl) (by rfl) T.jf boot_dict (aj (g8 (g:=(cF 0)) (tt:=fZ) (te:=(pR (cA (bC 0) (cA (q9 (bC 2) (bC 0)) fX)))) (own:=["_law_name"]) rfl (dw.of (N:=["_law_names_here","_law_value_here"]) (sc:=aL (top 79)) rfl rfl rfl (by decide+kernel)) (lB (pv 0)) (λ_ _ _ _ _=>(bG (i:=0) (show(["_law_name","_law_names_here","_law_value_here"]:List Str).Nodup by decide+kernel) rfl (Or.inl rfl) (.inr rfl))) (λ_ _ _ _ _=>iG) (λ_ _ _ _ _=>(cO (aj (pv 0) (aj (iD hu (pv 2) (pv 0) (λ_ _=>rfl)) ak))))) ak)))),?_⟩
 refine⟨_,rfl,nl,rfl,⟨_,aC.of hnl⟩,λi m ys H'=>m=ss.length - i/\i<=ss.length/\Same H H'/\∃ts:List Addr,ys=ts.map V.ref/\ts.length=i/\∀(j:Nat) c x,ts[j]? =some c->ss[j]? =some x->H' c=some (.tup [.str x,f x]),
  ⟨_,rfl,Q0b _,Same.refl _,[],rfl,rfl,λj c x h=>by simp at h⟩,?_⟩
 rintro i m ys H' ⟨rfl,hi0,s1,ts,rfl,htl,hat⟩
 by_cases hi:i<ss.length
 . have hsi:(ss.map V.str)[i]? =some (.str ss[i]):=by rw[Q0g,Q05 hi];rfl
   refine .inr ⟨⟨_,.str ss[i],aC.of (s1 _ _ hnl),hsi⟩,by rw[Q06];exact cP (by omega),λx gW y=>?_⟩
   obtain⟨rfl,hy⟩:=y
   have hy:=hy _ (aC.of (s1 _ _ hnl))
   rw[hsi] at hy
   cases hy
   have ga:cG gW a (.str ss[i]) (some (f ss[i])):=by
    have:=cG.k (k:=Sum.inr ss[i]) (s1 _ _ ha)
    rw[hv _ (Q0t hi)] at this
    exact this
   refine⟨rfl,L2.yes (bZ ?_)⟩
   refine⟨_,rfl,_,rfl,_,rfl,a,_,rfl,ga,dg,λt2 j6=>?_⟩
   have s3:=Same.new j6 (o:=.tup [.str ss[i],f ss[i]])
   refine⟨ss.length - (i+1),by omega,rfl,hi,s1.trans s3,ts++[t2],by rw[Q0k];rfl,by rw[Q07,htl];rfl,λj c x hj hx=>?_⟩
   by_cases hji:j<ts.length
   . rw[Q0q hji] at hj
     exact s3 _ _ (hat j c x hj hx)
   . have hjl:=(List.getElem?_eq_some_iff.mp hj).1
     rw[Q07] at hjl
     have ej:j=i:=by simp at hjl;omega
     subst ej
     rw[Q0i (by omega),htl,Q16] at hj
     have hj:some t2=some c:=hj
     cases hj
     rw[Q05 hi] at hx
     cases hx
     exact aF
 . refine .inl ⟨⟨_,aC.of (s1 _ _ hnl),by rw[Q06];omega⟩,λp' hp2=>?_⟩
   have s3:=Same.new hp2 (o:=.lst (ts.map V.ref))
   refine⟨p',ts,aK f ss,rfl,aC.of aF,by rw[gF];omega,λj c p hj hpj=>?_,aaw hnd,by rw[gF];omega,λl hl=>?_⟩
   . have hjl:j<ss.length:=by have:=(List.getElem?_eq_some_iff.mp hj).1;omega
     rw[Jj (Q05 hjl)] at hpj
     cases hpj
     exact s3 _ _ (hat j c _ hj (Q05 hjl))
   . have s4:=Same.new hl (o:=.dK (aK f ss))
     refine q l _ (s1.trans (s3.trans s4)) ?_ aF
     cases e:H l with
     |none=>rfl
     |some o=>rw[s3 _ _ (s1 _ _ e)] at hl;cases hl
noncomputable def acq (H:Hp) (cs:List V) (hks:List Hk):Prop:=cs.length=hks.length/\∀(i:Nat) v h,cs[i]? =some v->hks[i]? =some h->∃c n,v=.ref c/\H c=some (.tup [.str h.1,.ref n])/\H n=some (.lst (h.2.2.map V.str))/\h.2.2.Nodup/\h.2.2.length<=12
theorem Mh {l ss:List Str}(nd:l.Nodup)(yO:ss.Nodup)(h:∀x∈ss,x∈l):(l.filter λx=>decide (x∈ss)).Perm ss:=by
 refine(List.perm_ext_iff_of_nodup (nd.filter _) yO).mpr λx=>?_
 rw[List.mem_filter]
 exact⟨λz=>of_decide_eq_true z.2,λz=>⟨h x z,decide_eq_true z⟩⟩
theorem FK.nQ {fs:Fs}{f g:Str->V}(h:FK fs f)(h2:FK fs g){x:Str}(hx:x∈fs.names):nQ (f x) (g x)=true:=by
 obtain⟨k,hk⟩:=Fs.uH hx
 exact(h x k hk).nQ (h2 x k hk)
noncomputable def jM (av:Addr->Prop) (H:Hp) (cs:List V) (hks:List Hk) (F:List Str->List Op):Prop:=cs.length=hks.length/\∀(i:Nat) v h,cs[i]? =some v->hks[i]? =some h->∃c p ys,v=.ref c/\H c=some (.tup [.str h.1,.ref p])/\H p=some (.lst ys)/\b_ H ys (F h.2.2)/\av p
theorem jM.at {av:Addr->Prop}{H:Hp}{cs:List V}{hks:List Hk}{F:List Str->List Op}(h:jM av H cs hks F):eZ H cs hks F:=⟨h.1,λi v k e1 e2=>by
 obtain⟨c,p,ys,a1,a2,a3,a4,_⟩:=h.2 i v k e1 e2
 exact⟨c,p,ys,a1,a2,a3,a4⟩⟩
theorem jM.imp {av av':Addr->Prop}{H:Hp}{cs:List V}{hks:List Hk}{F:List Str->List Op}(k:∀c,av c->av' c)(h:jM av H cs hks F):jM av' H cs hks F:=⟨h.1,λi v hk e1 e2=>by
 obtain⟨c,p,ys,e,h1,h2,h3,h4⟩:=h.2 i v hk e1 e2
 exact⟨c,p,ys,e,h1,h2,h3,k _ h4⟩⟩
theorem jM.keep {av:Addr->Prop}{H H':Hp}{cs:List V}{hks:List Hk}{F:List Str->List Op}(k:∀c o,((∃xs,o=.tup xs)\/av c)->H c=some o->H' c=some o)(h:jM av H cs hks F):jM av H' cs hks F:=by
 refine⟨h.1,λi v hk e1 e2=>?_⟩
 obtain⟨c,p,ys,e,h1,h2,h3,h4⟩:=h.2 i v hk e1 e2
 exact⟨c,p,ys,e,k _ _ (.inl ⟨_,rfl⟩) h1,k _ _ (.inr h4) h2,h3.mono λc xs e=>k _ _ (.inl ⟨_,rfl⟩) e,h4⟩
theorem jM.snoc {av:Addr->Prop}{H:Hp}{cs:List V}{hks:List Hk}{F:List Str->List Op}{v:V}{hk:Hk}(h:jM av H cs hks F)(hv:∃c p ys,v=.ref c/\H c=some (.tup [.str hk.1,.ref p])/\H p=some (.lst ys)/\b_ H ys (F hk.2.2)/\av p):jM av H (cs++[v]) (hks++[hk]) F:=by
 refine⟨by rw[Q07,Q07,h.1];rfl,λi v' hk' e1 e2=>?_⟩
 by_cases hi:i<cs.length
 . rw[Q0q hi] at e1
   rw[Q0q (by rw[<-h.1];exact hi)] at e2
   exact h.2 i v' hk' e1 e2
 . rw[Q0i (by omega)] at e1
   rw[Q0i (by rw[<-h.1];omega),<-h.1] at e2
   cases hj:i - cs.length with
   |zero=>
    rw[hj] at e1 e2
    cases e1
    cases e2
    exact hv
   |succ j=>rw[hj] at e1;cases e1
theorem sG {H H':Hp}{p:Addr}(s:Same H H')(h:H' p=none):H p=none:=by
 cases e:H p with
 |none=>rfl
 |some o=>rw[s _ _ e] at h;cases h
noncomputable def Mi:Sp:=λvs H Q _=>∃hl a b cs hks fs,∃f g:Str->V,vs=[.ref hl,.ref a,.ref b]/\H hl=some (.lst cs)/\acq H cs hks/\hks.length<=12/\H a=some (.dK (aK f fs.names))/\H b=some (.dK (aK g fs.names))/\FK fs f/\FK fs g/\fs.names.Nodup/\fs.names.Pairwise sle/\(∀h∈hks,∀x∈h.2.2,x∈fs.names)/\
 ∀p ds H',Same H H'->H p=none->H' p=some (.lst ds)->jM (λq=>H q=none) H' ds hks (iQ fs f g)->Q (.ref p) H'
theorem acs:bA ["_law_hooks","_law_old","_law_new","_law_pairs_here","_law_name","_law_names_here","_law_paper"] ["_law_hooks","_law_old","_law_new"] (aL (top 80)):=by refine⟨rfl,rfl,rfl,?_,rfl,?_,?_⟩ <;> decide+kernel
theorem alv (T:Tb mg)(nA:Dn K mg "_law_pairs" uo (top 80) yP yQ):aq P w K mg base aB (1) yP yQ uo (Mi):=by
 refine nA.F.ok acs (λvs H Q E h=>?_) (λcdv A outer s H vs Q E hr h=>?_)
 . obtain⟨hl,a,b,cs,hks,fs,f,g,rfl,_⟩:=h
   rfl
 obtain⟨hl,a,b,cs,hks,fs,f,g,rfl,pq,hL,h12,ha,hb,hf,hg,hnd,hso,hin,q⟩:=h
 have nd:=acs.nd
 have hu:=fY hr
 refine⟨_,(ao (bw (i:=3) nd rfl (Or.inl rfl) (fu ak))
  (ao (jt PassesOwn.never rfl (lB (pv 0)) (fV rfl (cB (bG (i:=4) nd rfl (Or.inl rfl)) (cB (bG (i:=5) nd rfl (Or.inl rfl)) fU))) (ao (Hg (i:=6) nd rfl (Or.inl rfl) (g:=(cF 0)) (tt:=(mF (bL _ (q9 (bC 2) (bC 0)) (q9 (bC 3) (bC 0))))) (te:=(pR (cA (tC (.str "set")) (cA (pR (cA (bC 0) fX)) (cA (q9 (bC 3) (bC 0)) fX))))) (own:=["_law_one"]) rfl (dw.of (N:=["_law_hooks","_law_old","_law_new","_law_pairs_here","_law_name","_law_names_here","_law_paper"]) (sc:=aL (top 80)) rfl rfl rfl (by decide+kernel)) (lB (aY YG (by rfl) T.Iw boot_sorted (aj (pv 5) ak))) (λ_ _ _ _ _=>(bG (i:=0) (show(["_law_one","_law_hooks","_law_old","_law_new","_law_pairs_here","_law_name","_law_names_here","_law_paper"]:List Str).Nodup by decide+kernel) rfl (Or.inl rfl) (.inr rfl))) (λ_ _ _ _ _=>(Ai (aV pQ (iD hu (pv 2) (pv 0) (λ_ _=>rfl)) (iD hu (pv 3) (pv 0) (λ_ _=>rfl)) (aQ _)))) (λ_ _ _ _ _=>(cO (aj bD (aj (cO (aj (pv 0) ak)) (aj (iD hu (pv 3) (pv 0) (λ_ _=>rfl)) ak))))))
  (aD (iz (pW PySem.F.plainAttrs_list PySem.F.slot_list_append PySem.F.type_list_append GZ (pv 3) (aj (cO (aj (pv 4) (aj (pv 6) ak))) ak))))))
  (aD (aP (pv 3))))),?_⟩
 refine⟨nG,λp hp=>?_⟩
 have s0:=Same.new hp (o:=.lst [])
 refine⟨_,rfl,hl,rfl,⟨_,aC.of (s0 _ _ pq)⟩,zW (xs:=cs) (λi σ H'=>Same H H'/\(∃x y z,σ=[some (.ref hl),some (.ref a),some (.ref b),some (.ref p),x,y,z])/\∃ds,H' p=some (.lst ds)/\jM (λq=>q≠p/\H q=none) H' ds (hks.take i) (iQ fs f g)) ⟨s0,⟨_,_,_,rfl⟩,[],aF,rfl,λi v h e=>by cases e⟩ ?_ ?_ ?_⟩
 . rintro i σ H' _ ⟨s1,_⟩
   exact aC.of (s1 _ _ pq)
 . rintro i v σ H' hv ⟨s1,⟨x,y,z,rfl⟩,ds,hpp,hP⟩
   have hi:i<hks.length:=by rw[<-hL.1];exact(List.getElem?_eq_some_iff.mp hv).1
   have hki:hks[i]? =some hks[i]:=Q05 hi
   obtain⟨c,n,rfl,hc,hn,hsn,jN⟩:=hL.2 i v _ hv hki
   have hmem:hks[i]∈hks:=Q0t hi
   have hss:=hin _ hmem
   have hperm:=Mh hnd hsn hss
   have alw:(fs.names.filter λx=>decide (x∈hks[i].2.2)).Pairwise sle:=hso.filter _
   refine⟨c,_,rfl,aH.of (s1 _ _ hc),rfl,_,_,rfl,_,_,rfl,rfl,?_⟩
   refine⟨_,rfl,n,_,rfl,aC.of (s1 _ _ hn),by omega,λps ss' hps hperm' Je=>?_⟩
   have ess:ss'=fs.names.filter λx=>decide (x∈hks[i].2.2):=ali hsn hperm' hperm (HY Je) alw
   have alx:∀x∈ss',x∈fs.names:=λx hx=>hss x (hperm'.mem_iff.mp hx)
   have rJ:ss'.length<=12:=by rw[hperm'.length_eq];exact jN
   have s2:=Same.new hps (o:=.lst (ss'.map V.str))
   have e2:upd H' ps (.lst (ss'.map V.str)) ps=some (.lst (ss'.map V.str)):=aF
   generalize upd H' ps (.lst (ss'.map V.str))=H2 at s2 e2
   have s12:=s1.trans s2
   refine⟨ps,rfl,⟨_,aC.of e2⟩,λj k ys H3=>k=ss'.length - j/\j<=ss'.length/\Same H2 H3/\b_ H3 ys (fH f g (ss'.take j)),⟨_,rfl,Q0b _,Same.refl _,b_.nil _⟩,?_⟩
   rintro j k ys H3 ⟨rfl,hj0,s3,yR⟩
   have hlen:ys.length<=j:=by rw[yR.1];exact Q0c (Kc _ _ _) (by rw[Q0o];omega)
   have DY:=s12.trans s3
   by_cases hj:j<ss'.length
   . have hsi:(ss'.map V.str)[j]? =some (.str ss'[j]):=by rw[Q0g,Q05 hj];rfl
     have hm:=alx _ (Q0t hj)
     have stp:ss'.take (j+1)=ss'.take j++[ss'[j]]:=by rw[Q0u,Q05 hj];rfl
     refine .inr ⟨⟨_,.str ss'[j],aC.of (s3 _ _ e2),hsi⟩,cP (by omega),λx gW y=>?_⟩
     obtain⟨rfl,hy⟩:=y
     have hy:=hy _ (aC.of (s3 _ _ e2))
     rw[hsi] at hy
     cases hy
     have gt:∀{H2:Hp},Same H H2->cG H2 a (.str ss'[j]) (some (f ss'[j]))/\cG H2 b (.str ss'[j]) (some (g ss'[j])):=λ{H2} s2=>by
      have h1:=cG.k (k:=Sum.inr ss'[j]) (s2 _ _ ha)
      have h2:=cG.k (k:=Sum.inr ss'[j]) (s2 _ _ hb)
      rw[iK,if_pos hm] at h1 h2
      exact⟨h1,h2⟩
     refine⟨rfl,?_⟩
     refine⟨_,rfl,_,rfl,a,_,rfl,(gt DY).1,_,rfl,_,rfl,b,_,rfl,(gt DY).2,hf.nQ hg hm,_,rfl,?_⟩
     refine dM (λc=>?_) (λc=>?_)
     . have e:¬f ss'[j]=g ss'[j]:=λz=>by rw[decide_eq_true z] at c;exact absurd c (by decide)
       refine⟨_,rfl,gR,λz hz=>?_⟩
       have s4:=Same.new hz (o:=.tup [.str ss'[j]])
       refine⟨_,rfl,_,rfl,b,_,rfl,(gt (DY.trans s4)).2,sW,λc2 hc2=>?_⟩
       have s5:=Same.new hc2 (o:=.tup [.str "set",.ref z,g ss'[j]])
       have qD:=s4.trans s5
       refine⟨ss'.length - (j+1),by omega,rfl,hj,s3.trans qD,?_⟩
       rw[stp,J9,J_,if_neg e]
       exact(yR.mono (Tu.of qD)).app (b_.one ⟨c2,z,rfl,aF,s5 _ _ aF⟩)
     . have e:f ss'[j]=g ss'[j]:=Decidable.byContradiction λz=>c (by rw[decide_eq_false z];rfl)
       refine⟨ss'.length - (j+1),by omega,rfl,hj,s3,?_⟩
       rw[stp,J9,J_,if_pos e,Q0x]
       exact yR
   . refine .inl ⟨⟨_,aC.of (s3 _ _ e2),by rw[Q06];omega⟩,λq2 hq2=>?_⟩
     have s4:=Same.new hq2 (o:=.lst ys)
     have e4:upd H3 q2 (.lst ys) q2=some (.lst ys):=aF
     generalize upd H3 q2 (.lst ys)=H4 at s4 e4
     rw[Q1d (by omega),ess] at yR
     have s34:=s2.trans (s3.trans s4)
     have yL:=s34 _ _ hpp
     refine⟨_,rfl,.inl ⟨rfl,_,aC.of yL⟩,_,rfl,_,rfl,dg,λtq dY=>?_⟩
     have s5:=Same.new dY (o:=.tup [.str hks[i].1,.ref q2])
     have e5:upd H4 tq (.tup [.str hks[i].1,.ref q2]) tq=some (.tup [.str hks[i].1,.ref q2]):=aF
     generalize upd H4 tq (.tup [.str hks[i].1,.ref q2])=H5 at s5 e5
     have acv:=s5 _ _ yL
     have hdl:ds.length<=12:=by rw[hP.1,Q0o];omega
     refine⟨p,_,_,rfl,rfl,acv,cP (by omega),?_⟩
     have sA:=s34.trans s5
     have nq:q2≠p:=λz=>by rw[z,(s2.trans s3) _ _ hpp] at hq2;cases hq2
     have kU:∀c' o',((∃xs,o'=.tup xs)\/c'≠p)->H5 c'=some o'->upd H5 p (.lst (ds++[.ref tq])) c'=some o':=λc' o' ho e=>by
      rw[au]
      . exact e
      . rcases ho with⟨xs',rfl⟩|h
        . exact kY e acv (by intro z;cases z)
        . exact h
     refine⟨λc' o' e=>kU c' o' (.inr (aN e hp)) (sA _ _ (s1 _ _ e)),⟨_,_,_,rfl⟩,_,aF,?_⟩
     rw[Q0u,hki]
     refine(hP.keep λc' o' ho e=>kU c' o' (ho.imp id And.left) (sA _ _ e)).snoc ⟨tq,q2,ys,rfl,kU _ _ (.inl ⟨_,rfl⟩) e5,kU _ _ (.inr nq) (s5 _ _ e4),yR.mono (λc' xs' e=>kU _ _ (.inl ⟨_,rfl⟩) ((s4.trans s5) _ _ e)),nq,sG DY hq2⟩
 . rintro σ H' ⟨s1,⟨x,y,z,rfl⟩,ds,hpp,hP⟩
   rw[hL.1,Q1b] at hP
   exact⟨_,rfl,q p ds H' s1 hp hpp (hP.imp λc h=>h.2)⟩
theorem dX.sm {k:Kd}{v:V}(h:dX k v):qz v v:=by
 cases k with
 |num=>obtain⟨z,rfl⟩:=h;exact .inl ⟨z,rfl,rfl⟩
 |gh=>obtain⟨z,rfl⟩:=h;exact .inr ⟨z,rfl,rfl⟩
 |_=>exact h.elim
theorem aly {H:Hp}{v u:V}{o:Op}(h1:Itm H v o)(h2:Itm H u o)(h:qz o.2 o.2):Sm H 2 v u:=by
 obtain⟨c,t,rfl,hc,ht⟩:=h1
 obtain⟨c',t',rfl,hc',ht'⟩:=h2
 have hp:Sm H 1 (.ref t) (.ref t'):=.inr (.inl ⟨t,t',_,_,rfl,rfl,ht,ht',rfl,(by show 1<=60;decide),λi x y e1 e2=>by
  match i with
  |0=>cases e1;cases e2;exact .inr ⟨_,rfl,rfl⟩
  |i+1=>cases e1⟩)
 refine .inr (.inl ⟨c,c',_,_,rfl,rfl,hc,hc',rfl,(by show 3<=60;decide),λi x y e1 e2=>?_⟩)
 match i with
 |0=>cases e1;cases e2;exact .inl (.inr ⟨_,rfl,rfl⟩)
 |1=>cases e1;cases e2;exact hp
 |2=>cases e1;cases e2;exact .inl h
 |i+3=>cases e1
theorem alz {H:Hp}{p q:Addr}{xs ys:List V}{ops:List Op}(hp:H p=some (.lst xs))(hq:H q=some (.lst ys))(h1:b_ H xs ops)(h2:b_ H ys ops)(h:∀o∈ops,qz o.2 o.2)(hl:ops.length<=60):Sm H 3 (.ref p) (.ref q):=by
 refine .inr (.inr (.inl ⟨p,q,xs,ys,rfl,rfl,hp,hq,by rw[h1.1,h2.1],by rw[h1.1];exact hl,λi x y e1 e2=>?_⟩))
 have hi:i<ops.length:=by rw[<-h1.1];exact(List.getElem?_eq_some_iff.mp e1).1
 have ho:ops[i]? =some ops[i]:=Q05 hi
 exact aly (h1.2 i x _ e1 ho) (h2.2 i y _ e2 ho) (h _ (Q0t hi))
theorem alA {fs:Fs}{f g:Str->V}(h:FK fs g){l:List Str}(hl:∀x∈l,x∈fs.names):∀o∈fH f g l,qz o.2 o.2:=λo ho=>by
 unfold fH at ho
 obtain⟨x,hx,rfl⟩:=List.mem_map.mp ho
 obtain⟨k,hk⟩:=Fs.uH (hl x (List.mem_filter.mp hx).1)
 exact(h x k hk).sm
theorem D_ {H:Hp}{n:Nat}{c c':Addr}{s:Str}{v u:V}(h1:H c=some (.tup [.str s,v]))(h2:H c'=some (.tup [.str s,u]))(h:Sm H n v u):Sm H (n+1) (.ref c) (.ref c'):=by
 refine .inr (.inl ⟨c,c',_,_,rfl,rfl,h1,h2,rfl,(by show 2<=60;decide),λi x y e1 e2=>?_⟩)
 match i with
 |0=>cases e1;cases e2;exact Sm.zero (.inr ⟨_,rfl,rfl⟩) n
 |1=>cases e1;cases e2;exact h
 |i+2=>cases e1
theorem Mj {H:Hp}{fs:Fs}{f g:Str->V}{hks:List Hk}{tq p tq' p':Addr}{cs ds:List V}(hg:FK fs g)(h12:fs.names.length<=12)(hh:hks.length<=12)(h1:H tq=some (.tup [.str "told",.ref p]))(h2:H p=some (.lst cs))(h3:eZ H cs hks (iQ fs f g))(h1':H tq'=some (.tup [.str "told",.ref p']))(h2':H p'=some (.lst ds))(h3':eZ H ds hks (iQ fs f g)):Sm H 6 (.ref tq) (.ref tq'):=by
 refine D_ h1 h1' (.inr (.inr (.inl ⟨p,p',cs,ds,rfl,rfl,h2,h2',by rw[h3.1,h3'.1],by rw[h3.1];omega,λi x y e1 e2=>?_⟩)))
 have hi:i<hks.length:=by rw[<-h3.1];exact(List.getElem?_eq_some_iff.mp e1).1
 have ho:hks[i]? =some hks[i]:=Q05 hi
 obtain⟨c,q,ys,rfl,a1,a2,a3⟩:=h3.2 i x _ e1 ho
 obtain⟨c',q',ys',rfl,b1,b2,b3⟩:=h3'.2 i y _ e2 ho
 have hl:∀x∈fs.names.filter (λx=>decide (x∈hks[i].2.2)),x∈fs.names:=λx hx=>(List.mem_filter.mp hx).1
 have hlen:(iQ fs f g hks[i].2.2).length<=60:=Q0c (Kc _ _ _) (Q0c (Q0z _ _) (by omega))
 exact D_ a1 b1 (alz a2 b2 a3 b3 (alA hg hl) hlen)
structure En where
 a:Addr
 b:Addr
 d:Addr
 dd:Addr
 kk:Addr
 t:Addr
 vv:Addr
 ps:Addr
 hl:Addr
 ns:List Int
 xs:List V
 fs:Fs
 hks:List Hk
 cs:List V
 sl:Addr
 sx:List V
noncomputable def gP (b ps:Addr) (H:Hp) (cs:List V) (hks:List Hk):Prop:=cs.length=hks.length/\∀(i:Nat) v h,cs[i]? =some v->hks[i]? =some h->∃c n,v=.ref c/\H c=some (.tup [.str h.1,.ref n])/\H n=some (.lst (h.2.2.map V.str))/\h.2.2.Nodup/\h.2.2.length<=12/\n≠b/\n≠ps
theorem gP.at {b ps:Addr}{H:Hp}{cs:List V}{hks:List Hk}(h:gP b ps H cs hks):acq H cs hks:=⟨h.1,λi v k e1 e2=>by
 obtain⟨c,n,a1,a2,a3,a4,a5,_⟩:=h.2 i v k e1 e2
 exact⟨c,n,a1,a2,a3,a4,a5⟩⟩
structure bQ (K:W.Frag) (P2 C CD:Addr) (e:En) (src so:Addr) (f:Str->V) (pl:List V) (n:Int) (H:Hp):Prop where
 g:G0 K H e.a e.b e.ns n
 lam:bB P2 bM bN H
 dk:bW H C CD e.d e.dd e.kk e.t src e.vv e.ps e.xs e.fs f e.hks pl
 vI:e.ps≠e.b
 vw:∀h∈e.hks,∃dx nl,eX H C h.2.1 dx nl h.2.2/\nl≠e.ps/\nl≠e.b
 hl:H e.hl=some (.lst e.cs)
 hlb:e.hl≠e.b
 hlp:e.hl≠e.ps
 lk:gP e.b e.ps H e.cs e.hks
 so:H so=some (.dK (aK f e.fs.names))
 sl:H e.sl=some (.lst e.sx)
 vJ:e.sl≠e.b
 vK:e.sl≠e.ps
noncomputable def cg (P2:Addr) (e:En) (H H':Hp):Prop:=∀c o,c≠P2->c≠e.b->c≠e.d->c≠e.ps->H c=some o->H' c=some o
theorem bQ.keep {K:W.Frag}{P2 C CD:Addr}{e:En}{src so:Addr}{f:Str->V}{pl:List V}{n:Int}{H H':Hp}(h:bQ K P2 C CD e src so f pl n H)(k:cg P2 e H H'){c:Addr}{o:HO}(ec:H c=some o)(h1:∀ps,o≠ .dD ps)(h2:∀a b l,o≠ .ins a b l)(h3:(∃l,o=.lst l)->c≠e.b/\c≠e.ps):H' c=some o:=by
 obtain⟨pt,hP⟩:=h.lam.tab
 refine k c o (λz=>by rw[z,hP] at ec;cases ec;exact h1 _ rfl) (λz=>?_) (λz=>by rw[z,h.dk.ob] at ec;cases ec;exact h2 _ _ _ rfl) (λz=>?_) ec
 . rw[z,h.g.at_] at ec;cases ec;exact(h3 ⟨_,rfl⟩).1 z
 . rw[z,h.dk.past] at ec;cases ec;exact(h3 ⟨_,rfl⟩).2 z
theorem bQ.tu {K:W.Frag}{P2 C CD:Addr}{e:En}{src so:Addr}{f:Str->V}{pl:List V}{n:Int}{H H':Hp}(h:bQ K P2 C CD e src so f pl n H)(k:cg P2 e H H'):Tu H H':=λc xs ec=>h.keep k ec (by intro ps z;cases z) (by intro a b l z;cases z) (λ⟨l,z⟩=>by cases z)
theorem bQ.jC {K:W.Frag}{P2 C CD:Addr}{e:En}{src so:Addr}{f:Str->V}{pl:List V}{n:Int}{H H':Hp}(h:bQ K P2 C CD e src so f pl n H)(k:cg P2 e H H'):jB K H' e.a e.ns:=by
 rcases h.g.jC with⟨o,h1⟩|h1
 . exact .inl ⟨o,h.keep k h1 (by intro ps z;cases z) (by intro a b l z;cases z) (λ⟨l,z⟩=>by cases z)⟩
 . exact .inr h1
theorem bQ.vwk {K:W.Frag}{P2 C CD:Addr}{e:En}{src so:Addr}{f:Str->V}{pl:List V}{n:Int}{H H':Hp}(h:bQ K P2 C CD e src so f pl n H)(k:cg P2 e H H'):∀h∈e.hks,∃dx nl,eX H' C h.2.1 dx nl h.2.2/\nl≠e.ps/\nl≠e.b:=λx hx=>by
 obtain⟨dx,nl,hV,h1,h2⟩:=h.vw x hx
 obtain⟨pt,hP⟩:=h.lam.tab
 refine⟨dx,nl,⟨k _ _ (λz=>?_) (λz=>?_) (λz=>?_) (λz=>?_) hV.ob,h.keep k hV.nl (by intro ps z;cases z) (by intro a b l z;cases z) (λ_=>⟨h2,h1⟩),hV.nd,hV.bO⟩,h1,h2⟩
 . have:=hV.ob;rw[z,hP] at this;cases this
 . have:=hV.ob;rw[z,h.g.at_] at this;cases this
 . have:=hV.ob;rw[z,h.dk.ob] at this;cases this
 . have:=hV.ob;rw[z,h.dk.past] at this;cases this
theorem bQ.lkk {K:W.Frag}{P2 C CD:Addr}{e:En}{src so:Addr}{f:Str->V}{pl:List V}{n:Int}{H H':Hp}(h:bQ K P2 C CD e src so f pl n H)(k:cg P2 e H H'):gP e.b e.ps H' e.cs e.hks:=by
 refine⟨h.lk.1,λi v x e1 e2=>?_⟩
 obtain⟨c,m,a1,a2,a3,a4,a5,a6,a7⟩:=h.lk.2 i v x e1 e2
 exact⟨c,m,a1,h.tu k _ _ a2,h.keep k a3 (by intro ps z;cases z) (by intro a b l z;cases z) (λ_=>⟨a6,a7⟩),a4,a5,a6,a7⟩
theorem bQ.go {K:W.Frag}{P2 C CD:Addr}{e:En}{src so src' so':Addr}{f f':Str->V}{pl cZ:List V}{n n':Int}{H H':Hp}(h:bQ K P2 C CD e src so f pl n H)(k:cg P2 e H H')(hb:H' e.b=some (.lst [.int n']))(hn:n<=n')(hT:bB P2 bM bN H')(hD:bW H' C CD e.d e.dd e.kk e.t src' e.vv e.ps e.xs e.fs f' e.hks cZ)(hs:H' so'=some (.dK (aK f' e.fs.names))):bQ K P2 C CD e src' so' f' cZ n' H':=
 ⟨⟨h.jC k,h.g.len,hb,Int.le_trans h.g.pos hn⟩,hT,hD,h.vI,h.vwk k,h.keep k h.hl (by intro ps z;cases z) (by intro a b l z;cases z) (λ_=>⟨h.hlb,h.hlp⟩),h.hlb,h.hlp,h.lkk k,hs,h.keep k h.sl (by intro ps z;cases z) (by intro a b l z;cases z) (λ_=>⟨h.vJ,h.vK⟩),h.vJ,h.vK⟩
theorem bQ.dkk {K:W.Frag}{P2 C CD:Addr}{e:En}{src so:Addr}{f:Str->V}{pl:List V}{n:Int}{H H':Hp}(h:bQ K P2 C CD e src so f pl n H)(k:cg P2 e H H')(h1:H' e.d=H e.d)(h2:H' e.ps=H e.ps):bW H' C CD e.d e.dd e.kk e.t src e.vv e.ps e.xs e.fs f e.hks pl:=
 ⟨by rw[h1];exact h.dk.ob,h.dk.gM,λx hx=>by obtain⟨dx,nl,hV,a1,_⟩:=h.vwk k x hx;exact⟨dx,nl,hV,a1⟩,h.dk.bO,h.dk.oX,h.dk.kd.mono (h.tu k),h.dk.cV,h.dk.inn,h.keep k h.dk.sr (by intro ps z;cases z) (by intro a b l z;cases z) (λ⟨l,z⟩=>by cases z),h.dk.fk,h.keep k h.dk.vs (by intro ps z;cases z) (by intro a b l z;cases z) (λ⟨l,z⟩=>by cases z),by rw[h2];exact h.dk.past⟩
theorem bQ.sok {K:W.Frag}{P2 C CD:Addr}{e:En}{src so:Addr}{f:Str->V}{pl:List V}{n:Int}{H H':Hp}(h:bQ K P2 C CD e src so f pl n H)(k:cg P2 e H H'):H' so=some (.dK (aK f e.fs.names)):=h.keep k h.so (by intro ps z;cases z) (by intro a b l z;cases z) (λ⟨l,z⟩=>by cases z)
theorem bQ.db {K:W.Frag}{P2 C CD:Addr}{e:En}{src so:Addr}{f:Str->V}{pl:List V}{n:Int}{H:Hp}(h:bQ K P2 C CD e src so f pl n H):e.d≠e.b:=λz=>by have:=h.dk.ob;rw[z,h.g.at_] at this;cases this
theorem bQ.sb {K:W.Frag}{P2 C CD:Addr}{e:En}{src so:Addr}{f:Str->V}{pl:List V}{n n':Int}{H H':Hp}(h:bQ K P2 C CD e src so f pl n H)(s:SB e.b H H')(hb:H' e.b=some (.lst [.int n']))(hn:n<=n'):bQ K P2 C CD e src so f pl n' H':=by
 have k:cg P2 e H H':=λc o _ n2 _ _ ec=>s c o n2 ec
 exact h.go k hb hn (h.lam.sb h.g.at_ s) (h.dkk k (by rw[h.dk.ob];exact s _ _ h.db h.dk.ob) (by rw[h.dk.past];exact s _ _ h.vI h.dk.past)) (h.sok k)
theorem bQ.same {K:W.Frag}{P2 C CD:Addr}{e:En}{src so:Addr}{f:Str->V}{pl:List V}{n:Int}{H H':Hp}(h:bQ K P2 C CD e src so f pl n H)(s:Same H H'):bQ K P2 C CD e src so f pl n H':=h.sb (SB.of s) (s _ _ h.g.at_) (Q1c _)
theorem bQ.kp {K:W.Frag}{P2 C CD:Addr}{e:En}{src so:Addr}{f:Str->V}{pl:List V}{n:Int}{H H':Hp}(h:bQ K P2 C CD e src so f pl n H)(s:fG P2 H H')(hT:bB P2 bM bN H'):bQ K P2 C CD e src so f pl n H':=by
 have k:cg P2 e H H':=λc o n1 _ _ _ ec=>s c o n1 ec
 exact h.go k (s.keep h.lam h.g.at_ (by intro ps z;cases z)) (Q1c _) hT (h.dkk k (by rw[h.dk.ob];exact s.keep h.lam h.dk.ob (by intro ps z;cases z)) (by rw[h.dk.past];exact s.keep h.lam h.dk.past (by intro ps z;cases z))) (h.sok k)
theorem bQ.Ml {K:W.Frag}{P2 C CD:Addr}{e:En}{src so src' so':Addr}{f f':Str->V}{pl cZ:List V}{n:Int}{H H':Hp}(h:bQ K P2 C CD e src so f pl n H)(s:KP P2 e.d e.ps H H')(hT:bB P2 bM bN H')(hD:bW H' C CD e.d e.dd e.kk e.t src' e.vv e.ps e.xs e.fs f' e.hks cZ)(hs:H so'=some (.dK (aK f' e.fs.names))):bQ K P2 C CD e src' so' f' cZ n H':=by
 obtain⟨pt,hP⟩:=h.lam.tab
 have hb:H' e.b=some (.lst [.int n]):=s _ _ (λz=>by have:=h.g.at_;rw[z,hP] at this;cases this) (Ne.symm h.db) (Ne.symm h.vI) h.g.at_
 have k:cg P2 e H H':=λc o n1 _ n3 n4 ec=>s c o n1 n3 n4 ec
 exact h.go k hb (Q1c _) hT hD (h.keep k hs (by intro ps z;cases z) (by intro a b l z;cases z) (λ⟨l,z⟩=>by cases z))
theorem cg.kp {P2:Addr}{e:En}{H H':Hp}(k:KP P2 e.d e.ps H H'):cg P2 e H H':=λc o n1 _ n3 n4 ec=>k c o n1 n3 n4 ec
theorem gP.get {b ps:Addr}{H:Hp}{cs:List V}{hks:List Hk}(h:gP b ps H cs hks){i:Nat}(hi:i<hks.length):∃c n,cs[i]? =some (.ref c)/\H c=some (.tup [.str hks[i].1,.ref n])/\H n=some (.lst (hks[i].2.2.map V.str))/\hks[i].2.2.Nodup/\hks[i].2.2.length<=12/\n≠b/\n≠ps:=by
 have hc:i<cs.length:=by rw[h.1];exact hi
 obtain⟨c,n,a1,a2⟩:=h.2 i _ _ (Q05 hc) (Q05 hi)
 exact⟨c,n,by rw[Q05 hc,a1],a2⟩
noncomputable def lO (H:Hp) (vv:Addr) (fs:Fs) (vs:List V) (F:List (Str->V)):Prop:=vs.length=F.length/\∀(i:Nat) v f,vs[i]? =some v->F[i]? =some f->∃s,v=.ref s/\s≠vv/\H s=some (.dK (aK f fs.names))/\FK fs f
section
variable {H H':Hp}{vv:Addr}{fs:Fs}{vs:List V}{F:List (Str->V)}{f g:Str->V}
theorem lO.keep (h:lO H vv fs vs F)(k:∀s kv,s≠vv->H s=some (.dK kv)->H' s=some (.dK kv)):lO H' vv fs vs F:=⟨h.1,λi v f e1 e2=>by
 obtain⟨s,a1,a2,a3,a4⟩:=h.2 i v f e1 e2
 exact⟨s,a1,a2,k _ _ a2 a3,a4⟩⟩
theorem lO.snoc {s:Addr}(h:lO H vv fs vs F)(h1:s≠vv)(h2:H s=some (.dK (aK f fs.names)))(h3:FK fs f):lO H vv fs (vs++[.ref s]) (F++[f]):=by
 refine⟨by rw[Q07,Q07,h.1];rfl,λi v f' e1 e2=>?_⟩
 by_cases hi:i<vs.length
 . rw[Q0q hi] at e1
   rw[Q0q (by rw[<-h.1];exact hi)] at e2
   exact h.2 i v f' e1 e2
 . rw[Q0i (by omega)] at e1
   rw[Q0i (by rw[<-h.1];omega),<-h.1] at e2
   cases hj:i - vs.length with
   |zero=>
    rw[hj] at e1 e2
    cases e1
    cases e2
    exact⟨s,rfl,h1,h2,h3⟩
   |succ j=>rw[hj] at e1;cases e1
theorem lO.last (h:lO H vv fs vs (F++[f])):∃us s,vs=us++[.ref s]/\s≠vv/\H s=some (.dK (aK f fs.names))/\FK fs f/\lO H vv fs us F:=by
 have hl:vs.length=F.length+1:=by rw[h.1,Q07];rfl
 have hne:vs≠[]:=λz=>by rw[z] at hl;cases hl
 obtain⟨us,u,rfl⟩:∃us u,vs=us++[u]:=⟨vs.dropLast,vs.getLast hne,(Q32 hne).symm⟩
 have hd:us.length=F.length:=by rw[Q07] at hl;exact Nat.succ.inj hl
 have h1:(us++[u])[F.length]? =some u:=by
  rw[Q0i (by omega),hd,Q16]
  rfl
 obtain⟨s,a1,a2,a3,a4⟩:=h.2 F.length _ f h1 (by rw[Q0i (Q01 _),Q16];rfl)
 refine⟨us,s,by rw[a1],a2,a3,a4,hd,λi v f' e1 e2=>?_⟩
 have hi:i<us.length:=(List.getElem?_eq_some_iff.mp e1).1
 refine h.2 i v f' ?_ ?_
 . rw[Q0q hi];exact e1
 . rw[Q0q (by omega)];exact e2
end
structure gQ (H:Hp) (e:En) (pa:Addr) (qs pl:List V) (G:List (Str->V)) (f:Str->V):Prop where
 at_:H pa=some (.lst qs)
 nb:pa≠e.b
 np:pa≠e.ps
 q:lO H e.vv e.fs qs (G++[f])
 p:lO H e.vv e.fs pl G
theorem sH (xs:List V)(v:V):dZ (xs++[v]) (-1)=some v:=by
 have h:jy (xs++[v]).length (-1)=some xs.length:=by
  unfold jy
  rw[Q07]
  rw[if_neg (by decide),if_pos (by show -((xs.length+1:Nat):Int)<= -1;omega)]
  congr 1
  show(-1+((xs.length+1:Nat):Int)).toNat=xs.length
  omega
 unfold dZ
 rw[h]
 show(xs++[v])[xs.length]? =some v
 rw[Q0i (Q01 _),Q16]
 rfl
theorem alC (xs:List V)(u v:V):dZ (xs++[u]++[v]) (-2)=some u:=by
 have h:jy (xs++[u]++[v]).length (-2)=some xs.length:=by
  unfold jy
  rw[Q07,Q07]
  rw[if_neg (by decide),if_pos (by show -((xs.length+1+1:Nat):Int)<= -2;omega)]
  congr 1
  show(-2+((xs.length+1+1:Nat):Int)).toNat=xs.length
  omega
 unfold dZ
 rw[h]
 show(xs++[u]++[v])[xs.length]? =some u
 rw[Q2t,Q0i (Q01 _),Q16]
 rfl
theorem alD (xs:List V)(v:V):iC (xs++[v]) none (some (-1))=xs:=by
 have e:HT.bJ (xs++[v]).length (xs++[v]).length (some (-1))=xs.length:=by
  rw[Q07]
  show(if(-1:Int)<0 then(-1+((xs.length+1:Nat):Int)).toNat else min (-1:Int).toNat (xs.length+1))=xs.length
  rw[if_pos (by decide)]
  omega
 unfold iC
 rw[e]
 show List.take (xs.length - 0) (xs++[v])=xs
 rw[Nat.sub_zero,List.take_left']
 rfl
section
variable {K:W.Frag}{P2 C CD:Addr}{e:En}{src so pa:Addr}{f:Str->V}{pl qs:List V}{G:List (Str->V)}{n:Int}{H H':Hp}
theorem gQ.go (h:gQ H e pa qs pl G f)(S:bQ K P2 C CD e src so f pl n H)(k:cg P2 e H H'):gQ H' e pa qs pl G f:=by
 have kd:∀s kv,s≠e.vv->H s=some (.dK kv)->H' s=some (.dK kv):=λs kv _ es=>S.keep k es (by intro ps z;cases z) (by intro a b l z;cases z) (λ⟨l,z⟩=>by cases z)
 exact⟨S.keep k h.at_ (by intro ps z;cases z) (by intro a b l z;cases z) (λ_=>⟨h.nb,h.np⟩),h.nb,h.np,h.q.keep kd,h.p.keep kd⟩
theorem cg.sb (s:SB e.b H H'):cg P2 e H H':=λc o _ n2 _ _ ec=>s c o n2 ec
theorem cg.same (s:Same H H'):cg P2 e H H':=λc o _ _ _ _ ec=>s c o ec
theorem cg.kpt (s:fG P2 H H'):cg P2 e H H':=λc o n1 _ _ _ ec=>s c o n1 ec
theorem bQ.hung (h:bQ K P2 C CD e src so f pl n H)(k:∀c o,c≠P2->c≠e.vv->H c=some o->H' c=some o)(hT:bB P2 bM bN H'){hks:List Hk}{cs:List V}{hl:Addr}(hD:bW H' C CD e.d e.dd e.kk e.t src e.vv e.ps e.xs e.fs f hks pl)(hso:so≠e.vv)
 (vw:∀h∈hks,∃dx nl,eX H' C h.2.1 dx nl h.2.2/\nl≠e.ps/\nl≠e.b) (h1:H' hl=some (.lst cs)) (h2:hl≠e.b) (h3:hl≠e.ps) (lk:gP e.b e.ps H' cs hks):bQ K P2 C CD { e with hl:=hl,hks:=hks,cs:=cs } src so f pl n H':=by
 obtain⟨pt,hPt⟩:=h.lam.tab
 have kk:∀{c:Addr} {o:HO},(∀ps,o≠ .dD ps)->(∀kv,o≠ .dK kv)->H c=some o->H' c=some o:=λ{c o} n1 n2 ec=>k c o (λz=>by rw[z,hPt] at ec;cases ec;exact n1 _ rfl) (λz=>by rw[z,h.dk.vs] at ec;cases ec;exact n2 _ rfl) ec
 have jC:jB K H' e.a e.ns:=by
  rcases h.g.jC with⟨o,h1⟩|h1
  . exact .inl ⟨o,kk (by intro ps z;cases z) (by intro ps z;cases z) h1⟩
  . exact .inr h1
 exact⟨⟨jC,h.g.len,kk (by intro ps z;cases z) (by intro ps z;cases z) h.g.at_,h.g.pos⟩,hT,hD,h.vI,vw,h1,h2,h3,lk,k _ _ (λz=>by have:=h.so;rw[z,hPt] at this;cases this) hso h.so,kk (by intro ps z;cases z) (by intro ps z;cases z) h.sl,h.vJ,h.vK⟩
theorem gQ.hung (h:gQ H e pa qs pl G f)(S:bQ K P2 C CD e src so f pl n H)(k:∀c o,c≠P2->c≠e.vv->H c=some o->H' c=some o):gQ H' e pa qs pl G f:=by
 obtain⟨pt,hPt⟩:=S.lam.tab
 have kd:∀s kv,s≠e.vv->H s=some (.dK kv)->H' s=some (.dK kv):=λs kv hs es=>k s _ (λz=>by rw[z,hPt] at es;cases es) hs es
 exact⟨k _ _ (λz=>by have:=h.at_;rw[z,hPt] at this;cases this) (λz=>by have:=h.at_;rw[z,S.dk.vs] at this;cases this) h.at_,h.nb,h.np,h.q.keep kd,h.p.keep kd⟩
theorem gP.snoc {b ps:Addr}{cs:List V}{hks:List Hk}{v:V}{h:Hk}(L:gP b ps H cs hks)(hv:∃c n,v=.ref c/\H c=some (.tup [.str h.1,.ref n])/\H n=some (.lst (h.2.2.map V.str))/\h.2.2.Nodup/\h.2.2.length<=12/\n≠b/\n≠ps):gP b ps H (cs++[v]) (hks++[h]):=by
 refine⟨by rw[Q07,Q07,L.1];rfl,λi v' h' e1 e2=>?_⟩
 by_cases hi:i<cs.length
 . rw[Q0q hi] at e1
   rw[Q0q (by rw[<-L.1];exact hi)] at e2
   exact L.2 i v' h' e1 e2
 . rw[Q0i (by omega)] at e1
   rw[Q0i (by rw[<-L.1];omega),<-L.1] at e2
   cases hj:i - cs.length with
   |zero=>
    rw[hj] at e1 e2
    cases e1
    cases e2
    exact hv
   |succ j=>rw[hj] at e1;cases e1
theorem gP.keep {b ps:Addr}{cs:List V}{hks:List Hk}(L:gP b ps H cs hks)(k:∀c o,((∃xs,o=.tup xs)\/∃xs,o=.lst xs/\c≠b/\c≠ps)->H c=some o->H' c=some o):gP b ps H' cs hks:=⟨L.1,λi v h e1 e2=>by
 obtain⟨c,n,a1,a2,a3,a4,a5,a6,a7⟩:=L.2 i v h e1 e2
 exact⟨c,n,a1,k _ _ (.inl ⟨_,rfl⟩) a2,k _ _ (.inr ⟨_,rfl,a6,a7⟩) a3,a4,a5,a6,a7⟩⟩
theorem alF {p q:Addr}{ss:List Str}{fs:Fs}{f:Str->V}(hp:H p=some (.dK (aK f (fs.names.filter λx=>decide (x∈ss)))))(hq:H q=some (.dK (aK f ss)))(hne:p≠q)(nd:fs.names.Nodup)(yO:ss.Nodup)(hin:∀x∈ss,x∈fs.names)(h12:ss.length<=12)(hf:FK fs f):Sm H 6 (.ref p) (.ref q):=by
 refine .inr (.inr (.inr ⟨p,q,ss,_,f,rfl,rfl,hne,hp,hq,h12,(Mh nd yO hin).length_eq,λx hx=>⟨List.mem_filter.mpr ⟨hin x hx,decide_eq_true hx⟩,?_⟩⟩))
 obtain⟨k,hk⟩:=Fs.uH (hin x hx)
 exact(hf x k hk).sm
theorem acB {p q:Addr}{fs:Fs}{f:Str->V}(hp:H p=some (.dK (aK f fs.names)))(hq:H q=some (.dK (aK f fs.names)))(hne:p≠q)(h12:fs.names.length<=12)(hf:FK fs f):Sm H 6 (.ref p) (.ref q):=by
 refine .inr (.inr (.inr ⟨p,q,_,_,f,rfl,rfl,hne,hp,hq,h12,rfl,λx hx=>⟨hx,?_⟩⟩))
 obtain⟨k,hk⟩:=Fs.uH hx
 exact(hf x k hk).sm
theorem alG {fs:Fs}{ss:List Str}{g:Str->V}(nd:fs.names.Nodup)(yO:ss.Nodup)(hin:∀x∈ss,x∈fs.names)(hg:FK fs g):m7 (fs.dH ss) (aK g ss):=by
 refine⟨by rw[gF,Fs.ji,(Mh nd yO hin).length_eq],λi nm k hat=>?_⟩
 have e:=Fs.tX (by rw[Fs.ji];exact nd.filter _) hat
 rw[Fs.CG] at e
 by_cases z:nm∈ss
 . rw[if_pos z] at e
   exact⟨g nm,by rw[iK,if_pos z],hg _ _ e⟩
 . rw[if_neg z] at e;cases e
end
theorem alH {T:TT}{A B:TS}{D:Ends}{σ:L2.St}{H:Hp}(p:Bool->Prop)(ht:∀Qk:Bool->Hp->Prop,(∀b,p b->Qk b H)->T σ H Qk)(h1:p true->A D σ H)(h0:p false->B D σ H):pL T A B D σ H:=ht _ λb hb=>by
 cases b
 . exact bH (h0 hb)
 . exact bZ (h1 hb)
theorem acC {T:TT}{A B R:TS}{D:Ends}{σ:L2.St}{H:Hp}(p:Bool->Prop)(ht:∀Qk:Bool->Hp->Prop,(∀b,p b->Qk b H)->T σ H Qk)(h1:p true->A { D with nx:=R D } σ H)(h0:p false->B { D with nx:=R D } σ H):Gg (pL T A B) R D σ H:=alH p ht h1 h0
noncomputable def longer (ss:List Str) (n:Nat):Nat:=(ss.filter λx=>decide (n<=x.length)).length
theorem alI (ss:List Str)(n:Nat):longer ss (n+1)<=longer ss n:=by
 induction ss with
 |nil=>exact Q01 _
 |cons x r ih=>
  unfold longer at ih ⊢
  rw[Q0s,Q0s]
  by_cases h1:n+1<=x.length
  . rw[if_pos (decide_eq_true h1),if_pos (decide_eq_true (by omega:n<=x.length))]
    exact Q2v ih
  . rw[if_neg (by rw[decide_eq_false h1];decide)]
    by_cases h2:n<=x.length
    . rw[if_pos (decide_eq_true h2)]
      exact Nat.le_succ_of_le ih
    . rw[if_neg (by rw[decide_eq_false h2];decide)]
      exact ih
theorem acD {nm:Str}:∀{ss:List Str},nm∈ss->longer ss (nm.length+1)<longer ss nm.length
 |x::r,h=>by
  have il:=alI r nm.length
  rcases List.mem_cons.mp h with e|e
  . subst e
    unfold longer at il ⊢
    rw[Q0s,Q0s,if_neg (by rw[decide_eq_false (by omega)];decide),if_pos (decide_eq_true (Q01 _))]
    exact Nat.lt_succ_of_le il
  . have ih:=acD e
    unfold longer at ih ⊢
    rw[Q0s,Q0s]
    by_cases h1:nm.length+1<=x.length
    . rw[if_pos (decide_eq_true h1),if_pos (decide_eq_true (by omega:nm.length<=x.length))]
      exact Nat.succ_lt_succ ih
    . rw[if_neg (by rw[decide_eq_false h1];decide)]
      by_cases h2:nm.length<=x.length
      . rw[if_pos (decide_eq_true h2)]
        exact Q1r ih
      . rw[if_neg (by rw[decide_eq_false h2];decide)]
        exact ih
noncomputable def acE:Sp:=λvs H Q _=>∃l m,∃ss:List Str,vs=[.ref l,.int m]/\H l=some (.lst (ss.map V.str))/\ss.length<=12/\∀nm,nm ∉ ss->Q (.str nm) H
noncomputable def acF (K:W.Frag) (P2 C CD:Addr):Sp:=λvs H Q _=>∃(e:En) (src so pa:Addr) (f:Str->V) (pl qs:List V) (G:List (Str->V)) (n:Int),vs=[.ref e.d,.ref e.hl,.ref pa]/\bQ K P2 C CD e src so f pl n H/\gQ H e pa qs pl G f/\
 ∀r so' src' bT f' cZ Mp G' H',bQ K P2 C CD e src' so' f' cZ n H'->gQ H' e bT Mp cZ G' f'->G'.length=G.length - 1->H' r=some (.tup [.ref bT,.bl true])->Q (.ref r) H'
section
variable {P:Program}{w:World}{K:W.Frag}{mg:Str->Option Value}{base:Heap}
variable {C P2 CD:Addr}
theorem acG:bA ["_law_names_here","_law_m","_law_name"] ["_law_names_here","_law_m"] (aL (top 76)):=by refine⟨rfl,rfl,rfl,?_,rfl,?_,?_⟩ <;> decide+kernel
theorem alJ (T:Tb mg)(vL:Dn K mg "_law_spare" Cg (top 76) Mq Mr):aq P w K mg base aB (1) Mq Mr Cg (acE):=by
 refine vL.F.ok acG (λvs H Q E h=>?_) (λcdv A outer s H vs Q E hr h=>?_)
 . obtain⟨l,m,ss,rfl,_⟩:=h
   rfl
 obtain⟨l,m,ss,rfl,hl,h12,q⟩:=h
 have nd:=acG.nd
 refine⟨_,(ao (bw (i:=2) nd rfl (Or.inl rfl) (aU wz (aZ tK bD (aU dh (pv 1) aG) (λ_ _=>rfl)) bD))
  (ao (aeC PassesOwn.never (aV Yj (pv 2) (pv 0) (by with_unfolding_all rfl)) (aD (bw (i:=2) nd rfl (Or.inl rfl) (aU wz (pv 2) bD))))
  (aD (aP (pv 2))))),?_⟩
 have hz:(abc).length<=sizeLine:=by decide+kernel
 have m0:0<=m % 26:=Q11 _ (by decide)
 have m1:m % 26<26:=Q12 _ (by decide)
 refine⟨_,rfl,_,_,rfl,rfl,(by show(0:Int)<26;decide),_,_,_,rfl,rfl,hz,Ba m0 m1,_,_,rfl,rfl,sW,?_⟩
 have alK:∀n,longer ss n<=ss.length:=λn=>Q0z _ _
 refine⟨λk σ H'=>H'=H/\∃nm:Str,σ=[some (.ref l),some (.int m),some (.str nm)]/\k=longer ss nm.length/\nm.length+longer ss nm.length<=3+ss.length,⟨_,rfl,_,rfl,rfl,?_⟩,?_⟩
 . exact Nat.add_le_add (Q01 3) (alK _)
 rintro k σ H' ⟨rfl,nm,rfl,rfl,hk⟩
 refine⟨_,rfl,_,rfl,l,_,rfl,.inl (aC.of hl),rfl,Js,_,rfl,dM (λc=>?_) (λc=>?_)⟩
 . have hin:nm∈ss:=of_decide_eq_true (Cz.symm.trans (show inV (V.str nm) (ss.map V.str)=true from c))
   have hlt:=acD hin
   have el:(nm++("v":Str)).length=nm.length+1:=aha _ _
   refine⟨λσ' H2=>H2=H'/\σ'=[some (.ref l),some (.int m),some (.str (nm++"v"))],λσ' H2 h2=>?_,_,rfl,_,_,rfl,rfl,?_,rfl,rfl⟩
   . obtain⟨rfl,rfl⟩:=h2
     refine⟨longer ss (nm++("v":Str)).length,by rw[el];exact hlt,rfl,nm++"v",rfl,rfl,?_⟩
     rw[el]
     omega
   . have hb:nm.length+(("v":Str)).length<=1000:=by
      show nm.length+1<=1000
      omega
     exact Q0m (cP hb)
 . have hno:nm ∉ ss:=λz=>c (show inV (V.str nm) (ss.map V.str)=true from Cz.trans (decide_eq_true z))
   exact⟨_,rfl,q nm hno⟩
theorem acH:bA ["_law_desk","_law_hooks","_law_past","_law_due"] ["_law_desk","_law_hooks","_law_past"] (aL (top 84)):=by refine⟨rfl,rfl,rfl,?_,rfl,?_,?_⟩ <;> decide+kernel
theorem alL (T:Tb mg)(sI:Dn K mg "_law_undone" Ci (top 84) Ms Mt)(sy:Dn K mg "_law_undo" Ca (top 83) Ly Lz)(acI:aq P w K mg base aB (15) Ly Lz Ca (ab4 P2 C CD))(nA:Dn K mg "_law_pairs" uo (top 80) yP yQ)(Ea:aq P w K mg base aB (1) yP yQ uo (Mi))(dU:Dn K mg "_law_same" jh (top 75) jK jL)(iU:aq P w K mg base aB (7) jK jL jh (qC 6)):aq P w K mg base aB (16) Ms Mt Ci (acF K P2 C CD):=by
 refine sI.F.ok acH (λvs H Q E h=>?_) (λcdv A outer s H vs Q E hr h=>?_)
 . obtain⟨e,src,so,pa,f,pl,qs,G,n,rfl,_⟩:=h
   rfl
 obtain⟨e,src,so,pa,f,pl,qs,G,n,rfl,S,W,q⟩:=h
 have nd:=acH.nd
 have bO:=S.dk.kd.bO
 refine⟨_,(ao (aW (aV Gu (aY d8 (by rfl) T.dG PySem.boot_len (aj (pv 2) ak)) aG (aQ _)) (aD (aP (cO (aj (pv 2) (aj (aR iU (hr.mono (by decide)) dU (aj (aR acI (hr.mono (by decide)) sy (aj (pv 0) ak)) (aj (cO (aj bD (aj aG ak))) ak))) ak))))) aX)
  (ao (bw (i:=3) nd rfl (Or.inl rfl) (aR Ea (hr.mono (by decide)) nA (aj (pv 1) (aj (aZ eO (pv 2) (nM nO aG) (λ_ _=>rfl)) (aj (aZ eO (pv 2) (nM nO aG) (λ_ _=>rfl)) ak)))))
  (aD (aP (cO (aj (GD Yg (pv 2) Gy (Gz (nM nO aG))) (aj (aR iU (hr.mono (by decide)) dU (aj (aR acI (hr.mono (by decide)) sy (aj (pv 0) ak)) (aj (cO (aj bD (aj (pv 3) ak))) ak))) ak))))))),?_⟩
 have Eb:qs.length=G.length+1:=by rw[W.q.1,Q07];rfl
 refine⟨_,rfl,pa,_,rfl,.inl (aC.of W.at_),_,_,rfl,rfl,_,rfl,dM (λc=>?_) (λc=>?_)⟩
 . have h2:(qs.length:Int)<2:=of_decide_eq_true c
   have Mu:G.length=0:=by omega
   have Mv:pl=[]:=List.length_eq_zero_iff.mp (by rw[W.p.1];exact Mu)
   subst Mv
   refine⟨_,rfl,_,rfl,.inr ⟨e.d,e.dd,e.kk,e.t,src,e.vv,e.ps,e.xs,e.fs,e.hks,f,rfl,S.dk,λtq H1 s1 dY=>?_⟩⟩
   refine⟨dg,λiV pA=>?_⟩
   have s2:=Same.new pA (o:=.tup [.str "no deed",.int 0])
   refine⟨.ref tq,.ref iV,rfl,D_ (s2 _ _ dY) aF (Sm.zero (.inl ⟨_,rfl,rfl⟩) 5),λH3 s3=>?_⟩
   refine⟨dg,λr hr=>?_⟩
   have s4:=Same.new hr (o:=.tup [.ref pa,.bl true])
   have sA:=s1.trans (s2.trans (s3.trans s4))
   exact q r so src pa f [] qs G _ (S.same sA) (W.go S (cg.same sA)) (by omega) aF
 . have h2:2<=qs.length:=by
    have:=Int.not_lt.mp λz=>c (decide_eq_true z)
    have:(2:Int)<=(qs.length:Nat):=this
    omega
   have acJ:G≠[]:=λz=>by rw[z] at Eb;simp at Eb;omega
   obtain⟨G0,g,rfl⟩:∃G0 g,G=G0++[g]:=⟨G.dropLast,G.getLast acJ,(Q32 acJ).symm⟩
   obtain⟨us,s1,rfl,n1,hs1,qF,hus⟩:=W.q.last
   obtain⟨yS,s2,rfl,n2,hs2,fk2,acL⟩:=hus.last
   obtain⟨Mw,s0,rfl,n0,hs0,fk0,Mv⟩:=W.p.last
   refine⟨_,rfl,_,rfl,_,rfl,pa,_,_,_,rfl,rfl,aC.of W.at_,sH _ _,_,rfl,_,rfl,pa,_,_,_,rfl,rfl,aC.of W.at_,alC _ _ _,e.hl,s1,s2,e.cs,e.hks,e.fs,f,g,rfl,S.hl,S.lk.at,S.dk.bO,hs1,hs2,qF,fk2,S.dk.kd.nd,S.dk.kd.so,S.dk.inn,λp2 ds H1 sa yU hp2 yV=>?_⟩
   refine⟨_,rfl,_,rfl,_,rfl,pa,_,rfl,aC.of (sa _ _ W.at_),λbT qG=>?_⟩
   rw[alD]
   have sb:=Same.new qG (o:=.lst (yS++[.ref s2]))
   have eb:upd H1 bT (.lst (yS++[.ref s2])) bT=some (.lst (yS++[.ref s2])):=aF
   have yW:H bT=none:=sG sa qG
   generalize upd H1 bT (.lst (yS++[.ref s2]))=H2 at sb eb
   have Ec:=sa.trans sb
   have S2:=S.same Ec
   refine⟨_,rfl,.inl ⟨e.d,e.dd,e.kk,e.t,src,e.vv,e.ps,e.xs,e.fs,e.hks,Mw,s0,f,g,rfl,S2.dk,S2.lam,Ec _ _ hs0,n0,fk0,λtq p cs H4 k4 u6 hD4 dY hp iR=>?_⟩⟩
   obtain⟨pt,hPt⟩:=S.lam.tab
   have kk:∀c o,H c=none->H2 c=some o->H4 c=some o:=λc o hN ec=>k4 c o (λz=>by rw[z,hPt] at hN;cases hN) (λz=>by rw[z,S.dk.ob] at hN;cases hN) (λz=>by rw[z,S.dk.past] at hN;cases hN) ec
   have Ma:=S2.tu (cg.kp k4)
   have alO:eZ H4 ds e.hks (iQ e.fs f g):=(yV.keep (λc o ho ec=>by
    rcases ho with⟨xs,rfl⟩|hN
    . exact Ma _ _ (sb _ _ ec)
    . exact kk c o hN (sb _ _ ec))).at
   have S4:=S2.Ml k4 u6 hD4 (Ec _ _ hs2)
   have yX:∀s kv,s≠e.vv->H s=some (.dK kv)->H4 s=some (.dK kv):=λs kv _ es=>S2.keep (cg.kp k4) (Ec _ _ es) (by intro ps z;cases z) (by intro a b l z;cases z) (λ⟨l,z⟩=>by cases z)
   have W4:gQ H4 e bT (yS++[.ref s2]) Mw G0 g:=⟨kk _ _ yW eb,(λz=>by rw[z,S.g.at_] at yW;cases yW),(λz=>by rw[z,S.dk.past] at yW;cases yW),hus.keep yX,Mv.keep yX⟩
   refine⟨_,rfl,dg,λiV pA=>?_⟩
   have s5:=Same.new pA (o:=.tup [.str "told",.ref p2])
   have sm:=Mj fk2 bO S.dk.bO (s5 _ _ dY) (s5 _ _ hp) (iR.keep λc' o' _ e=>s5 _ _ e) aF (s5 _ _ (kk _ _ yU (sb _ _ hp2))) (alO.keep λc' o' _ e=>s5 _ _ e)
   refine⟨.ref tq,.ref iV,rfl,sm,λH6 s6=>?_⟩
   refine⟨dg,λr hr=>?_⟩
   have s7:=Same.new hr (o:=.tup [.ref bT,.bl true])
   have sA:=s5.trans (s6.trans s7)
   exact q r s2 s0 bT g Mw _ G0 _ (S4.same sA) (W4.go S4 (cg.same sA)) (by rw[Q07];rfl) aF
end
noncomputable def acM (K:W.Frag) (P2 C CD:Addr):Sp:=λvs H Q _=>∃(e:En) (src so pa:Addr) (f:Str->V) (pl qs:List V) (G:List (Str->V)) (n way:Int),vs=[.ref e.a,.ref e.b,.ref e.d,.ref e.hl,.ref e.t,.ref pa,.int way]/\bQ K P2 C CD e src so f pl n H/\gQ H e pa qs pl G f/\n+60<=1000000000000/\G.length<=800/\1<=e.fs.names.length/\
 ∀r so' src' bT f' cZ Mp G' n' H',bQ K P2 C CD e src' so' f' cZ n' H'->gQ H' e bT Mp cZ G' f'->G'.length<=G.length+1->n<=n'->n'<=n+20->H' r=some (.tup [.ref bT,.bl true])->Q (.ref r) H'
section
variable {P:Program}{w:World}{K:W.Frag}{mg:Str->Option Value}{base:Heap}
variable {C P2 CD:Addr}
theorem gQ.next {e:En}{src so pa bT nw:Addr}{f g:Str->V}{pl qs:List V}{G:List (Str->V)}{n:Int}{H H':Hp}(W:gQ H e pa qs pl G f)(S:bQ K P2 C CD e src so f pl n H)(k:∀s kv,s≠e.vv->H s=some (.dK kv)->H' s=some (.dK kv))(h1:H' bT=some (.lst (qs++[.ref nw])))(h2:bT≠e.b)(h3:bT≠e.ps)(h4:nw≠e.vv)(h5:H' nw=some (.dK (aK g e.fs.names)))(h6:FK e.fs g):gQ H' e bT (qs++[.ref nw]) (pl++[.ref src]) (G++[f]) g:=
 ⟨h1,h2,h3,(W.q.keep k).snoc h4 h5 h6,(W.p.keep k).snoc S.dk.gM (k _ _ S.dk.gM S.dk.sr) S.dk.fk⟩
theorem acN:bA ["_law_script","_law_at","_law_desk","_law_hooks","_law_fields_here","_law_past","_law_way","_law_m","_law_paper","_law_now","_law_faulty","_law_hook","_law_names_here","_law_seen","_law_due"] ["_law_script","_law_at","_law_desk","_law_hooks","_law_fields_here","_law_past","_law_way"] (aL (top 85)):=by refine⟨rfl,rfl,rfl,?_,rfl,?_,?_⟩ <;> decide+kernel
theorem alP (T:Tb mg)(vM:Dn K mg "_law_deed_by" Cj (top 85) Mx Mz)(dB:Dn K mg "_law_next" cN (top 64) gj gk)(gD:aq P w K mg base aB (1) gj gk cN (mV K))(vG:Dn K mg "_law_sets" Ce (top 78) LR L_)(alQ:aq P w K mg base aB (4) LR L_ Ce (acg K))(o_:Dn K mg "_law_taken" um (top 79) yM yN)(MF:aq P w K mg base aB (1) yM yN um (Mg))(nA:Dn K mg "_law_pairs" uo (top 80) yP yQ)(Ea:aq P w K mg base aB (1) yP yQ uo (Mi))(rZ:Dn K mg "_law_change" BZ (top 81) Lq Lr)(acO:aq P w K mg base aB (16) Lq Lr BZ (abZ K P2 C CD))(vB:Dn K mg "_law_put_by" B_ (top 82) Ls Lx)(alR:aq P w K mg base aB (16) Ls Lx B_ (ab3 P2 C CD))(dU:Dn K mg "_law_same" jh (top 75) jK jL)(iU:aq P w K mg base aB (7) jK jL jh (qC 6)):aq P w K mg base aB (17) Mx Mz Cj (acM K P2 C CD):=by
 refine vM.F.ok acN (λvs H Q E h=>?_) (λcdv A outer s H vs Q E hr h=>?_)
 . obtain⟨e,src,so,pa,f,pl,qs,G,n,way,rfl,_⟩:=h
   rfl
 obtain⟨e,src,so,pa,f,pl,qs,G,n,way,rfl,S,W,hn,hG,hf1,q⟩:=h
 have nd:=acN.nd
 have hu:=fY hr
 have bO:=S.dk.kd.bO
 have uE:e.xs.length=e.fs.names.length:=FA.len e.fs S.dk.kd.fa
 refine⟨_,(ao (bw (i:=7) nd rfl (Or.inl rfl) (aR gD (hr.mono (by decide)) dB (aj (pv 0) (aj (pv 1) ak))))
  (ao (qT (aR alQ (hr.mono (by decide)) vG (aj (pv 0) (aj (pv 1) (aj (pv 4) (aj (aZ eO (pv 5) (nM nO aG) (λ_ _=>rfl)) (aj (aU dh (pv 7) aG) ak)))))) (fV rfl (cB (bG (i:=8) nd rfl (Or.inl rfl)) (cB (bG (i:=9) nd rfl (Or.inl rfl)) fU))))
  (ao (aW (aV bF (pv 6) aG (aQ _)) (ao (bw (i:=10) nd rfl (Or.inl rfl) (aU Af (pv 8) (fu (aj (cO (aj bD (aj (cO ak) (aj (aZ bV (aZ bV (pv 4) aG (λ_ _=>rfl)) aG (λ_ _=>rfl)) ak)))) ak))))
  (aD (aP (cO (aj (pv 5) (aj (aR iU (hr.mono (by decide)) dU (aj (aR acO (hr.mono (by decide)) rZ (aj (pv 2) (aj (pv 10) ak))) (aj (cO (aj bD (aj (aY d8 (by rfl) T.dG PySem.boot_len (aj (pv 8) ak)) ak))) ak))) ak)))))) aX)
  (ao (aW (PW.pt (lq (aV bF (pv 6) aG (aQ _)) (lg (aV wu (aY d8 (by rfl) T.dG PySem.boot_len (aj (pv 3) ak)) aG (aQ _))))) (ao (qT (aZ eO (pv 3) (aU dh (aU ju (pv 7) aG) (aY d8 (by rfl) T.dG PySem.boot_len (aj (pv 3) ak))) (λ_ _=>rfl)) (fV rfl (cB (bG (i:=11) nd rfl (Or.inl rfl)) (cB (bG (i:=12) nd rfl (Or.inl rfl)) fU))))
  (ao (bw (i:=13) nd rfl (Or.inl rfl) (aR MF (hr.mono (by decide)) o_ (aj (pv 12) (aj (pv 9) ak))))
  (ao (bw (i:=9) nd rfl (Or.inl rfl) (jx w5 (by rfl) T.jf boot_dict (aj (aZ eO (pv 5) (nM nO aG) (λ_ _=>rfl)) ak)))
  (ao (iz (pW PySem.F.plainAttrs_dict PySem.F.slot_dict_update PySem.F.type_dict_update aap (pv 9) (aj (pv 13) ak)))
  (ao (bw (i:=14) nd rfl (Or.inl rfl) (cO (aj bD (aj (aR Ea (hr.mono (by decide)) nA (aj (pv 3) (aj (aZ eO (pv 5) (nM nO aG) (λ_ _=>rfl)) (aj (pv 9) ak)))) ak))))
  (aD (aP (cO (aj (aU Af (pv 5) (fu (aj (pv 9) ak))) (aj (aR iU (hr.mono (by decide)) dU (aj (aR alR (hr.mono (by decide)) vB (aj (pv 2) (aj (pv 11) (aj (pv 13) ak)))) (aj (pv 14) ak))) ak)))))))))) aX)
  (ao (bw (i:=14) nd rfl (Or.inl rfl) (cO (aj bD (aj (aR Ea (hr.mono (by decide)) nA (aj (pv 3) (aj (aZ eO (pv 5) (nM nO aG) (λ_ _=>rfl)) (aj (pv 9) ak)))) ak))))
  (aD (aP (cO (aj (aU Af (pv 5) (fu (aj (pv 9) ak))) (aj (aR iU (hr.mono (by decide)) dU (aj (aR acO (hr.mono (by decide)) rZ (aj (pv 2) (aj (pv 8) ak))) (aj (pv 14) ak))) ak)))))))))),?_⟩
 refine⟨_,rfl,_,rfl,e.a,e.b,e.ns,n,rfl,S.g,by omega,λr H1 r0 r1 s1 h1=>?_⟩
 have S1:=S.sb s1 h1 (by omega)
 have W1:=W.go S (cg.sb s1)
 clear s1 h1 S W
 have Eb:qs.length=G.length+1:=by rw[W1.q.1,Q07];rfl
 have aou:pl.length=G.length:=W1.p.1
 obtain⟨us,s1,rfl,n1,hs1,qF,hus⟩:=W1.q.last
 obtain⟨m,hm⟩:∃m:Nat,r % 4=(m:Int):=⟨(r % 4).toNat,by omega⟩
 refine⟨_,rfl,_,rfl,_,rfl,_,rfl,_,rfl,pa,_,_,_,rfl,rfl,aC.of W1.at_,sH _ _,_,rfl,_,_,rfl,rfl,(by show(0:Int)<4;decide),e.a,e.b,e.ns,n+1,e.t,s1,e.xs,e.fs,e.fs.names,f,m,(by show [V.ref e.a,V.ref e.b,V.ref e.t,V.ref s1,V.int (r % 4)]=_;rw[hm]),by omega,S1.g,by omega,.inl S1.dk.kd.tu,S1.dk.kd.fa,S1.dk.cV,S1.dk.kd.nd,hf1,bO,hs1,(λx hx=>hx),bO,λrr pp nw ys ops n2 H2 s2 h2 z1 z2 hrr alS MJ hpp hnw hP hO hol=>?_⟩
 have S2:=S1.sb s2 h2 z1
 have W2:=W1.go S1 (cg.sb s2)
 have ns1:s1≠e.b:=λz=>by rw[z,S1.g.at_] at hs1;cases hs1
 have jN:=s2 _ _ ns1 hs1
 have nwv:nw≠e.vv:=λz=>by rw[z,S1.dk.vs] at MJ;cases MJ
 refine⟨rr,_,rfl,aH.of hrr,rfl,_,_,rfl,_,_,rfl,rfl,?_⟩
 clear s2 h2 hrr alS hs1 S1 W1 MJ
 have hyl:ys.length=ops.length:=hP.1
 have Ed:=KR S2.dk.fk hO
 refine⟨_,rfl,rfl,_,rfl,dM (λc0=>?_) (λc0=>?_)⟩
 . refine⟨_,rfl,nG,λe0 he0=>?_⟩
   have s3:=Same.new he0 (o:=.tup [])
   have e3:upd H2 e0 (.tup []) e0=some (.tup []):=aF
   generalize upd H2 e0 (.tup [])=H3 at s3 e3
   have S3:=S2.same s3
   have h0:0<e.xs.length:=by omega
   obtain⟨c0,u0,x0,k0,ev0,aov,hc0,hk0⟩:=FA.get e.fs S3.dk.kd.fa (Q05 h0)
   have alW:dZ e.xs (0:Int)=some (.ref c0):=mG (j:=0) (by rw[Q05 h0,ev0])
   refine⟨_,rfl,e.t,_,_,_,rfl,rfl,aH.of S3.dk.kd.tu,alW,c0,_,_,_,rfl,rfl,aH.of hc0,rfl,sW,λc6 hc6=>?_⟩
   have s6:=Same.new hc6 (o:=.tup [.str "cut",.ref e0,.str x0])
   have e6:upd H3 c6 (.tup [.str "cut",.ref e0,.str x0]) c6=some (.tup [.str "cut",.ref e0,.str x0]):=aF
   generalize upd H3 c6 (.tup [.str "cut",.ref e0,.str x0])=H6 at s6 e6
   refine⟨gR,λp7 hp7=>?_⟩
   have s7:=Same.new hp7 (o:=.lst [.ref c6])
   have e7:upd H6 p7 (.lst [.ref c6]) p7=some (.lst [.ref c6]):=aF
   generalize upd H6 p7 (.lst [.ref c6])=H7 at s7 e7
   have s27:=s3.trans (s6.trans s7)
   refine⟨pp,p7,_,_,rfl,rfl,s27 _ _ hpp,e7,Q0m (cP (show ys.length+1<=1000 by omega)),λp8 hp8=>?_⟩
   have s8:=Same.new hp8 (o:=.lst (ys++[.ref c6]))
   have e8:upd H7 p8 (.lst (ys++[.ref c6])) p8=some (.lst (ys++[.ref c6])):=aF
   generalize upd H7 p8 (.lst (ys++[.ref c6]))=H8 at s8 e8
   have Ef:=s27.trans s8
   have S8:=S2.same Ef
   refine⟨_,rfl,_,rfl,_,rfl,.inr ⟨e.d,p8,e.dd,e.kk,e.t,src,e.vv,e.ps,e.xs,e.fs,e.hks,pl,c6,e0,ys,[],ops,.str x0,f,rfl,S8.dk,e8,hP.mono (Tu.of Ef),hO,s8 _ _ (s7 _ _ e6),s8 _ _ (s7 _ _ (s6 _ _ e3)),λtq HB sB dY=>?_⟩⟩
   refine⟨_,rfl,pp,_,rfl,.inl (aC.of (sB _ _ (Ef _ _ hpp))),dg,λiV pA=>?_⟩
   have sC:=Same.new pA (o:=.tup [.str "no paper",.int (ys.length:Nat)])
   rw[<-hyl] at dY
   refine⟨.ref tq,.ref iV,rfl,D_ (sC _ _ dY) aF (Sm.zero (.inl ⟨_,rfl,rfl⟩) 5),λHD sD=>?_⟩
   refine⟨dg,λrt yZ=>?_⟩
   have sE:=Same.new yZ (o:=.tup [.ref pa,.bl true])
   have sA:=Ef.trans (sB.trans (sC.trans (sD.trans sE)))
   exact q rt so src pa f pl _ G n2 _ (S2.same sA) (W2.go S2 (cg.same sA)) (by omega) (by omega) (by omega) aF
 dsimp only[Gf]
 refine acC (p:=λb=>b=true->1<=e.hks.length) (λQk hq=>⟨_,rfl,rfl,_,rfl,dM (λc1=>⟨_,rfl,e.hl,_,rfl,.inl (aC.of S2.hl),_,_,rfl,rfl,_,rfl,hq _ (λc2=>?_)⟩) (λc1=>hq false (λz=>by cases z))⟩) (λhpos=>?_) (λ_=>?_)
 . have:=of_decide_eq_true c2
   have:(0:Int)<(e.cs.length:Nat):=this
   rw[<-S2.lk.1]
   omega
 . have hh1:=hpos rfl
   have hcl:e.cs.length=e.hks.length:=S2.lk.1
   obtain⟨i,hi⟩:∃i:Nat,r / 4 % (e.cs.length:Int)=(i:Int):=⟨(r / 4 % (e.cs.length:Int)).toNat,by have:=Q11 (r / 4) (show(e.cs.length:Int)≠0 by omega);omega⟩
   have hil:i<e.hks.length:=by have:=Q12 (r / 4) (show(0:Int)<(e.cs.length:Int) by omega);omega
   obtain⟨c,nn,lG,hc,hnn,hsn,Eh,hnb,hnp⟩:=S2.lk.get hil
   refine⟨_,rfl,_,rfl,_,_,rfl,rfl,⟨by decide,by decide⟩,_,rfl,e.hl,_,rfl,.inl (aC.of S2.hl),_,_,rfl,rfl,(by show(0:Int)<(e.cs.length:Nat);omega),e.hl,_,_,.ref c,rfl,rfl,aC.of S2.hl,(by show dZ e.cs (r / 4 % (e.cs.length:Int))=_;rw[hi];exact mG lG),?_⟩
   refine⟨c,_,rfl,aH.of hc,rfl,_,_,rfl,_,_,rfl,rfl,?_⟩
   have hmem:e.hks[i]∈e.hks:=Q0t hil
   generalize e.hks[i]=h at hc hnn hsn Eh hmem ⊢
   have hss:=S2.dk.inn h hmem
   refine⟨_,rfl,_,rfl,nn,nw,_,h.2.2,cQ f ops,rfl,hnn,hsn,Eh,hnw,(λx hx=>by rw[iK,if_pos (hss x hx)]),λsn H3 s3 aow MK=>?_⟩
   refine⟨_,rfl,_,rfl,pa,_,_,_,rfl,rfl,aC.of (s3 _ _ W2.at_),sH _ _,s1,_,rfl,s3 _ _ jN,λdn hdn=>?_⟩
   have s4:=Same.new hdn (o:=.dK (aK f e.fs.names))
   have hds:dn≠sn:=λz=>by rw[z,MK] at hdn;cases hdn
   refine⟨_,rfl,.inr (.inr (.inl ⟨rfl,.inl ⟨_,aF⟩⟩)),_,rfl,dn,sn,_,_,rfl,rfl,hds,aF,s4 _ _ MK,Q0m (cP (by rw[gF,gF];omega)),?_⟩
   rw[JN (cQ f ops) h.2.2 f hss]
   have dnN:H2 dn=none:=sG s3 hdn
   have s5:Same H3 (upd (upd H3 dn (.dK (aK f e.fs.names))) dn (.dK (aK (gn f (cQ f ops) h.2.2) e.fs.names))):=λc o ec=>by rw[au (aN ec hdn),au (aN ec hdn)];exact ec
   have e5:upd (upd H3 dn (.dK (aK f e.fs.names))) dn (.dK (aK (gn f (cQ f ops) h.2.2) e.fs.names)) dn=some (.dK (aK (gn f (cQ f ops) h.2.2) e.fs.names)):=aF
   generalize upd (upd H3 dn (.dK (aK f e.fs.names))) dn (.dK (aK (gn f (cQ f ops) h.2.2) e.fs.names))=H5 at s5 e5
   have MN:=s3.trans s5
   have S5:=S2.same MN
   have W5:=W2.go S2 (cg.same MN)
   have hHl:=alG S2.dk.kd.nd hsn hss Ed
   have MP:FK e.fs (gn f (cQ f ops) h.2.2):=abG S2.dk.fk hHl
   have dnv:dn≠e.vv:=λz=>by rw[z,S2.dk.vs] at dnN;cases dnN
   refine⟨_,rfl,_,rfl,_,rfl,pa,_,_,_,rfl,rfl,aC.of W5.at_,sH _ _,_,rfl,e.hl,s1,dn,e.cs,e.hks,e.fs,f,gn f (cQ f ops) h.2.2,rfl,S5.hl,S5.lk.at,S5.dk.bO,MN _ _ jN,e5,qF,MP,S5.dk.kd.nd,S5.dk.kd.so,S5.dk.inn,λp2 ds H6 s6 yU hp2 yV=>?_⟩
   refine⟨dg,λiV pA=>?_⟩
   have s7:=Same.new pA (o:=.tup [.str "told",.ref p2])
   have e7:upd H6 iV (.tup [.str "told",.ref p2]) iV=some (.tup [.str "told",.ref p2]):=aF
   generalize upd H6 iV (.tup [.str "told",.ref p2])=H7 at s7 e7
   have sJ:=s6.trans s7
   refine⟨_,rfl,_,rfl,gR,λp8 hp8=>?_⟩
   have s8:=Same.new hp8 (o:=.lst [.ref dn])
   have e8:upd H7 p8 (.lst [.ref dn]) p8=some (.lst [.ref dn]):=aF
   generalize upd H7 p8 (.lst [.ref dn])=H8 at s8 e8
   refine⟨pa,p8,_,_,rfl,rfl,s8 _ _ (sJ _ _ W5.at_),e8,Q0m (cP (show(us++[V.ref s1]).length+1<=1000 by omega)),λbT qG=>?_⟩
   have s9:=Same.new qG (o:=.lst (us++[.ref s1]++[.ref dn]))
   have e9:upd H8 bT (.lst (us++[.ref s1]++[.ref dn])) bT=some (.lst (us++[.ref s1]++[.ref dn])):=aF
   have lQ:H5 bT=none:=sG (sJ.trans s8) qG
   generalize upd H8 bT (.lst (us++[.ref s1]++[.ref dn]))=H9 at s9 e9
   have nF:=sJ.trans (s8.trans s9)
   have S9:=S5.same nF
   refine⟨_,rfl,_,rfl,_,rfl,e.d,sn,e.dd,e.kk,e.t,src,e.vv,e.ps,e.xs,e.fs,e.hks,pl,h,f,cQ f ops,rfl,S9.dk,hmem,S9.lam,by omega,nF _ _ (s5 _ _ MK),hHl,λtq p cs src' HA kA M4 M5 dY hp iR=>?_⟩
   obtain⟨pt,hPt⟩:=S5.lam.tab
   have kk:∀c o,H5 c=none->H9 c=some o->HA c=some o:=λc o hN ec=>kA c o (λz=>by rw[z,hPt] at hN;cases hN) (λz=>by rw[z,S5.dk.ob] at hN;cases hN) (λz=>by rw[z,S5.dk.past] at hN;cases hN) ec
   have zc:=S9.tu (cg.kp kA)
   have M6:eZ HA ds e.hks (iQ e.fs f (gn f (cQ f ops) h.2.2)):=(yV.keep (λc o ho ec=>by
    rcases ho with⟨xs,rfl⟩|hN
    . exact zc _ _ (s9 _ _ (s8 _ _ (s7 _ _ ec)))
    . exact kk c o hN (s9 _ _ (s8 _ _ (s7 _ _ ec))))).at
   have kd:∀s kv,s≠e.vv->H5 s=some (.dK kv)->HA s=some (.dK kv):=λs kv _ es=>S9.keep (cg.kp kA) (nF _ _ es) (by intro ps z;cases z) (by intro a b l z;cases z) (λ⟨l,z⟩=>by cases z)
   have SA:=S9.Ml kA M4 M5 (nF _ _ e5)
   have WA:=W5.next (g:=gn f (cQ f ops) h.2.2) (nw:=dn) S5 kd (kk _ _ lQ e9) (λz=>by rw[z,S5.g.at_] at lQ;cases lQ) (λz=>by rw[z,S5.dk.past] at lQ;cases lQ) dnv (kd _ _ dnv e5) MP
   refine⟨_,rfl,.ref tq,.ref iV,rfl,Mj MP bO S5.dk.bO dY hp iR (zc _ _ (s9 _ _ (s8 _ _ e7))) (kk _ _ yU (s9 _ _ (s8 _ _ (s7 _ _ hp2)))) M6,λHB sB=>?_⟩
   refine⟨dg,λrt yZ=>?_⟩
   have sC:=sB.trans (Same.new yZ (o:=.tup [.ref bT,.bl true]))
   exact q rt dn src' bT _ _ _ _ n2 _ (SA.same sC) (WA.go SA (cg.same sC)) (by rw[Q07];exact Q01 _) (by omega) (by omega) aF
 . refine⟨_,rfl,_,rfl,_,rfl,pa,_,_,_,rfl,rfl,aC.of W2.at_,sH _ _,_,rfl,e.hl,s1,nw,e.cs,e.hks,e.fs,f,cQ f ops,rfl,S2.hl,S2.lk.at,S2.dk.bO,jN,hnw,qF,Ed,S2.dk.kd.nd,S2.dk.kd.so,S2.dk.inn,λp2 ds H6 s6 yU hp2 yV=>?_⟩
   refine⟨dg,λiV pA=>?_⟩
   have s7:=Same.new pA (o:=.tup [.str "told",.ref p2])
   have e7:upd H6 iV (.tup [.str "told",.ref p2]) iV=some (.tup [.str "told",.ref p2]):=aF
   generalize upd H6 iV (.tup [.str "told",.ref p2])=H7 at s7 e7
   have sJ:=s6.trans s7
   refine⟨_,rfl,_,rfl,gR,λp8 hp8=>?_⟩
   have s8:=Same.new hp8 (o:=.lst [.ref nw])
   have e8:upd H7 p8 (.lst [.ref nw]) p8=some (.lst [.ref nw]):=aF
   generalize upd H7 p8 (.lst [.ref nw])=H8 at s8 e8
   refine⟨pa,p8,_,_,rfl,rfl,s8 _ _ (sJ _ _ W2.at_),e8,Q0m (cP (show(us++[V.ref s1]).length+1<=1000 by omega)),λbT qG=>?_⟩
   have s9:=Same.new qG (o:=.lst (us++[.ref s1]++[.ref nw]))
   have e9:upd H8 bT (.lst (us++[.ref s1]++[.ref nw])) bT=some (.lst (us++[.ref s1]++[.ref nw])):=aF
   have lQ:H2 bT=none:=sG (sJ.trans s8) qG
   generalize upd H8 bT (.lst (us++[.ref s1]++[.ref nw]))=H9 at s9 e9
   have nF:=sJ.trans (s8.trans s9)
   have S9:=S2.same nF
   refine⟨_,rfl,_,rfl,.inl ⟨e.d,pp,e.dd,e.kk,e.t,src,e.vv,e.ps,e.xs,e.fs,e.hks,pl,ys,ops,f,rfl,S9.dk,S9.lam,by omega,nF _ _ hpp,hP.mono (Tu.of nF),hO,λtq p cs src' HA kA M4 M5 dY hp iR=>?_⟩⟩
   obtain⟨pt,hPt⟩:=S2.lam.tab
   have kk:∀c o,H2 c=none->H9 c=some o->HA c=some o:=λc o hN ec=>kA c o (λz=>by rw[z,hPt] at hN;cases hN) (λz=>by rw[z,S2.dk.ob] at hN;cases hN) (λz=>by rw[z,S2.dk.past] at hN;cases hN) ec
   have zc:=S9.tu (cg.kp kA)
   have M6:eZ HA ds e.hks (iQ e.fs f (cQ f ops)):=(yV.keep (λc o ho ec=>by
    rcases ho with⟨xs,rfl⟩|hN
    . exact zc _ _ (s9 _ _ (s8 _ _ (s7 _ _ ec)))
    . exact kk c o hN (s9 _ _ (s8 _ _ (s7 _ _ ec))))).at
   have kd:∀s kv,s≠e.vv->H2 s=some (.dK kv)->HA s=some (.dK kv):=λs kv _ es=>S9.keep (cg.kp kA) (nF _ _ es) (by intro ps z;cases z) (by intro a b l z;cases z) (λ⟨l,z⟩=>by cases z)
   have SA:=S9.Ml kA M4 M5 (nF _ _ hnw)
   have WA:=W2.next (g:=cQ f ops) (nw:=nw) S2 kd (kk _ _ lQ e9) (λz=>by rw[z,S2.g.at_] at lQ;cases lQ) (λz=>by rw[z,S2.dk.past] at lQ;cases lQ) nwv (kd _ _ nwv hnw) Ed
   refine⟨_,rfl,.ref tq,.ref iV,rfl,Mj Ed bO S2.dk.bO dY hp iR (zc _ _ (s9 _ _ (s8 _ _ e7))) (kk _ _ yU (s9 _ _ (s8 _ _ (s7 _ _ hp2)))) M6,λHB sB=>?_⟩
   refine⟨dg,λrt yZ=>?_⟩
   have sC:=sB.trans (Same.new yZ (o:=.tup [.ref bT,.bl true]))
   exact q rt nw src' bT _ _ _ _ n2 _ (SA.same sC) (WA.go SA (cg.same sC)) (by rw[Q07];exact Q01 _) (by omega) (by omega) aF
end
noncomputable def acU (K:W.Frag) (P2 C CD:Addr):Sp:=λvs H Q _=>∃(e:En) (src so pa:Addr) (f:Str->V) (pl qs:List V) (G:List (Str->V)) (n:Int),vs=[.ref e.a,.ref e.b,.ref e.d,.ref e.hl,.ref e.t]/\bQ K P2 C CD e src so f pl n H/\gQ H e pa qs pl G f/\so≠e.vv/\n+60<=1000000000000/\e.hks.length<=4/\
 ∀hl hks cs n' H',bQ K P2 C CD { e with hl:=hl,hks:=hks,cs:=cs } src so f pl n' H'->gQ H' e pa qs pl G f->hks.length<=4->n<=n'->n'<=n+20->Q (.ref hl) H'
theorem alY (l r:List Hk)(x:Str):fL (l++r) x=fL l x++fL r x:=Q2c _ _
section
variable {P:Program}{w:World}{K:W.Frag}{mg:Str->Option Value}{base:Heap}
variable {C P2 CD:Addr}
theorem acV:bA ["_law_script","_law_at","_law_desk","_law_hooks","_law_fields_here","_law_m","_law_hook","_law_names_here"] ["_law_script","_law_at","_law_desk","_law_hooks","_law_fields_here"] (aL (top 86)):=by refine⟨rfl,rfl,rfl,?_,rfl,?_,?_⟩ <;> decide+kernel
theorem alZ (T:Tb mg)(TK:mZ K mg C j7 gH j8 j9)(DK:fJ K CD)(al0:Meth K CD "hang" Dq)(al1:Meth K CD "take_down" Dv)(vN:Dn K mg "_law_hung" Ck (top 86) M7 M8)(dB:Dn K mg "_law_next" cN (top 64) gj gk)(gD:aq P w K mg base aB (1) gj gk cN (mV K))(vL:Dn K mg "_law_spare" Cg (top 76) Mq Mr)(al2:aq P w K mg base aB (1) Mq Mr Cg (acE))(vD:Dn K mg "_law_some" Cd (top 77) LK LQ)(al3:aq P w K mg base aB (1) LK LQ Cd (acf))(vq:Dm K "take_down" "Desk.take_down" g_ (aJ 53 2) Dv Lp)(al4:aq P w K mg base aB (2) Dv Lp g_ (abR C CD))(vf:Dm K "hang" "Desk.hang" BR (aJ 53 1) Dq K5)(al5:aq P w K mg base aB (11) Dq K5 BR (abJ P2 C CD))(uM:Dm K "__init__" "Take.__init__" Bu (aJ 62 0) j7 JK)(al6:aq P w K mg base aB (1) j7 JK Bu (aaP K C)):aq P w K mg base aB (12) M7 M8 Ck (acU K P2 C CD):=by
 have CT:=TK.ct
 have dJ:=DK.ct
 have al7:=TK.mkk
 have al8:=TK.m
 refine vN.F.ok acV (λvs H Q E h=>?_) (λcdv A outer s H vs Q E hr h=>?_)
 . obtain⟨e,src,so,pa,f,pl,qs,G,n,rfl,_⟩:=h
   rfl
 obtain⟨e,src,so,pa,f,pl,qs,G,n,rfl,S,W,hsv,hn,h4,q⟩:=h
 have nd:=acV.nd
 have hu:=fY hr
 have bO:=S.dk.kd.bO
 refine⟨_,(ao (bw (i:=5) nd rfl (Or.inl rfl) (aR gD (hr.mono (by decide)) dB (aj (pv 0) (aj (pv 1) ak))))
  (ao (aW (PW.pt (jU (aV bF (aY d8 (by rfl) T.dG PySem.boot_len (aj (pv 3) ak)) aG (aQ _)) (jT (PW.pt (lq (aV wu (aY d8 (by rfl) T.dG PySem.boot_len (aj (pv 3) ak)) aG (aQ _)) (lg (aV bF (aU dh (pv 5) aG) aG (aQ _)))))))) (ao (bw (i:=6) nd rfl (Or.inr rfl) (aZ bV (aZ eO (pv 3) (aU dh (aU ju (pv 5) aG) (aY d8 (by rfl) T.dG PySem.boot_len (aj (pv 3) ak))) (λ_ _=>rfl)) aG (λ_ _=>rfl)))
  (ao (iz (gB (pv 2) dJ al1 al4 (hr.mono (by decide)) vq.b .nil eN (aj (pv 6) ak)))
  (aD (aP (g8 (g:=(cF 0)) (tt:=(mF (bL _ (bL (mH K) (bC 0) (tC (.int 0))) (bC 7)))) (te:=(bC 0)) (own:=["_law_pair"]) rfl (dw.of (N:=["_law_script","_law_at","_law_desk","_law_hooks","_law_fields_here","_law_m","_law_hook","_law_names_here"]) (sc:=aL (top 86)) rfl rfl rfl (by decide+kernel)) (lB (pv 3)) (λ_ _ _ _ _=>(bG (i:=0) (show(["_law_pair","_law_script","_law_at","_law_desk","_law_hooks","_law_fields_here","_law_m","_law_hook","_law_names_here"]:List Str).Nodup by decide+kernel) rfl (Or.inl rfl) (.inr rfl))) (λ_ _ _ _ _=>(Ai (aV pQ (aZ bV (pv 0) aG (λ_ _=>rfl)) (pv 7) (aQ _)))) (λ_ _ _ _ _=>(pv 0))))))) aX)
  (ao (bw (i:=6) nd rfl (Or.inr rfl) (aR al2 (hr.mono (by decide)) vL (aj (g8 (g:=(cF 0)) (tt:=fZ) (te:=(bL (mH K) (bC 0) (tC (.int 0)))) (own:=["_law_pair"]) rfl (dw.of (N:=["_law_script","_law_at","_law_desk","_law_hooks","_law_fields_here","_law_m","_law_hook","_law_names_here"]) (sc:=aL (top 86)) rfl rfl rfl (by decide+kernel)) (lB (pv 3)) (λ_ _ _ _ _=>(bG (i:=0) (show(["_law_pair","_law_script","_law_at","_law_desk","_law_hooks","_law_fields_here","_law_m","_law_hook","_law_names_here"]:List Str).Nodup by decide+kernel) rfl (Or.inl rfl) (.inr rfl))) (λ_ _ _ _ _=>iG) (λ_ _ _ _ _=>(aZ bV (pv 0) aG (λ_ _=>rfl)))) (aj (aU ju (pv 5) aG) ak))))
  (ao (bw (i:=7) nd rfl (Or.inl rfl) (aR al3 (hr.mono (by decide)) vD (aj (g8 (g:=(cF 0)) (tt:=fZ) (te:=(bL (mH K) (bC 0) (tC (.int 0)))) (own:=["_law_pair"]) rfl (dw.of (N:=["_law_script","_law_at","_law_desk","_law_hooks","_law_fields_here","_law_m","_law_hook","_law_names_here"]) (sc:=aL (top 86)) rfl rfl rfl (by decide+kernel)) (pO (pv 4)) (λ_ _ _ _ _=>(bG (i:=0) (show(["_law_pair","_law_script","_law_at","_law_desk","_law_hooks","_law_fields_here","_law_m","_law_hook","_law_names_here"]:List Str).Nodup by decide+kernel) rfl (Or.inl rfl) (.inr rfl))) (λ_ _ _ _ _=>iG) (λ_ _ _ _ _=>(aZ bV (pv 0) aG (λ_ _=>rfl)))) (aj (aU ju (pv 5) aG) ak))))
  (ao (iz (gB (pv 2) dJ al0 al5 (hr.mono (by decide)) vf.b .nil eN (aj (pv 6) (aj (XS al7 al6 (hr.mono (by decide)) rfl al8 uM.b .nil eN (aj (jx Yk (by rfl) T.lH boot_list (aj (pv 7) ak)) ak)) ak))))
  (aD (aP (aU Af (pv 3) (fu (aj (cO (aj (pv 6) (aj (pv 7) ak))) ak)))))))))),?_⟩
 refine⟨_,rfl,_,rfl,e.a,e.b,e.ns,n,rfl,S.g,by omega,λr H1 r0 r1 s1 h1=>?_⟩
 have S1:=S.sb s1 h1 (by omega)
 have W1:=W.go S (cg.sb s1)
 clear s1 h1 S W
 have hcl:e.cs.length=e.hks.length:=S1.lk.1
 have uE:e.xs.length=e.fs.names.length:=FA.len e.fs S1.dk.kd.fa
 dsimp only[cF]
 refine acC (p:=λb=>(b=true->1<=e.hks.length)/\(b=false->e.hks.length<4)) (λQk hq=>⟨_,rfl,e.hl,_,rfl,.inl (aC.of S1.hl),rfl,_,rfl,dM (λc1=>hq true ⟨λ_=>?_,(λz=>by cases z)⟩) (λc1=>⟨_,rfl,e.hl,_,rfl,.inl (aC.of S1.hl),_,_,rfl,rfl,_,rfl,dM (λc2=>⟨_,rfl,_,_,rfl,rfl,(by show(0:Int)<3;decide),rfl,_,rfl,hq _ ⟨λ_=>?_,λ_=>?_⟩⟩) (λc2=>hq false ⟨(λz=>by cases z),λ_=>?_⟩)⟩)⟩) (λhp=>?_) (λhp=>?_)
 . have:=of_decide_eq_true c1
   injection this with this
   omega
 . have:(0:Int)<(e.cs.length:Nat):=of_decide_eq_true c2
   omega
 . have:¬(e.cs.length:Int)=4:=λz=>c1 (decide_eq_true (show V.int (e.cs.length:Nat)=V.int 4 by rw[z]))
   omega
 . have:¬(0:Int)<(e.cs.length:Nat):=λz=>c2 (decide_eq_true z)
   omega
 . have hh1:=hp.1 rfl
   obtain⟨i,hi⟩:∃i:Nat,r / 3 % (e.cs.length:Int)=(i:Int):=⟨(r / 3 % (e.cs.length:Int)).toNat,by have:=Q11 (r / 3) (show(e.cs.length:Int)≠0 by omega);omega⟩
   have hil:i<e.hks.length:=by have:=Q12 (r / 3) (show(0:Int)<(e.cs.length:Int) by omega);omega
   obtain⟨c,nn,lG,hc,hnn,hsn,Eh,hnb,hnp⟩:=S1.lk.get hil
   refine⟨_,rfl,_,rfl,_,_,rfl,rfl,⟨by decide,by decide⟩,_,rfl,e.hl,_,rfl,.inl (aC.of S1.hl),_,_,rfl,rfl,(by show(0:Int)<(e.cs.length:Nat);omega),e.hl,_,_,.ref c,rfl,rfl,aC.of S1.hl,(by show dZ e.cs (r / 3 % (e.cs.length:Int))=_;rw[hi];exact mG lG),c,_,_,_,rfl,rfl,aH.of hc,rfl,?_⟩
   have hmem:e.hks[i]∈e.hks:=Q0t hil
   generalize e.hks[i]=h at hc hnn hsn Eh hmem ⊢
   refine⟨_,rfl,e.d,e.dd,_,rfl,S1.dk.ob,rfl,_,rfl,e.d,e.dd,e.kk,e.t,src,e.vv,e.ps,e.xs,e.fs,e.hks,pl,h,f,rfl,S1.dk,hmem,λH2 k2 hD2=>?_⟩
   have k2':∀c o,c≠P2->c≠e.vv->H1 c=some o->H2 c=some o:=λc o _ n2 ec=>k2 c o n2 ec
   have nv:∀{c:Addr} {o:HO},(∀kv,o≠ .dK kv)->H1 c=some o->H2 c=some o:=λ{c o} ho ec=>k2 c o (λz=>by rw[z,S1.dk.vs] at ec;cases ec;exact ho _ rfl) ec
   have hT2:bB P2 bM bN H2:=by
    rcases S1.lam with z|⟨c,z,fe⟩
    . exact .inl (nv (by intro kv z;cases z) z)
    . exact .inr ⟨c,nv (by intro kv z;cases z) z,nv (by intro kv z;cases z) fe⟩
   have lk2:gP e.b e.ps H2 e.cs e.hks:=S1.lk.keep λc o ho ec=>nv (by rcases ho with⟨xs,rfl⟩|⟨xs,rfl,_⟩ <;> (intro kv z;cases z)) ec
   have Ei:H2 e.hl=some (.lst e.cs):=nv (by intro kv z;cases z) S1.hl
   refine⟨_,rfl,e.hl,rfl,⟨_,aC.of Ei⟩,λj k ys H3=>H3=H2/\k=e.cs.length - j/\j<=e.cs.length/\gP e.b e.ps H2 ys (fL (e.hks.take j) h.1),⟨_,rfl,rfl,Q0b _,rfl,λi v h e=>by cases e⟩,?_⟩
   rintro j k ys H3 ⟨rfl,rfl,hj0,hys⟩
   have hyl:ys.length<=4:=by rw[hys.1];exact Q0c (Q0z _ _) (by rw[Q0o];omega)
   by_cases hj:j<e.cs.length
   . refine .inr ⟨⟨_,e.cs[j],aC.of Ei,Q05 hj⟩,cP (by omega),λx H4 y=>?_⟩
     obtain⟨rfl,hy⟩:=y
     have hy:=hy _ (aC.of Ei)
     have hjk:j<e.hks.length:=by omega
     have hkj:e.hks[j]? =some e.hks[j]:=Q05 hjk
     obtain⟨cj,nj,rfl,hcj,hnj,b1,b2,b3,b4⟩:=lk2.2 j x _ hy hkj
     have stp:fL (e.hks.take (j+1)) h.1=fL (e.hks.take j) h.1++fL [e.hks[j]] h.1:=by rw[Q0u,hkj,alY];rfl
     refine⟨rfl,_,rfl,cj,_,_,_,rfl,rfl,aH.of hcj,rfl,_,rfl,rfl,_,rfl,dM (λcc=>?_) (λcc=>?_)⟩
     . have ne:¬e.hks[j].1=h.1:=λz=>by rw[decide_eq_true (show V.str e.hks[j].1=V.str h.1 by rw[z])] at cc;exact absurd cc (by decide)
       refine⟨_,rfl,e.cs.length - (j+1),by omega,rfl,rfl,hj,?_⟩
       rw[stp]
       have e1:fL [e.hks[j]] h.1=[e.hks[j]]:=by unfold fL;rw[Q0s,if_pos (by rw[decide_eq_false ne];rfl)];rfl
       rw[e1]
       exact hys.snoc ⟨cj,nj,rfl,hcj,hnj,b1,b2,b3,b4⟩
     . have eq:e.hks[j].1=h.1:=Decidable.byContradiction λz=>cc (by rw[decide_eq_false (show ¬V.str e.hks[j].1=V.str h.1 from λy=>z (by injection y))];rfl)
       refine⟨e.cs.length - (j+1),by omega,rfl,rfl,hj,?_⟩
       rw[stp]
       have e1:fL [e.hks[j]] h.1=[]:=by unfold fL;rw[Q0s,if_neg (by rw[decide_eq_true eq];decide)];rfl
       rw[e1,Q0x]
       exact hys
   . refine .inl ⟨⟨_,aC.of Ei,Q1 hj⟩,λhl' lR=>?_⟩
     rw[Q1d (by omega)] at hys
     have s3:=Same.new lR (o:=.lst ys)
     have e3:upd H3 hl' (.lst ys) hl'=some (.lst ys):=aF
     have b3:H3 e.b=some (.lst [.int (n+1)]):=nv (by intro kv z;cases z) S1.g.at_
     have p3:H3 e.ps=some (.lst pl):=nv (by intro kv z;cases z) S1.dk.past
     generalize upd H3 hl' (.lst ys)=H5 at s3 e3
     have k5:∀c o,c≠P2->c≠e.vv->H1 c=some o->H5 c=some o:=λc o n1 n2 ec=>s3 _ _ (k2' c o n1 n2 ec)
     have lk5:gP e.b e.ps H5 ys (fL e.hks h.1):=hys.keep λc o _ ec=>s3 _ _ ec
     refine q hl' (fL e.hks h.1) ys (n+1) H5 (S1.hung k5 (hT2.same s3) (hD2.same s3) hsv (λx hx=>?_) e3 (λz=>by rw[z,b3] at lR;cases lR) (λz=>by rw[z,p3] at lR;cases lR) lk5) (W1.hung S1 k5) (Q0c (Q0z _ _) h4) (by omega) (by omega)
     obtain⟨dx,nl,hV,a1,a2⟩:=S1.vw x (Ln hx)
     exact⟨dx,nl,⟨s3 _ _ (nv (by intro kv z;cases z) hV.ob),s3 _ _ (nv (by intro kv z;cases z) hV.nl),hV.nd,hV.bO⟩,a1,a2⟩
 . have hlt:=hp.2 rfl
   dsimp only[Gf]
   refine⟨_,rfl,e.hl,rfl,⟨_,aC.of S1.hl⟩,λj k ys H3=>H3=H1/\k=e.cs.length - j/\j<=e.cs.length/\ys=((e.hks.take j).map (·.1)).map V.str,⟨_,rfl,rfl,Q0b _,rfl⟩,?_⟩
   rintro j k ys H3 ⟨rfl,rfl,hj0,rfl⟩
   by_cases hj:j<e.cs.length
   . refine .inr ⟨⟨_,e.cs[j],aC.of S1.hl,Q05 hj⟩,by rw[Q06,Q06,Q0o];exact cP (by omega),λx H4 y=>?_⟩
     obtain⟨rfl,hy⟩:=y
     have hy:=hy _ (aC.of S1.hl)
     have hjk:j<e.hks.length:=by omega
     have hkj:e.hks[j]? =some e.hks[j]:=Q05 hjk
     obtain⟨cj,nj,rfl,hcj,_⟩:=S1.lk.2 j x _ hy hkj
     refine⟨rfl,yes (bZ ?_)⟩
     refine⟨_,rfl,cj,_,_,_,rfl,rfl,aH.of hcj,rfl,e.cs.length - (j+1),by omega,rfl,rfl,hj,?_⟩
     rw[Q0u,hkj,Q0k,Q0k]
     rfl
   refine .inl ⟨⟨_,aC.of S1.hl,Q1 hj⟩,λEj amb=>?_⟩
   rw[show e.hks.take j=e.hks from Q1d (by omega)]
   have s2:=Same.new amb (o:=.lst ((e.hks.map (·.1)).map V.str))
   have e2:upd H3 Ej (.lst ((e.hks.map (·.1)).map V.str)) Ej=some (.lst ((e.hks.map (·.1)).map V.str)):=aF
   generalize upd H3 Ej (.lst ((e.hks.map (·.1)).map V.str))=H2 at s2 e2
   refine⟨_,rfl,_,_,rfl,rfl,⟨by decide,by decide⟩,Ej,r / 3,e.hks.map (·.1),rfl,e2,by rw[Q06];omega,λnm hnew=>?_⟩
   have S2:=S1.same s2
   have kd2:=S2.dk.kd
   refine⟨_,rfl,e.t,rfl,⟨_,aH.of kd2.tu⟩,λj k ys H3=>H3=H2/\k=e.xs.length - j/\j<=e.xs.length/\ys=(e.fs.names.take j).map V.str,⟨_,rfl,rfl,Q0b _,rfl⟩,?_⟩
   rintro j k ys H5 ⟨rfl,rfl,hj0,rfl⟩
   by_cases hj:j<e.xs.length
   . refine .inr ⟨⟨e.xs,e.xs[j],aH.of kd2.tu,by simp[hj]⟩,by rw[Q06,Q0o];exact cP (by omega),λx H4 y=>?_⟩
     obtain⟨rfl,y⟩:=y
     obtain⟨c,u,nm2,k,rfl,hat,hc,hk⟩:=FA.get e.fs kd2.fa (y e.xs (aH.of kd2.tu))
     have amd:e.fs.names[j]? =some nm2:=by rw[Fs.jA,hat];rfl
     refine⟨rfl,yes (bZ ?_)⟩
     refine⟨_,rfl,c,_,_,_,rfl,rfl,aH.of hc,rfl,e.xs.length - (j+1),by omega,rfl,rfl,hj,?_⟩
     rw[Q0u,amd,Q0k]
     rfl
   refine .inl ⟨⟨e.xs,aH.of kd2.tu,Q1 hj⟩,λEl ame=>?_⟩
   rw[show e.fs.names.take j=e.fs.names from Q1d (by omega)]
   have s3:=Same.new ame (o:=.lst (e.fs.names.map V.str))
   have e3:upd H5 El (.lst (e.fs.names.map V.str)) El=some (.lst (e.fs.names.map V.str)):=aF
   generalize upd H5 El (.lst (e.fs.names.map V.str))=H6 at s3 e3
   refine⟨_,rfl,_,_,rfl,rfl,⟨by decide,by decide⟩,El,r / 81,e.fs.names,rfl,e3,kd2.nd,bO,λnl ss H7 s7 hnl amf hsn amg jN=>?_⟩
   have M9:=s2.trans (s3.trans s7)
   have S7:=S1.same M9
   have acW:H3 nl=none:=sG (s2.trans s3) amf
   refine⟨_,rfl,e.d,e.dd,_,rfl,S7.dk.ob,rfl,_,rfl,_,rfl,nl,_,rfl,.inl (aC.of hnl),λEm amh=>?_⟩
   have Eo:=Same.new amh (o:=.lst (ss.map V.str))
   have e15:upd H7 Em (.lst (ss.map V.str)) Em=some (.lst (ss.map V.str)):=aF
   generalize upd H7 Em (.lst (ss.map V.str))=Ep at Eo e15
   intro vw dx hvw hdx aox
   have Er:Same Ep (upd (upd Ep dx (.own vw)) vw (.ins C dx [])):=λc o e=>by rw[au (aN e hvw),au (aN e hdx)];exact e
   have x16:upd (upd Ep dx (.own vw)) vw (.ins C dx []) vw=some (.ins C dx []):=aF
   generalize upd (upd Ep dx (.own vw)) vw (.ins C dx [])=H16 at Er x16
   refine⟨vw,Em,dx,ss,rfl,x16,aC.of (Er _ _ e15),λnv Es Dh k17 amk aml=>⟨rfl,?_⟩⟩
   have M_:Same H7 Es:=λc o e=>k17 c o (aN (Eo _ _ e) hvw) (Er _ _ (Eo _ _ e))
   have s16:Same H7 H16:=Eo.trans Er
   have lU:=S7.same M_
   have Nb:H3 nv=none:=sG (M9.trans s16) Dh
   have fr:∀{c a:Addr} {o:HO},H3 c=none->H3 a=some o->c≠a:=λ{c a o} h1 h2 z=>by rw[z,h2] at h1;cases h1
   have Nf:eX Es C vw dx nv ss:=⟨amk,aml,hsn,jN⟩
   refine⟨e.d,e.dd,e.kk,e.t,src,e.vv,e.ps,e.xs,e.fs,e.hks,pl,(nm,vw,ss),dx,nv,f,rfl,lU.dk,hnew,by omega,Nf,fr Nb S1.dk.past,amg,lU.lam,λzj k18 amn amo=>?_⟩
   obtain⟨pt,hPt⟩:=lU.lam.tab
   have pB:∀{c:Addr} {o:HO},(∀ps,o≠ .dD ps)->(∀kv,o≠ .dK kv)->Es c=some o->zj c=some o:=λ{c o} n1 n2 ec=>k18 c o (λz=>by rw[z,hPt] at ec;cases ec;exact n1 _ rfl) (λz=>by rw[z,lU.dk.vs] at ec;cases ec;exact n2 _ rfl) ec
   have amq:=M9.trans M_
   have amr:zj e.hl=some (.lst e.cs):=pB (by intro ps z;cases z) (by intro kv z;cases z) lU.hl
   have ams:zj nl=some (.lst (ss.map V.str)):=pB (by intro ps z;cases z) (by intro kv z;cases z) (M_ _ _ hnl)
   refine⟨_,rfl,_,rfl,_,rfl,dg,λtq dY=>?_⟩
   have zm:=Same.new dY (o:=.tup [.str nm,.ref nl])
   have e19:upd zj tq (.tup [.str nm,.ref nl]) tq=some (.tup [.str nm,.ref nl]):=aF
   generalize upd zj tq (.tup [.str nm,.ref nl])=H19 at zm e19
   refine⟨gR,λEt amt=>?_⟩
   have vO:=Same.new amt (o:=.lst [.ref tq])
   have e20:upd H19 Et (.lst [.ref tq]) Et=some (.lst [.ref tq]):=aF
   generalize upd H19 Et (.lst [.ref tq])=Eu at vO e20
   refine⟨e.hl,Et,_,_,rfl,rfl,vO _ _ (zm _ _ amr),e20,Q0m (cP (show e.cs.length+1<=1000 by omega)),λhl' lR=>?_⟩
   have Ng:=Same.new lR (o:=.lst (e.cs++[.ref tq]))
   have e21:upd Eu hl' (.lst (e.cs++[.ref tq])) hl'=some (.lst (e.cs++[.ref tq])):=aF
   have b20:Eu e.b=some (.lst [.int (n+1)]):=vO _ _ (zm _ _ (pB (by intro ps z;cases z) (by intro kv z;cases z) lU.g.at_))
   have amv:Eu e.ps=some (.lst pl):=vO _ _ (zm _ _ (pB (by intro ps z;cases z) (by intro kv z;cases z) lU.dk.past))
   generalize upd Eu hl' (.lst (e.cs++[.ref tq]))=Nh at Ng e21
   have pC:=zm.trans (vO.trans Ng)
   have kF:∀c o,c≠P2->c≠e.vv->Es c=some o->Nh c=some o:=λc o n1 n2 ec=>pC _ _ (k18 c o n1 n2 ec)
   have W17:=W1.go S1 (cg.same amq)
   have amx:gP e.b e.ps Nh (e.cs++[.ref tq]) (e.hks++[(nm,vw,ss)]):=(lU.lk.keep λc o ho ec=>pC _ _ (pB (by rcases ho with⟨xs,rfl⟩|⟨xs,rfl,_⟩ <;> (intro kv z;cases z)) (by rcases ho with⟨xs,rfl⟩|⟨xs,rfl,_⟩ <;> (intro kv z;cases z)) ec)).snoc ⟨tq,nl,rfl,Ng _ _ (vO _ _ e19),pC _ _ ams,hsn,jN,fr acW S1.g.at_,fr acW S1.dk.past⟩
   refine q hl' (e.hks++[(nm,vw,ss)]) (e.cs++[.ref tq]) (n+1) Nh (lU.hung kF (amn.same pC) (amo.same pC) hsv (λx hx=>?_) e21 (λz=>by rw[z,b20] at lR;cases lR) (λz=>by rw[z,amv] at lR;cases lR) amx) (W17.hung lU kF) (by rw[Q07];show e.hks.length+1<=4;omega) (by omega) (by omega)
   rcases List.mem_append.mp hx with z|z
   . obtain⟨K6,K7,hV,a1,a2⟩:=lU.vw x z
     exact⟨K6,K7,⟨pC _ _ (pB (by intro ps z;cases z) (by intro kv z;cases z) hV.ob),pC _ _ (pB (by intro ps z;cases z) (by intro kv z;cases z) hV.nl),hV.nd,hV.bO⟩,a1,a2⟩
   . obtain rfl:=List.mem_singleton.mp z
     exact⟨dx,nv,⟨pC _ _ (pB (by intro ps z;cases z) (by intro kv z;cases z) Nf.ob),pC _ _ (pB (by intro ps z;cases z) (by intro kv z;cases z) Nf.nl),hsn,jN⟩,fr Nb S1.dk.past,fr Nb S1.g.at_⟩
end
noncomputable def Ni (K:W.Frag) (P2:Addr):Sp:=λvs H Q _=>∃(a:Addr) (ns:List Int),vs=[.ref a]/\jB K H a ns/\ns.length<=63/\bB P2 bM bN H/\∀H',Q (.bl true) H'
theorem G0.one {K:W.Frag}{H:Hp}{a b:Addr}{ns:List Int}{n:Int}(h:jB K H a ns)(hl:ns.length<=63)(hb:H b=none)(hn:0<=n):G0 K (upd H b (.lst [.int n])) a b ns n:=by
 refine⟨?_,hl,aF,hn⟩
 rcases h with⟨o,h⟩|h
 . exact .inl ⟨o,Same.new hb a _ h⟩
 . exact .inr h
theorem amy {ns:List Int}{lo hi:Option Int}{v:V}{i:Nat}(h:(iC (ns.map V.int) lo hi)[i]? =some v):∃z,v=.int z:=by
 have h1:=Q0y h
 unfold iC at h1
 obtain⟨z,_,e⟩:=List.mem_map.mp (List.mem_of_mem_drop (List.mem_of_mem_take h1))
 exact⟨z,e.symm⟩
theorem bQ.amz {K:W.Frag}{P2 C CD:Addr}{e:En}{src so s:Addr}{f:Str->V}{pl:List V}{n:Int}{H:Hp}(h:bQ K P2 C CD e src so f pl n H)(hs:H s=some (.dK (aK f e.fs.names))):bQ K P2 C CD e src s f pl n H:=⟨h.g,h.lam,h.dk,h.vI,h.vw,h.hl,h.hlb,h.hlp,h.lk,hs,h.sl,h.vJ,h.vK⟩
noncomputable def Lw (K:W.Frag) (P2 C CD a b d dd kk t vv ps:Addr) (ns:List Int) (xs:List V) (fs:Fs) (sl:Addr) (cv:List V) (hl:Addr) (hks:List Hk) (cs:List V) (pa:Addr) (qs:List V) (G:List (Str->V)) (f:Str->V) (n:Int) (H:Hp):Prop:=
 ∃src so pl,bQ K P2 C CD ⟨a,b,d,dd,kk,t,vv,ps,hl,ns,xs,fs,hks,cs,sl,cv⟩ src so f pl n H/\gQ H ⟨a,b,d,dd,kk,t,vv,ps,hl,ns,xs,fs,hks,cs,sl,cv⟩ pa qs pl G f
section
variable {P:Program}{w:World}{K:W.Frag}{mg:Str->Option Value}{base:Heap}
variable {C P2 CD:Addr}
theorem ac4:bA ["_law_script","_law_at","_law_fields_here","_law_kind_here","_law_past","_law_desk","_law_hooks","_law_cell","_law_way","_law_good","_law_hook","_law_names_here","_law_k"] ["_law_script"] (aL (top 87)):=by refine⟨rfl,rfl,rfl,?_,rfl,?_,?_⟩ <;> decide+kernel
theorem amA (T:Tb mg)(DK:fJ K CD)(amB:Mk K CD Dr)(amC:mg "Desk"=some (.ref CD))(amD:Meth K CD "seen_by" Dk)(ac5:Meth K CD "source_now" Dj)(Ew:Dn K mg "law" ["_law_script"] (top 87) amE amF)(uD:Dn K mg "_law_fields" Bq (top 69) Jh Ji)(amG:aq P w K mg base aB (5) Jh Ji Bq (aat K))(jD:Dn K mg "_law_value" oG (top 74) qt qu)(xT:aq P w K mg base aB (4) qt qu oG (aay K))(dB:Dn K mg "_law_next" cN (top 64) gj gk)(gD:aq P w K mg base aB (1) gj gk cN (mV K))(vM:Dn K mg "_law_deed_by" Cj (top 85) Mx Mz)(amH:aq P w K mg base aB (17) Mx Mz Cj (acM K P2 C CD))(sI:Dn K mg "_law_undone" Ci (top 84) Ms Mt)(ac6:aq P w K mg base aB (16) Ms Mt Ci (acF K P2 C CD))(vN:Dn K mg "_law_hung" Ck (top 86) M7 M8)(amI:aq P w K mg base aB (12) M7 M8 Ck (acU K P2 C CD))(o_:Dn K mg "_law_taken" um (top 79) yM yN)(MF:aq P w K mg base aB (1) yM yN um (Mg))(dU:Dn K mg "_law_same" jh (top 75) jK jL)(iU:aq P w K mg base aB (7) jK jL jh (qC 6))(vh:La K "__init__" "Desk.__init__" qg (aJ 53 0) Dr Lf)(amJ:aq P w K mg base aB (5) Dr Lf qg (abL C CD))(u9:Dm K "seen_by" "Desk.seen_by" g_ (aJ 53 6) Dk KZ)(amK:aq P w K mg base aB (12) Dk KZ g_ (abB P2 C CD))(rY:Dm K "source_now" "Desk.source_now" mU (aJ 53 5) Dj KY)(ac7:aq P w K mg base aB (4) Dj KY mU (abA C CD)):aq P w K mg base aB (18) amE amF ["_law_script"] (Ni K P2):=by
 have dJ:=DK.ct
 refine Ew.F.ok ac4 (λvs H Q E h=>?_) (λcdv A outer s H vs Q E hr h=>?_)
 . obtain⟨a,ns,rfl,_⟩:=h
   rfl
 obtain⟨a,ns,rfl,hS,h63,hT,done⟩:=h
 have nd:=ac4.nd
 have hu:=fY hr
 refine⟨_,(ao (bw (i:=1) nd rfl (Or.inl rfl) (fu (aj aG ak)))
  (ao (bw (i:=2) nd rfl (Or.inl rfl) (aR amG (hr.mono (by decide)) uD (aj (pv 0) (aj (pv 1) (aj (aU mz aG (aU dh (aR gD (hr.mono (by decide)) dB (aj (pv 0) (aj (pv 1) ak))) aG)) (aj aG ak))))))
  (ao (bw (i:=3) nd rfl (Or.inl rfl) (cO (aj bD (aj (pv 2) ak))))
  (ao (bw (i:=4) nd rfl (Or.inl rfl) (fu (aj (aR xT (hr.mono (by decide)) jD (aj (pv 0) (aj (pv 1) (aj (pv 3) (aj aG ak))))) ak)))
  (ao (bw (i:=5) nd rfl (Or.inl rfl) (XS amB amJ (hr.mono (by decide)) rfl amC vh.b .nil eN (aj (pv 3) (aj (jx w5 (by rfl) T.jf boot_dict (aj (aZ eO (pv 4) aG (λ_ _=>rfl)) ak)) ak))))
  (ao (bw (i:=6) nd rfl (Or.inl rfl) (fu ak))
  (ao (jt PassesOwn.never rfl (lB (GD Yg (pv 0) Gy (Gz aG))) (bG (i:=7) nd rfl (Or.inl rfl)) (ao (bw (i:=8) nd rfl (Or.inl rfl) (aU dh (aU mz (aU dh (pv 7) aG) (aR gD (hr.mono (by decide)) dB (aj (pv 0) (aj (pv 1) ak)))) aG))
  (ao (bw (i:=9) nd rfl (Or.inl rfl) pJ)
  (ao (aW (aV Gu (pv 8) aG (aQ _)) (aD (qT (aR amH (hr.mono (by decide)) vM (aj (pv 0) (aj (pv 1) (aj (pv 5) (aj (pv 6) (aj (pv 2) (aj (pv 4) (aj (pv 8) ak)))))))) (fV rfl (cB (bG (i:=4) nd rfl (Or.inl rfl)) (cB (bG (i:=9) nd rfl (Or.inl rfl)) fU))))) (aD (aW (aV Gu (pv 8) aG (aQ _)) (aD (qT (aR ac6 (hr.mono (by decide)) sI (aj (pv 5) (aj (pv 6) (aj (pv 4) ak)))) (fV rfl (cB (bG (i:=4) nd rfl (Or.inl rfl)) (cB (bG (i:=9) nd rfl (Or.inl rfl)) fU))))) (aD (bw (i:=6) nd rfl (Or.inl rfl) (aR amI (hr.mono (by decide)) vN (aj (pv 0) (aj (pv 1) (aj (pv 5) (aj (pv 6) (aj (pv 2) ak)))))))))))
  (ao (aW (PW.pt (jU (lZ (dF (pv 9))) (jT (lZ (dF (aR iU (hr.mono (by decide)) dU (aj (XR (pv 5) dJ ac5 ac7 (hr.mono (by decide)) rY.b .nil eN) (aj (aZ eO (pv 4) (nM nO aG) (λ_ _=>rfl)) ak)))))))) (aD (aP pJ)) aX)
  (aD (jt PassesOwn.never rfl (lB (pv 6)) (fV rfl (cB (bG (i:=10) nd rfl (Or.inl rfl)) (cB (bG (i:=11) nd rfl (Or.inl rfl)) fU))) (aD (aW (lZ (dF (aR iU (hr.mono (by decide)) dU (aj (gB (pv 5) dJ amD amK (hr.mono (by decide)) u9.b .nil eN (aj (pv 10) ak)) (aj (aR MF (hr.mono (by decide)) o_ (aj (pv 11) (aj (aZ eO (pv 4) (nM nO aG) (λ_ _=>rfl)) ak))) ak))))) (aD (aP pJ)) aX)))))))))
  (ao (jt PassesOwn.never rfl (wg rfl T.uc (aj (aY d8 (by rfl) T.dG PySem.boot_len (aj (pv 4) ak)) ak)) (bG (i:=12) nd rfl (Or.inl rfl)) (ao (qT (aR ac6 (hr.mono (by decide)) sI (aj (pv 5) (aj (pv 6) (aj (pv 4) ak)))) (fV rfl (cB (bG (i:=4) nd rfl (Or.inl rfl)) (cB (bG (i:=9) nd rfl (Or.inl rfl)) fU))))
  (aD (aW (lZ (dF (pv 9))) (aD (aP pJ)) aX))))
  (aD (aP (aR iU (hr.mono (by decide)) dU (aj (XR (pv 5) dJ ac5 ac7 (hr.mono (by decide)) rY.b .nil eN) (aj (aZ eO (pv 4) aG (λ_ _=>rfl)) ak))))))))))))),?_⟩
 refine⟨gR,λb hb=>?_⟩
 have s0:Same H (upd H b (.lst [.int 0])):=Same.new hb
 have g0:G0 K (upd H b (.lst [.int 0])) a b ns 0:=G0.one hS h63 hb (by decide)
 have hT0:=hT.same s0
 generalize upd H b (.lst [.int 0])=H0 at s0 g0 hT0
 refine⟨_,rfl,_,rfl,_,rfl,_,rfl,a,b,ns,0,rfl,g0,by decide,λr H1 r0 r1 s1 h1=>?_⟩
 have g1:G0 K H1 a b ns (0+1):=g0.go s1 h1 (by decide)
 have hT1:=hT0.sb g0.at_ s1
 obtain⟨m,hm⟩:∃m:Nat,1+r % 6=(m:Int):=⟨(1+r % 6).toNat,by omega⟩
 refine⟨_,_,rfl,rfl,(by show(0:Int)<6;decide),_,_,rfl,rfl,a,b,ns,_,m,(by show [V.ref a,V.ref b,V.int (1+r % 6),V.int 0]=_;rw[hm]),by omega,g1,by decide,λt xs fs n2 H2 s2 h2 z1 z2 ht hfa hnd hlen Nj hso _=>?_⟩
 have g2:G0 K H2 a b ns n2:=g1.go s2 h2 z1
 have hT2:=hT1.sb g1.at_ s2
 have uE:xs.length=fs.names.length:=FA.len fs hfa
 have h8:fs.names.length<=8:=by omega
 have hf1:1<=fs.names.length:=by omega
 clear s1 s2 g1 g0 hT1 hT0 hT hS
 refine⟨_,rfl,dg,λkk hkk=>?_⟩
 have s3:Same H2 (upd H2 kk (.tup [.str "record",.ref t])):=Same.new hkk
 have Nk:upd H2 kk (.tup [.str "record",.ref t]) kk=some (.tup [.str "record",.ref t]):=aF
 generalize upd H2 kk (.tup [.str "record",.ref t])=H3 at s3 Nk
 have zp:d9 H3 kk t xs fs:=⟨Nk,s3 _ _ ht,FA.mono (Tu.of s3) fs hfa,hnd,by omega,Nj.W,hso⟩
 have g3:G0 K H3 a b ns n2:=g2.go (SB.of s3) (s3 _ _ g2.at_) (Q1c _)
 have m_:=hT2.same s3
 refine⟨_,rfl,_,rfl,_,rfl,a,b,ns,n2,kk,t,xs,fs,0,rfl,g3,by omega,zp.at_,zp.tu,zp.fa,Nj,hnd,h8,λso f n4 H4 s4 h4 z3 z4 amL Ey ac8=>?_⟩
 have hF:FK fs f:=λx k e=>by
  obtain⟨i,hi⟩:=Fs.K1 e
  exact ac8 i x k hi
 have g4:G0 K H4 a b ns n4:=g3.go s4 h4 z3
 have yX:d9 H4 kk t xs fs:=zp.mono (s4.tu g3.at_)
 have u6:=m_.sb g3.at_ s4
 clear s3 s4 g3 m_ hT2 hfa ht Nk hkk zp g2 h2 h1 ac8
 refine⟨gR,λpa hpa=>?_⟩
 have zq:=Same.new hpa (o:=.lst [.ref so])
 have ep:upd H4 pa (.lst [.ref so]) pa=some (.lst [.ref so]):=aF
 have pab:pa≠b:=λz=>by rw[z,g4.at_] at hpa;cases hpa
 generalize upd H4 pa (.lst [.ref so])=Hp_ at zq ep
 refine⟨_,rfl,_,rfl,pa,_,_,_,rfl,rfl,aC.of ep,rfl,so,_,rfl,zq _ _ Ey,λds hds=>?_⟩
 have s5:=Same.new hds (o:=.dK (aK f fs.names))
 have e5:upd Hp_ ds (.dK (aK f fs.names)) ds=some (.dK (aK f fs.names)):=aF
 generalize upd Hp_ ds (.dK (aK f fs.names))=H5 at s5 e5
 intro d dd hd hdd hdv
 have k5:Same H5 (upd (upd H5 dd (.own d)) d (.ins CD dd [])):=λc o e=>by rw[au (aN e hd),au (aN e hdd)];exact e
 have x5:upd (upd H5 dd (.own d)) d (.ins CD dd []) d=some (.ins CD dd []):=aF
 generalize upd (upd H5 dd (.own d)) d (.ins CD dd [])=H5' at k5 x5
 have Ez:=s5.trans k5
 have qD:=zq.trans Ez
 refine⟨d,dd,kk,t,ds,xs,fs,f,rfl,x5,yX.mono (Tu.of qD),Nj,k5 _ _ e5,hF,λsrc vv ps H6 k6 amM Np zu Nq=>⟨rfl,?_⟩⟩
 have zx:Same H4 H6:=λc o e=>k6 c o (aN (s5 _ _ (zq _ _ e)) hd) (qD _ _ e)
 have ep6:H6 pa=some (.lst [.ref so]):=k6 _ _ (aN (s5 _ _ ep) hd) (Ez _ _ ep)
 have amN:ps≠b:=λz=>by rw[z,qD _ _ g4.at_] at zu;cases zu
 have pap:pa≠ps:=λz=>by rw[<-z,Ez _ _ ep] at zu;cases zu
 have ada:so≠vv:=λz=>by rw[<-z,qD _ _ Ey] at Np;cases Np
 have yw:=u6.same zx
 have Nr:=zx _ _ Ey
 have EY:=zx _ _ g4.at_
 have adb:G0 K H6 a b ns n4:=g4.go (SB.of zx) EY (Q1c _)
 clear zx qD k6 k5 x5 s5 e5 Np amM zu u6 yX g4 Ey amL h4 Ez zq ep hpa
 refine⟨nG,λhl pq=>?_⟩
 have s7:=Same.new pq (o:=.lst [])
 have e7:upd H6 hl (.lst []) hl=some (.lst []):=aF
 have hlb:hl≠b:=λz=>by rw[z,EY] at pq;cases pq
 have hlp:hl≠ps:=λz=>by rw[z,Nq.past] at pq;cases pq
 generalize upd H6 hl (.lst [])=H7 at s7 e7
 have g7:G0 K H7 a b ns n4:=adb.go (SB.of s7) (s7 _ _ EY) (Q1c _)
 have S7:bQ K P2 C CD ⟨a,b,d,dd,kk,t,vv,ps,hl,ns,xs,fs,[],[],hl,[]⟩ src so f [] n4 H7:=⟨g7,yw.same s7,Nq.same s7,amN,(λh hh=>nomatch hh),e7,hlb,hlp,⟨rfl,λi v h e=>by cases e⟩,s7 _ _ Nr,e7,hlb,hlp⟩
 have W7:gQ H7 ⟨a,b,d,dd,kk,t,vv,ps,hl,ns,xs,fs,[],[],hl,[]⟩ pa [.ref so] [] [] f:=⟨s7 _ _ ep6,pab,pap,⟨rfl,λi v f' e1 e2=>by
  match i with
  |0=>cases e1;cases e2;exact⟨so,rfl,ada,s7 _ _ Nr,hF⟩
  |i+1=>cases e1⟩,⟨rfl,λi v f' e1=>by cases e1⟩⟩
 clear adb EY Nr yw Nq ep6 s7 pq ada
 refine⟨_,rfl,_,rfl,a,_,rfl,g7.jC.sq,λsl hsl=>?_⟩
 have vJ:sl≠b:=λz=>by rw[z,g7.at_] at hsl;cases hsl
 have ade:H7 ps=some (.lst []):=S7.dk.past
 have vK:sl≠ps:=λz=>by rw[z,ade] at hsl;cases hsl
 have amO:(iC (ns.map V.int) none (some 63)).length<=63:=Q0c (GF _ _ _) (by rw[Q06];exact h63)
 have hint:∀(i:Nat) v,(iC (ns.map V.int) none (some 63))[i]? =some v->∃z,v=.int z:=λi v h=>amy h
 generalize iC (ns.map V.int) none (some 63)=cv at amO hint
 have E_:=Same.new hsl (o:=.lst cv)
 have vP:upd H7 sl (.lst cv) sl=some (.lst cv):=aF
 generalize upd H7 sl (.lst cv)=H11 at E_ vP
 have L11:Lw K P2 C CD a b d dd kk t vv ps ns xs fs sl cv hl [] [] pa [.ref so] [] f n4 H11:=by
  have S:=S7.same E_
  have W:=W7.go S7 (cg.same E_)
  exact⟨src,so,[],⟨S.g,S.lam,S.dk,S.vI,S.vw,S.hl,S.hlb,S.hlp,S.lk,S.so,vP,vJ,vK⟩,⟨W.at_,W.nb,W.np,W.q,W.p⟩⟩
 clear S7 W7 E_ g7 ade
 refine⟨sl,rfl,⟨_,aC.of vP⟩,zW (xs:=cv) (λi σ H'=>∃bT hl' x7 x8 x9 x10 x11 x12,σ=[some (.ref a),some (.ref b),some (.ref t),some (.ref kk),some (.ref bT),some (.ref d),some (.ref hl'),x7,x8,x9,x10,x11,x12]/\∃(hks:List Hk) (cs qs:List V) (G:List (Str->V)) (f':Str->V) (n:Int),Lw K P2 C CD a b d dd kk t vv ps ns xs fs sl cv hl' hks cs bT qs G f' n H'/\hks.length<=4/\G.length<=i/\n<=n4+30 * i)
  ⟨pa,hl,_,_,_,_,_,_,rfl,[],[],_,[],f,n4,L11,by decide,Q01 _,by omega⟩ ?_ ?_ ?_⟩
 . rintro i σ H' _ ⟨bT,hl',x7,x8,x9,x10,x11,x12,_,hks,cs,qs,G,f',n,⟨src',so',cZ,S,W⟩,_⟩
   exact aC.of S.sl
 . rintro i v σ H' hv ⟨bT,hl',x7,x8,x9,x10,x11,x12,rfl,hks,cs,qs,G,f',n,⟨src',so',cZ,S,W⟩,Fb,hGi,hni⟩
   have aoz:i<63:=by have:=(List.getElem?_eq_some_iff.mp hv).1;omega
   obtain⟨z,rfl⟩:=hint i v hv
   have g':G0 K H' a b ns n:=S.g
   refine⟨_,rfl,_,_,rfl,rfl,(by show(0:Int)<97;decide),_,rfl,_,rfl,a,b,ns,n,rfl,g',by omega,λr2 H2 r20 r21 s2 h2=>?_⟩
   refine⟨_,_,rfl,rfl,_,_,rfl,rfl,(by show(0:Int)<9;decide),?_⟩
   have S2:=S.sb s2 h2 (by omega)
   have W2:=W.go S (cg.sb s2)
   clear S W s2 h2 g'
   dsimp only[cF]
   refine uq (A:=nJ _ _) (λσ' H3=>σ'=[some (.ref a),some (.ref b),some (.ref t),some (.ref kk),some (.ref bT),some (.ref d),some (.ref hl'),some (.int z),some (.int ((z % 97+r2) % 9)),some (.bl true),x10,x11,x12]/\H3=H2) ?_ (λhB=>hB _ _ ⟨rfl,rfl⟩)
   rintro _ _ ⟨rfl,rfl⟩
   refine uq (A:=pL _ _ _) (λσ' H3=>∃gq hl2,σ'=[some (.ref a),some (.ref b),some (.ref t),some (.ref kk),some (.ref gq),some (.ref d),some (.ref hl2),some (.int z),some (.int ((z % 97+r2) % 9)),some (.bl true),x10,x11,x12]/\∃(h_:List Hk) (pF lV:List V) (G2:List (Str->V)) (f2:Str->V) (n3:Int),Lw K P2 C CD a b d dd kk t vv ps ns xs fs sl cv hl2 h_ pF gq lV G2 f2 n3 H3/\h_.length<=4/\G2.length<=i+1/\n3<=n+25) ?_ (λhB=>?_)
   rotate_left
   . refine⟨_,rfl,_,_,rfl,rfl,_,rfl,dM (λc4=>?_) (λc4=>?_)⟩
     . refine⟨_,rfl,_,rfl,_,rfl,_,rfl,_,rfl,_,rfl,_,rfl,⟨a,b,d,dd,kk,t,vv,ps,hl',ns,xs,fs,hks,cs,sl,cv⟩,src',so',bT,f',cZ,qs,G,n+1,_,rfl,S2,W2,by omega,by omega,hf1,λrr mO kJ gq f2 jl lV G2 n3 H3 S3 W3 y1 y2 y3 hrr=>?_⟩
       refine⟨rr,_,rfl,aH.of hrr,rfl,_,_,rfl,_,_,rfl,rfl,?_⟩
       exact hB _ _ ⟨gq,hl',rfl,hks,cs,lV,G2,f2,n3,⟨kJ,mO,jl,S3,W3⟩,Fb,by omega,by omega⟩
     . refine⟨_,rfl,_,_,rfl,rfl,_,rfl,dM (λc5=>?_) (λc5=>?_)⟩
       . refine⟨_,rfl,_,rfl,_,rfl,⟨a,b,d,dd,kk,t,vv,ps,hl',ns,xs,fs,hks,cs,sl,cv⟩,src',so',bT,f',cZ,qs,G,n+1,rfl,S2,W2,λrr mO kJ gq f2 jl lV G2 H3 S3 W3 y1 hrr=>?_⟩
         refine⟨rr,_,rfl,aH.of hrr,rfl,_,_,rfl,_,_,rfl,rfl,?_⟩
         exact hB _ _ ⟨gq,hl',rfl,hks,cs,lV,G2,f2,n+1,⟨kJ,mO,jl,S3,W3⟩,Fb,by omega,by omega⟩
       . obtain⟨us,s1,_,n1,hs1,_⟩:=W2.q.last
         refine⟨_,rfl,_,rfl,_,rfl,_,rfl,_,rfl,⟨a,b,d,dd,kk,t,vv,ps,hl',ns,xs,fs,hks,cs,sl,cv⟩,src',s1,bT,f',cZ,qs,G,n+1,rfl,S2.amz hs1,W2,n1,by omega,Fb,λhl2 h_ pF n3 H3 S3 W3 y1 y2 y3=>?_⟩
         exact hB _ _ ⟨bT,hl2,rfl,h_,pF,qs,G,f',n3,⟨src',s1,cZ,S3,⟨W3.at_,W3.nb,W3.np,W3.q,W3.p⟩⟩,y1,by omega,by omega⟩
   rintro _ H3 ⟨gq,hl2,rfl,h_,pF,lV,G2,f2,n3,⟨kJ,mO,jl,S3,W3⟩,amS,Fe,hn3⟩
   clear S2 W2
   obtain⟨us,s1,rfl,n1,hs1,qF,_⟩:=W3.q.last
   have dk3:bW H3 C CD d dd kk t kJ vv ps xs fs f2 h_ jl:=S3.dk
   refine⟨_,rfl,true,rfl,bH ?_⟩
   refine⟨_,rfl,d,dd,_,rfl,dk3.ob,rfl,d,dd,kk,t,kJ,vv,ps,xs,fs,h_,jl,f2,rfl,dk3,λp8 H8 s8 zy hp8=>?_⟩
   refine⟨_,rfl,_,rfl,gq,_,_,_,rfl,rfl,aC.of (s8 _ _ W3.at_),sH _ _,.ref p8,.ref s1,rfl,acB hp8 (s8 _ _ hs1) (λz=>by rw[z,hs1] at zy;cases zy) (by omega) qF,λH9 s9=>⟨true,rfl,bH ?_⟩⟩
   have s89:=s8.trans s9
   have S9:=S3.same s89
   have W9:=W3.go S3 (cg.same s89)
   have amT:H9 hl2=some (.lst pF):=S9.hl
   refine⟨_,rfl,hl2,rfl,⟨_,aC.of amT⟩,zW (xs:=pF) (λj σ H'=>∃x10 x11,σ=[some (.ref a),some (.ref b),some (.ref t),some (.ref kk),some (.ref gq),some (.ref d),some (.ref hl2),some (.int z),some (.int ((z % 97+r2) % 9)),some (.bl true),x10,x11,x12]/\Lw K P2 C CD a b d dd kk t vv ps ns xs fs sl cv hl2 h_ pF gq (us++[.ref s1]) G2 f2 n3 H') ⟨_,_,rfl,kJ,mO,jl,S9,W9⟩ ?_ ?_ ?_⟩
   . rintro j σ H' _ ⟨_,_,_,src',so',cZ,S,W⟩
     exact aC.of S.hl
   . rintro j v σ H' hv ⟨x10,x11,rfl,src',so',cZ,S,W⟩
     have lk:gP b ps H' pF h_:=S.lk
     have hjl:j<h_.length:=by rw[<-lk.1];exact(List.getElem?_eq_some_iff.mp hv).1
     obtain⟨c,nn,rfl,hc,hnn,hsn,jN,hnb,hnp⟩:=lk.2 j v _ hv (Q05 hjl)
     have hmem:h_[j]∈h_:=Q0t hjl
     generalize h_[j]=h at hc hnn hsn jN hmem
     have dk:bW H' C CD d dd kk t src' vv ps xs fs f2 h_ cZ:=S.dk
     have hss:=dk.inn h hmem
     refine⟨c,_,rfl,aH.of hc,rfl,_,_,rfl,_,_,rfl,rfl,?_⟩
     refine⟨_,rfl,d,dd,_,rfl,dk.ob,rfl,_,rfl,d,dd,kk,t,src',vv,ps,xs,fs,h_,cZ,h,f2,rfl,dk,hmem,S.lam,λp5 H5 k5 hT5 aoB xY=>?_⟩
     have S5:=S.kp k5 hT5
     have W5:=W.go S (cg.kpt k5)
     obtain⟨us5,s5,hq5,n5,hs5,fk5,_⟩:=W5.q.last
     have amW:=k5.keep S.lam hnn (by intro ps z;cases z)
     refine⟨_,rfl,_,rfl,_,rfl,gq,_,_,_,rfl,rfl,aC.of W5.at_,(by rw[hq5];exact sH _ _),nn,s5,_,h.2.2,f2,rfl,amW,hsn,jN,hs5,(λx hx=>by rw[iK,if_pos (hss x hx)]),λp6 H6 s6 adh hp6=>?_⟩
     have hne:p5≠p6:=λz=>by rw[<-z,xY] at adh;cases adh
     refine⟨.ref p5,.ref p6,rfl,alF (s6 _ _ xY) hp6 hne hnd hsn hss jN dk.fk,λH7 s7=>⟨true,rfl,bH ?_⟩⟩
     have s67:=s6.trans s7
     exact⟨_,_,rfl,src',so',cZ,S5.same s67,W5.go S5 (cg.same s67)⟩
   . rintro σ H' ⟨x10,x11,rfl,L⟩
     exact⟨gq,hl2,_,_,_,_,_,_,rfl,h_,pF,_,G2,f2,n3,L,amS,Fe,by omega⟩
 . rintro σ H' ⟨bT,hl',x7,x8,x9,x10,x11,x12,rfl,hks,cs,qs,G,f',n,⟨src',so',cZ,S,W⟩,Fb,hGi,hni⟩
   have Eb:qs.length=G.length+1:=by rw[W.q.1,Q07];rfl
   refine⟨_,rfl,bT,_,rfl,.inl (aC.of W.at_),_,rfl,by omega,by omega,?_⟩
   refine Gk (lo:=0) (n:=Int.toNat ((qs.length:Nat):Int)) (λj σ H2=>∃gq y7 y8 y9 y10 y11 y12,σ=[some (.ref a),some (.ref b),some (.ref t),some (.ref kk),some (.ref gq),some (.ref d),some (.ref hl'),y7,y8,y9,y10,y11,y12]/\∃(lV:List V) (G2:List (Str->V)) (f2:Str->V),Lw K P2 C CD a b d dd kk t vv ps ns xs fs sl cv hl' hks cs gq lV G2 f2 n H2/\G2.length=G.length - j)
    ⟨bT,_,_,_,_,_,_,rfl,qs,G,f',⟨src',so',cZ,S,W⟩,rfl⟩ ?_ ?_
   . rintro j σ H2 hj ⟨gq,y7,y8,y9,y10,y11,y12,rfl,lV,G2,f2,⟨kJ,mO,jl,S2,W2⟩,Fe⟩
     refine⟨_,rfl,_,rfl,_,rfl,⟨a,b,d,dd,kk,t,vv,ps,hl',ns,xs,fs,hks,cs,sl,cv⟩,kJ,mO,gq,f2,jl,lV,G2,n,rfl,S2,W2,λrr Iu amY pa3 f3 pl3 qs3 G3 H3 S3 W3 y1 hrr=>?_⟩
     refine⟨rr,_,rfl,aH.of hrr,rfl,_,_,rfl,_,_,rfl,rfl,?_⟩
     refine⟨_,rfl,true,rfl,bH ?_⟩
     exact⟨pa3,_,_,_,_,_,_,rfl,qs3,G3,f3,⟨amY,Iu,pl3,S3,W3⟩,by omega⟩
   . rintro σ H2 ⟨gq,y7,y8,y9,y10,y11,y12,rfl,lV,G2,f2,⟨kJ,mO,jl,S2,W2⟩,Fe⟩
     have Mu:G2=[]:=List.length_eq_zero_iff.mp (by rw[Fe];have:Int.toNat ((qs.length:Nat):Int)=qs.length:=Q1v _;omega)
     subst Mu
     obtain⟨us,s1,rfl,n1,hs1,qF,hus⟩:=W2.q.last
     have acL:us=[]:=List.length_eq_zero_iff.mp hus.1
     subst acL
     have dk2:bW H2 C CD d dd kk t kJ vv ps xs fs f2 hks jl:=S2.dk
     refine⟨_,rfl,d,dd,_,rfl,dk2.ob,rfl,d,dd,kk,t,kJ,vv,ps,xs,fs,hks,jl,f2,rfl,dk2,λp8 H8 s8 zy hp8=>?_⟩
     exact⟨_,rfl,gq,_,_,_,rfl,rfl,aC.of (s8 _ _ W2.at_),rfl,.ref p8,.ref s1,rfl,acB hp8 (s8 _ _ hs1) (λz=>by rw[z,hs1] at zy;cases zy) (by omega) qF,λH9 s9=>done H9⟩
end
end Pb
namespace Pb
open PySem L2
noncomputable abbrev adl (K:W.Frag) (x ql:Str) (st:Stmt) (f:Addr):Prop:=∃(oc:Value) (od:Option Addr) (kV doc pm:Value) (an:Option Addr) (cdv ct:Value) (osl:Array (Option Value)),K.lookup f=some ⟨oc,od,.func (W.fnOf x ql (fM st) (eE st) (aL st) .none kV doc pm an cdv ct),osl⟩/\W.codeIn K cdv ql=true/\W.keepIn K (.ref f)=true
noncomputable abbrev bU (K:W.Frag) (x:Str) (st:Stmt):Prop:=∃f,W.nsIn K mainGlobals x=some (some (.ref f))/\adl K x x st f
noncomputable abbrev HB (x ql:Str) (ps:List Str) (st:Stmt):Prop:=∀(kV doc pm:Value) (an:Option Addr) (cdv ct:Value) (us:List Value),us.length=ps.length->bindArgs (W.fnOf x ql (fM st) (eE st) (aL st) .none kV doc pm an cdv ct) ⟨us,[]⟩=pure (ps.zip us)
theorem bY {K:W.Frag}{mg:Str->Option Value}{h:Heap}{x:Str}{ps:List Str}{st:Stmt}(X:K.In h)(G:h.Ns mainGlobals mg)(a:bU K x st)(hb:HB x x ps st):∃f d,Dn K mg x ps st f d/\∀us:List Value,us.length=ps.length->bindArgs d ⟨us,[]⟩=pure (ps.zip us):=by
 obtain⟨f,a,oc,od,kV,doc,pm,an,cdv,ct,osl,l,c,k⟩:=a
 have F:=Yt (st:=st) l c k
 exact⟨f,_,⟨F,F.binds hb,W.mg_of X G a⟩,hb kV doc pm an cdv ct⟩
noncomputable abbrev cW (K:W.Frag) (C ns:Addr) (x ql:Str) (st:Stmt) (f:Addr):Prop:=W.nsIn K ns x=some (some (.ref f))/\adl K x ql st f/\W.isFn K (.ref f)=true/\W.findIn K (.ref C) x=some (some (.ref f))
theorem ig {K:W.Frag}{C ns:Addr}{x ql:Str}{ps:List Str}{st:Stmt}{f:Addr}(a:cW K C ns x ql st f)(hb:HB x ql ps st):∃d,Dm K x ql ps st f d:=by
 obtain⟨_,⟨oc,od,kV,doc,pm,an,cdv,ct,osl,l,c,k⟩,_,_⟩:=a
 have F:lE K x ql st f _:=⟨⟨oc,od,kV,doc,pm,an,cdv,ct,osl,rfl,l,c⟩,k⟩
 exact⟨_,F,F.binds hb⟩
theorem am2 {K:W.Frag}{x:Str}{st:Stmt}{f:Addr}{oc:Value}{od an:Option Addr}{kV doc pm cdv ct:Value}{osl:Array (Option Value)}(a:W.nsIn K mainGlobals x=some (some (.ref f)))(l:K.lookup f=some ⟨oc,od,.func (W.fnOf x x (fM st) (eE st) (aL st) .none kV doc pm an cdv ct),osl⟩)(c:W.codeIn K cdv x=true)(k:W.keepIn K (.ref f)=true):bU K x st:=⟨f,a,oc,od,kV,doc,pm,an,cdv,ct,osl,l,c,k⟩
theorem am3 {K:W.Frag}{C ns:Addr}{x ql:Str}{st:Stmt}{f:Addr}{oc:Value}{od an:Option Addr}{kV doc pm cdv ct:Value}{osl:Array (Option Value)}(a:W.nsIn K ns x=some (some (.ref f)))(l:K.lookup f=some ⟨oc,od,.func (W.fnOf x ql (fM st) (eE st) (aL st) .none kV doc pm an cdv ct),osl⟩)(c:W.codeIn K cdv ql=true)(k:W.keepIn K (.ref f)=true)(h:W.isFn K (.ref f)=true)(g:W.findIn K (.ref C) x=some (some (.ref f))):cW K C ns x ql st f:=⟨a,⟨oc,od,kV,doc,pm,an,cdv,ct,osl,l,c,k⟩,h,g⟩
theorem cW.meth {K:W.Frag}{C ns:Addr}{x ql:Str}{st:Stmt}{f:Addr}(a:cW K C ns x ql st f):Meth K C x f:=by
 obtain⟨_,⟨_,_,_,_,_,_,_,_,_,_,_,k⟩,h1,h2⟩:=a
 exact⟨h2,h1,k⟩
noncomputable abbrev adn (K:W.Frag) (C:Addr):Prop:=W.plainGet K C Str.empty=true/\W.hasDictIn K C=true/\W.plainOver K C=true/\W.findIn K (.ref C) "__setattr__"=some (some (.builtin "object.__setattr__"))/\W.makesIn K C=true/\W.keepIn K (.ref C)=true
theorem len1 {α:Type}{l:List α}(h:l.length=1):∃a,l=[a]:=match l,h with|[a],_=>⟨a,rfl⟩
theorem len2 {α:Type}{l:List α}(h:l.length=2):∃a b,l=[a,b]:=match l,h with|[a,b],_=>⟨a,b,rfl⟩
theorem jO {α:Type}{l:List α}(h:l.length=3):∃a b c,l=[a,b,c]:=match l,h with|[a,b,c],_=>⟨a,b,c,rfl⟩
theorem sO {α:Type}{l:List α}(h:l.length=4):∃a b c d,l=[a,b,c,d]:=match l,h with|[a,b,c,d],_=>⟨a,b,c,d,rfl⟩
theorem ado {α:Type}{l:List α}(h:l.length=5):∃a b c d e,l=[a,b,c,d,e]:=match l,h with|[a,b,c,d,e],_=>⟨a,b,c,d,e,rfl⟩
theorem am4 {α:Type}{l:List α}(h:l.length=7):∃a b c d e f g,l=[a,b,c,d,e,f,g]:=match l,h with|[a,b,c,d,e,f,g],_=>⟨a,b,c,d,e,f,g,rfl⟩
theorem am5 {K:W.Frag}{h:Heap}{f:Addr}(X:K.In h)(e:W.isFn K (.ref f)=true):∃o,h.get? f=some o/\o.cls=.type "function":=by
 have e:W.typeIn K (.ref f)=some (.type "function"):=beq_iff_eq.mp e
 obtain⟨o,ho,hc⟩:=Option.map_eq_some_iff.mp (show(K.lookup f).map (·.cls)=_ from e)
 exact⟨o,X _ _ ho,hc⟩
open PySem.W in
theorem am6 {K:Frag}{h:Heap}{N:Addr}{n:Str}{v:Value}(X:K.In h)(ok:nsOkIn K N=true)(e:nsIn K N n=some (some v)):h.nsMap N n=some v:=by
 obtain⟨o,es,ep,ho,hd,_,hf⟩:h.Ns N (h.nsMap N):=.of_isNs (isNs_of_in X ok)
 unfold nsIn at e
 split at e
 . rename_i c d es' n' sl q
   have:=X _ _ q
   rw[ho] at this
   cases this
   cases hd
   split at e
   . rename_i e' he
     cases e
     rw[<-hf]
     unfold nsFind findBy
     rw[<-Q2f,he]
     rfl
   . split at e <;> cases e
 . cases e
open PySem.W in
noncomputable def Nt (K:Frag) (C fI:Addr) (bmB:List Value) (newId:String):Bool:=match K.lookup C with
 |some ⟨.type "type",_,.cls cd,sl⟩=>(match cd.mro,sl.toList with
  | .ref C'::bm,[_,_,_,_,some (.builtin n),_]=>C' == C && n == newId && !cd.hasDel && tailIn K bmB bm && nsOkIn K cd.ns && nsIn K cd.ns "__init__" == some (some (.ref fI))
  |_,_=>false)
 |_=>false
theorem am7 {K:W.Frag}{h:Heap}{C fI:Addr}{gC:List Value}{nid:String}(X:K.In h)(q:Nt K C fI gC nid=true)(hf:W.isFn K (.ref fI)=true):qd h C fI gC nid:=by
 unfold Nt at q
 split at q
 next dct dat Nv look=>
  split at q
  next D tl s0 s1 s2 s3 nm s5 hmro hsl=>
   obtain⟨q,sS⟩:=Bool.and_eq_true_iff.mp q
   obtain⟨q,hNs⟩:=Bool.and_eq_true_iff.mp q
   obtain⟨q,hTail⟩:=Bool.and_eq_true_iff.mp q
   obtain⟨q,jP⟩:=Bool.and_eq_true_iff.mp q
   obtain⟨hC,hId⟩:=Bool.and_eq_true_iff.mp q
   have hC:=beq_iff_eq.mp hC
   have hId:=beq_iff_eq.mp hId
   have sS:=beq_iff_eq.mp sS
   have jP:dat.hasDel=false:=by
    cases e:dat.hasDel with
    |false=>rfl
    |true=>rw[e] at jP;cases jP
   subst hC
   subst hId
   obtain⟨c1,c2,c3,c4,c5,c6,c7,c8,c9,Bj,Bk⟩:=dat
   have hmro:c3=_:=hmro
   have jP:Bk=false:=jP
   subst hmro
   subst jP
   obtain⟨sl⟩:=Nv
   have hsl:sl=_:=hsl
   subst hsl
   obtain⟨oI,hI,Ig⟩:=am5 X hf
   exact⟨tl,c4,c1,c5,c2,c6,c7,c8,c9,Bj,dct,s0,s1,s2,s3,s5,_,oI,X _ _ look,.of_isNs (W.isNs_of_in X hNs),am6 X hNs sS,W.tail_of_in X hTail,hI,Ig⟩
  next=>cases q
 next=>cases q
theorem toD {P:Program}{w:World}{K:W.Frag}{mg:Str->Option Value}{base:Heap}{CX:iB}{k:Nat}{f:Addr}{fd:FuncData}{ps:List Str}{sp:Sp}(F:aq P w K mg base aB k f fd ps sp):aq P w K mg base CX k f fd ps sp:=
 ⟨F.len,λA outer s H args us vs Q E hr he hb hv hs=>codeAny_mono (F.run A outer s H args us vs Q E hr he hb hv hs) λr s' h=>by
   cases r with
   |error e=>exact False.elim h
   |ok fl=>cases fl <;> exact h⟩
noncomputable abbrev adp (K:W.Frag) (C f:Addr) (fl:Str):Prop:=Nt K C f Dt "ValueError.__new__"=true/\W.keepIn K (.ref C)=true/\W.findIn K (.ref C) "__setattr__"=some (some (.builtin "object.__setattr__"))/\W.findIn K (.ref C) fl=some none/\W.mroIn K C (.type "object")=some true/\((W.clsIn K C).any λcd=>Bh cd.mro && cd.hasDict)=true/\W.findIn K (.ref C) "__getattribute__"=some (some (.builtin "BaseException.__getattribute__"))/\W.findIn K (.ref C) "__getattr__"=some none/\W.findIn K (.ref C) "__class__"=some (some (.builtin "object.__class__"))/\W.mroIn K C (.type "BaseException")=some true/\(W.clsIn K C).isSome=true/\W.typeIn K (.ref C)=some (.type "type")/\W.subIn K (.ref C) (.type "BaseException")=some true/\W.subIn K (.ref C) (.ref C)=some true
theorem am8 {K:W.Frag}{mg:Str->Option Value}{h base:Heap}{x fl:Str}{C f:Addr}(X:K.In h)(G:h.Ns mainGlobals mg)(X1:K.In base)(a:W.nsIn K mainGlobals x=some (some (.ref C)))(hf:W.isFn K (.ref f)=true)(e:adp K C f fl):Du K mg base x fl C f:=by
 obtain⟨e1,e2,e3,e4,e5,e6,e7,e8,e9,e10,vP,e12,e13,e14⟩:=e
 exact⟨am7 X1 e1 hf,e2,W.mg_of X G a,⟨e3,e4,e5,e6⟩,⟨e7,e8,e9,e5,e10,vP⟩,e12,vP,e13,e14⟩
theorem anb {K:W.Frag}{h:Heap}{mg:Str->Option Value}{x:Str}{C:Addr}{gC:List Value}{nid:String}(X:K.In h)(g:mg x=some (.ref C))(q:W.excIn K C gC nid=true):PyProof.Rows.OwnCls x C gC nid mg h:=by
 refine⟨g,?_⟩
 unfold W.excIn at q
 split at q
 next dct dat Nv look=>
  split at q
  next D tl s0 s1 s2 s3 nm s5 hmro hsl=>
   obtain⟨q,sS⟩:=Bool.and_eq_true_iff.mp q
   obtain⟨q,hNs⟩:=Bool.and_eq_true_iff.mp q
   obtain⟨q,hTail⟩:=Bool.and_eq_true_iff.mp q
   obtain⟨q,jP⟩:=Bool.and_eq_true_iff.mp q
   obtain⟨hC,hId⟩:=Bool.and_eq_true_iff.mp q
   have hC:=beq_iff_eq.mp hC
   have hId:=beq_iff_eq.mp hId
   have sS:=beq_iff_eq.mp sS
   have jP:dat.hasDel=false:=by
    cases e:dat.hasDel with
    |false=>rfl
    |true=>rw[e] at jP;cases jP
   subst hC
   subst hId
   obtain⟨c1,c2,c3,c4,c5,c6,c7,c8,c9,Bj,Bk⟩:=dat
   have hmro:c3=_:=hmro
   have jP:Bk=false:=jP
   subst hmro
   subst jP
   obtain⟨sl⟩:=Nv
   have hsl:sl=_:=hsl
   subst hsl
   exact⟨tl,c4,c1,c5,c2,c6,c7,c8,c9,Bj,dct,s0,s1,s2,s3,s5,_,X _ _ look,.of_isNs (W.isNs_of_in X hNs),W.nsMap_none_of_in X hNs sS,W.tail_of_in X hTail⟩
  next=>cases q
 next=>cases q
theorem all_mk {l:W.OpenLaw}{w:World}{K:W.Frag}{h:Heap}{mg:Str->Option Value}{fa:Addr}(X:K.In h)(G:h.Ns mainGlobals mg)(hfa:mg "law"=some (.ref fa))
 (Nx:bU K "is_plain" (top 12))
 (Ny:bU K "kind_at" (top 13))
 (Nz:bU K "record_of" (top 15))
 (NK:bU K "misfit" (top 17))
 (NP:bU K "record_misfit" (top 18))
 (NQ:bU K "has_just" (top 19))
 (NT:bU K "copied" (top 26))
 (NZ:bU K "copied_record" (top 27))
 (N5:bU K "done" (top 32))
 (N6:bU K "between" (top 33))
 (N7:bU K "stepped" (top 34))
 (N8:bU K "stepped_in_record" (top 35))
 (N_:bU K "acted" (top 43))
 (Oa:bU K "paper_at" (top 46))
 (Ob:bU K "record_paper" (top 47))
 (Oc:bU K "first_source" (top 51))
 (Od:bU K "shown" (top 52))
 (Oe:bU K "ask_fit" (top 55))
 (Og:bU K "ask_stands" (top 56))
 (Oh:bU K "has_each_once" (top 59))
 (Oi:bU K "fields_among" (top 60))
 (Oj:bU K "part_of" (top 61))
 (Ol:bU K "_law_next" (top 64))
 (Om:bU K "_law_number" (top 65))
 (Oo:bU K "_law_word" (top 66))
 (Oq:bU K "_law_names" (top 67))
 (Ot:bU K "_law_plain" (top 68))
 (Ou:bU K "_law_fields" (top 69))
 (Ov:bU K "_law_kind" (top 71))
 (Ow:bU K "_law_value" (top 74))
 (Ox:bU K "_law_same" (top 75))
 (Oz:bU K "_law_spare" (top 76))
 (OD:bU K "_law_some" (top 77))
 (OJ:bU K "_law_sets" (top 78))
 (O1:bU K "_law_taken" (top 79))
 (O2:bU K "_law_pairs" (top 80))
 (O3:bU K "_law_change" (top 81))
 (O4:bU K "_law_put_by" (top 82))
 (O5:bU K "_law_undo" (top 83))
 (O6:bU K "_law_undone" (top 84))
 (O7:bU K "_law_deed_by" (top 85))
 (O8:bU K "_law_hung" (top 86))
 (O9:bU K "law" (top 87))
 {fS:Addr} {oc:Value} {od an:Option Addr} {kV dc pm cd ct:Value} {sl:Array (Option Value)} (aS:W.nsIn K mainGlobals "sorted_fields"=some (some (.ref fS))) (lS:K.lookup fS=some ⟨oc,od,.func (W.fnOf "sorted_fields" "sorted_fields" (fM (top 14)) (eE (top 14)) (aL (top 14)) .none kV dc pm an cd ct),sl⟩) (O_:W.codeIn K cd "sorted_fields"=true) (kS:W.keepIn K (.ref fS)=true)
 (zz:∀x∈(["len","isinstance","sorted","all","range","enumerate","zip","int","bool","str","list","tuple","dict","set","reversed"]:List Str),W.nsIn K mainGlobals x=some none)
 {sU:Addr} (Pa:W.nsIn K mainGlobals "NoName"=some (some (.ref sU)))
 {sV:Addr} (Pg:W.nsIn K mainGlobals "CantPut"=some (some (.ref sV)))
 {jm:Addr} (Ph:W.nsIn K mainGlobals "NoDeed"=some (some (.ref jm)))
 {iW zA:Addr} {anc:Value} {ane:Option Addr} {anf:Array (Option Value)} {adq:ClassData}
 (Pj:W.nsIn K mainGlobals "Take"=some (some (.ref iW))) (adt:K.lookup iW=some ⟨anc,ane,.cls adq,anf⟩) (adu:adq.ns=zA)
 {eV jQ:Addr} {ang:Value} {anh:Option Addr} {ani:Array (Option Value)} {adv:ClassData}
 (Pk:W.nsIn K mainGlobals "Desk"=some (some (.ref eV))) (adw:K.lookup eV=some ⟨ang,anh,.cls adv,ani⟩) (adx:adv.ns=jQ)
 {vQ ady:Addr} {anj:Value} {ank:Option Addr} {anl:Array (Option Value)} {adz:ClassData}
 (Fg:W.nsIn K mainGlobals "NoPaper"=some (some (.ref vQ))) (adA:K.lookup vQ=some ⟨anj,ank,.cls adz,anl⟩) (adB:adz.ns=ady)
 {adC:Addr} (zB:cW K iW zA "__init__" "Take.__init__" (aJ 62 0) adC)
 {adD:Addr} (Fi:cW K iW zA "behind" "Take.behind" (aJ 62 1) adD)
 {adE:Addr} (Fj:cW K iW zA "see" "Take.see" (aJ 62 2) adE)
 {adF:Addr} (Fl:cW K iW zA "put" "Take.put" (aJ 62 3) adF)
 {anm:Addr} (Fo:cW K eV jQ "hang" "Desk.hang" (aJ 53 1) anm)
 {ano:Addr} (Fp:cW K eV jQ "take_down" "Desk.take_down" (aJ 53 2) ano)
 {anp:Addr} (Fq:cW K eV jQ "ask_hung" "Desk.ask_hung" (aJ 53 3) anp)
 {anq:Addr} (Ft:cW K eV jQ "source_now" "Desk.source_now" (aJ 53 5) anq)
 {anr:Addr} (Fv:cW K eV jQ "seen_by" "Desk.seen_by" (aJ 53 6) anr)
 {ant:Addr} (Fw:cW K eV jQ "put_by" "Desk.put_by" (aJ 53 7) ant)
 {anu:Addr} (Fx:cW K eV jQ "change" "Desk.change" (aJ 53 8) anu)
 {anv:Addr} (Fy:cW K eV jQ "undo" "Desk.undo" (aJ 53 9) anv)
 {anw:Addr} (Fz:cW K eV jQ "did" "Desk.did" (aJ 53 10) anw)
 {anx:Addr} (FJ:cW K eV jQ "moved_to" "Desk.moved_to" (aJ 53 11) anx)
 {anz:Addr} (FN:cW K eV jQ "paper_for" "Desk.paper_for" (aJ 53 12) anz)
 {adG:Addr} (FP:cW K vQ ady "__init__" "NoPaper.__init__" (aJ 10 0) adG)
 {fI Tdf nT:Addr} {Lb ocI kVI dcI pmI cdI ctI:Value} {Ld odI anI:Option Addr} {Le slI:Array (Option Value)} (aI:W.nsIn K jQ "__init__"=some (some (.ref fI))) (lI:K.lookup fI=some ⟨ocI,odI,.func (W.fnOf "__init__" "Desk.__init__" (fM (aJ 53 0)) (eE (aJ 53 0)) (aL (aJ 53 0)) (.ref Tdf) kVI dcI pmI anI cdI ctI),slI⟩) (cI:W.codeIn K cdI "Desk.__init__"=true) (kI:W.keepIn K (.ref fI)=true) (lT:K.lookup Tdf=some ⟨Lb,Ld,.seq #[.none] nT,Le⟩)
 (Pn:W.isFn K (.ref fI)=true)
 (Pq:W.findIn K (.ref eV) "__init__"=some (some (.ref fI)))
 (Pr:W.findIn K (.ref iW) "names"=some none)
 (Pu:W.findIn K (.ref eV) "kind"=some none)
 (Px:W.findIn K (.ref eV) "source"=some none)
 (Py:W.findIn K (.ref eV) "views"=some none)
 (Pz:W.findIn K (.ref eV) "past"=some none)
 (PJ:W.typeIn K (.ref sU)=some (.type "type"))
 (PK:(W.clsIn K sU).isSome=true)
 (PL:W.subIn K (.ref sU) (.type "BaseException")=some true)
 (PN:W.typeIn K (.ref sV)=some (.type "type"))
 (cp_is:(W.clsIn K sV).isSome=true)
 (PX:W.subIn K (.ref sV) (.type "BaseException")=some true)
 (P0:W.typeIn K (.ref jm)=some (.type "type"))
 (FQ:(W.clsIn K jm).isSome=true)
 (P_:W.subIn K (.ref jm) (.type "BaseException")=some true)
 (Qa:W.subIn K (.ref jm) (.ref jm)=some true)
 (Qc:W.findIn K (.ref jm) "__getattribute__"=some (some (.builtin "BaseException.__getattribute__")))
 (Qe:W.findIn K (.ref jm) "__getattr__"=some none)
 (Qf:W.findIn K (.ref jm) "__class__"=some (some (.builtin "object.__class__")))
 (Qg:W.mroIn K jm (.type "object")=some true)
 (Qh:W.mroIn K jm (.type "BaseException")=some true)
 (Qi:W.excIn K jm Dt "ValueError.__new__"=true)
 (Qj:W.kitAny K (.ref jm) [.ref sV,.ref sU,.ref vQ]=some false)
 (Ql:adn K iW) (Qm:adn K eV) (Qn:adp K vQ adG "at")
 {cS PS:Addr} {anJ:Value} {anK:Option Addr} {adJ:Array Value} {anL:Array (Option Value)} (Qo:cd=.ref cS) (lcS:K.lookup cS=some ⟨anJ,anK,.fields adJ,anL⟩) (hPS:adJ[11]? =some (.ref PS)) (Qp:W.codeHdIn K cS PS=true)
 :∃fd:FuncData,(∀(s:Shared) (v:Value),BindsTo s fd ⟨[v],[]⟩ [("_law_script",v)])/\∀base:Heap,K.In base->base.Ns mainGlobals mg->BM mg base->aq l.prog w K mg base aB 18 fa fd ["_law_script"] (Ni K PS):=by
 have zz:=λx hx=>W.mg_none_of X G (zz x hx)
 have T:Tb mg:=⟨zz _ (by simp),zz _ (by simp),zz _ (by simp),zz _ (by simp),zz _ (by simp),zz _ (by simp),zz _ (by simp),zz _ (by simp),zz _ (by simp),zz _ (by simp),zz _ (by simp),zz _ (by simp),zz _ (by simp),zz _ (by simp),zz _ (by simp)⟩
 obtain⟨_,_,uR,_⟩:=bY (ps:=["kind"]) X G Nx (λ_ _ _ _ _ _ _ h=>by obtain⟨_,rfl⟩:=len1 h;rfl)
 obtain⟨_,_,oO,_⟩:=bY (ps:=["fields","name"]) X G Ny (λ_ _ _ _ _ _ _ h=>by obtain⟨_,_,rfl⟩:=len2 h;rfl)
 obtain⟨_,_,uG,_⟩:=bY (ps:=["pairs"]) X G Nz (λ_ _ _ _ _ _ _ h=>by obtain⟨_,rfl⟩:=len1 h;rfl)
 obtain⟨_,_,gJ,_⟩:=bY (ps:=["kind","value"]) X G NK (λ_ _ _ _ _ _ _ h=>by obtain⟨_,_,rfl⟩:=len2 h;rfl)
 obtain⟨_,_,uP,_⟩:=bY (ps:=["fields","record"]) X G NP (λ_ _ _ _ _ _ _ h=>by obtain⟨_,_,rfl⟩:=len2 h;rfl)
 obtain⟨_,_,uO,_⟩:=bY (ps:=["fields","record"]) X G NQ (λ_ _ _ _ _ _ _ h=>by obtain⟨_,_,rfl⟩:=len2 h;rfl)
 obtain⟨_,_,eY,_⟩:=bY (ps:=["kind","value"]) X G NT (λ_ _ _ _ _ _ _ h=>by obtain⟨_,_,rfl⟩:=len2 h;rfl)
 obtain⟨_,_,uY,_⟩:=bY (ps:=["fields","record"]) X G NZ (λ_ _ _ _ _ _ _ h=>by obtain⟨_,_,rfl⟩:=len2 h;rfl)
 obtain⟨_,_,jj,_⟩:=bY (ps:=["kind","paper","value"]) X G N5 (λ_ _ _ _ _ _ _ h=>by obtain⟨_,_,_,rfl⟩:=jO h;rfl)
 obtain⟨_,_,uX,_⟩:=bY (ps:=["kind","old","new"]) X G N6 (λ_ _ _ _ _ _ _ h=>by obtain⟨_,_,_,rfl⟩:=jO h;rfl)
 obtain⟨_,_,gK,_⟩:=bY (ps:=["kind","step","path","value"]) X G N7 (λ_ _ _ _ _ _ _ h=>by obtain⟨_,_,_,_,rfl⟩:=sO h;rfl)
 obtain⟨_,_,uV,_⟩:=bY (ps:=["fields","step","path","record"]) X G N8 (λ_ _ _ _ _ _ _ h=>by obtain⟨_,_,_,_,rfl⟩:=sO h;rfl)
 obtain⟨_,_,j_,_⟩:=bY (ps:=["kind","step","value"]) X G N_ (λ_ _ _ _ _ _ _ h=>by obtain⟨_,_,_,rfl⟩:=jO h;rfl)
 obtain⟨_,_,kh,_⟩:=bY (ps:=["path","kind","old","new"]) X G Oa (λ_ _ _ _ _ _ _ h=>by obtain⟨_,_,_,_,rfl⟩:=sO h;rfl)
 obtain⟨_,_,uW,_⟩:=bY (ps:=["path","fields","old","new"]) X G Ob (λ_ _ _ _ _ _ _ h=>by obtain⟨_,_,_,_,rfl⟩:=sO h;rfl)
 obtain⟨_,_,vg,_⟩:=bY (ps:=["kind","source"]) X G Oc (λ_ _ _ _ _ _ _ h=>by obtain⟨_,_,rfl⟩:=len2 h;rfl)
 obtain⟨_,_,m8,_⟩:=bY (ps:=["view","kind","source"]) X G Od (λ_ _ _ _ _ _ _ h=>by obtain⟨_,_,_,rfl⟩:=jO h;rfl)
 obtain⟨_,_,uQ,_⟩:=bY (ps:=["kind","seen"]) X G Oe (λ_ _ _ _ _ _ _ h=>by obtain⟨_,_,rfl⟩:=len2 h;rfl)
 obtain⟨_,_,uI,_⟩:=bY (ps:=["stands"]) X G Og (λ_ _ _ _ _ _ _ h=>by obtain⟨_,rfl⟩:=len1 h;rfl)
 obtain⟨_,_,uJ,_⟩:=bY (ps:=["kind","names"]) X G Oh (λ_ _ _ _ _ _ _ h=>by obtain⟨_,_,rfl⟩:=len2 h;rfl)
 obtain⟨_,_,uK,_⟩:=bY (ps:=["fields","names"]) X G Oi (λ_ _ _ _ _ _ _ h=>by obtain⟨_,_,rfl⟩:=len2 h;rfl)
 obtain⟨_,_,uL,_⟩:=bY (ps:=["record","names"]) X G Oj (λ_ _ _ _ _ _ _ h=>by obtain⟨_,_,rfl⟩:=len2 h;rfl)
 obtain⟨_,_,dB,_⟩:=bY (ps:=["_law_script","_law_at"]) X G Ol (λ_ _ _ _ _ _ _ h=>by obtain⟨_,_,rfl⟩:=len2 h;rfl)
 obtain⟨_,_,oJ,_⟩:=bY (ps:=["_law_script","_law_at"]) X G Om (λ_ _ _ _ _ _ _ h=>by obtain⟨_,_,rfl⟩:=len2 h;rfl)
 obtain⟨_,_,oK,_⟩:=bY (ps:=["_law_script","_law_at"]) X G Oo (λ_ _ _ _ _ _ _ h=>by obtain⟨_,_,rfl⟩:=len2 h;rfl)
 obtain⟨_,_,ux,_⟩:=bY (ps:=["_law_script","_law_at","_law_many"]) X G Oq (λ_ _ _ _ _ _ _ h=>by obtain⟨_,_,_,rfl⟩:=jO h;rfl)
 obtain⟨_,_,ur,_⟩:=bY (ps:=["_law_script","_law_at"]) X G Ot (λ_ _ _ _ _ _ _ h=>by obtain⟨_,_,rfl⟩:=len2 h;rfl)
 obtain⟨_,_,uD,_⟩:=bY (ps:=["_law_script","_law_at","_law_many","_law_deep"]) X G Ou (λ_ _ _ _ _ _ _ h=>by obtain⟨_,_,_,_,rfl⟩:=sO h;rfl)
 obtain⟨_,_,uz,_⟩:=bY (ps:=["_law_script","_law_at","_law_deep"]) X G Ov (λ_ _ _ _ _ _ _ h=>by obtain⟨_,_,_,rfl⟩:=jO h;rfl)
 obtain⟨_,_,jD,_⟩:=bY (ps:=["_law_script","_law_at","_law_kind_here","_law_room"]) X G Ow (λ_ _ _ _ _ _ _ h=>by obtain⟨_,_,_,_,rfl⟩:=sO h;rfl)
 obtain⟨_,_,dU,_⟩:=bY (ps:=["_law_found","_law_due"]) X G Ox (λ_ _ _ _ _ _ _ h=>by obtain⟨_,_,rfl⟩:=len2 h;rfl)
 obtain⟨_,_,vL,_⟩:=bY (ps:=["_law_names_here","_law_m"]) X G Oz (λ_ _ _ _ _ _ _ h=>by obtain⟨_,_,rfl⟩:=len2 h;rfl)
 obtain⟨_,_,vD,_⟩:=bY (ps:=["_law_row","_law_m"]) X G OD (λ_ _ _ _ _ _ _ h=>by obtain⟨_,_,rfl⟩:=len2 h;rfl)
 obtain⟨_,_,vG,_⟩:=bY (ps:=["_law_script","_law_at","_law_fields_here","_law_value_here","_law_many"]) X G OJ (λ_ _ _ _ _ _ _ h=>by obtain⟨_,_,_,_,_,rfl⟩:=ado h;rfl)
 obtain⟨_,_,o_,_⟩:=bY (ps:=["_law_names_here","_law_value_here"]) X G O1 (λ_ _ _ _ _ _ _ h=>by obtain⟨_,_,rfl⟩:=len2 h;rfl)
 obtain⟨_,_,nA,_⟩:=bY (ps:=["_law_hooks","_law_old","_law_new"]) X G O2 (λ_ _ _ _ _ _ _ h=>by obtain⟨_,_,_,rfl⟩:=jO h;rfl)
 obtain⟨_,_,rZ,_⟩:=bY (ps:=["_law_desk","_law_paper"]) X G O3 (λ_ _ _ _ _ _ _ h=>by obtain⟨_,_,rfl⟩:=len2 h;rfl)
 obtain⟨_,_,vB,_⟩:=bY (ps:=["_law_desk","_law_name","_law_seen"]) X G O4 (λ_ _ _ _ _ _ _ h=>by obtain⟨_,_,_,rfl⟩:=jO h;rfl)
 obtain⟨_,_,sy,_⟩:=bY (ps:=["_law_desk"]) X G O5 (λ_ _ _ _ _ _ _ h=>by obtain⟨_,rfl⟩:=len1 h;rfl)
 obtain⟨_,_,sI,_⟩:=bY (ps:=["_law_desk","_law_hooks","_law_past"]) X G O6 (λ_ _ _ _ _ _ _ h=>by obtain⟨_,_,_,rfl⟩:=jO h;rfl)
 obtain⟨_,_,vM,_⟩:=bY (ps:=["_law_script","_law_at","_law_desk","_law_hooks","_law_fields_here","_law_past","_law_way"]) X G O7 (λ_ _ _ _ _ _ _ h=>by obtain⟨_,_,_,_,_,_,_,rfl⟩:=am4 h;rfl)
 obtain⟨_,_,vN,_⟩:=bY (ps:=["_law_script","_law_at","_law_desk","_law_hooks","_law_fields_here"]) X G O8 (λ_ _ _ _ _ _ _ h=>by obtain⟨_,_,_,_,_,rfl⟩:=ado h;rfl)
 obtain⟨_,_,Ew,hB⟩:=bY (ps:=["_law_script"]) X G O9 (λ_ _ _ _ _ _ _ h=>by obtain⟨_,rfl⟩:=len1 h;rfl)
 subst Qo
 have uF:Dn K mg "sorted_fields" oH (top 14) fS (W.fnOf "sorted_fields" "sorted_fields" (fM (top 14)) (eE (top 14)) (aL (top 14)) .none kV dc pm an (.ref cS) ct):=by
  have F:=Yt (st:=(top 14)) lS O_ kS
  exact⟨F,F.binds (λ_ _ _ _ _ _ _ h=>by obtain⟨_,rfl⟩:=len1 h;rfl),W.mg_of X G aS⟩
 obtain⟨_,uM⟩:=ig (ps:=["self","names"]) zB (λ_ _ _ _ _ _ _ h=>by obtain⟨_,_,rfl⟩:=len2 h;rfl)
 obtain⟨_,iM⟩:=ig (ps:=["self","kind"]) Fi (λ_ _ _ _ _ _ _ h=>by obtain⟨_,_,rfl⟩:=len2 h;rfl)
 obtain⟨_,uN⟩:=ig (ps:=["self","kind","source"]) Fj (λ_ _ _ _ _ _ _ h=>by obtain⟨_,_,_,rfl⟩:=jO h;rfl)
 obtain⟨_,uT⟩:=ig (ps:=["self","kind","source","seen"]) Fl (λ_ _ _ _ _ _ _ h=>by obtain⟨_,_,_,_,rfl⟩:=sO h;rfl)
 obtain⟨_,vf⟩:=ig (ps:=["self","name","view"]) Fo (λ_ _ _ _ _ _ _ h=>by obtain⟨_,_,_,rfl⟩:=jO h;rfl)
 obtain⟨_,vq⟩:=ig (ps:=["self","name"]) Fp (λ_ _ _ _ _ _ _ h=>by obtain⟨_,_,rfl⟩:=len2 h;rfl)
 obtain⟨_,kE⟩:=ig (ps:=["self","name"]) Fq (λ_ _ _ _ _ _ _ h=>by obtain⟨_,_,rfl⟩:=len2 h;rfl)
 obtain⟨_,rY⟩:=ig (ps:=["self"]) Ft (λ_ _ _ _ _ _ _ h=>by obtain⟨_,rfl⟩:=len1 h;rfl)
 obtain⟨_,u9⟩:=ig (ps:=["self","name"]) Fv (λ_ _ _ _ _ _ _ h=>by obtain⟨_,_,rfl⟩:=len2 h;rfl)
 obtain⟨_,vd⟩:=ig (ps:=["self","name","seen"]) Fw (λ_ _ _ _ _ _ _ h=>by obtain⟨_,_,_,rfl⟩:=jO h;rfl)
 obtain⟨_,oY⟩:=ig (ps:=["self","paper"]) Fx (λ_ _ _ _ _ _ _ h=>by obtain⟨_,_,rfl⟩:=len2 h;rfl)
 obtain⟨_,oZ⟩:=ig (ps:=["self"]) Fy (λ_ _ _ _ _ _ _ h=>by obtain⟨_,rfl⟩:=len1 h;rfl)
 obtain⟨_,kj⟩:=ig (ps:=["self","new"]) Fz (λ_ _ _ _ _ _ _ h=>by obtain⟨_,_,rfl⟩:=len2 h;rfl)
 obtain⟨_,oW⟩:=ig (ps:=["self","new"]) FJ (λ_ _ _ _ _ _ _ h=>by obtain⟨_,_,rfl⟩:=len2 h;rfl)
 obtain⟨_,uZ⟩:=ig (ps:=["self","view","old"]) FN (λ_ _ _ _ _ _ _ h=>by obtain⟨_,_,_,rfl⟩:=jO h;rfl)
 obtain⟨_,vp⟩:=ig (ps:=["self","at"]) FP (λ_ _ _ _ _ _ _ h=>by obtain⟨_,_,rfl⟩:=len2 h;rfl)
 have vh:=akn (st:=(aJ 53 0)) (p1:="self") (p2:="kind") (p3:="source") lI cI kI lT λ_ _ _ _ _ _ _ _ _=>⟨_,rfl,rfl⟩
 have e:=hfa.symm.trans Ew.m
 cases e
 refine⟨_,λs v=>.of_eq (hB [v] rfl),λbase X1 _ wW=>?_⟩
 have anM:=W.codeHd_of_K X1 Qp
 obtain⟨t1,t2,t3,t4,t5,t6⟩:=Ql
 obtain⟨d1,d2,d3,d4,d5,d6⟩:=Qm
 have TK:mZ K mg iW adC adD adE adF:=⟨⟨t1,t2,t3,t4⟩,Pr,⟨t5,zB.2.2.2,zB.2.2.1,t6⟩,W.mg_of X G Pj,cW.meth Fi,cW.meth Fj,cW.meth Fl⟩
 have DK:fJ K eV:=⟨⟨d1,d2,d3,d4⟩,Pu,Px,Py,Pz⟩
 have MKD:Mk K eV fI:=⟨d5,Pq,Pn,d6⟩
 have mD:mg "Desk"=some (.ref eV):=W.mg_of X G Pk
 have anO:=cW.meth Fo
 have anP:=cW.meth Fp
 have Qq:=cW.meth Fq
 have anQ:=cW.meth Ft
 have anR:=cW.meth Fv
 have anS:=cW.meth Fw
 have anT:=cW.meth Fx
 have anU:=cW.meth Fy
 have Qs:=cW.meth Fz
 have adM:=cW.meth FJ
 have anV:=cW.meth FN
 have XC:Dy K mg "CantPut" sV:=⟨W.mg_of X G Pg,PN,cp_is,PX⟩
 have XN:=am8 X G X1 Fg FP.2.2.1 Qn
 have su:Dy K mg "NoName" sU:=⟨W.mg_of X G Pa,PJ,PK,PL⟩
 have XD:XDF K mg jm sV sU vQ:=⟨W.mg_of X G Ph,P0,FQ,P_,Qa,⟨Qc,Qe,Qf,Qg,Qh,FQ⟩,Qj,XC.m,su.m,W.mg_of X G Fg⟩
 have XDo:=anb X1 XD.m Qi
 have N:=ah_ (P:=l.prog) (w:=w) (base:=base) T dB
 have Pl:=aia T ur dB N
 have Nu:=aif T oJ dB N
 have Wo:=aik T oK dB N
 have Nm:=ait T ux dB N
 have Kd_:=aiA T uz dB N ur Pl
 have Fd:=aiC T uD ux Nm uz Kd_
 have VP:=aiK T jD oJ Nu oK Wo
 have VR:=aiL T jD VP oJ Nu oK Wo
 have Ka:=aiN (P:=l.prog) (w:=w) (base:=base) T oO
 have SF:=aiS (P:=l.prog) (w:=w) T uF rfl anM wW
 have RO:=aiV T uG uF SF
 have AS:=ai0 (P:=l.prog) (w:=w) (base:=base) T uI
 have HO_:=ai1 T uJ oO Ka
 have FAm:=ai4 (P:=l.prog) (w:=w) (base:=base) T uK
 have PO:=ai5 (P:=l.prog) (w:=w) (base:=base) T uL
 have INI:=ai8 (P:=l.prog) (w:=w) (base:=base) T TK uM
 have BE:=ai9 T TK iM uI AS uJ HO_ uK FAm uG RO
 have SE:=ajd T TK uN uL PO
 have HJ:=ajg (P:=l.prog) (w:=w) (base:=base) T uO
 have MQ:=ajh (P:=l.prog) (w:=w) (base:=base) T gJ
 have RQ:=aji T uP uO HJ gJ MQ
 have MR:=ajk T gJ uP RQ
 have AF:=ajm T uQ gJ MR
 have IP:=ajn (P:=l.prog) (w:=w) (base:=base) T uR
 have PU:=ajo T TK uT uQ AF iM BE
 have AC:=aju T j_ gJ MQ uR IP
 have SP:=ajw T gK j_ AC
 have SI:=ajx T uV gK SP oO Ka
 have SR:=ajz T gK uV SI
 have DO:=ajB T jj gK SR
 have PP:=ajC (P:=l.prog) (w:=w) (base:=base) T kh
 have RP:=ajD T uW kh PP
 have PR:=ajE T kh uW RP
 have BT:=ajG T uX kh PR
 have CP:=ajH (P:=l.prog) (w:=w) (base:=base) T eY
 have CI:=ajI T uY eY CP
 have CO:=ajL T eY uY CI
 have SH:=ajN T TK m8 eY CO iM BE uN SE
 have PF:=ajV T TK DK uZ uX BT m8 SH iM BE
 have MV:=aj1 T DK anV oW uZ PF
 have DI:=aj_ T DK adM kj oW MV eY CO
 have AH:=akb (P:=l.prog) (w:=w) (base:=base) (C:=iW) T DK kE
 have SN:=akc (C:=iW) T DK rY eY CO
 have SY:=akd T DK Qq u9 kE AH m8 SH
 have CH:=ake T DK Qs oY kj DI jj DO
 have PB:=akg T TK DK Qq Qs vd kE AH kj DI uT PU
 have HA:=akl T TK DK vf iM BE
 have FS:=akm T vg gJ MR eY CO
 have DN_:=ako (C:=iW) T DK vh vg FS
 have NPI:=akr (P:=l.prog) (w:=w) T XN vp
 have AB:=akC (P:=l.prog) (w:=w) (base:=base) T j_
 have SC:=akD T gK j_ AB
 have DX:=akG T XN jj gK (Lh SR (SC.mono (by decide))) vp NPI
 have CX_:=akK (C:=iW) T DK Qs oY kj DI jj DX
 have LC:=akQ T DK XN anT rZ oY (Lh (toD CH) CX_)
 have LP:=akW T DK XC su anS vB vd (toD PB)
 have TD:=aky (C:=iW) T DK Qq vq kE AH
 have UN:=akz T DK adM oZ oW MV
 have UX:=akB (P:=l.prog) (w:=w) (C:=iW) T DK XDo oZ
 have LU:=ak0 T DK XD anU sy oZ (Lh (toD UN) UX)
 have SM:=ab9 (P:=l.prog) (w:=w) (base:=base) T dU 6
 have SO:=alm (P:=l.prog) (w:=w) (base:=base) T vD
 have SS:=alp T vG dB N jD VP
 have TA:=alu (P:=l.prog) (w:=w) (base:=base) T o_
 have PS_:=alv (P:=l.prog) (w:=w) (base:=base) T nA
 have SPR:=alJ (P:=l.prog) (w:=w) (base:=base) T vL
 have UD:=alL T sI sy LU nA PS_ dU SM
 have DB:=alP T vM dB N vG SS o_ TA nA PS_ rZ LC vB LP dU SM
 have HU:=alZ T TK DK anO anP vN dB N vL SPR vD SO vq TD vf HA uM INI
 exact amA T DK MKD mD anR anQ Ew uD Fd jD VR dB N vM DB sI UD vN HU o_ TA dU SM vh DN_ u9 SY rY SN
theorem an5 {K:W.Frag}{x:Str}{f c P:Addr}{oc occ:Value}{od odc:Option Addr}{fd:FuncData}{sl slc:Array (Option Value)}{vsC:Array Value}(a:W.nsIn K mainGlobals x=some (some (.ref f)))(l:K.lookup f=some ⟨oc,od,.func fd,sl⟩)(hc:fd.code=.ref c)
 (lc:K.lookup c=some ⟨occ,odc,.fields vsC,slc⟩) (hP:vsC[11]? =some (.ref P)):W.tabIn K x=some (c,P):=by
 unfold W.tabIn
 rw[a]
 dsimp only
 rw[l]
 dsimp only
 rw[hc]
 dsimp only
 rw[lc]
 dsimp only
 rw[hP]
noncomputable def an8 (K:W.Frag) (tabs:List (Addr × Addr)):Sp:=λvs H Q _=>∃(a:Addr) (ns:List Int),vs=[.ref a]/\jB K H a ns/\ns.length<=63/\(∀q∈tabs,H q.2=some (.dD #[]))/\∀H',Q (.bl true) H'
theorem jB.ofT {K:W.Frag}{H:Hp}{a:Addr}{ns:List Int}{tabs:List Addr}(o:Ay tabs H)(h:aC K H a (ns.map V.int)):jB K H a ns:=by
 rcases h with(h|h)|h
 . rcases o a with z|⟨ob,xs,z⟩|⟨_,z⟩ <;> rw[h] at z <;> cases z
 . exact .inl h
 . exact .inr h
theorem walk {l:W.OpenLaw}{q:Program}{loose:List Str}{XP:(Str->Option Value)->Heap->Prop}{YP:World->Heap->Prop}{d:DefRec}{K:Params->W.Frag}(hn:l.most=some 63)(hdf:d.params.defaults=[])
 (hY:∀(w:World) (h:Heap),YP w h->(K w.params).In h) (wV:∀w:World,W.noTabs (K w.params)=true) (an9:∃d',(PyProof.Rows.recsOf q).find? (λe=>e.name == ("sorted_fields":Str))=some d')
 (F:∀w:World,∃c2 P2:Addr,W.tabIn (K w.params) "sorted_fields"=some (c2,P2)/\∀(mg:Str->Option Value) (fa:Addr) (h:Heap),(K w.params).In h->h.Ns mainGlobals mg->mg d.name=some (.ref fa)->
   ∃fd:FuncData,(∀(s:Shared) (u:Value),BindsTo s fd ⟨[u],[]⟩ [("_law_script",u)])/\∀base:Heap,(K w.params).In base->base.Ns mainGlobals mg->BM mg base->aq l.prog w (K w.params) mg base aB 18 fa fd ["_law_script"] (Ni (K w.params) P2)):
 W.WalkO q loose XP YP l.row.toRowW d [] (λf vs=>PySem.call f vs):=
 L2.ag6 (n:=63) (k:=18) (x:="_law_script") (names:=["sorted_fields"]) (sp:=λw tabs=>an8 (K w.params) tabs) hn (by decide) hdf ⟨rfl,by decide,by decide⟩ hY wV (λw=>by
   obtain⟨c2,P2,j6,F⟩:=F w
   refine⟨[(c2,P2)],λq' hq=>?_,λmg fa h X G hm=>?_⟩
   . exact⟨"sorted_fields",by simp,by rw[List.mem_singleton.mp hq];exact j6⟩
   obtain⟨fd,hb,hF⟩:=F mg fa h X G hm
   exact⟨fd,hb,λbase X1 G1 B=>(hF base X1 G1 B).imp λvs H Q E ⟨a,ns,e,hS,hl,hT,q⟩=>⟨a,ns,e,hS,hl,.inl (hT _ (List.mem_singleton.mpr rfl)),q⟩⟩)
   (λy hy=>by rw[List.mem_singleton.mp hy];exact an9) λw tabs H a ns hl hO hPt hSq=>⟨a,ns,rfl,jB.ofT hO hSq,hl,hPt,λ_=>rfl⟩
end Pb
open PySem PySem.W PyProof.Rows
set_option maxRecDepth 100000 in
set_option maxHeartbeats 0 in
theorem PySem.Challenge.cw_putback_k85_desk_undone_holds : PySem.Challenge.rw_putback_k85_desk_undone.Holds := by
 w_on
 refine holds_law Pb.said λsaid=>?_
 refine holds_open (q:=Pb.qv) (loose:=[]) (Xt:=λs=>xlAt Pb.qv [] s && recOk (RowW.records (PySem.W.OpenRow.toRowW (PySem.W.OpenLaw.row PySem.Challenge.rw_putback_k85_desk_undone))) s) (XP:=XL Pb.qv []) (Yf:=Hook.obs (PySem.W.kmHook Pb.KK Pb.pG Pb.qK [174,268,715])) (Ya:=Hook.val (PySem.W.kmHook Pb.KK Pb.pG Pb.qK [174,268,715])) (YP:=Hook.says (PySem.W.kmHook Pb.KK Pb.pG Pb.qK [174,268,715])) (N:=11013) ?hl (Hook.of (PySem.W.kmHook Pb.KK Pb.pG Pb.qK [174,268,715])) (Hook.keeps (PySem.W.kmHook Pb.KK Pb.pG Pb.qK [174,268,715])) (λs e=>xl_of s (Bool.and_eq_true_iff.mp e).1) XL.keeps (by rfl) (by rfl) (by rfl) (λs e=>recFacts_of (Bool.and_eq_true_iff.mp e).2) (by rfl) (by first|assumption|decide+kernel) (by decide+kernel) ⟨rfl,rfl,rfl,rfl,rfl,by decide+kernel⟩ ?hw ?hc
 case hl=>exact Pb.adR (by rfl) (by rfl) (λs=>rfl) (by rfl) (List.take_append_drop 41 Pb.FZ).symm (λP=>by kernel_rfl) Pb.ad3 (Pb.adV Pb.ad4 (Pb.adW Pb.ad5 Pb.ad6 Pb.ad7))
 (case hw=>w_witness2)
 k_fill
 refine Pb.walk (l:=PySem.Challenge.rw_putback_k85_desk_undone) rfl rfl (λw h Y=>PySem.W.km_in_of Y) (λw=>by kernel_rfl) ⟨_,rfl⟩ ?F
 case F=>
  intro w
  refine' ⟨_,_,?j6,?GG⟩
  case j6=>
   refine' Pb.an5 ?ta ?tl ?tc ?tlc ?tP
   (case ta=>k_is);(case tl=>k_is);(case tc=>rfl);(case tlc=>k_is);(case tP=>rfl)
  case GG=>
   intro mg fa h KX G hmg
   refine' Pb.all_mk KX G hmg ?Nx ?Ny ?Nz ?NK ?NP ?NQ ?NT ?NZ ?N5 ?N6 ?N7 ?N8 ?N_ ?Oa ?Ob ?Oc ?Od ?Oe ?Og ?Oh ?Oi ?Oj ?Ol ?Om ?Oo ?Oq ?Ot ?Ou ?Ov ?Ow ?Ox ?Oz ?OD ?OJ ?O1 ?O2 ?O3 ?O4 ?O5 ?O6 ?O7 ?O8 ?O9 ?aS ?lS ?O_ ?kS ?zz ?Pa ?Pg ?Ph ?Pj ?adt ?adu ?Pk ?adw ?adx ?Fg ?adA ?adB ?zB ?Fi ?Fj ?Fl ?Fo ?Fp ?Fq ?Ft ?Fv ?Fw ?Fx ?Fy ?Fz ?FJ ?FN ?FP ?aI ?lI ?cI ?kI ?lT ?Pn ?Pq ?Pr ?Pu ?Px ?Py ?Pz ?PJ ?PK ?PL ?PN ?cp_is ?PX ?P0 ?FQ ?P_ ?Qa ?Qc ?Qe ?Qf ?Qg ?Qh ?Qi ?Qj ?Ql ?Qm ?Qn ?Qo ?lcS ?hPS ?Qp
   case Nx|Ny|Nz|NK|NP|NQ|NT|NZ|N5|N6|N7|N8|N_|Oa|Ob|Oc|Od|Oe|Og|Oh|Oi|Oj|Ol|Om|Oo|Oq|Ot|Ou|Ov|Ow|Ox|Oz|OD|OJ|O1|O2|O3|O4|O5|O6|O7|O8|O9=>
    refine' Pb.am2 ?a ?l ?c ?k
    (case a=>k_is);(case l=>k_is);(case c=>k_is);(case k=>k_is)
   (case aS=>k_is);(case lS=>k_is);(case O_=>k_is);(case kS=>k_is)
   case zz=>intro x hx;simp only[Q1u,Q2a,or_false] at hx;rcases hx with rfl|rfl|rfl|rfl|rfl|rfl|rfl|rfl|rfl|rfl|rfl|rfl|rfl|rfl|rfl <;> k_is
   (case Pa=>k_is);(case Pg=>k_is);(case Ph=>k_is)
   (case Pj=>k_is);(case adt=>k_is);(case adu=>rfl)
   (case Pk=>k_is);(case adw=>k_is);(case adx=>rfl)
   (case Fg=>k_is);(case adA=>k_is);(case adB=>rfl)
   case zB|Fi|Fj|Fl|Fo|Fp|Fq|Ft|Fv|Fw|Fx|Fy|Fz|FJ|FN|FP=>
    refine' Pb.am3 ?a ?l ?c ?k ?f ?g
    (case a=>k_is);(case l=>k_is);(case c=>k_is);(case k=>k_is);(case f=>kernel_rfl);(case g=>kernel_rfl)
   (case aI=>k_is);(case lI=>k_is);(case cI=>k_is);(case kI=>k_is);(case lT=>k_is)
   case Pn|Pq|Pr|Pu|Px|Py|Pz|PJ|PK|PL|PN|cp_is|PX|P0|FQ|P_|Qa|Qc|Qe|Qf|Qg|Qh|Qi|Qj=>kernel_rfl
   case Ql|Qm=>refine⟨?_,?_,?_,?_,?_,?_⟩ <;> kernel_rfl
   case Qn=>refine⟨?_,?_,?_,?_,?_,?_,?_,?_,?_,?_,?_,?_,?_,?_⟩ <;> kernel_rfl
   (case Qo=>rfl);(case lcS=>k_is);(case hPS=>rfl);(case Qp=>kernel_rfl)
