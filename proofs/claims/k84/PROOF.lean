import PyProof.Rows.All
import Wide.All
import OpenK.AllK
import Wide.FinOn
import Lean
import PyProof.EqAt
import PyProof.EqKinds
import PyProof.TupleCall
import KE.KSortAsk
import PyProof.NeKinds
import PyProof.StationsW
import PyProof.ExcClass3
import PyProof.Rows.Own
import PyProof.NsDelKeeps
import KE.KIsAll
import PyProof.ExcAttrAll.ValueError
import PyProof.IsiH_list
import PyProof.Rows.FStr
import PyProof.FString4
import PyProof.StrLawsRepr
import PyProof.Rows.StrMeet
import PyProof.DictWalks
import PyProof.Draws
import KE.KDictOf
import PyProof.AttrMissHeap
import PyProof.Rows.DictListVals
import PyProof.ExcInit
import PyProof.InstStoreFacts
import PyProof.Rows.SetFrom
import PyProof.StrLawsIn
import PyProof.Rows.StrNews2
import PyProof.StrBlockI
import KE.IntText
import KE.KIntText
import PyProof.FString5
import PyProof.DictUpdate
import PyProof.DictItemsLoops
import PyProof.ExcBaseAll.ValueError
import KE.KRevIter
import PySem.Challenge.RW_putback_k84_desk_deeds
open PySem renaming wpAny_bind→Q00,wpAny_pure→Q03,wpAny_mono→Q0h
open PySem.Heap renaming lt_size→Q01,get?_push_of_some→Q04,get?_push_size→Q0c,size_push→Q0y,get?_update_other→Q13,get?_update_self→Q16,get?_none_of_le→Q2,size_update→Q26,get?_update_ne→Q28,get?_push_at→Q2a,get?_push_ne→Q2r
open Nat renaming le_refl→Q02,ne_of_lt→Q08,lt_of_lt_of_le→Q0a,zero_le→Q0b,le_trans→Q0e,lt_irrefl→Q0l,ne_of_gt→Q0m,le_of_lt→Q0s,le_succ→Q10,le_of_not_lt→Q11,le_add_right→Q12,lt_of_le_of_lt→Q17,lt_succ_self→Q1c,le_of_eq→Q1h,sub_self→Q1x,lt_succ_of_lt→Q27
open List renaming getElem?_eq_getElem→Q05,length_map→Q06,size_toArray→Q07,length_append→Q09,mem_append_right→Q0d,mem_cons_self→Q0f,getElem?_map→Q0g,length_take→Q0i,mem_cons_of_mem→Q0j,map_append→Q0k,getD_eq_getElem?_getD→Q0n,length_cons→Q0o,take_succ→Q0p,getElem?_append_right→Q0q,getElem_mem→Q0r,getElem?_append_left→Q0t,map_cons→Q0u,mem_of_getElem?→Q0v,append_nil→Q0z,length_range→Q1,length_replicate→Q15,lookup_cons→Q18,getElem_of_mem→Q19,take_length→Q1a,take_of_length_le→Q1b,any_cons→Q1d,find?_cons→Q1e,length_filter_le→Q1f,all_eq_true→Q1i,getElem_map→Q1j,filter_cons→Q1l,length_reverse→Q1m,mem_append_left→Q1n,length_drop→Q1p,map_congr_left→Q1q,forIn_cons→Q1r,pairwise_map→Q1s,replicate_succ→Q1t,foldl_cons→Q1u,mem_cons→Q1v,map_map→Q1w,filterMap_cons→Q1z,getElem?_set_self→Q20,getElem?_set_ne→Q21,of_mem_zip→Q22,all_cons→Q23,length_singleton→Q24,getElem_take→Q29,not_mem_nil→Q2b,eq_of_mem_replicate→Q2c,getElem?_zip_eq_some→Q2d,filter_append→Q2e,foldl_append→Q2f,getElem?_replicate→Q2i,take_sublist→Q2j,length_nil→Q2l,getElem?_drop→Q2m,ext_getElem→Q2p,pairwise_singleton→Q2q,lt_irrefl→Q2t,mem_map_of_mem→Q2u,append_assoc→Q2v,getElem?_eq_none→Q2w,any_eq_true→Q2x,range_succ→Q2y,mem_singleton→Q2z,length_zip→Q3,zipIdx_cons→Q30,zipIdx_nil→Q31,forIn_nil→Q32,getElem?_reverse→Q33,map_reverse→Q34,reverse_perm→Q35,mem_of_mem_take→Q36,take_append_drop→Q37
open Int renaming emod_nonneg→Q0w,emod_lt_of_pos→Q0x,le_refl→Q14,toNat_natCast→Q1o
open Array renaming length_toList→Q1g,getD_eq_getD_getElem?→Q1k,append_empty→Q1y,empty_append→Q2g,find?_toList→Q2h,getElem?_eq_getElem→Q2o,forIn_toList→Q2s
open Option renaming isSome_map→Q25,getD_none→Q2k,getD_some→Q2n
set_option genSizeOf false
set_option Elab.async false
set_option linter.all false
set_option maxRecDepth 100000
set_option maxHeartbeats 4000000
theorem fM:0<=PySem.sizeLine:=by decide
theorem gH:1<=PySem.sizeLine:=by decide
theorem cX:2<=PySem.sizeLine:=by decide
theorem yZ:3<=PySem.sizeLine:=by decide
theorem acu:4<=PySem.sizeLine:=by decide
theorem acv:6<=PySem.sizeLine:=by decide
namespace L2
open PySem PySem.Spec PyProof.Rows
noncomputable def fO (s:Stmt):Arguments:=match s with
 | .FunctionDef _ a _ _ _ _ _ _ _ _=>a
 |_=>{ posonlyargs:=[],args:=[],vararg:=none,kwonlyargs:=[],kw_defaults:=[],kwarg:=none,defaults:=[] }
noncomputable def dW (s:Stmt):List Stmt:=match s with
 | .FunctionDef _ _ b _ _ _ _ _ _ _=>b
 |_=>[]
noncomputable def aL (s:Stmt):Scope:=match s with
 | .FunctionDef _ _ _ _ _ _ sc _ _ _=>sc
 |_=>{ kind:=.function,names:=[],isGenerator:=false,isCoroutine:=false }
end L2
namespace Pb
open PySem L2
noncomputable def top (i:Nat):Stmt:=PySem.Challenge.pw_putback_k84_desk_deeds.main.body.getD i (.Pass ⟨0,0,0,0⟩)
noncomputable def aJ (i j:Nat):Stmt:=match top i with
 | .ClassDef _ _ _ body _ _ _ _ _ _ _=>body.getD j (.Pass ⟨0,0,0,0⟩)
 |_=>.Pass ⟨0,0,0,0⟩
end Pb
namespace Pb
open PySem PySem.W
noncomputable def treeOf:List Obj->Nat->BT->Option BT
 |[],_,t=>some t
 |o::l,n,t=>match((t.ins n o).get n).isSome with
  |true=>treeOf l (n+1) (t.ins n o)
  |false=>none
theorem N6 {life:Life}:∀(l:List Obj) (n:Nat) (t t':BT),treeOf l n t=some t'->absHeap t' (n+l.length) life=⟨(absHeap t n life).objs++l.toArray,life⟩
 |[],n,t,t',h=>by
  cases h
  show absHeap t n life=_
  have:(absHeap t n life).objs++#[]=(absHeap t n life).objs:=Q1y
  rw[this];rfl
 |o::l,n,t,t',h=>by
  unfold treeOf at h
  cases e:((t.ins n o).get n).isSome with
  |false=>rw[e] at h;cases h
  |true=>
   rw[e] at h
   have:=N6 (life:=life) l (n+1) _ t' h
   rw[absHeap_ins e] at this
   have e2:n+(o::l).length=n+1+l.length:=by rw[Q0o];omega
   rw[e2,this]
   show Heap.mk ((absHeap t n life).objs.push o++l.toArray) life=_
   congr 1
   apply Array.ext'
   simp
noncomputable def vC (tb:String->Option Builtin) (p:Program) (w:World) (n₀:Nat) (ann:Option Value):Nat->SharedT->Thread->Option SharedT
 |0,_,_=>none
 |n+1,s,t=>match through t with
  |true=>some s
  |false=>match stepOk n₀ ann t with
   |false=>none
   |true=>match stepT (denote tb) p w s t with
    |some (s',t')=>vC tb p w n₀ ann n s' t'
    |none=>none
theorem N7 {tb:String->Option Builtin}{p:Program}{w:World}{n₀:Nat}{ann:Option Value}:∀{n:Nat}{s s':SharedT}{t:Thread},vC tb p w n₀ ann n s t=some s'->topRun tb p w n₀ ann n s.abs t=some s'.abs
 |0,_,_,_,h=>by cases h
 |n+1,s,s',t,h=>by
  unfold vC at h
  unfold topRun
  cases he:through t with
  |true=>rw[he] at h;cases h;rfl
  |false=>
   rw[he] at h
   cases hk:stepOk n₀ ann t with
   |false=>rw[hk] at h;cases h
   |true=>
    rw[hk] at h
    cases hs:stepT (denote tb) p w s t with
    |none=>rw[hs] at h;cases h
    |some r=>obtain⟨s₂,t₂⟩:=r;rw[hs] at h;rw[stepT_spec hs];exact N7 h
noncomputable abbrev qm:=@W.Fast.tw10156331382660048174
noncomputable abbrev kE:=@W.Fast.tw11892475500146522536
noncomputable abbrev kJ:=@W.Fast.tw14364793385576792824
noncomputable abbrev vD:=@W.Fast.tw6613529449190102663
noncomputable abbrev seenQ:=@W.Fast.tw4187177175401517315
noncomputable def qp (p:Program) (w:World) (n₀:Nat) (ann:Option Value):Nat->SharedT->Thread->Option SharedT
 |0,_,_=>none
 |n+1,s,t=>match through t with
  |true=>some s
  |false=>match vD n₀ ann t with
   |false=>none
   |true=>match qm (kE kJ) p w s t with
    |some (s',t')=>qp p w n₀ ann n s' t'
    |none=>none
theorem N8 {p:Program}{w:World}{n₀:Nat}{ann:Option Value}:∀(n:Nat) (s:SharedT) (t:Thread),qp p w n₀ ann n s t=vC treeTable p w n₀ ann n s t
 |0,_,_=>rfl
 |n+1,s,t=>by
  unfold qp vC
  have e1:vD n₀ ann t=stepOk n₀ ann t:=congrFun (congrFun (congrFun W.Fast.te6613529449190102663.symm _) _) _
  have e2:qm (kE kJ) p w s t=stepT (denote treeTable) p w s t:=by rw[show @qm=@stepT from W.Fast.te10156331382660048174.symm,show @kE=@denote from W.Fast.te11892475500146522536.symm,show @kJ=@treeTable from W.Fast.te14364793385576792824.symm]
  rw[e1,e2]
  simp only[N8 n]
noncomputable def looksAt (p q:Program) (loose:List Str) (Xt:Shared->Bool) {α:Type}(Yf:Shared->α) (g0:Bool) (h₀:Heap) (s:Shared):=
 ((staticsOk (importedModules p.main.body) h₀ s.heap && namesBound p s.heap && gensDone s && laidKept h₀ s.heap),seenQ q loose (importedModules p.main.body) Xt g0 s,Yf s)
noncomputable def N_:List (Nat × Obj)->BT->BT
 |[],t=>t
 |(a,o)::l,t=>N_ l (t.ins a o)
noncomputable def El:Nat->List Obj->BT->BT
 |_,[],t=>t
 |n,o::l,t=>El (n+1) l (t.ins n o)
noncomputable def vG (p:Program) (w:World) (n₀:Nat) (ann:Option Value):Nat->SharedT->Thread->Option (Flow × SharedT × Code × Pos)
 |0,_,_=>none
 |n+1,s,t=>match endAt 1 t with
  |some f=>some (f,s,t.code,t.pos)
  |none=>match vD n₀ ann t with
   |false=>none
   |true=>match qm (kE kJ) p w s t with
    |some (s',t')=>vG p w n₀ ann n s' t'
    |none=>none
theorem Oa (n₀:Nat)(ann:Option Value)(t:Thread):vD n₀ ann t=stepOk n₀ ann t:=congrFun (congrFun (congrFun W.Fast.te6613529449190102663.symm _) _) _
theorem Ob:@kE kJ=denote treeTable:=by rw[show @kE=@denote from W.Fast.te11892475500146522536.symm,show @kJ=@treeTable from W.Fast.te14364793385576792824.symm]
theorem Oc (p:Program)(w:World)(s:SharedT)(t:Thread):qm (kE kJ) p w s t=stepT (denote treeTable) p w s t:=by rw[show @qm=@stepT from W.Fast.te10156331382660048174.symm,Ob]
theorem Od {p:Program}{w:World}{n₀:Nat}{ann:Option Value}:∀(n:Nat) (s:SharedT) (t:Thread),vG p w n₀ ann n s t=segRunT treeTable p w n₀ ann 1 n s t
 |0,_,_=>rfl
 |n+1,s,t=>by
  unfold vG segRunT
  rw[Oa,Oc]
  cases endAt 1 t with
  |some f=>rfl
  |none=>
   cases stepOk n₀ ann t with
   |false=>rfl
   |true=>
    cases stepT (denote treeTable) p w s t with
    |none=>rfl
    |some r=>obtain⟨s',t'⟩:=r;exact Od n s' t'
noncomputable def vH (tb:String->Option Builtin) (p:Program) (w:World) (n₀:Nat) (ann:Option Value):Nat->SharedT->Thread->Option (SharedT × Thread)
 |0,s,t=>some (s,t)
 |n+1,s,t=>match through t with
  |true=>none
  |false=>match stepOk n₀ ann t with
   |false=>none
   |true=>match stepT (denote tb) p w s t with
    |some (s',t')=>vH tb p w n₀ ann n s' t'
    |none=>none
theorem Oe {tb:String->Option Builtin}{p:Program}{w:World}{n₀:Nat}{ann:Option Value}:∀{n:Nat}{s s':SharedT}{t t':Thread},vH tb p w n₀ ann n s t=some (s',t')->topGo tb p w n₀ ann n s.abs t=some (s'.abs,t')
 |0,s,s',t,t',h=>by
  have h:some (s,t)=some (s',t'):=h
  cases h
  rfl
 |n+1,s,s',t,t',h=>by
  unfold vH at h
  unfold topGo
  cases he:through t with
  |true=>rw[he] at h;cases h
  |false=>
   rw[he] at h
   cases hk:stepOk n₀ ann t with
   |false=>rw[hk] at h;cases h
   |true=>
    rw[hk] at h
    cases hs:stepT (denote tb) p w s t with
    |none=>rw[hs] at h;cases h
    |some r=>obtain⟨s₂,t₂⟩:=r;rw[hs] at h;rw[stepT_spec hs];exact Oe h
noncomputable def zc (p:Program) (w:World) (n₀:Nat) (ann:Option Value):Nat->SharedT->Thread->Option (SharedT × Thread)
 |0,s,t=>some (s,t)
 |n+1,s,t=>match through t with
  |true=>none
  |false=>match vD n₀ ann t with
   |false=>none
   |true=>match qm (kE kJ) p w s t with
    |some (s',t')=>zc p w n₀ ann n s' t'
    |none=>none
theorem Og {p:Program}{w:World}{n₀:Nat}{ann:Option Value}:∀(n:Nat) (s:SharedT) (t:Thread),zc p w n₀ ann n s t=vH treeTable p w n₀ ann n s t
 |0,_,_=>rfl
 |n+1,s,t=>by
  unfold zc vH
  rw[Oa,Oc]
  simp only[Og n]
noncomputable def zj (p:Program) (w:World) (n₀:Nat) (ann:Option Value) (env:Env) (c:Code) (q0:Pos) (l:List Stmt) (k1 k2 k3:Nat) (s:SharedT):Option (Thread × Code × Code × SharedT × Pos):=
 match zc p w n₀ ann k1 s (topStub p) with
 |none=>none
 |some (s1,t1)=>match vG p w n₀ ann k2 s1 (blockOf (behindTheImports p) env c t1.pos [topFrame q0]) with
  |some (.next,s2,c2,p2)=>(match vG p w n₀ ann k3 s2 (piecesOf l env c p2 [topFrame q0]) with
   |some (.next,s3,c3,p3)=>some (t1,c2,c3,s3,p3)
   |_=>none)
  |_=>none
theorem acw {p:Program}{w:World}{n₀:Nat}{ann:Option Value}{env:Env}{c:Code}{q0 pos1 p3:Pos}{l rest:List Stmt}{k1 k2 k3 N:Nat}{s s3:SharedT}{r:Shared}(hb:behindTheImports p=l++rest)
 (h:zj p w n₀ ann env c q0 l k1 k2 k3 s=some (⟨kE kJ (.body (behindTheImports p) env),c,pos1,[topFrame q0]⟩,c,c,s3,p3))
 (k:topRun treeTable p w n₀ ann N s3.abs (restOf rest env c p3 [topFrame q0])=some r):topRun treeTable p w n₀ ann (k1+(k2+(k3+N))) s.abs (topStub p)=some r:=by
 unfold zj at h
 split at h
 . cases h
 next s1 t1 e1=>
  split at h
  next s2 c2 p2 e2=>
   split at h
   next s3' c3 p3' e3=>
    cases h
    rw[Og] at e1
    rw[Od] at e2 e3
    have g1:=Oe e1
    rw[Ob] at g1
    have g3:=piece_app (rest:=rest) (segRun_of e3) k
    rw[<-hb] at g3
    exact go_top g1 (piece_block (segRun_of e2) g3)
   . cases h
  . cases h
noncomputable def Em (P:Params):BT:=(treeOf (boot_heap P).objs.toList 0 .nil).getD .nil
noncomputable def zm (w:World) (os:OsState):SharedT:=⟨Em w.params,(boot_heap w.params).objs.size,(boot_heap w.params).life,#[],boot_drawn,boot_toks,os⟩
theorem acy {p q:Program}{loose:List Str}{Xt:Shared->Bool}{α:Type}{Yf:Shared->α}{Ya:World->α}{N:Nat}{g0:Bool}{env:Env}{c:Code}{q0 pos1 p3:Pos}{l rest:List Stmt}{k1 k2 k3 N4 n₀:Nat}{ann:Option Value}{S3:World->OsState->SharedT}
 (e:opening p=plainProg p.main.scope.names) (hN:Nat.ble 600 N=true) (f:∀s,fenceModules? p s=some s) (hNN:N=k1+(k2+(k3+N4))) (hb:behindTheImports p=l++rest)
 (b0:∀P:Params,((boot_heap P).isNs mainGlobals,(treeOf (boot_heap P).objs.toList 0 .nil).isSome,(boot_heap P).objs.size,(boot_heap P).nsMap mainGlobals "__annotations__")=(true,true,n₀,ann))
 (acA:∀w os,zj p w n₀ ann env c q0 l k1 k2 k3 (zm w os)=some (⟨kE kJ (.body (behindTheImports p) env),c,pos1,[topFrame q0]⟩,c,c,S3 w os,p3))
 (acB:∀w os,((qp p w n₀ ann N4 (S3 w os) (restOf rest env c p3 [topFrame q0])).map λ(s:SharedT)=>looksAt p q loose Xt Yf g0 (boot_heap w.params) s.abs)=some (true,openGood q loose,Ya w)):LeftO p q loose Xt Yf Ya N g0:=λw=>by
 obtain⟨⟨h,gs,d,k,os⟩,e1,e'⟩:=Option.map_eq_some_iff.mp (boot_open e hN f w)
 obtain⟨rfl,rfl,rfl,rfl⟩:h=boot_heap w.params/\gs=Array.mk []/\d=boot_drawn/\k=boot_toks:=by simpa using e'
 have hb0:=b0 w.params
 obtain⟨z,y0,hsz,han⟩:_/\_/\_/\_:=by simpa only[Prod.mk.injEq] using hb0
 obtain⟨T,y⟩:=Option.isSome_iff_exists.mp y0
 obtain⟨s,r1,r2⟩:=Option.map_eq_some_iff.mp (acB w os)
 rw[N8] at r1
 have r3:=acw hb (acA w os) (N7 r1)
 rw[<-hNN] at r3
 have hT:=N6 (life:=(boot_heap w.params).life) _ _ _ _ y
 have hS:SharedT.abs (zm w os)=⟨boot_heap w.params,#[],boot_drawn,boot_toks,os⟩:=by
  unfold SharedT.abs zm Em
  dsimp only
  rw[y]
  dsimp only[Option.getD]
  rw[Nat.zero_add,Q1g] at hT
  rw[hT]
  have e0:(absHeap BT.nil 0 (boot_heap w.params).life).objs=#[]:=rfl
  rw[e0,Q2g,Array.toArray_toList]
 rw[hS] at r3
 have t:topFrom treeTable p w N ⟨boot_heap w.params,#[],boot_drawn,boot_toks,os⟩=some s.abs:=by
  unfold topFrom
  dsimp only
  rw[z,hsz,han,r3]
  have l1:=congrArg (λz=>z.1) r2
  dsimp only[looksAt] at l1
  show(match staticsOk (importedModules p.main.body) (boot_heap w.params) s.abs.heap && namesBound p s.abs.heap && gensDone s.abs && laidKept (boot_heap w.params) s.abs.heap with|true=>_|false=>_)=_
  rw[l1]
 unfold openEnds
 rw[e1]
 show(topFrom treeTable p w N _).map _=_
 rw[t]
 have l2:=congrArg (λz=>z.2) r2
 dsimp only[looksAt] at l2
 rw[show @seenQ=@openSeen from W.Fast.te4187177175401517315.symm] at l2
 exact congrArg some l2
theorem acC {p q:Program}{loose:List Str}{Xt:Shared->Bool}{α:Type}{Yf:Shared->α}{Ya:World->α}{g0:Bool}{N4 n₀:Nat}{ann:Option Value}{S3 S5:World->OsState->SharedT}{t:Thread}
 (b:∀w os,qp p w n₀ ann N4 (S3 w os) t=some (S5 w os)) (l:∀w os,looksAt p q loose Xt Yf g0 (boot_heap w.params) (S5 w os).abs=(true,openGood q loose,Ya w)):
 ∀w os,((qp p w n₀ ann N4 (S3 w os) t).map λ(s:SharedT)=>looksAt p q loose Xt Yf g0 (boot_heap w.params) s.abs)=some (true,openGood q loose,Ya w):=λw os=>by
 rw[b]
 exact congrArg some (l w os)
theorem acD {p q:Program}{loose:List Str}{Xt:Shared->Bool}{α:Type}{Yf:Shared->α}{Ya:World->α}{g0:Bool}{S5:World->OsState->SharedT}
 (l1:∀w os,(staticsOk (importedModules p.main.body) (boot_heap w.params) (S5 w os).abs.heap && namesBound p (S5 w os).abs.heap && gensDone (S5 w os).abs && laidKept (boot_heap w.params) (S5 w os).abs.heap)=true)
 (l2:∀w os,seenQ q loose (importedModules p.main.body) Xt g0 (S5 w os).abs=openGood q loose) (l3:∀w os,Yf (S5 w os).abs=Ya w):
 ∀w os,looksAt p q loose Xt Yf g0 (boot_heap w.params) (S5 w os).abs=(true,openGood q loose,Ya w):=λw os=>Prod.ext (l1 w os) (Prod.ext (l2 w os) (l3 w os))
end Pb
namespace Pb
open PySem L2
section
open PySem
noncomputable def hF (x q:Str) (s:Stmt) (m:Str) (n c:Nat):Obj:=.mk (.type "function") none (.func (.mk x q (fO s) (.stmts (dW s)) (aL s) 3 [] .none .none .none (.str m n) none (.ref c) .none 0)) #[]
noncomputable def hR (x q:Str) (s:Stmt):Obj:=.mk .none none (.func (.mk x q (fO s) (.stmts (dW s)) (aL s) 0 [] .none .none .none .none none .none .none 0)) #[]
noncomputable def hC (x q:Str) (a l n k r e:Nat):Obj:=.mk (.type "code") none (.fields #[.str x a,.str q (a+1),.str (.ofString "/claim/cut.py") (a+2),.int l 0,.int n 0,.int 0 0,.int 0 0,.int k 0,.ref r,.bool true,.int 181 0,.ref (r+1),.none,.ref (r+2),.ref (r+3),.ref (r+4),.int e 0,.int l 0,.str (.ofString "/claim/cut.py") (e+1)]) #[]
noncomputable def gJ (x q:Str) (a l n k r e:Nat):Obj:=.mk (.type "code") none (.fields #[.str x a,.str q (a+1),.str (.ofString "/claim/cut.py") (a+2),.int l 0,.int n 0,.int 0 0,.int 0 0,.int k 0,.ref r,.bool true,.int 181 0,.ref (r+1),.none,.none,.none,.ref (r+2),.int e 0,.int l 0,.str (.ofString "/claim/cut.py") (e+1)]) #[]
noncomputable def hK (x:Str) (a l r e:Nat):Obj:=.mk (.type "code") none (.fields #[.str x a,.str x (a+1),.str (.ofString "/claim/cut.py") (a+2),.int l 0,.int 0 0,.int 0 0,.int 0 0,.int 0 0,.ref r,.bool false,.int 181 0,.ref (r+1),.none,.none,.none,.none,.int e 0,.int l 0,.str (.ofString "/claim/cut.py") (e+1)]) #[]
noncomputable def tS:Nat->List Str->List Value
 |_,[]=>[]
 |n,x::r=>.str x n::tS (n+1) r
noncomputable def hT (n:Nat) (l:List Str):Obj:=.mk (.type "tuple") none (.seq (tS n l).toArray) #[]
noncomputable def tI:List (Nat × Nat × Nat)->List Value
 |[]=>[]
 |(a,b,c)::r=>.int a 0:: .int b 0:: .ref c::tI r
noncomputable def hI (l:List (Nat × Nat × Nat)):Obj:=.mk .none none (.fields (tI l).toArray) #[]
noncomputable def hE (P:Params) (x:Str) (a:Nat) (v:Value):DictEntry:=.mk (PyData.keyHash P x) (.str x a) v
noncomputable def amP (x q:Str) (s:Stmt) (m:Value) (c:Nat):Obj:=.mk (.type "function") none (.func (.mk x q (fO s) (.stmts (dW s)) (aL s) 3 [] .none .none .none m none (.ref c) .none 0)) #[]
noncomputable def amQ (x q:Str) (a l n k r f b e:Nat):Obj:=.mk (.type "code") none (.fields #[.str x a,.str q (a+1),.str (.ofString "/claim/cut.py") (a+2),.int l 0,.int n 0,.int 0 0,.int 0 0,.int k 0,.ref r,.bool true,.int f 0,.ref (r+1),.none,.ref (r+2),.ref (r+3),.ref (r+4),.int b 0,.int l 0,.str (.ofString "/claim/cut.py") e]) #[]
noncomputable def amR (P:Params) (x:Str) (a:Nat) (v:Value):DictEntry:=.mk (PyData.keyHash P x) (.str x a) v
noncomputable def ob2 (P:Params):Obj:=.mk .none none (.dict #[]) #[]
noncomputable def Oh (P:Params):Obj:=.mk (.type "dict") none (.dict #[hE P "__name__" 165 (.str (.ofString "law_putback_k84_desk_deeds") 1055),hE P "__doc__" 166 .none,hE P "__package__" 167 .none,hE P "__loader__" 168 (.builtin "__main__.__loader__#opaque"),hE P "__spec__" 169 .none,hE P "__annotations__" 170 (.ref 6),hE P "__builtins__" 171 (.ref 4),hE P "__file__" 173 (.str (.ofString "/claim/cut.py") 172),hE P "__cached__" 174 .none,hE P "_wall" 193 (.ref 21),hE P "ViewError" 213 (.ref 31),hE P "NoKind" 229 (.ref 44),hE P "NoName" 245 (.ref 56),hE P "Twice" 261 (.ref 68),hE P "NoView" 286 (.ref 87),hE P "CantPut" 311 (.ref 106),hE P "NoFit" 336 (.ref 125),hE P "NoPaper" 361 (.ref 144),hE P "is_plain" 370 (.ref 153),hE P "kind_at" 379 (.ref 160),hE P "sorted_fields" 389 (.ref 167),hE P "record_of" 396 (.ref 174),hE P "misfit" 407 (.ref 181),hE P "record_misfit" 418 (.ref 188),hE P "has_just" 424 (.ref 193),hE P "rows_misfit" 436 (.ref 200),hE P "is_pair" 443 (.ref 207),hE P "tree_misfit" 454 (.ref 214),hE P "either_misfit" 464 (.ref 221),hE P "empty" 473 (.ref 228),hE P "empty_record" 483 (.ref 235),hE P "copied" 489 (.ref 240),hE P "copied_record" 500 (.ref 247),hE P "rank" 510 (.ref 254),hE P "in_order" 519 (.ref 261),hE P "by_key" 529 (.ref 268),hE P "done" 543 (.ref 275),hE P "between" 552 (.ref 282),hE P "stepped" 563 (.ref 289),hE P "stepped_in_record" 577 (.ref 296),hE P "stepped_in_rows" 589 (.ref 303),hE P "ends_at_key" 597 (.ref 310),hE P "row_number" 608 (.ref 317),hE P "with_at" 617 (.ref 324),hE P "stepped_in_tree" 628 (.ref 331),hE P "stepped_in_arm" 641 (.ref 338),hE P "stepped_in_either" 653 (.ref 345),hE P "acted" 664 (.ref 352),hE P "with_row" 673 (.ref 359),hE P "without_row" 683 (.ref 366),hE P "paper_at" 694 (.ref 373),hE P "record_paper" 707 (.ref 380),hE P "rows_paper" 721 (.ref 387),hE P "tree_paper" 735 (.ref 394),hE P "first_source" 746 (.ref 401),hE P "shown" 755 (.ref 408),hE P "Desk" 882 (.ref 508),hE P "ask_fit" 893 (.ref 519),hE P "ask_stands" 900 (.ref 526),hE P "View" 962 (.ref 571),hE P "has_each_once" 970 (.ref 580),hE P "fields_among" 976 (.ref 585),hE P "part_of" 986 (.ref 592),hE P "Take" 1054 (.ref 644),hE P "_law_next" 1066 (.ref 653),hE P "_law_number" 1076 (.ref 660),hE P "_law_word" 1082 (.ref 665),hE P "_law_names" 1088 (.ref 670),hE P "_law_plain" 1096 (.ref 677),hE P "_law_fields" 1102 (.ref 682),hE P "_law_rows_kind" 1108 (.ref 687),hE P "_law_kind" 1118 (.ref 694),hE P "_law_rank" 1126 (.ref 701),hE P "_law_rows" 1132 (.ref 706),hE P "_law_value" 1138 (.ref 711),hE P "_law_same" 1144 (.ref 716),hE P "_law_some" 1150 (.ref 721),hE P "_law_sets" 1166 (.ref 728),hE P "_law_taken" 1172 (.ref 733),hE P "_law_pairs" 1178 (.ref 738),hE P "_law_change" 1188 (.ref 745),hE P "_law_put_by" 1199 (.ref 752),hE P "_law_one" 1205 (.ref 757),hE P "law" 1211 (.ref 762)] 84) #[]
noncomputable def Oi (P:Params):Obj:=hC "_wall" "_wall" 187 1 1 3 15 191
noncomputable def Oj (P:Params):Obj:=hF "_wall" "_wall" (top 0) "__main__" 164 20
noncomputable def Ol (P:Params):Obj:=.mk (.type "dict") none (.dict #[hE P "__module__" 203 (.str (.ofString "putback.errors") 194),hE P "__firstlineno__" 207 (.int 5 206),hE P "__static_attributes__" 208 (.ref 29),hE P "__weakref__" 210 (.ref 32),hE P "__doc__" 211 .none] 3) #[]
noncomputable def Om (P:Params):Obj:=.mk (.type "type") none (.cls (.mk (.ofString "ViewError") [.type "ValueError"] [.ref 31,.type "ValueError",.type "Exception",.type "BaseException",.type "object"] 30 (.ofString "ViewError") true [] [.ref 44,.ref 56,.ref 68,.ref 87,.ref 106,.ref 125,.ref 144] false none false)) #[some (.ref 22),none,some (.str (.ofString "ViewError") 196),some (.str (.ofString "ViewError") 204),some (.builtin "ValueError.__new__"),some (.bool true)]
noncomputable def Oo (P:Params):Obj:=.mk (.type "getset_descriptor") none (.fields #[.str (.ofString "__weakref__") 209,.ref 31,.builtin "ExceptionGroup.__weakref__",.none]) #[]
noncomputable def Oq (P:Params):Obj:=.mk (.type "dict") none (.dict #[hE P "__module__" 221 (.str (.ofString "putback.errors") 194),hE P "__firstlineno__" 225 (.int 7 224),hE P "__static_attributes__" 226 (.ref 42),hE P "__doc__" 227 .none] 2) #[]
noncomputable def Ot (P:Params):Obj:=.mk (.type "type") none (.cls (.mk (.ofString "NoKind") [.ref 31] [.ref 44,.ref 31,.type "ValueError",.type "Exception",.type "BaseException",.type "object"] 43 (.ofString "NoKind") true [] [] false none false)) #[some (.ref 35),none,some (.str (.ofString "NoKind") 214),some (.str (.ofString "NoKind") 222),some (.builtin "ValueError.__new__"),some (.bool true)]
noncomputable def Ou (P:Params):Obj:=.mk (.type "dict") none (.dict #[hE P "__module__" 237 (.str (.ofString "putback.errors") 194),hE P "__firstlineno__" 241 (.int 9 240),hE P "__static_attributes__" 242 (.ref 54),hE P "__doc__" 243 .none] 2) #[]
noncomputable def Ov (P:Params):Obj:=.mk (.type "type") none (.cls (.mk (.ofString "NoName") [.ref 31] [.ref 56,.ref 31,.type "ValueError",.type "Exception",.type "BaseException",.type "object"] 55 (.ofString "NoName") true [] [] false none false)) #[some (.ref 47),none,some (.str (.ofString "NoName") 230),some (.str (.ofString "NoName") 238),some (.builtin "ValueError.__new__"),some (.bool true)]
noncomputable def Ow (P:Params):Obj:=.mk (.type "dict") none (.dict #[hE P "__module__" 253 (.str (.ofString "putback.errors") 194),hE P "__firstlineno__" 257 (.int 11 256),hE P "__static_attributes__" 258 (.ref 66),hE P "__doc__" 259 .none] 2) #[]
noncomputable def Ox (P:Params):Obj:=.mk (.type "type") none (.cls (.mk (.ofString "Twice") [.ref 31] [.ref 68,.ref 31,.type "ValueError",.type "Exception",.type "BaseException",.type "object"] 67 (.ofString "Twice") true [] [] false none false)) #[some (.ref 59),none,some (.str (.ofString "Twice") 246),some (.str (.ofString "Twice") 254),some (.builtin "ValueError.__new__"),some (.bool true)]
noncomputable def Oz (P:Params):Obj:=hC "__init__" "NoView.__init__" 274 15 2 3 78 279
noncomputable def OD (P:Params):Obj:=hF "__init__" "NoView.__init__" (aJ 6 0) "putback.errors" 194 83
noncomputable def OJ (P:Params):Obj:=.mk (.type "dict") none (.dict #[hE P "__module__" 269 (.str (.ofString "putback.errors") 194),hE P "__firstlineno__" 273 (.int 13 272),hE P "__init__" 281 (.ref 84),hE P "__static_attributes__" 283 (.ref 85),hE P "__doc__" 284 .none] 2) #[]
noncomputable def O1 (P:Params):Obj:=.mk (.type "type") none (.cls (.mk (.ofString "NoView") [.ref 31] [.ref 87,.ref 31,.type "ValueError",.type "Exception",.type "BaseException",.type "object"] 86 (.ofString "NoView") true [] [] false none false)) #[some (.ref 71),none,some (.str (.ofString "NoView") 262),some (.str (.ofString "NoView") 270),some (.builtin "ValueError.__new__"),some (.bool true)]
noncomputable def O2 (P:Params):Obj:=hC "__init__" "CantPut.__init__" 299 19 2 3 97 304
noncomputable def O3 (P:Params):Obj:=hF "__init__" "CantPut.__init__" (aJ 7 0) "putback.errors" 194 102
noncomputable def O4 (P:Params):Obj:=.mk (.type "dict") none (.dict #[hE P "__module__" 294 (.str (.ofString "putback.errors") 194),hE P "__firstlineno__" 298 (.int 17 297),hE P "__init__" 306 (.ref 103),hE P "__static_attributes__" 308 (.ref 104),hE P "__doc__" 309 .none] 2) #[]
noncomputable def O5 (P:Params):Obj:=.mk (.type "type") none (.cls (.mk (.ofString "CantPut") [.ref 31] [.ref 106,.ref 31,.type "ValueError",.type "Exception",.type "BaseException",.type "object"] 105 (.ofString "CantPut") true [] [] false none false)) #[some (.ref 90),none,some (.str (.ofString "CantPut") 287),some (.str (.ofString "CantPut") 295),some (.builtin "ValueError.__new__"),some (.bool true)]
noncomputable def O6 (P:Params):Obj:=hC "__init__" "NoFit.__init__" 324 23 2 3 116 329
noncomputable def O7 (P:Params):Obj:=hF "__init__" "NoFit.__init__" (aJ 8 0) "putback.errors" 194 121
noncomputable def O8 (P:Params):Obj:=.mk (.type "dict") none (.dict #[hE P "__module__" 319 (.str (.ofString "putback.errors") 194),hE P "__firstlineno__" 323 (.int 21 322),hE P "__init__" 331 (.ref 122),hE P "__static_attributes__" 333 (.ref 123),hE P "__doc__" 334 .none] 2) #[]
noncomputable def O9 (P:Params):Obj:=.mk (.type "type") none (.cls (.mk (.ofString "NoFit") [.ref 31] [.ref 125,.ref 31,.type "ValueError",.type "Exception",.type "BaseException",.type "object"] 124 (.ofString "NoFit") true [] [] false none false)) #[some (.ref 109),none,some (.str (.ofString "NoFit") 312),some (.str (.ofString "NoFit") 320),some (.builtin "ValueError.__new__"),some (.bool true)]
noncomputable def O_ (P:Params):Obj:=hC "__init__" "NoPaper.__init__" 349 27 2 3 135 354
noncomputable def Pa (P:Params):Obj:=hF "__init__" "NoPaper.__init__" (aJ 9 0) "putback.errors" 194 140
noncomputable def Pg (P:Params):Obj:=.mk (.type "dict") none (.dict #[hE P "__module__" 344 (.str (.ofString "putback.errors") 194),hE P "__firstlineno__" 348 (.int 25 347),hE P "__init__" 356 (.ref 141),hE P "__static_attributes__" 358 (.ref 142),hE P "__doc__" 359 .none] 2) #[]
noncomputable def Ph (P:Params):Obj:=.mk (.type "type") none (.cls (.mk (.ofString "NoPaper") [.ref 31] [.ref 144,.ref 31,.type "ValueError",.type "Exception",.type "BaseException",.type "object"] 143 (.ofString "NoPaper") true [] [] false none false)) #[some (.ref 128),none,some (.str (.ofString "NoPaper") 337),some (.str (.ofString "NoPaper") 345),some (.builtin "ValueError.__new__"),some (.bool true)]
noncomputable def Pj (P:Params):Obj:=hC "is_plain" "is_plain" 364 30 1 3 147 368
noncomputable def Pk (P:Params):Obj:=hF "is_plain" "is_plain" (top 11) "putback.kinds" 362 152
noncomputable def Pn (P:Params):Obj:=hC "kind_at" "kind_at" 371 32 2 3 154 377
noncomputable def Pq (P:Params):Obj:=hF "kind_at" "kind_at" (top 12) "putback.kinds" 362 159
noncomputable def Pr (P:Params):Obj:=hC "sorted_fields" "sorted_fields" 380 37 1 3 161 387
noncomputable def Pu (P:Params):Obj:=hF "sorted_fields" "sorted_fields" (top 13) "putback.kinds" 362 166
noncomputable def Px (P:Params):Obj:=hC "record_of" "record_of" 390 44 1 3 168 394
noncomputable def Py (P:Params):Obj:=hF "record_of" "record_of" (top 14) "putback.kinds" 362 173
noncomputable def Pz (P:Params):Obj:=hC "misfit" "misfit" 399 47 2 3 175 405
noncomputable def PJ (P:Params):Obj:=hF "misfit" "misfit" (top 16) "putback.values" 397 180
noncomputable def PK (P:Params):Obj:=hC "record_misfit" "record_misfit" 408 60 2 3 182 416
noncomputable def PL (P:Params):Obj:=hF "record_misfit" "record_misfit" (top 17) "putback.values" 397 187
noncomputable def PN (P:Params):Obj:=gJ "has_just" "has_just" 419 68 2 3 189 422
noncomputable def P0 (P:Params):Obj:=hF "has_just" "has_just" (top 18) "putback.values" 397 192
noncomputable def P_ (P:Params):Obj:=hC "rows_misfit" "rows_misfit" 425 70 2 3 194 434
noncomputable def Qa (P:Params):Obj:=hF "rows_misfit" "rows_misfit" (top 19) "putback.values" 397 199
noncomputable def Qc (P:Params):Obj:=hC "is_pair" "is_pair" 437 84 1 3 201 441
noncomputable def Qe (P:Params):Obj:=hF "is_pair" "is_pair" (top 20) "putback.values" 397 206
noncomputable def Qf (P:Params):Obj:=hC "tree_misfit" "tree_misfit" 444 86 2 3 208 452
noncomputable def Qg (P:Params):Obj:=hF "tree_misfit" "tree_misfit" (top 21) "putback.values" 397 213
noncomputable def Qh (P:Params):Obj:=hC "either_misfit" "either_misfit" 455 97 2 3 215 462
noncomputable def Qi (P:Params):Obj:=hF "either_misfit" "either_misfit" (top 22) "putback.values" 397 220
noncomputable def Qj (P:Params):Obj:=hC "empty" "empty" 465 107 1 3 222 471
noncomputable def Qk (P:Params):Obj:=hF "empty" "empty" (top 23) "putback.values" 397 227
noncomputable def Ql (P:Params):Obj:=hC "empty_record" "empty_record" 474 121 1 3 229 481
noncomputable def Qm (P:Params):Obj:=hF "empty_record" "empty_record" (top 24) "putback.values" 397 234
noncomputable def Qn (P:Params):Obj:=gJ "copied" "copied" 484 126 2 3 236 487
noncomputable def Qo (P:Params):Obj:=hF "copied" "copied" (top 25) "putback.values" 397 239
noncomputable def Qp (P:Params):Obj:=hC "copied_record" "copied_record" 490 137 2 3 241 498
noncomputable def Qq (P:Params):Obj:=hF "copied_record" "copied_record" (top 26) "putback.values" 397 246
noncomputable def Qs (P:Params):Obj:=hC "rank" "rank" 501 142 2 3 248 508
noncomputable def Qt (P:Params):Obj:=hF "rank" "rank" (top 27) "putback.values" 397 253
noncomputable def Qu (P:Params):Obj:=hC "in_order" "in_order" 511 148 2 3 255 517
noncomputable def Qv (P:Params):Obj:=hF "in_order" "in_order" (top 28) "putback.values" 397 260
noncomputable def Qw (P:Params):Obj:=hC "by_key" "by_key" 520 150 2 3 262 527
noncomputable def Qx (P:Params):Obj:=hF "by_key" "by_key" (top 29) "putback.values" 397 267
noncomputable def Qy (P:Params):Obj:=hC "done" "done" 532 156 3 3 269 541
noncomputable def Qz (P:Params):Obj:=hF "done" "done" (top 31) "putback.papers" 530 274
noncomputable def QB (P:Params):Obj:=hC "between" "between" 544 163 3 3 276 550
noncomputable def QC (P:Params):Obj:=hF "between" "between" (top 32) "putback.papers" 530 281
noncomputable def QD (P:Params):Obj:=hC "stepped" "stepped" 553 165 4 3 283 561
noncomputable def QF (P:Params):Obj:=hF "stepped" "stepped" (top 33) "putback.papers" 530 288
noncomputable def QG (P:Params):Obj:=hC "stepped_in_record" "stepped_in_record" 564 178 4 3 290 575
noncomputable def QH (P:Params):Obj:=hF "stepped_in_record" "stepped_in_record" (top 34) "putback.papers" 530 295
noncomputable def QJ (P:Params):Obj:=hC "stepped_in_rows" "stepped_in_rows" 578 189 4 3 297 587
noncomputable def QK (P:Params):Obj:=hF "stepped_in_rows" "stepped_in_rows" (top 35) "putback.papers" 530 302
noncomputable def QL (P:Params):Obj:=hC "ends_at_key" "ends_at_key" 590 197 2 3 304 595
noncomputable def QM (P:Params):Obj:=hF "ends_at_key" "ends_at_key" (top 36) "putback.papers" 530 309
noncomputable def QS (P:Params):Obj:=hC "row_number" "row_number" 598 199 3 3 311 606
noncomputable def QT (P:Params):Obj:=hF "row_number" "row_number" (top 37) "putback.papers" 530 316
noncomputable def QV (P:Params):Obj:=hC "with_at" "with_at" 609 206 3 3 318 615
noncomputable def QW (P:Params):Obj:=hF "with_at" "with_at" (top 38) "putback.papers" 530 323
noncomputable def QX (P:Params):Obj:=hC "stepped_in_tree" "stepped_in_tree" 618 208 4 3 325 626
noncomputable def QZ (P:Params):Obj:=hF "stepped_in_tree" "stepped_in_tree" (top 39) "putback.papers" 530 330
noncomputable def Q0 (P:Params):Obj:=hC "stepped_in_arm" "stepped_in_arm" 629 213 4 3 332 639
noncomputable def Q5 (P:Params):Obj:=hF "stepped_in_arm" "stepped_in_arm" (top 40) "putback.papers" 530 337
noncomputable def Q6 (P:Params):Obj:=hC "stepped_in_either" "stepped_in_either" 642 220 4 3 339 651
noncomputable def Q7 (P:Params):Obj:=hF "stepped_in_either" "stepped_in_either" (top 41) "putback.papers" 530 344
noncomputable def Q8 (P:Params):Obj:=hC "acted" "acted" 654 226 3 3 346 662
noncomputable def Q9 (P:Params):Obj:=hF "acted" "acted" (top 42) "putback.papers" 530 351
noncomputable def Q_ (P:Params):Obj:=hC "with_row" "with_row" 665 240 3 3 353 671
noncomputable def Ra (P:Params):Obj:=hF "with_row" "with_row" (top 43) "putback.papers" 530 358
noncomputable def Rb (P:Params):Obj:=hC "without_row" "without_row" 674 246 3 3 360 681
noncomputable def Rc (P:Params):Obj:=hF "without_row" "without_row" (top 44) "putback.papers" 530 365
noncomputable def Rf (P:Params):Obj:=hC "paper_at" "paper_at" 684 249 4 3 367 692
noncomputable def Rg (P:Params):Obj:=hF "paper_at" "paper_at" (top 45) "putback.papers" 530 372
noncomputable def Rh (P:Params):Obj:=hC "record_paper" "record_paper" 695 260 4 3 374 705
noncomputable def Ri (P:Params):Obj:=hF "record_paper" "record_paper" (top 46) "putback.papers" 530 379
noncomputable def Rj (P:Params):Obj:=hC "rows_paper" "rows_paper" 708 265 4 3 381 719
noncomputable def Rk (P:Params):Obj:=hF "rows_paper" "rows_paper" (top 47) "putback.papers" 530 386
noncomputable def Rm (P:Params):Obj:=hC "tree_paper" "tree_paper" 722 277 4 3 388 733
noncomputable def Rn (P:Params):Obj:=hF "tree_paper" "tree_paper" (top 48) "putback.papers" 530 393
noncomputable def Ro (P:Params):Obj:=hC "first_source" "first_source" 738 289 2 3 395 744
noncomputable def Rp (P:Params):Obj:=hF "first_source" "first_source" (top 50) "putback.desk" 736 400
noncomputable def Rq (P:Params):Obj:=hC "shown" "shown" 747 296 3 3 402 753
noncomputable def Rr (P:Params):Obj:=hF "shown" "shown" (top 51) "putback.desk" 736 407
noncomputable def Rt (P:Params):Obj:=.mk (.type "tuple") none (.seq #[.none]) #[]
noncomputable def Ru (P:Params):Obj:=hC "__init__" "Desk.__init__" 768 300 3 3 417 774
noncomputable def Rv (P:Params):Obj:=.mk (.type "function") none (.func (.mk (.ofString "__init__") (.ofString "Desk.__init__") (fO (aJ 52 0)) (.stmts (dW (aJ 52 0))) (aL (aJ 52 0)) 3 [] (.ref 416) .none .none (.str (.ofString "putback.desk") 736) none (.ref 422) .none 0)) #[]
noncomputable def Rw (P:Params):Obj:=hC "hang" "Desk.hang" 777 306 3 3 424 783
noncomputable def Rx (P:Params):Obj:=hF "hang" "Desk.hang" (aJ 52 1) "putback.desk" 736 429
noncomputable def Ry (P:Params):Obj:=hC "take_down" "Desk.take_down" 786 312 2 3 431 791
noncomputable def Rz (P:Params):Obj:=hF "take_down" "Desk.take_down" (aJ 52 2) "putback.desk" 736 436
noncomputable def RB (P:Params):Obj:=hC "ask_hung" "Desk.ask_hung" 794 315 2 3 438 799
noncomputable def RD (P:Params):Obj:=hF "ask_hung" "Desk.ask_hung" (aJ 52 3) "putback.desk" 736 443
noncomputable def RG (P:Params):Obj:=hC "hung" "Desk.hung" 802 319 1 3 445 806
noncomputable def RK (P:Params):Obj:=hF "hung" "Desk.hung" (aJ 52 4) "putback.desk" 736 450
noncomputable def RL (P:Params):Obj:=hC "source_now" "Desk.source_now" 809 322 1 3 452 813
noncomputable def RM (P:Params):Obj:=hF "source_now" "Desk.source_now" (aJ 52 5) "putback.desk" 736 457
noncomputable def RN (P:Params):Obj:=hC "seen_by" "Desk.seen_by" 816 325 2 3 459 821
noncomputable def RT (P:Params):Obj:=hF "seen_by" "Desk.seen_by" (aJ 52 6) "putback.desk" 736 464
noncomputable def RV (P:Params):Obj:=hC "put_by" "Desk.put_by" 824 329 3 3 466 830
noncomputable def RW (P:Params):Obj:=hF "put_by" "Desk.put_by" (aJ 52 7) "putback.desk" 736 471
noncomputable def RX (P:Params):Obj:=hC "change" "Desk.change" 833 333 2 3 473 838
noncomputable def RZ (P:Params):Obj:=hF "change" "Desk.change" (aJ 52 8) "putback.desk" 736 478
noncomputable def R0 (P:Params):Obj:=hC "undo" "Desk.undo" 841 336 1 3 480 845
noncomputable def R3 (P:Params):Obj:=hF "undo" "Desk.undo" (aJ 52 9) "putback.desk" 736 485
noncomputable def R4 (P:Params):Obj:=hC "did" "Desk.did" 848 339 2 3 487 853
noncomputable def R5 (P:Params):Obj:=hF "did" "Desk.did" (aJ 52 10) "putback.desk" 736 492
noncomputable def R6 (P:Params):Obj:=gJ "moved_to" "Desk.moved_to" 856 343 2 3 494 859
noncomputable def R7 (P:Params):Obj:=hF "moved_to" "Desk.moved_to" (aJ 52 11) "putback.desk" 736 497
noncomputable def R8 (P:Params):Obj:=hC "paper_for" "Desk.paper_for" 862 348 3 3 499 868
noncomputable def R9 (P:Params):Obj:=hF "paper_for" "Desk.paper_for" (aJ 52 12) "putback.desk" 736 504
noncomputable def R_ (P:Params):Obj:=.mk (.type "dict") none (.dict #[hE P "__module__" 763 (.str (.ofString "putback.desk") 736),hE P "__firstlineno__" 767 (.int 298 766),hE P "__init__" 776 (.ref 423),hE P "hang" 785 (.ref 430),hE P "take_down" 793 (.ref 437),hE P "ask_hung" 801 (.ref 444),hE P "hung" 808 (.ref 451),hE P "source_now" 815 (.ref 458),hE P "seen_by" 823 (.ref 465),hE P "put_by" 832 (.ref 472),hE P "change" 840 (.ref 479),hE P "undo" 847 (.ref 486),hE P "did" 855 (.ref 493),hE P "moved_to" 861 (.ref 498),hE P "paper_for" 870 (.ref 505),hE P "__static_attributes__" 875 (.ref 506),hE P "__dict__" 877 (.ref 509),hE P "__weakref__" 879 (.ref 510),hE P "__doc__" 880 .none] 4) #[]
noncomputable def Sd (P:Params):Obj:=.mk (.type "type") none (.cls (.mk (.ofString "Desk") [.type "object"] [.ref 508,.type "object"] 507 (.ofString "Desk") true [] [] false none false)) #[none,none,some (.str (.ofString "Desk") 756),some (.str (.ofString "Desk") 764),some (.builtin "object.__new__"),some (.bool true)]
noncomputable def Sg (P:Params):Obj:=.mk (.type "getset_descriptor") none (.fields #[.str (.ofString "__dict__") 876,.ref 508,.builtin "function.__dict__",.builtin "function.__dict__#set"]) #[]
noncomputable def Sh (P:Params):Obj:=.mk (.type "getset_descriptor") none (.fields #[.str (.ofString "__weakref__") 878,.ref 508,.builtin "ExceptionGroup.__weakref__",.none]) #[]
noncomputable def Sq (P:Params):Obj:=hC "ask_fit" "ask_fit" 885 351 2 3 513 891
noncomputable def Ss (P:Params):Obj:=hF "ask_fit" "ask_fit" (top 54) "putback.views" 883 518
noncomputable def Sv (P:Params):Obj:=hC "ask_stands" "ask_stands" 894 355 1 3 520 898
noncomputable def Sw (P:Params):Obj:=hF "ask_stands" "ask_stands" (top 55) "putback.views" 883 525
noncomputable def Sx (P:Params):Obj:=hC "behind" "View.behind" 913 360 2 3 534 918
noncomputable def Sy (P:Params):Obj:=hF "behind" "View.behind" (aJ 56 0) "putback.views" 883 539
noncomputable def SJ (P:Params):Obj:=hC "see" "View.see" 921 363 3 3 541 927
noncomputable def SQ (P:Params):Obj:=hF "see" "View.see" (aJ 56 1) "putback.views" 883 546
noncomputable def SX (P:Params):Obj:=hC "put" "View.put" 930 366 4 3 548 937
noncomputable def S_ (P:Params):Obj:=hF "put" "View.put" (aJ 56 2) "putback.views" 883 553
noncomputable def Tc (P:Params):Obj:=hC "grade" "View.grade" 940 370 1 3 555 944
noncomputable def Td (P:Params):Obj:=hF "grade" "View.grade" (aJ 56 3) "putback.views" 883 560
noncomputable def Te (P:Params):Obj:=hC "keeps" "View.keeps" 947 373 2 3 562 952
noncomputable def Tf (P:Params):Obj:=hF "keeps" "View.keeps" (aJ 56 4) "putback.views" 883 567
noncomputable def Tg (P:Params):Obj:=.mk (.type "dict") none (.dict #[hE P "__module__" 908 (.str (.ofString "putback.views") 883),hE P "__firstlineno__" 912 (.int 358 911),hE P "behind" 920 (.ref 540),hE P "see" 929 (.ref 547),hE P "put" 939 (.ref 554),hE P "grade" 946 (.ref 561),hE P "keeps" 954 (.ref 568),hE P "__static_attributes__" 955 (.ref 569),hE P "__dict__" 957 (.ref 572),hE P "__weakref__" 959 (.ref 573),hE P "__doc__" 960 .none] 4) #[]
noncomputable def Ti (P:Params):Obj:=.mk (.type "type") none (.cls (.mk (.ofString "View") [.type "object"] [.ref 571,.type "object"] 570 (.ofString "View") true [] [.ref 644] false none false)) #[none,none,some (.str (.ofString "View") 901),some (.str (.ofString "View") 909),some (.builtin "object.__new__"),some (.bool true)]
noncomputable def Tj (P:Params):Obj:=.mk (.type "getset_descriptor") none (.fields #[.str (.ofString "__dict__") 956,.ref 571,.builtin "function.__dict__",.builtin "function.__dict__#set"]) #[]
noncomputable def Tn (P:Params):Obj:=.mk (.type "getset_descriptor") none (.fields #[.str (.ofString "__weakref__") 958,.ref 571,.builtin "ExceptionGroup.__weakref__",.none]) #[]
noncomputable def Tp (P:Params):Obj:=gJ "has_each_once" "has_each_once" 965 376 2 3 576 968
noncomputable def Tq (P:Params):Obj:=hF "has_each_once" "has_each_once" (top 58) "putback.fields" 963 579
noncomputable def Tt (P:Params):Obj:=gJ "fields_among" "fields_among" 971 380 2 3 581 974
noncomputable def Tv (P:Params):Obj:=hF "fields_among" "fields_among" (top 59) "putback.fields" 963 584
noncomputable def Tw (P:Params):Obj:=hC "part_of" "part_of" 977 382 2 3 586 984
noncomputable def Tz (P:Params):Obj:=hF "part_of" "part_of" (top 60) "putback.fields" 963 591
noncomputable def TF (P:Params):Obj:=hC "__init__" "Take.__init__" 999 389 2 3 600 1004
noncomputable def TJ (P:Params):Obj:=hF "__init__" "Take.__init__" (aJ 61 0) "putback.fields" 963 605
noncomputable def TQ (P:Params):Obj:=hC "behind" "Take.behind" 1007 392 2 3 607 1012
noncomputable def TV (P:Params):Obj:=hF "behind" "Take.behind" (aJ 61 1) "putback.fields" 963 612
noncomputable def TX (P:Params):Obj:=hC "see" "Take.see" 1015 396 3 3 614 1021
noncomputable def TY (P:Params):Obj:=hF "see" "Take.see" (aJ 61 2) "putback.fields" 963 619
noncomputable def T3 (P:Params):Obj:=hC "put" "Take.put" 1024 399 4 3 621 1032
noncomputable def T4 (P:Params):Obj:=hF "put" "Take.put" (aJ 61 3) "putback.fields" 963 626
noncomputable def T5 (P:Params):Obj:=hC "grade" "Take.grade" 1035 405 1 3 628 1039
noncomputable def T6 (P:Params):Obj:=hF "grade" "Take.grade" (aJ 61 4) "putback.fields" 963 633
noncomputable def T7 (P:Params):Obj:=hC "keeps" "Take.keeps" 1042 408 2 3 635 1047
noncomputable def T8 (P:Params):Obj:=hF "keeps" "Take.keeps" (aJ 61 5) "putback.fields" 963 640
noncomputable def T9 (P:Params):Obj:=.mk (.type "dict") none (.dict #[hE P "__module__" 994 (.str (.ofString "putback.fields") 963),hE P "__firstlineno__" 998 (.int 387 997),hE P "__init__" 1006 (.ref 606),hE P "behind" 1014 (.ref 613),hE P "see" 1023 (.ref 620),hE P "put" 1034 (.ref 627),hE P "grade" 1041 (.ref 634),hE P "keeps" 1049 (.ref 641),hE P "__static_attributes__" 1051 (.ref 642),hE P "__doc__" 1052 .none] 2) #[]
noncomputable def T_ (P:Params):Obj:=.mk (.type "type") none (.cls (.mk (.ofString "Take") [.ref 571] [.ref 644,.ref 571,.type "object"] 643 (.ofString "Take") true [] [] false none false)) #[some (.ref 593),none,some (.str (.ofString "Take") 987),some (.str (.ofString "Take") 995),some (.builtin "object.__new__"),some (.bool true)]
noncomputable def Ua (P:Params):Obj:=hC "_law_next" "_law_next" 1057 411 2 3 647 1064
noncomputable def Ub (P:Params):Obj:=hF "_law_next" "_law_next" (top 63) "law_putback_k84_desk_deeds" 1055 652
noncomputable def Uc (P:Params):Obj:=hC "_law_number" "_law_number" 1067 416 2 3 654 1074
noncomputable def Ud (P:Params):Obj:=hF "_law_number" "_law_number" (top 64) "law_putback_k84_desk_deeds" 1055 659
noncomputable def Ue (P:Params):Obj:=gJ "_law_word" "_law_word" 1077 422 2 3 661 1080
noncomputable def Ug (P:Params):Obj:=hF "_law_word" "_law_word" (top 65) "law_putback_k84_desk_deeds" 1055 664
noncomputable def Uh (P:Params):Obj:=gJ "_law_names" "_law_names" 1083 428 3 3 666 1086
noncomputable def Ui (P:Params):Obj:=hF "_law_names" "_law_names" (top 66) "law_putback_k84_desk_deeds" 1055 669
noncomputable def Uj (P:Params):Obj:=hC "_law_plain" "_law_plain" 1089 436 2 3 671 1094
noncomputable def Uk (P:Params):Obj:=hF "_law_plain" "_law_plain" (top 67) "law_putback_k84_desk_deeds" 1055 676
noncomputable def Ul (P:Params):Obj:=gJ "_law_fields" "_law_fields" 1097 438 4 3 678 1100
noncomputable def Um (P:Params):Obj:=hF "_law_fields" "_law_fields" (top 68) "law_putback_k84_desk_deeds" 1055 681
noncomputable def Uo (P:Params):Obj:=gJ "_law_rows_kind" "_law_rows_kind" 1103 440 4 3 683 1106
noncomputable def Uq (P:Params):Obj:=hF "_law_rows_kind" "_law_rows_kind" (top 69) "law_putback_k84_desk_deeds" 1055 686
noncomputable def Ur (P:Params):Obj:=hC "_law_kind" "_law_kind" 1109 448 3 3 688 1116
noncomputable def Us (P:Params):Obj:=hF "_law_kind" "_law_kind" (top 70) "law_putback_k84_desk_deeds" 1055 693
noncomputable def Ut (P:Params):Obj:=hC "_law_rank" "_law_rank" 1119 459 2 3 695 1124
noncomputable def Uu (P:Params):Obj:=hF "_law_rank" "_law_rank" (top 71) "law_putback_k84_desk_deeds" 1055 700
noncomputable def Uv (P:Params):Obj:=gJ "_law_rows" "_law_rows" 1127 461 4 3 702 1130
noncomputable def Uw (P:Params):Obj:=hF "_law_rows" "_law_rows" (top 72) "law_putback_k84_desk_deeds" 1055 705
noncomputable def Ux (P:Params):Obj:=gJ "_law_value" "_law_value" 1133 466 4 3 707 1136
noncomputable def Uy (P:Params):Obj:=hF "_law_value" "_law_value" (top 73) "law_putback_k84_desk_deeds" 1055 710
noncomputable def Uz (P:Params):Obj:=gJ "_law_same" "_law_same" 1139 481 2 3 712 1142
noncomputable def UG (P:Params):Obj:=hF "_law_same" "_law_same" (top 74) "law_putback_k84_desk_deeds" 1055 715
noncomputable def UJ (P:Params):Obj:=gJ "_law_some" "_law_some" 1145 493 2 3 717 1148
noncomputable def UL (P:Params):Obj:=hF "_law_some" "_law_some" (top 75) "law_putback_k84_desk_deeds" 1055 720
noncomputable def UW (P:Params):Obj:=hC "_law_sets" "_law_sets" 1151 496 5 3 722 1164
noncomputable def U0 (P:Params):Obj:=hF "_law_sets" "_law_sets" (top 76) "law_putback_k84_desk_deeds" 1055 727
noncomputable def U3 (P:Params):Obj:=gJ "_law_taken" "_law_taken" 1167 504 2 3 729 1170
noncomputable def U4 (P:Params):Obj:=hF "_law_taken" "_law_taken" (top 77) "law_putback_k84_desk_deeds" 1055 732
noncomputable def U5 (P:Params):Obj:=gJ "_law_pairs" "_law_pairs" 1173 506 3 3 734 1176
noncomputable def U6 (P:Params):Obj:=hF "_law_pairs" "_law_pairs" (top 78) "law_putback_k84_desk_deeds" 1055 737
noncomputable def U7 (P:Params):Obj:=hC "_law_change" "_law_change" 1179 512 2 3 739 1186
noncomputable def U8 (P:Params):Obj:=hF "_law_change" "_law_change" (top 79) "law_putback_k84_desk_deeds" 1055 744
noncomputable def U9 (P:Params):Obj:=hC "_law_put_by" "_law_put_by" 1189 518 3 3 746 1197
noncomputable def U_ (P:Params):Obj:=hF "_law_put_by" "_law_put_by" (top 80) "law_putback_k84_desk_deeds" 1055 751
noncomputable def Va (P:Params):Obj:=gJ "_law_one" "_law_one" 1200 526 7 3 753 1203
noncomputable def Vb (P:Params):Obj:=hF "_law_one" "_law_one" (top 81) "law_putback_k84_desk_deeds" 1055 756
noncomputable def Vc (P:Params):Obj:=gJ "law" "law" 1206 549 1 3 758 1209
noncomputable def Vd (P:Params):Obj:=hF "law" "law" (top 82) "law_putback_k84_desk_deeds" 1055 761
noncomputable def mo3 (P:Params):Obj:=.mk (.type "dict") none (.dict #[hE P "__name__" 165 (.str (.ofString "putback.papers") 530),hE P "__doc__" 166 .none,hE P "__package__" 167 .none,hE P "__loader__" 168 (.builtin "__main__.__loader__#opaque"),hE P "__spec__" 169 .none,hE P "__annotations__" 170 (.ref 6),hE P "__builtins__" 171 (.ref 4),hE P "__file__" 173 (.str (.ofString "/claim/cut.py") 172),hE P "__cached__" 174 .none,hE P "_wall" 193 (.ref 21),hE P "ViewError" 213 (.ref 31),hE P "NoKind" 229 (.ref 44),hE P "NoName" 245 (.ref 56),hE P "Twice" 261 (.ref 68),hE P "NoView" 286 (.ref 87),hE P "CantPut" 311 (.ref 106),hE P "NoFit" 336 (.ref 125),hE P "NoPaper" 361 (.ref 144),hE P "is_plain" 370 (.ref 153),hE P "kind_at" 379 (.ref 160),hE P "sorted_fields" 389 (.ref 167),hE P "record_of" 396 (.ref 174),hE P "misfit" 407 (.ref 181),hE P "record_misfit" 418 (.ref 188),hE P "has_just" 424 (.ref 193),hE P "rows_misfit" 436 (.ref 200),hE P "is_pair" 443 (.ref 207),hE P "tree_misfit" 454 (.ref 214),hE P "either_misfit" 464 (.ref 221),hE P "empty" 473 (.ref 228),hE P "empty_record" 483 (.ref 235),hE P "copied" 489 (.ref 240),hE P "copied_record" 500 (.ref 247),hE P "rank" 510 (.ref 254),hE P "in_order" 519 (.ref 261),hE P "by_key" 529 (.ref 268),hE P "done" 543 (.ref 275),hE P "between" 552 (.ref 282),hE P "stepped" 563 (.ref 289),hE P "stepped_in_record" 577 (.ref 296),hE P "stepped_in_rows" 589 (.ref 303),hE P "ends_at_key" 597 (.ref 310),hE P "row_number" 608 (.ref 317),hE P "with_at" 617 (.ref 324),hE P "stepped_in_tree" 628 (.ref 331)] 45) #[]
noncomputable def acG (P:Params):List Obj:=hT 0 []::hI [(1,0,20),(5,0,27),(7,0,40),(9,0,52),(11,0,64),(13,0,76),(17,0,95),(21,0,114),(25,0,133),(30,0,152),(32,0,159),(37,0,166),(44,0,173),(47,0,180),(60,0,187),(68,0,192),(70,0,199),(84,0,206),(86,0,213),(97,0,220),(107,0,227),(121,0,234),(126,0,239),(137,0,246),(142,0,253),(148,0,260),(150,0,267),(156,0,274),(163,0,281),(165,0,288),(178,0,295),(189,0,302),(197,0,309),(199,0,316),(206,0,323),(208,0,330)]::hK "<module>" 182 1 11 185:: .mk (.type "frame") none .plain #[some (.ref 13),some (.ref 3),some (.ref 3),none,some (.str (.ofString "__main__") 164),none,some (.ref 0)]::hT 0 []:: .mk .none none (.fields #[]) #[]::hT 190 ["k"]::hT 0 []::hR "_wall" "_wall" (top 0)::Oi P::Oj P:: .mk (.type "tuple") none (.seq #[.type "ValueError"]) #[]:: .mk (.type "builtin_function_or_method") none (.fields #[.builtin "type.__prepare__",.type "type"]) #[]:: .mk (.type "dict") none (.dict #[hE P "__module__" 203 (.str (.ofString "putback.errors") 194),hE P "__qualname__" 205 (.str (.ofString "ViewError") 204),hE P "__firstlineno__" 207 (.int 5 206),hE P "__static_attributes__" 208 (.ref 29)] 4) #[]::hT 0 []:: .mk .none none (.fields #[]) #[]::hK "ViewError" 198 5 25 201:: .mk (.type "frame") none .plain #[some (.ref 27),some (.ref 3),some (.ref 24),none,some (.str (.ofString "putback.errors") 194),none,some (.ref 0)]::hT 0 []::Ol P::Om P::Oo P:: .mk (.type "super") none (.fields #[.ref 31,.ref 31,.ref 31]) #[]:: .mk (.type "builtin_function_or_method") none (.fields #[.builtin "object.__init_subclass__",.ref 31]) #[]:: .mk (.type "tuple") none (.seq #[.ref 31]) #[]:: .mk (.type "builtin_function_or_method") none (.fields #[.builtin "type.__prepare__",.type "type"]) #[]:: .mk (.type "dict") none (.dict #[hE P "__module__" 221 (.str (.ofString "putback.errors") 194),hE P "__qualname__" 223 (.str (.ofString "NoKind") 222),hE P "__firstlineno__" 225 (.int 7 224),hE P "__static_attributes__" 226 (.ref 42)] 4) #[]::hT 0 []:: .mk .none none (.fields #[]) #[]::hK "NoKind" 216 7 38 219:: .mk (.type "frame") none .plain #[some (.ref 40),some (.ref 3),some (.ref 37),none,some (.str (.ofString "putback.errors") 194),none,some (.ref 0)]::hT 0 []::Oq P::Ot P:: .mk (.type "super") none (.fields #[.ref 44,.ref 44,.ref 44]) #[]:: .mk (.type "builtin_function_or_method") none (.fields #[.builtin "object.__init_subclass__",.ref 44]) #[]:: .mk (.type "tuple") none (.seq #[.ref 31]) #[]:: .mk (.type "builtin_function_or_method") none (.fields #[.builtin "type.__prepare__",.type "type"]) #[]:: .mk (.type "dict") none (.dict #[hE P "__module__" 237 (.str (.ofString "putback.errors") 194),hE P "__qualname__" 239 (.str (.ofString "NoName") 238),hE P "__firstlineno__" 241 (.int 9 240),hE P "__static_attributes__" 242 (.ref 54)] 4) #[]::hT 0 []:: .mk .none none (.fields #[]) #[]::hK "NoName" 232 9 50 235:: .mk (.type "frame") none .plain #[some (.ref 52),some (.ref 3),some (.ref 49),none,some (.str (.ofString "putback.errors") 194),none,some (.ref 0)]::hT 0 []::Ou P::Ov P:: .mk (.type "super") none (.fields #[.ref 56,.ref 56,.ref 56]) #[]:: .mk (.type "builtin_function_or_method") none (.fields #[.builtin "object.__init_subclass__",.ref 56]) #[]:: .mk (.type "tuple") none (.seq #[.ref 31]) #[]:: .mk (.type "builtin_function_or_method") none (.fields #[.builtin "type.__prepare__",.type "type"]) #[]:: .mk (.type "dict") none (.dict #[hE P "__module__" 253 (.str (.ofString "putback.errors") 194),hE P "__qualname__" 255 (.str (.ofString "Twice") 254),hE P "__firstlineno__" 257 (.int 11 256),hE P "__static_attributes__" 258 (.ref 66)] 4) #[]::hT 0 []:: .mk .none none (.fields #[]) #[]::hK "Twice" 248 11 62 251:: .mk (.type "frame") none .plain #[some (.ref 64),some (.ref 3),some (.ref 61),none,some (.str (.ofString "putback.errors") 194),none,some (.ref 0)]::hT 0 []::Ow P::Ox P:: .mk (.type "super") none (.fields #[.ref 68,.ref 68,.ref 68]) #[]:: .mk (.type "builtin_function_or_method") none (.fields #[.builtin "object.__init_subclass__",.ref 68]) #[]:: .mk (.type "tuple") none (.seq #[.ref 31]) #[]:: .mk (.type "builtin_function_or_method") none (.fields #[.builtin "type.__prepare__",.type "type"]) #[]:: .mk (.type "dict") none (.dict #[hE P "__module__" 269 (.str (.ofString "putback.errors") 194),hE P "__qualname__" 271 (.str (.ofString "NoView") 270),hE P "__firstlineno__" 273 (.int 13 272),hE P "__init__" 281 (.ref 84),hE P "__static_attributes__" 283 (.ref 85)] 5) #[]::hT 0 []::hI [(15,4,83)]::hK "NoView" 264 13 74 267:: .mk (.type "frame") none .plain #[some (.ref 76),some (.ref 3),some (.ref 73),none,some (.str (.ofString "putback.errors") 194),none,some (.ref 0)]::hT 0 []:: .mk .none none (.fields #[]) #[]::hT 277 ["self","way"]::hT 0 []::hR "__init__" "NoView.__init__" (aJ 6 0)::Oz P::OD P::hT 282 ["way"]::OJ P::O1 P:: .mk (.type "super") none (.fields #[.ref 87,.ref 87,.ref 87]) #[]:: .mk (.type "builtin_function_or_method") none (.fields #[.builtin "object.__init_subclass__",.ref 87]) #[]:: .mk (.type "tuple") none (.seq #[.ref 31]) #[]:: .mk (.type "builtin_function_or_method") none (.fields #[.builtin "type.__prepare__",.type "type"]) #[]:: .mk (.type "dict") none (.dict #[hE P "__module__" 294 (.str (.ofString "putback.errors") 194),hE P "__qualname__" 296 (.str (.ofString "CantPut") 295),hE P "__firstlineno__" 298 (.int 17 297),hE P "__init__" 306 (.ref 103),hE P "__static_attributes__" 308 (.ref 104)] 5) #[]::hT 0 []::hI [(19,4,102)]::hK "CantPut" 289 17 93 292:: .mk (.type "frame") none .plain #[some (.ref 95),some (.ref 3),some (.ref 92),none,some (.str (.ofString "putback.errors") 194),none,some (.ref 0)]::hT 0 []:: .mk .none none (.fields #[]) #[]::hT 302 ["self","way"]::hT 0 []::hR "__init__" "CantPut.__init__" (aJ 7 0)::O2 P::O3 P::hT 307 ["way"]::O4 P::O5 P:: .mk (.type "super") none (.fields #[.ref 106,.ref 106,.ref 106]) #[]:: .mk (.type "builtin_function_or_method") none (.fields #[.builtin "object.__init_subclass__",.ref 106]) #[]:: .mk (.type "tuple") none (.seq #[.ref 31]) #[]:: .mk (.type "builtin_function_or_method") none (.fields #[.builtin "type.__prepare__",.type "type"]) #[]:: .mk (.type "dict") none (.dict #[hE P "__module__" 319 (.str (.ofString "putback.errors") 194),hE P "__qualname__" 321 (.str (.ofString "NoFit") 320),hE P "__firstlineno__" 323 (.int 21 322),hE P "__init__" 331 (.ref 122),hE P "__static_attributes__" 333 (.ref 123)] 5) #[]::hT 0 []::hI [(23,4,121)]::hK "NoFit" 314 21 112 317:: .mk (.type "frame") none .plain #[some (.ref 114),some (.ref 3),some (.ref 111),none,some (.str (.ofString "putback.errors") 194),none,some (.ref 0)]::hT 0 []:: .mk .none none (.fields #[]) #[]::hT 327 ["self","way"]::hT 0 []::hR "__init__" "NoFit.__init__" (aJ 8 0)::O6 P::O7 P::hT 332 ["way"]::O8 P::O9 P:: .mk (.type "super") none (.fields #[.ref 125,.ref 125,.ref 125]) #[]:: .mk (.type "builtin_function_or_method") none (.fields #[.builtin "object.__init_subclass__",.ref 125]) #[]:: .mk (.type "tuple") none (.seq #[.ref 31]) #[]:: .mk (.type "builtin_function_or_method") none (.fields #[.builtin "type.__prepare__",.type "type"]) #[]:: .mk (.type "dict") none (.dict #[hE P "__module__" 344 (.str (.ofString "putback.errors") 194),hE P "__qualname__" 346 (.str (.ofString "NoPaper") 345),hE P "__firstlineno__" 348 (.int 25 347),hE P "__init__" 356 (.ref 141),hE P "__static_attributes__" 358 (.ref 142)] 5) #[]::hT 0 []::hI [(27,4,140)]::hK "NoPaper" 339 25 131 342:: .mk (.type "frame") none .plain #[some (.ref 133),some (.ref 3),some (.ref 130),none,some (.str (.ofString "putback.errors") 194),none,some (.ref 0)]::hT 0 []:: .mk .none none (.fields #[]) #[]::hT 352 ["self","at"]::hT 0 []::hR "__init__" "NoPaper.__init__" (aJ 9 0)::O_ P::Pa P::hT 357 ["at"]::Pg P::Ph P:: .mk (.type "super") none (.fields #[.ref 144,.ref 144,.ref 144]) #[]:: .mk (.type "builtin_function_or_method") none (.fields #[.builtin "object.__init_subclass__",.ref 144]) #[]::hT 0 []:: .mk .none none (.fields #[]) #[]::hT 367 ["kind"]::hT 0 []::hR "is_plain" "is_plain" (top 11)::Pj P::Pk P::hT 0 []:: .mk .none none (.fields #[]) #[]::hT 374 ["fields","name","pair"]::hT 0 []::hR "kind_at" "kind_at" (top 12)::Pn P::Pq P::hT 0 []:: .mk .none none (.fields #[]) #[]::hT 383 ["pairs","fields","number","name"]::hT 0 []::hR "sorted_fields" "sorted_fields" (top 13)::Pr P::Pu P::hT 0 []:: .mk .none none (.fields #[]) #[]::hT 393 ["pairs"]::hT 0 []::hR "record_of" "record_of" (top 14)::Px P::Py P::hT 0 []:: .mk .none none (.fields #[]) #[]::hT 402 ["kind","value","form"]::hT 0 []::hR "misfit" "misfit" (top 16)::Pz P::PJ P::hT 0 []:: .mk .none none (.fields #[]) #[]::hT 411 ["fields","record","name","inner","place"]::hT 0 []::hR "record_misfit" "record_misfit" (top 17)::PK P::PL P::hT 0 []:: .mk .none none (.fields #[]) #[]::hR "has_just" "has_just" (top 18)::PN P::P0 P::hT 0 []:: .mk .none none (.fields #[]) #[]::hT 428 ["kind","rows","earlier","number","row","place"]::hT 0 []::hR "rows_misfit" "rows_misfit" (top 19)::P_ P::Qa P::hT 0 []:: .mk .none none (.fields #[]) #[]::hT 440 ["value"]::hT 0 []::hR "is_pair" "is_pair" (top 20)::Qc P::Qe P::hT 0 []:: .mk .none none (.fields #[]) #[]::hT 447 ["kind","tree","place","number","arm"]::hT 0 []::hR "tree_misfit" "tree_misfit" (top 21)::Qf P::Qg P::hT 0 []:: .mk .none none (.fields #[]) #[]::hT 458 ["fields","value","inner","place"]::hT 0 []::hR "either_misfit" "either_misfit" (top 22)::Qh P::Qi P::hT 0 []:: .mk .none none (.fields #[]) #[]::hT 468 ["kind","form","first"]::hT 0 []::hR "empty" "empty" (top 23)::Qj P::Qk P::hT 0 []:: .mk .none none (.fields #[]) #[]::hT 477 ["fields","record","name","inner"]::hT 0 []::hR "empty_record" "empty_record" (top 24)::Ql P::Qm P::hT 0 []:: .mk .none none (.fields #[]) #[]::hR "copied" "copied" (top 25)::Qn P::Qo P::hT 0 []:: .mk .none none (.fields #[]) #[]::hT 493 ["fields","record","fresh","name","inner"]::hT 0 []::hR "copied_record" "copied_record" (top 26)::Qp P::Qq P::hT 0 []:: .mk .none none (.fields #[]) #[]::hT 504 ["kind","row","key","by"]::hT 0 []::hR "rank" "rank" (top 27)::Qs P::Qt P::hT 0 []:: .mk .none none (.fields #[]) #[]::hT 514 ["kind","rows"]::hT 516 ["kind"]::hR "in_order" "in_order" (top 28)::Qu P::Qv P::hT 0 []:: .mk .none none (.fields #[]) #[]::hT 523 ["kind","rows","found","row"]::hT 0 []::hR "by_key" "by_key" (top 29)::Qw P::Qx P::hT 0 []:: .mk .none none (.fields #[]) #[]::hT 535 ["kind","paper","value","now","number","step"]::hT 0 []::hR "done" "done" (top 31)::Qy P::Qz P::hT 0 []:: .mk .none none (.fields #[]) #[]::hT 547 ["kind","old","new"]::hT 0 []::hR "between" "between" (top 32)::QB P::QC P::hT 0 []:: .mk .none none (.fields #[]) #[]::hT 556 ["kind","step","path","value","form"]::hT 0 []::hR "stepped" "stepped" (top 33)::QD P::QF P::hT 0 []:: .mk .none none (.fields #[]) #[]::hT 567 ["fields","step","path","record","name","inner","part","fresh"]::hT 0 []::hR "stepped_in_record" "stepped_in_record" (top 34)::QG P::QH P::hT 0 []:: .mk .none none (.fields #[]) #[]::hT 581 ["kind","step","path","rows","number","row"]::hT 0 []::hR "stepped_in_rows" "stepped_in_rows" (top 35)::QJ P::QK P::hT 0 []:: .mk .none none (.fields #[]) #[]::hT 593 ["kind","path"]::hT 0 []::hR "ends_at_key" "ends_at_key" (top 36)::QL P::QM P::hT 0 []:: .mk .none none (.fields #[]) #[]::hT 601 ["kind","rows","key","number","row"]::hT 0 []::hR "row_number" "row_number" (top 37)::QS P::QT P::hT 0 []:: .mk .none none (.fields #[]) #[]::hT 612 ["things","number","thing"]::hT 0 []::hR "with_at" "with_at" (top 38)::QV P::QW P::hT 0 []:: .mk .none none (.fields #[]) #[]::hT 621 ["kind","step","path","tree","knot"]::hT 0 []::hR "stepped_in_tree" "stepped_in_tree" (top 39)::QX P::QZ P::[]
noncomputable def endL (P:Params):List Obj:=hT 0 []:: .mk .none none (.fields #[]) #[]::hT 632 ["kind","step","path","tree","number","arms","arm"]::hT 0 []::hR "stepped_in_arm" "stepped_in_arm" (top 40)::Q0 P::Q5 P::hT 0 []:: .mk .none none (.fields #[]) #[]::hT 645 ["fields","step","path","value","name","part"]::hT 0 []::hR "stepped_in_either" "stepped_in_either" (top 41)::Q6 P::Q7 P::hT 0 []:: .mk .none none (.fields #[]) #[]::hT 657 ["kind","step","value","deed","form"]::hT 0 []::hR "acted" "acted" (top 42)::Q8 P::Q9 P::hT 0 []:: .mk .none none (.fields #[]) #[]::hT 668 ["kind","rows","row"]::hT 0 []::hR "with_row" "with_row" (top 43)::Q_ P::Ra P::hT 0 []:: .mk .none none (.fields #[]) #[]::hT 677 ["kind","rows","key","number"]::hT 0 []::hR "without_row" "without_row" (top 44)::Rb P::Rc P::hT 0 []:: .mk .none none (.fields #[]) #[]::hT 687 ["path","kind","old","new","form"]::hT 0 []::hR "paper_at" "paper_at" (top 45)::Rf P::Rg P::hT 0 []:: .mk .none none (.fields #[]) #[]::hT 698 ["path","fields","old","new","paper","name","inner"]::hT 0 []::hR "record_paper" "record_paper" (top 46)::Rh P::Ri P::hT 0 []:: .mk .none none (.fields #[]) #[]::hT 711 ["path","kind","old","new","old_rows","new_rows","paper","key"]::hT 0 []::hR "rows_paper" "rows_paper" (top 47)::Rj P::Rk P::hT 0 []:: .mk .none none (.fields #[]) #[]::hT 725 ["path","kind","old","new","old_arms","new_arms","paper","number"]::hT 0 []::hR "tree_paper" "tree_paper" (top 48)::Rm P::Rn P::hT 0 []:: .mk .none none (.fields #[]) #[]::hT 741 ["kind","source","place"]::hT 0 []::hR "first_source" "first_source" (top 50)::Ro P::Rp P::hT 0 []:: .mk .none none (.fields #[]) #[]::hT 750 ["view","kind","source"]::hT 0 []::hR "shown" "shown" (top 51)::Rq P::Rr P::hT 0 []:: .mk (.type "builtin_function_or_method") none (.fields #[.builtin "type.__prepare__",.type "type"]) #[]:: .mk (.type "dict") none (.dict #[hE P "__module__" 763 (.str (.ofString "putback.desk") 736),hE P "__qualname__" 765 (.str (.ofString "Desk") 764),hE P "__firstlineno__" 767 (.int 298 766),hE P "__init__" 776 (.ref 423),hE P "hang" 785 (.ref 430),hE P "take_down" 793 (.ref 437),hE P "ask_hung" 801 (.ref 444),hE P "hung" 808 (.ref 451),hE P "source_now" 815 (.ref 458),hE P "seen_by" 823 (.ref 465),hE P "put_by" 832 (.ref 472),hE P "change" 840 (.ref 479),hE P "undo" 847 (.ref 486),hE P "did" 855 (.ref 493),hE P "moved_to" 861 (.ref 498),hE P "paper_for" 870 (.ref 505),hE P "__static_attributes__" 875 (.ref 506)] 17) #[]::hT 0 []::hI [(300,4,422),(306,4,429),(312,4,436),(315,4,443),(319,4,450),(322,4,457),(325,4,464),(329,4,471),(333,4,478),(336,4,485),(339,4,492),(343,4,497),(348,4,504)]::hK "Desk" 758 298 412 761:: .mk (.type "frame") none .plain #[some (.ref 414),some (.ref 3),some (.ref 411),none,some (.str (.ofString "putback.desk") 736),none,some (.ref 0)]::Rt P::hT 0 []:: .mk .none none (.fields #[]) #[]::hT 771 ["self","kind","source"]::hT 0 []::hR "__init__" "Desk.__init__" (aJ 52 0)::Ru P::Rv P::hT 0 []:: .mk .none none (.fields #[]) #[]::hT 780 ["self","name","view"]::hT 0 []::hR "hang" "Desk.hang" (aJ 52 1)::Rw P::Rx P::hT 0 []:: .mk .none none (.fields #[]) #[]::hT 789 ["self","name"]::hT 0 []::hR "take_down" "Desk.take_down" (aJ 52 2)::Ry P::Rz P::hT 0 []:: .mk .none none (.fields #[]) #[]::hT 797 ["self","name"]::hT 0 []::hR "ask_hung" "Desk.ask_hung" (aJ 52 3)::RB P::RD P::hT 0 []:: .mk .none none (.fields #[]) #[]::hT 805 ["self"]::hT 0 []::hR "hung" "Desk.hung" (aJ 52 4)::RG P::RK P::hT 0 []:: .mk .none none (.fields #[]) #[]::hT 812 ["self"]::hT 0 []::hR "source_now" "Desk.source_now" (aJ 52 5)::RL P::RM P::hT 0 []:: .mk .none none (.fields #[]) #[]::hT 819 ["self","name"]::hT 0 []::hR "seen_by" "Desk.seen_by" (aJ 52 6)::RN P::RT P::hT 0 []:: .mk .none none (.fields #[]) #[]::hT 827 ["self","name","seen"]::hT 0 []::hR "put_by" "Desk.put_by" (aJ 52 7)::RV P::RW P::hT 0 []:: .mk .none none (.fields #[]) #[]::hT 836 ["self","paper"]::hT 0 []::hR "change" "Desk.change" (aJ 52 8)::RX P::RZ P::hT 0 []:: .mk .none none (.fields #[]) #[]::hT 844 ["self"]::hT 0 []::hR "undo" "Desk.undo" (aJ 52 9)::R0 P::R3 P::hT 0 []:: .mk .none none (.fields #[]) #[]::hT 851 ["self","new"]::hT 0 []::hR "did" "Desk.did" (aJ 52 10)::R4 P::R5 P::hT 0 []:: .mk .none none (.fields #[]) #[]::hR "moved_to" "Desk.moved_to" (aJ 52 11)::R6 P::R7 P::hT 0 []:: .mk .none none (.fields #[]) #[]::hT 865 ["self","view","old"]::hT 0 []::hR "paper_for" "Desk.paper_for" (aJ 52 12)::R8 P::R9 P::hT 871 ["kind","past","source","views"]::R_ P::Sd P::Sg P::Sh P:: .mk (.type "super") none (.fields #[.ref 508,.ref 508,.ref 508]) #[]:: .mk (.type "builtin_function_or_method") none (.fields #[.builtin "object.__init_subclass__",.ref 508]) #[]::hT 0 []:: .mk .none none (.fields #[]) #[]::hT 888 ["kind","seen","place"]::hT 0 []::hR "ask_fit" "ask_fit" (top 54)::Sq P::Ss P::hT 0 []:: .mk .none none (.fields #[]) #[]::hT 897 ["stands"]::hT 0 []::hR "ask_stands" "ask_stands" (top 55)::Sv P::Sw P::hT 0 []:: .mk (.type "builtin_function_or_method") none (.fields #[.builtin "type.__prepare__",.type "type"]) #[]:: .mk (.type "dict") none (.dict #[hE P "__module__" 908 (.str (.ofString "putback.views") 883),hE P "__qualname__" 910 (.str (.ofString "View") 909),hE P "__firstlineno__" 912 (.int 358 911),hE P "behind" 920 (.ref 540),hE P "see" 929 (.ref 547),hE P "put" 939 (.ref 554),hE P "grade" 946 (.ref 561),hE P "keeps" 954 (.ref 568),hE P "__static_attributes__" 955 (.ref 569)] 9) #[]::hT 0 []::hI [(360,4,539),(363,4,546),(366,4,553),(370,4,560),(373,4,567)]::hK "View" 903 358 530 906:: .mk (.type "frame") none .plain #[some (.ref 532),some (.ref 3),some (.ref 529),none,some (.str (.ofString "putback.views") 883),none,some (.ref 0)]::hT 0 []:: .mk .none none (.fields #[]) #[]::hT 916 ["self","kind"]::hT 0 []::hR "behind" "View.behind" (aJ 56 0)::Sx P::Sy P::hT 0 []:: .mk .none none (.fields #[]) #[]::hT 924 ["self","kind","source"]::hT 0 []::hR "see" "View.see" (aJ 56 1)::SJ P::SQ P::hT 0 []:: .mk .none none (.fields #[]) #[]::hT 933 ["self","kind","source","seen"]::hT 0 []::hR "put" "View.put" (aJ 56 2)::SX P::S_ P::hT 0 []:: .mk .none none (.fields #[]) #[]::hT 943 ["self"]::hT 0 []::hR "grade" "View.grade" (aJ 56 3)::Tc P::Td P::hT 0 []:: .mk .none none (.fields #[]) #[]::hT 950 ["self","name"]::hT 0 []::hR "keeps" "View.keeps" (aJ 56 4)::Te P::Tf P::hT 0 []::Tg P::Ti P::Tj P::Tn P:: .mk (.type "super") none (.fields #[.ref 571,.ref 571,.ref 571]) #[]:: .mk (.type "builtin_function_or_method") none (.fields #[.builtin "object.__init_subclass__",.ref 571]) #[]::hT 0 []:: .mk .none none (.fields #[]) #[]::hR "has_each_once" "has_each_once" (top 58)::Tp P::Tq P::hT 0 []:: .mk .none none (.fields #[]) #[]::hR "fields_among" "fields_among" (top 59)::Tt P::Tv P::hT 0 []:: .mk .none none (.fields #[]) #[]::hT 980 ["record","names","part","name"]::hT 0 []::hR "part_of" "part_of" (top 60)::Tw P::Tz P:: .mk (.type "tuple") none (.seq #[.ref 571]) #[]:: .mk (.type "builtin_function_or_method") none (.fields #[.builtin "type.__prepare__",.type "type"]) #[]:: .mk (.type "dict") none (.dict #[hE P "__module__" 994 (.str (.ofString "putback.fields") 963),hE P "__qualname__" 996 (.str (.ofString "Take") 995),hE P "__firstlineno__" 998 (.int 387 997),hE P "__init__" 1006 (.ref 606),hE P "behind" 1014 (.ref 613),hE P "see" 1023 (.ref 620),hE P "put" 1034 (.ref 627),hE P "grade" 1041 (.ref 634),hE P "keeps" 1049 (.ref 641),hE P "__static_attributes__" 1051 (.ref 642)] 10) #[]::hT 0 []::hI [(389,4,605),(392,4,612),(396,4,619),(399,4,626),(405,4,633),(408,4,640)]::hK "Take" 989 387 596 992:: .mk (.type "frame") none .plain #[some (.ref 598),some (.ref 3),some (.ref 595),none,some (.str (.ofString "putback.fields") 963),none,some (.ref 0)]::hT 0 []:: .mk .none none (.fields #[]) #[]::hT 1002 ["self","names"]::hT 0 []::hR "__init__" "Take.__init__" (aJ 61 0)::TF P::TJ P::hT 0 []:: .mk .none none (.fields #[]) #[]::hT 1010 ["self","kind"]::hT 0 []::hR "behind" "Take.behind" (aJ 61 1)::TQ P::TV P::hT 0 []:: .mk .none none (.fields #[]) #[]::hT 1018 ["self","kind","source"]::hT 0 []::hR "see" "Take.see" (aJ 61 2)::TX P::TY P::hT 0 []:: .mk .none none (.fields #[]) #[]::hT 1027 ["self","kind","source","seen","fresh"]::hT 0 []::hR "put" "Take.put" (aJ 61 3)::T3 P::T4 P::hT 0 []:: .mk .none none (.fields #[]) #[]::hT 1038 ["self"]::hT 0 []::hR "grade" "Take.grade" (aJ 61 4)::T5 P::T6 P::hT 0 []:: .mk .none none (.fields #[]) #[]::hT 1045 ["self","name"]::hT 0 []::hR "keeps" "Take.keeps" (aJ 61 5)::T7 P::T8 P::hT 1050 ["names"]::T9 P::T_ P:: .mk (.type "super") none (.fields #[.ref 644,.ref 644,.ref 644]) #[]:: .mk (.type "builtin_function_or_method") none (.fields #[.builtin "object.__init_subclass__",.ref 644]) #[]::hT 0 []:: .mk .none none (.fields #[]) #[]::hT 1060 ["_law_script","_law_at","_law_cell","_law_m"]::hT 0 []::hR "_law_next" "_law_next" (top 63)::Ua P::Ub P::hT 0 []:: .mk .none none (.fields #[]) #[]::hT 1070 ["_law_script","_law_at","_law_m","_law_cell"]::hT 0 []::hR "_law_number" "_law_number" (top 64)::Uc P::Ud P::hT 0 []:: .mk .none none (.fields #[]) #[]::hR "_law_word" "_law_word" (top 65)::Ue P::Ug P::hT 0 []:: .mk .none none (.fields #[]) #[]::hR "_law_names" "_law_names" (top 66)::Uh P::Ui P::hT 0 []:: .mk .none none (.fields #[]) #[]::hT 1092 ["_law_script","_law_at"]::hT 0 []::hR "_law_plain" "_law_plain" (top 67)::Uj P::Uk P::hT 0 []:: .mk .none none (.fields #[]) #[]::hR "_law_fields" "_law_fields" (top 68)::Ul P::Um P::hT 0 []:: .mk .none none (.fields #[]) #[]::hR "_law_rows_kind" "_law_rows_kind" (top 69)::Uo P::Uq P::hT 0 []:: .mk .none none (.fields #[]) #[]::hT 1112 ["_law_script","_law_at","_law_deep","_law_m"]::hT 0 []::hR "_law_kind" "_law_kind" (top 70)::Ur P::Us P::hT 0 []:: .mk .none none (.fields #[]) #[]::hT 1122 ["_law_kind_here","_law_row"]::hT 0 []::hR "_law_rank" "_law_rank" (top 71)::Ut P::Uu P::hT 0 []:: .mk .none none (.fields #[]) #[]::hR "_law_rows" "_law_rows" (top 72)::Uv P::Uw P::hT 0 []:: .mk .none none (.fields #[]) #[]::hR "_law_value" "_law_value" (top 73)::Ux P::Uy P::hT 0 []:: .mk .none none (.fields #[]) #[]::hR "_law_same" "_law_same" (top 74)::Uz P::UG P::hT 0 []:: .mk .none none (.fields #[]) #[]::hR "_law_some" "_law_some" (top 75)::UJ P::UL P::hT 0 []:: .mk .none none (.fields #[]) #[]::hT 1154 ["_law_script","_law_at","_law_fields_here","_law_value_here","_law_many","_law_paper","_law_now","_law_k","_law_name","_law_inner"]::hT 0 []::hR "_law_sets" "_law_sets" (top 76)::UW P::U0 P::hT 0 []:: .mk .none none (.fields #[]) #[]::hR "_law_taken" "_law_taken" (top 77)::U3 P::U4 P::hT 0 []:: .mk .none none (.fields #[]) #[]::hR "_law_pairs" "_law_pairs" (top 78)::U5 P::U6 P::hT 0 []:: .mk .none none (.fields #[]) #[]::hT 1182 ["_law_desk","_law_paper","_law_told","e"]::hT 0 []::hR "_law_change" "_law_change" (top 79)::U7 P::U8 P::hT 0 []:: .mk .none none (.fields #[]) #[]::hT 1192 ["_law_desk","_law_name","_law_seen","_law_told","e"]::hT 0 []::hR "_law_put_by" "_law_put_by" (top 80)::U9 P::U_ P::hT 0 []:: .mk .none none (.fields #[]) #[]::hR "_law_one" "_law_one" (top 81)::Va P::Vb P::hT 0 []:: .mk .none none (.fields #[]) #[]::hR "law" "law" (top 82)::Vc P::Vd P::[]
noncomputable def acH (P:Params):List (Nat × Obj):=(nat_lit 3,Oh P)::(nat_lit 12,hI [(1,0,20),(5,0,27),(7,0,40),(9,0,52),(11,0,64),(13,0,76),(17,0,95),(21,0,114),(25,0,133),(30,0,152),(32,0,159),(37,0,166),(44,0,173),(47,0,180),(60,0,187),(68,0,192),(70,0,199),(84,0,206),(86,0,213),(97,0,220),(107,0,227),(121,0,234),(126,0,239),(137,0,246),(142,0,253),(148,0,260),(150,0,267),(156,0,274),(163,0,281),(165,0,288),(178,0,295),(189,0,302),(197,0,309),(199,0,316),(206,0,323),(208,0,330),(213,0,337),(220,0,344),(226,0,351),(240,0,358),(246,0,365),(249,0,372),(260,0,379),(265,0,386),(277,0,393),(289,0,400),(296,0,407),(298,0,414),(351,0,518),(355,0,525),(358,0,532),(376,0,579),(380,0,584),(382,0,591),(387,0,598),(411,0,652),(416,0,659),(422,0,664),(428,0,669),(436,0,676),(438,0,681),(440,0,686),(448,0,693),(459,0,700),(461,0,705),(466,0,710),(481,0,715),(493,0,720),(496,0,727),(504,0,732),(506,0,737),(512,0,744),(518,0,751),(526,0,756),(549,0,761)])::[]
end
noncomputable def KK:PySem.Params->W.Frag:=λP=>(nat_lit 2,ob2 P)::(nat_lit 3,Oh P)::(nat_lit 20,Oi P)::(nat_lit 21,Oj P)::(nat_lit 30,Ol P)::(nat_lit 31,Om P)::(nat_lit 32,Oo P)::(nat_lit 43,Oq P)::(nat_lit 44,Ot P)::(nat_lit 55,Ou P)::(nat_lit 56,Ov P)::(nat_lit 67,Ow P)::(nat_lit 68,Ox P)::(nat_lit 83,Oz P)::(nat_lit 84,OD P)::(nat_lit 86,OJ P)::(nat_lit 87,O1 P)::(nat_lit 102,O2 P)::(nat_lit 103,O3 P)::(nat_lit 105,O4 P)::(nat_lit 106,O5 P)::(nat_lit 121,O6 P)::(nat_lit 122,O7 P)::(nat_lit 124,O8 P)::(nat_lit 125,O9 P)::(nat_lit 140,O_ P)::(nat_lit 141,Pa P)::(nat_lit 143,Pg P)::(nat_lit 144,Ph P)::(nat_lit 152,Pj P)::(nat_lit 153,Pk P)::(nat_lit 159,Pn P)::(nat_lit 160,Pq P)::(nat_lit 166,Pr P)::(nat_lit 167,Pu P)::(nat_lit 173,Px P)::(nat_lit 174,Py P)::(nat_lit 180,Pz P)::(nat_lit 181,PJ P)::(nat_lit 187,PK P)::(nat_lit 188,PL P)::(nat_lit 192,PN P)::(nat_lit 193,P0 P)::(nat_lit 199,P_ P)::(nat_lit 200,Qa P)::(nat_lit 206,Qc P)::(nat_lit 207,Qe P)::(nat_lit 213,Qf P)::(nat_lit 214,Qg P)::(nat_lit 220,Qh P)::(nat_lit 221,Qi P)::(nat_lit 227,Qj P)::(nat_lit 228,Qk P)::(nat_lit 234,Ql P)::(nat_lit 235,Qm P)::(nat_lit 239,Qn P)::(nat_lit 240,Qo P)::(nat_lit 246,Qp P)::(nat_lit 247,Qq P)::(nat_lit 253,Qs P)::(nat_lit 254,Qt P)::(nat_lit 260,Qu P)::(nat_lit 261,Qv P)::(nat_lit 267,Qw P)::(nat_lit 268,Qx P)::(nat_lit 274,Qy P)::(nat_lit 275,Qz P)::(nat_lit 281,QB P)::(nat_lit 282,QC P)::(nat_lit 288,QD P)::(nat_lit 289,QF P)::(nat_lit 295,QG P)::(nat_lit 296,QH P)::(nat_lit 302,QJ P)::(nat_lit 303,QK P)::(nat_lit 309,QL P)::(nat_lit 310,QM P)::(nat_lit 316,QS P)::(nat_lit 317,QT P)::(nat_lit 323,QV P)::(nat_lit 324,QW P)::(nat_lit 330,QX P)::(nat_lit 331,QZ P)::(nat_lit 337,Q0 P)::(nat_lit 338,Q5 P)::(nat_lit 344,Q6 P)::(nat_lit 345,Q7 P)::(nat_lit 351,Q8 P)::(nat_lit 352,Q9 P)::(nat_lit 358,Q_ P)::(nat_lit 359,Ra P)::(nat_lit 365,Rb P)::(nat_lit 366,Rc P)::(nat_lit 372,Rf P)::(nat_lit 373,Rg P)::(nat_lit 379,Rh P)::(nat_lit 380,Ri P)::(nat_lit 386,Rj P)::(nat_lit 387,Rk P)::(nat_lit 393,Rm P)::(nat_lit 394,Rn P)::(nat_lit 400,Ro P)::(nat_lit 401,Rp P)::(nat_lit 407,Rq P)::(nat_lit 408,Rr P)::(nat_lit 416,Rt P)::(nat_lit 422,Ru P)::(nat_lit 423,Rv P)::(nat_lit 429,Rw P)::(nat_lit 430,Rx P)::(nat_lit 436,Ry P)::(nat_lit 437,Rz P)::(nat_lit 443,RB P)::(nat_lit 444,RD P)::(nat_lit 450,RG P)::(nat_lit 451,RK P)::(nat_lit 457,RL P)::(nat_lit 458,RM P)::(nat_lit 464,RN P)::(nat_lit 465,RT P)::(nat_lit 471,RV P)::(nat_lit 472,RW P)::(nat_lit 478,RX P)::(nat_lit 479,RZ P)::(nat_lit 485,R0 P)::(nat_lit 486,R3 P)::(nat_lit 492,R4 P)::(nat_lit 493,R5 P)::(nat_lit 497,R6 P)::(nat_lit 498,R7 P)::(nat_lit 504,R8 P)::(nat_lit 505,R9 P)::(nat_lit 507,R_ P)::(nat_lit 508,Sd P)::(nat_lit 509,Sg P)::(nat_lit 510,Sh P)::(nat_lit 518,Sq P)::(nat_lit 519,Ss P)::(nat_lit 525,Sv P)::(nat_lit 526,Sw P)::(nat_lit 539,Sx P)::(nat_lit 540,Sy P)::(nat_lit 546,SJ P)::(nat_lit 547,SQ P)::(nat_lit 553,SX P)::(nat_lit 554,S_ P)::(nat_lit 560,Tc P)::(nat_lit 561,Td P)::(nat_lit 567,Te P)::(nat_lit 568,Tf P)::(nat_lit 570,Tg P)::(nat_lit 571,Ti P)::(nat_lit 572,Tj P)::(nat_lit 573,Tn P)::(nat_lit 579,Tp P)::(nat_lit 580,Tq P)::(nat_lit 584,Tt P)::(nat_lit 585,Tv P)::(nat_lit 591,Tw P)::(nat_lit 592,Tz P)::(nat_lit 605,TF P)::(nat_lit 606,TJ P)::(nat_lit 612,TQ P)::(nat_lit 613,TV P)::(nat_lit 619,TX P)::(nat_lit 620,TY P)::(nat_lit 626,T3 P)::(nat_lit 627,T4 P)::(nat_lit 633,T5 P)::(nat_lit 634,T6 P)::(nat_lit 640,T7 P)::(nat_lit 641,T8 P)::(nat_lit 643,T9 P)::(nat_lit 644,T_ P)::(nat_lit 652,Ua P)::(nat_lit 653,Ub P)::(nat_lit 659,Uc P)::(nat_lit 660,Ud P)::(nat_lit 664,Ue P)::(nat_lit 665,Ug P)::(nat_lit 669,Uh P)::(nat_lit 670,Ui P)::(nat_lit 676,Uj P)::(nat_lit 677,Uk P)::(nat_lit 681,Ul P)::(nat_lit 682,Um P)::(nat_lit 686,Uo P)::(nat_lit 687,Uq P)::(nat_lit 693,Ur P)::(nat_lit 694,Us P)::(nat_lit 700,Ut P)::(nat_lit 701,Uu P)::(nat_lit 705,Uv P)::(nat_lit 706,Uw P)::(nat_lit 710,Ux P)::(nat_lit 711,Uy P)::(nat_lit 715,Uz P)::(nat_lit 716,UG P)::(nat_lit 720,UJ P)::(nat_lit 721,UL P)::(nat_lit 727,UW P)::(nat_lit 728,U0 P)::(nat_lit 732,U3 P)::(nat_lit 733,U4 P)::(nat_lit 737,U5 P)::(nat_lit 738,U6 P)::(nat_lit 744,U7 P)::(nat_lit 745,U8 P)::(nat_lit 751,U9 P)::(nat_lit 752,U_ P)::(nat_lit 756,Va P)::(nat_lit 757,Vb P)::(nat_lit 761,Vc P)::(nat_lit 762,Vd P)::[]
noncomputable def oX:List Nat:=nat_lit 2::nat_lit 3::nat_lit 20::nat_lit 21::nat_lit 30::nat_lit 31::nat_lit 32::nat_lit 43::nat_lit 44::nat_lit 55::nat_lit 56::nat_lit 67::nat_lit 68::nat_lit 83::nat_lit 84::nat_lit 86::nat_lit 87::nat_lit 102::nat_lit 103::nat_lit 105::nat_lit 106::nat_lit 121::nat_lit 122::nat_lit 124::nat_lit 125::nat_lit 140::nat_lit 141::nat_lit 143::nat_lit 144::nat_lit 152::nat_lit 153::nat_lit 159::nat_lit 160::nat_lit 166::nat_lit 167::nat_lit 173::nat_lit 174::nat_lit 180::nat_lit 181::nat_lit 187::nat_lit 188::nat_lit 192::nat_lit 193::nat_lit 199::nat_lit 200::nat_lit 206::nat_lit 207::nat_lit 213::nat_lit 214::nat_lit 220::nat_lit 221::nat_lit 227::nat_lit 228::nat_lit 234::nat_lit 235::nat_lit 239::nat_lit 240::nat_lit 246::nat_lit 247::nat_lit 253::nat_lit 254::nat_lit 260::nat_lit 261::nat_lit 267::nat_lit 268::nat_lit 274::nat_lit 275::nat_lit 281::nat_lit 282::nat_lit 288::nat_lit 289::nat_lit 295::nat_lit 296::nat_lit 302::nat_lit 303::nat_lit 309::nat_lit 310::nat_lit 316::nat_lit 317::nat_lit 323::nat_lit 324::nat_lit 330::nat_lit 331::nat_lit 337::nat_lit 338::nat_lit 344::nat_lit 345::nat_lit 351::nat_lit 352::nat_lit 358::nat_lit 359::nat_lit 365::nat_lit 366::nat_lit 372::nat_lit 373::nat_lit 379::nat_lit 380::nat_lit 386::nat_lit 387::nat_lit 393::nat_lit 394::nat_lit 400::nat_lit 401::nat_lit 407::nat_lit 408::nat_lit 416::nat_lit 422::nat_lit 423::nat_lit 429::nat_lit 430::nat_lit 436::nat_lit 437::nat_lit 443::nat_lit 444::nat_lit 450::nat_lit 451::nat_lit 457::nat_lit 458::nat_lit 464::nat_lit 465::nat_lit 471::nat_lit 472::nat_lit 478::nat_lit 479::nat_lit 485::nat_lit 486::nat_lit 492::nat_lit 493::nat_lit 497::nat_lit 498::nat_lit 504::nat_lit 505::nat_lit 507::nat_lit 508::nat_lit 509::nat_lit 510::nat_lit 518::nat_lit 519::nat_lit 525::nat_lit 526::nat_lit 539::nat_lit 540::nat_lit 546::nat_lit 547::nat_lit 553::nat_lit 554::nat_lit 560::nat_lit 561::nat_lit 567::nat_lit 568::nat_lit 570::nat_lit 571::nat_lit 572::nat_lit 573::nat_lit 579::nat_lit 580::nat_lit 584::nat_lit 585::nat_lit 591::nat_lit 592::nat_lit 605::nat_lit 606::nat_lit 612::nat_lit 613::nat_lit 619::nat_lit 620::nat_lit 626::nat_lit 627::nat_lit 633::nat_lit 634::nat_lit 640::nat_lit 641::nat_lit 643::nat_lit 644::nat_lit 652::nat_lit 653::nat_lit 659::nat_lit 660::nat_lit 664::nat_lit 665::nat_lit 669::nat_lit 670::nat_lit 676::nat_lit 677::nat_lit 681::nat_lit 682::nat_lit 686::nat_lit 687::nat_lit 693::nat_lit 694::nat_lit 700::nat_lit 701::nat_lit 705::nat_lit 706::nat_lit 710::nat_lit 711::nat_lit 715::nat_lit 716::nat_lit 720::nat_lit 721::nat_lit 727::nat_lit 728::nat_lit 732::nat_lit 733::nat_lit 737::nat_lit 738::nat_lit 744::nat_lit 745::nat_lit 751::nat_lit 752::nat_lit 756::nat_lit 757::nat_lit 761::nat_lit 762::[]
noncomputable def Ve (P:PySem.Params):W.BT:=El 11 (acG P) ((Em P).ins 3 (mo3 P))
noncomputable def acI (P:PySem.Params):W.BT:=N_ (acH P) (El 332 (endL P) (Ve P))
noncomputable def qv:PySem.Program:={ PySem.Challenge.pw_putback_k84_desk_deeds with main:={ (PySem.Challenge.pw_putback_k84_desk_deeds).main with body:=top 0::top 2::top 3::top 4::top 5::top 6::top 7::top 8::top 9::top 11::top 12::top 13::top 14::top 16::top 17::top 18::top 19::top 20::top 21::top 22::top 23::top 24::top 25::top 26::top 27::top 28::top 29::top 31::top 32::top 33::top 34::top 35::top 36::top 37::top 38::top 39::top 40::top 41::top 42::top 43::top 44::top 45::top 46::top 47::top 48::top 50::top 51::top 52::top 54::top 55::top 56::top 58::top 59::top 60::top 61::top 63::top 64::top 65::top 66::top 67::top 68::top 69::top 70::top 71::top 72::top 73::top 74::top 75::top 76::top 77::top 78::top 79::top 80::top 81::top 82::[] } }
theorem qt (P:PySem.Params):oX=(KK P).map (·.1):=by kernel_rfl
noncomputable def Vf (w:PySem.World) (os:PySem.OsState):W.SharedT:=⟨Ve w.params,332,(W.boot_heap w.params).life,#[],W.boot_drawn,629,os⟩
noncomputable def qu (w:PySem.World) (os:PySem.OsState):W.SharedT:=⟨acI w.params,763,(W.boot_heap w.params).life,#[],W.boot_drawn,1212,os⟩
noncomputable def Eo:List PySem.Stmt:=W.behindTheImports (W.OpenLaw.row PySem.Challenge.rw_putback_k84_desk_deeds).prog
noncomputable def zp:PySem.Env:={ scope:=((W.OpenLaw.row PySem.Challenge.rw_putback_k84_desk_deeds).prog).main.scope,locals:=PySem.mainNs,globals:=PySem.mainNs,cells:=[],code:=.ref 13,frame:=some 14 }
noncomputable def vI:PySem.Code:=.body (W.behindTheImports (W.OpenLaw.row PySem.Challenge.rw_putback_k84_desk_deeds).prog) zp
open PySem PySem.W PyProof.Rows in
theorem acJ:∀w os,zj (W.OpenLaw.row PySem.Challenge.rw_putback_k84_desk_deeds).prog w 11 (some (.ref 6)) zp vI ⟨0,0,0,0⟩ (Eo.take 40) 12 1 5000 (zm w os)=some (⟨kE kJ (.body (behindTheImports (W.OpenLaw.row PySem.Challenge.rw_putback_k84_desk_deeds).prog) zp),vI,⟨0,0,0,0⟩,[topFrame ⟨0,0,0,0⟩]⟩,vI,vI,Vf w os,⟨208,0,212,52⟩):=by
 intro w os
 kernel_rfl
open PySem PySem.W PyProof.Rows in
theorem acK:∀w os,qp (W.OpenLaw.row PySem.Challenge.rw_putback_k84_desk_deeds).prog w 11 (some (.ref 6)) 6000 (Vf w os) (restOf (Eo.drop 40) zp vI ⟨208,0,212,52⟩ [topFrame ⟨0,0,0,0⟩])=some (qu w os):=by
 intro w os
 kernel_rfl
open PySem PySem.W PyProof.Rows in
theorem acL:∀w os,(staticsOk (importedModules ((W.OpenLaw.row PySem.Challenge.rw_putback_k84_desk_deeds).prog).main.body) (boot_heap w.params) (qu w os).abs.heap && namesBound (W.OpenLaw.row PySem.Challenge.rw_putback_k84_desk_deeds).prog (qu w os).abs.heap && gensDone (qu w os).abs && laidKept (boot_heap w.params) (qu w os).abs.heap)=true:=by
 intro w os
 kernel_rfl
open PySem PySem.W PyProof.Rows in
theorem acM:∀w os,seenQ qv [] (importedModules ((W.OpenLaw.row PySem.Challenge.rw_putback_k84_desk_deeds).prog).main.body) (λs=>xlAt qv [] s && recOk (RowW.records (W.OpenRow.toRowW (W.OpenLaw.row PySem.Challenge.rw_putback_k84_desk_deeds))) s) true (qu w os).abs=openGood qv []:=by
 intro w os
 kernel_rfl
open PySem PySem.W PyProof.Rows in
theorem acN:∀w os,Hook.obs (W.kmHook Pb.KK Pb.oX Pb.qt [162,256,703]) (qu w os).abs=Hook.val (W.kmHook Pb.KK Pb.oX Pb.qt [162,256,703]) w:=by
 intro w os
 kernel_rfl
open PySem PySem.W PyProof.Rows in
theorem said:PySem.Challenge.rw_putback_k84_desk_deeds.wellSaid=true:=by
 delta OpenLaw.wellSaid OpenRow.wellSaid OpenRow.partSaid looksOpen
 repeat' (with_reducible refine look_both ?_ ?_)
 all_goals kernel_rfl
end Pb
namespace L2
open PySem PySem.Spec PyProof.Rows
noncomputable abbrev Key:=Sum Int Str
noncomputable def oY:Key->Value->Bool
 | .inl k,v=>Value.isInt k v
 | .inr x,v=>Value.isStrOf x v
noncomputable def acO (w:World):Key->Int
 | .inl k=>hashInt k
 | .inr x=>hashStr w x
theorem lQ:∀{k:Key}{v:Value},oY k v=true->(∃i t,k=Sum.inl i/\v=Value.int i t)\/(∃x t,k=Sum.inr x/\v=Value.str x t)
 | .inl i,v,h=>by
   obtain⟨t,e⟩:=Value.isInt_shape (k:=i) (v:=v) h
   exact .inl ⟨i,t,rfl,e⟩
 | .inr x,v,h=>by
   obtain⟨t,e⟩:=Value.isStrOf_shape (x:=x) (v:=v) h
   exact .inr ⟨x,t,rfl,e⟩
theorem acP (i:Int)(t:Tok):oY (.inl i) (.int i t)=true:=by simp[oY,Value.isInt]
theorem Vg (x:Str)(t:Tok):oY (.inr x) (.str x t)=true:=by simp[oY,Value.isStrOf]
theorem acQ (a b:Int):decide ((Sum.inl a:Key)=Sum.inl b)=(a == b):=by
 by_cases e:a=b
 . subst e;simp
 . have h:¬(Sum.inl a:Key)=Sum.inl b:=λq=>e (Sum.inl.inj q)
   rw[decide_eq_false h]
   exact(beq_eq_false_iff_ne.mpr e).symm
theorem acR (a b:Str):decide ((Sum.inr a:Key)=Sum.inr b)=decide (a=b):=by
 by_cases e:a=b
 . subst e;simp
 . have h:¬(Sum.inr a:Key)=Sum.inr b:=λq=>e (Sum.inr.inj q)
   rw[decide_eq_false h,decide_eq_false e]
theorem acS (a:Int)(b:Str):decide ((Sum.inl a:Key)=Sum.inr b)=false:=decide_eq_false (λq=>nomatch q)
theorem acT (a:Str)(b:Int):decide ((Sum.inr a:Key)=Sum.inl b)=false:=decide_eq_false (λq=>nomatch q)
noncomputable def cJ (prog:Program) (w:World):PySem.KeyKind prog w Key where
 is:=oY
 hash:=acO w
 inj:=λv a b ha hb=>by
  rcases lQ ha with⟨i,t,rfl,rfl⟩|⟨x,t,rfl,rfl⟩
  . rcases lQ hb with⟨j,u,rfl,e⟩|⟨y,u,rfl,e⟩
    . injection e with e1 _;rw[e1]
    . exact nomatch e
  . rcases lQ hb with⟨j,u,rfl,e⟩|⟨y,u,rfl,e⟩
    . exact nomatch e
    . injection e with e1 _;rw[e1]
 byValue:=λk v h=>by
  rcases lQ h with⟨i,t,rfl,rfl⟩|⟨x,t,rfl,rfl⟩ <;> rfl
 pyHash:=λhv h=>by
  rcases lQ hv with⟨i,t,rfl,rfl⟩|⟨x,t,rfl,rfl⟩
  . exact wpAny_pyHash_int h
  . exact wpAny_pyHash_str h
 eqBool:=λhu hv h=>by
  rcases lQ hu with⟨i,t,rfl,rfl⟩|⟨x,t,rfl,rfl⟩
  . rcases lQ hv with⟨j,u,rfl,rfl⟩|⟨y,u,rfl,rfl⟩
    . rw[acQ] at h;exact wpAny_eqBool_int h
    . rw[acS] at h;exact SeqAt.EqAt.int_str i t y u _ _ _ _ h
  . rcases lQ hv with⟨j,u,rfl,rfl⟩|⟨y,u,rfl,rfl⟩
    . rw[acT] at h;exact SeqAt.EqAt.str_int x t j u _ _ _ _ h
    . rw[acR] at h;exact wpAny_eqBool_str h
 «strs»:=λk x t v h=>by
  rcases lQ h with⟨i,u,rfl,e⟩|⟨y,u,rfl,e⟩
  . exact nomatch e
  . injection e with e1 _
    subst e1
    cases v <;> rfl
theorem acU (prog:Program)(w:World)(i:Int)(t:Tok):(cJ prog w).is (.inl i) (.int i t)=true:=acP i t
theorem acV (prog:Program)(w:World)(x:Str)(t:Tok):(cJ prog w).is (.inr x) (.str x t)=true:=Vg x t
inductive V where
 |non|bl (b:Bool)|int (i:Int)|str (x:Str)|jL (b:Array UInt8)|flt (b:UInt64)|ref (a:Addr)|ty (n:String)
 deriving DecidableEq
noncomputable def RelV:V->Value->Prop
 | .non,u=>u=Value.none
 | .bl b,u=>u=Value.bool b
 | .int i,u=>∃t,u=Value.int i t
 | .str x,u=>∃t,u=Value.str x t
 | .jL b,u=>∃t,u=Value.bytes b t
 | .flt b,u=>∃t,u=Value.float b t
 | .ref a,u=>u=Value.ref a
 | .ty n,u=>u=Value.type n
noncomputable abbrev Vals:List V->List Value->Prop:=Paired RelV
theorem Vals.length {xs:List V}{us:List Value}(r:Vals xs us):xs.length=us.length:=Paired.length r
theorem Vals.get:∀{xs:List V}{us:List Value}{i:Nat}{x:V},Vals xs us->xs[i]? =some x->∃u,us[i]? =some u/\RelV x u
 |_,_,_,_,.nil,e=>by simp at e
 |_,_,0,_,.cons r _,e=>by simp at e;subst e;exact⟨_,rfl,r⟩
 |_,_,i+1,x,.cons _ t,e=>by
  obtain⟨u,h1,h2⟩:=Vals.get (i:=i) (x:=x) t (by simpa using e)
  exact⟨u,by simpa using h1,h2⟩
theorem Vals.set {x:V}{u:Value}(r:RelV x u):∀{xs:List V}{us:List Value}(i:Nat),Vals xs us->Vals (xs.set i x) (us.set i u)
 |_,_,_,.nil=>.nil
 |_,_,0,.cons _ t=>.cons r t
 |_,_,i+1,.cons q t=>.cons q (Vals.set r i t)
theorem Vals.append:∀{xs ys:List V}{us ws:List Value},Vals xs us->Vals ys ws->Vals (xs++ys) (us++ws)
 |_,_,_,_,.nil,s=>s
 |_,_,_,_,.cons r t,s=>.cons r (Vals.append t s)
theorem Vals.take:∀{xs:List V}{us:List Value}(n:Nat),Vals xs us->Vals (xs.take n) (us.take n)
 |_,_,0,_=>.nil
 |_,_,_+1,.nil=>.nil
 |_,_,n+1,.cons r t=>.cons r (Vals.take n t)
theorem Vals.drop:∀{xs:List V}{us:List Value}(n:Nat),Vals xs us->Vals (xs.drop n) (us.drop n)
 |_,_,0,r=>r
 |_,_,_+1,.nil=>.nil
 |_,_,n+1,.cons _ t=>Vals.drop n t
theorem Vals.none_of:∀{xs:List V}{us:List Value}{i:Nat},Vals xs us->xs[i]? =none->us[i]? =none:=λ{xs us i} r e=>by
 have h1:=r.length
 have h2:xs.length<=i:=List.getElem?_eq_none_iff.mp e
 exact List.getElem?_eq_none_iff.mpr (by omega)
noncomputable def gK:Option V->Option Value->Prop
 |some v,some u=>RelV v u
 |none,none=>True
 |_,_=>False
noncomputable def KV {κ:Type}:List (κ × V)->List (κ × Value)->Prop:=Paired λ(p:κ × V) (q:κ × Value)=>p.1=q.1/\RelV p.2 q.2
noncomputable def kV:Key->V
 | .inl i=>.int i
 | .inr x=>.str x
inductive HO where
 |lst (xs:List V)
 |tup (xs:List V)
 |dK (kvs:List (Key × V))|dT (kvs:List (List Key × V))
 |set (S:Int->Bool) (n:Nat)
 |ins (C dx:Addr) (fs:List (Str × V))
 |own (x:Addr)
 |xd (fs:List (Str × V))
 |met (f x:Addr)
 |rng (lo hi:Int)
 |cg (o:Obj) (u:HO)
 |dF (ps:Array Value)
 |ext (φ:Heap->Prop)
noncomputable abbrev Hp:=Addr->Option HO
noncomputable def upd (H:Hp) (a:Addr) (o:HO):Hp:=λb=>if b=a then some o else H b
theorem aF {H:Hp}{a:Addr}{o:HO}:upd H a o a=some o:=by unfold upd;rw[if_pos rfl]
theorem au {H:Hp}{a b:Addr}{o:HO}(h:b≠a):upd H a o b=H b:=by unfold upd;rw[if_neg h]
theorem kO {H:Hp}{a b:Addr}{o u:HO}(h:H a=some o)(h':H b=some u)(d:o≠u):a≠b:=by
 intro e;subst e;rw[h] at h';exact d (Option.some.inj h')
theorem aO {H:Hp}{a b:Addr}{o:HO}(h:H a=some o)(h':H b=none):a≠b:=by
 intro e;subst e;rw[h] at h';cases h'
section
variable (P:Program)(w:World)
noncomputable def cO (H:Hp) (h:Heap) (a:Addr):HO->Prop
 | .lst xs=>xs.length<=sizeLine/\∃(its:List Value) (n:Nat),Vals xs its/\h.get? a=some { cls:=.type "list",data:=.seq its.toArray n }
 | .tup xs=>xs.length<=sizeLine/\∃its:List Value,Vals xs its/\IsTup h a its.toArray
 | .dK kvs=>kvs.length<=sizeLine/\(a == sysModules)=false/\∃vs,KV kvs vs/\h.DictOf (cJ P w) a vs
 | .dT kvs=>kvs.length<=sizeLine/\(a == sysModules)=false/\∃xs:List (List Key × Addr × Value),
    Paired (λ(p:List Key × V) (q:List Key × Addr × Value)=>p.1=q.1/\H q.2.1=some (.tup (p.1.map kV))/\RelV p.2 q.2.2) kvs xs/\
    ∃o es ep,h.get? a=some o/\o.ExactDict/\o.data=.dict es ep/\es.toList=xs.map (entryOfKey (tupleKind (cJ P w)))/\(xs.map (·.1)).Nodup
 | .set S n=>h.SetOf (intKind P w) a S n
 | .ins C dx fs=>H dx=some (.own a)/\fs.length<=1000/\dx≠a/\h.get? a=some (W.instObj C dx)/\
    ∃mA,h.Ns1 dx mA/\(∀f,gK (fs.lookup f) (mA f))/\PySem.Within mA (fs.map (·.1))
 | .own _=>∃o,h.get? a=some o
 | .xd fs=>∃mA,h.Ns1 a mA/\∀f,gK (fs.lookup f) (mA f)
 | .rng lo hi=>∃t u v,h.get? a=some { cls:=.type "range",data:=.fields #[.int lo t,.int hi u,.int 1 v] }
 | .cg o u=>h.get? a=some o/\cO H h a u
 | .dF ps=>h.get? a=some { cls:=.none,data:=.fields ps }
 | .met f x=>h.get? a=some (W.methodObj (.ref f) (.ref x))
 | .ext φ=>φ h/\(∃o,h.get? a=some o)/\∀h1 h2:Heap,φ h1->(∀o,h1.get? a=some o->h2.get? a=some o)->φ h2
noncomputable def cC (H:Hp) (h:Heap):Prop:=∀a o,H a=some o->cO P w H h a o
end
section
variable {P:Program}{w:World}{H H':Hp}{h h':Heap}{a:Addr}{o:HO}
theorem cO.lt (x:cO P w H h a o):a<h.objs.size:=by
 cases o with
 |lst xs=>obtain⟨_,_,_,_,e⟩:=x;exact Q01 e
 |tup xs=>obtain⟨_,_,_,p⟩:=x;exact p.lt
 |dK kvs=>obtain⟨_,_,_,_,o,_,_,e,_⟩:=x;exact Q01 e
 |dT kvs=>obtain⟨_,_,_,_,o,_,_,e,_⟩:=x;exact Q01 e
 |set S n=>obtain⟨o,_,_,_,e,_⟩:=x;exact Q01 e
 |ins C dx fs=>obtain⟨_,_,_,e,_⟩:=x;exact Q01 e
 |own y=>obtain⟨_,e⟩:=x;exact Q01 e
 |xd fs=>obtain⟨_,⟨_,_,_,e,_⟩,_⟩:=x;exact Q01 e
 |rng lo hi=>obtain⟨_,_,_,e⟩:=x;exact Q01 e
 |cg ob u=>obtain⟨e,_⟩:=x;exact Q01 e
 |dF ps=>exact Q01 (show h.get? a=some _ from x)
 |met f y=>exact Q01 (show h.get? a=some _ from x)
 |ext φ=>obtain⟨_,⟨_,e⟩,_⟩:=x;exact Q01 e
theorem Paired.Ep {α β:Type}{F G:α->β->Prop}:∀{l₁:List α}{l₂:List β},Paired F l₁ l₂->(∀a b,F a b->G a b)->Paired G l₁ l₂
 |_,_,.nil,_=>.nil
 |_,_,.cons r t,f=>.cons (f _ _ r) (Paired.Ep t f)
theorem cO.stay (x:cO P w H h a o)(k:∀b u,(b=a\/H b=some (.own a))->h.get? b=some u->h'.get? b=some u)
 (ho:∀b,H b=some (.own a)->H' b=some (.own a)) (ht:∀b xs,H b=some (.tup xs)->H' b=some (.tup xs)):cO P w H' h' a o:=by
 induction o with
 |lst xs=>obtain⟨z,its,n,r,e⟩:=x;exact⟨z,its,n,r,k _ _ (.inl rfl) e⟩
 |tup xs=>obtain⟨z,its,r,ob,e,c⟩:=x;exact⟨z,its,r,ob,k _ _ (.inl rfl) e,c⟩
 |dK kvs=>obtain⟨z,y,vs,r,ob,es,ep,e,c⟩:=x;exact⟨z,y,vs,r,ob,es,ep,k _ _ (.inl rfl) e,c⟩
 |dT kvs=>
  obtain⟨z,y,xs,r,ob,es,ep,e,c⟩:=x
  exact⟨z,y,xs,Paired.Ep r λp q z=>⟨z.1,ht _ _ z.2.1,z.2.2⟩,ob,es,ep,k _ _ (.inl rfl) e,c⟩
 |set S n=>obtain⟨ob,es,ep,t,e,c⟩:=x;exact⟨ob,es,ep,t,k _ _ (.inl rfl) e,c⟩
 |ins C dx fs=>
  obtain⟨d,z,ne,e,mA,⟨od,es,ep,e2,c⟩,r⟩:=x
  exact⟨ho _ d,z,ne,k _ _ (.inl rfl) e,mA,⟨od,es,ep,k _ _ (.inr d) e2,c⟩,r⟩
 |own y=>obtain⟨ob,e⟩:=x;exact⟨ob,k _ _ (.inl rfl) e⟩
 |xd fs=>obtain⟨mA,⟨od,es,ep,e,c⟩,r⟩:=x;exact⟨mA,⟨od,es,ep,k _ _ (.inl rfl) e,c⟩,r⟩
 |rng lo hi=>obtain⟨t,u,v,e⟩:=x;exact⟨t,u,v,k _ _ (.inl rfl) e⟩
 |cg ob u ih=>obtain⟨e,q⟩:=x;exact⟨k _ _ (.inl rfl) e,ih q⟩
 |dF ps=>
  have e:h.get? a=some { cls:=.none,data:=.fields ps }:=x
  show h'.get? a=some { cls:=.none,data:=.fields ps }
  exact k a _ (.inl rfl) e
 |met f y=>
  have e:h.get? a=some (W.methodObj (.ref f) (.ref y)):=x
  show h'.get? a=some (W.methodObj (.ref f) (.ref y))
  exact k a _ (.inl rfl) e
 |ext φ=>obtain⟨p,⟨o,e⟩,st⟩:=x;exact⟨st _ _ p λo q=>k _ _ (.inl rfl) q,⟨o,k _ _ (.inl rfl) e⟩,st⟩
theorem cC.lt (x:cC P w H h)(e:H a=some o):a<h.objs.size:=(x a o e).lt
theorem cC.fresh (x:cC P w H h)(e:h.objs.size<=a):H a=none:=by
 cases q:H a with
 |none=>rfl
 |some u=>exact absurd (Q0a (x.lt q) e) (Q0l _)
theorem cC.kept (x:cC P w H h)(k:∀b u,h.get? b=some u->h'.get? b=some u):cC P w H h':=λa o e=>
 (x a o e).stay (λb u _ q=>k b u q) (λ_ q=>q) λ_ _ q=>q
theorem cC.laid (x:cC P w H h)(k:∀b u,h.get? b=some u->h'.get? b=some u)(hp:h.objs.size<=a)(new:cO P w (upd H a o) h' a o):cC P w (upd H a o) h':=λb u e=>by
 have hn:=x.fresh hp
 by_cases hb:b=a
 . subst hb;rw[aF] at e;cases e;exact new
 . rw[au hb] at e
   exact(x b u e).stay (λc v _ q=>k c v q) (λc q=>by rw[au (aO q hn)];exact q) λc xs q=>by rw[au (aO q hn)];exact q
end
noncomputable def Rd (H:Hp) (a:Addr) (u:HO):Prop:=H a=some u\/∃o,H a=some (.cg o u)
theorem Rd.ok {P:Program}{w:World}{H:Hp}{h:Heap}{a:Addr}{u:HO}(r:Rd H a u)(x:cC P w H h):cO P w H h a u:=by
 rcases r with r|⟨o,r⟩
 . exact x a u r
 . obtain⟨_,q⟩:=x a _ r
   exact q
noncomputable def vJ:Option HO->Prop
 |some (.lst _)=>True
 |some (.dK _)=>True
 |some (.dT _)=>True
 |some (.set _ _)=>True
 |some (.ins _ _ _)=>True
 |some (.ext _)=>True
 |_=>False
section
variable {P:Program}{w:World}{H:Hp}{h h':Heap}{x e:Addr}{o':HO}
theorem cC.write (ok:cC P w H h)(mu:vJ (H x))(he:e=x\/H e=some (.own x))(k:∀b u,b≠e->h.get? b=some u->h'.get? b=some u)(heo:∃u,h'.get? e=some u)
 (new:cO P w (upd H x o') h' x o'):cC P w (upd H x o') h':=λb u q=>by
 have Vh:∀c y,H c=some (.own y)->c≠x:=λc y r z=>by subst z;rw[r] at mu;exact mu
 have acW:∀c xs,H c=some (.tup xs)->c≠x:=λc xs r z=>by subst z;rw[r] at mu;exact mu
 by_cases hb:b=x
 . subst hb;rw[aF] at q;cases q;exact new
 . rw[au hb] at q
   by_cases hbe:b=e
   . have q':H b=some (.own x):=by
      rcases he with z|z
      . exact absurd (hbe.trans z) hb
      . rw[hbe];exact z
     rw[q] at q';cases q'
     obtain⟨v,hv⟩:=heo
     exact⟨v,by rw[hbe];exact hv⟩
   . refine(ok b u q).stay (λc v hc r=>k c v ?_ r) (λc r=>by rw[au (Vh c b r)];exact r) λc xs r=>by rw[au (acW c xs r)];exact r
     rcases hc with rfl|hc
     . exact hbe
     . rintro rfl
       rcases he with z|z
       . exact Vh c b hc z
       . rw[hc] at z;cases z;exact hb rfl
end
structure Un (fs ex:List Addr) (H H':Hp) (h h':Heap):Prop where
 keep:∀b o,h.get? b=some o->H b=none->b ∉ fs->b ∉ ex->h'.get? b=some o
 slot:∀b o,h.get? b=some o->H b=none->b∈fs->b ∉ ex->∃sl,h'.get? b=some { o with slots:=sl }
 free:∀b o,h.get? b=some o->H b=none->b ∉ ex->H' b=none
 there:∀b o,h.get? b=some o->b ∉ ex->∃o',h'.get? b=some o'
 tups:∀b xs,H b=some (.tup xs)->H' b=some (.tup xs)
 gW:∀b o u,H b=some (.cg o u)->H' b=some (.cg o u)
 iy:∀b ps,H b=some (.dF ps)->∃more,H' b=some (.dF (ps++more))
section
variable {fs fs' ex ex':List Addr}{H H1 H2:Hp}{h h1 h2 h':Heap}{a x e:Addr}{o:HO}
theorem Un.any (u:Un fs ex H H1 h h1){b:Addr}{ob:Obj}(q:h.get? b=some ob)(n:H b=none)(hx:b ∉ ex):∃sl,h1.get? b=some { ob with slots:=sl }:=by
 by_cases hb:b∈fs
 . exact u.slot b ob q n hb hx
 . exact⟨ob.slots,u.keep b ob q n hb hx⟩
theorem Un.kept (k:∀b u,h.get? b=some u->h'.get? b=some u):Un fs ex H H h h':=
 ⟨λb ob q _ _ _=>k b ob q,λb ob q _ _ _=>⟨ob.slots,k b ob q⟩,λ_ _ _ n _=>n,λb ob q _=>⟨ob,k b ob q⟩,λ_ _ q=>q,λ_ _ _ q=>q,λ_ ps q=>⟨#[],by rw[q];simp⟩⟩
theorem Un.refl:Un fs ex H H h h:=Un.kept λ_ _ q=>q
theorem Un.laid (k:∀b u,h.get? b=some u->h'.get? b=some u)(hp:h.objs.size<=a)(hn:H a=none):Un fs ex H (upd H a o) h h' where
 keep:=λb u q _ _ _=>k b u q
 slot:=λb u q _ _ _=>⟨u.slots,k b u q⟩
 free:=λb u q n _=>by rw[au (Q08 (Q0a (Q01 q) hp))];exact n
 there:=λb u q _=>⟨u,k b u q⟩
 tups:=λb xs q=>by rw[au (aO q hn)];exact q
 gW:=λb u xs q=>by rw[au (aO q hn)];exact q
 iy:=λb ps q=>⟨#[],by rw[au (aO q hn),q];simp⟩
theorem Un.write (mu:vJ (H x))(he:e=x\/H e=some (.own x))(k:∀b u,b≠e->h.get? b=some u->h'.get? b=some u)(heo:∃u,h'.get? e=some u):Un fs ex H (upd H x o) h h':=by
 have hx:∀b,H b=none->b≠x:=λb n z=>by subst z;rw[n] at mu;exact mu
 have hb:∀b,H b=none->b≠e:=λb n z=>by
  subst z
  rcases he with r|r
  . exact hx b n r
  . rw[n] at r;cases r
 have hm:∀b u,H b=some u->¬vJ (some u)->b≠x:=λb u q nm z=>by subst z;rw[q] at mu;exact nm mu
 refine⟨λb u q n _ _=>k b u (hb b n) q,λb u q n _ _=>⟨u.slots,k b u (hb b n) q⟩,λb u q n _=>by rw[au (hx b n)];exact n,λb u q _=>?_,
  λb xs q=>by rw[au (hm b _ q λz=>z)];exact q,λb u xs q=>by rw[au (hm b _ q λz=>z)];exact q,λb ps q=>⟨#[],by rw[au (hm b _ q λz=>z),q];simp⟩⟩
 by_cases hbe:b=e
 . subst hbe;exact heo
 . exact⟨u,k b u hbe q⟩
end
noncomputable def zq (h:Heap) (H:Hp):List Addr:=(List.range h.objs.size).filter λa=>(H a).isSome
noncomputable def lR (h:Heap) (H:Hp):Heap:=W.hideAll h (zq h H)
theorem acX (h:Heap)(H:Hp):(lR h H).objs.size=h.objs.size:=W.hideAll_size _ _
theorem acY {h:Heap}{H:Hp}{b:Addr}{o:Obj}(e:h.get? b=some o)(n:H b=none):(lR h H).get? b=some o:=
 W.hideAll_get _ e λhm=>by
   have q:(H b).isSome=true:=(List.mem_filter.mp hm).2
   rw[n] at q;simp at q
theorem acZ {h:Heap}{H:Hp}{b:Addr}{o:Obj}(e:(lR h H).get? b=some o):h.get? b=some o/\H b=none:=by
 have e':h.get? b=some o:=W.of_hideAll (zq h H) e
 refine⟨e',?_⟩
 cases q:H b with
 |none=>rfl
 |some x=>
  have hm:b∈zq h H:=List.mem_filter.mpr ⟨List.mem_range.mpr (Q01 e'),by simp[q]⟩
  have z:(lR h H).get? b=none:=W.hideAll_none (zq h H) hm
  rw[z] at e;cases e
structure Mod (K:W.Frag) (mg:Str->Option Value) (base:Heap):Prop where
 qw:K.In base
 glob:base.Ns mainGlobals mg
 blt:∃mb,base.Ns builtinsNs mb/\∀x:Str,x≠"__name__"->mb x=bootBuiltins x
 nolimit:base.NoLimit
structure Cx where
 prog:Program
 w:World
 K:W.Frag
 mg:Str->Option Value
 base:Heap
 A:Around
 N:List Str
 s₀:Shared
 H₀:Hp
 env:Env
 outer:List Env
 stack:List Env
 ex:List Addr
 fn:Str->Bool
 calm:Bool
 pn:List (Addr × Obj)
 xe:Value->Shared->Prop
noncomputable def frs (l:List Env):List Addr:=l.filterMap (·.frame)
noncomputable abbrev Cx.fs (X:Cx):List Addr:=frs X.outer
noncomputable def zu (sc:Scope) (x:Str):Prop:=sc.names.lookup x=some .local\/sc.names.lookup x=some .cell\/sc.names.lookup x=some .free
noncomputable def Loc (sc:Scope) (x:Str):Prop:=sc.names.lookup x=some .local\/sc.names.lookup x=some .cell
noncomputable def Look (env:Env) (h:Heap) (m:Str->Option Value) (x:Str) (u:Value):Prop:=
 (env.kindOf x=some .local/\m x=some u)\/((env.kindOf x=some .cell\/env.kindOf x=some .free)/\∃c,env.cells.lookup x=some c/\h.IsCell c (some u))
structure Cx.Ok (X:Cx):Prop where
 mod:Mod X.K X.mg X.base
 kind:X.env.scope.kind=.function
 glob:X.env.globals=mainGlobals
 blt:X.env.builtins=builtinsNs
 above:X.s₀.heap.objs.size<=X.env.locals
 inj:∀x y c,X.env.cells.lookup x=some c->X.env.cells.lookup y=some c->x=y
 has:∀x,(X.env.kindOf x=some .cell\/X.env.kindOf x=some .free)->∃c,X.env.cells.lookup x=some c
 cab:∀x c,X.fn x=true->X.env.cells.lookup x=some c->X.s₀.heap.objs.size<=c
 hd:X.calm=true->X.A.handled=none
 frames:X.A.frames=some X.stack
 stk:X.stack=X.outer\/(X.stack=X.env::X.outer/\X.env.frame=some X.env.locals)
 vK:∀b∈X.ex,b≠X.env.locals/\∀x c,X.env.cells.lookup x=some c->c≠b
 bs:∀b o,X.base.get? b=some o->X.s₀.heap.get? b=some o/\X.H₀ b=none
 jm:X.base.objs.size<=X.s₀.heap.objs.size
 oZ:∀b o,X.base.get? b=some o->b ∉ X.ex
 qy:∀b∈X.ex,b ∉ X.fs
 iz:X.s₀.heap.FunFrames X.base X.outer
 lU:∀b∈X.fs,X.H₀ b=none
structure Inv (X:Cx) (pins:List (Addr × Obj)) (σ:List (Option V)) (H:Hp) (s:Shared):Prop where
 ok:X.Ok
 os:s.os=X.s₀.os
 bare:AllBare s.gens
 base:Un X.fs X.ex X.H₀ H X.s₀.heap s.heap
 loc:∃m,s.heap.Ns X.env.locals m/\∀(i:Nat) (x:Str) (v:V),X.N[i]? =some x->σ[i]? =some (some v)->zu X.env.scope x->∃u,RelV v u/\Look X.env s.heap m x u
 cell:∀x c,X.env.cells.lookup x=some c->∃v,s.heap.IsCell c v
 free:H X.env.locals=none
 fQ:∀x c,X.env.cells.lookup x=some c->H c=none
 pin:∀p∈X.pn++pins,s.heap.get? p.1=some p.2/\H p.1=none/\p.1≠X.env.locals/\p.1 ∉ X.fs/\∀v,p.2.data≠ .cell v
 hok:cC X.prog X.w H s.heap
 len:σ.length=X.N.length
section
variable {X:Cx}{pins:List (Addr × Obj)}{σ:List (Option V)}{H H':Hp}{s:Shared}{h':Heap}
theorem Cx.Ok.ac0 (ok:X.Ok){b:Addr}{o:Obj}(e:X.base.get? b=some o):b ∉ X.fs:=λhb=>by
 have:=(ok.iz.mem hb).1
 rw[e] at this;cases this
theorem Inv.bs (I:Inv X pins σ H s):∀b o,X.base.get? b=some o->s.heap.get? b=some o/\H b=none:=λb o e=>
 ⟨I.base.keep b o (I.ok.bs b o e).1 (I.ok.bs b o e).2 (I.ok.ac0 e) (I.ok.oZ b o e),I.base.free b o (I.ok.bs b o e).1 (I.ok.bs b o e).2 (I.ok.oZ b o e)⟩
theorem Inv.bk (I:Inv X pins σ H s):∀b o,X.base.get? b=some o->s.heap.get? b=some o:=λb o e=>(I.bs b o e).1
theorem Inv.mod (I:Inv X pins σ H s):Mod X.K X.mg X.base:=I.ok.mod
theorem Inv.cP (I:Inv X pins σ H s):X.K.In s.heap:=I.ok.mod.qw.keeps I.bk
theorem Inv.nolimit (I:Inv X pins σ H s):s.heap.NoLimit:=I.ok.mod.nolimit.keeps I.bk
theorem Inv.lt (I:Inv X pins σ H s):X.env.locals<s.heap.objs.size:=let⟨_,hn,_⟩:=I.loc;hn.lt
theorem Inv.sz (I:Inv X pins σ H s):X.s₀.heap.objs.size<=s.heap.objs.size:=Q0e I.ok.above (Q0s I.lt)
theorem Inv.sU (I:Inv X pins σ H s){a:Addr}(h:s.heap.objs.size<=a):a ∉ X.fs:=λhb=>by
 obtain⟨_,o,ho,_⟩:=I.ok.iz.mem hb
 exact absurd (Q0a (Q01 ho) (Q0e I.sz h)) (Q0l _)
theorem Inv.kW (I:Inv X pins σ H s):∀x c,X.env.cells.lookup x=some c->c≠X.env.locals:=λx c e z=>by
 obtain⟨v,o,ho,hd⟩:=I.cell x c e
 obtain⟨m,⟨o',es,ep,ho',hd',_⟩,_⟩:=I.loc
 rw[z,ho'] at ho;cases ho;rw[hd'] at hd;cases hd
theorem Inv.iz (I:Inv X pins σ H s):s.heap.FunFrames X.base X.outer:=by
 have all:∀(l:List Env),(∀b∈frs l,b∈X.fs)->X.s₀.heap.FunFrames X.base l->s.heap.FunFrames X.base l:=by
  intro l
  induction l with
  |nil=>intro _ _;trivial
  |cons env r ih=>
   intro hs hl
   obtain⟨hk,⟨L,o,hf,hn,ho,hd⟩,hr⟩:=hl
   have hL:L∈X.fs:=hs L (by unfold frs;rw[Q1z,hf];exact Q0f)
   obtain⟨sl,e⟩:=I.base.slot L o ho (I.ok.lU L hL) hL λz=>I.ok.qy L z hL
   exact⟨hk,⟨L,_,hf,hn,e,hd⟩,ih (λb hb=>hs b (by unfold frs;rw[Q1z,hf];exact Q0j _ hb)) hr⟩
 exact all X.outer (λ_ hb=>hb) I.ok.iz
theorem Inv.stack (I:Inv X pins σ H s):s.heap.FunFrames X.base X.stack:=by
 rcases I.ok.stk with e|⟨e,hf⟩
 . rw[e];exact I.iz
 . rw[e]
   obtain⟨m,hn,_⟩:=I.loc
   refine .cons (by rw[I.ok.kind];decide) hf hn ?_ I.iz
   exact Q2 (Q0e I.ok.jm I.ok.above)
theorem Inv.sV (I:Inv X pins σ H s):∀b∈frs X.stack,b∈X.env.locals::X.fs:=λb hb=>by
 rcases I.ok.stk with e|⟨e,hf⟩
 . rw[e] at hb;exact Q0j _ hb
 . rw[e] at hb
   unfold frs at hb
   rw[Q1z,hf] at hb
   exact hb
theorem Inv.vL (I:Inv X pins σ H s):∀b∈frs X.stack,H b=none:=λb hb=>by
 rcases List.mem_cons.mp (I.sV b hb) with e|hb
 . rw[e];exact I.free
 . obtain⟨_,o,ho,_⟩:=I.ok.iz.mem hb
   exact I.base.free b o ho (I.ok.lU b hb) λz=>I.ok.qy b z hb
theorem Inv.step {g':Array GenState}{t':Nat}{d':Drawn}{ch:List Addr}(I:Inv X pins σ H s)
 (hch:∀b∈ch,(b∈X.ex\/X.s₀.heap.objs.size<=b)/\b≠X.env.locals/\(∀x c,X.env.cells.lookup x=some c->c≠b)/\∀p∈X.pn++pins,p.1≠b)
 (keep:∀b o,b≠X.env.locals->b ∉ X.fs->b ∉ ch->s.heap.get? b=some o->H b=none->h'.get? b=some o)
 (slot:∀b o,b≠X.env.locals->b∈X.fs->b ∉ ch->s.heap.get? b=some o->H b=none->∃sl,h'.get? b=some { o with slots:=sl }) (free:∀b o,b ∉ ch->s.heap.get? b=some o->H b=none->H' b=none)
 (there:∀b o,b ∉ ch->s.heap.get? b=some o->∃o',h'.get? b=some o')
 (tups:∀b xs,H b=some (.tup xs)->H' b=some (.tup xs)) (gW:∀b o u,H b=some (.cg o u)->H' b=some (.cg o u)) (iy:∀b ps,H b=some (.dF ps)->∃more,H' b=some (.dF (ps++more)))
 (ns:∀m,s.heap.Ns X.env.locals m->h'.Ns X.env.locals m) (hok:cC X.prog X.w H' h') (hg:AllBare g'):
 Inv X pins σ H' { s with heap:=h',gens:=g',drawn:=d',toks:=t' }:=by
 have Vi:∀b o,X.s₀.heap.get? b=some o->b≠X.env.locals:=λb o e=>Q08 (Q0a (Q01 e) I.ok.above)
 have zx:∀b o,X.s₀.heap.get? b=some o->b ∉ X.ex->b ∉ ch:=λb o e hx hb=>by
  rcases(hch b hb).1 with z|z
  . exact hx z
  . exact absurd (Q0a (Q01 e) z) (Q0l _)
 have cellK:∀x c,X.env.cells.lookup x=some c->∀v,s.heap.IsCell c v->h'.IsCell c v:=λx c e v ⟨o,ho,hd⟩=>by
  have vM:c ∉ ch:=λz=>(hch c z).2.2.1 x c e rfl
  by_cases hc:c∈X.fs
  . obtain⟨sl,q⟩:=slot c o (I.kW x c e) hc vM ho (I.fQ x c e)
    exact⟨_,q,hd⟩
  . exact⟨o,keep c o (I.kW x c e) hc vM ho (I.fQ x c e),hd⟩
 refine⟨I.ok,I.os,hg,⟨λb o e n hb hx=>?_,λb o e n hb hx=>?_,λb o e n hx=>?_,λb o e hx=>?_,λb xs e=>tups b xs (I.base.tups b xs e),λb o xs e=>gW b o xs (I.base.gW b o xs e),λb ps e=>?_⟩,?_,λx c e=>?_,?_,λx c e=>?_,λp hp=>?_,hok,I.len⟩
 . exact keep b o (Vi b o e) hb (zx b o e hx) (I.base.keep b o e n hb hx) (I.base.free b o e n hx)
 . obtain⟨sl,e1⟩:=I.base.slot b o e n hb hx
   obtain⟨sl',e2⟩:=slot b _ (Vi b o e) hb (zx b o e hx) e1 (I.base.free b o e n hx)
   exact⟨sl',e2⟩
 . obtain⟨o',e1⟩:=I.base.there b o e hx
   exact free b o' (zx b o e hx) e1 (I.base.free b o e n hx)
 . obtain⟨o',e1⟩:=I.base.there b o e hx
   exact there b o' (zx b o e hx) e1
 . obtain⟨m1,e1⟩:=I.base.iy b ps e
   obtain⟨m2,e2⟩:=iy b _ e1
   exact⟨m1++m2,by rw[e2,Array.append_assoc]⟩
 . obtain⟨m,hn,hl⟩:=I.loc
   refine⟨m,ns m hn,λi x v e1 e2 e3=>?_⟩
   obtain⟨u,r,l⟩:=hl i x v e1 e2 e3
   refine⟨u,r,?_⟩
   rcases l with l|⟨k,c,e,z⟩
   . exact .inl l
   . exact .inr ⟨k,c,e,cellK x c e _ z⟩
 . obtain⟨v,z⟩:=I.cell x c e
   exact⟨v,cellK x c e v z⟩
 . obtain⟨m,⟨o,_,_,ho,_⟩,_⟩:=I.loc
   exact free _ o (λz=>(hch _ z).2.1 rfl) ho I.free
 . obtain⟨v,o,ho,hd⟩:=I.cell x c e
   exact free c o (λz=>(hch c z).2.2.1 x c e rfl) ho (I.fQ x c e)
 . obtain⟨e,n,ne,nf,d⟩:=I.pin p hp
   have vM:p.1 ∉ ch:=λz=>(hch p.1 z).2.2.2 p hp rfl
   exact⟨keep p.1 p.2 ne nf vM e n,free p.1 p.2 vM e n,ne,nf,d⟩
theorem Inv.un {t':Nat}(I:Inv X pins σ H s)(u:Un X.fs [] H H' s.heap h')(hok:cC X.prog X.w H' h'):Inv X pins σ H' { s with heap:=h',toks:=t' }:=by
 obtain⟨m,⟨o,es,ep,ho,r⟩,_⟩:=id I.loc
 obtain⟨sl,hL⟩:=u.any ho I.free (by simp)
 exact I.step (g':=s.gens) (d':=s.drawn) (ch:=[]) (λ_ z=>nomatch z) (λb o _ hb _ e n=>u.keep b o e n hb (by simp)) (λb o _ hb _ e n=>u.slot b o e n hb (by simp)) (λb o _ e n=>u.free b o e n (by simp)) (λb o _ e=>u.there b o e (by simp)) u.tups u.gW u.iy (λm' hm=>by
  obtain⟨o',es',ep',ho',r'⟩:=hm
  rw[ho] at ho';cases ho'
  exact⟨_,es',ep',hL,r'⟩) hok I.bare
theorem Inv.call {g':Array GenState}{t':Nat}{d':Drawn}{ch:List Addr}(I:Inv X pins σ H s)(u:Un (frs X.stack) ch H H' s.heap h')(hok:cC X.prog X.w H' h')(hg:AllBare g')
 (hch:∀b∈ch,(b∈X.ex\/X.s₀.heap.objs.size<=b)/\b≠X.env.locals/\(∀x c,X.env.cells.lookup x=some c->c≠b)/\∀p∈X.pn++pins,p.1≠b):
 Inv X pins σ H' { s with heap:=h',gens:=g',drawn:=d',toks:=t' }:=by
 obtain⟨m,⟨o,es,ep,ho,r⟩,_⟩:=id I.loc
 obtain⟨sl,hL⟩:=u.any ho I.free λz=>(hch _ z).2.1 rfl
 exact I.step (ch:=ch) hch (λb o hL hb hc e n=>u.keep b o e n (λz=>(List.mem_cons.mp (I.sV b z)).elim hL hb) hc) (λb o _ _ hc e n=>u.any e n hc) (λb o hc e n=>u.free b o e n hc) (λb o hc e=>u.there b o e hc) u.tups u.gW u.iy (λm' hm=>by
  obtain⟨o',es',ep',ho',r'⟩:=hm
  rw[ho] at ho';cases ho'
  exact⟨_,es',ep',hL,r'⟩) hok hg
theorem Inv.turned {t':Nat}{it:Addr}(I:Inv X pins σ H s)(k:∀b o,b≠it->s.heap.get? b=some o->h'.get? b=some o)(hn:H it=none)(hL:it≠X.env.locals)
 (h1:it∈X.ex\/X.s₀.heap.objs.size<=it) (h2:∀x c,X.env.cells.lookup x=some c->c≠it) (h3:∀p∈X.pn++pins,p.1≠it):Inv X pins σ H { s with heap:=h',toks:=t' }:=by
 have Vj:∀b u,H b=some u->b≠it:=λb u e z=>by rw[z,hn] at e;cases e
 refine I.step (g':=s.gens) (d':=s.drawn) (ch:=[it]) (λb hb=>?_) (λb o _ _ hc e _=>k b o (λz=>hc (by simp[z])) e) (λb o _ _ hc e _=>⟨o.slots,k b o (λz=>hc (by simp[z])) e⟩) (λ_ _ _ _ n=>n)
  (λb o hc e=>⟨o,k b o (λz=>hc (by simp[z])) e⟩) (λ_ _ e=>e) (λ_ _ _ e=>e) (λb ps e=>⟨#[],by rw[e];simp⟩) (λm hm=>?_) (λb u e=>?_) I.bare
 . have e:b=it:=by simpa using hb
   subst e
   exact⟨h1,hL,h2,h3⟩
 . obtain⟨o,es,ep,ho,r⟩:=hm
   exact⟨o,es,ep,k _ o (Ne.symm hL) ho,r⟩
 . refine(I.hok b u e).stay (λc v hc q=>k c v ?_ q) (λ_ q=>q) λ_ _ q=>q
   rcases hc with z|z
   . rw[z];exact Vj b u e
   . exact Vj c _ z
theorem Inv.tok (I:Inv X pins σ H s)(t:Nat):Inv X pins σ H { s with toks:=t }:=I.un (h':=s.heap) (t':=t) Un.refl I.hok
theorem Inv.kept {t':Nat}(I:Inv X pins σ H s)(k:∀b u,s.heap.get? b=some u->h'.get? b=some u):Inv X pins σ H { s with heap:=h',toks:=t' }:=I.un (Un.kept k) (I.hok.kept k)
theorem Inv.laid {a:Addr}{o:HO}{t':Nat}(I:Inv X pins σ H s)(k:∀b u,s.heap.get? b=some u->h'.get? b=some u)(hp:s.heap.objs.size<=a)(new:cO X.prog X.w (upd H a o) h' a o):
 Inv X pins σ (upd H a o) { s with heap:=h',toks:=t' }:=I.un (Un.laid k hp (I.hok.fresh hp)) (I.hok.laid k hp new)
theorem Inv.write {x e:Addr}{o:HO}{t':Nat}(I:Inv X pins σ H s)(mu:vJ (H x))(he:e=x\/H e=some (.own x))(k:∀b u,b≠e->s.heap.get? b=some u->h'.get? b=some u)(heo:∃u,h'.get? e=some u)
 (new:cO X.prog X.w (upd H x o) h' x o):Inv X pins σ (upd H x o) { s with heap:=h',toks:=t' }:=I.un (Un.write mu he k heo) (I.hok.write mu he k heo new)
theorem Inv.weak {σ':List (Option V)}(I:Inv X pins σ H s)(hl:σ'.length=σ.length)(w:∀(i:Nat) v,σ'[i]? =some (some v)->σ[i]? =some (some v)):Inv X pins σ' H s:=
 ⟨I.ok,I.os,I.bare,I.base,let⟨m,hn,hl'⟩:=I.loc;⟨m,hn,λi x v e1 e2 e3=>hl' i x v e1 (w i v e2) e3⟩,I.cell,I.free,I.fQ,I.pin,I.hok,hl.trans I.len⟩
theorem Inv.qz {Vk:List (Addr × Obj)}(I:Inv X pins σ H s)(h:∀p∈Vk,s.heap.get? p.1=some p.2/\H p.1=none/\p.1≠X.env.locals/\p.1 ∉ X.fs/\∀v,p.2.data≠ .cell v):Inv X Vk σ H s:=
 ⟨I.ok,I.os,I.bare,I.base,I.loc,I.cell,I.free,I.fQ,λp hp=>(List.mem_append.mp hp).elim (λz=>I.pin p (Q1n _ z)) (h p),I.hok,I.len⟩
theorem Er {N:List Str}(hN:N.Nodup){i j:Nat}{x:Str}(a:N[i]? =some x)(b:N[j]? =some x):i=j:=by
 obtain⟨h1,e1⟩:=List.getElem?_eq_some_iff.mp a
 obtain⟨h2,e2⟩:=List.getElem?_eq_some_iff.mp b
 exact(List.getElem_inj hN).mp (e1.trans e2.symm)
theorem ac1 {M:Model}{A:Around}{E:Value->Shared->Prop}{i:Nat}{x:Str}{v:V}{u:Value}{Q:Unit->Shared->Prop}(I:Inv X pins σ H s)(hN:X.N.Nodup)(hi:X.N[i]? =some x)(hx:Loc X.env.scope x)(r:RelV v u)
 (h:∀s',Inv X pins (σ.set i (some v)) H s'->(∃a,Heap.SameBut a s.heap s'.heap/\(a=X.env.locals\/X.env.cells.lookup x=some a))->Q () s') (hf:X.fn x=true\/X.env.scope.names.lookup x=some .local:=by first|exact .inl rfl|exact .inr rfl|assumption):wpAny M A (storeName X.env x u) Q E s:=by
 obtain⟨m,hn,hl⟩:=id I.loc
 have hcls:(X.env.scope.kind == .class || (X.env.scope.kind == .module && X.env.locals != X.env.globals))=false:=by rw[I.ok.kind];rfl
 have zy:i<σ.length:=by rw[I.len];exact(List.getElem?_eq_some_iff.mp hi).1
 have kW:=I.kW
 have tracked:∀{a:Addr} {h':Heap},(∃o,s.heap.get? a=some o/\H a=none)->Heap.SameBut a s.heap h'->cC X.prog X.w H h':=λ{a h'} ha hs b ob e=>by
  obtain⟨_,_,hfree⟩:=ha
  refine(I.hok b ob e).stay (λc w' hc q=>(hs.2 c ?_).trans q) (λ_ q=>q) λ_ _ q=>q
  rintro rfl
  rcases hc with rfl|hc
  . rw[hfree] at e;cases e
  . rw[hfree] at hc;cases hc
 rcases hx with hk|hk
 . refine wpAny_storeName_local hk hn (λh' hn' hs=>?_) hcls
   obtain⟨oL,_,_,hoL,_⟩:=id hn
   refine h _ ⟨I.ok,I.os,I.bare,⟨λb o e n hb hx=>?_,λb o e n hb hx=>?_,I.base.free,λb o e hx=>?_,I.base.tups,I.base.gW,I.base.iy⟩,⟨_,hn',λj y v' e1 e2 e3=>?_⟩,λy c e=>?_,I.free,I.fQ,λp hp=>?_,tracked ⟨oL,hoL,I.free⟩ hs,by simpa using I.len⟩ ⟨_,hs,.inl rfl⟩
   . exact(hs.2 b (Q08 (Q0a (Q01 e) I.ok.above))).trans (I.base.keep b o e n hb hx)
   . obtain⟨sl,e1⟩:=I.base.slot b o e n hb hx
     exact⟨sl,(hs.2 b (Q08 (Q0a (Q01 e) I.ok.above))).trans e1⟩
   . obtain⟨o',e1⟩:=I.base.there b o e hx
     exact⟨o',(hs.2 b (Q08 (Q0a (Q01 e) I.ok.above))).trans e1⟩
   . by_cases hj:j=i
     . subst hj
       rw[hi] at e1;cases e1
       rw[Q20 zy] at e2
       cases e2
       exact⟨u,r,.inl ⟨hk,by simp⟩⟩
     . rw[Q21 (Ne.symm hj)] at e2
       obtain⟨u',r',q⟩:=hl j y v' e1 e2 e3
       refine⟨u',r',?_⟩
       rcases q with⟨k,e⟩|⟨k,c,e,z⟩
       . refine .inl ⟨k,?_⟩
         have:y≠x:=λe=>hj (Er hN e1 (e ▸ hi))
         simp[this,e]
       . exact .inr ⟨k,c,e,z.sameBut hs (kW y c e)⟩
   . obtain⟨w',z⟩:=I.cell y c e
     exact⟨w',z.sameBut hs (kW y c e)⟩
   . obtain⟨e,n,ne,nf,d⟩:=I.pin p hp
     exact⟨(hs.2 p.1 ne).trans e,n,ne,nf,d⟩
 . have hfn:X.fn x=true:=by
    rcases hf with z|z
    . exact z
    . rw[z] at hk;cases hk
   obtain⟨c,hc⟩:=I.ok.has x (.inl hk)
   obtain⟨w',z⟩:=I.cell x c hc
   refine wpAny_storeName_cell I.ok.kind hk hc z (λh' hc' hs=>?_)
   obtain⟨oc,hoc,ac2⟩:=id z
   refine h { s with heap:=h' } ⟨I.ok,I.os,I.bare,⟨λb o e n hb hx=>?_,λb o e n hb hx=>?_,I.base.free,λb o e hx=>?_,I.base.tups,I.base.gW,I.base.iy⟩,⟨m,hn.sameBut hs (Ne.symm (kW x c hc)),λj y v' e1 e2 e3=>?_⟩,λy c' e=>?_,I.free,I.fQ,λp hp=>?_,tracked ⟨oc,hoc,I.fQ x c hc⟩ hs,by simpa using I.len⟩ ⟨c,hs,.inr hc⟩
   . exact(hs.2 b (Q08 (Q0a (Q01 e) (I.ok.cab x c hfn hc)))).trans (I.base.keep b o e n hb hx)
   . obtain⟨sl,e1⟩:=I.base.slot b o e n hb hx
     exact⟨sl,(hs.2 b (Q08 (Q0a (Q01 e) (I.ok.cab x c hfn hc)))).trans e1⟩
   . obtain⟨o',e1⟩:=I.base.there b o e hx
     exact⟨o',(hs.2 b (Q08 (Q0a (Q01 e) (I.ok.cab x c hfn hc)))).trans e1⟩
   . by_cases hj:j=i
     . subst hj
       rw[hi] at e1;cases e1
       rw[Q20 zy] at e2
       cases e2
       exact⟨u,r,.inr ⟨.inl hk,c,hc,hc'⟩⟩
     . rw[Q21 (Ne.symm hj)] at e2
       obtain⟨u',r',q⟩:=hl j y v' e1 e2 e3
       refine⟨u',r',?_⟩
       rcases q with q|⟨k,c',e,z'⟩
       . exact .inl q
       . refine .inr ⟨k,c',e,z'.sameBut hs ?_⟩
         rintro rfl
         exact hj (Er hN e1 (I.ok.inj _ _ _ e hc ▸ hi))
   . by_cases hcc:c'=c
     . subst hcc;exact⟨_,hc'⟩
     . obtain⟨w2,z2⟩:=I.cell y c' e
       exact⟨w2,z2.sameBut hs hcc⟩
   . obtain⟨e,n,ne,nf,d⟩:=I.pin p hp
     refine⟨(hs.2 p.1 ?_).trans e,n,ne,nf,d⟩
     intro q
     rw[q,hoc] at e
     have q':oc=p.2:=Option.some.inj e
     exact d w' (by rw[<-q'];exact ac2)
theorem sW {M:Model}{A:Around}{E:Value->Shared->Prop}{i:Nat}{x:Str}{v:V}{u:Value}{Q:Unit->Shared->Prop}(I:Inv X pins σ H s)(hN:X.N.Nodup)(hi:X.N[i]? =some x)(hx:Loc X.env.scope x)(r:RelV v u)
 (h:∀s',Inv X pins (σ.set i (some v)) H s'->Q () s') (hf:X.fn x=true\/X.env.scope.names.lookup x=some .local:=by first|exact .inl rfl|exact .inr rfl|assumption):wpAny M A (storeName X.env x u) Q E s:=
 ac1 I hN hi hx r (λs' I' _=>h s' I') hf
theorem Inv.call' {s':Shared}{ch:List Addr}(I:Inv X pins σ H s)(ho:s'.os=s.os)(u:Un (frs X.stack) ch H H' s.heap s'.heap)(hok:cC X.prog X.w H' s'.heap)(hg:AllBare s'.gens)
 (hch:∀b∈ch,(b∈X.ex\/X.s₀.heap.objs.size<=b)/\b≠X.env.locals/\(∀x c,X.env.cells.lookup x=some c->c≠b)/\∀p∈X.pn++pins,p.1≠b):Inv X pins σ H' s':=by
 obtain⟨h',g',d',t',o'⟩:=s'
 have e:o'=s.os:=ho
 subst e
 exact I.call (g':=g') (t':=t') (d':=d') u hok hg hch
end
noncomputable abbrev XK:=Value->Option Addr->Hp->Prop
noncomputable abbrev St:=List (Option V)
noncomputable abbrev VK:=V->Hp->Prop
noncomputable abbrev TE:=St->Hp->VK->Prop
noncomputable abbrev TT:=St->Hp->(Bool->Hp->Prop)->Prop
noncomputable abbrev TA:=St->Hp->(List V->Hp->Prop)->Prop
structure Ends where
 nx:St->Hp->Prop
 rt:VK
 bk:St->Hp->Prop:=λ_ _=>False
 ct:St->Hp->Prop:=λ_ _=>False
noncomputable abbrev TS:=Ends->St->Hp->Prop
noncomputable def EP (X:Cx) (pins:List (Addr × Obj)) (σ:St) (Q:VK) (u:Value) (s':Shared):Prop:=∃v H',Inv X pins σ H' s'/\RelV v u/\Q v H'
noncomputable def TP (X:Cx) (pins:List (Addr × Obj)) (σ:St) (Q:Bool->Hp->Prop) (b:Bool) (s':Shared):Prop:=∃H',Inv X pins σ H' s'/\Q b H'
noncomputable def AP (X:Cx) (pins:List (Addr × Obj)) (σ:St) (Q:List V->Hp->Prop) (us:List Value) (s':Shared):Prop:=∃vs H',Inv X pins σ H' s'/\Vals vs us/\Q vs H'
noncomputable def SP (X:Cx) (pins:List (Addr × Obj)) (D:Ends) (f:Flow) (s':Shared):Prop:=
 match f with
 | .next=>∃σ' H',Inv X pins σ' H' s'/\D.nx σ' H'
 | .brk=>∃σ' H',Inv X pins σ' H' s'/\D.bk σ' H'
 | .cont=>∃σ' H',Inv X pins σ' H' s'/\D.ct σ' H'
 | .ret u=>∃v σ' H',Inv X pins σ' H' s'/\RelV v u/\D.rt v H'
noncomputable def PE (X:Cx) (e:Expr) (t:TE):Prop:=
 ∀(pins:List (Addr × Obj)) (s:Shared) (σ:St) (H:Hp) (Q:VK),Inv X pins σ H s->t σ H Q->wpAny (model X.prog X.w) X.A (eval e X.env) (EP X pins σ Q) X.xe s
noncomputable def PT (X:Cx) (e:Expr) (t:TT):Prop:=
 ∀(pins:List (Addr × Obj)) (s:Shared) (σ:St) (H:Hp) (Q:Bool->Hp->Prop),Inv X pins σ H s->t σ H Q->wpAny (model X.prog X.w) X.A (isTrue e X.env (eval e X.env)) (TP X pins σ Q) X.xe s
noncomputable def PW (X:Cx) (e:Expr) (t:TT):Prop:=
 ∀(whole:Sem Value) (pins:List (Addr × Obj)) (s:Shared) (σ:St) (H:Hp) (Q:Bool->Hp->Prop),Inv X pins σ H s->t σ H Q->wpAny (model X.prog X.w) X.A (isTrue e X.env whole) (TP X pins σ Q) X.xe s
theorem PW.pt {X:Cx}{e:Expr}{t:TT}(h:PW X e t):PT X e t:=h _
noncomputable def PA (X:Cx) (es:List Expr) (t:TA):Prop:=
 ∀(pos:Pos) (pins:List (Addr × Obj)) (s:Shared) (σ:St) (H:Hp) (Q:List V->Hp->Prop),Inv X pins σ H s->t σ H Q->wpAny (model X.prog X.w) X.A (spliced (backTo pos (starEach es X.env))) (AP X pins σ Q) X.xe s
noncomputable def PS (X:Cx) (st:Stmt) (t:TS):Prop:=
 ∀(pins:List (Addr × Obj)) (s:Shared) (σ:St) (H:Hp) (D:Ends),Inv X pins σ H s->t D σ H->wpAny (model X.prog X.w) X.A (exec st X.env) (SP X pins D) X.xe s
noncomputable def fY (X:Cx) (st:List Stmt) (t:TS):Prop:=
 ∀(pins:List (Addr × Obj)) (s:Shared) (σ:St) (H:Hp) (D:Ends),Inv X pins σ H s->t D σ H->wpAny (model X.prog X.w) X.A (execs st X.env) (SP X pins D) X.xe s
theorem aP {α:Type}{t:Sem α}{Q Q':α->Shared->Prop}{M:Model}{A:Around}{E:Value->Shared->Prop}{s:Shared}(h:wpAny M A t Q E s)(hQ:∀a s,Q a s->Q' a s):wpAny M A t Q' E s:=Q0h h hQ λ_ _ x=>x
section
variable {X:Cx}
noncomputable def bB (i:Nat):TE:=λσ H Q=>∃v,σ[i]? =some (some v)/\Q v H
noncomputable def tC (v:V):TE:=λ_ H Q=>Q v H
theorem ac3 {i:Nat}{x:Str}{pos:Pos}(hN:X.N[i]? =some x)(hv:zu X.env.scope x)(hd:(x == ("__debug__":Str))=false:=by decide)(hcd:(x == ("__classdict__":Str))=false:=by decide):PE X (.Name x pos) (bB i):=by
 intro pins s σ H Q I h
 obtain⟨v,e,h⟩:=h
 obtain⟨m,hn,hl⟩:=I.loc
 obtain⟨u,r,l⟩:=hl i x v hN e hv
 have fin:EP X pins σ Q u s:=⟨v,H,I,r,h⟩
 rcases l with⟨hk,hm⟩|⟨hk,c,hc,hcell⟩
 . exact wpAny_Name (wpAny_loadName_local I.ok.kind hk hn hm fin) hd
 . rcases hk with hk|hk
   . exact wpAny_Name (wpAny_loadName_cell I.ok.kind hk hc hcell fin) hd
   . exact wpAny_Name (wpAny_loadName_free I.ok.kind hk hc hcell fin hcd) hd
theorem aH {i j pos}:PE X (.Constant (.int i) j pos) (tC (.int i)):=λ_ _ _ H _ I h=>wpAny_Constant_int ⟨.int i,H,I.tok _,⟨_,rfl⟩,h⟩
theorem o7 {b j pos}:PE X (.Constant (.bool b) j pos) (tC (.bl b)):=λ_ _ _ H _ I h=>Constant_bool ⟨.bl b,H,I,rfl,h⟩
theorem cD {j pos}:PE X (.Constant .none j pos) (tC .non):=λ_ _ _ H _ I h=>Constant_none ⟨.non,H,I,rfl,h⟩
theorem bh {x j pos}:PE X (.Constant (.str x) j pos) (tC (.str x)):=λ_ _ _ H _ I h=>Calls.Constant_str ⟨.str x,H,I.tok _,⟨_,rfl⟩,h⟩
noncomputable def Gl (X:Cx) (x:Str):Prop:=X.env.kindOf x=some .globalImplicit
theorem sX {E:Value->Shared->Prop}{pins:List (Addr × Obj)}{s:Shared}{σ:St}{H:Hp}{x:Str}{u:Value}{pos:Pos}{Q:Value->Shared->Prop}(I:Inv X pins σ H s)(hg:Gl X x)(hm:X.mg x=some u)(h:Q u s)
 (hd:(x == ("__debug__":Str))=false:=by decide):wpAny (model X.prog X.w) X.A (eval (.Name x pos) X.env) Q E s:=
 Calls.Name_function_global I.ok.kind hg (Calls.loadGlobal_global (by rw[I.ok.glob];exact I.mod.glob.keeps I.bk) hm h) hd
theorem jM {E:Value->Shared->Prop}{pins:List (Addr × Obj)}{s:Shared}{σ:St}{H:Hp}{x:Str}{u:Value}{pos:Pos}{Q:Value->Shared->Prop}(I:Inv X pins σ H s)(hg:Gl X x)(hm:X.mg x=none)(hv:bootBuiltins x=some u)(h:Q u s)
 (hn:x≠"__name__":=by decide) (hd:(x == ("__debug__":Str))=false:=by decide):wpAny (model X.prog X.w) X.A (eval (.Name x pos) X.env) Q E s:=by
 obtain⟨mb,h1,h2⟩:=I.mod.blt
 exact Calls.Name_function_global I.ok.kind hg (Calls.loadGlobal_builtin (by rw[I.ok.glob];exact I.mod.glob.keeps I.bk) hm (by rw[I.ok.blt];exact h1.keeps I.bk) ((h2 x hn).trans hv) h) hd
theorem bN {x:Str}{v:V}{u:Value}{pos:Pos}(hg:Gl X x)(hm:X.mg x=none)(hv:bootBuiltins x=some u)(r:RelV v u)(hn:x≠"__name__":=by decide)(hd:(x == ("__debug__":Str))=false:=by decide):PE X (.Name x pos) (tC v):=
 λ_ _ _ H _ I h=>jM I hg hm hv ⟨v,H,I,r,h⟩ hn hd
variable {a b:Expr}{ta tb:TE}{pos:Pos}
noncomputable def PC (X:Cx) (op:CmpOp) (a b:Expr) (t:TE):Prop:=
 ∀(pins:List (Addr × Obj)) (s:Shared) (σ:St) (H:Hp) (Q:VK),Inv X pins σ H s->t σ H Q->
  wpAny (model X.prog X.w) X.A (eval a X.env) (λv s₁=>wpAny (model X.prog X.w) X.A (eval b X.env) (λu s₂=>wpAny (model X.prog X.w) X.A (compareOp op v u) (EP X pins σ Q) X.xe s₂) X.xe s₁) X.xe s
noncomputable def tB (t:TE):TT:=λσ H Q=>t σ H λx H1=>∃c,x=.bl c/\Q c H1
theorem Vl {op:CmpOp}{t:TE}(h:PC X op a b t)(h1:behindInMarks op b=false:=by first|exact ac4 _ (by decide) (by decide)|rfl):PE X (.Compare a [op] [b] pos) t:=λpins s σ H Q I hw=>wpAny_Compare1 (h pins s σ H Q I hw) h1
theorem Vm {op:CmpOp}{t:TE}(h:PC X op a b t)(h1:behindInMarks op b=false:=by first|exact ac4 _ (by decide) (by decide)|rfl):PT X (.Compare a [op] [b] pos) (tB t):=by
 intro pins s σ H Q I hw
 refine wpAny_isTrue_Compare1 (aP (h pins s σ H _ I hw) λv s1 h1=>aP h1 λu s2 h2=>aP h2 λc s3 ⟨x,H1,I1,r1,q1⟩=>?_) h1
 obtain⟨d,rfl,q⟩:=q1
 cases r1
 exact wpAny_truthy_bool ⟨H1,I1,q⟩
theorem bY {e:Expr}{t:TE}(h:PE X e t)(he:∀whole,isTrue e X.env whole=(do let v <-whole;standAt e.pos;holding [v] (truthy v)):=by intro _;rfl):PT X e (tB t):=by
 intro pins s σ H Q I hw
 refine isTrue_plain (aP (h pins s σ H _ I hw) λv s1 ⟨x,H1,I1,r1,q1⟩=>?_) (he _)
 obtain⟨d,rfl,q⟩:=q1
 cases r1
 exact wpAny_truthy_bool ⟨H1,I1,q⟩
variable {tA zA:TT}{rest:List Expr}
noncomputable def ac5 (t u:TT):TT:=λσ H Q=>t σ H λc H1=>if c=true then u σ H1 Q else Q false H1
noncomputable def tOr (t u:TT):TT:=λσ H Q=>t σ H λc H1=>if c=true then Q true H1 else u σ H1 Q
noncomputable def ac7 (t:TT):TT:=λσ H Q=>t σ H λc H1=>Q (!c) H1
theorem o8 (ha:PT X a tA):PW X (.BoolOp .And [a] pos) tA:=by
 intro wh pins s σ H Q I h
 refine isTrue_and (aP (ha pins s σ H Q I h) λc s1 e=>?_)
 cases c with
 |true=>exact isTrue_and_nil e
 |false=>exact e
theorem jo (ha:PT X a tA):PW X (.BoolOp .Or [a] pos) tA:=by
 intro wh pins s σ H Q I h
 refine isTrue_or (aP (ha pins s σ H Q I h) λc s1 e=>?_)
 cases c with
 |false=>exact isTrue_or_nil e
 |true=>exact e
theorem o9 (ha:PT X a tA)(hb:PW X (.BoolOp .And (b::rest) pos) zA):PW X (.BoolOp .And (a::b::rest) pos) (ac5 tA zA):=by
 intro wh pins s σ H Q I h
 refine isTrue_and (aP (ha pins s σ H _ I h) λc s1 ⟨H1,I1,q1⟩=>?_)
 cases c with
 |true=>exact hb wh pins s1 σ H1 Q I1 q1
 |false=>exact⟨H1,I1,q1⟩
theorem jq (ha:PT X a tA)(hb:PW X (.BoolOp .Or (b::rest) pos) zA):PW X (.BoolOp .Or (a::b::rest) pos) (tOr tA zA):=by
 intro wh pins s σ H Q I h
 refine isTrue_or (aP (ha pins s σ H _ I h) λc s1 ⟨H1,I1,q1⟩=>?_)
 cases c with
 |true=>exact⟨H1,I1,q1⟩
 |false=>exact hb wh pins s1 σ H1 Q I1 q1
theorem iV (ha:PT X a tA):PT X (.UnaryOp .Not a pos) (ac7 tA):=by
 intro pins s σ H Q I h
 exact isTrue_not (ha pins s σ H (λc H1=>Q (!c) H1) I h)
noncomputable def Vn (ta tb:TE):TE:=λσ H Q=>ta σ H λx H1=>∃c,x=.bl c/\if c=true then tb σ H1 Q else Q (.bl false) H1
noncomputable def ac8 (ta tb:TE):TE:=λσ H Q=>ta σ H λx H1=>∃c,x=.bl c/\if c=true then Q (.bl true) H1 else tb σ H1 Q
noncomputable def ac9 (ta:TE):TE:=λσ H Q=>ta σ H λx H1=>∃c,x=.bl c/\Q (.bl (!c)) H1
theorem lV {op}{t:TE}(h:PE X a t):PE X (.BoolOp op [a] pos) t:=λpins s σ H Q I hw=>BoolOp_one (h pins s σ H Q I hw)
theorem kY (ha:PE X a ta)(hb:PE X (.BoolOp .And (b::rest) pos) tb):PE X (.BoolOp .And (a::b::rest) pos) (Vn ta tb):=by
 intro pins s σ H Q I h
 refine BoolOp_and (aP (ha pins s σ H _ I h) λv s1 ⟨x,H1,I1,r1,q1⟩=>?_)
 obtain⟨c,rfl,q1⟩:=q1
 cases r1
 refine wpAny_truthy_bool ?_
 cases c with
 |true=>exact hb pins s1 σ H1 Q I1 q1
 |false=>exact⟨.bl false,H1,I1,rfl,q1⟩
theorem ac_ (ha:PE X a ta)(hb:PE X (.BoolOp .Or (b::rest) pos) tb):PE X (.BoolOp .Or (a::b::rest) pos) (ac8 ta tb):=by
 intro pins s σ H Q I h
 refine BoolOp_or (aP (ha pins s σ H _ I h) λv s1 ⟨x,H1,I1,r1,q1⟩=>?_)
 obtain⟨c,rfl,q1⟩:=q1
 cases r1
 refine wpAny_truthy_bool ?_
 cases c with
 |false=>exact hb pins s1 σ H1 Q I1 q1
 |true=>exact⟨.bl true,H1,I1,rfl,q1⟩
theorem Vo (ha:PE X a ta):PE X (.UnaryOp .Not a pos) (ac9 ta):=by
 intro pins s σ H Q I h
 refine UnaryOp_ (aP (ha pins s σ H _ I h) λv s1 ⟨x,H1,I1,r1,q1⟩=>?_)
 obtain⟨c,rfl,q1⟩:=q1
 cases r1
 exact not_of (wpAny_truthy_bool ⟨.bl (!c),H1,I1,rfl,q1⟩)
noncomputable def Vp (t:TT) (ta tb:TE):TE:=λσ H Q=>t σ H λc H1=>if c=true then ta σ H1 Q else tb σ H1 Q
theorem fZ {c:Expr}(hc:PT X c tA)(ha:PE X a ta)(hb:PE X b tb):PE X (.IfExp c a b pos) (Vp tA ta tb):=by
 intro pins s σ H Q I h
 refine wpAny_IfExp (aP (hc pins s σ H _ I h) λd s1 ⟨H1,I1,q1⟩=>?_)
 cases d with
 |true=>exact ha pins s1 σ H1 Q I1 q1
 |false=>exact hb pins s1 σ H1 Q I1 q1
end
noncomputable def aG (K:W.Frag) (H:Hp) (a:Addr) (xs:List V):Prop:=
 Rd H a (.lst xs)\/
  ∃(o:Obj) (its:Array Value) (n:Nat),K.lookup a=some o/\o.cls=.type "list"/\o.dict=none/\o.data=.seq its n/\its.size<=sizeLine/\Vals xs its.toList
noncomputable def aD (K:W.Frag) (H:Hp) (a:Addr) (xs:List V):Prop:=
 Rd H a (.tup xs)\/
  ∃(o:Obj) (its:Array Value) (n:Nat),K.lookup a=some o/\o.cls=.type "tuple"/\o.data=.seq its n/\its.size<=sizeLine/\Vals xs its.toList
noncomputable def ada:Value->Option V
 | .none=>some .non
 | .bool b=>some (.bl b)
 | .int i _=>some (.int i)
 | .str x _=>some (.str x)
 | .bytes b _=>some (.jL b)
 | .float b _=>some (.flt b)
 | .ref a=>some (.ref a)
 | .type n=>some (.ty n)
 |_=>none
theorem RelV.abs {x:V}{u:Value}(r:RelV x u):ada u=some x:=by
 cases x with
 |non=>cases r;rfl
 |bl _=>cases r;rfl
 |int _=>obtain⟨t,rfl⟩:=r;rfl
 |str _=>obtain⟨t,rfl⟩:=r;rfl
 |jL _=>obtain⟨t,rfl⟩:=r;rfl
 |flt _=>obtain⟨t,rfl⟩:=r;rfl
 |ref _=>cases r;rfl
 |ty _=>cases r;rfl
theorem RelV.inj {x y:V}{u:Value}(r:RelV x u)(q:RelV y u):x=y:=Option.some.inj (r.abs.symm.trans q.abs)
theorem Vals.inj:∀{xs ys:List V}{us:List Value},Vals xs us->Vals ys us->xs=ys
 |_,_,_,.nil,.nil=>rfl
 |_,_,_,.cons r t,.cons r' t'=>by rw[r.inj r',Vals.inj t t']
section
variable {X:Cx}{pins:List (Addr × Obj)}{σ:St}{H:Hp}{s:Shared}{a:Addr}{xs ys:List V}
theorem aG.of {K:W.Frag}(h:H a=some (.lst xs)):aG K H a xs:=.inl (.inl h)
theorem aD.of {K:W.Frag}(h:H a=some (.tup xs)):aD K H a xs:=.inl (.inl h)
theorem Inv.list (I:Inv X pins σ H s)(h:aG X.K H a xs):∃its:List Value,Vals xs its/\PlainL s.heap a its.toArray/\xs.length<=sizeLine:=by
 rcases h with h|⟨o,its,n,hk,hc,hd,hs,hz,r⟩
 . obtain⟨z,its,n,r,e⟩:=h.ok I.hok
   exact⟨its,r,⟨_,n,e,rfl,rfl,rfl⟩,z⟩
 . refine⟨its.toList,r,⟨o,n,I.cP a o hk,hc,hd,by simpa using hs⟩,?_⟩
   have e:=r.length
   simp only[Q1g] at e
   omega
theorem Inv.tuple (I:Inv X pins σ H s)(h:aD X.K H a xs):∃its:List Value,Vals xs its/\IsTup s.heap a its.toArray/\xs.length<=sizeLine:=by
 rcases h with h|⟨o,its,n,hk,hc,hs,hz,r⟩
 . obtain⟨z,its,r,p⟩:=h.ok I.hok
   exact⟨its,r,p,z⟩
 . refine⟨its.toList,r,⟨o,I.cP a o hk,hc,n,by simpa using hs⟩,?_⟩
   have e:=r.length
   simp only[Q1g] at e
   omega
theorem Inv.vN (I:Inv X pins σ H s)(h:aG X.K H a xs)(h':aG X.K H a ys):xs=ys:=by
 obtain⟨its,r,⟨o,n,e,_,_,d⟩,_⟩:=I.list h
 obtain⟨its',r',⟨o',n',e',_,_,d'⟩,_⟩:=I.list h'
 rw[e] at e';cases e'
 rw[d] at d'
 injection d' with d1 _
 have:its=its':=by simpa using congrArg Array.toList d1
 subst this
 exact r.inj r'
theorem Inv.Es (I:Inv X pins σ H s)(h:aD X.K H a xs)(h':aD X.K H a ys):xs=ys:=by
 obtain⟨its,r,⟨o,e,_,n,d⟩,_⟩:=I.tuple h
 obtain⟨its',r',⟨o',e',_,n',d'⟩,_⟩:=I.tuple h'
 rw[e] at e';cases e'
 rw[d] at d'
 injection d' with d1 _
 have:its=its':=by simpa using congrArg Array.toList d1
 subst this
 exact r.inj r'
end
noncomputable abbrev Cx.wish (X:Cx) (E:Value->Shared->Prop):Cx:={ X with xe:=E }
noncomputable abbrev Cx.kZ (X:Cx):Cx:=X.wish λ_ _=>False
theorem Cx.Ok.wish {X:Cx}(ok:X.Ok)(E:Value->Shared->Prop):(X.wish E).Ok:=
 ⟨ok.mod,ok.kind,ok.glob,ok.blt,ok.above,ok.inj,ok.has,ok.cab,ok.hd,ok.frames,ok.stk,ok.vK,ok.bs,ok.jm,ok.oZ,ok.qy,ok.iz,ok.lU⟩
theorem Cx.Ok.jN {X:Cx}{E:Value->Shared->Prop}(ok:(X.wish E).Ok):X.Ok:=
 ⟨ok.mod,ok.kind,ok.glob,ok.blt,ok.above,ok.inj,ok.has,ok.cab,ok.hd,ok.frames,ok.stk,ok.vK,ok.bs,ok.jm,ok.oZ,ok.qy,ok.iz,ok.lU⟩
section
variable {X:Cx}{pins:List (Addr × Obj)}{σ:St}{H:Hp}{s:Shared}{E:Value->Shared->Prop}
theorem Inv.wish (I:Inv X pins σ H s)(E:Value->Shared->Prop):Inv (X.wish E) pins σ H s:=⟨I.ok.wish E,I.os,I.bare,I.base,I.loc,I.cell,I.free,I.fQ,I.pin,I.hok,I.len⟩
theorem Inv.jN (I:Inv (X.wish E) pins σ H s):Inv X pins σ H s:=⟨I.ok.jN,I.os,I.bare,I.base,I.loc,I.cell,I.free,I.fQ,I.pin,I.hok,I.len⟩
theorem SP.jN {D:Ends}{f:Flow}{s':Shared}(h:SP (X.wish E) pins D f s'):SP X pins D f s':=by
 cases f with
 |next=>obtain⟨σ',H',I,q⟩:=h;exact⟨σ',H',I.jN,q⟩
 |brk=>obtain⟨σ',H',I,q⟩:=h;exact⟨σ',H',I.jN,q⟩
 |cont=>obtain⟨σ',H',I,q⟩:=h;exact⟨σ',H',I.jN,q⟩
 |ret u=>obtain⟨v,σ',H',I,r,q⟩:=h;exact⟨v,σ',H',I.jN,r,q⟩
theorem fY.kZ {st:List Stmt}{t:TS}(h:fY X.kZ st t):fY X st t:=λpins s σ H D I hw=>
 Q0h (h pins s σ H D (I.wish _) hw) (λ_ _ q=>q.jN) λ_ _ z=>False.elim z
end
section
variable {X:Cx}{st:Stmt}{rest:List Stmt}{t u:TS}{e:Expr}{te:TE}{pos:Pos}
noncomputable def adb:TS:=λD σ H=>D.nx σ H
noncomputable def Vq (t u:TS):TS:=λD σ H=>t { D with nx:=u D } σ H
theorem aU:fY X [] adb:=λ_ _ σ H _ I h=>wpAny_execs_nil ⟨σ,H,I,h⟩
theorem ao (h1:PS X st t)(h2:fY X rest u):fY X (st::rest) (Vq t u):=by
 intro pins s σ H D I h
 refine wpAny_execs_cons (aP (h1 pins s σ H { D with nx:=u D } I h) λf s1 q=>?_)
 cases f with
 |next=>
  obtain⟨σ',H',I',q⟩:=q
  exact h2 pins s1 σ' H' D I' q
 |ret v=>exact q
 |brk=>exact q
 |cont=>exact q
theorem aB (h1:PS X st t):fY X [st] t:=by
 intro pins s σ H D I h
 refine wpAny_execs_cons (aP (h1 pins s σ H D I h) λf s1 q=>?_)
 cases f with
 |next=>exact wpAny_execs_nil q
 |ret v=>exact q
 |brk=>exact q
 |cont=>exact q
theorem Inv.quiet {pins:List (Addr × Obj)}{σ:St}{H:Hp}{s:Shared}(I:Inv X pins σ H s):interactive X.env=false:=by simp[interactive,I.ok.kind]
noncomputable def ade (te:TE):TS:=λD σ H=>te σ H λ_ H1=>D.nx σ H1
theorem iB (he:PE X e te)(hs:swapsWith e none pos.line X.env=pure false:=by rfl):PS X (.Expr e pos) (ade te):=by
 intro pins s σ H D I h
 exact wpAny_Expr_any (aP (he pins s σ H _ I h) λv s1 ⟨x,H1,I1,r1,q1⟩=>⟨σ,H1,I1,q1⟩) I.quiet hs
noncomputable def Et (te:TE):TS:=λD σ H=>te σ H D.rt
theorem aN (he:PE X e te):PS X (.Return (some e) pos) (Et te):=by
 intro pins s σ H D I h
 exact wpAny_Return_some (aP (he pins s σ H _ I h) λv s1 ⟨x,H1,I1,r1,q1⟩=>⟨x,σ,H1,I1,r1,q1⟩)
noncomputable def vO (c:TT) (t u:TS):TS:=λD σ H=>c σ H λb H1=>if b=true then t D σ H1 else u D σ H1
theorem aV {c:Expr}{a b:List Stmt}{tc:TT}(hc:PT X c tc)(ha:fY X a t)(hb:fY X b u):PS X (.If c a b pos) (vO tc t u):=by
 intro pins s σ H D I h
 refine wpAny_If (aP (hc pins s σ H _ I h) λd s1 ⟨H1,I1,q1⟩=>?_)
 cases d with
 |true=>exact ha pins s1 σ H1 D I1 q1
 |false=>exact hb pins s1 σ H1 D I1 q1
noncomputable def Vr:TS:=λ_ _ _=>False
theorem aM:PS X st Vr:=λ_ _ _ _ _ _ h=>h.elim
theorem adf {sts:List Stmt}:fY X sts Vr:=λ_ _ _ _ _ _ h=>h.elim
end
noncomputable abbrev TG:=V->St->Hp->(St->Hp->Prop)->Prop
noncomputable abbrev qC:=List V->St->Hp->(St->Hp->Prop)->Prop
noncomputable def PG (X:Cx) (target:Expr) (t:TG):Prop:=
 ∀(pins:List (Addr × Obj)) (s:Shared) (σ:St) (H:Hp) (v:V) (u:Value) (Q:St->Hp->Prop),Inv X pins σ H s->RelV v u->t v σ H Q->
  wpAny (model X.prog X.w) X.A (assign target X.env u) (λ_ s'=>∃σ' H',Inv X pins σ' H' s'/\Q σ' H') X.xe s
noncomputable def zB (X:Cx) (ts:List Expr) (t:qC):Prop:=
 ∀(pins:List (Addr × Obj)) (s:Shared) (σ:St) (H:Hp) (vs:List V) (us:List Value) (Q:St->Hp->Prop),Inv X pins σ H s->Vals vs us->t vs σ H Q->
  wpAny (model X.prog X.w) X.A (assignInOrder ((assignEach ts X.env).map (·.2)) us) (λ_ s'=>∃σ' H',Inv X pins σ' H' s'/\Q σ' H') X.xe s
noncomputable abbrev Eu:=V->V->V->Hp->(Hp->Prop)->Prop
noncomputable def Vs (X:Cx) (t:Eu):Prop:=
 ∀(pins:List (Addr × Obj)) (s:Shared) (σ:St) (H:Hp) (o i v:V) (ov iv u:Value) (Q:Hp->Prop),Inv X pins σ H s->RelV o ov->RelV i iv->RelV v u->t o i v H Q->
  wpAny (model X.prog X.w) X.A (setItem ov iv u) (λ_ s'=>∃H',Inv X pins σ H' s'/\Q H') X.xe s
section
variable {X:Cx}{pos:Pos}
noncomputable def cL (i:Nat):TG:=λv σ H Q=>Q (σ.set i (some v)) H
theorem bH {i:Nat}{x:Str}(hN:X.N.Nodup)(hi:X.N[i]? =some x)(hx:Loc X.env.scope x)(hf:X.fn x=true\/X.env.scope.names.lookup x=some .local:=by first|exact .inl rfl|exact .inr rfl|assumption):PG X (.Name x pos) (cL i):=by
 intro pins s σ H v u Q I r h
 exact wpAny_assign_Name (sW I hN hi hx r (λs' I'=>⟨_,H,I',h⟩) hf)
noncomputable def qD:qC:=λvs σ H Q=>vs=[]/\Q σ H
noncomputable def jr (t:TG) (u:qC):qC:=λvs σ H Q=>∃v r,vs=v::r/\t v σ H λσ' H'=>u r σ' H' Q
theorem f9:zB X [] qD:=by
 intro pins s σ H vs us Q I r h
 obtain⟨e,h⟩:=h
 subst e
 cases r
 exact assignInOrder_nil ⟨σ,H,I,h⟩
theorem cF {e:Expr}{es:List Expr}{t:TG}{u:qC}(h1:PG X e t)(h2:zB X es u)
 (hs:(assignEach (e::es) X.env).map (·.2)=assign e X.env::(assignEach es X.env).map (·.2):=by rfl):zB X (e::es) (jr t u):=by
 intro pins s σ H vs us Q I r h
 obtain⟨v,vr,e1,h⟩:=h
 subst e1
 cases r with
 |cons r rr=>
  rw[hs]
  refine assignInOrder_cons (aP (h1 pins s σ H _ _ _ I r h) λ_ s1 ⟨σ1,H1,I1,q1⟩=>?_)
  exact h2 pins s1 σ1 H1 _ _ Q I1 rr q1
noncomputable def qF (K:W.Frag) (n:Nat) (t:qC):TG:=λv σ H Q=>∃a xs,v=.ref a/\aD K H a xs/\xs.length=n/\t xs σ H Q
theorem gh {es:List Expr}{k:Nat}{t:qC}{n:Nat}(hc:X.calm=true)(h:zB X es t)
 (hn:(assignEach es X.env).length=n:=by rfl) (hst:(assignEach es X.env).findIdx? (·.1)=none:=by rfl):PG X (.Tuple es k pos) (qF X.K n t):=by
 intro pins s σ H v u Q I r hw
 obtain⟨a,xs,e1,hq,hl,hw⟩:=hw
 subst e1
 cases r
 obtain⟨its,rv,ht,hz⟩:=I.tuple hq
 refine assign_Tuple_tuple (I.ok.hd hc) ht (by simp[hn,<-hl,rv.length]) hst λh' hx=>?_
 have I1:Inv X pins σ H { s with heap:=h' }:=I.kept (t':=s.toks) λb o e=>hx b o (Q08 (Q01 e)) e
 exact h pins _ σ H xs _ Q I1 (by simpa using rv) hw
noncomputable def adg (to ti:TE) (t:Eu):TG:=λv σ H Q=>to σ H λo H1=>ti σ H1 λi H2=>t o i v H2 λH3=>Q σ H3
theorem adh {o i:Expr}{to ti:TE}{t:Eu}(ho:PE X o to)(hi:PE X i ti)(hs:Vs X t)
 (ha:∀v,assign (.Subscript o i pos) X.env v=(do
   let ov <-holding [v] (eval o X.env)
   let iv <-holding [v,ov] (eval i X.env)
   standAt pos
   holding [v,ov,iv] (setItem ov iv v)
   release [v,ov,iv] []):=by intro _;rfl):PG X (.Subscript o i pos) (adg to ti t):=by
 intro pins s σ H v u Q I r h
 rw[ha]
 refine Q00 (wpAny_holding (aP (ho pins s σ H _ I h) λov s1 ⟨x,H1,I1,r1,q1⟩=>?_))
 refine Q00 (wpAny_holding (aP (hi pins s1 σ H1 _ I1 q1) λiv s2 ⟨y,H2,I2,r2,q2⟩=>?_))
 refine Q00 (wpAny_standAt (Q00 (wpAny_holding (aP (hs pins s2 σ H2 x y v ov iv u _ I2 r1 r2 r q2) λ_ s3 ⟨H3,I3,q3⟩=>?_))))
 exact wpAny_release ⟨σ,H3,I3,q3⟩
noncomputable def mV (te:TE) (g:TG):TS:=λD σ H=>te σ H λx H1=>g x σ H1 D.nx
theorem sY {tg e:Expr}{te:TE}{g:TG}(he:PE X e te)(hg:PG X tg g)(hs:swapsWithSole [tg] e pos.line X.env=pure false:=by rfl)(hw:swappedStores [tg] e X.env=pure none:=by rfl)
 (h1:(assignEach [tg] X.env).map (·.2)=[assign tg X.env]:=by rfl):PS X (.Assign [tg] e pos) (mV te g):=by
 intro pins s σ H D I h
 refine wpAny_Assign_stores (aP (he pins s σ H _ I h) λv s1 ⟨x,H1,I1,r1,q1⟩=>?_) hs hw
 rw[h1]
 exact aP (hg pins s1 σ H1 x v _ I1 r1 q1) λ_ s2 q=>q
theorem bf {i:Nat}{x:Str}{e:Expr}{te:TE}{pos':Pos}(hN:X.N.Nodup)(hi:X.N[i]? =some x)(hx:Loc X.env.scope x)(he:PE X e te)(hs:swapsWith e (some (.Name x pos')) pos.line X.env=pure false:=by rfl)(hf:X.fn x=true\/X.env.scope.names.lookup x=some .local:=by first|exact .inl rfl|exact .inr rfl|assumption):
 PS X (.Assign [.Name x pos'] e pos) (mV te (cL i)):=by
 intro pins s σ H D I h
 refine wpAny_Assign_Name (aP (he pins s σ H _ I h) λv s1 ⟨y,H1,I1,r1,q1⟩=>?_) hs
 exact sW I1 hN hi hx r1 (λs2 I2=>⟨_,H1,I2,q1⟩) hf
end
section
variable {X:Cx}{pos:Pos}
end
structure It where
 go:Nat->Hp->Prop
 mW:Nat->Hp->V->Hp->Prop
 stop:Nat->Hp->Prop
noncomputable def fU (X:Cx) (pins:List (Addr × Obj)) (H:Hp) (b:Addr):Prop:=
 H b=none/\b≠X.env.locals/\b ∉ X.fs/\(b∈X.ex\/X.s₀.heap.objs.size<=b)/\(∀x c,X.env.cells.lookup x=some c->c≠b)/\∀p∈X.pn++pins,p.1≠b
theorem Inv.k_ {X:Cx}{pins:List (Addr × Obj)}{σ:St}{H H':Hp}{s:Shared}{b:Addr}(I:Inv X pins σ H s)(hb:s.heap.objs.size<=b)(hn:H' b=none):fU X pins H' b:=by
 refine⟨hn,Q0m (Q0a I.lt hb),I.sU hb,.inr (Q0e I.sz hb),λx c e z=>?_,λp hp z=>?_⟩
 . obtain⟨v,q⟩:=I.cell x c e
   exact absurd (Q0a q.lt (by rw[z];exact hb)) (Q0l _)
 . exact absurd (Q0a (Q01 (I.pin p hp).1) (by rw[z];exact hb)) (Q0l _)
structure Turn (P:Program) (w:World) (K:W.Frag) (tg:Expr) (J:It) (fp:List Addr) (it:Addr) (tn:Nat->Heap->Prop):Prop where
 mem:it∈fp
 obj:∀i h,tn i h->∀b∈fp,∃o,h.get? b=some o/\∀v,o.data≠ .cell v
 keep:∀i h h',tn i h->(∀b∈fp,∀o,h.get? b=some o->h'.get? b=some o)->tn i h'
 item:∀(X:Cx),X.prog=P->X.w=w->X.K=K->X.calm=true->∀(i:Nat) (pins:List (Addr × Obj)) (s:Shared) (σ:St) (H:Hp) (E:Value->Shared->Prop),Inv X pins σ H s->(∀b∈fp,fU X pins H b)->tn i s.heap->J.go i H->
  wpAny (model P w) X.A (pyNext (.ref it)) (λr s1=>∃u,r=some u/\
   wpAny (model P w) X.A (letOwnedTupleGo tg (.ref it) u) (λ_ s2=>∃x H',Inv X pins σ H' s2/\RelV x u/\J.mW i H x H'/\tn (i+1) s2.heap/\∀b∈fp,H' b=none) E s1) E s
 done:∀(X:Cx),X.prog=P->X.w=w->X.K=K->X.calm=true->∀(i:Nat) (pins:List (Addr × Obj)) (s:Shared) (σ:St) (H:Hp) (E:Value->Shared->Prop),Inv X pins σ H s->(∀b∈fp,fU X pins H b)->tn i s.heap->J.stop i H->
  wpAny (model P w) X.A (pyNext (.ref it)) (λr s1=>r=none/\Inv X pins σ H s1) E s
 self:∀(A:Around) (i:Nat) (s:Shared) (Q:Value->Shared->Prop) (E:Value->Shared->Prop),tn i s.heap->Q (.ref it) s->wpAny (model P w) A (pyIter (.ref it)) Q E s
noncomputable abbrev TI:=St->Hp->(It->Hp->Prop)->Prop
noncomputable def PIE (X:Cx) (pins:List (Addr × Obj)) (σ:St) (tg:Expr) (R:It->Hp->Prop) (itv:Value) (s2:Shared):Prop:=
 ∃(it:Addr) (fp:List Addr) (tn:Nat->Heap->Prop) (J:It) (H':Hp),itv=.ref it/\Inv X pins σ H' s2/\Turn X.prog X.w X.K tg J fp it tn/\tn 0 s2.heap/\(∀b∈fp,fU X pins H' b)/\R J H'
noncomputable def PI (X:Cx) (tg iter:Expr) (wi:TI):Prop:=
 ∀(pins:List (Addr × Obj)) (s:Shared) (σ:St) (H:Hp) (R:It->Hp->Prop),Inv X pins σ H s->wi σ H R->
  wpAny (model X.prog X.w) X.A (eval iter X.env) (λv s1=>wpAny (model X.prog X.w) X.A (pyIter v) (PIE X pins σ tg R) X.xe s1) X.xe s
theorem vP {M:Model}{A:Around}{E:Value->Shared->Prop}{s:Shared}{tg:Expr}{it:Addr}{u:Value}{o:Obj}{n:String}{vs:Array Value}{Q:Unit->Shared->Prop}(ho:s.heap.get? it=some o)(hc:o.cls=.type n)(hd:o.data=.fields vs)
 (hn:["enumerate","zip","dict_itemiterator","dict_reverseitemiterator","odict_iterator","itertools.zip_longest","itertools.pairwise"].contains n=false) (hQ:Q () s):wpAny M A (letOwnedTupleGo tg (.ref it) u) Q E s:=by
 unfold letOwnedTupleGo
 cases tg <;> first
  |exact Q03 hQ
  |(cases u <;> first
     |exact Q03 hQ
     |(refine Q00 (wpAny_load ho ?_)
       rw[hc,hd]
       show wpAny M A (if(["enumerate","zip","dict_itemiterator","dict_reverseitemiterator","odict_iterator","itertools.zip_longest","itertools.pairwise"].contains n && vs[0]? == some (rawInt _))=true then _ else _) Q E s
       rw[if_neg (by intro h;rw[hn,Bool.false_and] at h;cases h)]
       exact Q03 hQ))
noncomputable def vQ (K:W.Frag) (a:Addr):It:=
 ⟨λi H=>∃xs x,aG K H a xs/\xs[i]? =some x,λi H x H'=>H'=H/\∀xs,aG K H a xs->xs[i]? =some x,λi H=>∃xs,aG K H a xs/\xs.length<=i⟩
noncomputable def vR (K:W.Frag) (a:Addr):It:=
 ⟨λi H=>∃xs x,aD K H a xs/\xs[i]? =some x,λi H x H'=>H'=H/\∀xs,aD K H a xs->xs[i]? =some x,λi H=>∃xs,aD K H a xs/\xs.length<=i⟩
noncomputable def qG (lo:Int) (n:Nat):It:=⟨λi _=>i<n,λi H x H'=>H'=H/\x=.int (lo+i),λi _=>n<=i⟩
theorem adi {P:Program}{w:World}{K:W.Frag}{tg:Expr}(a it:Addr):Turn P w K tg (vQ K a) [it] it (λi h=>h.IsListIter it a i) where
 mem:=by simp
 obj:=λi h st b hb=>by
  have e:b=it:=by simpa using hb
  subst e
  obtain⟨o,e,c,d⟩:=st
  exact⟨o,e,λv z=>by rw[d] at z;cases z⟩
 keep:=λi h h' st k=>st.at λo e=>k it (by simp) o e
 item:=by
  intro X hP hw hK hc i pins s σ H E I hf st hg
  subst hP hw hK
  obtain⟨xs,x,hq,hx⟩:=hg
  obtain⟨its,rv,p,hz⟩:=I.list hq
  obtain⟨u,hu,ru⟩:=rv.get hx
  obtain⟨f0,f1,f2,f3,f4,f5⟩:=hf it (by simp)
  refine wpAny_pyNext_list_item st p.isList (x:=u) (by simpa using hu) λh' st' sb=>?_
  have I1:Inv X pins σ H { s with heap:=h' }:=I.turned (t':=s.toks) (λb o hb e=>(sb.2 b hb).trans e) f0 f1 f3 f4 f5
  obtain⟨o,e,c,d⟩:=id st'
  exact⟨u,rfl,vP (s:={ s with heap:=h' }) e c d (by decide) ⟨x,H,I1,ru,⟨rfl,λys hy=>by rw[I.vN hy hq];exact hx⟩,st',λb hb=>(hf b hb).1⟩⟩
 done:=by
  intro X hP hw hK hc i pins s σ H E I hf st hg
  subst hP hw hK
  obtain⟨xs,hq,hx⟩:=hg
  obtain⟨its,rv,p,hz⟩:=I.list hq
  obtain⟨f0,f1,f2,f3,f4,f5⟩:=hf it (by simp)
  have hl:=rv.length
  exact wpAny_pyNext_list_end (I.ok.hd hc) st p.isList (by simp;omega) λh' eb=>⟨rfl,I.turned (t':=s.toks) (λb o hb e=>eb b o hb e) f0 f1 f3 f4 f5⟩
 self:=λ_ _ _ _ _ st h=>wpAny_pyIter_listiter st h
theorem adk {P:Program}{w:World}{K:W.Frag}{tg:Expr}(a it:Addr):Turn P w K tg (vR K a) [it] it (λi h=>h.IsTupleIter it a i) where
 mem:=by simp
 obj:=λi h st b hb=>by
  have e:b=it:=by simpa using hb
  subst e
  obtain⟨o,e,c,d⟩:=st
  exact⟨o,e,λv z=>by rw[d] at z;cases z⟩
 keep:=λi h h' st k=>st.at λo e=>k it (by simp) o e
 item:=by
  intro X hP hw hK hc i pins s σ H E I hf st hg
  subst hP hw hK
  obtain⟨xs,x,hq,hx⟩:=hg
  obtain⟨its,rv,p,hz⟩:=I.tuple hq
  obtain⟨u,hu,ru⟩:=rv.get hx
  obtain⟨f0,f1,f2,f3,f4,f5⟩:=hf it (by simp)
  refine wpAny_pyNext_tuple_item st (show s.heap.IsTuple a its.toArray from p) (x:=u) (by simpa using hu) λh' st' sb=>?_
  have I1:Inv X pins σ H { s with heap:=h' }:=I.turned (t':=s.toks) (λb o hb e=>(sb.2 b hb).trans e) f0 f1 f3 f4 f5
  obtain⟨o,e,c,d⟩:=id st'
  exact⟨u,rfl,vP (s:={ s with heap:=h' }) e c d (by decide) ⟨x,H,I1,ru,⟨rfl,λys hy=>by rw[I.Es hy hq];exact hx⟩,st',λb hb=>(hf b hb).1⟩⟩
 done:=by
  intro X hP hw hK hc i pins s σ H E I hf st hg
  subst hP hw hK
  obtain⟨xs,hq,hx⟩:=hg
  obtain⟨its,rv,p,hz⟩:=I.tuple hq
  obtain⟨f0,f1,f2,f3,f4,f5⟩:=hf it (by simp)
  have hl:=rv.length
  exact wpAny_pyNext_tuple_end (I.ok.hd hc) st (show s.heap.IsTuple a its.toArray from p) (by simp;omega) λh' eb=>⟨rfl,I.turned (t':=s.toks) (λb o hb e=>eb b o hb e) f0 f1 f3 f4 f5⟩
 self:=λ_ _ _ _ _ st h=>wpAny_pyIter_tupleiter st h
theorem adl {P:Program}{w:World}{K:PySem.W.Frag}{tg:Expr}(it:Addr)(lo:Int)(n:Nat):Turn P w K tg (qG lo n) [it] it (λi h=>IsRangeIter h it (lo+(i:Nat) * 1) ((n:Int) - (i:Nat)) 1) where
 mem:=by simp
 obj:=λi h st b hb=>by
  have e:b=it:=by simpa using hb
  subst e
  exact⟨_,st,λv z=>by
   have z':Data.fields _=Data.cell v:=z
   cases z'⟩
 keep:=λi h h' st k=>k it (by simp) _ st
 item:=by
  intro X hP hw hK hc i pins s σ H E I hf st hg
  subst hP hw hK
  obtain⟨f0,f1,f2,f3,f4,f5⟩:=hf it (by simp)
  have W:=Walks.range (prog:=X.prog) (w:=X.w) (I.ok.hd hc) it lo 1 n
  refine W.item i s _ _ hg st λv h' tk hv st' kk=>?_
  obtain⟨t,rfl⟩:=hv
  have I1:Inv X pins σ H { s with heap:=h',toks:=tk }:=I.turned (λb o hb e=>kk b o (by simpa using hb) e) f0 f1 f3 f4 f5
  refine⟨_,rfl,vP (s:={ s with heap:=h',toks:=tk }) (n:="range_iterator") st' rfl rfl (by decide) ⟨.int (lo+i),H,I1,⟨t,?_⟩,⟨rfl,rfl⟩,st',λb hb=>(hf b hb).1⟩⟩
  rw[Int.mul_one]
 done:=by
  intro X hP hw hK hc i pins s σ H E I hf st hg
  subst hP hw hK
  obtain⟨f0,f1,f2,f3,f4,f5⟩:=hf it (by simp)
  exact wpAny_pyNext_range_end (I.ok.hd hc) st (by have:n<=i:=hg;omega) λh' eb=>⟨rfl,I.turned (t':=s.toks) (λb o hb e=>eb b o hb e) f0 f1 f3 f4 f5⟩
 self:=λ_ _ _ _ _ st h=>wpAny_pyIter_rangeiter st h
section
variable {X:Cx}{tg:Expr}
noncomputable def Vt (K:W.Frag) (tl:TE):TI:=λσ H R=>tl σ H λx H1=>∃a,x=.ref a/\(∃xs,aG K H1 a xs)/\R (vQ K a) H1
noncomputable def adn (K:W.Frag) (tl:TE):TI:=λσ H R=>tl σ H λx H1=>∃a,x=.ref a/\(∃xs,aD K H1 a xs)/\R (vR K a) H1
theorem o_ {l:Expr}{tl:TE}(hl:PE X l tl):PI X tg l (Vt X.K tl):=by
 intro pins s σ H R I h
 refine aP (hl pins s σ H _ I h) λv s1 ⟨x,H1,I1,r1,q1⟩=>?_
 obtain⟨a,e,⟨xs,hq⟩,q⟩:=q1
 subst e
 cases r1
 obtain⟨its,rv,p,hz⟩:=I1.list hq
 refine wpAny_pyIter_list p.isList ?_
 refine⟨s1.heap.objs.size,[s1.heap.objs.size],_,_,H1,rfl,I1.kept (t':=s1.toks) λb o e=>Q04 _ e,adi a _,⟨_,Q0c _ rfl,rfl,rfl⟩,λb hb=>?_,q⟩
 have e:b=s1.heap.objs.size:=by simpa using hb
 subst e
 exact I1.k_ (Q02 _) (I1.hok.fresh (Q02 _))
theorem lg {l:Expr}{tl:TE}(hl:PE X l tl):PI X tg l (adn X.K tl):=by
 intro pins s σ H R I h
 refine aP (hl pins s σ H _ I h) λv s1 ⟨x,H1,I1,r1,q1⟩=>?_
 obtain⟨a,e,⟨xs,hq⟩,q⟩:=q1
 subst e
 cases r1
 obtain⟨its,rv,p,hz⟩:=I1.tuple hq
 refine wpAny_pyIter_tuple (show s1.heap.IsTuple a its.toArray from p) ?_
 refine⟨s1.heap.objs.size,[s1.heap.objs.size],_,_,H1,rfl,I1.kept (t':=s1.toks) λb o e=>Q04 _ e,adk a _,⟨_,Q0c _ rfl,rfl,rfl⟩,λb hb=>?_,q⟩
 have e:b=s1.heap.objs.size:=by simpa using hb
 subst e
 exact I1.k_ (Q02 _) (I1.hok.fresh (Q02 _))
theorem Vu {pins:List (Addr × Obj)}{σ:St}{H:Hp}{s:Shared}{R:It->Hp->Prop}{E:Value->Shared->Prop}{lo hi:Int}{t u v:Tok}{tk:Nat}(I:Inv X pins σ H s)(h1: -(2 ^ 62)<=lo)(h2:lo<2 ^ 62)(h3: -(2 ^ 62)<=hi)(h4:hi<2 ^ 62)
 (q:R (qG lo (hi - lo).toNat) H):wpAny (model X.prog X.w) X.A (pyIter (.ref s.heap.objs.size)) (PIE X pins σ tg R) E { s with heap:=s.heap.push { cls:=.type "range",data:=.fields #[.int lo t,.int hi u,.int 1 v] },toks:=tk }:=by
 refine wpAny_pyIter_range (IsRange.new ..) (small_one h1 h2 h3 h4) ?_
 have I1:Inv X pins σ H { s with heap:=s.heap.push { cls:=.type "range",data:=.fields #[.int lo t,.int hi u,.int 1 v] },toks:=tk }:=I.kept λb o e=>Q04 _ e
 refine⟨(s.heap.push { cls:=.type "range",data:=.fields #[.int lo t,.int hi u,.int 1 v] }).objs.size,[(s.heap.push { cls:=.type "range",data:=.fields #[.int lo t,.int hi u,.int 1 v] }).objs.size],_,_,H,rfl,
  I1.kept (t':=tk) λb o e=>Q04 _ e,adl _ lo (hi - lo).toNat,?_,λb hb=>?_,q⟩
 . have e1:lo+((0:Nat):Int) * 1=lo:=by simp
   have e2:(((hi - lo).toNat:Nat):Int) - ((0:Nat):Int)=Builtin.Range.rangeSize lo hi 1:=by rw[rangeSize_one];split <;> omega
   show IsRangeIter _ _ (lo+((0:Nat):Int) * 1) ((((hi - lo).toNat:Nat):Int) - ((0:Nat):Int)) 1
   rw[e1,e2]
   exact Q0c _ rfl
 . have e:b=(s.heap.push { cls:=.type "range",data:=.fields #[.int lo t,.int hi u,.int 1 v] }).objs.size:=by simpa using hb
   subst e
   exact I1.k_ (Q02 _) (I1.hok.fresh (Q02 _))
noncomputable def Vv (ta:TA):TI:=λσ H R=>ta σ H λvs H1=>∃j:Int,vs=[.int j]/\ -(2 ^ 62)<=j/\j<2 ^ 62/\R (qG 0 j.toNat) H1
noncomputable def ado (ta:TA):TI:=λσ H R=>ta σ H λvs H1=>∃i j:Int,vs=[.int i,.int j]/\(-(2 ^ 62)<=i/\i<2 ^ 62/\ -(2 ^ 62)<=j/\j<2 ^ 62)/\R (qG i (j - i).toNat) H1
theorem zE {a:Expr}{ta:TA}{p pos:Pos}(hg:Gl X "range")(hm:X.mg "range"=none)(ha:PA X [a] ta)(hs:starEach [a] X.env=[(false,eval a X.env)]:=by rfl):PI X tg (.Call (.Name "range" p) [a] [] pos) (Vv ta):=by
 intro pins s σ H R I h
 refine Call_ (jM I hg hm boot_range (PyProof.Rows.callWith_type1 (aP (ha pos pins s σ H _ I h) λus s1 ⟨vs,H1,I1,r1,q1⟩=>?_) hs rfl))
 obtain⟨j,e,q1,q2,q⟩:=q1
 subst e
 cases r1 with
 |cons r rr=>
  cases rr
  obtain⟨t,rfl⟩:=r
  exact call_range_1 (Vu I1 (by omega) (by omega) q1 q2 (by simpa using q))
theorem adp {a b:Expr}{ta:TA}{p pos:Pos}(hg:Gl X "range")(hm:X.mg "range"=none)(ha:PA X [a,b] ta)(hs:starEach [a,b] X.env=[(false,eval a X.env),(false,eval b X.env)]:=by rfl)(hs2:starEach [b] X.env=[(false,eval b X.env)]:=by rfl):
 PI X tg (.Call (.Name "range" p) [a,b] [] pos) (ado ta):=by
 intro pins s σ H R I h
 refine Call_ (jM I hg hm boot_range (PyProof.Rows.callWith_type1 (aP (ha pos pins s σ H _ I h) λus s1 ⟨vs,H1,I1,r1,q1⟩=>?_) (by rw[hs,hs2]) (by rw[hs2];rfl)))
 obtain⟨i,j,e,⟨q1,q2,q3,q4⟩,q⟩:=q1
 subst e
 cases r1 with
 |cons r rr=>
  cases rr with
  |cons r' rr=>
   cases rr
   obtain⟨t,rfl⟩:=r
   obtain⟨t',rfl⟩:=r'
   exact call_range_2 (Vu I1 q1 q2 q3 q4 q)
noncomputable def adq (wi:TI) (g:TG) (tb:TS):TS:=λD σ H=>wi σ H λJ H1=>∃W:Nat->Nat->St->Hp->Prop,(∃m,W 0 m σ H1)/\∀i m σ H,W i m σ H->
 (J.stop i H/\D.nx σ H)\/(J.go i H/\∃N:St->Hp->Prop,(∀σ' H',N σ' H'->∃m',m'<m/\W (i+1) m' σ' H')/\∀x H',J.mW i H x H'->g x σ H' λσ2 H2=>tb { D with nx:=N,ct:=N,bk:=D.nx } σ2 H2)
noncomputable def zF (fp:List Addr) (h:Heap):List (Addr × Obj):=fp.filterMap λb=>(h.get? b).map λo=>(b,o)
theorem vU {fp:List Addr}{h:Heap}{b:Addr}{o:Obj}(hb:b∈fp)(e:h.get? b=some o):(b,o)∈zF fp h:=List.mem_filterMap.mpr ⟨b,hb,by rw[e];rfl⟩
theorem adt {fp:List Addr}{h:Heap}{p:Addr × Obj}(hp:p∈zF fp h):p.1∈fp/\h.get? p.1=some p.2:=by
 obtain⟨b,hb,e⟩:=List.mem_filterMap.mp hp
 cases q:h.get? b with
 |none=>rw[q] at e;cases e
 |some o=>
  rw[q] at e
  have e':(b,o)=p:=Option.some.inj e
  subst e'
  exact⟨hb,q⟩
theorem Inv.pinned {pins:List (Addr × Obj)}{σ:St}{H:Hp}{s:Shared}{fp:List Addr}(I:Inv X pins σ H s)(hf:∀b∈fp,fU X pins H b)(ho:∀b∈fp,∃o,s.heap.get? b=some o/\∀v,o.data≠ .cell v):Inv X (pins++zF fp s.heap) σ H s:=
 I.qz λp hp=>(List.mem_append.mp hp).elim (λz=>I.pin p (Q0d _ z)) λz=>by
   obtain⟨hb,e⟩:=adt z
   obtain⟨f0,f1,f2,_⟩:=hf p.1 hb
   obtain⟨o,e',d⟩:=ho p.1 hb
   rw[e] at e';cases e'
   exact⟨e,f0,f1,f2,d⟩
theorem Inv.pA {pins pl:List (Addr × Obj)}{σ:St}{H:Hp}{s:Shared}(I:Inv X (pins++pl) σ H s):Inv X pins σ H s:=I.qz λp hp=>I.pin p (Q0d _ (Q1n _ hp))
theorem iW {iter:Expr}{body:List Stmt}{wi:TI}{g:TG}{tb:TS}{pos:Pos}(hp:PassesOwn (model X.prog X.w) X.A X.env X.xe)(hc:X.calm=true)(hi:PI X tg iter wi)(hg:PG X tg g)(hb:fY X body tb)
 (hs:∀x,foldedSetIterable iter X.env x=pure x:=by intro _;rfl):PS X (.For tg iter body [] pos) (adq wi g tb):=by
 intro pins s σ H D I h
 refine wpAny_For (aP (hi pins s σ H _ I h) λv s1 h1=>aP h1 λitv s2 h2=>?_) hs
 obtain⟨it,fp,tn,J,H2,e,I2,T,st2,f2,W,⟨m0,w0⟩,turn⟩:=h2
 subst e
 have stat:∀{H':Hp},(∀b∈fp,H' b=none)->∀b∈fp,fU X pins H' b:=λhn b hb=>⟨hn b hb,(f2 b hb).2⟩
 refine codeAny_forLoop_any (λn s'=>∃i σ' H',Inv X pins σ' H' s'/\tn i s'.heap/\(∀b∈fp,H' b=none)/\W i n σ' H') ?_ m0 ⟨0,σ,H2,I2,st2,λb hb=>(f2 b hb).1,w0⟩
 rintro n s3 ⟨i,σ3,H3,I3,st3,zG,w3⟩
 rcases turn i n σ3 H3 w3 with⟨stop,qn⟩|⟨go,N,hN,step⟩
 . refine wpAny_passesOwn hp (aP (T.done X rfl rfl rfl hc i pins s3 σ3 H3 X.xe I3 (stat zG) st3 stop) λr s4 ⟨hr,I4⟩=>?_)
   subst hr
   exact wpAny_execs_nil ⟨σ3,H3,I4,qn⟩
 . refine wpAny_passesOwn hp (aP (T.item X rfl rfl rfl hc i pins s3 σ3 H3 X.xe I3 (stat zG) st3 go) λr s4 ⟨u,hr,h4⟩=>?_)
   subst hr
   refine wpAny_passesOwn hp (aP h4 λ_ s5 ⟨x,H5,I5,r5,y5,Ew,fr5⟩=>?_)
   have I5':=I5.pinned (stat fr5) (T.obj _ _ Ew)
   refine wpAny_passesOwn hp (aP (hg _ s5 σ3 H5 x u _ I5' r5 (step x H5 y5)) λ_ s6 ⟨σ6,H6,I6,q6⟩=>?_)
   refine wpAny_passesOwn hp (aP (hb _ s6 σ6 H6 _ I6 q6) λf s7 q7=>?_)
   have again:∀{σ7:St} {H7:Hp},Inv X (pins++zF fp s5.heap) σ7 H7 s7->N σ7 H7->∃m,m<n/\∃i σ' H',Inv X pins σ' H' s7/\tn i s7.heap/\(∀b∈fp,H' b=none)/\W i m σ' H':=λ{σ7 H7} I7 n7=>by
    obtain⟨m',hm,w7⟩:=hN σ7 H7 n7
    refine⟨m',hm,i+1,σ7,H7,I7.pA,T.keep _ _ _ Ew λb hb o e=>(I7.pin (b,o) (Q0d _ (Q0d _ (vU hb e)))).1,λb hb=>?_,w7⟩
    obtain⟨o,e,d⟩:=T.obj _ _ Ew b hb
    exact(I7.pin (b,o) (Q0d _ (Q0d _ (vU hb e)))).2.1
   cases f with
   |next=>obtain⟨σ7,H7,I7,n7⟩:=q7;exact again I7 n7
   |cont=>obtain⟨σ7,H7,I7,n7⟩:=q7;exact again I7 n7
   |brk=>obtain⟨σ7,H7,I7,q7⟩:=q7;exact⟨σ7,H7,I7.pA,q7⟩
   |ret v=>obtain⟨x7,σ7,H7,I7,r7,q7⟩:=q7;exact⟨x7,σ7,H7,I7.pA,r7,q7⟩
end
theorem Ey {K:PySem.W.Frag}{a:Addr}{xs:List V}{g:TG}{tb:TS}{D:Ends}{σ:St}{H:Hp}(Pv:Nat->St->Hp->Prop)(h0:Pv 0 σ H)(hl:∀i σ H,i<=xs.length->Pv i σ H->aG K H a xs)
 (hs:∀i x σ H,xs[i]? =some x->Pv i σ H->g x σ H λσ2 H2=>tb { D with nx:=Pv (i+1),ct:=Pv (i+1),bk:=D.nx } σ2 H2) (hd:∀σ H,Pv xs.length σ H->D.nx σ H):
 ∃W:Nat->Nat->St->Hp->Prop,(∃m,W 0 m σ H)/\∀i m σ H,W i m σ H->
  ((vQ K a).stop i H/\D.nx σ H)\/((vQ K a).go i H/\∃N:St->Hp->Prop,(∀σ' H',N σ' H'->∃m',m'<m/\W (i+1) m' σ' H')/\∀x H',(vQ K a).mW i H x H'->g x σ H' λσ2 H2=>tb { D with nx:=N,ct:=N,bk:=D.nx } σ2 H2):=by
 refine⟨λi m σ H=>m=xs.length - i/\i<=xs.length/\Pv i σ H,⟨xs.length,by simp,Q0b _,h0⟩,?_⟩
 rintro i m σ H ⟨rfl,hi,p⟩
 have q:=hl i σ H hi p
 by_cases hlt:i<xs.length
 . refine .inr ⟨⟨xs,xs[i],q,by simp[hlt]⟩,Pv (i+1),λσ' H' p'=>⟨xs.length - (i+1),by omega,rfl,hlt,p'⟩,λx H' y=>?_⟩
   obtain⟨e,y⟩:=y
   subst e
   exact hs i x σ _ (y xs q) p
 . have e:i=xs.length:=by omega
   subst e
   exact .inl ⟨⟨xs,q,Q02 _⟩,hd σ H p⟩
theorem sZ {K:PySem.W.Frag}{a:Addr}{xs:List V}{g:TG}{tb:TS}{D:Ends}{σ:St}{H:Hp}(Pv:Nat->St->Hp->Prop)(h0:Pv 0 σ H)(hl:∀i σ H,i<=xs.length->Pv i σ H->aD K H a xs)
 (hs:∀i x σ H,xs[i]? =some x->Pv i σ H->g x σ H λσ2 H2=>tb { D with nx:=Pv (i+1),ct:=Pv (i+1),bk:=D.nx } σ2 H2) (hd:∀σ H,Pv xs.length σ H->D.nx σ H):
 ∃W:Nat->Nat->St->Hp->Prop,(∃m,W 0 m σ H)/\∀i m σ H,W i m σ H->
  ((vR K a).stop i H/\D.nx σ H)\/((vR K a).go i H/\∃N:St->Hp->Prop,(∀σ' H',N σ' H'->∃m',m'<m/\W (i+1) m' σ' H')/\∀x H',(vR K a).mW i H x H'->g x σ H' λσ2 H2=>tb { D with nx:=N,ct:=N,bk:=D.nx } σ2 H2):=by
 refine⟨λi m σ H=>m=xs.length - i/\i<=xs.length/\Pv i σ H,⟨xs.length,by simp,Q0b _,h0⟩,?_⟩
 rintro i m σ H ⟨rfl,hi,p⟩
 have q:=hl i σ H hi p
 by_cases hlt:i<xs.length
 . refine .inr ⟨⟨xs,xs[i],q,by simp[hlt]⟩,Pv (i+1),λσ' H' p'=>⟨xs.length - (i+1),by omega,rfl,hlt,p'⟩,λx H' y=>?_⟩
   obtain⟨e,y⟩:=y
   subst e
   exact hs i x σ _ (y xs q) p
 . have e:i=xs.length:=by omega
   subst e
   exact .inl ⟨⟨xs,q,Q02 _⟩,hd σ H p⟩
theorem Vw {lo:Int}{n:Nat}{g:TG}{tb:TS}{D:Ends}{σ:St}{H:Hp}(Pv:Nat->St->Hp->Prop)(h0:Pv 0 σ H)
 (hs:∀i σ H,i<n->Pv i σ H->g (.int (lo+i)) σ H λσ2 H2=>tb { D with nx:=Pv (i+1),ct:=Pv (i+1),bk:=D.nx } σ2 H2) (hd:∀σ H,Pv n σ H->D.nx σ H):
 ∃W:Nat->Nat->St->Hp->Prop,(∃m,W 0 m σ H)/\∀i m σ H,W i m σ H->
  ((qG lo n).stop i H/\D.nx σ H)\/((qG lo n).go i H/\∃N:St->Hp->Prop,(∀σ' H',N σ' H'->∃m',m'<m/\W (i+1) m' σ' H')/\∀x H',(qG lo n).mW i H x H'->g x σ H' λσ2 H2=>tb { D with nx:=N,ct:=N,bk:=D.nx } σ2 H2):=by
 refine⟨λi m σ H=>m=n - i/\i<=n/\Pv i σ H,⟨n,by simp,Q0b _,h0⟩,?_⟩
 rintro i m σ H ⟨rfl,hi,p⟩
 by_cases hlt:i<n
 . refine .inr ⟨hlt,Pv (i+1),λσ' H' p'=>⟨n - (i+1),by omega,rfl,hlt,p'⟩,λx H' y=>?_⟩
   obtain⟨e,y⟩:=y
   subst e y
   exact hs i σ _ hlt p
 . have e:i=n:=by omega
   subst e
   exact .inl ⟨Q02 _,hd σ H p⟩
noncomputable abbrev R2:=V->V->Hp->VK->Prop
noncomputable def dJ (X:Cx) (f:Value->Value->Sem Value) (r:R2):Prop:=
 ∀(pins:List (Addr × Obj)) (s:Shared) (σ:St) (H:Hp) (x y:V) (v u:Value) (Q:VK),Inv X pins σ H s->RelV x v->RelV y u->r x y H Q->
  wpAny (model X.prog X.w) X.A (f v u) (EP X pins σ Q) X.xe s
noncomputable def Ez (X:Cx) (f:Value->Sem Value) (r:V->Hp->VK->Prop):Prop:=
 ∀(pins:List (Addr × Obj)) (s:Shared) (σ:St) (H:Hp) (x:V) (v:Value) (Q:VK),Inv X pins σ H s->RelV x v->r x H Q->
  wpAny (model X.prog X.w) X.A (f v) (EP X pins σ Q) X.xe s
noncomputable def iY (X:Cx) (f:Value) (r:List V->Hp->VK->Prop):Prop:=
 ∀(pins:List (Addr × Obj)) (s:Shared) (σ:St) (H:Hp) (xs:List V) (us:List Value) (Q:VK),Inv X pins σ H s->Vals xs us->r xs H Q->
  wpAny (model X.prog X.w) X.A (call f us) (EP X pins σ Q) X.xe s
noncomputable def bJ (r:R2) (ta tb:TE):TE:=λσ H Q=>ta σ H λx H1=>tb σ H1 λy H2=>r x y H2 Q
noncomputable def tUn (r:V->Hp->VK->Prop) (ta:TE):TE:=λσ H Q=>ta σ H λx H1=>r x H1 Q
noncomputable def rI (C:Int->Int->Prop) (g:Int->Int->V):R2:=λx y H Q=>∃i j,x=.int i/\y=.int j/\C i j/\Q (g i j) H
noncomputable def qH (g:Int->Int->V):R2:=λx y H Q=>∃i j,x=.int i/\y=.int j/\Q (g i j) H
noncomputable def rU (g:Int->V):V->Hp->VK->Prop:=λx H Q=>∃i,x=.int i/\Q (g i) H
section
variable {X:Cx}{a b c:Expr}{ta tb tc:TE}{pos:Pos}
theorem EY (ha:PE X a ta)(hb:PE X b tb){pins:List (Addr × Obj)}{s:Shared}{σ:St}{H:Hp}{R:V->V->Hp->Prop}(I:Inv X pins σ H s)
 (h:ta σ H λx H1=>tb σ H1 λy H2=>R x y H2) {Q:Value->Shared->Prop} {f:Value->Value->Sem Value}
 (hf:∀v u s2 x y H2,Inv X pins σ H2 s2->RelV x v->RelV y u->R x y H2->wpAny (model X.prog X.w) X.A (f v u) Q X.xe s2):
 wpAny (model X.prog X.w) X.A (eval a X.env) (λv s₁=>wpAny (model X.prog X.w) X.A (eval b X.env) (λu s₂=>wpAny (model X.prog X.w) X.A (f v u) Q X.xe s₂) X.xe s₁) X.xe s:=by
 refine aP (ha pins s σ H _ I h) λv s1 ⟨x,H1,I1,r1,q1⟩=>?_
 refine aP (hb pins s1 σ H1 _ I1 q1) λu s2 ⟨y,H2,I2,r2,q2⟩=>?_
 exact hf v u s2 x y H2 I2 r1 r2 q2
theorem aX {op:Operator}{r:R2}(ho:dJ X (binaryOp op) r)(ha:PE X a ta)(hb:PE X b tb):PE X (.BinOp a op b pos) (bJ r ta tb):=by
 intro pins s σ H Q I h
 exact wpAny_BinOp (EY ha hb I h λv u s2 x y H2 I2 rx ry q=>ho pins s2 σ H2 x y v u Q I2 rx ry q)
theorem adx {op:UnaryOp}{r:V->Hp->VK->Prop}(ho:Ez X (unaryOp op) r)(ha:PE X a ta):PE X (.UnaryOp op a pos) (tUn r ta):=by
 intro pins s σ H Q I h
 exact UnaryOp_ (aP (ha pins s σ H _ I h) λv s1 ⟨x,H1,I1,r1,q1⟩=>ho pins s1 σ H1 x v Q I1 r1 q1)
theorem zH {f:Value->Value->Sem Value}{C:Int->Int->Prop}{g:Int->Int->Int}
 (rule:∀(i j:Int) (t u:Tok) (s:Shared) (Q:Value->Shared->Prop) (E:Value->Shared->Prop),C i j->Q (.int (g i j) s.toks) { s with toks:=s.toks+1 }->wpAny (model X.prog X.w) X.A (f (.int i t) (.int j u)) Q E s):
 dJ X f (rI C λi j=>.int (g i j)):=by
 intro pins s σ H x y v u Q I rx ry h
 obtain⟨i,j,rfl,rfl,hc,q⟩:=h
 obtain⟨t,rfl⟩:=rx
 obtain⟨t',rfl⟩:=ry
 exact rule i j t t' s _ _ hc ⟨.int (g i j),H,I.tok _,⟨_,rfl⟩,q⟩
theorem Vx {f:Value->Value->Sem Value}{g:Int->Int->Int}
 (rule:∀(i j:Int) (t u:Tok) (s:Shared) (Q:Value->Shared->Prop) (E:Value->Shared->Prop),Q (.int (g i j) s.toks) { s with toks:=s.toks+1 }->wpAny (model X.prog X.w) X.A (f (.int i t) (.int j u)) Q E s):
 dJ X f (qH λi j=>.int (g i j)):=by
 intro pins s σ H x y v u Q I rx ry h
 obtain⟨i,j,rfl,rfl,q⟩:=h
 obtain⟨t,rfl⟩:=rx
 obtain⟨t',rfl⟩:=ry
 exact rule i j t t' s _ _ ⟨.int (g i j),H,I.tok _,⟨_,rfl⟩,q⟩
theorem E_ {f:Value->Value->Sem Value}{g:Int->Int->Bool}
 (rule:∀(i j:Int) (t u:Tok) (s:Shared) (Q:Value->Shared->Prop) (E:Value->Shared->Prop),Q (.bool (g i j)) s->wpAny (model X.prog X.w) X.A (f (.int i t) (.int j u)) Q E s):
 dJ X f (qH λi j=>.bl (g i j)):=by
 intro pins s σ H x y v u Q I rx ry h
 obtain⟨i,j,rfl,rfl,q⟩:=h
 obtain⟨t,rfl⟩:=rx
 obtain⟨t',rfl⟩:=ry
 exact rule i j t t' s _ _ ⟨.bl (g i j),H,I,rfl,q⟩
noncomputable def Vy (i j:Int):Prop:=0<j/\j<1073741824
noncomputable def Fb (i j:Int):Prop:=0<=j/\j<=1000000/\i.natAbs<2 ^ 64
noncomputable def Fe (i j:Int):Prop:=(-(2 ^ 64)<i/\i<2 ^ 64)\/(-(2 ^ 64)<j/\j<2 ^ 64)
theorem Fe.ok {i j:Int}(h:Fe i j):IntMulOk i j:=by
 rcases h with⟨h1,h2⟩|⟨h1,h2⟩
 . exact .of_left (intBits_le_64 h1 h2)
 . exact .of_right (intBits_le_64 h1 h2)
theorem jt:dJ X (binaryOp .Add) (qH λi j=>.int (i+j)):=Vx λ_ _ _ _ _ _ _ q=>add_int q
theorem Fg:dJ X (binaryOp .Sub) (qH λi j=>.int (i - j)):=Vx λ_ _ _ _ _ _ _ q=>sub_int q
theorem lW:dJ X (binaryOp .Mult) (rI Fe λi j=>.int (i * j)):=zH λ_ _ _ _ _ _ _ hc q=>mul_int q hc.ok
theorem ju:dJ X (binaryOp .FloorDiv) (rI Vy λi j=>.int (i / j)):=zH λi j _ _ _ _ _ hc q=>by
 have h1:(0:Int)<j:=hc.1
 have h2:j<1073741824:=hc.2
 exact floordiv_int (by omega) (by rw[Int.fdiv_eq_ediv_of_nonneg i (by omega)];exact q) (.inl (PyProof.noPylong_small (by omega)))
theorem cG:dJ X (binaryOp .Mod) (rI (λ_ j=>0<j) λi j=>.int (i % j)):=zH λi j _ _ _ _ _ hc q=>by
 have h1:(0:Int)<j:=hc
 exact mod_int' (by omega) (by rw[Int.fmod_eq_emod_of_nonneg i (by omega)];exact q)
theorem zJ:dJ X (binaryOp .Pow) (rI Fb λi j=>.int (i ^ j.toNat)):=zH λ_ _ _ _ _ _ _ hc q=>pow_int_small hc.1 hc.2.1 hc.2.2 q
theorem unI {f:Value->Sem Value}{g:Int->Int}
 (rule:∀(i:Int) (t:Tok) (s:Shared) (Q:Value->Shared->Prop) (E:Value->Shared->Prop),Q (.int (g i) s.toks) { s with toks:=s.toks+1 }->wpAny (model X.prog X.w) X.A (f (.int i t)) Q E s):
 Ez X f (rU λi=>.int (g i)):=by
 intro pins s σ H x v Q I rx h
 obtain⟨i,rfl,q⟩:=h
 obtain⟨t,rfl⟩:=rx
 exact rule i t s _ _ ⟨.int (g i),H,I.tok _,⟨_,rfl⟩,q⟩
theorem adz:Ez X (unaryOp .USub) (rU λi=>.int (-i)):=unI λ_ _ _ _ _ q=>neg_int q
end
noncomputable def mY:V->V->Bool
 | .non,.non=>true| .non,.int _=>true| .int _,.non=>true| .non,.bl _=>true| .bl _,.non=>true| .non,.str _=>true| .str _,.non=>true
 | .int _,.int _=>true| .bl _,.bl _=>true| .str _,.str _=>true| .jL _,.jL _=>true
 | .int _,.str _=>true| .str _,.int _=>true| .bl _,.str _=>true| .str _,.bl _=>true
 |_,_=>false
noncomputable def tD:R2:=λx y H Q=>mY x y=true/\Q (.bl (decide (x=y))) H
noncomputable def rNe:R2:=λx y H Q=>mY x y=true/\Q (.bl (!decide (x=y))) H
theorem Vz {i j:Int}:decide (V.int i=V.int j)=(i == j):=by
 rw[Bool.eq_iff_iff]
 simp
theorem VB {i j:Bool}:decide (V.bl i=V.bl j)=(i == j):=by
 rw[Bool.eq_iff_iff]
 simp
theorem VD {i j:Str}:decide (V.str i=V.str j)=(i == j):=by
 rw[Bool.eq_iff_iff]
 simp
theorem VF {i j:Array UInt8}:decide (V.jL i=V.jL j)=(i.toList == j.toList):=by
 rw[Bool.eq_iff_iff]
 cases i
 cases j
 simp
section
variable {X:Cx}{a b c:Expr}{ta tb tc:TE}{pos:Pos}
theorem cV {pins:List (Addr × Obj)}{σ:St}{H:Hp}{s:Shared}{Q:VK}{k k':Bool}(I:Inv X pins σ H s)(q:Q (.bl k) H)(e:k=k'):EP X pins σ Q (.bool k') s:=by
 subst e
 exact⟨.bl k,H,I,rfl,q⟩
theorem bA:dJ X (compareOp .Eq) tD:=by
 intro pins s σ H x y v u Q I rx ry h
 obtain⟨hs,q⟩:=h
 cases x with
 |non=>
  cases rx
  cases y with
  |non=>cases ry;exact PySem.EqNone.eq_none_none (cV I q (by simp))
  |bl j=>cases ry;exact PySem.EqNone.eq_none_bool (cV I q (by simp))
  |int j=>obtain⟨t',rfl⟩:=ry;exact PySem.EqNone.eq_none_int (cV I q (by simp))
  |str j=>obtain⟨t',rfl⟩:=ry;exact PySem.EqNone.eq_none_str (cV I q (by simp))
  |_=>exact absurd (show false=true from hs) Bool.false_ne_true
 |bl i=>
  cases rx
  cases y with
  |non=>cases ry;exact PySem.EqNone.eq_bool_none (cV I q (by simp))
  |bl j=>cases ry;exact eq_bool (cV I q VB)
  |str j=>obtain⟨t',rfl⟩:=ry;exact PySem.EqMixed.eq_bool_str (cV I q (by simp))
  |_=>exact absurd (show false=true from hs) Bool.false_ne_true
 |int i=>
  obtain⟨t,rfl⟩:=rx
  cases y with
  |non=>cases ry;exact PySem.EqNone.eq_int_none (cV I q (by simp))
  |int j=>obtain⟨t',rfl⟩:=ry;exact eq_int (cV I q Vz)
  |str j=>obtain⟨t',rfl⟩:=ry;exact PySem.EqMixed.eq_int_str (cV I q (by simp))
  |_=>exact absurd (show false=true from hs) Bool.false_ne_true
 |str i=>
  obtain⟨t,rfl⟩:=rx
  cases y with
  |non=>cases ry;exact PySem.EqNone.eq_str_none (cV I q (by simp))
  |bl j=>cases ry;exact PySem.EqMixed.eq_str_bool (cV I q (by simp))
  |int j=>obtain⟨t',rfl⟩:=ry;exact PySem.EqMixed.eq_str_int (cV I q (by simp))
  |str j=>obtain⟨t',rfl⟩:=ry;exact eq_str (cV I q VD)
  |_=>exact absurd (show false=true from hs) Bool.false_ne_true
 |jL i=>
  obtain⟨t,rfl⟩:=rx
  cases y with
  |jL j=>obtain⟨t',rfl⟩:=ry;exact W.eq_bytes (cV I q VF)
  |_=>exact absurd (show false=true from hs) Bool.false_ne_true
 |_=>cases y <;> exact absurd (show false=true from hs) Bool.false_ne_true
theorem qI:dJ X (compareOp .NotEq) rNe:=by
 intro pins s σ H x y v u Q I rx ry h
 obtain⟨hs,q⟩:=h
 cases x with
 |non=>
  cases rx
  cases y with
  |non=>cases ry;exact PySem.EqNone.ne_none_none (cV I q (by simp))
  |bl j=>cases ry;exact PySem.EqNone.ne_none_bool (cV I q (by simp))
  |int j=>obtain⟨t',rfl⟩:=ry;exact PySem.EqNone.ne_none_int (cV I q (by simp))
  |str j=>obtain⟨t',rfl⟩:=ry;exact PySem.EqNone.ne_none_str (cV I q (by simp))
  |_=>exact absurd (show false=true from hs) Bool.false_ne_true
 |bl i=>
  cases rx
  cases y with
  |non=>cases ry;exact PySem.EqNone.ne_bool_none (cV I q (by simp))
  |bl j=>cases ry;exact ne_bool (cV I q (congrArg not VB))
  |str j=>obtain⟨t',rfl⟩:=ry;exact PySem.EqMixed.ne_bool_str (cV I q (by simp))
  |_=>exact absurd (show false=true from hs) Bool.false_ne_true
 |int i=>
  obtain⟨t,rfl⟩:=rx
  cases y with
  |non=>cases ry;exact PySem.EqNone.ne_int_none (cV I q (by simp))
  |int j=>obtain⟨t',rfl⟩:=ry;exact ne_int (cV I q (congrArg not Vz))
  |str j=>obtain⟨t',rfl⟩:=ry;exact PySem.EqMixed.ne_int_str (cV I q (by simp))
  |_=>exact absurd (show false=true from hs) Bool.false_ne_true
 |str i=>
  obtain⟨t,rfl⟩:=rx
  cases y with
  |non=>cases ry;exact PySem.EqNone.ne_str_none (cV I q (by simp))
  |bl j=>cases ry;exact PySem.EqMixed.ne_str_bool (cV I q (by simp))
  |int j=>obtain⟨t',rfl⟩:=ry;exact PySem.EqMixed.ne_str_int (cV I q (by simp))
  |str j=>obtain⟨t',rfl⟩:=ry;exact ne_str (cV I q (congrArg not VD))
  |_=>exact absurd (show false=true from hs) Bool.false_ne_true
 |jL i=>
  obtain⟨t,rfl⟩:=rx
  cases y with
  |jL j=>obtain⟨t',rfl⟩:=ry;exact W.ne_bytes (cV I q (congrArg not VF))
  |_=>exact absurd (show false=true from hs) Bool.false_ne_true
 |_=>cases y <;> exact absurd (show false=true from hs) Bool.false_ne_true
theorem adB:dJ X (compareOp .Lt) (qH λi j=>.bl (decide (i<j))):=E_ λ_ _ _ _ _ _ _ q=>lt_int q
theorem adC:dJ X (compareOp .LtE) (qH λi j=>.bl (decide (i<=j))):=E_ λ_ _ _ _ _ _ _ q=>le_int q
theorem Fi:dJ X (compareOp .Gt) (qH λi j=>.bl (decide (j<i))):=E_ λ_ _ _ _ _ _ _ q=>gt_int q
theorem mZ:dJ X (compareOp .Is) (λx y H Q=>y=.non/\Q (.bl (decide (x=.non))) H):=by
 intro pins s σ H x y v u Q I rx ry h
 obtain⟨rfl,q⟩:=h
 cases ry
 refine is_none_gen (cV I q ?_)
 cases x <;> first
  |(cases rx;rfl)
  |(obtain⟨t,rfl⟩:=rx;rfl)
theorem tE:dJ X (compareOp .IsNot) (λx y H Q=>y=.non/\Q (.bl (!decide (x=.non))) H):=by
 intro pins s σ H x y v u Q I rx ry h
 obtain⟨rfl,q⟩:=h
 cases ry
 refine isnot_none_gen (cV I q ?_)
 cases x <;> first
  |(cases rx;rfl)
  |(obtain⟨t,rfl⟩:=rx;rfl)
theorem aQ (b:Expr){op:CmpOp}(h:op≠ .In:=by decide)(h2:op≠ .NotIn:=by decide):behindInMarks op b=false:=by
 have e1:(op == CmpOp.In)=false:=by cases op <;> first|rfl|exact absurd rfl h
 have e2:(op == CmpOp.NotIn)=false:=by cases op <;> first|rfl|exact absurd rfl h2
 cases b <;> simp[behindInMarks,e1,e2]
theorem lq {op:CmpOp}{r:R2}(ho:dJ X (compareOp op) r)(ha:PE X a ta)(hb:PE X b tb)(hm:behindInMarks op b=false):PE X (.Compare a [op] [b] pos) (bJ r ta tb):=by
 intro pins s σ H Q I h
 exact wpAny_Compare1 (EY ha hb I h λv u s2 x y H2 I2 rx ry q=>ho pins s2 σ H2 x y v u Q I2 rx ry q) hm
noncomputable def lX (t:TE):TT:=λσ H Q=>t σ H λx H'=>∃k,x=.bl k/\Q k H'
theorem aW {op:CmpOp}{r:R2}(ho:dJ X (compareOp op) r)(ha:PE X a ta)(hb:PE X b tb)(hm:behindInMarks op b=false):PT X (.Compare a [op] [b] pos) (lX (bJ r ta tb)):=by
 intro pins s σ H Q I h
 refine wpAny_isTrue_Compare1 (aP (ha pins s σ H _ I h) λv s1 ⟨x,H1,I1,r1,q1⟩=>aP (hb pins s1 σ H1 _ I1 q1) λu s2 ⟨y,H2,I2,r2,q2⟩=>
  aP (ho pins s2 σ H2 x y v u _ I2 r1 r2 q2) λc s3 ⟨z,H3,I3,r3,k,e,q3⟩=>?_) hm
 subst e
 cases r3
 exact wpAny_truthy_bool ⟨H3,I3,q3⟩
theorem tG:(sizeLine:Nat)<2 ^ 63:=by rw[sizeLine_eq];decide
theorem Fj:dJ X (binaryOp .Add) (λx y H Q=>∃i j,x=.str i/\y=.str j/\i.length+j.length<=sizeLine/\Q (.str (i++j)) H):=by
 intro pins s σ H x y v u Q I rx ry h
 obtain⟨i,j,rfl,rfl,hz,q⟩:=h
 obtain⟨t,rfl⟩:=rx
 obtain⟨t',rfl⟩:=ry
 exact add_str (λt' tk=>⟨.str (i++j),H,I.tok _,⟨_,rfl⟩,q⟩) hz
theorem vals1 {x:V}{us:List Value}(r:Vals [x] us):∃u,us=[u]/\RelV x u:=by
 cases r with
 |cons r1 r2=>cases r2;exact⟨_,rfl,r1⟩
theorem vals2 {x y:V}{us:List Value}(r:Vals [x,y] us):∃u w',us=[u,w']/\RelV x u/\RelV y w':=by
 cases r with
 |cons r1 r2=>
  cases r2 with
  |cons r3 r4=>cases r4;exact⟨_,_,rfl,r1,r3⟩
end
structure qJ (h:Heap) (x dx C:Addr) (mA:Str->Option Value):Prop where
 obj:h.get? x=some (W.instObj C dx)
 ns:h.Ns1 dx mA
 ne:dx≠x
theorem adD {h:Heap}{dx:Addr}{mA:Str->Option Value}(n:h.Ns1 dx mA):∃od,h.get? dx=some od/\∀name,W.lookIn name od=some (mA name):=by
 obtain⟨o,es,ep,ho,hd,hk,_,hm⟩:=n
 refine⟨o,ho,λname=>?_⟩
 have e:=hm name
 unfold nsFind findBy at e
 rw[<-Q2h] at e
 unfold W.lookIn
 rw[hd]
 dsimp only
 split
 . rename_i y q
   rw[q] at e
   exact congrArg some e
 . rename_i q
   rw[q] at e
   have a:es.toList.any (·.refKey)=false:=by
    rw[List.any_eq_false]
    intro y hy
    obtain⟨z,t,hkey⟩:=hk y (Array.mem_toList_iff.mp hy)
    simp[DictEntry.refKey,hkey]
   have a':¬es.toList.any (·.refKey)=true:=by rw[a];exact Bool.false_ne_true
   rw[if_neg a']
   exact congrArg some e
theorem qJ.look {h:Heap}{x dx C:Addr}{mA:Str->Option Value}(I:qJ h x dx C mA):∃od,W.InstAt h x (W.instObj C dx) C (some od)/\∀name,W.lookIn name od=some (mA name):=
 let⟨od,ho,hl⟩:=adD I.ns
 ⟨od,⟨I.obj,rfl,rfl,ho⟩,hl⟩
section
variable {prog:Program}{w:World}{A:Around}{E:Value->Shared->Prop}{s:Shared}{K:W.Frag}{x dx C f:Addr}{mA:Str->Option Value}{name:Str}{v:Value}
theorem get_map {expr:Bool}{Q:Value->Shared->Prop}(X:K.In s.heap)(I:qJ s.heap x dx C mA)(hg:W.plainGet K C name=true)(hh:W.hasDictIn K C=true)
 (ha:W.findIn K (.ref C) name=some none) (hv:mA name=some v) (hv':W.handedIn v=true) (h:Q v { s with toks:=s.toks+1 }):
 wpAny (model prog w) A (getAttr (.ref x) name expr) Q E s:=by
 obtain⟨od,J,hl⟩:=I.look
 exact W.get_value X J (W.plainGet_of hg).1 (W.findObj_own hh ha rfl (by rw[hl,hv])) hv' h
theorem adE {pl:Sem Bool}{Q:Value × List Value->Shared->Prop}(X:K.In s.heap)(I:qJ s.heap x dx C mA)(hg:W.plainGet K C name=true)
 (hf:W.findIn K (.ref C) name=some (some (.ref f))) (ht:W.isFn K (.ref f)=true) (hv:mA name=none) (h:Q (.ref f,[.ref x]) s):
 wpAny (model prog w) A (getMethod (.ref x) name pl) Q E s:=by
 obtain⟨od,J,hl⟩:=I.look
 exact W.method_fn X J (W.plainGet_of hg).1 (W.plainGet_of hg).2 hf (beq_iff_eq.mp ht) (by show(W.lookIn name od).map (·.isSome)=some false;rw[hl,hv];rfl) h
theorem adF {ns:List Str}{Q:Unit->Shared->Prop}(X:K.In s.heap)(I:qJ s.heap x dx C mA)
 (hs:W.findIn K (.ref C) "__setattr__"=some (some (.builtin "object.__setattr__"))) (hp:W.plainOver K C=true) (ht:W.takerIn K C name=some none) (hh:W.hasDictIn K C=true)
 (hw:PySem.Within mA ns) (hsz:ns.length<=sizeLine)
 (h:∀h',qJ h' x dx C (λy=>if y=name then some v else mA y)->Heap.SameBut dx s.heap h'->Q () { s with heap:=h',toks:=s.toks+2 }):
 wpAny (model prog w) A (setAttr (.ref x) name v) Q E s:=by
 obtain⟨od,J,hl⟩:=I.look
 refine W.set_plain X J hs (W.osa_open (s:={ s with toks:=s.toks+1 }) (r:=none) X J hp ht λb=>?_)
 obtain⟨cd,hc,hd'⟩:=W.any_some hh
 have hx:s.heap.get? x=some ⟨.ref C,some dx,.plain,#[]⟩:=I.obj
 refine Q00 (Q03 (Q00 (Q00 (wpAny_loadPart hx (Q00 (W.Looks.here (s:={ s with toks:=s.toks+1 }) (W.looks_clsIn X hc) ?_))))))
 rw[hd']
 refine Q03 (a:=some dx) (Q00 (Q03 (Q00 ?_)))
 refine wpAny_nsSet1 (s:={ s with toks:=s.toks+1 }) I.ns λh' hn2 hs2=>?_
 obtain⟨oD,esD,epD,hoD,hdD,hcD⟩:=hn2.count (PySem.Within.cons name v hw)
 refine Q00 (wpAny_lookBehind hoD (by rw[hdD];exact pastItsLine_dict (Q0e hcD (by rw[Q0o];omega))) ?_)
 exact Q03 (h _ ⟨(hs2.2 _ (Ne.symm I.ne)).trans I.obj,hn2,I.ne⟩ hs2)
theorem adG {R:Result->Shared->Prop}{vs:List Value}{kw:List (Str × Value)}(X:K.In s.heap)(hm:W.makesIn K C=true)
 (hi:W.findIn K (.ref C) "__init__"=some (some (.ref f))) (hf:W.typeIn K (.ref f)=some (.type "function"))
 (h:codeAny (model prog w) (A.under (.builtin "type.__call__" ⟨.ref C::vs,kw⟩)) (.call (.ref f) ⟨.ref (s.heap.objs.size+1)::vs,kw⟩) (W.InitBack (s.heap.objs.size+1) R)
   { s with heap:=(s.heap.push W.emptyDict).push (W.instObj C s.heap.objs.size) }):
 codeAny (model prog w) A (.call (.ref C) ⟨vs,kw⟩) R s:=by
 obtain⟨hh,g,d,t,os⟩:=s
 exact W.make_core (W.makes_of X hm) (W.looks_findIn X hi) (λself=>W.bind_fn X self hf) (.inl rfl) h
end
noncomputable def cY (f:Str) (v:V):List (Str × V)->List (Str × V)
 |[]=>[(f,v)]
 |(g,x)::r=>if g=f then(g,v)::r else(g,x)::cY f v r
theorem VG (f g:Str)(v:V):∀fs:List (Str × V),(cY f v fs).lookup g=if g=f then some v else fs.lookup g
 |[]=>by
  show List.lookup g [(f,v)]=_
  by_cases h:g=f
  . have hb:(g == f)=true:=beq_iff_eq.mpr h
    simp only[List.lookup,hb,if_pos h]
  . have hb:(g == f)=false:=beq_eq_false_iff_ne.mpr h
    simp only[List.lookup,hb,if_neg h]
 |(k,x)::r=>by
  have ih:=VG f g v r
  rw[show cY f v ((k,x)::r)=(if k=f then(k,v)::r else(k,x)::cY f v r) from rfl]
  by_cases hk:k=f
  . rw[if_pos hk]
    by_cases h:g=k
    . have hb:(g == k)=true:=beq_iff_eq.mpr h
      simp only[List.lookup,hb,if_pos (h.trans hk)]
    . have hb:(g == k)=false:=beq_eq_false_iff_ne.mpr h
      simp only[List.lookup,hb,if_neg (λe:g=f=>h (e.trans hk.symm))]
  . rw[if_neg hk]
    by_cases h:g=k
    . have hb:(g == k)=true:=beq_iff_eq.mpr h
      simp only[List.lookup,hb,if_neg (λe:g=f=>hk (h.symm.trans e))]
    . have hb:(g == k)=false:=beq_eq_false_iff_ne.mpr h
      simp only[List.lookup,hb]
      exact ih
theorem Fl (f:Str)(v:V):∀fs:List (Str × V),f∈(cY f v fs).map (·.1)/\∀g,g∈fs.map (·.1)->g∈(cY f v fs).map (·.1)
 |[]=>⟨by simp[cY],λg h=>by simp at h⟩
 |(k,x)::r=>by
  obtain⟨i1,i2⟩:=Fl f v r
  rw[show cY f v ((k,x)::r)=(if k=f then(k,v)::r else(k,x)::cY f v r) from rfl]
  by_cases hk:k=f
  . rw[if_pos hk]
    subst hk
    exact⟨by simp,λg h=>by simpa using h⟩
  . rw[if_neg hk]
    refine⟨?_,λg h=>?_⟩
    . rw[Q0u]
      exact Q0j _ i1
    . rw[Q0u] at h ⊢
      rcases List.mem_cons.mp h with e|e
      . exact List.mem_cons.mpr (.inl e)
      . exact Q0j _ (i2 g e)
theorem VH (f:Str)(v:V):∀fs:List (Str × V),(cY f v fs).length<=fs.length+1
 |[]=>by simp[cY]
 |(k,x)::r=>by
  have ih:=VH f v r
  rw[show cY f v ((k,x)::r)=(if k=f then(k,v)::r else(k,x)::cY f v r) from rfl]
  by_cases hk:k=f
  . rw[if_pos hk,Q0o,Q0o];omega
  . rw[if_neg hk,Q0o,Q0o];omega
theorem gK.some_of {v:V}{o:Option Value}(r:gK (some v) o):∃u,o=some u/\RelV v u:=by
 cases o with
 |none=>exact(show False from r).elim
 |some u=>exact⟨u,rfl,r⟩
theorem gK.none_of {o:Option Value}(r:gK none o):o=none:=by
 cases o with
 |none=>rfl
 |some u=>exact(show False from r).elim
theorem VJ {v:V}{u:Value}(r:RelV v u):W.handedIn u=true:=by
 cases v with
 |non=>cases(show u=Value.none from r);rfl
 |bl b=>cases(show u=Value.bool b from r);rfl
 |int i=>obtain⟨t,e⟩:=(show ∃t,u=Value.int i t from r);cases e;rfl
 |str x=>obtain⟨t,e⟩:=(show ∃t,u=Value.str x t from r);cases e;rfl
 |jL b=>obtain⟨t,e⟩:=(show ∃t,u=Value.bytes b t from r);cases e;rfl
 |flt b=>obtain⟨t,e⟩:=(show ∃t,u=Value.float b t from r);cases e;rfl
 |ref a=>cases(show u=Value.ref a from r);rfl
 |ty n=>cases(show u=Value.type n from r);rfl
section
variable {P:Program}{w:World}{H H':Hp}{h h':Heap}{a C dx:Addr}{fs fs':List (Str × V)}
theorem zK (hok:cC P w H h)(e:H a=some (.ins C dx fs)):∃mA,qJ h a dx C mA/\(∀f,gK (fs.lookup f) (mA f))/\PySem.Within mA (fs.map (·.1))/\fs.length<=1000/\H dx=some (.own a):=by
 obtain⟨d,z,ne,ob,mA,n,r,q⟩:=(show cO P w H h a (.ins C dx fs) from hok a _ e)
 exact⟨mA,⟨ob,n,ne⟩,r,q,z,d⟩
end
structure Cls (K:W.Frag) (C:Addr):Prop where
 pg:W.plainGet K C Str.empty=true
 hd:W.hasDictIn K C=true
 po:W.plainOver K C=true
 sa:W.findIn K (.ref C) "__setattr__"=some (some (.builtin "object.__setattr__"))
theorem Cls.get {K:W.Frag}{C:Addr}(c:Cls K C)(f:Str):W.plainGet K C f=true:=c.pg
noncomputable def lu (K:W.Frag) (C:Addr) (f:Str):Prop:=W.findIn K (.ref C) f=some none
theorem lu.taker {K:W.Frag}{C:Addr}{f:Str}(n:lu K C f):W.takerIn K C f=some none:=by
 unfold W.takerIn
 rw[show W.findIn K (.ref C) f=some none from n]
 rfl
structure Meth (K:W.Frag) (C:Addr) (m:Str) (f:Addr):Prop where
 at_:W.findIn K (.ref C) m=some (some (.ref f))
 fn:W.isFn K (.ref f)=true
 kp:W.keepIn K (.ref f)=true
section
variable {X:Cx}{pins:List (Addr × Obj)}{σ:St}{H:Hp}{s:Shared}{a C dx:Addr}{fs:List (Str × V)}{f:Str}{v:V}{A:Around}{E:Value->Shared->Prop}
theorem adH {b:Bool}{Q:Value->Shared->Prop}(I:Inv X pins σ H s)(e:H a=some (.ins C dx fs))(c:Cls X.K C)(n:lu X.K C f)(l:fs.lookup f=some v)
 (h:∀u s',Inv X pins σ H s'->RelV v u->Q u s'):wpAny (model X.prog X.w) A (getAttr (.ref a) f b) Q E s:=by
 obtain⟨mA,O,r,_,_,_⟩:=zK I.hok e
 obtain⟨u,hu,ru⟩:=gK.some_of (v:=v) (o:=mA f) (by rw[<-l];exact r f)
 exact get_map I.cP O (c.get f) c.hd n hu (VJ ru) (h u _ (I.tok _) ru)
theorem Fo {m:Str}{g:Addr}{pl:Sem Bool}{Q:Value × List Value->Shared->Prop}(I:Inv X pins σ H s)(e:H a=some (.ins C dx fs))(c:Cls X.K C)(k:Meth X.K C m g)(l:fs.lookup m=none)
 (h:Q (.ref g,[.ref a]) s):wpAny (model X.prog X.w) A (getMethod (.ref a) m pl) Q E s:=by
 obtain⟨mA,O,r,_,_,_⟩:=zK I.hok e
 have hn:mA m=none:=gK.none_of (by rw[<-l];exact r m)
 exact adE I.cP O (c.get m) k.at_ k.fn hn h
theorem adI {y:V}{u:Value}{Q:Unit->Shared->Prop}(I:Inv X pins σ H s)(e:H a=some (.ins C dx fs))(c:Cls X.K C)(n:lu X.K C f)(hl:fs.length<1000)(ry:RelV y u)
 (h:∀s',Inv X pins σ (upd H a (.ins C dx (cY f y fs))) s'->Q () s'):wpAny (model X.prog X.w) A (setAttr (.ref a) f u) Q E s:=by
 obtain⟨mA,O,r,wi,_,ho⟩:=zK I.hok e
 have hz:(fs.map (·.1)).length<=sizeLine:=by rw[Q06,sizeLine_eq];omega
 refine adF I.cP O c.sa c.po n.taker c.hd wi hz λh' O' sb=>h _ ?_
 have hd:∃o,h'.get? dx=some o:=let⟨o,_,_,e',_⟩:=O'.ns;⟨o,e'⟩
 refine I.write (x:=a) (e:=dx) (by rw[e];exact True.intro) (.inr ho) (λb q hb z=>(sb.2 b hb).trans z) hd ?_
 refine⟨by rw[au O.ne];exact ho,?_,O.ne,O'.obj,_,O'.ns,λg=>?_,λg hg=>?_⟩
 . have:=VH f y fs;omega
 . show gK ((cY f y fs).lookup g) (if g=f then some u else mA g)
   rw[VG]
   by_cases q:g=f
   . rw[if_pos q,if_pos q];exact ry
   . rw[if_neg q,if_neg q];exact r g
 . by_cases q:g=f
   . rw[q];exact(Fl f y fs).1
   . refine(Fl f y fs).2 g (wi g λz=>hg ?_)
     show(if g=f then some u else mA g)=none
     rw[if_neg q];exact z
theorem Inv.made (I:Inv X pins σ H s):Inv X pins σ (upd (upd H s.heap.objs.size (.own (s.heap.objs.size+1))) (s.heap.objs.size+1) (.ins C s.heap.objs.size []))
 { s with heap:=(s.heap.push W.emptyDict).push (W.instObj C s.heap.objs.size) }:=by
 have e1:(s.heap.push W.emptyDict).get? s.heap.objs.size=some W.emptyDict:=Q0c s.heap rfl
 have e2:((s.heap.push W.emptyDict).push (W.instObj C s.heap.objs.size)).get? (s.heap.objs.size+1)=some (W.instObj C s.heap.objs.size):=by
  have:=Q0c (s.heap.push W.emptyDict) (o:=W.instObj C s.heap.objs.size) rfl
  rwa [Q0y] at this
 have e3:(s.heap.push W.emptyDict).Ns s.heap.objs.size (λ_=>none):=⟨W.emptyDict,#[],_,e1,rfl,(λe he=>absurd he (by simp)),λ_=>rfl⟩
 have I1:=I.laid (a:=s.heap.objs.size) (o:=.own (s.heap.objs.size+1)) (h':=s.heap.push W.emptyDict) (t':=s.toks) (λb u q=>Q04 _ q) (Q02 _) ⟨_,e1⟩
 refine I1.laid (a:=s.heap.objs.size+1) (o:=.ins C s.heap.objs.size []) (t':=s.toks) (λb u q=>Q04 _ q) (Q1h (Q0y _ _)) ?_
 have ne:s.heap.objs.size≠s.heap.objs.size+1:=Q08 (Q1c _)
 refine⟨by rw[au ne,aF],Q0b _,ne,e2,λ_=>none,(Heap.Ns1.of_empty e3).at λo q=>Q04 _ q,λ_=>True.intro,λy hy=>absurd rfl hy⟩
theorem VL {prog:Program}{w:World}{env:Env}{e:Expr}{f:Str}{pos:Pos}{s:Shared}{Q:Value->Shared->Prop}(hb:attributeBase e f env (eval e env)=eval e env)
 (h:wpAny (model prog w) A (eval e env) (λo s₁=>wpAny (model prog w) A (getAttr o f true) Q E s₁) E s):wpAny (model prog w) A (eval (.Attribute e f pos) env) Q E s:=
 Attribute_any_ h (by rw[arm_eval_Attribute,hb])
end
noncomputable def adJ (K:W.Frag) (ta:TE) (f:Str):TE:=λσ H Q=>ta σ H λx H1=>∃a C dx fs v,x=.ref a/\H1 a=some (.ins C dx fs)/\Cls K C/\lu K C f/\fs.lookup f=some v/\Q v H1
noncomputable def adK (K:W.Frag) (ta tv:TE) (f:Str):TS:=λD σ H=>tv σ H λy H1=>ta σ H1 λx H2=>∃a C dx fs,x=.ref a/\H2 a=some (.ins C dx fs)/\Cls K C/\lu K C f/\fs.length<1000/\
 D.nx σ (upd H2 a (.ins C dx (cY f y fs)))
section
variable {X:Cx}{o e value:Expr}{f:Str}{pos pos' tpos:Pos}{ta tv:TE}
theorem cZ (he:PE X e ta)(hb:attributeBase e f X.env (eval e X.env)=eval e X.env):PE X (.Attribute e f pos) (adJ X.K ta f):=by
 intro pins s σ H Q I h
 refine VL hb (aP (he pins s σ H _ I h) λu s1 ⟨x,H1,I1,rx,a,C,dx,fs,v,ex,ea,c,n,l,q⟩=>?_)
 subst ex
 obtain rfl:u=Value.ref a:=rx
 exact adH I1 ea c n l λu' s2 I2 ru=>⟨v,H1,I2,ru,q⟩
theorem tH (ha:PE X o ta)(hv:PE X value tv)(hs:swapsWith value (some (.Attribute o f pos')) pos.line X.env=pure false):PS X (.Assign [.Attribute o f pos'] value pos) (adK X.K ta tv f):=by
 intro pins s σ H D I h
 refine plainObj_wpAny_Assign_Attribute (aP (hv pins s σ H _ I h) λu s1 ⟨y,H1,I1,ry,q⟩=>aP (ha pins s1 σ H1 _ I1 q) λov s2 ⟨x,H2,I2,rx,a,C,dx,fs,ex,ea,c,n,l,q2⟩=>?_) hs
 subst ex
 obtain rfl:ov=Value.ref a:=rx
 exact adI I2 ea c n l ry λs3 I3=>⟨σ,_,I3,q2⟩
end
section
variable {X:Cx}{pins:List (Addr × Obj)}{σ:St}{H:Hp}{s:Shared}{A:Around}{E:Value->Shared->Prop}{Q:Value->Shared->Prop}{c:Value}{b:Bool}
inductive jw (K:W.Frag) (H:Hp):V->Value->Prop where
 |non:jw K H .non (.type "NoneType")
 |bl (x:Bool):jw K H (.bl x) (.type "bool")
 |int (i:Int):jw K H (.int i) (.type "int")
 |str (x:Str):jw K H (.str x) (.type "str")
 |flt (x:UInt64):jw K H (.flt x) (.type "float")
 |lst {a:Addr} {xs:List V} (e:H a=some (.lst xs)):jw K H (.ref a) (.type "list")
 |cg {a:Addr} {o:Obj} {xs:List V} (e:H a=some (.cg o (.lst xs))):jw K H (.ref a) (.type "list")
 |tup {a:Addr} {xs:List V} (e:H a=some (.tup xs)):jw K H (.ref a) (.type "tuple")
 |dK {a:Addr} {kvs:List (Key × V)} (e:H a=some (.dK kvs)):jw K H (.ref a) (.type "dict")
 |dT {a:Addr} {kvs:List (List Key × V)} (e:H a=some (.dT kvs)):jw K H (.ref a) (.type "dict")
 |ins {a C dx:Addr} {fs:List (Str × V)} (e:H a=some (.ins C dx fs)) (cl:Cls K C) (ha:W.findIn K (.ref C) "__class__"=some (some (.builtin "object.__class__")))
   (hn:W.specialIn K (.builtin "object.__class__") "__get__"=some (some (.builtin "getset_descriptor.__get__"))) (htk:W.takesIn K (.builtin "object.__class__")=some true)
   (hm:W.mroIn K C (.type "object")=some true):jw K H (.ref a) (.ref C)
theorem adL {x:V}{u t:Value}(I:Inv X pins σ H s)(rx:RelV x u)(ty:jw X.K H x t)(e:W.kitOne X.K t c=some b)(h:∀tk,Q (.bool b) { s with toks:=tk }):
 wpAny (model X.prog X.w) A (call (.builtin "isinstance") [u,c]) Q E s:=by
 cases ty with
 |non=>cases(show u=Value.none from rx);exact W.kia_one W.kitx_none I.cP True.intro e (λz=>nomatch z) h
 |bl y=>cases(show u=Value.bool y from rx);exact W.kia_one W.kitx_bool I.cP True.intro e (λz=>nomatch z) h
 |int i=>obtain⟨t,q⟩:=(show ∃t,u=Value.int i t from rx);cases q;exact W.kia_one W.kitx_int I.cP True.intro e (λz=>nomatch z) h
 |str y=>obtain⟨t,q⟩:=(show ∃t,u=Value.str y t from rx);cases q;exact W.kia_one W.kitx_str I.cP True.intro e (λz=>nomatch z) h
 |flt y=>obtain⟨t,q⟩:=(show ∃t,u=Value.float y t from rx);cases q;exact W.kia_one W.kitx_float I.cP True.intro e (λz=>nomatch z) h
 |@lst a xs ea=>
  cases(show u=Value.ref a from rx)
  obtain⟨_,_,n,_,h1⟩:=(show cO X.prog X.w H s.heap a (.lst xs) from I.hok a _ ea)
  exact W.kia_one W.kitx_list I.cP ⟨_,h1,rfl⟩ e (λz=>nomatch z) h
 |@cg a ob xs ea=>
  cases(show u=Value.ref a from rx)
  obtain⟨_,_,_,n,_,h1⟩:=(show cO X.prog X.w H s.heap a (.cg ob (.lst xs)) from I.hok a _ ea)
  exact W.kia_one W.kitx_list I.cP ⟨_,h1,rfl⟩ e (λz=>nomatch z) h
 |@tup a xs ea=>
  cases(show u=Value.ref a from rx)
  obtain⟨_,_,_,p⟩:=(show cO X.prog X.w H s.heap a (.tup xs) from I.hok a _ ea)
  obtain⟨o,h1,h2,_⟩:=p
  exact W.kia_one W.kitx_tuple I.cP ⟨o,h1,h2⟩ e (λz=>nomatch z) h
 |@dK a kvs ea=>
  cases(show u=Value.ref a from rx)
  obtain⟨_,_,vs,_,p⟩:=(show cO X.prog X.w H s.heap a (.dK kvs) from I.hok a _ ea)
  obtain⟨o,es,ep,h1,h2,_⟩:=p
  exact W.kia_one W.kitx_dict I.cP ⟨o,h1,h2.1⟩ e (λz=>nomatch z) h
 |@dT a kvs ea=>
  cases(show u=Value.ref a from rx)
  obtain⟨_,_,xs,_,o,es,ep,h1,h2,_⟩:=(show cO X.prog X.w H s.heap a (.dT kvs) from I.hok a _ ea)
  exact W.kia_one W.kitx_dict I.cP ⟨o,h1,h2.1⟩ e (λz=>nomatch z) h
 |@ins a C dx fs ea cl ha hn htk hm=>
  cases(show u=Value.ref a from rx)
  obtain⟨mA,O,_⟩:=zK I.hok ea
  obtain⟨od,J,_⟩:=O.look
  exact W.kia_one (W.kitx_own (cl.get _) cl.hd ha hn htk hm) I.cP J e (λz=>nomatch z) h
end
structure cU (k:Nat) (A:Around):Prop where
 hd:A.handled=none
 dp:A.depth+3 * k+5<recursionLimit
 un:A.units+16 * k+200<cLine
theorem cU.mono {j k:Nat}{A:Around}(r:cU k A)(h:j<=k):cU j A:=⟨r.hd,by have:=r.dp;omega,by have:=r.un;omega⟩
theorem cU.deeper {k:Nat}{A:Around}(r:cU (k+1) A)(env:Env):cU k (A.deeper env):=
 ⟨r.hd,by have:=r.dp;show A.depth+1+3 * k+5<_;omega,by have:=r.un;show A.units+3+16 * k+200<_;omega⟩
theorem adM {A:Around}{C:Addr}{us:List Value}{kw:List (Str × Value)}:(A.under (.builtin "type.__call__" ⟨.ref C::us,kw⟩)).depth=A.depth+1:=by
 first|rfl|simp[Around.under,Code.weight,Code.isCreation,Code.isGuard,Code.isCaller,Code.frames,Code.isFrame,guardIds]
theorem adN {A:Around}{C:Addr}{us:List Value}{kw:List (Str × Value)}:(A.under (.builtin "type.__call__" ⟨.ref C::us,kw⟩)).units=A.units+1:=by
 first|rfl|simp[Around.under,Code.cUnits,Code.frames,Code.isFrame]
theorem cU.make {k:Nat}{A:Around}(r:cU (k+1) A)(C:Addr)(us:List Value)(kw:List (Str × Value)):cU k (A.under (.builtin "type.__call__" ⟨.ref C::us,kw⟩)):=
 ⟨r.hd,by have:=r.dp;rw[adM];omega,by have:=r.un;rw[adN];omega⟩
theorem cU.depth {k:Nat}{A:Around}(r:cU k A):A.depth<recursionLimit:=by have:=r.dp;omega
theorem cU.units {k:Nat}{A:Around}(r:cU k A):A.units+64<cLine:=by have:=r.un;omega
noncomputable def gj:TA:=λ_ H Q=>Q [] H
noncomputable def cj (ta:TE) (tr:TA):TA:=λσ H Q=>ta σ H λx H1=>tr σ H1 λxs H2=>Q (x::xs) H2
section
variable {X:Cx}{e:Expr}{es:List Expr}{te:TE}{t:TA}{pos:Pos}
theorem ak:PA X [] gj:=λ_ _ _ _ H Q I h=>Calls.spliced_nil ⟨[],H,I,.nil,h⟩
theorem aj (ha:PE X e te)(hr:PA X es t)(hs:starEach (e::es) X.env=(false,eval e X.env)::starEach es X.env:=by rfl):PA X (e::es) (cj te t):=by
 intro pos pins s σ H Q I h
 rw[hs]
 show wpAny _ _ (spliced ((false,eval e X.env)::backTo pos (starEach es X.env))) _ _ s
 refine Calls.spliced_cons (aP (ha pins s σ H _ I h) λu s1 ⟨x,H1,I1,r1,q1⟩=>?_)
 exact aP (hr pos pins s1 σ H1 _ I1 q1) λus s2 ⟨xs,H2,I2,r2,q2⟩=>⟨x::xs,H2,I2,.cons r1 r2,q2⟩
noncomputable def pB (t:TA):TE:=λσ H Q=>t σ H λxs H1=>xs.length<=sizeLine/\∀p,H1 p=none->Q (.ref p) (upd H1 p (.tup xs))
noncomputable def VN (t:TA):TE:=λσ H Q=>t σ H λxs H1=>xs.length<=sizeLine/\∀p,H1 p=none->Q (.ref p) (upd H1 p (.lst xs))
theorem cQ {x1}(h:PA X es t):PE X (.Tuple es x1 pos) (pB t):=by
 intro pins s σ H Q I hq
 refine wpAny_Tuple_spliced (aP (h pos pins s σ H _ I hq) λus s1 ⟨xs,H1,I1,r,z,q⟩=>⟨by rw[<-r.length];exact z,?_⟩)
 have hf:H1 s1.heap.objs.size=none:=I1.hok.fresh (Q02 _)
 refine⟨.ref s1.heap.objs.size,upd H1 s1.heap.objs.size (.tup xs),I1.laid (t':=s1.toks) (λb u e=>Q04 _ e) (Q02 _) ?_,rfl,q _ hf⟩
 exact⟨z,us,r,⟨_,Q0c _ rfl,rfl,_,rfl⟩⟩
theorem dG (h:PA X es t):PE X (.List es pos) (VN t):=by
 intro pins s σ H Q I hq
 refine wpAny_List_spliced (aP (h pos pins s σ H _ I hq) λus s1 ⟨xs,H1,I1,r,z,q⟩=>⟨by rw[<-r.length];exact z,?_⟩)
 have hf:H1 s1.heap.objs.size=none:=I1.hok.fresh (Q02 _)
 refine⟨.ref s1.heap.objs.size,upd H1 s1.heap.objs.size (.lst xs),I1.laid (t':=s1.toks) (λb u e=>Q04 _ e) (Q02 _) ?_,rfl,q _ hf⟩
 exact⟨z,us,0,r,Q0c _ rfl⟩
end
noncomputable abbrev Sp:=List V->Hp->VK->XK->Prop
noncomputable abbrev iC:=List Env->Hp->Shared->XK->Value->Shared->Prop
structure qK (P:Program) (w:World) (K:W.Frag) (mg:Str->Option Value) (base:Heap) (A:Around) (outer:List Env) (s:Shared) (H:Hp):Prop where
 frames:A.frames=some outer
 mod:Mod K mg base
 bs:∀b o,base.get? b=some o->s.heap.get? b=some o/\H b=none
 jm:base.objs.size<=s.heap.objs.size
 iz:s.heap.FunFrames base outer
 lU:∀b∈frs outer,H b=none
 hok:cC P w H s.heap
 bare:AllBare s.gens
noncomputable def CE (outer:List Env) (P:Program) (w:World) (H:Hp) (s:Shared) (Q:VK) (u:Value) (s':Shared):Prop:=
 ∃v H',s'.os=s.os/\AllBare s'.gens/\Un (frs outer) [] H H' s.heap s'.heap/\cC P w H' s'.heap/\RelV v u/\Q v H'
noncomputable def CR (CX:iC) (outer:List Env) (P:Program) (w:World) (H:Hp) (s:Shared) (Q:VK) (E:XK) (r:Result) (s':Shared):Prop:=
 match r with
 | .ok (.ret u)=>CE outer P w H s Q u s'
 | .ok _=>False
 | .error e=>CX outer H s E e s'
structure aq (P:Program) (w:World) (K:W.Frag) (mg:Str->Option Value) (base:Heap) (CX:iC) (k:Nat) (f:Addr) (fd:FuncData) (ps:List Str) (sp:Sp):Prop where
 len:∀vs H Q E,sp vs H Q E->vs.length=ps.length
 run:∀(A:Around) (outer:List Env) (s:Shared) (H:Hp) (args:Args) (us:List Value) (vs:List V) (Q:VK) (E:XK),cU k A->qK P w K mg base A outer s H->BindsTo s fd args (ps.zip us)->Vals vs us->sp vs H Q E->
  codeAny (model P w) A (.call (.ref f) args) (CR CX outer P w H s Q E) s
theorem aq.imp {P:Program}{w:World}{K:W.Frag}{mg:Str->Option Value}{base:Heap}{CX:iC}{k:Nat}{f:Addr}{fd:FuncData}{ps:List Str}{sp V0:Sp}(F:aq P w K mg base CX k f fd ps sp)
 (h:∀vs H Q E,V0 vs H Q E->sp vs H Q E):aq P w K mg base CX k f fd ps V0:=
 ⟨λvs H Q E q=>F.len vs H Q E (h _ _ _ _ q),λA outer s H args us vs Q E hr he hb hv hs=>F.run A outer s H args us vs Q E hr he hb hv (h _ _ _ _ hs)⟩
theorem qK.make {P:Program}{w:World}{K:W.Frag}{mg:Str->Option Value}{base:Heap}{A:Around}{outer:List Env}{s:Shared}{H:Hp}(e:qK P w K mg base A outer s H)(C:Addr)(us:List Value)(kw:List (Str × Value)):
 qK P w K mg base (A.under (.builtin "type.__call__" ⟨.ref C::us,kw⟩)) outer s H:=⟨by first|exact e.frames|(simpa[Around.under,Code.envs,Code.isFrame,pushEnvs] using e.frames),e.mod,e.bs,e.jm,e.iz,e.lU,e.hok,e.bare⟩
section
variable {X:Cx}{pins:List (Addr × Obj)}{σ:St}{H:Hp}{s s':Shared}
theorem Inv.env0 (I:Inv X pins σ H s):qK X.prog X.w X.K X.mg X.base X.A X.stack s H:=
 ⟨I.ok.frames,I.ok.mod,I.bs,Q0e I.ok.jm I.sz,I.stack,I.vL,I.hok,I.bare⟩
theorem Inv.after {Q:VK}{u:Value}(I:Inv X pins σ H s)(h:CE X.stack X.prog X.w H s Q u s'):EP X pins σ Q u s':=by
 obtain⟨v,H',os,bare,un,hok,r,q⟩:=h
 obtain⟨hh,g,d,t,os'⟩:=s'
 obtain rfl:os'=s.os:=os
 exact⟨v,H',I.call (h':=hh) (g':=g) (d':=d) (t':=t) (ch:=[]) un hok bare (λb z=>absurd z (by simp)),r,q⟩
end
noncomputable def pC (sp:Sp) (d8:List V) (E:XK) (t:TA):TE:=λσ H Q=>t σ H λvs H1=>sp (vs++d8) H1 Q E
noncomputable def Fp (C:Addr) (m:Str) (sp:Sp) (d8:List V) (E:XK) (ta:TE) (t:TA):TE:=λσ H Q=>ta σ H λx H1=>∃a dx fs,x=.ref a/\H1 a=some (.ins C dx fs)/\fs.lookup m=none/\
 t σ H1 λvs H2=>sp (x::(vs++d8)) H2 Q E
noncomputable def adO (C:Addr) (sp:Sp) (d8:List V) (E:XK) (t:TA):TE:=λσ H Q=>t σ H λvs H1=>∀x dx,H1 x=none->H1 dx=none->dx≠x->
 sp (.ref x::(vs++d8)) (upd (upd H1 dx (.own x)) x (.ins C dx [])) (λv H2=>v=.non/\Q (.ref x) H2) E
noncomputable def Binds (K:W.Frag) (fd:FuncData) (ps:List Str) (ds:List Value):Prop:=
 ∀(s:Shared) (us:List Value),K.In s.heap->(us++ds).length=ps.length->BindsTo s fd ⟨us,[]⟩ (ps.zip (us++ds))
theorem Binds.all {K:W.Frag}{fd:FuncData}{ps:List Str}(h:∀us:List Value,us.length=ps.length->bindArgs fd ⟨us,[]⟩=pure (ps.zip us)):Binds K fd ps []:=λs us _ hl=>by
 rw[Q0z] at hl ⊢
 exact .of_eq (h us hl)
noncomputable def Passes (CX:iC) (X:Cx) (E:XK):Prop:=∀(pins:List (Addr × Obj)) (σ:St) (H:Hp) (s:Shared) (e:Value) (s':Shared),Inv X pins σ H s->CX X.stack H s E e s'->X.xe e s'
section
variable {X:Cx}{CX:iC}{k:Nat}{f C:Addr}{fd:FuncData}{ps:List Str}{sp:Sp}{d8:List V}{ds:List Value}{E:XK}{x m:Str}{p pos apos:Pos}{e o:Expr}{es:List Expr}{ta:TE}{t:TA}
theorem Fq {pins:List (Addr × Obj)}{σ:St}{H:Hp}{s:Shared}{Q:VK}{us:List Value}{vs:List V}(F:aq X.prog X.w X.K X.mg X.base CX k f fd ps sp)(hr:cU k X.A)(hb:Binds X.K fd ps ds)(hd:Vals d8 ds)(hx:Passes CX X E)
 (I:Inv X pins σ H s) (r:Vals vs us) (h:sp (vs++d8) H Q E):wpAny (model X.prog X.w) X.A (call (.ref f) us) (EP X pins σ Q) X.xe s:=by
 have r2:Vals (vs++d8) (us++ds):=r.append hd
 have hl:(us++ds).length=ps.length:=by rw[<-r2.length];exact F.len _ _ _ _ h
 refine wpAny_call (codeAny_mono (F.run X.A X.stack s H ⟨us,[]⟩ (us++ds) (vs++d8) Q E hr I.env0 (hb s us I.cP hl) r2 h) λr s' hq=>?_)
 cases r with
 |error e=>exact hx pins σ H s e s' I hq
 |ok fl=>
  cases fl with
  |ret u=>exact I.after hq
  |next=>exact False.elim hq
  |brk=>exact False.elim hq
  |cont=>exact False.elim hq
theorem Ft (F:aq X.prog X.w X.K X.mg X.base CX k f fd ps sp)(hr:cU k X.A)(hg:Gl X x)(hm:X.mg x=some (.ref f))(hk:W.keepIn X.K (.ref f)=true)(hb:Binds X.K fd ps ds)(hd:Vals d8 ds)(hx:Passes CX X E)
 (ha:PA X (e::es) t) (hdb:(x == ("__debug__":Str))=false:=by decide) (he:starEach (e::es) X.env=(false,eval e X.env)::starEach es X.env:=by rfl) (hpl:(backTo pos (starEach es X.env)).any (·.1)=false:=by rfl):
 PE X (.Call (.Name x p) (e::es) [] pos) (pC sp d8 E t):=by
 intro pins s σ H Q I h
 refine wpAny_Call_Name_kw (sX I hg hm ?_ hdb)
 refine W.callWith_K (h₀:=X.base) I.ok.mod.qw hk (aP (ha pos pins s σ H _ I h) λus s1 ⟨vs,H1,I1,r,q⟩=>⟨I1.cP,?_⟩) he hpl
 exact Fq F hr hb hd hx I1 r q
theorem fV {pl:Sem Bool}(he:PE X o ta)(c:Cls X.K C)(hm:Meth X.K C m f)(F:aq X.prog X.w X.K X.mg X.base CX k f fd ps sp)(hr:cU k X.A)(hb:Binds X.K fd ps ds)(hd:Vals d8 ds)(hx:Passes CX X E)(ha:PA X (e::es) t)
 (hst:starEach (e::es) X.env=(false,eval e X.env)::starEach es X.env:=by rfl) (hpl:(backTo pos (starEach es X.env)).any (·.1)=false:=by rfl)
 (ht:eval (.Call (.Attribute o m apos) (e::es) [] pos) X.env=(do
   let ov <-eval o X.env
   standAt apos.atName
   let(f,first) <-holding [ov] (getMethod ov m pl)
   callWith pos f first (backTo pos (starEach (e::es) X.env)) (backToKw pos (keywordEach [] X.env))):=by rfl):
 PE X (.Call (.Attribute o m apos) (e::es) [] pos) (Fp C m sp d8 E ta t):=by
 intro pins s σ H Q I h
 refine W.methodCall_KW (pl:=pl) (aP (he pins s σ H _ I h) λu s1 ⟨x,H1,I1,rx,a,dx,fs,ex,ea,l,q⟩=>?_) ht
 subst ex
 obtain rfl:u=Value.ref a:=rx
 refine Fo I1 ea c hm l ?_
 refine W.callWith_K (first:=[.ref a]) (h₀:=X.base) I.ok.mod.qw hm.kp (aP (ha pos pins s1 σ H1 _ I1 q) λus s2 ⟨vs,H2,I2,r,q2⟩=>⟨I2.cP,?_⟩) hst hpl
 exact Fq (us:=.ref a::us) (vs:=.ref a::vs) F hr hb hd hx I2 (.cons rfl r) q2
theorem adP {pl:Sem Bool}(he:PE X o ta)(c:Cls X.K C)(hm:Meth X.K C m f)(F:aq X.prog X.w X.K X.mg X.base CX k f fd ps sp)(hr:cU k X.A)(hb:Binds X.K fd ps ds)(hd:Vals d8 ds)(hx:Passes CX X E)
 (ht:eval (.Call (.Attribute o m apos) [] [] pos) X.env=(do
   let ov <-eval o X.env
   standAt apos.atName
   let(f,first) <-holding [ov] (getMethod ov m pl)
   callWith pos f first (backTo pos (starEach [] X.env)) (backToKw pos (keywordEach [] X.env))):=by rfl):
 PE X (.Call (.Attribute o m apos) [] [] pos) (Fp C m sp d8 E ta gj):=by
 intro pins s σ H Q I h
 refine W.methodCall_KW (pl:=pl) (aP (he pins s σ H _ I h) λu s1 ⟨x,H1,I1,rx,a,dx,fs,ex,ea,l,q⟩=>?_) ht
 subst ex
 obtain rfl:u=Value.ref a:=rx
 refine Fo I1 ea c hm l ?_
 exact W.callWith_K0 (first:=[.ref a]) I1.cP hm.kp (Fq (us:=[.ref a]) (vs:=[.ref a]) F hr hb hd hx I1 (.cons rfl .nil) q)
structure Mk (K:W.Frag) (C f:Addr):Prop where
 makes:W.makesIn K C=true
 init:W.findIn K (.ref C) "__init__"=some (some (.ref f))
 fn:W.isFn K (.ref f)=true
 kp:W.keepIn K (.ref C)=true
theorem adQ {pins:List (Addr × Obj)}{σ:St}{H:Hp}{s:Shared}{Q:VK}{us:List Value}{vs:List V}(M:Mk X.K C f)(F:aq X.prog X.w X.K X.mg X.base CX k f fd ps sp)(hr:cU (k+1) X.A)(hb:Binds X.K fd ps ds)(hd:Vals d8 ds)
 (hx:Passes CX X E) (I:Inv X pins σ H s) (r:Vals vs us)
 (h:∀x dx,H x=none->H dx=none->dx≠x->sp (.ref x::(vs++d8)) (upd (upd H dx (.own x)) x (.ins C dx [])) (λv H2=>v=.non/\Q (.ref x) H2) E):
 wpAny (model X.prog X.w) X.A (call (.ref C) us) (EP X pins σ Q) X.xe s:=by
 have hq:=h (s.heap.objs.size+1) s.heap.objs.size (I.hok.fresh (Q10 _)) (I.hok.fresh (Q02 _)) (Q08 (Q1c _))
 have I2:=Inv.made (C:=C) I
 have r2:Vals (V.ref (s.heap.objs.size+1)::(vs++d8)) (Value.ref (s.heap.objs.size+1)::(us++ds)):=.cons rfl (r.append hd)
 have hl:(Value.ref (s.heap.objs.size+1)::us++ds).length=ps.length:=by
  have e:=r2.length
  rw[F.len _ _ _ _ hq] at e
  exact e.symm
 refine wpAny_call (adG (f:=f) I.cP M.makes M.init (beq_iff_eq.mp M.fn) (codeAny_mono (F.run _ X.stack _ _ ⟨Value.ref (s.heap.objs.size+1)::us,[]⟩ (Value.ref (s.heap.objs.size+1)::(us++ds)) _ _ E (hr.make C us [])
  (I2.env0.make C us []) (hb _ (Value.ref (s.heap.objs.size+1)::us) I2.cP hl) r2 hq) λr s' hq'=>?_))
 cases r with
 |error e=>exact hx pins σ _ _ e s' I2 hq'
 |ok fl=>
  cases fl with
  |ret u=>
   obtain⟨v,H',I3,rv,ev,q3⟩:=I2.after hq'
   subst ev
   exact⟨rv,⟨V.ref (s.heap.objs.size+1),H',I3,rfl,q3⟩⟩
  |next=>exact False.elim hq'
  |brk=>exact False.elim hq'
  |cont=>exact False.elim hq'
theorem V1 (M:Mk X.K C f)(F:aq X.prog X.w X.K X.mg X.base CX k f fd ps sp)(hr:cU (k+1) X.A)(hg:Gl X x)(hm:X.mg x=some (.ref C))(hb:Binds X.K fd ps ds)(hd:Vals d8 ds)(hx:Passes CX X E)
 (ha:PA X (e::es) t) (hdb:(x == ("__debug__":Str))=false:=by decide) (he:starEach (e::es) X.env=(false,eval e X.env)::starEach es X.env:=by rfl) (hpl:(backTo pos (starEach es X.env)).any (·.1)=false:=by rfl):
 PE X (.Call (.Name x p) (e::es) [] pos) (adO C sp d8 E t):=by
 intro pins s σ H Q I h
 refine wpAny_Call_Name_kw (sX I hg hm ?_ hdb)
 refine W.callWith_K (h₀:=X.base) I.ok.mod.qw M.kp (aP (ha pos pins s σ H _ I h) λus s1 ⟨vs,H1,I1,r,q⟩=>⟨I1.cP,?_⟩) he hpl
 exact adQ M F hr hb hd hx I1 r q
end
section
variable {X:Cx}{CX:iC}{k:Nat}{f C:Addr}{fd:FuncData}{ps ks:List Str}{sp:Sp}{E:XK}{x m:Str}{p pos apos kpos:Pos}{e o:Expr}{es:List Expr}{kws:List Keyword}{te ta:TE}{t tk:TA}{nm:Option Str}
variable {g:List Value->List Value->List Value}{gV:List V->List V->List V}
end
structure bC (N P:List Str) (sc:Scope):Prop where
 kind:sc.kind=.function
 co:sc.isCoroutine=false
 gen:sc.isGenerator=false
 nd:N.Nodup
 pre:N.take P.length=P
 par:∀x∈P,sc.names.lookup x=some .local\/sc.names.lookup x=some .cell
 adR:∀y∈sc.names,y.2≠ .free
theorem amS {N Q:List Str}{sc:Scope}(h1:sc.kind=.function:=by rfl)(h2:sc.isCoroutine=false:=by rfl)(h3:sc.isGenerator=false:=by rfl)(h4:N.Nodup:=by decide +kernel)(h5:N.take Q.length=Q:=by rfl)(h6:∀x∈Q,sc.names.lookup x=some .local\/sc.names.lookup x=some .cell:=by decide +kernel)(h7:∀y∈sc.names,y.2≠ .free:=by decide +kernel):bC N Q sc:=⟨h1,h2,h3,h4,h5,h6,h7⟩
theorem V2 {kindOf:Str->Option NameKind}{x:Str}:∀{binds:List (Str × Value)}{m:Str->Option Value},(∀v,(x,v) ∉ binds)->bindL kindOf binds m x=m x
 |[],_,_=>rfl
 |(n,v)::r,m,h=>by
  unfold bindL
  rw[V2 λw hw=>h w (Q0j _ hw)]
  split
  . have:x≠n:=by rintro rfl;exact h v Q0f
    simp[this]
  . rfl
theorem V3 {kindOf:Str->Option NameKind}{x:Str}:∀{binds:List (Str × Value)}{m:Str->Option Value},(∀v,(x,v) ∉ binds)->bindC kindOf binds m x=m x
 |[],_,_=>rfl
 |(n,v)::r,m,h=>by
  unfold bindC
  rw[V3 λw hw=>h w (Q0j _ hw)]
  split
  . rfl
  . have:x≠n:=by rintro rfl;exact h v Q0f
    simp[this]
theorem V4 {kindOf:Str->Option NameKind}{x:Str}{v:Value}:∀{P:List Str}{vs:List Value}{i:Nat}{m:Str->Option Value},P.Nodup->P[i]? =some x->vs[i]? =some v->kindOf x=some .local->
 bindL kindOf (P.zip vs) m x=some v
 |[],_,_,_,_,h,_,_=>by simp at h
 |_::_,[],_,_,_,_,h,_=>by simp at h
 |p::P,w::vs,0,m,nd,h1,h2,hk=>by
  simp at h1 h2;subst h1;subst h2
  show bindL kindOf ((p,w)::P.zip vs) m p=_
  unfold bindL
  rw[V2 λv hv=>(List.nodup_cons.mp nd).1 (Q22 hv).1,if_pos hk]
  simp
 |p::P,w::vs,i+1,m,nd,h1,h2,hk=>by
  show bindL kindOf ((p,w)::P.zip vs) m x=_
  unfold bindL
  exact V4 (i:=i) (List.nodup_cons.mp nd).2 (by simpa using h1) (by simpa using h2) hk
theorem V5 {kindOf:Str->Option NameKind}{x:Str}{v:Value}:∀{P:List Str}{vs:List Value}{i:Nat}{m:Str->Option Value},P.Nodup->P[i]? =some x->vs[i]? =some v->kindOf x≠some .local->
 bindC kindOf (P.zip vs) m x=some v
 |[],_,_,_,_,h,_,_=>by simp at h
 |_::_,[],_,_,_,_,h,_=>by simp at h
 |p::P,w::vs,0,m,nd,h1,h2,hk=>by
  simp at h1 h2;subst h1;subst h2
  show bindC kindOf ((p,w)::P.zip vs) m p=_
  unfold bindC
  rw[V3 λv hv=>(List.nodup_cons.mp nd).1 (Q22 hv).1,if_neg hk]
  simp
 |p::P,w::vs,i+1,m,nd,h1,h2,hk=>by
  show bindC kindOf ((p,w)::P.zip vs) m x=_
  unfold bindC
  exact V5 (i:=i) (List.nodup_cons.mp nd).2 (by simpa using h1) (by simpa using h2) hk
noncomputable def start (N:List Str) (vs:List V):St:=vs.map some++List.replicate (N.length - vs.length) none
noncomputable def lA (CX:iC) (P:Program) (w:World) (K:W.Frag) (mg:Str->Option Value) (base:Heap) (N:List Str) (qual:Str) (scope:Scope) (f:Addr) (cd:Value) (A:Around) (outer:List Env) (s:Shared) (H:Hp) (E:XK):Cx where
 prog:=P
 w:=w
 K:=K
 mg:=mg
 base:=base
 A:=A.deeper (envOfC qual scope s.heap.objs.size f cd)
 N:=N
 s₀:=s
 H₀:=H
 env:=envOfC qual scope s.heap.objs.size f cd
 outer:=outer
 stack:=envOfC qual scope s.heap.objs.size f cd::outer
 ex:=[]
 calm:=true
 fn:=λ_=>true
 pn:=[]
 xe:=λe s'=>wpAny (model P w) (A.deeper (envOfC qual scope s.heap.objs.size f cd)) (leaving (envOfC qual scope s.heap.objs.size f cd) e) (λ_ s''=>CX outer H s E e s'') (λe' s''=>CX outer H s E e' s'') s'
theorem V6 {sc:Scope}{n:Nat}{x:Str}(h:sc.names.lookup x=some .cell):∃c,(cellsFrom n sc.names []).lookup x=some c:=by
 have q:=W.cellsFrom_some sc.names n [] (.inl h)
 exact Option.isSome_iff_exists.mp q
theorem adS {CX:iC}{P:Program}{w:World}{K:W.Frag}{mg:Str->Option Value}{base:Heap}{N ps:List Str}{qual:Str}{scope:Scope}{f:Addr}{cd:Value}{A:Around}{outer:List Env}{s s1:Shared}{H:Hp}{E:XK}{us:List Value}{vs:List V}
 (S:bC N ps scope) (hd:A.handled=none) (e0:qK P w K mg base A outer s H) (hl:vs.length=ps.length) (r:Vals vs us)
 (x:InCallC s s.heap.objs.size (bindL (envOfC qual scope s.heap.objs.size f cd).kindOf (ps.zip us) λ_=>none) (cellsFrom (s.heap.objs.size+1) scope.names []) (bindC (envOfC qual scope s.heap.objs.size f cd).kindOf (ps.zip us) λ_=>none) s1):
 Inv (lA CX P w K mg base N qual scope f cd A outer s H E) [] (start N vs) H s1:=by
 have hpl:ps.length<=N.length:=by have:=congrArg List.length S.pre;rw[Q0i] at this;omega
 obtain⟨h1,tk,rfl,hk⟩:=x.done
 have Fv:∀b:Addr,b ∉ (lA CX P w K mg base N qual scope f cd A outer s H E).ex:=λb z=>absurd (show b∈([]:List Addr) from z) (by simp)
 refine⟨⟨e0.mod,S.kind,rfl,rfl,Q02 _,λy z c h1 h2=>?_,λy hy=>?_,λy c _ h=>?_,λ_=>hd,Around.frames_deeper e0.frames,.inr ⟨rfl,rfl⟩,λb z=>absurd z (Fv b),e0.bs,e0.jm,λb _ _=>Fv b,λb z=>absurd z (Fv b),e0.iz,e0.lU⟩,
  rfl,e0.bare,Un.kept hk,⟨_,x.toInCall.ns,λi y v h1 h2 h3=>?_⟩,λy c h=>⟨_,x.cell y c h⟩,e0.hok.fresh (Q02 _),λy c h=>?_,λp hp=>absurd (show p∈([]:List (Addr × Obj)) from hp) (by simp),e0.hok.kept hk,?_⟩
 . exact name_of_addr x.apart (PySem.mem_of_lookup h1) (PySem.mem_of_lookup h2)
 . have hy:scope.names.lookup y=some .cell\/scope.names.lookup y=some .free:=hy
   rcases hy with hy|hy
   . exact V6 hy
   . exact absurd rfl (S.adR _ (PySem.mem_of_lookup hy))
 . exact Q0s (x.above y c (PySem.mem_of_lookup h))
 . have hi:i<vs.length:=by
    unfold start at h2
    by_cases hi:i<vs.length
    . exact hi
    . rw[Q0q (by simpa using hi)] at h2
      rw[Q2i] at h2
      split at h2 <;> cases h2
   have ha:vs[i]? =some v:=by
    unfold start at h2
    rw[Q0t (by simpa using hi),Q0g] at h2
    cases e:vs[i]? with
    |none=>rw[e] at h2;cases h2
    |some a=>rw[e] at h2;cases h2;rfl
   obtain⟨u,hu,rv⟩:=r.get ha
   have hp:ps[i]? =some y:=by
    rw[<-S.pre,List.getElem?_take_of_lt (by omega)];exact h1
   have V7:ps.Nodup:=by rw[<-S.pre];exact S.nd.sublist (Q2j _ _)
   refine⟨u,rv,?_⟩
   rcases S.par y (Q0v hp) with k|k
   . exact .inl ⟨k,V4 V7 hp hu k⟩
   . obtain⟨c,e⟩:=V6 (n:=s.heap.objs.size+1) k
     refine .inr ⟨.inl k,c,e,?_⟩
     have q:=x.cell y c e
     rw[V5 V7 hp hu (by show scope.names.lookup y≠_;rw[k];decide)] at q
     exact q
 . exact e0.hok.fresh (Q0s (x.above y c (PySem.mem_of_lookup h)))
 . unfold start
   show _=N.length
   rw[Q09,Q06,Q15]
   omega
theorem zL {CX:iC}{P:Program}{w:World}{K:W.Frag}{mg:Str->Option Value}{base:Heap}{k:Nat}{f:Addr}{name qual:Str}{params:Arguments}{body:List Stmt}{scope:Scope}{dV kV doc pm cdv ct oc:Value}{an od:Option Addr}
 {osl:Array (Option Value)} {N ps:List Str} {sp:Sp} (lk:K.lookup f=some ⟨oc,od,.func (W.fnOf name qual params body scope dV kV doc pm an cdv ct),osl⟩) (hcd:W.codeIn K cdv qual=true) (S:bC N ps scope)
 (len:∀vs H Q E,sp vs H Q E->vs.length=ps.length)
 (hbody:∀(A:Around) (outer:List Env) (s:Shared) (H:Hp) (vs:List V) (Q:VK) (E:XK),cU k (A.deeper (envOfC qual scope s.heap.objs.size f cdv))->sp vs H Q E->
   ∃t,fY (lA CX P w K mg base N qual scope f cdv A outer s H E) body t/\t { nx:=λ_ H'=>Q .non H',rt:=Q } (start N vs) H):
 aq P w K mg base CX (k+1) f (W.fnOf name qual params body scope dV kV doc pm an cdv ct) ps sp:=by
 refine⟨len,λA outer s H args us vs Q E hr e0 hb r hsp=>?_⟩
 have hl:=len _ _ _ _ hsp
 have KX:K.In s.heap:=e0.mod.qw.keeps λb o e=>(e0.bs b o e).1
 have lim:s.heap.NoLimit:=e0.mod.nolimit.keeps λb o e=>(e0.bs b o e).1
 have hkind:∀y∈ps.zip us,scope.names.lookup y.1=some .local\/(scope.names.lookup y.1=some .cell/\((cellsFrom (s.heap.objs.size+1) scope.names []).lookup y.1).isSome=true):=λ⟨n,v⟩ hy=>by
  rcases S.par n (Q22 hy).1 with q|q
  . exact .inl q
  . exact .inr ⟨q,W.cellsFrom_some _ _ _ (.inl q)⟩
 refine codeAny_call_function hr.depth (KX _ _ lk) rfl S.co S.gen rfl (W.codeRec_of KX hcd) (hb _ _ _ _ ?_)
 refine wpAny_newFunctionEnv_cells S.kind hkind λenv he s1 x=>?_
 subst he
 refine⟨lim.keeps x.toInCall.keep,codeAny_func ?_⟩
 obtain⟨t,ht,hq⟩:=hbody A outer s H vs Q E (hr.deeper _) hsp
 have I:Inv (lA CX P w K mg base N qual scope f cdv A outer s H E) [] (start N vs) H s1:=adS S hr.hd e0 hl r x
 refine Q0h (ht [] s1 (start N vs) H _ I hq) (λfl s' hs=>?_) λe s' hs=>hs
 have fin:∀{σ':St} {H':Hp} {v:V} {u:Value},Inv (lA CX P w K mg base N qual scope f cdv A outer s H E) [] σ' H' s'->RelV v u->Q v H'->CE outer P w H s Q u s':=
  λ{σ' H' v u} J rv q=>⟨v,H',J.os,J.bare,J.base,J.hok,rv,q⟩
 cases fl with
 |ret u=>
  obtain⟨v,σ',H',J,rv,q⟩:=hs
  exact fin J rv q
 |next=>
  obtain⟨σ',H',J,q⟩:=hs
  exact fin (v:=V.non) (u:=Value.none) J rfl q
 |brk=>
  obtain⟨_,_,_,q⟩:=hs
  exact False.elim q
 |cont=>
  obtain⟨_,_,_,q⟩:=hs
  exact False.elim q
section
variable {X:Cx}{x:Str}{p pos:Pos}{e:Expr}{es:List Expr}{t:TA}{id T:String}{r:List V->Hp->VK->Prop}
noncomputable def zM (r:List V->Hp->VK->Prop) (t:TA):TE:=λσ H Q=>t σ H λvs H1=>r vs H1 Q
theorem aY (hc:iY X (.builtin id) r)(hg:Gl X x)(hm:X.mg x=none)(hv:bootBuiltins x=some (.builtin id))(ha:PA X (e::es) t)(hn:x≠"__name__":=by decide)(hdb:(x == ("__debug__":Str))=false:=by decide)
 (he:starEach (e::es) X.env=(false,eval e X.env)::starEach es X.env:=by rfl) (hpl:(backTo pos (starEach es X.env)).any (·.1)=false:=by rfl):PE X (.Call (.Name x p) (e::es) [] pos) (zM r t):=by
 intro pins s σ H Q I h
 refine wpAny_Call_Name_kw (jM I hg hm hv ?_ hn hdb)
 exact PyProof.Rows.callWith_builtin1 (aP (ha pos pins s σ H _ I h) λus s1 ⟨vs,H1,I1,r1,q1⟩=>hc pins s1 σ H1 vs us Q I1 r1 q1) he hpl
theorem iZ (hc:iY X (.type T) r)(hg:Gl X x)(hm:X.mg x=none)(hv:bootBuiltins x=some (.type T))(ha:PA X (e::es) t)(hn:x≠"__name__":=by decide)(hdb:(x == ("__debug__":Str))=false:=by decide)
 (he:starEach (e::es) X.env=(false,eval e X.env)::starEach es X.env:=by rfl) (hpl:(backTo pos (starEach es X.env)).any (·.1)=false:=by rfl):PE X (.Call (.Name x p) (e::es) [] pos) (zM r t):=by
 intro pins s σ H Q I h
 refine wpAny_Call_Name_kw (jM I hg hm hv ?_ hn hdb)
 exact PyProof.Rows.callWith_type1 (aP (ha pos pins s σ H _ I h) λus s1 ⟨vs,H1,I1,r1,q1⟩=>hc pins s1 σ H1 vs us Q I1 r1 q1) he hpl
end
end L2
namespace HT
open PySem PyProof.Rows
section
open PySem.SeqAt
open PySem.AutoSeq1 (wpAny_loadPart')
open PySem.MeetsSeq PySem.MeetsSeq2 PySem.MeetsSeq3
end
section
variable {prog:Program}{w:World}{A:Around}{E:Value->Shared->Prop}{s:Shared}
theorem adT {t b:Addr}{vs ws:List Value}{Q:Value->Shared->Prop}(ht:IsTup s.heap t vs.toArray)(hb:IsTup s.heap b ws.toArray)(hv:vs≠[])
 (h1:ws=[]->Q (.ref t) s) (h2:ws≠[]->Q (.ref s.heap.objs.size) { s with heap:=s.heap.push { cls:=.type "tuple",data:=.seq (vs++ws).toArray } })
 (hsz:vs.length+ws.length<=sizeLine):wpAny (model prog w) A (binaryOp .Add (.ref t) (.ref b)) Q E s:=by
 obtain⟨⟨cls,dd,data,sl⟩,ho,hc,n,hd⟩:=id ht
 obtain⟨⟨cls2,dd2,data2,sl2⟩,ho2,hc2,n2,hd2⟩:=id hb
 simp only at hc hd hc2 hd2
 subst hc hd hc2 hd2
 have e:vs.toArray++ws.toArray=(vs++ws).toArray:=by simp
 by_cases hw:ws=[]
 . exact concat_meets ⟨_,ho,rfl⟩ ⟨_,ho2,rfl⟩ noFill_tuple_add seq_tuple_add PySem.F.slot_tuple_add PySem.F.entry_tuple_add (PySem.F.args_tuple_add_2 _ _)
    (tuple_addW1 t b vs.toArray ws.toArray n n2 dd dd2 sl sl2 (by simpa using hv) (by simp[hw])) ⟨ho,ho2,h1 hw⟩
 . refine concat_meets ⟨_,ho,rfl⟩ ⟨_,ho2,rfl⟩ noFill_tuple_add seq_tuple_add PySem.F.slot_tuple_add PySem.F.entry_tuple_add (PySem.F.args_tuple_add_2 _ _)
    (tuple_addW2 t b vs.toArray ws.toArray n n2 dd dd2 sl sl2 (by simpa using hv) (by simpa using hw) (by rw[Q07,Q07];exact hsz)) ⟨ho,ho2,?_⟩
   rw[e]
   exact h2 hw
noncomputable def bG (n d:Nat):Option Int->Nat
 |none=>d
 |some v=>if v<0 then(v+(n:Int)).toNat else min v.toNat n
theorem V8 (n d k:Nat):bG n d (some (k:Int))=min k n:=by
 show(if(k:Int)<0 then((k:Int)+(n:Int)).toNat else min (k:Int).toNat n)=min k n
 rw[if_neg (by omega),Q1o]
theorem adU (n d:Nat)(hd:d<=n)(o:Option Int):bG n d o<=n:=by
 cases o with
 |none=>exact hd
 |some v=>
  show(if v<0 then(v+(n:Int)).toNat else min v.toNat n)<=n
  by_cases hv:v<0
  . rw[if_pos hv];omega
  . rw[if_neg hv];exact Nat.min_le_right _ _
theorem V9 (v:Int)(n d:Nat):(if v<0 then max (v+(n:Int)) 0 else min v (n:Int))=((bG n d (some v):Nat):Int):=by
 show(if v<0 then max (v+(n:Int)) 0 else min v (n:Int))=(((if v<0 then(v+(n:Int)).toNat else min v.toNat n):Nat):Int)
 by_cases hv:v<0
 . simp only[if_pos hv];omega
 . simp only[if_neg hv];omega
theorem adV (lo hi:Option Int)(n:Nat):Builtin.Slice.sliceAdjust lo hi 1 (n:Int)=(((bG n 0 lo:Nat):Int),((bG n n hi:Nat):Int)):=by
 have h1:¬((1:Int)<0):=by omega
 unfold Builtin.Slice.sliceAdjust
 simp only[h1,if_false]
 refine Prod.ext ?_ ?_
 . cases lo with
   |none=>rfl
   |some v=>exact V9 v n 0
 . cases hi with
   |none=>rfl
   |some v=>exact V9 v n n
theorem adW (i j:Nat):Builtin.Slice.slicePlaces (i:Int) (j:Int) 1=j - i:=by
 unfold Builtin.Slice.slicePlaces
 have h1:(1:Int) > 0:=by omega
 simp only[h1,if_true,Int.ediv_one]
 split <;> omega
theorem V_ {v:Value}{o:Option Int}{Q:Option Int->Shared->Prop}(p:IsPart v o)(h:Q o s):wpAny (model prog w) A (Builtin.Slice.slicePartIndex v) Q E s:=by
 cases p with
 |none=>exact slicePart_none h
 |int i t=>exact slicePart_int h
theorem adX {sl:Addr}{vl vu:Value}{lo hi:Option Int}{n:Nat}{Q:Int × Int × Nat->Shared->Prop}(hs:s.heap.IsSliceOf sl vl vu .none)(pl:IsPart vl lo)(pu:IsPart vu hi)
 (h:Q (((bG n 0 lo:Nat):Int),1,bG n n hi - bG n 0 lo) s):wpAny (model prog w) A (Builtin.Slice.sliceApplied (.ref sl) (pure (n:Int))) Q E s:=by
 obtain⟨os,hos,hcs,hds⟩:=id hs
 unfold Builtin.Slice.sliceApplied Builtin.Slice.sliceFields
 refine Q00 (Q00 (wpAny_field hos hds (x:=vl) rfl (Q00 (wpAny_field hos hds (x:=vu) rfl (Q00 (wpAny_field hos hds (x:=.none) rfl (Q03 ?_)))))))
 refine Q00 (slicePart_none ?_)
 show wpAny _ _ (if((1:Int) == 0)=true then _ else _) _ _ s
 rw[if_neg (by decide)]
 refine Q00 (V_ pl (Q00 (V_ pu (Q00 (Q03 ?_)))))
 show wpAny _ _ (match Builtin.Slice.sliceAdjust lo hi 1 (n:Int) with|(lo,hi)=>pure (lo,(1:Int),Builtin.Slice.slicePlaces lo hi 1)) _ _ s
 rw[adV lo hi n]
 show wpAny _ _ (pure (((bG n 0 lo:Nat):Int),(1:Int),Builtin.Slice.slicePlaces ((bG n 0 lo:Nat):Int) ((bG n n hi:Nat):Int) 1)) _ _ s
 rw[adW]
 exact Q03 h
theorem adY (xs:Array Value)(i k:Nat):((List.range k).filterMap λ(m:Nat)=>xs[((i:Int)+(m:Int) * 1).toNat]?).toArray=((xs.toList.drop i).take k).toArray:=by
 have e:(λ(m:Nat)=>xs[((i:Int)+(m:Int) * 1).toNat]?)=λm=>xs[i+m]? :=by
  funext m
  have:((i:Int)+(m:Int) * 1).toNat=i+m:=by omega
  rw[this]
 rw[e]
 have:=pick_run xs i k
 rw[List.filterMap_map] at this
 have e2:((λx=>xs[x]?) ∘ λx=>i+x)=λm=>xs[i+m]? :=rfl
 rw[e2] at this
 rw[this]
theorem adZ {t sl:Addr}{items:Array Value}{vl vu:Value}{lo hi:Option Int}{Q:Value->Shared->Prop}(ht:IsTup s.heap t items)(hs:s.heap.IsSliceOf sl vl vu .none)(pl:IsPart vl lo)(pu:IsPart vu hi)
 (hw:¬(bG items.size 0 lo=0/\bG items.size items.size hi=items.size))
 (h:Q (.ref s.heap.objs.size) { s with heap:=s.heap.push { cls:=.type "tuple",data:=.seq ((items.toList.drop (bG items.size 0 lo)).take (bG items.size items.size hi - bG items.size 0 lo)).toArray } })
 (hsz:items.size<=sizeLine):wpAny (model prog w) A (getItem (.ref t) (.ref sl)) Q E s:=by
 have zN:sizeOk (.seq ((items.toList.drop (bG items.size 0 lo)).take (bG items.size items.size hi - bG items.size 0 lo)).toArray):=by
  show((items.toList.drop (bG items.size 0 lo)).take (bG items.size items.size hi - bG items.size 0 lo)).toArray.size<=sizeLine
  rw[Q07,Q0i,Q1p,Q1g]
  omega
 have hj:bG items.size items.size hi<=items.size:=adU _ _ (Q02 _) hi
 obtain⟨os,hos,hcs,hds⟩:=id hs
 have hTs:s.TypeIs (.ref sl) "slice":=⟨os,hos,hcs⟩
 unfold getItem
 try with_reducible refine wpAny_holding ?_
 first|refine Q00 (Q03 ?_)|skip
 refine Q00 (wpAny_sequenceKey ht.typeIs (by decide) ?_)
 refine Q00 (wpAny_callSpecial?_slot (name:=Str.ofString "__getitem__") ht.typeIs PyProof.Rows.slot_tuple_getitem
  (wpAny_call_entry PyProof.Rows.slot_tuple_getitem ht.typeIs entry_tuple_getitem ?_ (args_tuple_getitem _ _)))
 show wpAny _ _ (Builtin.Tuple.tupleItemsOf (.ref t) >>= _) _ _ s
 refine Q00 (tupleItemsOf_ ht ?_)
 refine Q00 (wpAny_typeOf hTs ?_)
 rw[if_pos (by decide)]
 refine Q00 (adX hs pl pu ?_)
 have hno:¬((((bG items.size 0 lo:Nat):Int) == 0 && (1:Int) == 1 && (bG items.size items.size hi - bG items.size 0 lo) == items.size)=true):=by
  intro q
  rw[Bool.and_eq_true,Bool.and_eq_true] at q
  have q1:((bG items.size 0 lo:Nat):Int)=0:=eq_of_beq q.1.1
  have q2:bG items.size items.size hi - bG items.size 0 lo=items.size:=eq_of_beq q.2
  exact hw ⟨by omega,by omega⟩
 show wpAny _ _ (if(((bG items.size 0 lo:Nat):Int) == 0 && (1:Int) == 1 && (bG items.size items.size hi - bG items.size 0 lo) == items.size)=true then _ else _) _ _ s
 rw[if_neg hno,adY]
 first
  |exact Q00 (m:=Builtin.Tuple.tupleExact _) (wpAny_newObj_type (Q03 ⟨_,rfl,Q03 h⟩) zN)
  |exact Q00 (m:=Builtin.Tuple.tupleExact _) (wpAny_newObj_type (Q00 (Q03 (Q03 ⟨_,rfl,Q03 h⟩))) zN)
  |exact Q00 (Q00 (m:=Builtin.Tuple.tupleExact _) (wpAny_newObj_type (Q03 (Q03 ⟨_,rfl,Q03 h⟩)) zN))
  |exact Q00 (Q00 (m:=Builtin.Tuple.tupleExact _) (wpAny_newObj_type (Q03 ⟨_,rfl,Q03 h⟩) zN))
end
end HT
namespace L2
open PySem PySem.Spec PyProof.Rows
noncomputable abbrev TO:=St->Hp->(Option Int->Hp->Prop)->Prop
noncomputable def PO (X:Cx) (e:Option Expr) (t:TO):Prop:=
 ∀(pins:List (Addr × Obj)) (s:Shared) (σ:St) (H:Hp) (Q:Option Int->Hp->Prop),Inv X pins σ H s->t σ H Q->
  wpAny (model X.prog X.w) X.A (evalPart e X.env) (λu s'=>∃o H',Inv X pins σ H' s'/\IsPart u o/\Q o H') X.xe s
noncomputable def ad0:TO:=λ_ H Q=>Q none H
noncomputable def ad1 (t:TE):TO:=λσ H Q=>t σ H λx H1=>∃i,x=.int i/\Q (some i) H1
section
variable {X:Cx}{e:Expr}{te:TE}{lo hi:Option Expr}{tl th:TO}{pos p2:Pos}
theorem vV:PO X none ad0:=by
 intro pins s σ H Q I h
 rw[evalPart_none]
 exact Q03 ⟨none,H,I,.none,h⟩
theorem vW (h:PE X e te):PO X (some e) (ad1 te):=by
 intro pins s σ H Q I hw
 rw[evalPart_some]
 refine aP (h pins s σ H _ I hw) λu s1 ⟨x,H1,I1,r1,q1⟩=>?_
 obtain⟨i,rfl,q⟩:=q1
 obtain⟨t,rfl⟩:=r1
 exact⟨some i,H1,I1,.int i t,q⟩
noncomputable def Fw (X:Cx) (r:V->Option Int->Option Int->Hp->VK->Prop):Prop:=
 ∀(pins:List (Addr × Obj)) (s:Shared) (σ:St) (H:Hp) (x:V) (v vl vu:Value) (lo hi:Option Int) (sl:Addr) (Q:VK),Inv X pins σ H s->RelV x v->s.heap.IsSliceOf sl vl vu .none->IsPart vl lo->IsPart vu hi->r x lo hi H Q->
  ∃T id,typeLookup (.type T) "__getitem__"=pure (some (.builtin id))/\s.TypeIs v T/\wpAny (model X.prog X.w) X.A (getItem v (.ref sl)) (EP X pins σ Q) X.xe s
noncomputable def tSl (r:V->Option Int->Option Int->Hp->VK->Prop) (te:TE) (tl th:TO):TE:=λσ H Q=>te σ H λx H1=>tl σ H1 λl H2=>th σ H2 λu H3=>r x l u H3 Q
theorem vX {r:V->Option Int->Option Int->Hp->VK->Prop}(hr:Fw X r)(he:PE X e te)(hl:PO X lo tl)(hu:PO X hi th):PE X (.Subscript e (.Slice lo hi none p2) pos) (tSl r te tl th):=by
 intro pins s σ H Q I h
 refine Subscript_ (aP (he pins s σ H _ I h) λv s1 ⟨x,H1,I1,r1,q1⟩=>?_)
 refine wpAny_Slice (aP (hl pins s1 σ H1 _ I1 q1) λvl s2 ⟨l,H2,I2,pl,q2⟩=>aP (hu pins s2 σ H2 _ I2 q2) λvu s3 ⟨u,H3,I3,pu,q3⟩=>?_)
 rw[evalPart_none]
 refine Q03 ?_
 have I4:Inv X pins σ H3 { s3 with heap:=s3.heap.push { cls:=.type "slice",data:=.fields #[vl,vu,.none] } }:=I3.kept (t':=s3.toks) λb ob q=>Q04 _ q
 obtain⟨T,id,hT,ht,hg⟩:=hr pins { s3 with heap:=s3.heap.push { cls:=.type "slice",data:=.fields #[vl,vu,.none] } } σ H3 x v vl vu l u s3.heap.objs.size Q I4 r1 (Heap.IsSliceOf.new ..) pl pu q3
 show wpAny (model X.prog X.w) X.A (subscriptTail e (.Slice lo hi none p2) v (.ref s3.heap.objs.size)) (EP X pins σ Q) X.xe { s3 with heap:=s3.heap.push { cls:=.type "slice",data:=.fields #[vl,vu,.none] } }
 exact tail_any (ops:=[.ref s3.heap.objs.size,v]) ht hT hg (by with_unfolding_all rfl)
noncomputable def eX (xs:List V) (lo hi:Option Int):List V:=(xs.drop (HT.bG xs.length 0 lo)).take (HT.bG xs.length xs.length hi - HT.bG xs.length 0 lo)
theorem Fx (xs:List V)(lo hi:Option Int):(eX xs lo hi).length<=xs.length:=by
 unfold eX
 rw[Q0i,Q1p]
 omega
noncomputable def ad3 (K:W.Frag):V->Option Int->Option Int->Hp->VK->Prop:=λx lo hi H Q=>∃a xs,x=.ref a/\aD K H a xs/\
 ¬(HT.bG xs.length 0 lo=0/\HT.bG xs.length xs.length hi=xs.length)/\∀p,H p=none->Q (.ref p) (upd H p (.tup (eX xs lo hi)))
theorem Wa:Fw X (ad3 X.K):=by
 intro pins s σ H x v vl vu lo hi sl Q I rx hs pl pu h
 obtain⟨a,xs,rfl,hx,hw,q⟩:=h
 cases rx
 obtain⟨its,r,ht,hz⟩:=I.tuple hx
 have hlen:its.toArray.size=xs.length:=by rw[Q07];exact r.length.symm
 refine⟨"tuple",_,PyProof.Rows.slot_tuple_getitem.lookup,ht.typeIs,?_⟩
 refine HT.adZ ht hs pl pu (by rw[hlen];exact hw) ?_ (by rw[hlen];exact hz)
 rw[hlen]
 refine⟨.ref s.heap.objs.size,_,I.laid (t':=s.toks) (o:=.tup (eX xs lo hi)) (λb ob q=>Q04 _ q) (Q02 _) ?_,rfl,q _ (I.hok.fresh (Q02 _))⟩
 exact⟨Q0e (Fx xs lo hi) hz,_,(r.drop (HT.bG xs.length 0 lo)).take (HT.bG xs.length xs.length hi - HT.bG xs.length 0 lo),IsTup.new _ _⟩
noncomputable def ad4 (K:W.Frag):R2:=λx y H Q=>∃a b xs ys,x=.ref a/\y=.ref b/\aD K H a xs/\aD K H b ys/\xs≠[]/\xs.length+ys.length<=sizeLine/\
 (ys=[]->Q (.ref a) H)/\(ys≠[]->∀p,H p=none->Q (.ref p) (upd H p (.tup (xs++ys))))
theorem Vals.zO {xs:List V}{us:List Value}(r:Vals xs us):us=[]↔xs=[]:=by
 cases r with
 |nil=>simp
 |cons _ _=>simp
theorem ad5:dJ X (binaryOp .Add) (ad4 X.K):=by
 intro pins s σ H x y v u Q I rx ry h
 obtain⟨a,b,xs,ys,rfl,rfl,ha,hb,hx,hz,q1,q2⟩:=h
 cases rx
 cases ry
 obtain⟨its,r1,p1,_⟩:=I.tuple ha
 obtain⟨its2,r2,p2,_⟩:=I.tuple hb
 refine HT.adT p1 p2 (λz=>hx (r1.zO.mp z)) (λz=>⟨.ref a,H,I,rfl,q1 (r2.zO.mp z)⟩) (λz=>?_) (by rw[<-r1.length,<-r2.length];exact hz)
 refine⟨.ref s.heap.objs.size,_,I.laid (t':=s.toks) (o:=.tup (xs++ys)) (λb ob q=>Q04 _ q) (Q02 _) ?_,rfl,q2 (λw=>z (r2.zO.mpr w)) _ (I.hok.fresh (Q02 _))⟩
 exact⟨by rw[Q09];exact hz,_,r1.append r2,IsTup.new _ _⟩
end
noncomputable def lB (n:Nat) (i:Int):Option Nat:=if 0<=i then(if i<n then some i.toNat else none) else if -(n:Int)<=i then some (i+n).toNat else none
noncomputable def dO {α:Type}(xs:List α) (i:Int):Option α:=(lB xs.length i).bind λj=>xs[j]?
theorem Wb {n:Nat}{i:Int}{j:Nat}(h:lB n i=some j):seqIndex? i n=some j/\j<n/\ -(n:Int)<=i/\i<n:=by
 unfold lB at h
 by_cases h0:0<=i
 . rw[if_pos h0] at h
   by_cases h1:i<n
   . rw[if_pos h1] at h
     have e:i.toNat=j:=Option.some.inj h
     exact⟨by rw[seqIndex_of h0 h1,e],by omega,by omega,h1⟩
   . rw[if_neg h1] at h;cases h
 . rw[if_neg h0] at h
   by_cases h1: -(n:Int)<=i
   . rw[if_pos h1] at h
     have e:(i+n).toNat=j:=Option.some.inj h
     exact⟨by rw[seqIndex_neg (by omega) h1,e],by omega,h1,by omega⟩
   . rw[if_neg h1] at h;cases h
theorem Fy {α:Type}{xs:List α}{i:Int}{v:α}(h:dO xs i=some v):∃j,seqIndex? i xs.length=some j/\xs[j]? =some v/\j<xs.length/\ -(xs.length:Int)<=i/\i<xs.length:=by
 unfold dO at h
 cases e:lB xs.length i with
 |none=>rw[e] at h;cases h
 |some j=>
  rw[e] at h
  obtain⟨h1,h2,h3,h4⟩:=Wb e
  exact⟨j,h1,h,h2,h3,h4⟩
theorem jO {α:Type}{xs:List α}{j:Nat}{v:α}(h:xs[j]? =some v):dO xs (j:Int)=some v:=by
 have hj:j<xs.length:=(List.getElem?_eq_some_iff.mp h).1
 have e:lB xs.length (j:Int)=some j:=by
  unfold lB
  rw[if_pos (by omega),if_pos (by omega)];simp
 unfold dO;rw[e];exact h
noncomputable def ad6 (b:Expr):Prop:=∀o i,subscripted b false o i=operate [o,i] (getItem o i)
noncomputable def m7 (X:Cx) (r:R2):Prop:=
 ∀(value slice:Expr) (pins:List (Addr × Obj)) (s:Shared) (σ:St) (H:Hp) (x y:V) (v u:Value) (Q:VK),Inv X pins σ H s->RelV x v->RelV y u->r x y H Q->
  subscripted slice false v u=operate [v,u] (getItem v u)->wpAny (model X.prog X.w) X.A (subscriptTail value slice v u) (EP X pins σ Q) X.xe s
noncomputable def Fz (X:Cx) (id:String) (r:V->List V->Hp->VK->Prop):Prop:=
 ∀(pins:List (Addr × Obj)) (s:Shared) (σ:St) (H:Hp) (x:V) (xs:List V) (v:Value) (us:List Value) (Q:VK),Inv X pins σ H s->RelV x v->Vals xs us->r x xs H Q->
  wpAny (model X.prog X.w) X.A (call (.builtin id) (v::us)) (EP X pins σ Q) X.xe s
section
variable {X:Cx}{a b:Expr}{ta tb:TE}{pos:Pos}
theorem m7.or {r r':R2}(h:m7 X r)(h':m7 X r'):m7 X (λx y H Q=>r x y H Q\/r' x y H Q):=by
 intro value slice pins s σ H x y v u Q I rx ry q hs
 rcases q with q|q
 . exact h value slice pins s σ H x y v u Q I rx ry q hs
 . exact h' value slice pins s σ H x y v u Q I rx ry q hs
theorem aZ {r:R2}(hr:m7 X r)(ha:PE X a ta)(hb:PE X b tb)(hs:ad6 b):PE X (.Subscript a b pos) (bJ r ta tb):=by
 intro pins s σ H Q I h
 exact Subscript_ (EY ha hb I h λv u s2 x y H2 I2 rx ry q=>hr a b pins s2 σ H2 x y v u Q I2 rx ry q (hs _ _))
noncomputable def FJ (K:W.Frag):R2:=λx y H Q=>∃p xs i v,x=.ref p/\y=.int i/\aG K H p xs/\dO xs i=some v/\Q v H
noncomputable def m9 (K:W.Frag):R2:=λx y H Q=>∃p xs i v,x=.ref p/\y=.int i/\aD K H p xs/\dO xs i=some v/\Q v H
noncomputable def Wc:R2:=λx y H Q=>∃z i c,x=.str z/\y=.int i/\z.length<=sizeLine/\dO z.cps.toList i=some c/\Q (.str ⟨#[c]⟩) H
theorem gY:m7 X (FJ X.K):=by
 intro value slice pins s σ H x y v u Q I rx ry h hs
 obtain⟨p,xs,i,z,rfl,rfl,hq,he,q⟩:=h
 cases rx
 obtain⟨t,rfl⟩:=ry
 obtain⟨its,r,pl,hz⟩:=I.list hq
 obtain⟨j,h1,h2,h3,h4,h5⟩:=Fy he
 obtain⟨w,ew,jP⟩:=r.get h2
 have hl:=r.length
 have hn:=tG
 have fin:EP X pins σ Q w s:=⟨z,H,I,jP,q⟩
 by_cases h0:0<=i
 . have hj:i.toNat=j:=by
    rw[seqIndex_of h0 h5] at h1
    exact Option.some.inj h1
   exact item_listR pl.isList h0 (by omega) (by rw[hj];simpa using ew) fin hs
 . have hj:(i+(its.toArray.size:Int)).toNat=j:=by
    rw[seqIndex_neg (by omega) h4] at h1
    rw[Q07,<-hl]
    exact Option.some.inj h1
   exact subscriptTail_builtinR (x:=w) pl.isList.typeIs slot_list_getitem.lookup
    (wpAny_getItem_list_neg (Q:=λr s'=>r=w/\EP X pins σ Q r s') pl.isList (by omega) (by rw[Q07] <;> omega) (by omega) (by rw[hj];simpa using ew) ⟨rfl,fin⟩) hs
theorem bF:m7 X (m9 X.K):=by
 intro value slice pins s σ H x y v u Q I rx ry h hs
 obtain⟨p,xs,i,z,rfl,rfl,hq,he,q⟩:=h
 cases rx
 obtain⟨t,rfl⟩:=ry
 obtain⟨its,r,pl,hz⟩:=I.tuple hq
 obtain⟨j,h1,h2,h3,h4,h5⟩:=Fy he
 obtain⟨w,ew,jP⟩:=r.get h2
 have hl:=r.length
 have hn:=tG
 have fin:EP X pins σ Q w s:=⟨z,H,I,jP,q⟩
 exact subscriptTail_builtinR (x:=w) pl.typeIs slot_tuple_getitem.lookup
  (getItem_tuple (j:=j) (Q:=λr s'=>r=w/\EP X pins σ Q r s') pl (by omega) (by omega) (by rw[Q07,<-hl];exact h1) (by simpa using ew) ⟨rfl,fin⟩) hs
theorem vY:m7 X Wc:=by
 intro value slice pins s σ H x y v u Q I rx ry h hs
 obtain⟨z,i,c,rfl,rfl,hz,he,q⟩:=h
 obtain⟨t,rfl⟩:=rx
 obtain⟨t',rfl⟩:=ry
 obtain⟨j,h1,h2,h3,h4,h5⟩:=Fy he
 have hl:z.cps.toList.length=z.length:=by simp[Str.length]
 rw[hl] at h1 h4 h5
 have hn:=tG
 exact tail_any (typeIs_str s z t) slot_str_getitem.lookup (getItem_str (c:=c) (by
  have e1:decide (i< -(2 ^ 63:Int))=false:=decide_eq_false (by omega)
  have e2:decide (i ≥ 2 ^ 63)=false:=decide_eq_false (by omega)
  rw[e1,e2,Bool.or_false]) (by rw[h1];simpa using h2) ⟨.str ⟨#[c]⟩,H,I.tok _,⟨_,rfl⟩,q⟩) hs
noncomputable def Wd (K:W.Frag):R2:=λx y H Q=>FJ K x y H Q\/m9 K x y H Q\/Wc x y H Q
theorem ad7:m7 X (Wd X.K):=gY.or (bF.or vY)
theorem ad8 (its:List Value)(n j:Nat)(u:Value):Obj.mapSeq (·.setIfInBounds j u) { cls:=.type "list",data:=.seq its.toArray n }={ cls:=.type "list",data:=.seq (its.set j u).toArray n }:=by
 simp[Obj.mapSeq]
theorem Inv.lst {pins:List (Addr × Obj)}{σ:St}{H:Hp}{s:Shared}{p:Addr}{xs:List V}(I:Inv X pins σ H s)(h:H p=some (.lst xs)):
 ∃(its:List Value) (n:Nat),Vals xs its/\s.heap.get? p=some { cls:=.type "list",data:=.seq its.toArray n }/\xs.length<=sizeLine:=by
 obtain⟨z,its,n,r,e⟩:=I.hok p _ h
 exact⟨its,n,r,e,z⟩
theorem Inv.ad9 {pins:List (Addr × Obj)}{σ:St}{H:Hp}{s:Shared}{p:Addr}{xs ys:List V}{its its':List Value}{n n':Nat}{f:Obj->Obj}(I:Inv X pins σ H s)(h:H p=some (.lst xs))
 (ho:s.heap.get? p=some { cls:=.type "list",data:=.seq its.toArray n }) (hf:f { cls:=.type "list",data:=.seq its.toArray n }={ cls:=.type "list",data:=.seq its'.toArray n' }) (r:Vals ys its') (hz:ys.length<=sizeLine) (t:Nat):
 Inv X pins σ (upd H p (.lst ys)) { s with heap:=s.heap.update p f,toks:=t }:=by
 have e:(s.heap.update p f).get? p=some { cls:=.type "list",data:=.seq its'.toArray n' }:=by
  rw[Q16 f ho (by rw[hf] <;> rfl),hf]
 refine I.write (x:=p) (e:=p) (by rw[h];trivial) (.inl rfl) (λb u hb q=>(Q13 _ _ (Ne.symm hb)).trans q) ⟨_,e⟩ ?_
 exact⟨hz,its',n',r,e⟩
noncomputable def ad_:V->V->V->Hp->(Hp->Prop)->Prop:=λo i v H Q=>∃p xs k j,o=.ref p/\i=.int k/\H p=some (.lst xs)/\lB xs.length k=some j/\Q (upd H p (.lst (xs.set j v)))
theorem set_list:Vs X ad_:=by
 intro pins s σ H o i v ov iv u Q I ro ri rv h
 obtain⟨p,xs,k,j,rfl,rfl,hp,hj,q⟩:=h
 cases ro
 obtain⟨t,rfl⟩:=ri
 obtain⟨its,n,r,ho,hz⟩:=I.lst hp
 obtain⟨h1,h2,h3,h4⟩:=Wb hj
 have hl:=r.length
 have hn:=tG
 have I':Inv X pins σ (upd H p (.lst (xs.set j v))) { s with heap:=s.heap.update p (Obj.mapSeq (·.setIfInBounds j u)) }:=
  I.ad9 hp ho (ad8 its n j u) (r.set rv j) (by rw[List.length_set];exact hz) s.toks
 by_cases h0:0<=k
 . have hk:k.toNat=j:=by
    rw[seqIndex_of h0 h4] at h1
    exact Option.some.inj h1
   exact W.ki_setAt ho h0 (by omega) (by rw[Q07,<-hl];exact h4) (by rw[hk];exact⟨_,I',q⟩)
 . have hk:(k+(its.toArray.size:Int)).toNat=j:=by
    rw[seqIndex_neg (by omega) h3] at h1
    rw[Q07,<-hl]
    exact Option.some.inj h1
   exact W.ki_setBack ho (by omega) (by rw[Q07,<-hl];exact h3) (by omega) (by rw[hk];exact⟨_,I',q⟩)
theorem aea (lo hi:Option Int)(n:Nat):(sliceBounds lo hi none n).1=((HT.bG n 0 lo:Nat):Int)/\(sliceBounds lo hi none n).2.1=((HT.bG n n hi:Nat):Int)/\(sliceBounds lo hi none n).2.2=1:=by
 refine⟨?_,?_,rfl⟩
 . cases lo with
   |none=>simp[sliceBounds,HT.bG]
   |some i=>
    simp only[sliceBounds,HT.bG,Q2k,show(1:Int) > 0 by decide,if_true]
    by_cases h:i<0
    . simp only[h,if_true] <;> omega
    . simp only[h,if_false] <;> omega
 . cases hi with
   |none=>simp[sliceBounds,HT.bG]
   |some i=>
    simp only[sliceBounds,HT.bG,Q2k,show(1:Int) > 0 by decide,if_true]
    by_cases h:i<0
    . simp only[h,if_true] <;> omega
    . simp only[h,if_false] <;> omega
theorem aeb (its:List Value)(lo hi:Option Int):slicePick its.toArray lo hi none=((its.drop (HT.bG its.length 0 lo)).take (HT.bG its.length its.length hi - HT.bG its.length 0 lo)).toArray:=by
 obtain⟨h1,h2,h3⟩:=aea lo hi its.toArray.size
 unfold slicePick
 rw[h1,h2,h3]
 simp only[sliceRange_one,pick_run,Q07] <;> rfl
noncomputable def aec (K:W.Frag):V->Option Int->Option Int->Hp->VK->Prop:=λx lo hi H Q=>∃a xs,x=.ref a/\aG K H a xs/\∀p,H p=none->Q (.ref p) (upd H p (.lst (eX xs lo hi)))
theorem FN:Fw X (aec X.K):=by
 intro pins s σ H x v vl vu lo hi sl Q I rx hs pl pu h
 obtain⟨a,xs,rfl,hx,q⟩:=h
 cases rx
 obtain⟨its,r,ht,hz⟩:=I.list hx
 have hlen:=r.length
 refine⟨"list",_,slot_list_getitem.lookup,ht.isList.typeIs,?_⟩
 refine wpAny_getItem_list_slice ht.isList hs pl pu .none (by simp) ?_ (by rw[Q07] <;> omega)
 rw[aeb,<-hlen]
 refine⟨.ref s.heap.objs.size,_,I.laid (t':=s.toks) (o:=.lst (eX xs lo hi)) (λb ob q=>Q04 _ q) (Q02 _) ?_,rfl,q _ (I.hok.fresh (Q02 _))⟩
 exact⟨Q0e (Fx xs lo hi) hz,_,0,(r.drop (HT.bG xs.length 0 lo)).take (HT.bG xs.length xs.length hi - HT.bG xs.length 0 lo),Q0c _ rfl⟩
noncomputable def m_:V->Bool
 | .non=>true
 | .bl _=>true
 | .int _=>true
 | .str _=>true
 |_=>false
noncomputable def ni:V->V->Bool
 | .non,.non=>true
 | .bl a,.bl b=>a == b
 | .bl a,.int b=>(if a then 1 else 0) == b
 | .int a,.bl b=>a == (if b then 1 else 0)
 | .int a,.int b=>a == b
 | .str a,.str b=>a == b
 |_,_=>false
theorem aed {A:Around}{s:Shared}{y x:V}{u v:Value}(ry:RelV y u)(rx:RelV x v)(fy:m_ y=true)(fx:m_ x=true):SeqAt.EqAt A s u v (ni y x):=by
 cases y with
 |non=>
  cases ry
  cases x with
  |non=>cases rx;exact SeqAt.EqAt.same _
  |bl b=>cases rx;exact SeqAt.EqAt.none_bool b
  |int b=>obtain⟨t,rfl⟩:=rx;exact SeqAt.EqAt.none_int b t
  |str b=>obtain⟨t,rfl⟩:=rx;exact SeqAt.EqAt.none_str b t
  |_=>exact absurd (show false=true from fx) Bool.false_ne_true
 |bl a=>
  cases ry
  cases x with
  |non=>cases rx;exact SeqAt.EqAt.bool_none a
  |bl b=>cases rx;exact SeqAt.EqAt.bool_bool a b
  |int b=>obtain⟨t,rfl⟩:=rx;exact SeqAt.EqAt.bool_int a b t
  |str b=>obtain⟨t,rfl⟩:=rx;exact SeqAt.EqAt.bool_str a b t
  |_=>exact absurd (show false=true from fx) Bool.false_ne_true
 |int a=>
  obtain⟨t',rfl⟩:=ry
  cases x with
  |non=>cases rx;exact SeqAt.EqAt.int_none a t'
  |bl b=>cases rx;exact SeqAt.EqAt.int_bool a t' b
  |int b=>obtain⟨t,rfl⟩:=rx;exact SeqAt.EqAt.int_int a t' b t
  |str b=>obtain⟨t,rfl⟩:=rx;exact SeqAt.EqAt.int_str a t' b t
  |_=>exact absurd (show false=true from fx) Bool.false_ne_true
 |str a=>
  obtain⟨t',rfl⟩:=ry
  cases x with
  |non=>cases rx;exact SeqAt.EqAt.str_none a t'
  |bl b=>cases rx;exact SeqAt.EqAt.str_bool a t' b
  |int b=>obtain⟨t,rfl⟩:=rx;exact SeqAt.EqAt.str_int a t' b t
  |str b=>obtain⟨t,rfl⟩:=rx;exact SeqAt.EqAt.str_str a t' b t
  |_=>exact absurd (show false=true from fx) Bool.false_ne_true
 |_=>exact absurd (show false=true from fy) Bool.false_ne_true
noncomputable def nj (x:V) (u:Value):Bool:=match u with
 | .none=>ni .non x
 | .bool b=>ni (.bl b) x
 | .int i _=>ni (.int i) x
 | .str z _=>ni (.str z) x
 |_=>false
theorem Wf {x y:V}{u:Value}(r:RelV y u)(f:m_ y=true):nj x u=ni y x:=by
 cases y with
 |non=>cases r;rfl
 |bl b=>cases r;rfl
 |int i=>obtain⟨t,rfl⟩:=r;rfl
 |str z=>obtain⟨t,rfl⟩:=r;rfl
 |_=>exact absurd (show false=true from f) Bool.false_ne_true
theorem FP {x:V}:∀{xs:List V}{us:List Value},Vals xs us->xs.all m_=true->us.any (nj x)=xs.any λy=>ni y x
 |_,_,.nil,_=>rfl
 |y::xs,u::us,.cons r t,f=>by
  rw[Q23,Bool.and_eq_true] at f
  rw[Q1d,Q1d,Wf r f.1,FP t f.2]
theorem FQ {A:Around}{s:Shared}{x:V}{v:Value}(rx:RelV x v)(fx:m_ x=true):∀{xs:List V}{us:List Value},Vals xs us->xs.all m_=true->∀u∈us,SeqAt.EqAt A s u v (nj x u)
 |_,_,.nil,_=>λu hu=>by cases hu
 |y::xs,u::us,.cons r t,f=>λu' hu=>by
  rw[Q23,Bool.and_eq_true] at f
  rcases List.mem_cons.mp hu with rfl|hu
  . rw[Wf r f.1];exact aed r rx f.1 fx
  . exact FQ rx fx t f.2 u' hu
noncomputable def inV (x:V) (xs:List V):Bool:=xs.any λy=>ni y x
noncomputable def FT (K:W.Frag) (neg:Bool):R2:=λx y H Q=>∃p xs,y=.ref p/\(aG K H p xs\/aD K H p xs)/\m_ x=true/\xs.all m_=true/\Q (.bl (if neg then !inV x xs else inV x xs)) H
theorem Wg:dJ X (compareOp .In) (FT X.K false):=by
 intro pins s σ H x y v u Q I rx ry h
 obtain⟨p,xs,rfl,hq,fx,fs,q⟩:=h
 cases ry
 rcases hq with hq|hq
 . obtain⟨its,r,pl,hz⟩:=I.list hq
   refine SeqAt.in_listAt (nj x) pl.isList (λw hw=>FQ rx fx r fs w (by simpa using hw)) ⟨.bl _,H,I,rfl,?_⟩
   rw[show its.toArray.any (nj x)=its.any (nj x) by simp,FP r fs]
   exact q
 . obtain⟨its,r,pl,hz⟩:=I.tuple hq
   refine SeqAt.in_tupleAt (nj x) pl (λw hw=>FQ rx fx r fs w (by simpa using hw)) ⟨.bl _,H,I,rfl,?_⟩
   rw[show its.toArray.any (nj x)=its.any (nj x) by simp,FP r fs]
   exact q
theorem eY:iY X (.builtin "len") (λxs H Q=>∃p ys,xs=[.ref p]/\(aG X.K H p ys\/aD X.K H p ys)/\Q (.int ys.length) H):=by
 intro pins s σ H xs us Q I r h
 obtain⟨p,ys,rfl,hq,q⟩:=h
 obtain⟨u,rfl,rx⟩:=vals1 r
 cases rx
 have hn:=tG
 rcases hq with hq|hq
 . obtain⟨its,r',pl,hz⟩:=I.list hq
   have hlen:=r'.length
   exact Calls.call_len_list pl.isList (by simp only[Q07] <;> omega) ⟨.int ys.length,H,I.tok _,⟨s.toks+1,by rw[Q07,hlen]⟩,q⟩
 . obtain⟨its,r',pl,hz⟩:=I.tuple hq
   have hlen:=r'.length
   exact len_tuple pl (by simp only[Q07] <;> omega) ⟨.int ys.length,H,I.tok _,⟨s.toks+1,by rw[Q07,hlen]⟩,q⟩
theorem aee:iY X (.builtin "len") (λxs H Q=>∃z,xs=[.str z]/\z.length<=sizeLine/\Q (.int z.length) H):=by
 intro pins s σ H xs us Q I r h
 obtain⟨z,rfl,hz,q⟩:=h
 obtain⟨u,rfl,t,rfl⟩:=vals1 r
 have hn:=tG
 exact len_str (by omega) ⟨.int z.length,H,I.tok _,⟨_,rfl⟩,q⟩
theorem FW:iY X (.type "list") (λxs H Q=>∃p ys,xs=[.ref p]/\(aG X.K H p ys\/aD X.K H p ys)/\∀l,H l=none->Q (.ref l) (upd H l (.lst ys))):=by
 intro pins s σ H xs us Q I r h
 obtain⟨p,ys,rfl,hq,q⟩:=h
 obtain⟨u,rfl,rx⟩:=vals1 r
 cases rx
 have fin:∀(its:List Value),Vals ys its->ys.length<=sizeLine->∀(h':Heap) (c':Nat),(∀b o',s.heap.get? b=some o'->h'.get? b=some o')->
  h'.get? s.heap.objs.size=some { cls:=.type "list",dict:=none,data:=.seq its.toArray c',slots:=#[] }->EP X pins σ Q (.ref s.heap.objs.size) { s with heap:=h' }:=λits r' hz h' c' kp e=>
  ⟨.ref s.heap.objs.size,_,I.laid (t':=s.toks) kp (Q02 _) (show cO X.prog X.w _ h' _ (.lst ys) from⟨hz,its,c',r',e⟩),rfl,q _ (I.hok.fresh (Q02 _))⟩
 rcases hq with hq|hq
 . obtain⟨its,r',pl,hz⟩:=I.list hq
   have hlen:=r'.length
   obtain⟨o,ho,hc,n,hd⟩:=pl.isList
   exact call_list_seq p (.inl rfl) ho hc hd (λh' c' kp e=>fin its r' hz h' c' kp e) (by simp only[Q07] <;> omega)
 . obtain⟨its,r',pl,hz⟩:=I.tuple hq
   have hlen:=r'.length
   obtain⟨o,ho,hc,n,hd⟩:=pl
   exact call_list_seq p (.inr rfl) ho hc hd (λh' c' kp e=>fin its r' hz h' c' kp e) (by simp only[Q07] <;> omega)
theorem Wh:iY X (.type "tuple") (λxs H Q=>∃p ys,xs=[.ref p]/\((aG X.K H p ys/\∀l,H l=none->Q (.ref l) (upd H l (.tup ys)))\/(aD X.K H p ys/\Q (.ref p) H))):=by
 intro pins s σ H xs us Q I r h
 obtain⟨p,ys,rfl,h⟩:=h
 obtain⟨u,rfl,rx⟩:=vals1 r
 cases rx
 rcases h with⟨hq,q⟩|⟨hq,q⟩
 . obtain⟨its,r',pl,hz⟩:=I.list hq
   have hlen:=r'.length
   refine call_tuple_list pl.isList (λh' kp=>?_) (by simp only[Q07] <;> omega)
   have I1:Inv X pins σ H { s with heap:=h' }:=I.kept (t':=s.toks) kp
   have I2:Inv X pins σ (upd H h'.objs.size (.tup ys)) { s with heap:=h'.push { cls:=.type "tuple",data:=.seq its.toArray } }:=
    I1.laid (t':=s.toks) (λb o e=>Q04 _ e) (Q02 _) (show cO X.prog X.w _ _ _ (.tup ys) from⟨hz,its,r',IsTup.new _ _⟩)
   exact⟨.ref h'.objs.size,_,I2,rfl,q _ (I1.hok.fresh (Q02 _))⟩
 . obtain⟨its,r',pl,hz⟩:=I.tuple hq
   exact call_tuple_same pl ⟨.ref p,H,I,rfl,q⟩
noncomputable def Wi (K:W.Frag) (T:String) (x:V) (H:Hp):Prop:=match x with
 | .str _=>T="str"
 | .int _=>T="int"
 | .ref p=>(T="list"/\∃xs,aG K H p xs)\/(T="tuple"/\∃o,K.lookup p=some o/\o.cls=.type "tuple"/\o.dict=none)\/
    (T="dict"/\((∃kvs,H p=some (.dK kvs))\/∃kvs,H p=some (.dT kvs)))\/(T="set"/\∃S n,H p=some (.set S n))
 |_=>False
theorem aef {pins:List (Addr × Obj)}{σ:St}{H:Hp}{s:Shared}{T:String}{x:V}{v:Value}(I:Inv X pins σ H s)(r:RelV x v)(ty:Wi X.K T x H):
 s.TypeIs v T/\∀a,v=.ref a->∃ob,s.heap.get? a=some ob/\ob.dict=none:=by
 cases x with
 |str z=>
  obtain⟨t,rfl⟩:=r
  cases(show T="str" from ty)
  exact⟨typeIs_str s z t,λ_ e=>nomatch e⟩
 |int i=>
  obtain⟨t,rfl⟩:=r
  cases(show T="int" from ty)
  exact⟨typeIs_int s i t,λ_ e=>nomatch e⟩
 |ref p=>
  cases r
  rcases ty with⟨rfl,xs,hq⟩|⟨rfl,o,hk,hc,hd⟩|⟨rfl,hk⟩|⟨rfl,S,n,hk⟩
  . obtain⟨its,_,pl,_⟩:=I.list hq
    refine⟨pl.isList.typeIs,λa e=>?_⟩
    cases e
    obtain⟨o,n,e,c,hd,_⟩:=pl
    exact⟨o,e,hd⟩
  . refine⟨⟨o,I.cP p o hk,hc⟩,λa e=>?_⟩
    cases e
    exact⟨o,I.cP _ o hk,hd⟩
  . have z:∃o,s.heap.get? p=some o/\o.ExactDict:=by
     rcases hk with⟨kvs,hk⟩|⟨kvs,hk⟩
     . obtain⟨_,_,_,_,o,_,_,e,ex,_⟩:=I.hok p _ hk
       exact⟨o,e,ex⟩
     . obtain⟨_,_,_,_,o,_,_,e,ex,_⟩:=I.hok p _ hk
       exact⟨o,e,ex⟩
    obtain⟨o,e,ex⟩:=z
    refine⟨⟨o,e,ex.1⟩,λa e2=>?_⟩
    cases e2
    exact⟨o,e,ex.2.1⟩
  . obtain⟨o,_,_,_,e,ex,_⟩:=I.hok p _ hk
    refine⟨⟨o,e,ex.1⟩,λa e2=>?_⟩
    cases e2
    exact⟨o,e,ex.2.1⟩
 |_=>exact False.elim ty
noncomputable def tBM (K:W.Frag) (T:String) (r:V->List V->Hp->VK->Prop) (to:TE) (t:TA):TE:=λσ H Q=>to σ H λx H1=>Wi K T x H1/\t σ H1 λxs H2=>r x xs H2 Q
variable {o e:Expr}{es:List Expr}{to:TE}{t:TA}{name:Str}{apos cpos:Pos}{T id:String}{r:V->List V->Hp->VK->Prop}
theorem pF (pa:PlainAttrs T)(slot:Slot T name id)(hty:typeOf (.builtin id)=pure (.type "method_descriptor"))(hm:Fz X id r)(ho:PE X o to)(ha:PA X (e::es) t)
 (hbase:attributeBase o name X.env (eval o X.env)=eval o X.env:=by rfl)
 (hfew:((backTo cpos (starEach (e::es) X.env)).all (λx=> !x.1) && (backToKw cpos (keywordEach [] X.env)).all (λx=>x.1.isSome)
   && decide ((e::es).length+([]:List Keyword).length+(if([]:List Keyword).isEmpty then 0 else 1)<30))=true:=by rfl)
 (hline:(apos.endLine == cpos.line)=true:=by rfl) (hs:starEach (e::es) X.env=(false,eval e X.env)::starEach es X.env:=by rfl) (hplain:(backTo cpos (starEach es X.env)).any (·.1)=false:=by rfl):
 PE X (.Call (.Attribute o name apos) (e::es) [] cpos) (tBM X.K T r to t):=by
 intro pins s σ H Q I h
 refine wpAny_Call_method_late hbase hfew hline rfl (aP (ho pins s σ H _ I h) λv s1 ⟨x,H1,I1,r1,ty,q1⟩=>?_)
 obtain⟨h1,h2⟩:=aef I1 r1 ty
 refine⟨T,id,pa,slot,hty,h1,h2,?_⟩
 have hA:=ha cpos pins s1 σ H1 _ I1 q1
 rw[hs] at hA ⊢
 refine Calls.callWith_builtin (by show(false || (backTo cpos (starEach es X.env)).any (·.1))=false;rw[hplain] <;> rfl) (Calls.evalArgs_plain ?_)
 exact aP hA λus s2 ⟨vs,H2,I2,r2,q2⟩=>hm pins s2 σ H2 x vs v us Q I2 r1 r2 q2
/- xs.append(e),list.index on a module's tuple .. are Fz facts of 06m -/
end
noncomputable def FZ (X:Cx) (id:String) (r:V->List V->Hp->VK->Prop):Prop:=
 ∀(pins:List (Addr × Obj)) (s:Shared) (σ:St) (H:Hp) (x:V) (xs:List V) (v:Value) (us:List Value) (Q:VK),Inv X pins σ H s->RelV x v->Vals xs us->r x xs H Q->
  wpAny (model X.prog X.w) X.A (call (.builtin id) (v::us)) (EP X pins σ Q) X.xe s
theorem Vals.one:∀{x:V}{us:List Value},Vals [x] us->∃u,us=[u]/\RelV x u
 |_,_,.cons r .nil=>⟨_,rfl,r⟩
section
variable {X:Cx}{pins:List (Addr × Obj)}{σ:St}{H:Hp}{s:Shared}{l b:Addr}{xs ys zs:List V}
theorem Inv.Wj {its its':List Value}{n:Nat}{f:Array Value->Array Value}{t':Nat}(I:Inv X pins σ H s)(hH:H l=some (.lst xs))
 (e:s.heap.get? l=some { cls:=.type "list",data:=.seq its.toArray n }) (hf:f its.toArray=its'.toArray) (hv:Vals ys its') (hz:ys.length<=sizeLine):
 Inv X pins σ (upd H l (.lst ys)) { s with heap:=s.heap.update l (Obj.mapSeq f),toks:=t' }:=by
 have q:=PySem.IsL.update e f
 rw[hf] at q
 refine I.write (x:=l) (e:=l) (by rw[hH];exact trivial) (.inl rfl) (λb' u hb hu=>(Q13 s.heap (Obj.mapSeq f) (Ne.symm hb)).trans hu) ⟨_,q⟩ ?_
 exact⟨hz,its',_,hv,q⟩
theorem Inv.aeh {its:List Value}{t':Nat}(I:Inv X pins σ H s)(hv:Vals ys its)(hz:ys.length<=sizeLine):
 Inv X pins σ (upd H s.heap.objs.size (.lst ys)) { s with heap:=s.heap.push { cls:=.type "list",data:=.seq its.toArray },toks:=t' }:=
 I.laid (λ_ _ q=>Q04 _ q) (Q02 _) ⟨hz,its,0,hv,Q0c _ rfl⟩
theorem Inv.fresh (I:Inv X pins σ H s):H s.heap.objs.size=none:=I.hok.fresh (Q02 _)
theorem Inv.vZ (I:Inv X pins σ H s)(hH:H l=some (.lst xs)):xs.length<=sizeLine/\∃(its:List Value) (n:Nat),Vals xs its/\xs.length=its.length/\s.heap.get? l=some { cls:=.type "list",data:=.seq its.toArray n }:=by
 obtain⟨z,its,n,r,e⟩:=I.hok l _ hH
 exact⟨z,its,n,r,r.length,e⟩
theorem aei {n:Nat}(h:n<=sizeLine):Builtin.List.listTooLong n=false:=by
 unfold Builtin.List.listTooLong
 exact decide_eq_false (by omega)
end
section
variable {X:Cx}
noncomputable def aej:V->List V->Hp->VK->Prop:=λx vs H Q=>∃l xs y,x=.ref l/\vs=[y]/\H l=some (.lst xs)/\xs.length<sizeLine/\Q .non (upd H l (.lst (xs++[y])))
theorem zP:FZ X "list.append" aej:=by
 intro pins s σ H x vs v us Q I rx rv h
 obtain⟨l,xs,y,rfl,rfl,hH,hz,q⟩:=h
 cases rx
 obtain⟨u,rfl,ru⟩:=rv.one
 obtain⟨z,its,n,r,hl,e⟩:=I.vZ hH
 refine call_meets F.slot_list_append ⟨_,e,rfl⟩ F.entry_list_append (F.args_list_append_2 _ _) (PySem.list_append l its.toArray n u (by rw[Q07];omega)) ⟨e,?_⟩
 refine⟨.non,_,I.Wj (its':=its++[u]) hH e (by simp) (r.append (.cons ru .nil)) ?_,rfl,q⟩
 rw[Q09,Q24]
 omega
noncomputable def aek:V->List V->Hp->VK->Prop:=λx vs H Q=>∃l b xs zs,x=.ref l/\vs=[.ref b]/\H l=some (.lst xs)/\H b=some (.lst zs)/\xs.length+zs.length<=sizeLine/\Q .non (upd H l (.lst (xs++zs)))
theorem ael:FZ X "list.extend" aek:=by
 intro pins s σ H x vs v us Q I rx rv h
 obtain⟨l,b,xs,zs,rfl,rfl,hH,hB,hz,q⟩:=h
 cases rx
 obtain⟨u,rfl,ru⟩:=rv.one
 cases ru
 obtain⟨z,its,n,r,hl,e⟩:=I.vZ hH
 obtain⟨z2,its2,n2,r2,hl2,e2⟩:=I.vZ hB
 have hsz:its.toArray.size+its2.toArray.size<=sizeLine:=by rw[Q07,Q07];omega
 have aem:¬(!its.toArray.isEmpty && Builtin.List.listTooLong (its.toArray.size+its2.toArray.size))=true:=by
  rw[aei hsz,Bool.and_false]
  exact Bool.false_ne_true
 refine call_meets F.slot_list_extend ⟨_,e,rfl⟩ F.entry_list_extend (F.args_list_extend_2 _ _)
  (AutoSeq1.list_extend_list_list_0 l its.toArray n b its2.toArray n2 aem (by rw[Q07];omega) (by omega)) ⟨e,e2,?_⟩
 refine⟨.non,_,I.Wj (its':=its++its2) hH e (by simp) (r.append r2) ?_,rfl,q⟩
 rw[Q09]
 omega
noncomputable def aen:R2:=λx y H Q=>∃l b xs zs,x=.ref l/\y=.ref b/\H l=some (.lst xs)/\H b=some (.lst zs)/\xs.length+zs.length<=sizeLine/\∀p,H p=none->Q (.ref p) (upd H p (.lst (xs++zs)))
theorem Ga:dJ X (binaryOp .Add) aen:=by
 intro pins s σ H x y v u Q I rx ry h
 obtain⟨l,b,xs,zs,rfl,rfl,hH,hB,hz,q⟩:=h
 cases rx
 cases ry
 obtain⟨z,its,n,r,hl,e⟩:=I.vZ hH
 obtain⟨z2,its2,n2,r2,hl2,e2⟩:=I.vZ hB
 refine PySem.P.add_list e e2 ?_ (by rw[Q07,Q07];omega)
 have ea:its.toArray++its2.toArray=(its++its2).toArray:=by simp
 rw[ea]
 exact⟨.ref _,_,I.aeh (t':=s.toks) (r.append r2) (by rw[Q09];omega),rfl,q _ I.fresh⟩
end
section
variable {prog:Program}{w:World}{A:Around}{E:Value->Shared->Prop}{s:Shared}
end
section
variable {X:Cx}
end
section
variable {κ:Type} [DecidableEq κ]
noncomputable def dR (kvs:List (κ × V)) (k:κ):Option V:=(kvs.find? λkv=>decide (kv.1=k)).map (·.2)
noncomputable def putK (kvs:List (κ × V)) (k:κ) (v:V):List (κ × V):=
 if(kvs.any λkv=>decide (kv.1=k))=true then kvs.map (λkv=>if kv.1=k then(kv.1,v) else kv) else kvs++[(k,v)]
theorem v5 {p:κ × V}{r:List (κ × V)}{k:κ}(e:p.1=k):dR (p::r) k=some p.2:=by simp[dR,Q1e,e]
theorem tK {p:κ × V}{r:List (κ × V)}{k:κ}(e:¬p.1=k):dR (p::r) k=dR r k:=by simp[dR,Q1e,e]
theorem zQ (k:κ):∀kvs:List (κ × V),(kvs.any λkv=>decide (kv.1=k))=(dR kvs k).isSome
 |[]=>rfl
 |p::r=>by
  rw[Q1d]
  by_cases e:p.1=k
  . simp only[v5 e,decide_eq_true e,Bool.true_or,Option.isSome_some]
  . rw[tK e,decide_eq_false e,Bool.false_or];exact zQ k r
theorem Wk (kvs:List (κ × V))(k:κ)(v:V):(putK kvs k v).length<=kvs.length+1:=by
 unfold putK
 split
 . rw[Q06];omega
 . rw[Q09,Q0o,Q2l];omega
theorem gK.v7 {o:Option V}{u:Option Value}(r:gK o u):o.isSome=u.isSome:=by
 cases o with
 |none=>cases u with
  |none=>rfl
  |some _=>exact(show False from r).elim
 |some _=>cases u with
  |none=>exact(show False from r).elim
  |some _=>rfl
theorem KV.val {kvs:List (κ × V)}{vs:List (κ × Value)}(r:KV kvs vs)(k:κ):gK (dR kvs k) (valueAt vs k):=by
 unfold KV at r
 induction r with
 |nil=>exact True.intro
 |@cons p q ps qs h t ih=>
  obtain⟨h1,h2⟩:=h
  by_cases e:p.1=k
  . have e':q.1=k:=h1.symm.trans e
    have b:valueAt (q::qs) k=some q.2:=by simp[valueAt,Q1e,e']
    rw[v5 e,b];exact h2
  . have e':¬q.1=k:=λz=>e (h1.trans z)
    have b:valueAt (q::qs) k=valueAt qs k:=by simp[valueAt,Q1e,e']
    rw[tK e,b];exact ih
theorem KV.any {kvs:List (κ × V)}{vs:List (κ × Value)}(r:KV kvs vs)(k:κ):(kvs.any λkv=>decide (kv.1=k))=vs.any λkv=>decide (kv.1=k):=by
 unfold KV at r
 induction r with
 |nil=>rfl
 |cons h t ih=>rw[Q1d,Q1d,ih,h.1]
theorem KV.repl {kvs:List (κ × V)}{vs:List (κ × Value)}(r:KV kvs vs)(k:κ){y:V}{u:Value}(ry:RelV y u):
 KV (kvs.map λkv=>if kv.1=k then(kv.1,y) else kv) (vs.map λkv=>if kv.1=k then(kv.1,u) else kv):=by
 unfold KV at r ⊢
 induction r with
 |nil=>exact .nil
 |@cons p q ps qs h t ih=>
  rw[Q0u,Q0u]
  refine .cons ?_ ih
  obtain⟨h1,h2⟩:=h
  by_cases e:p.1=k
  . rw[if_pos e,if_pos (h1.symm.trans e)];exact⟨h1,ry⟩
  . rw[if_neg e,if_neg (λz=>e (h1.trans z))];exact⟨h1,h2⟩
theorem KV.put {kvs:List (κ × V)}{vs:List (κ × Value)}(r:KV kvs vs)(k:κ){y:V}{u:Value}(ry:RelV y u):KV (putK kvs k y) (stored vs k u):=by
 unfold putK stored
 rw[r.any k]
 by_cases e:(vs.any λkv=>decide (kv.1=k))=true
 . rw[if_pos e,if_pos e];exact r.repl k ry
 . rw[if_neg e,if_neg e];exact Paired.snoc r ⟨rfl,ry⟩
theorem KV.length {kvs:List (κ × V)}{vs:List (κ × Value)}(r:KV kvs vs):kvs.length=vs.length:=Paired.length r
end
theorem v8 {P:Program}{w:World}{k:Key}{u:Value}(r:RelV (kV k) u):(cJ P w).is k u=true:=by
 cases k with
 |inl i=>obtain⟨t,e⟩:=(show ∃t,u=Value.int i t from r);subst e;exact acU P w i t
 |inr x=>obtain⟨t,e⟩:=(show ∃t,u=Value.str x t from r);subst e;exact acV P w x t
theorem Wl {P:Program}{w:World}:∀{ks:List Key}{us:List Value},Vals (ks.map kV) us->ItemsAre (cJ P w) ks us
 |[],_,r=>by rw[List.map_nil] at r;cases r;exact .nil
 |k::ks,_,r=>by
  rw[Q0u] at r
  cases r with
  |cons h t=>exact .cons (v8 h) (Wl t)
noncomputable abbrev KT (H:Hp):List (List Key × V)->List (List Key × Addr × Value)->Prop:=Paired λp q=>p.1=q.1/\H q.2.1=some (.tup (p.1.map kV))/\RelV p.2 q.2.2
theorem KT.val {H:Hp}{kvs:List (List Key × V)}{xs:List (List Key × Addr × Value)}(r:KT H kvs xs)(k:List Key):gK (dR kvs k) ((atKey xs k).map (·.2)):=by
 induction r with
 |nil=>exact True.intro
 |@cons p q ps qs h t ih=>
  obtain⟨h1,_,h2⟩:=h
  by_cases e:p.1=k
  . have e':q.1=k:=h1.symm.trans e
    have b:atKey (q::qs) k=some q.2:=by simp[atKey,Q1e,e']
    rw[v5 e,b];exact h2
  . have e':¬q.1=k:=λz=>e (h1.trans z)
    have b:atKey (q::qs) k=atKey qs k:=by simp[atKey,Q1e,e']
    rw[tK e,b];exact ih
theorem KT.repl {H:Hp}{kvs:List (List Key × V)}{xs:List (List Key × Addr × Value)}(r:KT H kvs xs)(k:List Key){y:V}{u:Value}(ry:RelV y u):
 KT H (kvs.map λkv=>if kv.1=k then(kv.1,y) else kv) (xs.map (putAt k u)):=by
 induction r with
 |nil=>exact .nil
 |@cons p q ps qs h t ih=>
  rw[Q0u,Q0u]
  refine .cons ?_ ih
  obtain⟨h1,h2,h3⟩:=h
  unfold putAt
  by_cases e:p.1=k
  . rw[if_pos e,if_pos (h1.symm.trans e)];exact⟨h1,h2,ry⟩
  . rw[if_neg e,if_neg (λz=>e (h1.trans z))];exact⟨h1,h2,h3⟩
theorem KT.put {H:Hp}{kvs:List (List Key × V)}{xs:List (List Key × Addr × Value)}(r:KT H kvs xs)(k:List Key){b:Addr}{y:V}{u:Value}(hb:H b=some (.tup (k.map kV)))(ry:RelV y u):
 KT H (putK kvs k y) (storedH xs k b u):=by
 have e:(kvs.any λkv=>decide (kv.1=k))=(atKey xs k).isSome:=by
  rw[zQ,(r.val k).v7,Q25]
 unfold putK storedH
 rw[e]
 by_cases q:(atKey xs k).isSome=true
 . rw[if_pos q,if_pos q];exact r.repl k ry
 . rw[if_neg q,if_neg q];exact Paired.snoc r ⟨rfl,hb,ry⟩
theorem KT.keeps {H H':Hp}{kvs:List (List Key × V)}{xs:List (List Key × Addr × Value)}(r:KT H kvs xs)(ht:∀b ys,H b=some (.tup ys)->H' b=some (.tup ys)):KT H' kvs xs:=
 Paired.Ep r λ_ _ z=>⟨z.1,ht _ _ z.2.1,z.2.2⟩
section
variable {P:Program}{w:World}{H:Hp}{h:Heap}{a:Addr}
theorem Wm {u:HO}(ok:cC P w H h)(e:Rd H a u):cO P w H h a u:=e.ok ok
theorem tL {kvs:List (Key × V)}(ok:cC P w H h)(e:Rd H a (.dK kvs)):kvs.length<=sizeLine/\(a == sysModules)=false/\∃vs,KV kvs vs/\h.DictOf (cJ P w) a vs:=
 show cO P w H h a (.dK kvs) from Wm ok e
theorem zR {kvs:List (Key × V)}(ok:cC P w H h)(e:H a=some (.dK kvs)):kvs.length<=sizeLine/\(a == sysModules)=false/\∃vs,KV kvs vs/\h.DictOf (cJ P w) a vs:=tL ok (.inl e)
theorem v9 {ks:List Key}(ok:cC P w H h)(e:H a=some (.tup (ks.map kV))):(tupleKind (cJ P w)).is h ks a:=by
 obtain⟨_,its,r,o,h1,h2,n,h3⟩:=(show cO P w H h a (.tup (ks.map kV)) from ok a _ e)
 exact⟨o,its.toArray,n,h1,h2,h3,by simpa using Wl r⟩
theorem wg {kvs:List (List Key × V)}(ok:cC P w H h)(e:Rd H a (.dT kvs)):kvs.length<=sizeLine/\(a == sysModules)=false/\
 ∃xs,KT H kvs xs/\h.DictOfH (tupleKind (cJ P w)) a xs:=by
 obtain⟨z,y,xs,r,o,es,ep,h1,h2,h3,h4,h5⟩:=(show cO P w H h a (.dT kvs) from Wm ok e)
 refine⟨z,y,xs,r,o,es,ep,h1,h2,h3,h4,λx hx=>?_,h5⟩
 have all:∀{l:List (List Key × V)} {m:List (List Key × Addr × Value)},KT H l m->∀x∈m,(tupleKind (cJ P w)).is h x.1 x.2.1:=by
  intro l m q
  induction q with
  |nil=>intro x hx;exact nomatch hx
  |@cons p q ps qs hq t ih=>
   intro x hx
   rcases List.mem_cons.mp hx with e|hx
   . subst e
     exact v9 ok (by rw[<-hq.1];exact hq.2.1)
   . exact ih x hx
 exact all r x hx
theorem aeo {kvs:List (List Key × V)}(ok:cC P w H h)(e:H a=some (.dT kvs)):kvs.length<=sizeLine/\(a == sysModules)=false/\
 ∃xs,KT H kvs xs/\h.DictOfH (tupleKind (cJ P w)) a xs:=wg ok (.inl e)
end
noncomputable def bW (H:Hp) (a:Addr) (y:V) (r:Option V):Prop:=
 (∃kvs k,Rd H a (.dK kvs)/\y=kV k/\r=dR kvs k)\/∃kvs k b,Rd H a (.dT kvs)/\y=.ref b/\H b=some (.tup (k.map kV))/\r=dR kvs k
noncomputable def lY (H:Hp) (a:Addr) (y v:V) (H':Hp):Prop:=
 (∃kvs k,H a=some (.dK kvs)/\y=kV k/\kvs.length<sizeLine/\H'=upd H a (.dK (putK kvs k v)))\/
 ∃kvs k b,H a=some (.dT kvs)/\y=.ref b/\H b=some (.tup (k.map kV))/\kvs.length<sizeLine/\H'=upd H a (.dT (putK kvs k v))
theorem bW.k {H:Hp}{a:Addr}{kvs:List (Key × V)}{k:Key}(e:H a=some (.dK kvs)):bW H a (kV k) (dR kvs k):=.inl ⟨kvs,k,.inl e,rfl,rfl⟩
theorem lY.k {H:Hp}{a:Addr}{kvs:List (Key × V)}{k:Key}{v:V}(e:H a=some (.dK kvs))(hl:kvs.length<sizeLine):lY H a (kV k) v (upd H a (.dK (putK kvs k v))):=.inl ⟨kvs,k,e,rfl,hl,rfl⟩
section
variable {X:Cx}{pins:List (Addr × Obj)}{σ:St}{H:Hp}{s:Shared}{a:Addr}{y v:V}{u r:Value}{o:Option V}{A:Around}{E:Value->Shared->Prop}
theorem Inv.big (I:Inv X pins σ H s):sysModules<s.heap.objs.size:=by
 have h:mainGlobals<s.heap.objs.size:=(I.mod.glob.keeps I.bk).lt
 exact Nat.lt_trans (by decide) h
theorem aep {Q:Value->Shared->Prop}(hu:A.units+1<cLine)(I:Inv X pins σ H s)(g:bW H a y (some v))(ry:RelV y u)(h:∀w' s',Inv X pins σ H s'->RelV v w'->Q w' s'):
 wpAny (model X.prog X.w) A (getItem (.ref a) u) Q E s:=by
 rcases g with⟨kvs,k,e,ey,l⟩|⟨kvs,k,b,e,ey,eb,l⟩
 . subst ey
   obtain⟨z,hd,vs,rel,dd⟩:=tL I.hok e
   obtain⟨w',hw,jP⟩:=gK.some_of (v:=v) (o:=valueAt vs k) (by rw[l];exact rel.val k)
   exact wpAny_getItem_of (v8 ry) dd.mapOf hw (h w' _ (I.tok _) jP)
 . subst ey
   cases(show u=Value.ref b from ry)
   obtain⟨z,hd,xs,rel,dd⟩:=wg I.hok e
   obtain⟨w',hw,jP⟩:=gK.some_of (v:=v) (o:=(atKey xs k).map (·.2)) (by rw[l];exact rel.val k)
   obtain⟨p,hp,hp2⟩:=Option.map_eq_some_iff.mp hw
   refine wpAny_getItem_heap (tupleKind_room_in1 hu) (v9 I.hok eb) dd hp ?_
   rw[hp2]
   exact h w' _ (I.tok _) jP
theorem aer {Q:Value->Shared->Prop}(hu:A.units+1<cLine)(I:Inv X pins σ H s)(g:bW H a y o)(ry:RelV y u)(h:∀s',Inv X pins σ H s'->Q (.bool o.isSome) s'):
 wpAny (model X.prog X.w) A (compareOp .In u (.ref a)) Q E s:=by
 rcases g with⟨kvs,k,e,ey,l⟩|⟨kvs,k,b,e,ey,eb,l⟩
 . subst ey
   obtain⟨z,hd,vs,rel,dd⟩:=tL I.hok e
   refine wpAny_in_of (v8 ry) hd dd.mapOf ?_
   rw[<-(rel.val k).v7,<-l]
   exact h _ (I.tok _)
 . subst ey
   cases(show u=Value.ref b from ry)
   obtain⟨z,hd,xs,rel,dd⟩:=wg I.hok e
   refine wpAny_in_heap (tupleKind_room_in1 hu) (v9 I.hok eb) hd dd ?_
   have q:=(rel.val k).v7
   rw[Q25] at q
   rw[<-q,<-l]
   exact h _ (I.tok _)
theorem aes {Q:Value->Shared->Prop}(hu:A.units+1<cLine)(I:Inv X pins σ H s)(g:bW H a y o)(ry:RelV y u)(h:∀s',Inv X pins σ H s'->Q (.bool (!o.isSome)) s'):
 wpAny (model X.prog X.w) A (compareOp .NotIn u (.ref a)) Q E s:=by
 rcases g with⟨kvs,k,e,ey,l⟩|⟨kvs,k,b,e,ey,eb,l⟩
 . subst ey
   obtain⟨z,hd,vs,rel,dd⟩:=tL I.hok e
   refine wpAny_notIn_of (v8 ry) hd dd.mapOf ?_
   rw[<-(rel.val k).v7,<-l]
   exact h _ (I.tok _)
 . subst ey
   cases(show u=Value.ref b from ry)
   obtain⟨z,hd,xs,rel,dd⟩:=wg I.hok e
   refine wpAny_notIn_heap (tupleKind_room_in1 hu) (v9 I.hok eb) hd dd ?_
   have q:=(rel.val k).v7
   rw[Q25] at q
   rw[<-q,<-l]
   exact h _ (I.tok _)
theorem Gb {h':Heap}{t':Nat}{ob:HO}(I:Inv X pins σ H s)(mu:vJ (H a))(hs:Heap.SameBut a s.heap h')(he:∃q,h'.get? a=some q)(new:cO X.prog X.w (upd H a ob) h' a ob):
 Inv X pins σ (upd H a ob) { s with heap:=h',toks:=t' }:=
 I.write (x:=a) (e:=a) mu (.inl rfl) (λb q hb z=>(hs.2 b hb).trans z) he new
theorem Wn {P:Program}{w:World}{H':Hp}{h':Heap}{kvs:List (Key × V)}{vs:List (Key × Value)}(z:kvs.length<=sizeLine)(hd:(a == sysModules)=false)(rel:KV kvs vs)(dd:h'.DictOf (cJ P w) a vs):
 cO P w H' h' a (.dK kvs):=⟨z,hd,vs,rel,dd⟩
theorem aeu {H':Hp}{Q:Unit->Shared->Prop}(hu:A.units+1<cLine)(I:Inv X pins σ H s)(g:lY H a y v H')(ry:RelV y u)(rv:RelV v r)(h:∀s',Inv X pins σ H' s'->Q () s'):
 wpAny (model X.prog X.w) A (setItem (.ref a) u r) Q E s:=by
 rcases g with⟨kvs,k,e,ey,l,eH⟩|⟨kvs,k,b,e,ey,eb,l,eH⟩
 . subst ey eH
   obtain⟨z,hd,vs,rel,dd⟩:=zR I.hok e
   have hz:vs.length<=sizeLine:=by rw[<-rel.length];exact z
   have hl:(putK kvs k v).length<=sizeLine:=by have:=Wk kvs k v;omega
   refine wpAny_setItem_pairs (hsz:=hz) (v8 ry) dd λh' qL hs=>h _ ?_
   have he:∃q,h'.get? a=some q:=let⟨q,_,_,hq,_⟩:=qL;⟨q,hq⟩
   exact Gb I (by rw[e];exact True.intro) hs he (Wn hl hd (rel.put k rv) qL)
 . subst ey eH
   cases(show u=Value.ref b from ry)
   obtain⟨z,hd,xs,rel,dd⟩:=aeo I.hok e
   have hz:xs.length<=sizeLine:=by rw[<-Paired.length rel];exact z
   have hl:(putK kvs k v).length<=sizeLine:=by have:=Wk kvs k v;omega
   refine wpAny_setItem_heap (hsz:=hz) (tupleKind_room_in1 hu) (v9 I.hok eb) dd λh' qL hs=>h _ ?_
   obtain⟨q,es,ep,hq,h2,h3,h4,_,h5⟩:=qL
   refine Gb I (by rw[e];exact True.intro) hs ⟨q,hq⟩ ⟨hl,hd,_,(rel.put k eb rv).keeps λc ys ec=>?_,q,es,ep,hq,h2,h3,h4,h5⟩
   rw[au (kO ec e (λz=>nomatch z))]
   exact ec
end
section
variable {X:Cx}{pins:List (Addr × Obj)}{σ:St}{H:Hp}{s:Shared}{a:Addr}{kvs:List (Key × V)}{k:Key}{u:Value}{A:Around}{E:Value->Shared->Prop}
theorem aev {Q:Value->Shared->Prop}(I:Inv X pins σ H s)(e:Rd H a (.dK kvs))(h:∀t s',Inv X pins σ H s'->Q (.int kvs.length t) s'):wpAny (model X.prog X.w) A (call (.builtin "len") [.ref a]) Q E s:=by
 obtain⟨z,hd,vs,rel,dd⟩:=tL I.hok e
 refine call_len_dict hd dd (by rw[<-rel.length];rw[sizeLine_eq] at z;omega) ?_
 rw[<-rel.length]
 exact h _ _ (I.tok _)
end
noncomputable def Wq (i:Expr):Prop:=∀ov iv,subscripted i false ov iv=operate [ov,iv] (getItem ov iv)
theorem aew {prog:Program}{w:World}{A:Around}{E:Value->Shared->Prop}{s:Shared}{env:Env}{value slice:Expr}{pos:Pos}{T id:String}{Q:Value->Shared->Prop}
 (hl:typeLookup (.type T) "__getitem__"=pure (some (.builtin id))) (hs:Wq slice)
 (h:wpAny (model prog w) A (eval value env) (λo s₁=>wpAny (model prog w) A (eval slice env) (λi s₂=>s₂.TypeIs o T/\wpAny (model prog w) A (getItem o i) Q E s₂) E s₁) E s):
 wpAny (model prog w) A (eval (.Subscript value slice pos) env) Q E s:=by
 refine Subscript_ (Q0h h (λo s₁ h₁=>Q0h h₁ (λi s₂ h₂=>?_) λ_ _ x=>x) λ_ _ x=>x)
 obtain⟨hT,h₂⟩:=h₂
 unfold subscriptTail
 refine Q00 ?_
 rw[getitemInPython_of_ne hT.not_modules]
 refine Q00 (wpAny_specialOf hT hl ?_)
 have fin:wpAny (model prog w) A (subscripted slice false o i) (λr s₃=>wpAny (model prog w) A (letTemporaryGo value o r >>= λ_=>pure r) Q E s₃) E s₂:=by
  rw[hs o i]
  exact wpAny_operating (Q0h h₂ (λr s₃ h₃=>Q00 (wpAny_letTemporaryGo (Q03 h₃))) λ_ _ x=>x)
 first
  |exact Q03 (Q00 fin)
  |exact Q00 (Q03 (Q00 fin))
  |exact Q00 fin
theorem aex {X:Cx}{pins:List (Addr × Obj)}{σ:St}{H:Hp}{s:Shared}{a:Addr}{y:V}{o:Option V}(I:Inv X pins σ H s)(g:bW H a y o):s.TypeIs (.ref a) "dict":=by
 rcases g with⟨kvs,k,e,_,_⟩|⟨kvs,k,b,e,_,_,_⟩
 . obtain⟨_,_,vs,_,dd⟩:=tL I.hok e
   exact dd.typeIs
 . obtain⟨_,_,xs,_,dd⟩:=wg I.hok e
   exact dd.typeIs
noncomputable def qM (td ty:TE):TE:=λσ H Q=>td σ H λx H1=>ty σ H1 λy H2=>∃a v,x=.ref a/\bW H2 a y (some v)/\Q v H2
noncomputable def aey (ty td:TE):TE:=λσ H Q=>ty σ H λy H1=>td σ H1 λx H2=>∃a o,x=.ref a/\bW H2 a y o/\Q (.bl o.isSome) H2
noncomputable def aez (ty td:TE):TE:=λσ H Q=>ty σ H λy H1=>td σ H1 λx H2=>∃a o,x=.ref a/\bW H2 a y o/\Q (.bl (!o.isSome)) H2
noncomputable def aeA (td ty tv:TE):TS:=λD σ H=>tv σ H λv H1=>td σ H1 λx H2=>ty σ H2 λy H3=>∃a H4,x=.ref a/\lY H3 a y v H4/\D.nx σ H4
section
variable {X:Cx}{o i e value:Expr}{pos pos' tpos:Pos}{td ty tv:TE}
theorem gk (hu:X.A.units+1<cLine)(ho:PE X o td)(hi:PE X i ty)(hs:Wq i):PE X (.Subscript o i pos) (qM td ty):=by
 intro pins s σ H Q I h
 refine aew PySem.F.slot_dict_getitem.lookup hs (aP (ho pins s σ H _ I h) λu s1 ⟨x,H1,I1,rx,q1⟩=>aP (hi pins s1 σ H1 _ I1 q1) λiv s2 ⟨y,H2,I2,ry,a,v,ex,g,q2⟩=>?_)
 subst ex
 obtain rfl:u=Value.ref a:=rx
 exact⟨aex I2 g,aep hu I2 g ry λw' s3 I3 jP=>⟨v,H2,I3,jP,q2⟩⟩
theorem Gd (hu:X.A.units+1<cLine)(hi:PE X i ty)(ho:PE X o td):PC X .In i o (aey ty td):=by
 intro pins s σ H Q I h
 refine aP (hi pins s σ H _ I h) λiv s1 ⟨y,H1,I1,ry,q1⟩=>aP (ho pins s1 σ H1 _ I1 q1) λu s2 ⟨x,H2,I2,rx,a,ov,ex,g,q2⟩=>?_
 subst ex
 obtain rfl:u=Value.ref a:=rx
 exact aer hu I2 g ry λs3 I3=>⟨.bl ov.isSome,H2,I3,rfl,q2⟩
theorem aeB (hu:X.A.units+1<cLine)(hi:PE X i ty)(ho:PE X o td):PC X .NotIn i o (aez ty td):=by
 intro pins s σ H Q I h
 refine aP (hi pins s σ H _ I h) λiv s1 ⟨y,H1,I1,ry,q1⟩=>aP (ho pins s1 σ H1 _ I1 q1) λu s2 ⟨x,H2,I2,rx,a,ov,ex,g,q2⟩=>?_
 subst ex
 obtain rfl:u=Value.ref a:=rx
 exact aes hu I2 g ry λs3 I3=>⟨.bl (!ov.isSome),H2,I3,rfl,q2⟩
theorem qN (hu:X.A.units+1<cLine)(ho:PE X o td)(hi:PE X i ty)(hv:PE X value tv)(hs:swapsWith value (some (.Subscript o i pos')) pos.line X.env=pure false):
 PS X (.Assign [.Subscript o i pos'] value pos) (aeA td ty tv):=by
 intro pins s σ H D I h
 refine wpAny_Assign_Subscript (aP (hv pins s σ H _ I h) λr s1 ⟨v,H1,I1,rv,q1⟩=>aP (ho pins s1 σ H1 _ I1 q1) λu s2 ⟨x,H2,I2,rx,q2⟩=>aP (hi pins s2 σ H2 _ I2 q2) λiv s3 ⟨y,H3,I3,ry,a,H4,ex,g,q3⟩=>?_) hs
 subst ex
 obtain rfl:u=Value.ref a:=rx
 exact aeu hu I3 g ry rv λs4 I4=>⟨σ,H4,I4,q3⟩
end
theorem aeC {P:Program}{w:World}{H:Hp}(h:Heap)(hb:sysModules<h.objs.size):cO P w H (h.push { cls:=.type "dict",data:=.dict #[] }) h.objs.size (.dK []):=
 ⟨Q0b _,beq_eq_false_iff_ne.mpr (Ne.symm (Q08 hb)),[],.nil,Heap.DictOf.new h⟩
noncomputable def aeD:TE:=λ_ H Q=>∀p,H p=none->Q (.ref p) (upd H p (.dK []))
section
variable {X:Cx}{pos:Pos}
theorem wj:PE X (.Dict [] [] pos) aeD:=λpins s σ H Q I h=>
 wpAny_Dict_empty ⟨.ref s.heap.objs.size,_,I.laid (a:=s.heap.objs.size) (o:=.dK []) (t':=s.toks) (λ_ _ q=>Q04 _ q) (Q02 _) (aeC s.heap I.big),rfl,h _ (I.hok.fresh (Q02 _))⟩
end
section
variable {X:Cx}{pins:List (Addr × Obj)}{σ:St}{H:Hp}{s:Shared}{a:Addr}{y d:V}{u r:Value}{o:Option V}{A:Around}{E:Value->Shared->Prop}
end
section
variable {X:Cx}{o e f:Expr}{apos cpos:Pos}{td ty tx:TE}
end
section
variable {X:Cx}{pins:List (Addr × Obj)}{σ:St}{H:Hp}{s:Shared}{a:Addr}{kvs:List (Key × V)}{A:Around}{E:Value->Shared->Prop}
end
section
variable {X:Cx}{pins:List (Addr × Obj)}{σ:St}{H:Hp}{s:Shared}{a:Addr}{y:V}{u:Value}{A:Around}{E:Value->Shared->Prop}
end
end L2
namespace Wr
open PySem PySem.W PySem.Calls PyProof.Rows
theorem aeE {P:Params}{h:Heap}:∀(ns:List Int) (vs:List Value),WellAll P h vs (ns.map WData.int)->IntsAre vs ns:=by
 intro ns
 induction ns with
 |nil=>
  intro vs w
  rw[List.map_nil] at w
  cases w
  exact .nil
 |cons n ns ih=>
  intro vs w
  rw[Q0u] at w
  cases w with
  |cons a b=>
   cases a
   exact .cons _ _ (ih _ b)
theorem aeF {l:OpenLaw}{n:Nat}(hn:l.most=some n){P:Params}{h:Heap}{args:List WData}{vals:List Value}
 (hpre:l.row.toRowW.claim.pre args=true) (hwl:WellAll P h vals args):
 ∃a vs ns,vals=[Value.ref a]/\args=[WData.list (ns.map WData.int)]/\h.get? a=some { cls:=.type "list",data:=.seq vs.toArray }/\IntsAre vs ns/\ns.length<=n:=by
 have hsh:WShape.hasAll [] args [.list .int]=true:=(pre_splitW hpre).1
 have hc:l.pre.holds [] { args:=args }=true:=(pre_splitW hpre).2
 obtain⟨d,r,rfl,h1,h2⟩:=hasAllW_cons hsh
 obtain rfl:=hasAllW_nil h2
 obtain⟨xs,rfl,h3⟩:=hasW_list h1
 obtain⟨ns,rfl⟩:=items_int h3
 have hlen:ns.length<=n:=by
  unfold OpenLaw.pre at hc
  have h4:(WTm.not (.lt (.lit (.int (n:Int))) (.len (.arg 0)))).holds [] { args:=[.list (ns.map .int)] }=true:=by
   have h4:=(holds_andW hc).1
   rw[hn] at h4
   exact h4
  have h5:=condW_of h4 (w_not (w_lt w_lit (w_len_list (w_arg rfl))))
  rw[Q06] at h5
  refine Q11 λq=>?_
  have q':(n:Int)<((ns.length:Nat):Int):=by omega
  first
   |(rw[decide_eq_true q'] at h5;exact absurd h5 (by decide))
   |(simp at h5;omega)
 cases hwl with
 |cons w1 w2=>
  cases w2
  cases w1 with
  |list ho hall=>exact⟨_,_,ns,rfl,rfl,ho,aeE ns _ hall,hlen⟩
theorem aeG (l:OpenLaw)(args:List WData):l.row.toRowW.claim.post args (.bool true) args=true:=
 postW_of (r:=l.row.toRowW) (X:=(true == true))
  (show WShape.has [] (.bool true) .bool=true by first|rfl|decide|simp[WShape.has,WShape.arms,WShape.armsAll])
  (show(WTm.eq .res (.lit (.bool true))).value [] { args:=args,res:=some (.bool true),after:=args }=some (.bool (true == true)) from w_eq_bool (w_res rfl) w_lit) rfl
theorem aeH {l:OpenLaw}{n:Nat}{q:Program}{loose:List Str}{XP:(Str->Option Value)->Heap->Prop}{YP:World->Heap->Prop}{d:DefRec}
 (hn:l.most=some n) (hdf:d.params.defaults=[])
 (call:∀(w:World) (s₀ s₁:Shared) (mg mb:Str->Option Value) (fa:Addr) (o:Obj) (pm cd doc:Value) (a:Addr) (vs:List Value) (ns:List Int),
   Ground q loose [] XP w s₀ mg mb s₁.heap->YP w s₁.heap->
   s₁.heap.get? fa=some o->o.data=.func (docDef d.name d.params d.body d.scope pm cd doc)->s₁.heap.CodeRec cd d.name->mg d.name=some (.ref fa)->
   s₁.heap.get? a=some { cls:=.type "list",data:=.seq vs.toArray }->IntsAre vs ns->ns.length<=n->s₁.gens=#[]->
   codeAny (model l.prog w) callerA (.call (.ref fa) ⟨[.ref a],[]⟩) (λr s'=>r=.ok (.ret (.bool true))/\OldK s₁.heap s'.heap/\s'.os=s₁.os/\AllBare s'.gens) s₁):
 WalkO q loose XP YP l.row.toRowW d [] (λf vs=>PySem.call f vs):=by
 intro w s₀ s₁ mg mb G Y fa o pm cd doc dV kV ho hd hcd hD hmg hg args vals as hpre hlay hrd hwl hlo
 obtain rfl:dV=.none:=Dflts.none hD hdf
 obtain rfl:kV=.none:=Dflts.noKw hD
 obtain⟨a,vs,ns,rfl,rfl,hobj,hints,hlen⟩:=aeF hn hpre hwl
 refine enter_call (codeAny_mono (call w s₀ s₁ mg mb fa o pm cd doc a vs ns G Y ho (fd_plain hd) hcd hmg hobj hints hlen hg) λr s' hq=>?_)
 obtain⟨rfl,h2,h3,h4⟩:=hq
 exact⟨.inl ⟨.bool true,.bool true,[],rfl,λ_=>rfl,.bool true,aeG l _,λ_=>⟨List.Pairwise.nil,λ_ hm=>(nomatch hm)⟩⟩,h2,h3,h4⟩
section
variable {prog:Program}{w:World}{A:Around}{E:Value->Shared->Prop}{s:Shared}{K:Frag}
end
end Wr
namespace L2
open PySem PySem.Spec PyProof.Rows
theorem Ws:∀{vs:List Value}{ns:List Int},IntsAre vs ns->Vals (ns.map V.int) vs
 |_,_,.nil=>.nil
 |_,_,.cons n t h=>.cons ⟨t,rfl⟩ (Ws h)
noncomputable abbrev aC:iC:=λ_ _ _ _ _ _=>False
noncomputable abbrev E0:XK:=λ_ _ _=>False
theorem eG {X:Cx}:Passes aC X E0:=λ_ _ _ _ _ _ _ h=>h.elim
structure lC (K:W.Frag) (x qual:Str) (st:Stmt) (f:Addr) (fd:FuncData):Prop where
 ex:∃(oc:Value) (od:Option Addr) (kV doc pm:Value) (an:Option Addr) (cdv ct:Value) (osl:Array (Option Value)),
  fd=W.fnOf x qual (fO st) (dW st) (aL st) .none kV doc pm an cdv ct/\K.lookup f=some ⟨oc,od,.func fd,osl⟩/\W.codeIn K cdv qual=true
 kp:W.keepIn K (.ref f)=true
variable {P:Program}{w:World}{K:W.Frag}{mg:Str->Option Value}{base:Heap}
theorem lC.ok {x qual:Str}{st:Stmt}{f:Addr}{fd:FuncData}{N ps:List Str}{k:Nat}{sp:Sp}(F:lC K x qual st f fd)(S:bC N ps (aL st))(len:∀vs H Q E,sp vs H Q E->vs.length=ps.length)
 (hbody:∀(cdv:Value) (A:Around) (outer:List Env) (s:Shared) (H:Hp) (vs:List V) (Q:VK) (E:XK),cU k (A.deeper (envOfC qual (aL st) s.heap.objs.size f cdv))->sp vs H Q E->
   ∃t,fY (lA aC P w K mg base N qual (aL st) f cdv A outer s H E).kZ (dW st) t/\t { nx:=λ_ H'=>Q .non H',rt:=Q } (start N vs) H):aq P w K mg base aC (k+1) f fd ps sp:=by
 obtain⟨oc,od,kV,doc,pm,an,cdv,ct,osl,rfl,lk,hcd⟩:=F.ex
 refine zL lk hcd S len λA outer s H vs Q E hr hsp=>?_
 obtain⟨t,h,q⟩:=hbody cdv A outer s H vs Q E hr hsp
 exact⟨t,h.kZ,q⟩
theorem lC.binds {x qual:Str}{st:Stmt}{f:Addr}{fd:FuncData}{ps:List Str}(F:lC K x qual st f fd)
 (h:∀(kV doc pm:Value) (an:Option Addr) (cdv ct:Value) (us:List Value),us.length=ps.length->bindArgs (W.fnOf x qual (fO st) (dW st) (aL st) .none kV doc pm an cdv ct) ⟨us,[]⟩=pure (ps.zip us)):Binds K fd ps []:=by
 obtain⟨oc,od,kV,doc,pm,an,cdv,ct,osl,rfl,lk,hcd⟩:=F.ex
 exact .all (h kV doc pm an cdv ct)
theorem Wt {x qual:Str}{st:Stmt}{f:Addr}{oc:Value}{od an:Option Addr}{osl:Array (Option Value)}{kV doc pm cdv ct:Value}(l:K.lookup f=some ⟨oc,od,.func (W.fnOf x qual (fO st) (dW st) (aL st) .none kV doc pm an cdv ct),osl⟩)
 (c:W.codeIn K cdv qual=true) (k:W.keepIn K (.ref f)=true):lC K x qual st f (W.fnOf x qual (fO st) (dW st) (aL st) .none kV doc pm an cdv ct):=⟨⟨oc,od,kV,doc,pm,an,cdv,ct,osl,rfl,l,c⟩,k⟩
theorem eZ {A:Around}{k:Nat}(hr:cU k A):A.units+1<cLine:=Q17 (Nat.add_le_add_left (by decide:1<=64) _) hr.units
theorem cW {n:Nat}(h:n<=1000):n<sizeLine:=Q17 h (by decide)
section
variable {X:Cx}
theorem pv (i:Nat){x:Str}{pos:Pos}(hN:X.N[i]? =some x:=by rfl)(hv:zu X.env.scope x:=by first|exact Or.inl rfl|exact Or.inr (Or.inl rfl)|exact Or.inr (Or.inr rfl))(hd:(x == ("__debug__":Str))=false:=by decide)
 (hcd:(x == ("__classdict__":Str))=false:=by decide):PE X (.Name x pos) (bB i):=ac3 hN hv hd hcd
end
theorem bD {A B:Prop}(h:B):if false=true then A else B:=by
 rw[if_neg Bool.false_ne_true]
 exact h
theorem bR {A B:Prop}(h:A):if true=true then A else B:=by
 rw[if_pos rfl]
 exact h
theorem eN {c A B:Prop} [Decidable c](h1:c->A)(h2:¬c->B):if c then A else B:=by
 by_cases h:c
 . rw[if_pos h]
   exact h1 h
 . rw[if_neg h]
   exact h2 h
theorem aeI {c A B:Prop} [Decidable c](hc:c)(h:B):if(!decide c)=true then A else B:=by
 rw[decide_eq_true hc]
 exact bD h
noncomputable def Same (H H':Hp):Prop:=∀b o,H b=some o->H' b=some o
theorem Same.refl (H:Hp):Same H H:=λ_ _ h=>h
theorem Same.trans {H H1 H2:Hp}(a:Same H H1)(b:Same H1 H2):Same H H2:=λc o h=>b c o (a c o h)
section
variable {X:Cx}
theorem Ge:iY X (.builtin "len") (λxs H Q=>∃a kvs,xs=[V.ref a]/\H a=some (.dK kvs)/\Q (.int kvs.length) H):=by
 intro pins s σ H xs us Q I r h
 obtain⟨a,kvs,rfl,ha,q⟩:=h
 obtain⟨u,rfl,ru⟩:=vals1 r
 cases ru
 exact aev I (.inl ha) λt s' I'=>⟨.int kvs.length,H,I',⟨t,rfl⟩,q⟩
end
section
variable {κ:Type} [DecidableEq κ]
end
theorem Wu {g:Str->NameKind->NameKind}{x:Str}:∀names:List (Str × NameKind),
 (names.map λy=>(y.1,g y.1 y.2)).lookup x=(names.lookup x).map (g x)
 |[]=>rfl
 |(n,k)::r=>by
  show List.lookup x ((n,g n k)::_)=_
  rw[Q18,Q18,Wu r]
  cases hx:x == n with
  |true=>rw[eq_of_beq hx];rfl
  |false=>rfl
noncomputable def lZ (env:Env) (n:Str) (k:NameKind):NameKind:=
 if(k == .free && env.scope.kind == .function && env.kindOf n == some .cell)=true then .cell else k
theorem Wv (scope:Scope)(env:Env)(x:Str):
 (relabel scope env).names.lookup x=(scope.names.lookup x).map (lZ env x):=by
 rw[<-Wu (g:=lZ env) scope.names]
 show List.lookup x (scope.names.map _)=_
 congr 1
 apply Q1q
 rintro⟨n,k⟩ _
 show(if _ then _ else _)=(n,lZ env n k)
 unfold lZ
 split <;> rfl
theorem aeJ {env:Env}{x:Str}{k:NameKind}(h:lZ env x k=.local):k=.local:=by
 unfold lZ at h
 split at h
 . cases h
 . exact h
theorem aeK {env:Env}{x:Str}{k:NameKind}(h:lZ env x k=.cell):k=.free\/k=.cell:=by
 unfold lZ at h
 split at h
 . rename_i c
   left
   simp only[Bool.and_eq_true] at c
   exact eq_of_beq c.1.1
 . exact .inr h
theorem aeL {env:Env}{x:Str}{k:NameKind}(h:lZ env x k=.free):k=.free:=by
 unfold lZ at h
 split at h
 . cases h
 . exact h
theorem Gf {env:Env}:∀(names:List (Str × NameKind)) (acc:List (Str × Addr)),(∀y∈names,y.2=.free->∃c,env.cells.lookup y.1=some c)->
 (∀x c,acc.lookup x=some c->env.cells.lookup x=some c)->
 ∃cl:List (Str × Addr),(forIn names acc λy cs=>if(y.2 == NameKind.free)=true then(do let a <-cellOf env y.1;pure (ForInStep.yield ((y.1,a)::cs))) else pure (ForInStep.yield cs))=(pure cl:Sem _)/\
  (∀x c,cl.lookup x=some c->env.cells.lookup x=some c)/\(∀x,((x,NameKind.free)∈names\/(acc.lookup x).isSome=true)->cl.lookup x=env.cells.lookup x)
 |[],acc,_,ha=>⟨acc,rfl,ha,λx hx=>by
    rcases hx with hx|hx
    . cases hx
    . obtain⟨c,e⟩:=Option.isSome_iff_exists.mp hx
      rw[e,ha x c e]⟩
 |(n,k)::r,acc,hn,ha=>by
  by_cases hk:k=.free
  . subst hk
    obtain⟨c,e⟩:=hn (n,.free) Q0f rfl
    have e:env.cells.lookup n=some c:=e
    have ha':∀x d,((n,c)::acc).lookup x=some d->env.cells.lookup x=some d:=λx d h=>by
     rw[Q18] at h
     cases hx:x == n with
     |true=>
      rw[hx] at h
      cases h
      rw[eq_of_beq hx];exact e
     |false=>
      rw[hx] at h
      exact ha x d h
    obtain⟨cl,h1,h2,h3⟩:=Gf r ((n,c)::acc) (λy hy=>hn y (Q0j _ hy)) ha'
    refine⟨cl,?_,h2,λx hx=>h3 x ?_⟩
    . rw[Q1r]
      have ec:cellOf env n=pure c:=by unfold cellOf;rw[e]
      simp only[beq_self_eq_true,if_true,ec,pure_bind]
      exact h1
    . rcases hx with hx|hx
      . rcases List.mem_cons.mp hx with q|q
        . right
          cases q
          rw[Q18,beq_self_eq_true];rfl
        . exact .inl q
      . right
        rw[Q18]
        cases x == n with
        |true=>rfl
        |false=>exact hx
  . obtain⟨cl,h1,h2,h3⟩:=Gf r acc (λy hy=>hn y (Q0j _ hy)) ha
    refine⟨cl,?_,h2,λx hx=>h3 x ?_⟩
    . rw[Q1r]
      have eb:(k == NameKind.free)=false:=by simpa using hk
      simp only[eb,Bool.false_eq_true,if_false,pure_bind]
      exact h1
    . rcases hx with hx|hx
      . rcases List.mem_cons.mp hx with q|q
        . cases q;exact absurd rfl hk
        . exact .inl q
      . exact .inr hx
theorem Gg {scope:Scope}{env:Env}(hn:∀y∈scope.names,y.2=.free->∃c,env.cells.lookup y.1=some c):
 ∃cl:List (Str × Addr),closureFor scope env=pure cl/\(∀x c,cl.lookup x=some c->env.cells.lookup x=some c)/\(∀x,(x,NameKind.free)∈scope.names->cl.lookup x=env.cells.lookup x):=by
 obtain⟨cl,h1,h2,h3⟩:=Gf scope.names [] hn (λx c h=>by cases h)
 refine⟨cl,?_,h2,λx hx=>h3 x (.inl hx)⟩
 unfold closureFor
 have e:(forIn scope.names ([]:List (Str × Addr)) λy cs=>do
  let mut cs:=cs
  match y with
  |(name,kind)=>if(kind == NameKind.free)=true then cs:=(name,<-cellOf env name)::cs
  pure (ForInStep.yield cs))=(pure cl:Sem _):=by
  rw[<-h1]
 first
  |exact(by simpa using e)
  |(show(forIn scope.names ([]:List (Str × Addr)) _ >>= λcs=>pure cs)=_;rw[bind_pure];exact e)
structure dw (X:Cx) (own:List Str) (scope:Scope):Prop where
 kind:scope.kind=.function
 cell:∀y∈scope.names,y.2≠ .cell
 names:∀y∈scope.names,y.2=.local->scope.names.lookup y.1=some .local
 free:∀y∈scope.names,y.2=.free->X.env.kindOf y.1=some .cell\/X.env.kindOf y.1=some .free
 nd:(own++X.N).Nodup
 outer:∀x∈X.N,scope.names.lookup x≠some .local
noncomputable def fG (X:Cx) (own:List Str) (scope:Scope) (cl:List (Str × Addr)) (C:Addr) (fp:List Addr) (s₂:Shared) (H₂:Hp):Cx:=
 { X with N:=own++X.N,s₀:=s₂,H₀:=H₂,env:=compEnvC scope cl C X.env,outer:=X.stack,ex:=fp,fn:=λ_=>false,pn:=[],xe:=λ_ _=>False }
noncomputable def wu (X:Cx) (ifs:List Expr) (t:TT):Prop:=
 ∀(pins:List (Addr × Obj)) (s:Shared) (σ:St) (H:Hp) (Q:Bool->Hp->Prop),Inv X pins σ H s->t σ H Q->
  wpAny (model X.prog X.w) X.A (forIn ifs true λc r=>if r=true then do let ok <-isTrue c X.env (eval c X.env);pure (ForInStep.yield ok) else pure (ForInStep.yield r)) (TP X pins σ Q) X.xe s
noncomputable def gn:TT:=λ_ H Q=>Q true H
theorem i_ {X:Cx}:wu X [] gn:=λpins s σ H Q I h=>wpAny_tests_nil ⟨H,I,h⟩
theorem zT {X:Cx}{c:Expr}{t:TT}(h:PT X c t):wu X [c] t:=λpins s σ H Q I q=>wpAny_tests_one (h pins s σ H Q I q)
noncomputable def zU (k:Nat) (wi:TI) (g:TG) (tt:TT) (te:TE):TE:=λσ H Q=>wi σ H λJ H1=>
 ∃W:Nat->Nat->List V->Hp->Prop,(∃m,W 0 m [] H1)/\∀i m ys H,W i m ys H->
  (J.stop i H/\∀p,H p=none->Q (.ref p) (upd H p (.lst ys)))\/
  (J.go i H/\ys.length<sizeLine/\∀x H',J.mW i H x H'->g x (List.replicate k none++σ) H' λσ2 H2=>σ2.drop k=σ/\
    tt σ2 H2 λb H3=>if b=true then te σ2 H3 λy H4=>∃m',m'<m/\W (i+1) m' (ys++[y]) H4 else ∃m',m'<m/\W (i+1) m' ys H3)
section
variable {prog:Program}{w:World}{A:Around}{R:Result->Shared->Prop}{s:Shared}
theorem aeM {elt target iter:Expr}{ifs:List Expr}{scope:Scope}{pos:Pos}{it acc:Value}{env:Env}(I:Nat->Shared->Prop)
 (turn:∀n s,I n s->wpAny (model prog w) A (pyNext it) (λr s₁=>
   match r with
   |none=>R (.ok .next) s₁
   |some v=>wpAny (model prog w) A (letOwnedTupleGo target it v) (λ_ s₂=>wpAny (model prog w) A (assign target env v) (λ_ s₃=>
     wpAny (model prog w) A (forIn ifs true λc r=>if r=true then do let ok <-isTrue c env (eval c env);pure (ForInStep.yield ok) else pure (ForInStep.yield r)) (λok s₄=>
      if ok=true then wpAny (model prog w) A (eval elt env) (λx s₅=>
       wpAny (model prog w) A (call (.builtin "list.append") [acc,x]) (λ_ s₆=>∃m,m<n/\I m s₆) (λ_ _=>False) s₅) (λ_ _=>False) s₄
      else ∃m,m<n/\I m s₄) (λ_ _=>False) s₃) (λ_ _=>False) s₂) (λ_ _=>False) s₁) (λ_ _=>False) s)
 (n:Nat) (h:I n s):
 codeAny (model prog w) A (.compLoop (.ListComp elt [⟨target,iter,ifs,0⟩] scope pos) 0 it acc env) R s:=by
 refine codeAny_loop rfl I (λn s hI=>?_) n h
 show wpAny _ A ((compTurn _ 0 it acc env).onRaise _) _ _ s
 refine wpAny_noted ?_
 rw[compTurn_list]
 have no:∀{α:Type} {t:Sem α} {Q Q':α->Shared->Prop} {E:Value->Shared->Prop} {s:Shared},wpAny (model prog w) A t Q (λ_ _=>False) s->(∀a s,Q a s->Q' a s)->wpAny (model prog w) A t Q' E s:=
  λh k=>Q0h h k λ_ _ z=>z.elim
 refine Q00 (wpAny_standAt (Q00 (no (turn n s hI) λr s₁ h₁=>?_)))
 cases r with
 |none=>exact Q03 h₁
 |some v=>
  refine Q00 (no h₁ λ_ s₂ h₂=>?_)
  refine Q00 (no h₂ λ_ s₃ h₃=>Q00 (no h₃ λok s₄ h₄=>?_))
  cases ok with
  |false=>exact Q03 ⟨rfl,h₄⟩
  |true=>
   refine Q00 (Q00 (no h₄ λx s₅ h₅=>?_))
   exact Q00 (no h₅ λ_ s₆ h₆=>Q03 (Q03 ⟨rfl,h₆⟩))
end
noncomputable abbrev iD (us:List Value) (n:Nat):Obj:={ cls:=.type "list",data:=.seq us.toArray n }
section
variable {X:Cx}{own:List Str}{scope:Scope}
theorem dw.cells (S:dw X own scope){pins:List (Addr × Obj)}{σ:St}{H:Hp}{s:Shared}(I:Inv X pins σ H s):
 ∀y∈scope.names,y.2=.free->∃c,X.env.cells.lookup y.1=some c:=λy hy hf=>I.ok.has y.1 (S.free y hy hf)
theorem dw.freeOf (S:dw X own scope){x:Str}(h:(relabel scope X.env).names.lookup x=some .cell\/(relabel scope X.env).names.lookup x=some .free):(x,NameKind.free)∈scope.names:=by
 rw[Wv] at h
 cases e:scope.names.lookup x with
 |none=>rw[e] at h;rcases h with h|h <;> cases h
 |some k=>
  rw[e] at h
  have hm:(x,k)∈scope.names:=PySem.mem_of_lookup e
  have hk:k=.free:=by
   rcases h with h|h
   . rcases aeK (Option.some.inj h) with q|q
     . exact q
     . exact absurd q (S.cell _ hm)
   . exact aeL (Option.some.inj h)
  rw[<-hk];exact hm
theorem dw.aeN (S:dw X own scope){x:Str}(hx:x∈X.N):(relabel scope X.env).names.lookup x≠some .local:=λh=>by
 rw[Wv] at h
 cases e:scope.names.lookup x with
 |none=>rw[e] at h;cases h
 |some k=>
  rw[e] at h
  have:=aeJ (Option.some.inj h)
  subst this
  exact S.outer x hx e
theorem Ww {k:Nat}{σ:St}{i:Nat}{v:V}(h:(List.replicate k none++σ)[i]? =some (some v)):k<=i/\σ[i - k]? =some (some v):=by
 by_cases hi:i<k
 . rw[Q0t (by simpa using hi),Q2i] at h
   split at h <;> cases h
 . refine⟨Q11 hi,?_⟩
   rw[Q0q (by simpa using hi)] at h
   simpa using h
theorem Inv.block {pins:List (Addr × Obj)}{σ:St}{H:Hp}{s:Shared}{fp:List Addr}{cl:List (Str × Addr)}{C D:Addr}{h₁:Heap}{m:Str->Option Value}{t':Nat}{us:List Value}{n:Nat}(I:Inv X pins σ H s)(S:dw X own scope)
 (hf:∀b∈fp,fU X pins H b) (hfl:∀b∈fp,b<s.heap.objs.size)
 (hsub:∀x c,cl.lookup x=some c->X.env.cells.lookup x=some c) (hget:∀x,(x,NameKind.free)∈scope.names->cl.lookup x=X.env.cells.lookup x)
 (hC:s.heap.objs.size<=C) (hD:s.heap.objs.size<=D) (hDC:D≠C) (hn:h₁.Ns C m) (old:∀b o,s.heap.get? b=some o->h₁.get? b=some o) (hacc:h₁.get? D=some (iD us n)):
 Inv (fG X own scope cl C fp s H) [(D,iD us n)] (List.replicate own.length none++σ) H { s with heap:=h₁,toks:=t' }:=by
 have ok:=I.ok
 have sU:∀b:Addr,s.heap.objs.size<=b->b ∉ frs X.stack:=λb hb z=>by
  rcases List.mem_cons.mp (I.sV b z) with e|e
  . exact absurd I.lt (by rw[<-e];exact Nat.not_lt.mpr hb)
  . exact I.sU hb e
 have fresh:∀b:Addr,s.heap.objs.size<=b->H b=none:=λb hb=>I.hok.fresh hb
 have clt:∀x c,cl.lookup x=some c->c<s.heap.objs.size:=λx c e=>by
  obtain⟨v,q⟩:=I.cell x c (hsub x c e)
  exact q.lt
 refine⟨⟨ok.mod,S.kind,ok.glob,ok.blt,hC,λx y c e1 e2=>ok.inj x y c (hsub x c e1) (hsub y c e2),λx hx=>?_,λx c hx _=>(nomatch hx),ok.hd,ok.frames,.inl rfl,λb hb=>?_,I.bs,Q0e ok.jm I.sz,λb o e hb=>?_,λb hb z=>?_,I.stack,I.vL⟩,
  rfl,I.bare,Un.kept old,⟨m,hn,λi x v e1 e2 e3=>?_⟩,λx c e=>?_,fresh C hC,λx c e=>?_,λp hp=>?_,I.hok.kept old,?_⟩
 . have hm:=S.freeOf (x:=x) hx
   obtain⟨c,e⟩:=ok.has x (S.free _ hm rfl)
   exact⟨c,by rw[show(fG X own scope cl C fp s H).env.cells=cl from rfl,hget x hm];exact e⟩
 . refine⟨Q08 (Q0a (hfl b hb) hC),λx c e z=>?_⟩
   exact(hf b hb).2.2.2.2.1 x c (hsub x c e) z
 . rcases(hf b hb).2.2.2.1 with z|z
   . exact ok.oZ b o e z
   . exact absurd (Q0a (Q01 e) (Q0e ok.jm z)) (Q0l _)
 . rcases List.mem_cons.mp (I.sV b z) with q|q
   . exact(hf b hb).2.1 q
   . exact(hf b hb).2.2.1 q
 . obtain⟨hk,e2'⟩:=Ww e2
   have e1':X.N[i - own.length]? =some x:=by
    have e1:(own++X.N)[i]? =some x:=e1
    rw[Q0q hk] at e1
    exact e1
   have hxN:x∈X.N:=Q0v e1'
   have hk2:(relabel scope X.env).names.lookup x=some .cell\/(relabel scope X.env).names.lookup x=some .free:=by
    rcases e3 with q|q
    . exact absurd q (S.aeN hxN)
    . exact q
   have hm:=S.freeOf hk2
   have wz:=S.free _ hm rfl
   obtain⟨mX,hnX,Gh⟩:=I.loc
   obtain⟨u,r,lk⟩:=Gh _ x v e1' e2' (.inr wz)
   refine⟨u,r,.inr ⟨hk2,?_⟩⟩
   rcases lk with⟨q,_⟩|⟨_,c,ec,hc⟩
   . rcases wz with z|z
     . rw[z] at q;cases q
     . rw[z] at q;cases q
   . obtain⟨o,ho,hd⟩:=hc
     exact⟨c,(hget x hm).trans ec,o,old _ _ ho,hd⟩
 . obtain⟨v,o,ho,hd⟩:=I.cell x c (hsub x c e)
   exact⟨v,o,old _ _ ho,hd⟩
 . exact I.fQ x c (hsub x c e)
 . have e:p=(D,iD us n):=by
    have hp:p∈([]++[(D,iD us n)]:List (Addr × Obj)):=hp
    simpa using hp
   subst e
   exact⟨hacc,fresh D hD,hDC,sU D hD,λv z=>by
    have z:Data.seq us.toArray n=Data.cell v:=z
    cases z⟩
 . show _=(own++X.N).length
   rw[Q09,Q09,Q15,I.len]
theorem Inv.unblock {pins:List (Addr × Obj)}{σ σ':St}{H H3:Hp}{s s3:Shared}{fp:List Addr}{cl:List (Str × Addr)}{C D:Addr}{h':Heap}{us:List Value}{n:Nat}{ys:List V}{pl:List (Addr × Obj)}(I:Inv X pins σ H s)
 (hf:∀b∈fp,fU X pins H b) (I3:Inv (fG X own scope cl C fp s H) pl σ' H3 s3) (hpl:(D,iD us n)∈pl) (hC:s.heap.objs.size<=C) (hD:s.heap.objs.size<=D) (hDC:D≠C)
 (r:Vals ys us) (hz:ys.length<=sizeLine) (hs:Heap.SameBut C s3.heap h'):Inv X pins σ (upd H3 D (.lst ys)) { s3 with heap:=h' }/\H3 D=none:=by
 obtain⟨eD,nD,_,_,_⟩:=I3.pin (D,iD us n) (Q0d _ hpl)
 have nC:H3 C=none:=I3.free
 have kC:∀b o,b≠C->s3.heap.get? b=some o->h'.get? b=some o:=λb o hb e=>(hs.2 b hb).trans e
 refine⟨I.call' (ch:=fp) I3.os ⟨λb o e nb hb hx=>?_,λb o e nb hb hx=>?_,λb o e nb hx=>?_,λb o e hx=>?_,λb xs e=>?_,λb o u e=>?_,λb ps e=>?_⟩ (λb o e=>?_) I3.bare (λb hb=>?_),nD⟩
 . exact kC b o (Q08 (Q0a (Q01 e) hC)) (I3.base.keep b o e nb hb hx)
 . obtain⟨sl,e1⟩:=I3.base.slot b o e nb hb hx
   exact⟨sl,kC b _ (Q08 (Q0a (Q01 e) hC)) e1⟩
 . rw[au (Q08 (Q0a (Q01 e) hD))]
   exact I3.base.free b o e nb hx
 . obtain⟨o',e1⟩:=I3.base.there b o e hx
   exact⟨o',kC b _ (Q08 (Q0a (Q01 e) hC)) e1⟩
 . have q:=I3.base.tups b xs e
   rw[au (aO q nD)];exact q
 . have q:=I3.base.gW b o u e
   rw[au (aO q nD)];exact q
 . obtain⟨mo,q⟩:=I3.base.iy b ps e
   exact⟨mo,by rw[au (aO q nD)];exact q⟩
 . by_cases hb:b=D
   . subst hb
     rw[aF] at e;cases e
     exact⟨hz,us,n,r,kC b _ hDC eD⟩
   . rw[au hb] at e
     refine(I3.hok b o e).stay (λc v hc q=>kC c v ?_ q) (λc q=>by rw[au (aO q nD)];exact q) λc xs q=>by rw[au (aO q nD)];exact q
     rcases hc with z|z
     . rw[z];exact aO e nC
     . exact aO z nC
 . obtain⟨_,f1,_,f3,f4,f5⟩:=hf b hb
   exact⟨f3,f1,f4,f5⟩
theorem Wx {tg iter elt:Expr}{ifs:List Expr}{pos:Pos}{g:TG}{tt:TT}{te:TE}{pins:List (Addr × Obj)}{σ:St}{H2:Hp}{s2:Shared}{it:Addr}{fp:List Addr}{tn:Nat->Heap->Prop}{J:It}{cl:List (Str × Addr)}{Fin:List V->Hp->Prop}{W:Nat->Nat->List V->Hp->Prop}{m0:Nat}
 {RR:Value->Addr->Result->Shared->Prop} (hc:X.calm=true) (S:dw X own scope) (hsub:∀x c,cl.lookup x=some c->X.env.cells.lookup x=some c) (hget:∀x,(x,NameKind.free)∈scope.names->cl.lookup x=X.env.cells.lookup x)
 (I2:Inv X pins σ H2 s2) (T:Turn X.prog X.w X.K tg J fp it tn) (st2:tn 0 s2.heap) (f2:∀b∈fp,fU X pins H2 b) (w0:W 0 m0 [] H2)
 (turn:∀i m ys H,W i m ys H->(J.stop i H/\Fin ys H)\/
   (J.go i H/\ys.length<sizeLine/\∀x H',J.mW i H x H'->g x (List.replicate own.length none++σ) H' λσ2 H2=>σ2.drop own.length=σ/\
     tt σ2 H2 λb H3=>if b=true then te σ2 H3 λy H4=>∃m',m'<m/\W (i+1) m' (ys++[y]) H4 else ∃m',m'<m/\W (i+1) m' ys H3))
 (hg:∀cl C fp s₂ H₂,PG (fG X own scope cl C fp s₂ H₂) tg g) (ht:∀cl C fp s₂ H₂,wu (fG X own scope cl C fp s₂ H₂) ifs tt) (he:∀cl C fp s₂ H₂,PE (fG X own scope cl C fp s₂ H₂) elt te)
 (hRR:∀(C D:Addr) (s5:Shared) (H5:Hp) (ys:List V) (us:List Value) (k:Nat),s2.heap.objs.size<=C->s2.heap.objs.size<=D->D≠C->Inv (fG X own scope cl C fp s2 H2) [(D,iD us k)] (List.replicate own.length none++σ) H5 s5->Vals ys us->ys.length<=sizeLine->Fin ys H5->RR (.ref D) C (.ok .next) s5):
 wpAny (model X.prog X.w) X.A (newList []) (λacc s₃=>wpAny (model X.prog X.w) X.A (newFunctionEnv scope X.env.globals cl [] X.env.qual none .none (some X.env)) (λcenv s₄=>
  codeAny (model X.prog X.w) X.A (.compStart (.ListComp elt [⟨tg,iter,ifs,0⟩] scope pos) 0 (.ref it) acc { cenv with scope:=relabel scope X.env }) (RR acc cenv.locals) s₄) X.xe s₃) X.xe s2:=by
 have hfl:∀b∈fp,b<s2.heap.objs.size:=λb hb=>by
  obtain⟨o,e,_⟩:=T.obj _ _ st2 b hb
  exact Q01 e
 refine wpAny_newObj_type (wpAny_newFunctionEnv S.cell (by intro y hy;simp at hy) (λh₁ hns₁ hsb₁=>?_) S.kind)
 dsimp only at hns₁ hsb₁ ⊢
 generalize hG:s2.heap.push { cls:=.type "list",dict:=none,data:=.seq ([]:List Value).toArray }=G at hns₁ hsb₁ ⊢
 have Wy:G.objs.size=s2.heap.objs.size+1:=by rw[<-hG,Q0y]
 have hC:s2.heap.objs.size<=G.objs.size:=by rw[Wy];exact Q10 _
 have hDC:s2.heap.objs.size≠G.objs.size:=by rw[Wy];exact Q08 (Q1c _)
 have old:∀b o,s2.heap.get? b=some o->h₁.get? b=some o:=λb o e=>
  hsb₁.extBut b o (Q08 (Q0a (Q01 e) hC)) (Q04 _ (hG ▸ Q04 _ e))
 have hacc:h₁.get? s2.heap.objs.size=some (iD [] 0):=hsb₁.extBut _ _ hDC (Q04 _ (hG ▸ Q0c _ rfl))
 have I3:=I2.block (cl:=cl) (t':=s2.toks+([]:List (Str × Value)).length) S f2 hfl hsub hget hC (Q02 _) hDC hns₁ old hacc
 have st3:tn 0 h₁:=T.keep _ _ _ st2 λb _ o e=>old b o e
 have zG:∀b∈fp,H2 b=none:=λb hb=>(f2 b hb).1
 have stat:∀{H':Hp} {us:List Value} {n:Nat},(∀b∈fp,H' b=none)->∀b∈fp,fU (fG X own scope cl G.objs.size fp s2 H2) [(s2.heap.objs.size,iD us n)] H' b:=λ{H' us n} hn b hb=>by
  refine⟨hn b hb,Q08 (Q0a (hfl b hb) hC),λz=>?_,.inl hb,λx c e=>(f2 b hb).2.2.2.2.1 x c (hsub x c e),λp hp=>?_⟩
  . rcases List.mem_cons.mp (I2.sV b z) with q|q
    . exact(f2 b hb).2.1 q
    . exact(f2 b hb).2.2.1 q
  . have hp:p∈([]++[(s2.heap.objs.size,iD us n)]:List (Addr × Obj)):=hp
    have e:p=(s2.heap.objs.size,iD us n):=by simpa using hp
    subst e
    exact Q0m (hfl b hb)
 have loop:∀s₃:Shared,s₃={ s2 with heap:=h₁,toks:=s2.toks+([]:List (Str × Value)).length }->
  codeAny (model X.prog X.w) X.A (.compLoop (.ListComp elt [⟨tg,iter,ifs,0⟩] scope pos) 0 (.ref it) (.ref s2.heap.objs.size) (compEnvC scope cl G.objs.size X.env))
   (RR (.ref s2.heap.objs.size) G.objs.size) s₃:=by
  rintro s₃ rfl
  refine aeM (λn s'=>∃i ys us k H',Inv (fG X own scope cl G.objs.size fp s2 H2) [(s2.heap.objs.size,iD us k)] (List.replicate own.length none++σ) H' s'/\Vals ys us/\ys.length<=sizeLine/\tn i s'.heap/\(∀b∈fp,H' b=none)/\W i n ys H')
   ?_ m0 ⟨0,[],[],0,H2,I3,.nil,Q0b _,st3,zG,w0⟩
  rintro n s4 ⟨i,ys,us,k,H4,I4,r4,z4,Wz,WD,w4⟩
  rcases turn i n ys H4 w4 with⟨stop,qn⟩|⟨go,hlt,step⟩
  . refine aP (T.done (fG X own scope cl G.objs.size fp s2 H2) rfl rfl rfl hc i _ s4 _ H4 (λ_ _=>False) I4 (stat WD) Wz stop) λr s5 ⟨hr,I5⟩=>?_
    subst hr
    exact hRR G.objs.size s2.heap.objs.size s5 H4 ys us k hC (Q02 _) hDC I5 r4 z4 qn
  . refine aP (T.item (fG X own scope cl G.objs.size fp s2 H2) rfl rfl rfl hc i _ s4 _ H4 (λ_ _=>False) I4 (stat WD) Wz go) λr s5 ⟨u,hr,h5⟩=>?_
    subst hr
    refine aP h5 λ_ s6 ⟨x,H6,I6,r6,y6,wA,fr6⟩=>?_
    have I6':=I6.pinned (stat fr6) (T.obj _ _ wA)
    refine aP (hg cl G.objs.size fp s2 H2 _ s6 _ H6 x u _ I6' r6 (step x H6 y6)) λ_ s7 ⟨σ7,H7,I7,d7,q7⟩=>?_
    refine aP (ht cl G.objs.size fp s2 H2 _ s7 σ7 H7 _ I7 q7) λb s8 ⟨H8,I8,q8⟩=>?_
    have hlen:(List.replicate own.length none++σ).length=σ7.length:=by rw[I7.len,<-I6.len]
    have back:∀(j:Nat) v,(List.replicate own.length none++σ)[j]? =some (some v)->σ7[j]? =some (some v):=λj v e=>by
     obtain⟨hk,e'⟩:=Ww e
     rw[<-d7,Q2m] at e'
     rw[<-e']
     congr 1
     omega
    cases b with
    |false=>
     have q8:∃m',m'<n/\W (i+1) m' ys H8:=q8
     obtain⟨m',hm,w8⟩:=q8
     refine⟨m',hm,i+1,ys,us,k,H8,I8.pA.weak hlen back,r4,z4,T.keep _ _ _ wA λb hb o e=>?_,λb hb=>?_,w8⟩
     . exact(I8.pin (b,o) (Q0d _ (Q0d _ (vU hb e)))).1
     . obtain⟨o,e,d⟩:=T.obj _ _ wA b hb
       exact(I8.pin (b,o) (Q0d _ (Q0d _ (vU hb e)))).2.1
    |true=>
     have q8:te σ7 H8 λy H9=>∃m',m'<n/\W (i+1) m' (ys++[y]) H9:=q8
     show wpAny _ _ _ _ _ _
     refine aP (he cl G.objs.size fp s2 H2 _ s8 σ7 H8 _ I8 q8) λyv s9 ⟨y,H9,I9,r9,m',hm,w9⟩=>?_
     obtain⟨eD,nD,ne1,ne2,_⟩:=I9.pin (s2.heap.objs.size,iD us k) (Q0d _ (Q1n _ Q0f))
     have hl:=r4.length
     refine append_at (hsz:=by rw[Q07,<-hl];exact z4) eD λh10 WK aeS=>?_
     have hpin:∀b∈fp,∀o,s6.heap.get? b=some o->s9.heap.get? b=some o/\H9 b=none:=λb hb o e=>by
      have q:=I9.pin (b,o) (Q0d _ (Q0d _ (vU hb e)))
      exact⟨q.1,q.2.1⟩
     have neD:∀b∈fp,b≠s2.heap.objs.size:=λb hb=>Q08 (hfl b hb)
     have I9':Inv (fG X own scope cl G.objs.size fp s2 H2) [] σ7 H9 s9:=I9.qz λp hp=>(nomatch hp)
     have I10:Inv (fG X own scope cl G.objs.size fp s2 H2) [] σ7 H9 { s9 with heap:=h10 }:=
      I9'.turned (t':=s9.toks) (λb o hb e=>WK.extBut b o hb e) nD ne1 (.inr (Q02 _)) (λx c e z=>by
       obtain⟨v,q⟩:=I2.cell x c (hsub x c e)
       exact absurd q.lt (by rw[z];exact Q0l _)) λp hp=>(nomatch hp)
     have I11:Inv (fG X own scope cl G.objs.size fp s2 H2) [(s2.heap.objs.size,iD (us++[yv]) (k+1))] σ7 H9 { s9 with heap:=h10 }:=I10.qz λp hp=>by
      have e:p=(s2.heap.objs.size,iD (us++[yv]) (k+1)):=by simpa using hp
      subst e
      refine⟨?_,nD,ne1,ne2,λv z=>by
       have z:Data.seq (us++[yv]).toArray (k+1)=Data.cell v:=z
       cases z⟩
      show h10.get? _=some { cls:=.type "list",data:=.seq (us++[yv]).toArray (k+1) }
      rw[<-List.push_toArray]
      exact aeS
     refine⟨m',hm,i+1,ys++[y],us++[yv],k+1,H9,I11.weak hlen back,r4.append (.cons r9 .nil),by rw[Q09,Q24];exact hlt,T.keep _ _ _ wA λb hb o e=>WK.extBut b o (neD b hb) (hpin b hb o e).1,λb hb=>?_,w9⟩
     obtain⟨o,e,d⟩:=T.obj _ _ wA b hb
     exact(hpin b hb o e).2
 exact codeAny_compStart_list (loop _ rfl) (T.self _ 0 _ _ _ st3 (loop _ rfl))
theorem jc {tg iter elt:Expr}{ifs:List Expr}{pos:Pos}{wi:TI}{g:TG}{tt:TT}{te:TE}(hc:X.calm=true)(S:dw X own scope)(hi:PI X tg iter wi)
 (hg:∀cl C fp s₂ H₂,PG (fG X own scope cl C fp s₂ H₂) tg g) (ht:∀cl C fp s₂ H₂,wu (fG X own scope cl C fp s₂ H₂) ifs tt)
 (he:∀cl C fp s₂ H₂,PE (fG X own scope cl C fp s₂ H₂) elt te) (hs:∀x,foldedSetIterable iter X.env x=pure x:=by intro _;rfl):
 PE X (.ListComp elt [⟨tg,iter,ifs,0⟩] scope pos) (zU own.length wi g tt te):=by
 intro pins s σ H Q I h
 obtain⟨cl,hclos,hsub,hget⟩:=Gg (S.cells I)
 rw[eval_ListComp]
 refine wpAny_comprehension_free (use:=none) rfl hs hclos S.kind S.names ?_
 refine aP (hi pins s σ H _ I h) λv s1 h1=>aP h1 λitv s2 h2=>?_
 obtain⟨it,fp,tn,J,H2,Gi,I2,T,st2,f2,W,⟨m0,w0⟩,turn⟩:=h2
 subst Gi
 refine Wx (RR:=λacc C=>compPost (model X.prog X.w) X.A X.xe none (EP X pins σ Q) acc C) hc S hsub hget I2 T st2 f2 w0 turn hg ht he ?_
 intro C D s5 H5 ys us k hC hD hDC I5 r5 z5 fin
 obtain⟨m5,n5,_⟩:=id I5.loc
 refine⟨m5,n5,λh' hs'=>?_⟩
 obtain⟨I6,nD⟩:=I2.unblock f2 I5 Q0f hC hD hDC r5 z5 hs'
 exact⟨.ref D,_,I6,rfl,fin _ nD⟩
theorem zV {i:Nat}{y:Str}{py spos:Pos}{tg iter elt:Expr}{ifs:List Expr}{pos:Pos}{wi:TI}{g:TG}{tt:TT}{te:TE}(hN:X.N.Nodup)(hy:X.N[i]? =some y)(hL:Loc X.env.scope y)(hc:X.calm=true)(S:dw X own scope)(hi:PI X tg iter wi)
 (hg:∀cl C fp s₂ H₂,PG (fG X own scope cl C fp s₂ H₂) tg g) (ht:∀cl C fp s₂ H₂,wu (fG X own scope cl C fp s₂ H₂) ifs tt)
 (he:∀cl C fp s₂ H₂,PE (fG X own scope cl C fp s₂ H₂) elt te) (hf:X.fn y=true\/X.env.scope.names.lookup y=some .local:=by first|exact .inl rfl|exact .inr rfl|assumption)
 (hsw:swapsWith (.ListComp elt [⟨tg,iter,ifs,0⟩] scope pos) (some (.Name y py)) spos.line X.env=pure true:=by rfl) (hs:∀x,foldedSetIterable iter X.env x=pure x:=by intro _;rfl):
 PS X (.Assign [.Name y py] (.ListComp elt [⟨tg,iter,ifs,0⟩] scope pos) spos) (mV (zU own.length wi g tt te) (cL i)):=by
 intro pins s σ H E I h
 obtain⟨cl,hclos,hsub,hget⟩:=Gg (S.cells I)
 rw[exec_Assign_Name_used _ _ _ _ hsw]
 refine Q00 (wpAny_standAt (Q00 ?_))
 show wpAny _ _ (do let _ <-comprehension _ scope X.env _ (newList []) false (eval iter X.env) (some (assign (.Name y py) X.env))) _ _ s
 refine Q00 (aP (wpAny_comprehension_free (use:=some (assign (.Name y py) X.env)) (Q:=λ_ s'=>SP X pins E .next s') rfl hs hclos S.kind S.names
  (aP (hi pins s σ H _ I h) λv s1 h1=>aP h1 λitv s2 h2=>?_)) λ_ s' hq=>Q03 (Q03 hq))
 obtain⟨it,fp,tn,J,H2,Gi,I2,T,st2,f2,W,⟨m0,w0⟩,turn⟩:=h2
 subst Gi
 refine Wx (RR:=λacc C=>compPost (model X.prog X.w) X.A X.xe (some (assign (.Name y py) X.env)) (λ_ s'=>SP X pins E .next s') acc C) hc S hsub hget I2 T st2 f2 w0 turn hg ht he ?_
 intro C D s5 H5 ys us k hC hD hDC I5 r5 z5 fin
 obtain⟨m5,n5,_⟩:=id I5.loc
 obtain⟨I6,nD⟩:=I2.unblock f2 I5 Q0f hC hD hDC r5 z5 (Heap.SameBut.refl C s5.heap)
 obtain⟨oC,es,ep,eC,dC,rC⟩:=id n5
 have nC:upd H5 D (.lst ys) C=none:=by rw[au (Ne.symm hDC)];exact I5.free
 have cl2:C≠X.env.locals:=Q0m (Q0a I2.lt hC)
 have aeX:∀x c,X.env.cells.lookup x=some c->c≠C:=λx c e z=>by
  obtain⟨v,q⟩:=I2.cell x c e
  exact absurd q.lt (by rw[z];exact Nat.not_lt.mpr hC)
 have aeY:∀p∈X.pn++pins,p.1≠C:=λp hp z=>by
  have:=Q01 (I2.pin p hp).1
  rw[z] at this
  exact absurd this (Nat.not_lt.mpr hC)
 have I7:Inv X (pins++[(C,oC)]) σ (upd H5 D (.lst ys)) s5:=by
  refine I6.qz λp hp=>?_
  rcases List.mem_append.mp hp with z|z
  . exact I6.pin p (Q0d _ z)
  . have e:p=(C,oC):=by simpa using z
    subst e
    exact⟨eC,nC,cl2,I2.sU hC,λv z=>by
     have z:oC.data=Data.cell v:=z
     rw[dC] at z;cases z⟩
 show wpAny _ _ (assign (.Name y py) X.env (.ref D)) _ _ s5
 refine wpAny_assign_Name (sW (v:=.ref D) I7 hN hy hL rfl (λs8 I8=>?_) hf)
 obtain⟨eC8,nC8,_⟩:=I8.pin (C,oC) (Q0d _ (Q0d _ Q0f))
 refine⟨_,⟨oC,es,ep,eC8,dC,rC⟩,λh' hs'=>?_⟩
 have I9:Inv X pins (σ.set i (some (.ref D))) (upd H5 D (.lst ys)) { s8 with heap:=h' }:=
  I8.pA.turned (t':=s8.toks) (λb o hb e=>(hs'.2 b hb).trans e) nC cl2 (.inr (Q0e I2.sz hC)) aeX aeY
 exact⟨_,_,I9,fin _ nD⟩
end
section
variable {X:Cx}
theorem zW {e:Expr}:PT X e (λ_ _ _=>False):=λ_ _ _ _ _ _ h=>h.elim
theorem bO:iY X (.builtin "isinstance") (λxs H Q=>∃x T t b,xs=[x,.ty T]/\jw X.K H x t/\W.kitOne X.K t (.type T)=some b/\Q (.bl b) H):=by
 intro pins s σ H xs us Q I r h
 obtain⟨x,T,t,b,rfl,ty,e,q⟩:=h
 obtain⟨u,c,rfl,ru,rc⟩:=vals2 r
 cases rc
 exact adL I ru ty e λtk=>⟨.bl b,H,I.tok tk,rfl,q⟩
theorem WL:∀{ss:List Str}{vs:List Value},Vals (ss.map V.str) vs->StrsAre vs ss
 |[],_,r=>by cases r;exact .nil
 |y::r,_,h=>by
  cases h with
  |cons a b=>
   obtain⟨t,e⟩:=a
   subst e
   exact .cons y t (WL b)
theorem WM:∀{vs:List Value}{ss:List Str},StrsAre vs ss->Vals (ss.map V.str) vs
 |_,_,.nil=>.nil
 |_,_,.cons y t h=>.cons ⟨t,rfl⟩ (WM h)
theorem WQ:iY X (.builtin "sorted") (λxs H Q=>∃a ss,xs=[.ref a]/\aG X.K H a (ss.map V.str)/\ss.length<64/\
 ∀p ss',H p=none->ss'.Perm ss->sortedS ss'=true->Q (.ref p) (upd H p (.lst (ss'.map V.str)))):=by
 intro pins s σ H xs us Q I r h
 obtain⟨a,ss,rfl,hq,h64,q⟩:=h
 obtain⟨u,rfl,ru⟩:=vals1 r
 cases ru
 obtain⟨its,rv,pl,hz⟩:=I.list hq
 have hl:its.length=ss.length:=by rw[<-rv.length,Q06]
 refine sorted_strs pl.isList (WL rv) (by omega) λout ss' h1 h2 h3=>?_
 obtain⟨e,he⟩:=sortedAll_at s.heap its out
 refine⟨.ref (s.heap.objs.size+1),upd H (s.heap.objs.size+1) (.lst (ss'.map V.str)),I.laid (t':=s.toks) (λ_ _=>sortedAll_old) (Q10 _) ?_,rfl,q _ ss' (I.hok.fresh (Q10 _)) h2 h3⟩
 refine⟨?_,out.toList,e,WM h1,he⟩
 rw[Q06,h2.length_eq]
 have:ss.length<=1000:=by omega
 exact Q0s (cW this)
noncomputable def qO (its:List Value) (i:Nat):Bool:=match its[i]? with
 |some (.bool b)=>b
 |_=>false
theorem ae0:∀{bs:List Bool}{its:List Value},Vals (bs.map V.bl) its->(List.range its.length).all (qO its)=bs.all id:=by
 intro bs its r
 have key:∀i,i<bs.length->qO its i=bs.getD i false:=λi hi=>by
  have e:(bs.map V.bl)[i]? =some (.bl bs[i]):=by rw[Q0g,Q05 hi];rfl
  obtain⟨u,hu,ru⟩:=r.get e
  cases ru
  unfold qO
  rw[hu,Q0n,Q05 hi]
  rfl
 have hl:its.length=bs.length:=by rw[<-r.length,Q06]
 rw[hl,Bool.eq_iff_iff,Q1i,Q1i]
 constructor
 . intro h b hb
   obtain⟨i,hi,e⟩:=Q19 hb
   have q:=h i (List.mem_range.mpr hi)
   rw[key i hi,Q0n,Q05 hi,Q2n,e] at q
   exact q
 . intro h i hi
   have hi':=List.mem_range.mp hi
   rw[key i hi',Q0n,Q05 hi',Q2n]
   exact h _ (Q0r hi')
theorem wB (hc:X.calm=true):iY X (.builtin "all") (λxs H Q=>∃(a:Addr) (bs:List Bool),xs=[.ref a]/\aG X.K H a (bs.map V.bl)/\Q (.bl (bs.all id)) H):=by
 intro pins s σ H xs us Q I r h
 obtain⟨a,bs,rfl,hq,q⟩:=h
 obtain⟨u,rfl,ru⟩:=vals1 r
 cases ru
 obtain⟨its,rv,pl,hz⟩:=I.list hq
 have hlt:a<s.heap.objs.size:=by obtain⟨_,e,_⟩:=pl.isList;exact Q01 e
 refine call_all_walk (wpAny_pyIter_list pl.isList ?_)
 refine⟨s.heap.objs.size,_,_,_,_,_,qO its,rfl,Walks.list (show X.A.in1.handled=none from I.ok.hd hc) s.heap.objs.size a (Q08 hlt) its.toArray,⟨⟨_,Q0c _ rfl,rfl,rfl⟩,pl.isList.push _⟩,λi v s' Q' E' hP hQ=>?_,λh' tk hk=>?_⟩
 . have e:its[i]? =some v:=by simpa using hP
   have hi:i<its.length:=(List.getElem?_eq_some_iff.mp e).1
   have hb:i<(bs.map V.bl).length:=by rw[rv.length];exact hi
   obtain⟨w',ew,jP⟩:=rv.get (Q05 hb)
   rw[e] at ew;cases ew
   rw[Q1j] at jP
   cases jP
   refine wpAny_truthy_bool ?_
   have eb:qO its i=bs[i]'(by simpa using hb):=by unfold qO;rw[e]
   rw[eb] at hQ
   exact hQ
 . have e:(List.range its.toArray.size).all (qO its)=bs.all id:=by rw[Q07];exact ae0 rv
   rw[e]
   have ns:H s.heap.objs.size=none:=I.hok.fresh (Q02 _)
   refine⟨.bl (bs.all id),H,I.kept (h':=h') (t':=tk) λb o eb=>hk b o ?_ (Q04 _ eb),rfl,q⟩
   intro hm
   have:b=s.heap.objs.size:=by simpa using hm
   exact absurd (Q01 eb) (by rw[this];exact Q0l _)
noncomputable def Ite (K:W.Frag) (a:Addr):It:=
 ⟨λi H=>∃xs x,aG K H a xs/\xs[i]? =some x,
  λi H x H'=>∃p y,H p=none/\x=.ref p/\(∀xs,aG K H a xs->xs[i]? =some y)/\H'=upd H p (.tup [.int i,y]),
  λi H=>∃xs,aG K H a xs/\xs.length<=i⟩
theorem ae1 {P:Program}{w:World}{K:W.Frag}{elts:List Expr}{k:Nat}{tpos:Pos}{a e it:Addr}(hne:e≠it):
 Turn P w K (.Tuple elts k tpos) (Ite K a) [e,it] e (λi h=>∃old,IsEnum h e it (i:Int) old/\h.IsListIter it a i) where
 mem:=by simp
 obj:=λi h st b hb=>by
  obtain⟨old,h1,h2⟩:=st
  have hb:b=e\/b=it:=by simpa using hb
  rcases hb with rfl|rfl
  . exact⟨_,h1,λv z=>by
     have z:Data.fields _=Data.cell v:=z
     cases z⟩
  . obtain⟨o,q,c,d⟩:=h2
    exact⟨o,q,λv z=>by rw[d] at z;cases z⟩
 keep:=λi h h' st k=>by
  obtain⟨old,h1,h2⟩:=st
  exact⟨old,k e (by simp) _ h1,h2.at λo q=>k it (by simp) o q⟩
 item:=by
  intro X hP hw hK hc i pins s σ H E I hf st hg
  subst hP hw hK
  obtain⟨old,h1,h2⟩:=st
  obtain⟨xs,x,hq,hx⟩:=hg
  obtain⟨its,rv,p,hz⟩:=I.list hq
  obtain⟨u,hu,ru⟩:=rv.get hx
  obtain⟨e0,e1,e2,e3,e4,e5⟩:=hf e (by simp)
  obtain⟨f0,f1,f2,f3,f4,f5⟩:=hf it (by simp)
  have fr:H s.heap.objs.size=none:=I.hok.fresh (Q02 _)
  refine wpAny_pyNext_enum_item h1 h2 p.isList (x:=u) (by simpa using hu) hne λh' q1 q2 q3 q4 q5=>?_
  refine⟨_,rfl,wpAny_letOwnedTupleGo_enum (s:={ s with heap:=h',toks:=s.toks+1 }) q1 λh'' g1 g2=>?_⟩
  have ne1:∀b o,s.heap.get? b=some o->b≠s.heap.objs.size:=λb o q=>Q08 (Q01 q)
  have kk:∀b o,b≠e->b≠it->s.heap.get? b=some o->h''.get? b=some o:=λb o n1 n2 q=>g2.extBut b o n1 (q5 b o n1 n2 q)
  have pe:s.heap.objs.size≠e:=Q0m (Q01 h1)
  have tup:h''.get? s.heap.objs.size=some { cls:=.type "tuple",data:=.seq #[.int i s.toks,u] }:=g2.extBut _ _ pe q3
  have I1:Inv X pins σ (upd H s.heap.objs.size (.tup [.int i,x])) { s with heap:=h'',toks:=s.toks+1 }:=by
   refine I.step (g':=s.gens) (d':=s.drawn) (ch:=[e,it]) (λb hb=>?_) (λb o _ _ hc q _=>?_) (λb o _ _ hc q _=>?_) (λb o _ q n=>?_) (λb o hc q=>?_) (λb ys q=>?_) (λb o v q=>?_) (λb ps q=>?_) (λm hm=>?_) (λb o q=>?_) I.bare
   . have hb:b=e\/b=it:=by simpa using hb
     rcases hb with rfl|rfl
     . exact⟨e3,e1,e4,e5⟩
     . exact⟨f3,f1,f4,f5⟩
   . exact kk b o (λz=>hc (by simp[z])) (λz=>hc (by simp[z])) q
   . exact⟨o.slots,kk b o (λz=>hc (by simp[z])) (λz=>hc (by simp[z])) q⟩
   . rw[au (ne1 b o q)];exact n
   . exact⟨o,kk b o (λz=>hc (by simp[z])) (λz=>hc (by simp[z])) q⟩
   . rw[au (aO q fr)];exact q
   . rw[au (aO q fr)];exact q
   . exact⟨#[],by rw[au (aO q fr),q];simp⟩
   . obtain⟨o,es,ep,ho,r⟩:=hm
     exact⟨o,es,ep,kk _ o (Ne.symm e1) (Ne.symm f1) ho,r⟩
   . by_cases hb:b=s.heap.objs.size
     . subst hb
       rw[aF] at q;cases q
       refine⟨cX,[.int i s.toks,u],.cons ⟨_,rfl⟩ (.cons ru .nil),?_⟩
       exact⟨_,tup,rfl,_,rfl⟩
     . rw[au hb] at q
       refine(I.hok b o q).stay (λc v hc' z=>kk c v ?_ ?_ z) (λc z=>by rw[au (aO z fr)];exact z) λc ys z=>by rw[au (aO z fr)];exact z
       . rcases hc' with z|z
         . rw[z];exact aO q e0
         . exact aO z e0
       . rcases hc' with z|z
         . rw[z];exact aO q f0
         . exact aO z f0
  refine⟨.ref s.heap.objs.size,_,I1,rfl,⟨s.heap.objs.size,x,fr,rfl,λys hy=>by rw[I.vN hy hq];exact hx,rfl⟩,⟨u,?_,q2.extBut g2.extBut (Ne.symm hne)⟩,λb hb=>?_⟩
  . have ei:((i+1:Nat):Int)=(i:Int)+1:=by omega
    show IsEnum h'' e it ((i+1:Nat):Int) u
    rw[ei];exact g1
  . have hb':b=e\/b=it:=by simpa using hb
    have hlt:b<s.heap.objs.size:=by
     rcases hb' with rfl|rfl
     . exact Q01 h1
     . obtain⟨o,q,_⟩:=h2;exact Q01 q
    rw[au (Q08 hlt)]
    exact(hf b hb).1
 done:=by
  intro X hP hw hK hc i pins s σ H E I hf st hg
  subst hP hw hK
  obtain⟨old,h1,h2⟩:=st
  obtain⟨xs,hq,hx⟩:=hg
  obtain⟨its,rv,p,hz⟩:=I.list hq
  obtain⟨f0,f1,f2,f3,f4,f5⟩:=hf it (by simp)
  have hl:=rv.length
  exact wpAny_pyNext_enum_end (I.ok.hd hc) h1 h2 p.isList (by simp;omega) λh' eb=>⟨rfl,I.turned (t':=s.toks) (λb o hb q=>eb b o hb q) f0 f1 f3 f4 f5⟩
 self:=λA i s Q E st q=>by
  obtain⟨old,h1,_⟩:=st
  exact wpAny_pyIter_enum h1 q
noncomputable def ae2 (K:W.Frag) (ta:TA):TI:=λσ H R=>ta σ H λvs H1=>∃a,vs=[.ref a]/\(∃xs,aG K H1 a xs)/\R (Ite K a) H1
theorem ae3:bootBuiltins "enumerate"=some (.type "enumerate"):=by decide +kernel
theorem Gj {a:Expr}{ta:TA}{p pos tpos:Pos}{elts:List Expr}{k:Nat}(hg:Gl X "enumerate")(hm:X.mg "enumerate"=none)(ha:PA X [a] ta)(hs:starEach [a] X.env=[(false,eval a X.env)]:=by rfl):
 PI X (.Tuple elts k tpos) (.Call (.Name "enumerate" p) [a] [] pos) (ae2 X.K ta):=by
 intro pins s σ H R I h
 refine Call_ (jM I hg hm ae3 (PyProof.Rows.callWith_type1 (aP (ha pos pins s σ H _ I h) λus s1 ⟨vs,H1,I1,r1,q1⟩=>?_) hs rfl))
 obtain⟨l,e,⟨xs,hq⟩,q⟩:=q1
 subst e
 obtain⟨u,rfl,ru⟩:=vals1 r1
 cases ru
 obtain⟨its,rv,pl,hz⟩:=I1.list hq
 refine call_enumerate_list pl.isList λh' q1 q2 q3 q4=>?_
 refine wpAny_pyIter_enum q1 ?_
 have I2:Inv X pins σ H1 { s1 with heap:=h' }:=I1.kept (t':=s1.toks) q4
 refine⟨s1.heap.objs.size+1,[s1.heap.objs.size+1,s1.heap.objs.size],_,_,H1,rfl,I2,ae1 (Q0m (Q1c _)),⟨.none,q1,q2⟩,λb hb=>?_,q⟩
 have hb:s1.heap.objs.size<=b:=by
  have hb:b=s1.heap.objs.size+1\/b=s1.heap.objs.size:=by simpa using hb
  rcases hb with z|z
  . rw[z];exact Q10 _
  . rw[z];exact Q02 _
 exact I1.k_ hb (I1.hok.fresh hb)
theorem boot_zip:bootBuiltins "zip"=some (.type "zip"):=by decide +kernel
theorem ae4:dJ X (binaryOp .Mult) (λx y H Q=>∃z i,x=.str z/\y=.int i/\MulOk z i/\Q (.str (Txt.mul z i)) H):=by
 intro pins s σ H x y v u Q I rx ry h
 obtain⟨z,i,rfl,rfl,ok,q⟩:=h
 obtain⟨t,rfl⟩:=rx
 obtain⟨t',rfl⟩:=ry
 exact SB.mul ok λt2 k=>⟨.str (Txt.mul z i),H,I.tok k,⟨_,rfl⟩,q⟩
end
theorem yes {σ:St}{H:Hp}{Q:Bool->Hp->Prop}(h:Q true H):gn σ H Q:=h
section
variable {K:W.Frag}{σ:St}{H:Hp}{Q:VK}{D:Ends}
theorem jQ {i:Nat}{a b:Str}{T U:TS}(h:σ[i]? =some (some (.str a)))(hy:decide (V.str a=V.str b)=true)(q:T D σ H):vO (lX (bJ tD (bB i) (tC (.str b)))) T U D σ H:=
 ⟨_,h,rfl,_,rfl,by rw[hy];exact bR q⟩
theorem gq {i:Nat}{a b:Str}{T U:TS}(h:σ[i]? =some (some (.str a)))(hy:decide (V.str a=V.str b)=false)(q:U D σ H):vO (lX (bJ tD (bB i) (tC (.str b)))) T U D σ H:=
 ⟨_,h,rfl,_,rfl,by rw[hy];exact bD q⟩
theorem Gk {i:Nat}{p:Addr}{xs:List V}{a b:Str}{T U:TS}(h:σ[i]? =some (some (.ref p)))(h2:H p=some (.tup xs))(h3:xs[0]? =some (.str a))(hy:decide (V.str a=V.str b)=true)(q:T D σ H):
 vO (lX (bJ tD (bJ (m9 K) (bB i) (tC (.int 0))) (tC (.str b)))) T U D σ H:=
 ⟨_,h,p,xs,0,.str a,rfl,rfl,aD.of h2,jO (j:=0) h3,rfl,_,rfl,by rw[hy];exact bR q⟩
theorem Gm {i:Nat}{p:Addr}{xs:List V}{a b:Str}{T U:TS}(h:σ[i]? =some (some (.ref p)))(h2:H p=some (.tup xs))(h3:xs[0]? =some (.str a))(hy:decide (V.str a=V.str b)=false)(q:U D σ H):
 vO (lX (bJ tD (bJ (m9 K) (bB i) (tC (.int 0))) (tC (.str b)))) T U D σ H:=
 ⟨_,h,p,xs,0,.str a,rfl,rfl,aD.of h2,jO (j:=0) h3,rfl,_,rfl,by rw[hy];exact bD q⟩
end
end L2
namespace L2
open PySem
noncomputable def WR (own N:List Str) (scope sc:Scope):Bool:=
 scope.names.all (λy=>decide (y.2≠ .cell)) && scope.names.all (λy=>decide (y.2=.local->scope.names.lookup y.1=some .local)) &&
 scope.names.all (λy=>decide (y.2=.free->sc.names.lookup y.1=some .cell\/sc.names.lookup y.1=some .free)) && decide (own++N).Nodup && N.all λx=>decide (scope.names.lookup x≠some .local)
theorem dw.of {X:Cx}{own N:List Str}{scope sc:Scope}(hsc:X.env.scope=sc)(hN:X.N=N)(k:scope.kind=.function)(c:WR own N scope sc=true):dw X own scope:=by
 unfold WR at c
 simp only[Bool.and_eq_true,Q1i,decide_eq_true_eq] at c
 obtain⟨⟨⟨⟨c1,c2⟩,c3⟩,c4⟩,c5⟩:=c
 exact⟨k,c1,c2,λy hy hf=>by rw[show X.env.kindOf y.1=X.env.scope.names.lookup y.1 from rfl,hsc];exact c3 y hy hf,by rw[hN];exact c4,by rw[hN];exact c5⟩
end L2
namespace nu
open PySem PySem.W PyProof.Rows
noncomputable def bI {α:Type}(f:Nat->Nat->Bool):KasT α->α
 | .ret a=>a
 | .ask i j k=>bI f (k (f i j))
theorem tM {α β:Type}(f:Nat->Nat->Bool)(g:α->KasT β):∀t:KasT α,bI f (t.bind g)=bI f (g (bI f t))
 | .ret _=>rfl
 | .ask i j k=>tM f g (k (f i j))
noncomputable def Bn {α:Type}(n:Nat) (R:α->Prop):KasT α->Prop
 | .ret a=>R a
 | .ask i j k=>i<n/\j<n/\∀b,Bn n R (k b)
theorem Bn.bind {α β:Type}{n:Nat}{R:α->Prop}{S:β->Prop}{g:α->KasT β}:∀{t:KasT α},Bn n R t->(∀a,R a->Bn n S (g a))->Bn n S (t.bind g)
 | .ret a,h,k=>k a h
 | .ask i j q,h,k=>⟨h.1,h.2.1,λb=>Bn.bind (h.2.2 b) k⟩
theorem WT {α:Type}{n:Nat}{R:α->Prop}{f:Nat->Nat->Bool}{cmp:Nat->Nat->(Bool->Shared->Prop)->Shared->Prop}{Q:α->Shared->Prop}{s:Shared}
 (h:∀i j (C:Bool->Shared->Prop),i<n->j<n->C (f i j) s->cmp i j C s):∀{t:KasT α},Bn n R t->Q (bI f t) s->t.kasWp cmp Q s
 | .ret a,_,q=>q
 | .ask i j k,b,q=>h i j _ b.1 b.2.1 (WT h (b.2.2 (f i j)) q)
noncomputable def Lt (n:Nat) (p:Array Nat):Prop:=0<n/\∀x∈p,x<n
theorem Lt.at {n:Nat}{p:Array Nat}(h:Lt n p)(i:Nat):p.getD i 0<n:=by
 rw[Q1k]
 cases e:p[i]? with
 |none=>exact h.1
 |some x=>exact h.2 x (Array.mem_of_getElem? e)
theorem Lt.perm {n:Nat}{p q:Array Nat}(h:Lt n p)(hp:q.Perm p):Lt n q:=⟨h.1,λx hx=>h.2 x (hp.mem_iff.mp hx)⟩
theorem nA (p:Array Nat)(i j:Nat):(kas_rev p i j).Perm p:=mirror_perm _ _ _ _
theorem ae5 (p:Array Nat)(i j:Nat):(kas_rev p i j).size=p.size:=mirror_size _ _ _ _
theorem Gn {n:Nat}{p:Array Nat}(h:Lt n p):∀f m,Bn n (λ_=>True) (kas_asc p f m)
 |0,_=>trivial
 |f+1,m=>⟨h.at _,h.at _,λb=>by
   cases b with
   |true=>exact trivial
   |false=>exact Gn h f (m+1)⟩
theorem zX {n:Nat}:∀f (p:Array Nat) m q,Lt n p->Bn n (λr:Array Nat × Nat × Nat=>Lt n r.1) (kas_desc f p m q)
 |0,_,_,_,h=>h
 |f+1,p,m,q,h=>⟨h.at _,h.at _,λb=>by
   cases b with
   |true=>
    show Bn n _ (if q > 0 then kas_desc f (kas_rev p (m - (q+1)) m) (m+1) 0 else kas_desc f p (m+1) 0)
    split
    . exact zX f _ _ _ (h.perm (nA _ _ _))
    . exact zX f _ _ _ h
   |false=>
    refine⟨h.at _,h.at _,λd=>?_⟩
    cases d with
    |true=>exact h
    |false=>exact zX f _ _ _ h⟩
theorem WW {n m r:Nat}{p:Array Nat}(h:Lt n p):Bn n (λq:Nat × Array Nat=>Lt n q.2) (kas_tail3 m r p):=
 (Gn (h.perm (nA _ _ _)) _ _).bind λ_ _=>h.perm (nA _ _ _)
theorem WX {n m r:Nat}{p:Array Nat}(h:Lt n p):Bn n (λq:Nat × Array Nat=>Lt n q.2) (kas_descPart m r p):=by
 refine(zX _ _ _ _ h).bind λa ha=>?_
 split
 . exact WW (ha.perm (nA _ _ _))
 . exact WW ha
theorem ae6 {n r:Nat}{p:Array Nat}(h:Lt n p):Bn n (λq:Nat × Array Nat=>Lt n q.2) (kas_count r p):=by
 refine(Gn h _ _).bind λa _=>?_
 split
 . exact h
 split
 . refine⟨h.at _,h.at _,λb=>?_⟩
   cases b with
   |true=>exact h
   |false=>exact WX (h.perm (nA _ _ _))
 . exact WX h
theorem Gp {n k:Nat}{p:Array Nat}(h:Lt n p):∀f l r,Bn n (λ_=>True) (kas_place p k f l r)
 |0,_,_=>trivial
 |f+1,l,r=>by
  unfold kas_place
  split
  . exact trivial
  . refine⟨h.at _,h.at _,λb=>?_⟩
    cases b with
    |true=>exact Gp h f _ _
    |false=>exact Gp h f _ _
theorem WY {n:Nat}:∀f (p:Array Nat) k,Lt n p->Bn n (λ_=>True) (kas_bin f p k)
 |0,_,_,_=>trivial
 |f+1,p,k,h=>(Gp h _ _ _).bind λl _=>WY f _ _ (h.perm (bubble_perm _ _ _))
theorem ae7 {n:Nat}(hn:0<n):Bn n (λ_=>True) (kas_sort n):=by
 have h:Lt n (List.toArray (List.range n)):=⟨hn,λx hx=>by simpa using hx⟩
 refine(ae6 h).bind λr hr=>?_
 split
 . exact WY _ _ _ hr
 . exact trivial
section
variable {O:KeyOrd}(key:Nat->O.α)
noncomputable def bT:Nat->Nat->Bool:=λi j=>O.blt (key i) (key j)
noncomputable def Kp (p:Array Nat) (i:Nat):O.α:=key (p.getD i 0)
noncomputable def jd (p:Array Nat) (k:Nat):Prop:=∀i j,i<=j->j<k->O.kle (Kp key p i) (Kp key p j)
noncomputable def jR (p:Array Nat) (k:Nat):Prop:=∀i j,i<=j->j<k->O.kle (Kp key p j) (Kp key p i)
variable {key}
theorem jd.succ {p:Array Nat}{n:Nat}(h:jd key p n)(h1:1<=n)(e:O.kle (Kp key p (n - 1)) (Kp key p n)):jd key p (n+1):=by
 intro i j hij hj
 by_cases hjn:j<n
 . exact h i j hij hjn
 . have:j=n:=by omega
   subst this
   by_cases hi:i=j
   . subst hi;exact KeyOrd.kle_refl _
   . exact KeyOrd.kle_trans (h i (j - 1) (by omega) (by omega)) e
theorem jR.succ {p:Array Nat}{n:Nat}(h:jR key p n)(h1:1<=n)(e:O.kle (Kp key p n) (Kp key p (n - 1))):jR key p (n+1):=by
 intro i j hij hj
 by_cases hjn:j<n
 . exact h i j hij hjn
 . have:j=n:=by omega
   subst this
   by_cases hi:i=j
   . subst hi;exact KeyOrd.kle_refl _
   . exact KeyOrd.kle_trans e (h i (j - 1) (by omega) (by omega))
theorem wC {p q:Array Nat}{i j:Nat}(h:p[i]? =q[j]?):Kp key p i=Kp key q j:=by
 unfold Kp
 rw[Q1k,Q1k,h]
theorem Gq {p:Array Nat}{i j:Nat}(hj:j<=p.size)(k:Nat):Kp key (kas_rev p i j) k=if i<=k/\k<j then Kp key p (i+j - 1 - k) else Kp key p k:=by
 have e:=getElem?_mirror_all (i:=i) hj k
 by_cases h1:i<=k/\k<j
 . rw[if_pos h1] at e ⊢;exact wC e
 . rw[if_neg h1] at e ⊢;exact wC e
theorem Gr {p:Array Nat}{i j:Nat}(hj:j<=p.size)(heq:∀k,i<=k->k<j->Kp key p k=Kp key p (j - 1))(k:Nat):Kp key (kas_rev p i j) k=Kp key p k:=by
 rw[Gq hj]
 split
 . rw[heq _ (by omega) (by omega),heq k (by omega) (by omega)]
 . rfl
theorem ae8 {p:Array Nat}{src d:Nat}(hs:src<p.size)(hd:d<=src)(k:Nat):
 Kp key (bubble p src d) k=if k=src - d then Kp key p src else if src - d<k/\k<=src then Kp key p (k - 1) else Kp key p k:=by
 have e:=getElem?_bubble hs d hd k
 by_cases h1:k=src - d
 . rw[if_pos h1] at e ⊢;exact wC e
 . rw[if_neg h1] at e ⊢
   by_cases h2:src - d<k/\k<=src
   . rw[if_pos h2] at e ⊢;exact wC e
   . rw[if_neg h2] at e ⊢;exact wC e
theorem jR.congr {p q:Array Nat}{n:Nat}(h:jR key p n)(e:∀k,Kp key q k=Kp key p k):jR key q n:=λi j a b=>by
 rw[e,e];exact h i j a b
theorem Gs {p:Array Nat}:∀f n,1<=n->jd key p n->n<=bI (bT key) (kas_asc p f n)/\bI (bT key) (kas_asc p f n)<=n+f/\jd key p (bI (bT key) (kas_asc p f n))/\
 (bI (bT key) (kas_asc p f n)<n+f->O.klt (Kp key p (bI (bT key) (kas_asc p f n))) (Kp key p (bI (bT key) (kas_asc p f n) - 1)))
 |0,n,_,h=>⟨Q02 _,Q02 _,h,λz=>absurd z (Q0l _)⟩
 |f+1,n,h1,h=>by
  have e:bI (bT key) (kas_asc p (f+1) n)=bI (bT key) (if O.blt (Kp key p n) (Kp key p (n - 1))=true then .ret n else kas_asc p f (n+1)):=rfl
  rw[e]
  cases c:O.blt (Kp key p n) (Kp key p (n - 1)) with
  |true=>
   rw[if_pos rfl]
   exact⟨Q02 _,Q12 _ _,h,λ_=>c⟩
  |false=>
   rw[if_neg (by simp)]
   obtain⟨a1,a2,a3,a4⟩:=Gs f (n+1) (by omega) (h.succ h1 c)
   exact⟨by omega,by omega,a3,λz=>a4 (by omega)⟩
structure DI (O:KeyOrd) (key:Nat->O.α) (p₀:Array Nat) (p:Array Nat) (n q:Nat):Prop where
 perm:p.Perm p₀
 non:jR key p n
 one:q+1<=n
 size:n<=p.size
 eq:∀k,n - (q+1)<=k->k<n->Kp key p k=Kp key p (n - 1)
theorem zY {p₀:Array Nat}:∀f (p:Array Nat) n q,DI O key p₀ p n q->n+f<=p₀.size->
 ∃p' n' q',bI (bT key) (kas_desc f p n q)=(p',n',q')/\DI O key p₀ p' n' q'/\n'<=n+f
 |0,p,n,q,d,_=>⟨p,n,q,rfl,d,Q02 _⟩
 |f+1,p,n,q,d,hs=>by
  have hsz:p.size=p₀.size:=d.perm.size_eq
  have e:bI (bT key) (kas_desc (f+1) p n q)=bI (bT key) (if O.blt (Kp key p n) (Kp key p (n - 1))=true then(if q > 0 then kas_desc f (kas_rev p (n - (q+1)) n) (n+1) 0 else kas_desc f p (n+1) 0)
   else .ask (p.getD (n - 1) 0) (p.getD n 0) λd=>if d=true then .ret (p,n,q) else kas_desc f p (n+1) (q+1)):=rfl
  rw[e]
  have one:=d.one
  cases c:O.blt (Kp key p n) (Kp key p (n - 1)) with
  |true=>
   rw[if_pos rfl]
   have cl:O.kle (Kp key p n) (Kp key p (n - 1)):=KeyOrd.kle_of_klt c
   by_cases hq:q > 0
   . rw[if_pos hq]
     have ek:∀k,Kp key (kas_rev p (n - (q+1)) n) k=Kp key p k:=Gr d.size d.eq
     have d':DI O key p₀ (kas_rev p (n - (q+1)) n) (n+1) 0:=⟨(nA _ _ _).trans d.perm,(d.non.succ (by omega) cl).congr ek,by omega,by rw[ae5];omega,λk h1 h2=>by
      have:k=n:=by omega
      subst this;rfl⟩
     obtain⟨p',n',q',r1,r2,r3⟩:=zY f _ _ _ d' (by omega)
     exact⟨p',n',q',r1,r2,by omega⟩
   . rw[if_neg hq]
     have d':DI O key p₀ p (n+1) 0:=⟨d.perm,d.non.succ (by omega) cl,by omega,by omega,λk h1 h2=>by
      have:k=n:=by omega
      subst this;rfl⟩
     obtain⟨p',n',q',r1,r2,r3⟩:=zY f _ _ _ d' (by omega)
     exact⟨p',n',q',r1,r2,by omega⟩
  |false=>
   rw[if_neg (by simp)]
   have e2:bI (bT key) (.ask (p.getD (n - 1) 0) (p.getD n 0) λd=>if d=true then .ret (p,n,q) else kas_desc f p (n+1) (q+1))=bI (bT key) (if O.blt (Kp key p (n - 1)) (Kp key p n)=true then .ret (p,n,q) else kas_desc f p (n+1) (q+1)):=rfl
   rw[e2]
   cases c2:O.blt (Kp key p (n - 1)) (Kp key p n) with
   |true=>
    rw[if_pos rfl]
    exact⟨p,n,q,rfl,d,by omega⟩
   |false=>
    rw[if_neg (by simp)]
    have ee:Kp key p n=Kp key p (n - 1):=O.total _ _ c c2
    have d':DI O key p₀ p (n+1) (q+1):=⟨d.perm,d.non.succ (by omega) (by rw[ee];exact KeyOrd.kle_refl _),by omega,by omega,λk h1 h2=>by
     show Kp key p k=Kp key p n
     by_cases hk:k=n
     . rw[hk]
     . rw[ee];exact d.eq k (by omega) (by omega)⟩
    obtain⟨p',n',q',r1,r2,r3⟩:=zY f _ _ _ d' (by omega)
    exact⟨p',n',q',r1,r2,by omega⟩
noncomputable def wD (O:KeyOrd) (key:Nat->O.α) (p₀:Array Nat) (nrem:Nat) (r:Nat × Array Nat):Prop:=r.2.Perm p₀/\1<=r.1/\r.1<=nrem/\jd key r.2 r.1
theorem W0 {p₀ p:Array Nat}{n nrem:Nat}(hp:p.Perm p₀)(h1:1<=n)(hn:n<=nrem)(hs:nrem<=p₀.size)(h:jR key p n):wD O key p₀ nrem (bI (bT key) (kas_tail3 n nrem p)):=by
 have hsz:p.size=p₀.size:=hp.size_eq
 unfold kas_tail3
 rw[tM]
 have hS:jd key (kas_rev p 0 n) n:=λi j hij hj=>by
  rw[Gq (by omega),Gq (by omega),if_pos (by omega),if_pos (by omega)]
  exact h _ _ (by omega) (by omega)
 obtain⟨a1,a2,a3,_⟩:=Gs (key:=key) (p:=kas_rev p 0 n) (nrem - n) n h1 hS
 exact⟨(nA _ _ _).trans hp,by show 1<=bI _ _;omega,by show bI _ _<=nrem;omega,a3⟩
theorem W2 {p₀ p:Array Nat}{n nrem:Nat}(hp:p.Perm p₀)(h1:1<=n)(hn:n+1<=nrem)(hs:nrem<=p₀.size)(h:jR key p (n+1)):wD O key p₀ nrem (bI (bT key) (kas_descPart n nrem p)):=by
 have hsz:p.size=p₀.size:=hp.size_eq
 unfold kas_descPart
 rw[tM]
 have d:DI O key p₀ p (n+1) 0:=⟨hp,h,by omega,by omega,λk h1 h2=>by
  have:k=n:=by omega
  subst this;rfl⟩
 obtain⟨p',n',q',r1,r2,r3⟩:=zY (key:=key) (nrem - (n+1)) p (n+1) 0 d (by omega)
 rw[r1]
 have o:=r2.one
 have sz:=r2.size
 have hsz':p'.size=p₀.size:=r2.perm.size_eq
 by_cases hq:q' > 0
 . show wD O key p₀ nrem (bI (bT key) (if q' > 0 then kas_tail3 n' nrem (kas_rev p' (n' - (q'+1)) n') else kas_tail3 n' nrem p'))
   rw[if_pos hq]
   exact W0 ((nA _ _ _).trans r2.perm) (by omega) (by omega) hs (r2.non.congr (Gr r2.size r2.eq))
 . show wD O key p₀ nrem (bI (bT key) (if q' > 0 then kas_tail3 n' nrem (kas_rev p' (n' - (q'+1)) n') else kas_tail3 n' nrem p'))
   rw[if_neg hq]
   exact W0 r2.perm (by omega) (by omega) hs r2.non
theorem ae9 {p:Array Nat}{nrem:Nat}(h1:1<=nrem)(hs:nrem<=p.size):wD O key p nrem (bI (bT key) (kas_count nrem p)):=by
 unfold kas_count
 rw[tM]
 obtain⟨a1,a2,a3,a4⟩:=Gs (key:=key) (p:=p) (nrem - 1) 1 (Q02 _) (λi j hij hj=>by
  have e1:i=0:=by omega
  have e2:j=0:=by omega
  subst e1;subst e2;exact KeyOrd.kle_refl _)
 generalize bI (bT key) (kas_asc p (nrem - 1) 1)=n at *
 by_cases hn:n=nrem
 . rw[if_pos (by simpa using hn)]
   exact⟨Array.Perm.refl _,a1,by show n<=nrem;omega,a3⟩
 . rw[if_neg (by simpa using hn)]
   have cl:O.klt (Kp key p n) (Kp key p (n - 1)):=a4 (by omega)
   by_cases hg:n > 1
   . rw[if_pos hg]
     have e:bI (bT key) (.ask (p.getD 0 0) (p.getD (n - 1) 0) λc=>if c=true then .ret (n,p) else kas_descPart n nrem (kas_rev p 0 n))=
      bI (bT key) (if O.blt (Kp key p 0) (Kp key p (n - 1))=true then .ret (n,p) else kas_descPart n nrem (kas_rev p 0 n)):=rfl
     rw[e]
     cases c:O.blt (Kp key p 0) (Kp key p (n - 1)) with
     |true=>
      rw[if_pos rfl]
      exact⟨Array.Perm.refl _,a1,by show n<=nrem;omega,a3⟩
     |false=>
      rw[if_neg (by simp)]
      have all:∀k,0<=k->k<n->Kp key p k=Kp key p (n - 1):=λk _ hk=>by
       have c':O.kle (Kp key p (n - 1)) (Kp key p 0):=c
       exact KeyOrd.kle_antisymm (a3 k (n - 1) (by omega) (by omega)) (KeyOrd.kle_trans c' (a3 0 k (by omega) hk))
      have ek:∀k,Kp key (kas_rev p 0 n) k=Kp key p k:=Gr (by omega) all
      refine W2 (nA _ _ _) a1 (by omega) hs (jR.congr (jR.succ (n:=n) (λi j hij hj=>?_) a1 (KeyOrd.kle_of_klt cl)) ek)
      rw[all i (by omega) (by omega),all j (by omega) (by omega)]
      exact KeyOrd.kle_refl _
   . rw[if_neg hg]
     have:n=1:=by omega
     subst this
     refine W2 (Array.Perm.refl _) a1 (by omega) hs (jR.succ (n:=1) (λi j hij hj=>?_) a1 (KeyOrd.kle_of_klt cl))
     have e1:i=0:=by omega
     have e2:j=0:=by omega
     subst e1;subst e2;exact KeyOrd.kle_refl _
theorem Gu {p:Array Nat}{k:Nat}(h:jd key p k):∀f l r,l<=r->r<=k->r - l<=f->(∀i,i<l->O.kle (Kp key p i) (Kp key p k))->(∀i,r<=i->i<k->O.klt (Kp key p k) (Kp key p i))->
 ∃m,bI (bT key) (kas_place p k f l r)=m/\m<=k/\(∀i,i<m->O.kle (Kp key p i) (Kp key p k))/\(∀i,m<=i->i<k->O.klt (Kp key p k) (Kp key p i))
 |0,l,r,h1,h2,h3,h4,h5=>⟨l,rfl,by omega,h4,λi a b=>h5 i (by omega) b⟩
 |f+1,l,r,h1,h2,h3,h4,h5=>by
  by_cases hg:l ≥ r
  . refine⟨l,?_,by omega,h4,λi a b=>h5 i (by omega) b⟩
    unfold kas_place
    rw[if_pos hg];rfl
  . have e:bI (bT key) (kas_place p k (f+1) l r)=bI (bT key) (if O.blt (Kp key p k) (Kp key p ((l+r) / 2))=true then kas_place p k f l ((l+r) / 2) else kas_place p k f ((l+r) / 2+1) r):=by
     show bI (bT key) (if l ≥ r then .ret l else _)=_
     rw[if_neg hg];rfl
    rw[e]
    cases c:O.blt (Kp key p k) (Kp key p ((l+r) / 2)) with
    |true=>
     rw[if_pos rfl]
     exact Gu h f _ _ (by omega) (by omega) (by omega) h4 λi a b=>KeyOrd.klt_of_klt_of_kle (show O.klt _ _ from c) (h _ _ a b)
    |false=>
     rw[if_neg (by simp)]
     exact Gu h f _ _ (by omega) h2 (by omega) (λi a=>KeyOrd.kle_trans (h i ((l+r) / 2) (by omega) (by omega)) (show O.kle _ _ from c)) h5
theorem W3:∀f (p:Array Nat) k,jd key p k->k+f<=p.size->(bI (bT key) (kas_bin f p k)).Perm p/\jd key (bI (bT key) (kas_bin f p k)) (k+f)
 |0,p,k,h,_=>⟨Array.Perm.refl _,h⟩
 |f+1,p,k,h,hs=>by
  have e:bI (bT key) (kas_bin (f+1) p k)=bI (bT key) (kas_bin f (bubble p k (k - bI (bT key) (kas_place p k k 0 k))) (k+1)):=by
   show bI (bT key) ((kas_place p k k 0 k).bind λl=>kas_bin f (bubble p k (k - l)) (k+1))=_
   rw[tM]
  rw[e]
  obtain⟨m,em,m1,m2,m3⟩:=Gu h k 0 k (Q0b _) (Q02 _) (Q02 _) (λi z=>absurd z (Nat.not_lt_zero _)) (λi a b=>absurd a (by omega))
  rw[em]
  have kb:=λi=>ae8 (key:=key) (p:=p) (src:=k) (d:=k - m) (by omega) (by omega) i
  have hm:k - (k - m)=m:=by omega
  rw[hm] at kb
  have hS:jd key (bubble p k (k - m)) (k+1):=by
   intro i j hij hj
   rw[kb i,kb j]
   by_cases ei:i=m
   . rw[if_pos ei]
     by_cases ej:j=m
     . rw[if_pos ej];exact KeyOrd.kle_refl _
     . rw[if_neg ej,if_pos (by omega)]
       exact KeyOrd.kle_of_klt (m3 _ (by omega) (by omega))
   . rw[if_neg ei]
     by_cases li:m<i/\i<=k
     . rw[if_pos li,if_neg (by omega),if_pos (by omega)]
       exact h _ _ (by omega) (by omega)
     . rw[if_neg li]
       by_cases ej:j=m
       . rw[if_pos ej];exact m2 i (by omega)
       . rw[if_neg ej]
         by_cases lj:m<j/\j<=k
         . rw[if_pos lj];exact h _ _ (by omega) (by omega)
         . rw[if_neg lj];exact h _ _ hij (by omega)
  obtain⟨b1,b2⟩:=W3 f (bubble p k (k - m)) (k+1) hS (by rw[bubble_size];omega)
  exact⟨b1.trans (bubble_perm _ _ _),by rw[show k+(f+1)=k+1+f by omega];exact b2⟩
theorem ae_ {n:Nat}(hn:1<=n):(bI (bT key) (kas_sort n)).toList.Perm (List.range n)/\((bI (bT key) (kas_sort n)).toList.map key).Pairwise O.kle:=by
 have hz:(List.toArray (List.range n)).size=n:=by simp
 obtain⟨c1,c2,c3,c4⟩:=ae9 (key:=key) (p:=List.toArray (List.range n)) (nrem:=n) hn (by omega)
 have main:(bI (bT key) (kas_sort n)).Perm (List.toArray (List.range n))/\jd key (bI (bT key) (kas_sort n)) n:=by
  unfold kas_sort
  rw[tM]
  generalize bI (bT key) (kas_count n (List.toArray (List.range n)))=r at *
  obtain⟨m,p⟩:=r
  have hsz:p.size=n:=by rw[c1.size_eq,hz]
  by_cases hm:m<n
  . show(bI (bT key) (if m<n then kas_bin (n - max m 1) p (max m 1) else .ret p)).Perm _/\jd key (bI (bT key) (if m<n then kas_bin (n - max m 1) p (max m 1) else .ret p)) n
    rw[if_pos hm]
    have c2:1<=m:=c2
    have em:max m 1=m:=by omega
    rw[em]
    obtain⟨b1,b2⟩:=W3 (key:=key) (n - m) p m c4 (by omega)
    exact⟨b1.trans c1,by rw[show n=m+(n - m) by omega];rw[show m+(n - m) - m=n - m by omega];exact b2⟩
  . show(bI (bT key) (if m<n then kas_bin (n - max m 1) p (max m 1) else .ret p)).Perm _/\jd key (bI (bT key) (if m<n then kas_bin (n - max m 1) p (max m 1) else .ret p)) n
    rw[if_neg hm]
    have c3:m<=n:=c3
    have:m=n:=by omega
    subst this
    exact⟨c1,c4⟩
 refine⟨Array.perm_iff_toList_perm.mp main.1,?_⟩
 have hsz:(bI (bT key) (kas_sort n)).size=n:=by rw[main.1.size_eq,hz]
 rw[Q1s,List.pairwise_iff_getElem]
 intro i j hi hj hij
 have hi':i<(bI (bT key) (kas_sort n)).size:=by simpa using hi
 have hj':j<(bI (bT key) (kas_sort n)).size:=by simpa using hj
 have q:=main.2 i j (Q0s hij) (by omega)
 unfold Kp at q
 rw[Q1k,Q1k,Q2o hi',Q2o hj'] at q
 simpa using q
end
end nu
namespace L2
open PySem PySem.Spec PyProof.Rows
noncomputable def zZ (c':Addr) (qual:Str):Heap->Prop:=λh=>h.CodeRec (.ref c') qual
noncomputable def qP (P:Addr) (pos:Pos) (qual:Str) (c':Addr) (H:Hp):Prop:=H P=some (.dF #[rawInt pos.line,rawInt pos.col,.ref c'])/\H c'=some (.ext (zZ c' qual))
noncomputable def bw (P:Addr) (pos:Pos) (qual:Str) (H:Hp):Prop:=H P=some (.dF #[])\/∃c',qP P pos qual c' H
theorem qP.mono {P:Addr}{pos:Pos}{qual:Str}{c':Addr}{H H':Hp}(h:qP P pos qual c' H)(k:∀b o,(b=P\/b=c')->H b=some o->H' b=some o):qP P pos qual c' H':=⟨k _ _ (.inl rfl) h.1,k _ _ (.inr rfl) h.2⟩
noncomputable def BM (mg:Str->Option Value) (base:Heap):Prop:=
 ∃bm o,mg "__builtins__"=some (.ref bm)/\bm≠builtinsNs/\bm≠mainGlobals/\base.get? bm=some o/\o.cls=.type "module"/\o.dict=some builtinsNs/\o.data=.plain
section
variable {X:Cx}{pins:List (Addr × Obj)}{σ:St}{H:Hp}{s:Shared}
theorem Inv.W4 (I:Inv X pins σ H s){P b:Addr}{o:HO}{u:Obj}(e:H P=some o)(hb:X.base.get? b=some u):b≠P:=λz=>by
 have:=(I.bs b u hb).2
 rw[z,e] at this;cases this
theorem Inv.W5 (I:Inv X pins σ H s)(B:BM X.mg X.base){P:Addr}{o:HO}(e:H P=some o):s.heap.BuiltinsAt X.mg P:=by
 obtain⟨bm,ob,b1,b2,b3,b4,b5⟩:=B
 exact⟨bm,ob,b1,b2,b3,I.W4 e b4,(I.bs bm ob b4).1,b5⟩
theorem Inv.adopt {b:Addr}{o:HO}{h':Heap}{t':Nat}(I:Inv X pins σ H s)(f:fU X pins H b)(k:∀c u,c≠b->s.heap.get? c=some u->h'.get? c=some u)(new:cO X.prog X.w (upd H b o) h' b o):
 Inv X pins σ (upd H b o) { s with heap:=h',toks:=t' }:=by
 obtain⟨f0,f1,f2,f3,f4,f5⟩:=f
 have nb:∀c u,H c=some u->c≠b:=λc u e=>aO e f0
 refine I.step (g':=s.gens) (d':=s.drawn) (ch:=[b]) (λc hc=>?_) (λc u _ _ hc e _=>k c u (λz=>hc (by simp[z])) e) (λc u _ _ hc e _=>⟨u.slots,k c u (λz=>hc (by simp[z])) e⟩) (λc u hc e n=>?_)
  (λc u hc e=>⟨u,k c u (λz=>hc (by simp[z])) e⟩) (λc xs e=>?_) (λc ob u e=>?_) (λc ps e=>⟨#[],?_⟩) (λm hm=>?_) (λc u e=>?_) I.bare
 . have e:c=b:=by simpa using hc
   subst e
   exact⟨f3,f1,f4,f5⟩
 . rw[au (λz=>hc (by simp[z]))];exact n
 . rw[au (nb _ _ e)];exact e
 . rw[au (nb _ _ e)];exact e
 . rw[au (nb _ _ e),e];simp
 . obtain⟨ob,es,ep,ho,r⟩:=hm
   exact⟨ob,es,ep,k _ ob (Ne.symm f1) ho,r⟩
 . by_cases hc:c=b
   . subst hc
     rw[aF] at e;cases e
     exact new
   . rw[au hc] at e
     refine(I.hok c u e).stay (λd v hd q=>k d v ?_ q) (λd q=>by rw[au (nb _ _ q)];exact q) λd xs q=>by rw[au (nb _ _ q)];exact q
     rcases hd with z|z
     . rw[z];exact hc
     . exact nb _ _ z
theorem Inv.own {b:Addr}{h':Heap}{t':Nat}(I:Inv X pins σ H s)(f:fU X pins H b)(hs:Heap.SameBut b s.heap h'):Inv X pins σ H { s with heap:=h',toks:=t' }:=
 I.turned (t':=t') (λc u hc e=>(hs.2 c hc).trans e) f.1 f.2.1 f.2.2.2.1 f.2.2.2.2.1 f.2.2.2.2.2
theorem afa {name qual:Str}{params:Arguments}{body:Expr}{scope:Scope}{pos:Pos}{firstLine:Nat}{cl:List (Str × Addr)}{c P:Addr}{Q:Value->Shared->Prop}{E:Value->Shared->Prop}(I:Inv X pins σ H s)(hcode:X.env.code=.ref c)(C:W.CodeHd X.base c P)
 (B:BM X.mg X.base) (T:bw P pos qual H) (hcl:closureFor scope X.env=pure cl)
 (h:∀(f c':Addr) (pm ctv:Value) (H':Hp) (s':Shared),Inv X (pins++[(f,W.kla_obj name qual params body scope cl pm c' ctv)]) σ H' s'->qP P pos qual c' H'->(∀b o,b≠P->H b=some o->H' b=some o)->Q (.ref f) s'):
 wpAny (model X.prog X.w) X.A (makeFunction name qual params (.expr body) scope X.env [] [] [] pos firstLine) Q E s:=by
 have hg:s.heap.Ns mainGlobals X.mg:=I.mod.glob.keeps I.bk
 have C':=C.keeps I.bk
 have lay:∀{H':Hp} {s':Shared} {f:Addr} {o:Obj},Inv X pins σ H' s'->s'.heap.get? f=some o->H' f=none->s.heap.objs.size<=f->(∀v,o.data≠ .cell v)->Inv X (pins++[(f,o)]) σ H' s':=λ{H' s' f o} J e n hz d=>
  J.qz λp hp=>(List.mem_append.mp hp).elim (λz=>J.pin p (Q0d _ z)) λz=>by
    have:p=(f,o):=by simpa using z
    subst this
    exact⟨e,n,Q0m (Q0a I.lt hz),I.sU hz,d⟩
 rcases T with e|⟨c',e1,e2⟩
 . have hP:s.heap.get? P=some (W.tabObj #[]):=I.hok P _ e
   have hPs:P<s.heap.objs.size:=Q01 hP
   have hgP:mainGlobals≠P:=by
    obtain⟨o,es,ep,eo,_⟩:=I.mod.glob
    exact I.W4 e eo
   refine W.kla_makeFunction (mg:=X.mg) hcl I.ok.glob hg hcode C' hP trivial rfl hgP (I.W5 B e) λc' ctv h' tk hx hge hlt hrec htb=>?_
   have W6:c'≠P:=Q0m (Q0a hPs hge)
   have hcn:H c'=none:=I.hok.fresh hge
   have nP:∀b u,H b=some u->u≠ .dF #[]->b≠P:=λb u q d z=>by
    rw[z,e] at q
    exact d (Option.some.inj q).symm
   have nC:∀b u,H b=some u->b≠c':=λb u q=>aO q hcn
   have kk:∀(ob:Obj) b u,b≠P->s.heap.get? b=some u->(h'.push ob).get? b=some u:=λob b u hb q=>Q04 _ (hx b u hb q)
   have I1:Inv X pins σ (upd (upd H P (.dF (#[]++#[rawInt pos.line,rawInt pos.col,.ref c']))) c' (.ext (zZ c' qual))) { s with heap:=h'.push (W.kla_obj name qual params body scope cl ((X.mg "__name__").getD .none) c' ctv),toks:=tk }:=by
    refine I.step (g':=s.gens) (d':=s.drawn) (ch:=[]) (λ_ z=>nomatch z) (λb o _ _ _ q n=>kk _ b o (λz=>by rw[z,e] at n;cases n) q) (λb o _ _ _ q n=>⟨o.slots,kk _ b o (λz=>by rw[z,e] at n;cases n) q⟩)
     (λb o _ q n=>?_) (λb o _ q=>?_) (λb xs q=>?_) (λb o u q=>?_) (λb ps q=>?_) (λm hm=>?_) (λb o q=>?_) I.bare
    . have b1:b≠P:=λz=>by rw[z,e] at n;cases n
      have b2:b≠c':=Q08 (Q0a (Q01 q) hge)
      rw[au b2,au b1];exact n
    . by_cases hb:b=P
      . subst hb
        exact⟨_,Q04 _ htb⟩
      . exact⟨o,kk _ b o hb q⟩
    . rw[au (nC _ _ q),au (nP _ _ q (by intro z;cases z))];exact q
    . rw[au (nC _ _ q),au (nP _ _ q (by intro z;cases z))];exact q
    . by_cases hb:b=P
      . subst hb
        rw[e] at q;cases q
        exact⟨_,by rw[au (Ne.symm W6),aF]⟩
      . exact⟨#[],by rw[au (nC _ _ q),au hb,q];simp⟩
    . obtain⟨o,es,ep,ho,r⟩:=hm
      exact⟨o,es,ep,kk _ _ o (λz=>by have:=I.free;rw[z,e] at this;cases this) ho,r⟩
    . by_cases hb:b=c'
      . subst hb
        rw[aF] at q;cases q
        obtain⟨c₂,oc,vs,t,z1,z2,z3,z4⟩:=hrec
        cases z1
        refine⟨⟨_,oc,vs,t,rfl,Q04 _ z2,z3,z4⟩,⟨oc,Q04 _ z2⟩,λh1 h2 y hy=>?_⟩
        obtain⟨c₃,oc',vs',t',y1,y2,y3,y4⟩:=y
        cases y1
        exact⟨_,oc',vs',t',rfl,hy _ y2,y3,y4⟩
      . rw[au hb] at q
        by_cases hp:b=P
        . subst hp
          rw[aF] at q;cases q
          show(h'.push _).get? b=some { cls:=.none,data:=.fields _ }
          exact Q04 _ htb
        . rw[au hp] at q
          refine(I.hok b o q).stay (λd v hd y=>kk _ d v ?_ y) (λd y=>by rw[au (nC _ _ y),au (nP _ _ y (by intro z;cases z))];exact y) λd xs y=>by rw[au (nC _ _ y),au (nP _ _ y (by intro z;cases z))];exact y
          rcases hd with z|z
          . rw[z];exact hp
          . exact nP _ _ z (by intro z;cases z)
   have fz:s.heap.objs.size<=h'.objs.size:=Q0s (Q17 hge hlt)
   have fn:upd (upd H P (.dF (#[]++#[rawInt pos.line,rawInt pos.col,.ref c']))) c' (.ext (zZ c' qual)) h'.objs.size=none:=by
    rw[au (Q0m hlt),au (Q0m (Q0a hPs fz))]
    exact I.hok.fresh fz
   refine h h'.objs.size c' ((X.mg "__name__").getD .none) ctv _ _ (lay I1 (Q0c _ rfl) fn fz (by intro v z;cases z)) ⟨by rw[au (Ne.symm W6),aF];rfl,aF⟩ λb o hb q=>?_
   rw[au (nC _ _ q),au hb];exact q
 . have hP:s.heap.get? P=some (W.tabObj #[rawInt pos.line,rawInt pos.col,.ref c']):=I.hok P _ e1
   refine W.kla_makeFunctionHit (mg:=X.mg) (cv:=.ref c') hcl I.ok.glob hg hcode C' hP (by simp[TriplesOk,rawInt]) (by simp[codeAmong,rawInt]) (I.W5 B e1) λctv h' tk hk hsz=>?_
   exact h h'.objs.size c' ((X.mg "__name__").getD .none) ctv H _ (lay (I.kept λb u q=>Q04 _ (hk b u q)) (Q0c _ rfl) (I.hok.fresh hsz) hsz (by intro v z;cases z)) ⟨e1,e2⟩ λb o _ q=>q
structure tO (X:Cx) (x:Str) (N':List Str) (scope:Scope):Prop where
 kind:scope.kind=.function
 co:scope.isCoroutine=false
 gen:scope.isGenerator=false
 cell:∀y∈scope.names,y.2≠ .cell
 loc:scope.names.lookup x=some .local
 free:∀y∈scope.names,y.2=.free->X.env.kindOf y.1=some .cell\/X.env.kindOf y.1=some .free
 len:N'.length=X.N.length
 outer:∀(i:Nat) (y:Str),N'[i]? =some y->scope.names.lookup y=none\/(X.N[i]? =some y/\scope.names.lookup y≠some .local)
noncomputable def qQ (scope:Scope):List Str->List Str->Bool
 |[],[]=>true
 |y::r,z::q=>(decide (scope.names.lookup y=none) || (decide (z=y) && decide (scope.names.lookup y≠some .local))) && qQ scope r q
 |_,_=>false
theorem W7 {scope:Scope}:∀{N' N:List Str},qQ scope N' N=true->N'.length=N.length
 |[],[],_=>rfl
 |y::r,z::q,h=>by
  simp only[qQ,Bool.and_eq_true] at h
  rw[Q0o,Q0o,W7 h.2]
theorem W8 {scope:Scope}:∀{N' N:List Str},qQ scope N' N=true->∀(i:Nat) (y:Str),N'[i]? =some y->scope.names.lookup y=none\/(N[i]? =some y/\scope.names.lookup y≠some .local)
 |[],[],_,i,y,e=>by simp at e
 |w::r,z::q,h,0,y,e=>by
  simp only[qQ,Bool.and_eq_true,Bool.or_eq_true,decide_eq_true_eq] at h
  have e:some w=some y:=e
  cases e
  rcases h.1 with h1|⟨h1,h2⟩
  . exact .inl h1
  . subst h1;exact .inr ⟨rfl,h2⟩
 |w::r,z::q,h,i+1,y,e=>by
  simp only[qQ,Bool.and_eq_true] at h
  have:=W8 h.2 i y (by simpa using e)
  simpa using this
noncomputable def W9 (x:Str) (N' N:List Str) (scope sc:Scope):Bool:=
 scope.names.all (λy=>decide (y.2≠ .cell)) && decide (scope.names.lookup x=some .local) && scope.names.all (λy=>decide (y.2=.free->sc.names.lookup y.1=some .cell\/sc.names.lookup y.1=some .free)) && qQ scope N' N
theorem tO.of {x:Str}{N' N:List Str}{scope sc:Scope}(hsc:X.env.scope=sc)(hN:X.N=N)(k:scope.kind=.function)(c1:scope.isCoroutine=false)(c2:scope.isGenerator=false)(c:W9 x N' N scope sc=true):tO X x N' scope:=by
 unfold W9 at c
 simp only[Bool.and_eq_true,Q1i,decide_eq_true_eq] at c
 obtain⟨⟨⟨a1,a2⟩,a3⟩,a4⟩:=c
 exact⟨k,c1,c2,a1,a2,λy hy hf=>by rw[show X.env.kindOf y.1=X.env.scope.names.lookup y.1 from rfl,hsc];exact a3 y hy hf,by rw[hN];exact W7 a4,by rw[hN];exact W8 a4⟩
noncomputable abbrev z_ (qual:Str) (scope:Scope) (cl:List (Str × Addr)) (f c':Addr) (s:Shared):Env:=W.envX qual scope s.heap.objs.size f (.ref c') cl
noncomputable def Aa (X:Cx) (x:Str) (N':List Str) (scope:Scope) (cl:List (Str × Addr)) (qual:Str) (f c':Addr) (s:Shared) (H:Hp):Cx:=
 { X with A:=X.A.in1.in1.deeper (z_ qual scope cl f c' s),N:=x::N',s₀:=s,H₀:=H,env:=z_ qual scope cl f c' s,outer:=X.stack,stack:=z_ qual scope cl f c' s::X.stack,ex:=[],fn:=λ_=>false,pn:=[],calm:=true,xe:=λ_ _=>False }
theorem Inv.lam {x:Str}{N':List Str}{scope:Scope}{cl:List (Str × Addr)}{qual:Str}{f c':Addr}{v:V}{u:Value}{h₁:Heap}{t':Nat}(I:Inv X pins σ H s)(S:tO X x N' scope)(hd:X.A.handled=none)
 (hsub:∀y c,cl.lookup y=some c->X.env.cells.lookup y=some c) (hget:∀y,(y,NameKind.free)∈scope.names->cl.lookup y=X.env.cells.lookup y) (r:RelV v u)
 (hn:h₁.Ns s.heap.objs.size (λy=>([(x,u)]:List (Str × Value)).reverse.lookup y)) (old:∀b o,s.heap.get? b=some o->h₁.get? b=some o):
 Inv (Aa X x N' scope cl qual f c' s H) [] (some v::σ) H { s with heap:=h₁,toks:=t' }:=by
 have ok:=I.ok
 have hfree:∀y,(scope.names.lookup y=some .cell\/scope.names.lookup y=some .free)->(y,NameKind.free)∈scope.names:=λy hy=>by
  rcases hy with hy|hy
  . exact absurd rfl (S.cell _ (PySem.mem_of_lookup hy))
  . exact PySem.mem_of_lookup hy
 refine⟨⟨ok.mod,S.kind,rfl,rfl,Q02 _,λy z c e1 e2=>ok.inj y z c (hsub y c e1) (hsub z c e2),λy hy=>?_,λy c hy _=>(nomatch hy),λ_=>hd,Around.frames_deeper (show X.A.in1.in1.frames=some X.stack from ok.frames),.inr ⟨rfl,rfl⟩,λb hb=>absurd (show b∈([]:List Addr) from hb) (by simp),I.bs,Q0e ok.jm I.sz,
  λb o _ hb=>absurd (show b∈([]:List Addr) from hb) (by simp),λb hb=>absurd (show b∈([]:List Addr) from hb) (by simp),I.stack,I.vL⟩,
  rfl,I.bare,Un.kept old,⟨_,hn,λi y v' e1 e2 e3=>?_⟩,λy c e=>?_,I.hok.fresh (Q02 _),λy c e=>I.fQ y c (hsub y c e),λp hp=>absurd (show p∈([]:List (Addr × Obj)) from hp) (by simp),I.hok.kept old,?_⟩
 . have hm:=hfree y hy
   obtain⟨c,e⟩:=ok.has y (S.free _ hm rfl)
   exact⟨c,by rw[show(Aa X x N' scope cl qual f c' s H).env.cells=cl from rfl,hget y hm];exact e⟩
 . cases i with
   |zero=>
    have e1:some x=some y:=e1
    cases e1
    have e2:some (some v)=some (some v'):=e2
    cases e2
    exact⟨u,r,.inl ⟨S.loc,by simp⟩⟩
   |succ i=>
    have e1:N'[i]? =some y:=by
     have e1:(x::N')[i+1]? =some y:=e1
     simpa using e1
    have e2:σ[i]? =some (some v'):=by simpa using e2
    have ho:X.N[i]? =some y/\scope.names.lookup y≠some .local:=by
     have e3:scope.names.lookup y=some .local\/scope.names.lookup y=some .cell\/scope.names.lookup y=some .free:=e3
     rcases S.outer i y e1 with q|q
     . rw[q] at e3
       rcases e3 with z|z|z <;> cases z
     . exact q
    have hk2:scope.names.lookup y=some .cell\/scope.names.lookup y=some .free:=by
     rcases e3 with q|q
     . exact absurd q ho.2
     . exact q
    have hm:=hfree y hk2
    have wz:=S.free _ hm rfl
    obtain⟨mX,hnX,Gh⟩:=I.loc
    obtain⟨u',r',lk⟩:=Gh i y v' ho.1 e2 (.inr wz)
    refine⟨u',r',.inr ⟨hk2,?_⟩⟩
    rcases lk with⟨q,_⟩|⟨_,c,ec,hc⟩
    . rcases wz with z|z
      . rw[z] at q;cases q
      . rw[z] at q;cases q
    . obtain⟨o,ho,hdd⟩:=hc
      exact⟨c,(hget y hm).trans ec,o,old _ _ ho,hdd⟩
 . obtain⟨w',o,ho,hdd⟩:=I.cell y c (hsub y c e)
   exact⟨w',o,old _ _ ho,hdd⟩
 . show _=(x::N').length
   rw[Q0o,Q0o,I.len,S.len]
theorem afb {x:Str}{N':List Str}{name qual:Str}{params:Arguments}{body:Expr}{scope:Scope}{cl:List (Str × Addr)}{f c':Addr}{pm ctv:Value}{v:V}{u:Value}{te:TE}{Q:VK}{E:Value->Shared->Prop}(I:Inv X pins σ H s)(S:tO X x N' scope)(hd:X.A.handled=none)(afc:X.A.depth<recursionLimit)
 (hsub:∀y c,cl.lookup y=some c->X.env.cells.lookup y=some c) (hget:∀y,(y,NameKind.free)∈scope.names->cl.lookup y=X.env.cells.lookup y) (hf:(f,W.kla_obj name qual params body scope cl pm c' ctv)∈pins) (hc:H c'=some (.ext (zZ c' qual)))
 (hb:∀u:Value,bindArgs (W.kla_fn name qual params body scope cl pm (.ref c') ctv) ⟨[u],[]⟩=pure [(x,u)]) (r:RelV v u) (he:∀(s:Shared) (H:Hp),PE (Aa X x N' scope cl qual f c' s H) body te) (h:te (some v::σ) H Q):
 wpAny (model X.prog X.w) X.A.in1.in1 (call (.ref f) [u]) (EP X pins σ Q) E s:=by
 obtain⟨p1,p2,p3,p4,p5⟩:=I.pin _ (Q0d _ hf)
 refine wpAny_call (W.kla_callFunE afc p1 rfl S.co S.gen rfl (I.hok c' _ hc).1 ?_)
 rw[hb]
 refine Q03 (wpAny_newFunctionEnv S.cell (λy hy=>?_) (λh₁ hns hsb=>?_) S.kind)
 . have e:y=(x,u):=by simpa using hy
   subst e
   exact S.loc
 have old:∀b o,s.heap.get? b=some o->h₁.get? b=some o:=λb o e=>hsb.extBut b o (Q08 (Q01 e)) (Q04 _ e)
 refine⟨I.nolimit.keeps old,?_⟩
 show codeAny _ _ (.expr body (z_ qual scope cl f c' s)) _ _
 have J:=I.lam (t':=s.toks+([(x,u)]:List (Str × Value)).length) (qual:=qual) (f:=f) (c':=c') S hd hsub hget r hns old
 refine W.kla_codeExpr (Q0h (he s H [] _ _ H Q J h) (λu' s' hq=>?_) λe s' hF=>hF.elim)
 obtain⟨v',H',J',rv,q⟩:=hq
 exact I.after ⟨v',H',J'.os,J'.bare,J'.base,J'.hok,rv,q⟩
end
section
variable {X:Cx}{pins:List (Addr × Obj)}{σ:St}{H:Hp}{s:Shared}
noncomputable def Asks (prog:Program) (w:World) (A:Around) (s:Shared) (us:List Value) {O:KeyOrd}(key:Nat->O.α):Prop:=
 2<=us.length->wpAny (model prog w) A (keyKind' us.toArray) (λκ s'=>s'=s/\∀(i j:Nat) (C:Bool->Shared->Prop),i<us.length->j<us.length->C (O.blt (key i) (key j)) s->W.kas_ask prog w A κ us i j C s) (λ_ _=>False) s
theorem W_ {xs:List V}{vs:List Value}(r:Vals xs vs):∀p:List Nat,Vals (p.map λi=>xs.getD i .non) (p.map λi=>vs.getD i Value.none)
 |[]=>.nil
 |i::p=>by
  refine .cons ?_ (W_ r p)
  show RelV (xs.getD i .non) (vs.getD i Value.none)
  rw[Q0n,Q0n]
  cases e:xs[i]? with
  |none=>
   rw[r.none_of e]
   exact rfl
  |some x=>
   obtain⟨u,hu,ru⟩:=r.get e
   rw[hu]
   exact ru
theorem Xa {α:Type}(a0:α)(l:List α):((List.range l.length).map λi=>l.getD i a0)=l:=by
 apply Q2p
 . simp
 . intro i h1 h2
   simp[h2]
theorem afd {us vs:List Value}(hl:us.length=vs.length):((List.toArray us).zip (List.toArray vs)).map (·.2)=List.toArray vs:=by
 apply Array.toList_inj.mp
 rw[Array.toList_map,ksk_zip]
 show List.map Prod.snd (us.zip vs)=vs
 exact List.map_snd_zip (by omega)
theorem afe {α:Type}{R:α->α->Prop}(key:Nat->α){n:Nat}(h:n<2):((List.range n).map key).Pairwise R:=by
 have:n=0\/n=1:=by omega
 rcases this with rfl|rfl
 . exact List.Pairwise.nil
 . exact Q2q _ _
noncomputable abbrev lo (xs:List Value) (n:Nat):Obj:=seqObj "list" (List.toArray xs) n
theorem Xb {E:Value->Shared->Prop}{kS D:Addr}{us:List Value}{e e1:Nat}{st:SortSt}{out:List Value}{outV:List V}{P:PySem.Fin->Shared->Prop}{A:Around}(I:Inv X (pins++[(kS,lo us e),(D,lo [] e1)]) σ H s)(fK:fU X pins H kS)(fD:fU X pins H D)(hne:kS≠D)(hus:us.length<64)(ho:out.length<64)
 (hout:(arrOf st).map (·.2)=List.toArray out) (hf:failedOf st=none) (rv:Vals outV out)
 (h:∀s',Inv X pins σ (upd H D (.lst outV)) s'->P (.done (.ret .none)) s'):wpAny (model X.prog X.w) A (ksk_tail D false e1 (.ref kS) st) P E s:=by
 have nk:=(I.pin (kS,lo us e) (Q0d _ (Q0d _ (Q0f)))).1
 have nD:=(I.pin (D,lo [] e1) (Q0d _ (Q0d _ (Q0j _ Q0f)))).1
 have s1:=Heap.SameBut.update s.heap kS (Obj.mapSeq λ_=>(#[]:Array Value))
 have Gv:(s.heap.update kS (Obj.mapSeq λ_=>(#[]:Array Value))).get? D=some (lo [] e1):=(s1.2 D hne.symm).trans nD
 have s2:=Heap.SameBut.update (s.heap.update kS (Obj.mapSeq λ_=>(#[]:Array Value))) D (Obj.mapSeq λ_=>List.toArray out)
 obtain⟨c2,hc2⟩:∃c2,((s.heap.update kS (Obj.mapSeq λ_=>(#[]:Array Value))).update D (Obj.mapSeq λ_=>List.toArray out)).get? D=some (lo out c2):=⟨_,get?_update_seq Gv λ_=>List.toArray out⟩
 have I1:Inv X pins σ H { s with heap:=s.heap.update kS (Obj.mapSeq λ_=>(#[]:Array Value)) }:=I.pA.own (t':=s.toks) fK s1
 have I2:Inv X pins σ (upd H D (.lst outV)) { s with heap:=(s.heap.update kS (Obj.mapSeq λ_=>(#[]:Array Value))).update D (Obj.mapSeq λ_=>List.toArray out) }:=
  I1.adopt (t':=s.toks) fD (λc u hc q=>(s2.2 c hc).trans q) ⟨by rw[rv.length];exact Q0s (cW (by omega)),out,c2,rv,hc2⟩
 unfold ksk_tail
 try dsimp only
 rw[hout]
 refine Q00 (listUpdate_at nk rfl ?_ (by rw[Q07,sizeLine_eq];omega) (Q0b _))
 refine Q00 (wpAny_letGo ?_)
 refine Q00 (seqEpoch_at Gv rfl ?_)
 refine Q00 (listUpdate_at Gv rfl ?_ (Q0b _) (by show(List.toArray out).size<=_;rw[Q07,sizeLine_eq];omega))
 rw[hf]
 simp only[bne_self_eq_false,Bool.false_eq_true,if_false]
 exact Q03 (h _ I2)
theorem afg {E:Value->Shared->Prop}{kS D:Addr}{us vs:List Value}{xs:List V}{e e1:Nat}{P:PySem.Fin->Shared->Prop}{A:Around}{O:KeyOrd}{key:Nat->O.α}(I:Inv X (pins++[(kS,lo us e),(D,lo [] e1)]) σ H s)(fK:fU X pins H kS)(fD:fU X pins H D)(hne:kS≠D)
 (hl:us.length=vs.length) (h64:vs.length<64) (rv:Vals xs vs) (ask:Asks X.prog X.w A s us key)
 (h:∀(p:List Nat),p.Perm (List.range vs.length)->(p.map key).Pairwise O.kle->∀s',Inv X pins σ (upd H D (.lst (p.map λi=>xs.getD i .non))) s'->P (.done (.ret .none)) s'):
 wpAny (model X.prog X.w) A (ksk_end D false (List.toArray vs) e1 (.ref kS) (List.toArray us)) P E s:=by
 unfold ksk_end
 try dsimp only
 simp only[Bool.false_eq_true,if_false]
 by_cases h2:vs.toArray.size<2
 . rw[if_pos h2,if_pos h2]
   have h2':vs.length<2:=by simpa using h2
   refine Q00 (Q03 ?_)
   rw[StateT.run_pure]
   refine Q00 (Q03 ?_)
   try dsimp only
   have hlen:xs.length=vs.length:=rv.length
   have ez:((List.range vs.length).map λi=>xs.getD i .non)=xs:=by
    rw[<-hlen];exact Xa _ xs
   refine Xb (out:=vs) (outV:=xs) (st:=SortSt.mk' general' ((List.toArray us).zip (List.toArray vs)) #[] 7 none) I fK fD hne (by omega) h64 (afd hl) rfl rv λs' J=>?_
   have q:=h (List.range vs.length) (List.Perm.refl _) (afe key h2') s'
   rw[ez] at q
   exact q J
 . rw[if_neg h2,if_neg h2]
   have h2':2<=vs.length:=by simpa using h2
   refine Q00 (Q0h (ask (by omega)) (λκ s' hk=>?_) λ_ _ hF=>hF.elim)
   obtain⟨rfl,hk⟩:=hk
   obtain⟨k1,k2⟩:=nu.ae_ (key:=key) (n:=vs.length) (by omega)
   refine Q00 (Q0h (W.kat_run (κ:=κ) (ks:=us) (vs:=vs) (Q:=λst' s''=>s''=s'/\arrOf st'=(nu.bI (nu.bT key) (W.kas_sort vs.length)).map (W.kas_item ((List.toArray us).zip vs.toArray))/\failedOf st'=none)
    (G:=λp s''=>s''=s'/\p=nu.bI (nu.bT key) (W.kas_sort vs.length)) hl h2' h64 (λp st' s'' _ a2 a3 a4=>⟨a4.1,by rw[a2,a4.2],a3⟩)
    (nu.WT (f:=nu.bT key) (λi j C hi hj q=>hk i j C (by omega) (by omega) q) (nu.ae7 (by omega)) ⟨rfl,rfl⟩)) ?_ λ_ _ x=>x)
   rintro⟨⟨⟩,st'⟩ s'' ⟨rfl,har,hfl⟩
   try dsimp only
   refine Xb I fK fD hne (by omega) (by rw[Q06,k1.length_eq,Q1];exact h64) (W.kat_snds hl har) hfl (W_ rv _) λs' J=>h _ k1 k2 s' J
theorem afh {E:Value->Shared->Prop}{f a:Addr}{xs:List V}{Q:VK}{W:List V->Hp->Prop}(I:Inv X pins σ H s)(hq:aG X.K H a xs)(h64:xs.length<64)(w0:W [] H)
 (turn:∀(pl:List (Addr × Obj)) (s':Shared) (H':Hp) (ks:List V) (y:V) (u:Value),Inv X (pins++pl) σ H' s'->W ks H'->xs[ks.length]? =some y->RelV y u->
   wpAny (model X.prog X.w) X.A.in1.in1 (call (.ref f) [u]) (EP X (pins++pl) σ λk gM=>W (ks++[k]) gM) (λ_ _=>False) s')
 (fin:∀(pl:List (Addr × Obj)) (s':Shared) (H':Hp) (ks:List V) (us:List Value),Inv X (pins++pl) σ H' s'->W ks H'->ks.length=xs.length->Vals ks us->∃(O:KeyOrd) (key:Nat->O.α),Asks X.prog X.w X.A.in1.in1 s' us key/\
   ∀p:List Nat,p.Perm (List.range xs.length)->(p.map key).Pairwise O.kle->∀D,H' D=none->Q (.ref D) (upd H' D (.lst (p.map λi=>xs.getD i .non)))):
 wpAny (model X.prog X.w) X.A (call (.builtin "sorted") [.ref a] [(Str.ofString "key",.ref f)]) (EP X pins σ Q) E s:=by
 obtain⟨vs,rv,pl,hz⟩:=I.list hq
 have hl:xs.length=vs.length:=rv.length
 refine call_function_entry_kw kind_sorted plain_sorted entry_sorted (ksk_s1 _ _) ?_
 unfold Builtin.«sorted»
 refine Q00 (m:=checkCount "sorted" 1 1 _) (Q03 ?_)
 refine Q00 (collect_list pl.isList ?_ (by rw[sizeLine_eq];omega))
 refine Q00 (wpAny_newList ?_ (by rw[sizeLine_eq];omega))
 have hsz:((s.heap.push (seqObj "list" #[] 0)).update s.heap.objs.size (Obj.mapSeq (· ++vs.toArray))).objs.size=s.heap.objs.size+1:=by
  rw[Q26,size_push']
 have hoL:(((s.heap.push (seqObj "list" #[] 0)).update s.heap.objs.size (Obj.mapSeq (· ++vs.toArray))).push (seqObj "list" vs.toArray 0)).get? (s.heap.objs.size+1)=some (seqObj "list" vs.toArray 0):=by
  rw[<-hsz];exact Q0c _ rfl
 have keep:∀b o,s.heap.get? b=some o->(((s.heap.push (seqObj "list" #[] 0)).update s.heap.objs.size (Obj.mapSeq (· ++vs.toArray))).push (seqObj "list" vs.toArray 0)).get? b=some o:=λb o q=>by
  have hlt:b<s.heap.objs.size:=Q01 q
  rw[Q2r _ _ _ (by rw[hsz];exact Q08 (Q27 hlt)),Q28 _ _ _ _ (Q08 hlt),Q2r _ _ _ (Q08 hlt)]
  exact q
 show wpAny _ _ _ _ _ { s with heap:=((s.heap.push (seqObj "list" #[] 0)).update s.heap.objs.size (Obj.mapSeq (· ++vs.toArray))).push (seqObj "list" vs.toArray 0) }
 rw[hsz]
 generalize hG:((s.heap.push (seqObj "list" #[] 0)).update s.heap.objs.size (Obj.mapSeq (· ++vs.toArray))).push (seqObj "list" vs.toArray 0)=G at hoL keep ⊢
 have hGs:G.objs.size=s.heap.objs.size+2:=by rw[<-hG,size_push',hsz]
 have I1:Inv X pins σ H { s with heap:=G }:=I.kept (t':=s.toks) keep
 refine Q00 (wpAny_holding (wpAny_call_entry_kw slot_list_sort ⟨_,hoL,rfl⟩ entry_list_sort ?body (ksk_l1 _ _)))
 case body=>
  show wpAny (model X.prog X.w) X.A.in1.in1 (Builtin.«list.sort» ⟨[.ref (s.heap.objs.size+1)],[(Str.ofString "key",.ref f)]⟩) _ _ _
  rw[ksk_t1]
  unfold ksk_tree
  generalize hD:s.heap.objs.size+1=D at hoL ⊢
  have Xc:s.heap.objs.size<=D:=by omega
  have s1:=Heap.SameBut.update G D (Obj.mapSeq λ_=>(#[]:Array Value))
  obtain⟨e1,ho1⟩:∃e1,(G.update D (Obj.mapSeq λ_=>(#[]:Array Value))).get? D=some (lo [] e1):=⟨_,get?_update_seq hoL λ_=>#[]⟩
  refine Q00 (listItems_at hoL rfl ?_)
  refine Q00 (listUpdate_at hoL rfl ?_ (by rw[Q07,sizeLine_eq];omega) (Q0b _))
  refine Q00 (seqEpoch_at ho1 rfl ?_)
  refine Q00 (wpAny_newTuple ?_ (by show vs.length<=_;rw[sizeLine_eq];omega))
  refine Q00 (wpAny_newList ?_ (Q0b _))
  refine wpAny_holding ?_
  show wpAny (model X.prog X.w) X.A.in1.in1 _ _ _ { s with heap:=((G.update D (Obj.mapSeq λ_=>(#[]:Array Value))).push (seqObj "tuple" vs.toArray 0)).push (seqObj "list" #[] 0) }
  generalize hkS:((G.update D (Obj.mapSeq λ_=>(#[]:Array Value))).push (seqObj "tuple" vs.toArray 0)).objs.size=kS
  have amV:kS=s.heap.objs.size+3:=by rw[<-hkS,size_push',Q26,hGs]
  have hne:kS≠D:=by omega
  have nF:fU X pins H D:=I.k_ Xc (I.hok.fresh Xc)
  have Ab:fU X pins H kS:=I.k_ (by omega) (I.hok.fresh (by omega))
  have afj:∀b o,b≠D->G.get? b=some o->(((G.update D (Obj.mapSeq λ_=>(#[]:Array Value))).push (seqObj "tuple" vs.toArray 0)).push (seqObj "list" #[] 0)).get? b=some o:=λb o hb q=>
   Q04 _ (Q04 _ ((s1.2 b hb).trans q))
  have I2:Inv X pins σ H { s with heap:=((G.update D (Obj.mapSeq λ_=>(#[]:Array Value))).push (seqObj "tuple" vs.toArray 0)).push (seqObj "list" #[] 0) }:=
   Inv.turned (s:={ s with heap:=G }) (t':=s.toks) (it:=D) I1 afj nF.1 nF.2.1 nF.2.2.2.1 nF.2.2.2.2.1 nF.2.2.2.2.2
  have hK:(((G.update D (Obj.mapSeq λ_=>(#[]:Array Value))).push (seqObj "tuple" vs.toArray 0)).push (seqObj "list" #[] 0)).get? kS=some (lo [] 0):=by rw[<-hkS];exact Q0c _ rfl
  have hD2:(((G.update D (Obj.mapSeq λ_=>(#[]:Array Value))).push (seqObj "tuple" vs.toArray 0)).push (seqObj "list" #[] 0)).get? D=some (lo [] e1):=Q04 _ (Q04 _ ho1)
  generalize ((G.update D (Obj.mapSeq λ_=>(#[]:Array Value))).push (seqObj "tuple" vs.toArray 0)).push (seqObj "list" #[] 0)=G2 at I2 hK hD2 ⊢
  have pinned:∀{H':Hp} {s':Shared} {us:List Value} {e:Nat},Inv X pins σ H' s'->s'.heap.get? kS=some (lo us e)->s'.heap.get? D=some (lo [] e1)->H' kS=none->H' D=none->Inv X (pins++[(kS,lo us e),(D,lo [] e1)]) σ H' s':=λ{H' s' us e} J k1 k2 n1 n2=>
   J.qz λp hp=>(List.mem_append.mp hp).elim (λz=>J.pin p (Q0d _ z)) λz=>by
     have z:p=(kS,lo us e)\/p=(D,lo [] e1):=by simpa using z
     rcases z with rfl|rfl
     . exact⟨k1,n1,Ab.2.1,Ab.2.2.1,by intro v z;cases z⟩
     . exact⟨k2,n2,nF.2.1,nF.2.2.1,by intro v z;cases z⟩
  have own:∀{H':Hp} {b:Addr},(b=kS\/b=D)->H' b=none->fU X pins H' b:=λ{H' b} hb n=>by
   rcases hb with rfl|rfl
   . exact⟨n,Ab.2⟩
   . exact⟨n,nF.2⟩
  unfold ksk_rest
  refine Q00 (wpAny_rule ?_)
  first
   |rw[List.forIn_toArray]
   |(rw[<-Q2s];simp only[List.toList_toArray])
   |rw[<-Q2s]
  refine Q00 (ksk_fold (λi s'=>∃ks us e H',Inv X (pins++[(kS,lo us e),(D,lo [] e1)]) σ H' s'/\Vals ks us/\ks.length=i/\i<=vs.length/\W ks H') vs 0 _
   ⟨[],[],0,H,pinned I2 hK hD2 Ab.1 nF.1,.nil,rfl,Q0b _,w0⟩ (λj x s' hx hJ=>?_) λs' hJ=>?_)
  . obtain⟨ks,us,e,H',J,rk,hi,hle,wk⟩:=hJ
    have hi:ks.length=j:=by omega
    have hj:j<vs.length:=(List.getElem?_eq_some_iff.mp hx).1
    have hjx:j<xs.length:=by omega
    obtain⟨u,hu,ru⟩:=rv.get (Q05 hjx)
    rw[hx] at hu;cases hu
    refine Q00 (wpAny_attempt (Q0h (turn _ s' H' ks (xs[j]) x J wk (by rw[hi];exact Q05 hjx) ru) (λk s'' hk=>?_) λ_ _ hF=>hF.elim))
    obtain⟨kv,gM,J',rkv,w'⟩:=hk
    have pk:=J'.pin (kS,lo us e) (Q0d _ (Q0d _ (Q0f)))
    have pD:=J'.pin (D,lo [] e1) (Q0d _ (Q0d _ (Q0j _ Q0f)))
    have hul:us.length=ks.length:=rk.length.symm
    have s2:=Heap.SameBut.update s''.heap kS (Obj.mapSeq (·.push k))
    have ea:(List.toArray us).push k=List.toArray (us++[k]):=by simp
    obtain⟨c2,hc2⟩:∃c2,(s''.heap.update kS (Obj.mapSeq (·.push k))).get? kS=some (lo (us++[k]) c2):=⟨_,by show _=some (seqObj "list" (List.toArray (us++[k])) _);rw[<-ea];exact get?_update_seq pk.1 (·.push k)⟩
    try dsimp only
    refine Q00 (listUpdate_at pk.1 rfl ?_ (by rw[Q07,sizeLine_eq];omega) (Q0e (Q1h (Array.size_push ..)) (by rw[Q07,sizeLine_eq];omega)))
    have J2:Inv X pins σ gM { s'' with heap:=s''.heap.update kS (Obj.mapSeq (·.push k)) }:=J'.pA.own (t':=s''.toks) (own (.inl rfl) pk.2.1) s2
    refine Q03 ⟨rfl,ks++[kv],us++[k],c2,gM,pinned J2 hc2 ((s2.2 D hne.symm).trans pD.1) pk.2.1 pD.2.1,rk.append (.cons rkv .nil),by rw[Q09,Q24];omega,by omega,w'⟩
  . obtain⟨ks,us,e,H',J,rk,hi,hle,wk⟩:=hJ
    have hi:ks.length=vs.length:=by omega
    have pk:=J.pin (kS,lo us e) (Q0d _ (Q0d _ (Q0f)))
    have pD:=J.pin (D,lo [] e1) (Q0d _ (Q0d _ (Q0j _ Q0f)))
    try dsimp only
    refine Q00 (listItems_at pk.1 rfl ?_)
    obtain⟨O,key,ask,q⟩:=fin _ s' H' ks us J wk (by omega) rk
    refine afg J (own (.inl rfl) pk.2.1) (own (.inr rfl) pD.2.1) hne (by rw[<-rk.length];exact hi) (by omega) rv ask λp p1 p2 s'' J'=>?_
    exact⟨_,rfl,Q03 ⟨_,rfl,.ref D,_,J',rfl,q p (by rw[hl];exact p1) p2 D pD.2.1⟩⟩
end
noncomputable def iG:Key->Key->Bool
 | .inl i,.inl j=>decide (i<j)
 | .inl _,.inr _=>true
 | .inr _,.inl _=>false
 | .inr x,.inr y=>decide (x.cps.toList<y.cps.toList)
theorem afl (a:Key):iG a a=false:=by
 cases a with
 |inl i=>simp[iG]
 |inr x=>simpa[iG] using Q2t x.cps.toList
theorem afm {a b c:Key}(h1:iG a b=true)(h2:iG b c=true):iG a c=true:=by
 cases a <;> cases b <;> cases c <;> simp only[iG,decide_eq_true_eq,Bool.false_eq_true] at * <;> first|omega|exact List.lt_trans h1 h2
theorem afn {x y:Str}(h:x.cps.toList=y.cps.toList):x=y:=by
 cases x;cases y
 simp only[Str.mk.injEq]
 exact Array.toList_inj.mp h
theorem afo (a b:Key):iG a b=true\/a=b\/iG b a=true:=by
 cases a with
 |inl i=>
  cases b with
  |inl j=>
   simp only[iG,decide_eq_true_eq]
   rcases Int.lt_trichotomy i j with h|h|h
   . exact .inl h
   . exact .inr (.inl (by rw[h]))
   . exact .inr (.inr h)
  |inr y=>exact .inl rfl
 |inr x=>
  cases b with
  |inl j=>exact .inr (.inr rfl)
  |inr y=>
   simp only[iG,decide_eq_true_eq]
   by_cases h1:x.cps.toList<y.cps.toList
   . exact .inl h1
   . by_cases h2:y.cps.toList<x.cps.toList
     . exact .inr (.inr h2)
     . exact .inr (.inl (by rw[afn (List.le_antisymm (List.not_lt.mp h2) (List.not_lt.mp h1))]))
theorem afp {a b:Key}(h:iG a b=true):a≠b:=λe=>by
 rw[e,afl] at h;cases h
noncomputable def fW:List Key->List Key->Bool
 |[],[]=>false
 |[],_::_=>true
 |_::_,[]=>false
 |x::xs,y::ys=>if x=y then fW xs ys else iG x y
theorem Gw:∀a:List Key,fW a a=false
 |[]=>rfl
 |x::xs=>by
  show(if x=x then fW xs xs else iG x x)=false
  rw[if_pos rfl];exact Gw xs
theorem Ac (x y:Key)(xs ys:List Key):fW (x::xs) (y::ys)=if x=y then fW xs ys else iG x y:=rfl
theorem wF:∀(a b c:List Key),fW a b=true->fW b c=true->fW a c=true
 |[],[],_,h,_=>by cases h
 |[],_::_,[],_,h=>by cases h
 |[],_::_,_::_,_,_=>rfl
 |_::_,[],_,h,_=>by cases h
 |_::_,_::_,[],_,h=>by cases h
 |x::xs,y::ys,z::zs,h1,h2=>by
  rw[Ac] at *
  by_cases e1:x=y
  . subst e1
    rw[if_pos rfl] at h1
    by_cases e2:x=z
    . rw[if_pos e2] at h2 ⊢
      exact wF xs ys zs h1 h2
    . rw[if_neg e2] at h2 ⊢
      exact h2
  . rw[if_neg e1] at h1
    by_cases e2:y=z
    . subst e2
      rw[if_neg e1];exact h1
    . rw[if_neg e2] at h2
      have q:=afm h1 h2
      rw[if_neg (afp q)];exact q
theorem Ad:∀a b:List Key,fW a b=true\/a=b\/fW b a=true
 |[],[]=>.inr (.inl rfl)
 |[],_::_=>.inl rfl
 |_::_,[]=>.inr (.inr rfl)
 |x::xs,y::ys=>by
  rw[Ac,Ac]
  by_cases e:x=y
  . subst e
    rw[if_pos rfl,if_pos rfl]
    rcases Ad xs ys with h|h|h
    . exact .inl h
    . exact .inr (.inl (by rw[h]))
    . exact .inr (.inr h)
  . rw[if_neg e,if_neg (λz=>e z.symm)]
    rcases afo x y with h|h|h
    . exact .inl h
    . exact absurd h e
    . exact .inr (.inr h)
@[reducible] noncomputable def Xd:KeyOrd where
  α:=List Key
  blt:=fW
  irrefl:=Gw
  trans:=wF
  negTrans a b c h:=by
   rcases Ad a b with q|q|q
   . exact .inl q
   . exact .inr (by rw[<-q];exact h)
   . exact .inr (wF b a c q h)
  total a b h1 h2:=by
   rcases Ad a b with q|q|q
   . rw[h1] at q;cases q
   . exact q
   . rw[h2] at q;cases q
noncomputable def wG (a b:List Key):Prop:=fW b a=false
section
variable {X:Cx}{pins:List (Addr × Obj)}{σ:St}{H:Hp}{s:Shared}
end
section
variable {X:Cx}
end
noncomputable def Xe (K:W.Frag) (a b:Addr):It:=
 ⟨λi H=>∃xs ys x y,aG K H a xs/\aG K H b ys/\xs[i]? =some x/\ys[i]? =some y,
  λi H v H'=>∃p x y,H p=none/\v=.ref p/\(∀xs,aG K H a xs->xs[i]? =some x)/\(∀ys,aG K H b ys->ys[i]? =some y)/\H'=upd H p (.tup [x,y]),
  λi H=>∃xs ys,aG K H a xs/\aG K H b ys/\(xs.length<=i\/ys.length<=i)⟩
theorem afq {P:Program}{w:World}{K:W.Frag}{elts:List Expr}{k:Nat}{tpos:Pos}{z TI TO i1 i2 l1 l2:Addr}(D:ZipApart z TI TO i1 i2 l1 l2):
 Turn P w K (.Tuple elts k tpos) (Xe K l1 l2) [z,TI,TO,i1,i2] z (λi h=>∃oa ob,IsZip h z TI TO .none/\IsPair h TI (.ref i1) (.ref i2)/\IsPair h TO oa ob/\h.IsListIter i1 l1 i/\h.IsListIter i2 l2 i) where
 mem:=by simp
 obj:=λi h st b hb=>by
  obtain⟨oa,ob,h1,h2,h3,h4,h5⟩:=st
  have hb:b=z\/b=TI\/b=TO\/b=i1\/b=i2:=by simpa using hb
  rcases hb with rfl|rfl|rfl|rfl|rfl
  . exact⟨_,h1,λv y=>by
     have y:Data.fields _=Data.cell v:=y
     cases y⟩
  . exact⟨_,h2,λv y=>by
     have y:Data.seq _ _=Data.cell v:=y
     cases y⟩
  . exact⟨_,h3,λv y=>by
     have y:Data.seq _ _=Data.cell v:=y
     cases y⟩
  . obtain⟨o,q,c,d⟩:=h4
    exact⟨o,q,λv y=>by rw[d] at y;cases y⟩
  . obtain⟨o,q,c,d⟩:=h5
    exact⟨o,q,λv y=>by rw[d] at y;cases y⟩
 keep:=λi h h' st k=>by
  obtain⟨oa,ob,h1,h2,h3,h4,h5⟩:=st
  exact⟨oa,ob,k z (by simp) _ h1,k TI (by simp) _ h2,k TO (by simp) _ h3,h4.at λo q=>k i1 (by simp) o q,h5.at λo q=>k i2 (by simp) o q⟩
 item:=by
  intro X hP hw hK hc i pins s σ H E I hf st hg
  subst hP hw hK
  obtain⟨oa,ob,h1,h2,h3,h4,h5⟩:=st
  obtain⟨xs,ys,x,y,hq1,hq2,hx,hy⟩:=hg
  obtain⟨wH,nG,p1,hz1⟩:=I.list hq1
  obtain⟨its2,nH,p2,hz2⟩:=I.list hq2
  obtain⟨u1,hu1,qR⟩:=nG.get hx
  obtain⟨u2,hu2,qT⟩:=nH.get hy
  have fr:H s.heap.objs.size=none:=I.hok.fresh (Q02 _)
  refine wpAny_pyNext_zip_item D h1 h2 h3 h4 h5 p1.isList p2.isList (x:=u1) (y:=u2) (by simpa using hu1) (by simpa using hu2) λh' q1 q2 q3 q4 q5 q6 q7=>?_
  refine⟨_,rfl,wpAny_letOwnedTupleGo_zip (s:={ s with heap:=h' }) q1 λh'' g1 g2=>?_⟩
  have Gx:∀b∈[z,TI,TO,i1,i2],b<s.heap.objs.size:=λb hb=>by
   have hb:b=z\/b=TI\/b=TO\/b=i1\/b=i2:=by simpa using hb
   rcases hb with rfl|rfl|rfl|rfl|rfl
   . exact Q01 h1
   . exact Q01 h2
   . exact Q01 h3
   . obtain⟨o,q,_⟩:=h4;exact Q01 q
   . obtain⟨o,q,_⟩:=h5;exact Q01 q
  have ne1:∀b o,s.heap.get? b=some o->b≠s.heap.objs.size:=λb o q=>Q08 (Q01 q)
  have kk:∀b o,b≠z->b≠TO->b≠i1->b≠i2->s.heap.get? b=some o->h''.get? b=some o:=λb o n1 n2 n3 n4 q=>g2.extBut b o n1 (q7 b o n1 n2 n3 n4 q)
  have kn:∀b o,b ∉ [z,TO,i1,i2]->s.heap.get? b=some o->h''.get? b=some o:=λb o n q=>kk b o (λy=>n (by simp[y])) (λy=>n (by simp[y])) (λy=>n (by simp[y])) (λy=>n (by simp[y])) q
  have tup:h''.get? s.heap.objs.size=some { cls:=.type "tuple",data:=.seq #[u1,u2] }:=g2.extBut _ _ (Q0m (Q01 h1)) q5
  have I1:Inv X pins σ (upd H s.heap.objs.size (.tup [x,y])) { s with heap:=h'' }:=by
   refine I.step (g':=s.gens) (d':=s.drawn) (t':=s.toks) (ch:=[z,TO,i1,i2]) (λb hb=>?_) (λb o _ _ hc q _=>kn b o hc q) (λb o _ _ hc q _=>⟨o.slots,kn b o hc q⟩) (λb o _ q n=>?_) (λb o hc q=>⟨o,kn b o hc q⟩) (λb ws q=>?_) (λb o v q=>?_) (λb ps q=>?_) (λm hm=>?_) (λb o q=>?_) I.bare
   . have hb':b∈[z,TI,TO,i1,i2]:=by
      have hb:b=z\/b=TO\/b=i1\/b=i2:=by simpa using hb
      rcases hb with rfl|rfl|rfl|rfl <;> simp
     obtain⟨f0,f1,f2,f3,f4,f5⟩:=hf b hb'
     exact⟨f3,f1,f4,f5⟩
   . rw[au (ne1 b o q)];exact n
   . rw[au (aO q fr)];exact q
   . rw[au (aO q fr)];exact q
   . exact⟨#[],by rw[au (aO q fr),q];simp⟩
   . obtain⟨o,es,ep,ho,r⟩:=hm
     exact⟨o,es,ep,kk _ o (Ne.symm (hf z (by simp)).2.1) (Ne.symm (hf TO (by simp)).2.1) (Ne.symm (hf i1 (by simp)).2.1) (Ne.symm (hf i2 (by simp)).2.1) ho,r⟩
   . by_cases hb:b=s.heap.objs.size
     . subst hb
       rw[aF] at q;cases q
       exact⟨cX,[u1,u2],.cons qR (.cons qT .nil),⟨_,tup,rfl,_,rfl⟩⟩
     . rw[au hb] at q
       have nn:∀c v,H c=some v->c ∉ [z,TO,i1,i2]:=λc v e hm=>by
        have hm':c∈[z,TI,TO,i1,i2]:=by
         have hm:c=z\/c=TO\/c=i1\/c=i2:=by simpa using hm
         rcases hm with rfl|rfl|rfl|rfl <;> simp
        have:=(hf c hm').1
        rw[e] at this;cases this
       refine(I.hok b o q).stay (λc v hc' y=>kn c v ?_ y) (λc y=>by rw[au (aO y fr)];exact y) λc ws y=>by rw[au (aO y fr)];exact y
       rcases hc' with y|y
       . rw[y];exact nn b o q
       . exact nn c _ y
  refine⟨.ref s.heap.objs.size,_,I1,rfl,⟨s.heap.objs.size,x,y,fr,rfl,λws hw=>by rw[I.vN hw hq1];exact hx,λws hw=>by rw[I.vN hw hq2];exact hy,rfl⟩,⟨u1,u2,g1,?_,?_,?_,?_⟩,λb hb=>?_⟩
  . exact kk TI _ D.TIz D.TITO D.TIi1 D.TIi2 h2
  . exact g2.extBut _ _ D.TOz q2
  . exact q3.at λo q=>g2.extBut _ _ D.i1z q
  . exact q4.at λo q=>g2.extBut _ _ D.i2z q
  . rw[au (Q08 (Gx b hb))]
    exact(hf b hb).1
 done:=by
  intro X hP hw hK hc i pins s σ H E I hf st hg
  subst hP hw hK
  obtain⟨oa,ob,h1,h2,h3,h4,h5⟩:=st
  obtain⟨xs,ys,hq1,hq2,hend⟩:=hg
  obtain⟨wH,nG,p1,hz1⟩:=I.list hq1
  obtain⟨its2,nH,p2,hz2⟩:=I.list hq2
  have e1:=nG.length
  have e2:=nH.length
  refine wpAny_pyNext_zip_end (I.ok.hd hc) D h1 h2 h3 h4 h5 p1.isList p2.isList (by
   rcases hend with q|q
   . exact .inl (by simp;omega)
   . exact .inr (by simp;omega)) λh' hk=>⟨rfl,?_⟩
  refine I.step (g':=s.gens) (d':=s.drawn) (t':=s.toks) (ch:=[z,TO,i1,i2]) (λb hb=>?_) (λb o _ _ hc q _=>?_) (λb o _ _ hc q _=>?_) (λb o _ q n=>n) (λb o hc q=>?_) (λb ys q=>q) (λb o v q=>q) (λb ps q=>⟨#[],by rw[q];simp⟩) (λm hm=>?_) (λb o q=>?_) I.bare
  . have hb':b∈[z,TI,TO,i1,i2]:=by
     have hb:b=z\/b=TO\/b=i1\/b=i2:=by simpa using hb
     rcases hb with rfl|rfl|rfl|rfl <;> simp
    obtain⟨f0,f1,f2,f3,f4,f5⟩:=hf b hb'
    exact⟨f3,f1,f4,f5⟩
  . exact hk b o (λy=>hc (by simp[y])) (λy=>hc (by simp[y])) (λy=>hc (by simp[y])) (λy=>hc (by simp[y])) q
  . exact⟨o.slots,hk b o (λy=>hc (by simp[y])) (λy=>hc (by simp[y])) (λy=>hc (by simp[y])) (λy=>hc (by simp[y])) q⟩
  . exact⟨o,hk b o (λy=>hc (by simp[y])) (λy=>hc (by simp[y])) (λy=>hc (by simp[y])) (λy=>hc (by simp[y])) q⟩
  . obtain⟨o,es,ep,ho,r⟩:=hm
    exact⟨o,es,ep,hk _ o (Ne.symm (hf z (by simp)).2.1) (Ne.symm (hf TO (by simp)).2.1) (Ne.symm (hf i1 (by simp)).2.1) (Ne.symm (hf i2 (by simp)).2.1) ho,r⟩
  . have nn:∀c v,H c=some v->∀y∈[z,TI,TO,i1,i2],c≠y:=λc v e y hy=>aO e (hf y hy).1
    refine(I.hok b o q).stay (λc v hc' y=>hk c v ?_ ?_ ?_ ?_ y) (λ_ y=>y) λ_ _ y=>y <;> (rcases hc' with y|y)
    all_goals first
     |(rw[y];exact nn b o q _ (by simp))
     |exact nn c _ y _ (by simp)
 self:=λA i s Q E st q=>by
  obtain⟨oa,ob,h1,_⟩:=st
  exact wpAny_pyIter_zip h1 q
noncomputable def afr (K:W.Frag) (ta:TA):TI:=λσ H R=>ta σ H λvs H1=>∃a b,vs=[.ref a,.ref b]/\(∃xs,aG K H1 a xs)/\(∃ys,aG K H1 b ys)/\R (Xe K a b) H1
section
variable {X:Cx}
theorem afs {elts:List Expr}{k:Nat}{tpos:Pos}{a b:Expr}{ta:TA}{p pos:Pos}(hg:Gl X "zip")(hm:X.mg "zip"=none)(ha:PA X [a,b] ta)(hs:starEach [a,b] X.env=[(false,eval a X.env),(false,eval b X.env)]:=by rfl)
 (hs2:starEach [b] X.env=[(false,eval b X.env)]:=by rfl):PI X (.Tuple elts k tpos) (.Call (.Name "zip" p) [a,b] [] pos) (afr X.K ta):=by
 intro pins s σ H R I h
 refine Call_ (jM I hg hm boot_zip (PyProof.Rows.callWith_type1 (aP (ha pos pins s σ H _ I h) λus s1 ⟨vs,H1,I1,r1,q1⟩=>?_) (by rw[hs,hs2]) (by rw[hs2];rfl)))
 obtain⟨l1,l2,e,⟨xs,hq1⟩,⟨ys,hq2⟩,q⟩:=q1
 subst e
 obtain⟨u1,u2,rfl,qR,qT⟩:=vals2 r1
 cases qR
 cases qT
 obtain⟨wH,nG,p1,hz1⟩:=I1.list hq1
 obtain⟨its2,nH,p2,hz2⟩:=I1.list hq2
 have a1:l1<s1.heap.objs.size:=by obtain⟨_,e,_⟩:=p1.isList;exact Q01 e
 have a2:l2<s1.heap.objs.size:=by obtain⟨_,e,_⟩:=p2.isList;exact Q01 e
 refine call_zip_2 p1.isList p2.isList λh' q1 q2 q3 q4 q5 q6 q7=>?_
 refine wpAny_pyIter_zip q1 ?_
 have I2:Inv X pins σ H1 { s1 with heap:=h' }:=I1.kept (t':=s1.toks) q7
 have Dz:ZipApart (s1.heap.objs.size+4) (s1.heap.objs.size+2) (s1.heap.objs.size+3) s1.heap.objs.size (s1.heap.objs.size+1) l1 l2:=by
  have b1:@LT.lt Nat _ l1 s1.heap.objs.size:=a1
  have b2:@LT.lt Nat _ l2 s1.heap.objs.size:=a2
  constructor <;> (intro z;have z':(_:Nat)=_:=z;omega)
 refine⟨s1.heap.objs.size+4,[s1.heap.objs.size+4,s1.heap.objs.size+2,s1.heap.objs.size+3,s1.heap.objs.size,s1.heap.objs.size+1],_,_,H1,rfl,I2,afq Dz,⟨.none,.none,q1,q2,q3,q4,q5⟩,λb hb=>?_,q⟩
 have hb:s1.heap.objs.size<=b:=by
  have hb:b=s1.heap.objs.size+4\/b=s1.heap.objs.size+2\/b=s1.heap.objs.size+3\/b=s1.heap.objs.size\/b=s1.heap.objs.size+1:=by simpa using hb
  rcases hb with z|z|z|z|z <;> rw[z]
  . exact Q12 _ _
  . exact Q12 _ _
  . exact Q12 _ _
  . exact Q02 _
  . exact Q12 _ _
 exact I1.k_ hb (I1.hok.fresh hb)
end
end L2
namespace HT
open PySem PyProof.Rows L2
section
open PySem.SeqAt
open PySem.AutoSeq1 (wpAny_loadPart')
open PySem.MeetsSeq PySem.MeetsSeq2 PySem.MeetsSeq3
end
section
variable {prog:Program}{w:World}{A:Around}{E:Value->Shared->Prop}{s:Shared}
end
end HT
namespace L2
open PySem PySem.Spec PyProof.Rows
section
variable {X:Cx}
end
inductive jx (K:W.Frag) (H:Hp):Nat->V->V->Bool->Prop
 |ref {n:Nat} (a:Addr):jx K H n (.ref a) (.ref a) true
 |int {n:Nat} (a b:Int):jx K H n (.int a) (.int b) (decide (a=b))
 |str {n:Nat} (a b:Str):jx K H n (.str a) (.str b) (decide (a=b))
 |is {n:Nat} (a:Int) (b:Str):jx K H n (.int a) (.str b) false
 |si {n:Nat} (a:Str) (b:Int):jx K H n (.str a) (.int b) false
 |lst {n:Nat} {a b:Addr} {xs ys:List V} {e:Nat->Bool} (ne:a≠b) (ha:aG K H a xs) (hb:aG K H b ys) (hl:xs.length=ys.length) (he:∀(j:Nat) (x y:V),xs[j]? =some x->ys[j]? =some y->jx K H n x y (e j)):
   jx K H (n+1) (.ref a) (.ref b) ((List.range xs.length).all e)
 |tup {n:Nat} {a b:Addr} {xs ys:List V} {e:Nat->Bool} (ne:a≠b) (ha:aD K H a xs) (hb:aD K H b ys) (he:∀(j:Nat) (x y:V),xs[j]? =some x->ys[j]? =some y->jx K H n x y (e j)):
   jx K H (n+1) (.ref a) (.ref b) ((List.range (min xs.length ys.length)).all e && xs.length == ys.length)
section
variable {X:Cx}{pins:List (Addr × Obj)}{σ:St}{H:Hp}{s:Shared}
theorem Vals.at:∀{xs:List V}{us:List Value},Vals xs us->∀(j:Nat) (h:j<us.length),∃x,xs[j]? =some x/\RelV x us[j]
 |_,_,.nil,j,h=>absurd h (by simp)
 |_,_,.cons a r,0,h=>⟨_,rfl,a⟩
 |_,_,.cons a r,j+1,h=>by
  obtain⟨x,h1,h2⟩:=Vals.at r j (by simpa using h)
  exact⟨x,by simpa using h1,h2⟩
theorem jx.Xf (I:Inv X pins σ H s){n:Nat}{x y:V}{b:Bool}(h:jx X.K H n x y b):∀(A:Around) (u v:Value),RelV x u->RelV y v->A.units+n<cLine->SeqAt.EqAt A s u v b:=by
 induction h with
 |ref a=>
  intro A u v ru rv hu
  cases ru
  cases rv
  exact SeqAt.EqAt.same _
 |int a b=>
  intro A u v ru rv hu
  obtain⟨t,rfl⟩:=ru
  obtain⟨t',rfl⟩:=rv
  exact SeqAt.EqAt.int_int a t b t'
 |str a b=>
  intro A u v ru rv hu
  obtain⟨t,rfl⟩:=ru
  obtain⟨t',rfl⟩:=rv
  have e:decide (a=b)=(a == b):=by
   by_cases z:a=b
   . rw[decide_eq_true z,z];simp
   . rw[decide_eq_false z];exact(beq_eq_false_iff_ne.mpr z).symm
  rw[e]
  exact SeqAt.EqAt.str_str a t b t'
 |is a b=>
  intro A u v ru rv hu
  obtain⟨t,rfl⟩:=ru
  obtain⟨t',rfl⟩:=rv
  exact SeqAt.EqAt.int_str a t b t'
 |si a b=>
  intro A u v ru rv hu
  obtain⟨t,rfl⟩:=ru
  obtain⟨t',rfl⟩:=rv
  exact SeqAt.EqAt.str_int a t b t'
 |@lst n a b xs ys e ne ha hb hl he ih=>
  intro A u v ru rv hu
  cases ru
  cases rv
  obtain⟨its,r1,p1,_⟩:=I.list ha
  obtain⟨its2,r2,p2,_⟩:=I.list hb
  have l1:=r1.length
  have l2:=r2.length
  refine .of_refs ne ?_
  have q:xs.length=its.toArray.size:=by rw[Q07];exact l1
  rw[q]
  refine SeqAt.RcAt.lists p1.isList p2.isList (by rw[Q07,Q07];omega) (by omega) λj h1 h2=>?_
  obtain⟨x',e1,q1⟩:=Vals.at r1 j (by simpa using h1)
  obtain⟨y',e2,q2⟩:=Vals.at r2 j (by simpa using h2)
  refine ih j x' y' e1 e2 _ _ _ (by simpa using q1) (by simpa using q2) ?_
  show A.units+1+n<cLine
  omega
 |@tup n a b xs ys e ne ha hb he ih=>
  intro A u v ru rv hu
  cases ru
  cases rv
  obtain⟨its,r1,p1,_⟩:=I.tuple ha
  obtain⟨its2,r2,p2,_⟩:=I.tuple hb
  have l1:=r1.length
  have l2:=r2.length
  refine .of_refs ne ?_
  have q:xs.length=its.toArray.size:=by rw[Q07];exact l1
  have q':ys.length=its2.toArray.size:=by rw[Q07];exact l2
  rw[q,q']
  refine SeqAt.RcAt.tuples p1 p2 (by omega) λj h1 h2=>?_
  obtain⟨x',e1,q1⟩:=Vals.at r1 j (by simpa using h1)
  obtain⟨y',e2,q2⟩:=Vals.at r2 j (by simpa using h2)
  refine ih j x' y' e1 e2 _ _ _ (by simpa using q1) (by simpa using q2) ?_
  show A.units+1+n<cLine
  omega
noncomputable def Xg (K:W.Frag) (H:Hp) (n:Nat) (xs ys:List V) (e:Nat->Bool):Prop:=∀(j:Nat) (x y:V),xs[j]? =some x->ys[j]? =some y->jx K H n x y (e j)
noncomputable def Xh (K:W.Frag) (n:Nat):R2:=λx y H Q=>∃a b xs ys e,x=.ref a/\y=.ref b/\Xg K H n xs ys e/\
 ((aG K H a xs/\aG K H b ys/\((xs.length=ys.length/\Q (.bl ((List.range xs.length).all e)) H)\/(xs.length≠ys.length/\Q (.bl false) H)))\/
  (aD K H a xs/\aD K H b ys/\Q (.bl ((List.range (min xs.length ys.length)).all e && xs.length == ys.length)) H))
theorem aft {n:Nat}(hu:X.A.units+1+n<cLine):dJ X (compareOp .Eq) (Xh X.K n):=by
 intro pins s σ H x y v u Q I rx ry h
 obtain⟨a,b,xs,ys,e,rfl,rfl,hd,h⟩:=h
 cases rx
 cases ry
 rcases h with⟨ha,hb,h⟩|⟨ha,hb,q⟩
 . obtain⟨its,r1,p1,_⟩:=I.list ha
   obtain⟨its2,r2,p2,_⟩:=I.list hb
   have l1:=r1.length
   have l2:=r2.length
   rcases h with⟨hl,q⟩|⟨hl,q⟩
   . have z:xs.length=its.toArray.size:=by rw[Q07];exact l1
     rw[z] at q
     refine SeqAt.eq_listAt (e:=e) p1.isList p2.isList (by rw[Q07,Q07];omega) (by omega) (λj h1 h2=>?_) ⟨.bl _,H,I,rfl,q⟩
     obtain⟨x',e1,q1⟩:=Vals.at r1 j (by simpa using h1)
     obtain⟨y',e2,q2⟩:=Vals.at r2 j (by simpa using h2)
     refine(hd j x' y' e1 e2).Xf I _ _ _ (by simpa using q1) (by simpa using q2) ?_
     show X.A.units+1+n<cLine
     omega
   . refine SeqAt.eq_list_lengthsAt p1.isList p2.isList ?_ (by omega) ⟨.bl false,H,I,rfl,q⟩
     rw[Q07,Q07]
     simp
     omega
 . obtain⟨its,r1,p1,_⟩:=I.tuple ha
   obtain⟨its2,r2,p2,_⟩:=I.tuple hb
   have l1:=r1.length
   have l2:=r2.length
   have z:xs.length=its.toArray.size:=by rw[Q07];exact l1
   have z':ys.length=its2.toArray.size:=by rw[Q07];exact l2
   rw[z,z'] at q
   refine SeqAt.eq_tupleAt (e:=e) p1 p2 (by omega) (λj h1 h2=>?_) ⟨.bl _,H,I,rfl,q⟩
   obtain⟨x',e1,q1⟩:=Vals.at r1 j (by simpa using h1)
   obtain⟨y',e2,q2⟩:=Vals.at r2 j (by simpa using h2)
   refine(hd j x' y' e1 e2).Xf I _ _ _ (by simpa using q1) (by simpa using q2) ?_
   show X.A.units+1+n<cLine
   omega
end
noncomputable def afu (e:Addr) (l:List Env) (h h':Heap):Prop:=
 (∀b o,b ∉ frs l->b≠e->h.get? b=some o->h'.get? b=some o)/\∀b o,b≠e->h.get? b=some o->∃sl,h'.get? b=some { o with slots:=sl }
theorem Gy {f:Array Value->Array Value}{o:Obj}{vs:Array Value}(h:o.data=.fields vs):Obj.mapFields f o={ o with data:=.fields (f vs) }:=by
 obtain⟨c,d,da,sl⟩:=o
 have h:da=.fields vs:=h
 subst h
 rfl
section
variable {M:Model}{A:Around}{E:Value->Shared->Prop}{s:Shared}
theorem Xi {base:Heap}{env:Env}{outer:List Env}{L e:Addr}{oe:Obj}{vs:Array Value}{head:Value}{had:Bool}{Q:Unit->Shared->Prop}
 (hfr:A.frames=some (env::outer)) (hl:s.heap.FunFrames base (env::outer)) (hf:env.frame=some L) (he:s.heap.get? e=some oe) (hd:oe.data=.fields vs) (hsz:1<vs.size)
 (h:∀(h':Heap) (T:Addr),s.heap.objs.size<=T->afu e (env::outer) s.heap h'->h'.get? e=some { oe with data:=.fields (vs.setIfInBounds 1 (.ref T)) }->(∃oT ts,h'.get? T=some oT/\oT.data=.fields ts/\ts[3]? =some (rawInt L))->Q () { s with heap:=h' }):
 wpAny M A (do let a <-frameOf env;let pl <-entryPlaceOf L had;let b <-EntryCells.newEntry head a .none (rawInt L) .none pl;setField (.ref e) 1 b) Q E s:=by
 have nfr:e ∉ (env::outer).filterMap (·.frame):=λz=>by
  obtain⟨_,o,ho,hn⟩:=hl.mem z
  rw[he] at ho
  cases ho
  exact hn vs hd
 refine Q00 (wpAny_frameOf_fun hfr hl hf λh1 x1=>?_)
 refine Q00 (wpAny_entryPlaceOf λpl Xj=>?_)
 unfold EntryCells.newEntry newFields
 refine Q00 (wpAny_newObj_type ?_ (Xj.sizeOk5 _ _ _ _ _))
 have e1:h1.get? e=some oe:=(x1.2.1 e nfr).trans he
 generalize hob:({ cls:=.type "traceback",dict:=none,data:=.fields ([head,.ref L,.none,rawInt L,.none]++(if pl.isEmpty then List.replicate 6 Value.none else pl)).toArray }:Obj)=ob
 have e2:(h1.push ob).get? e=some oe:=Q04 ob e1
 have nTe:h1.objs.size≠e:=Q0m (Q01 e1)
 have afx:({ oe with data:=.fields (vs.setIfInBounds 1 (.ref h1.objs.size)) }:Obj).isFreed=false:=Obj.isFreed_of_fields rfl
 have em:Obj.mapFields (·.setIfInBounds 1 (Value.ref h1.objs.size)) oe={ oe with data:=.fields (vs.setIfInBounds 1 (.ref h1.objs.size)) }:=Gy hd
 refine wpAny_setField e2 hd hsz (h _ h1.objs.size (Q1h x1.1.symm) ⟨λb o hb hbe ho=>?_,λb o hbe ho=>?_⟩ ?_ ?_)
 . rw[Q13 _ _ (Ne.symm hbe)]
   exact Q04 ob ((x1.2.1 b hb).trans ho)
 . obtain⟨sl,hs⟩:=x1.2.2 b o ho
   refine⟨sl,?_⟩
   rw[Q13 _ _ (Ne.symm hbe)]
   exact Q04 ob hs
 . have:=Q16 (Obj.mapFields (·.setIfInBounds 1 (Value.ref h1.objs.size))) e2 (by rw[em];exact afx)
   rw[em] at this
   exact this
 . refine⟨ob,_,?_,by rw[<-hob],?_⟩
   . rw[Q13 _ _ (Ne.symm nTe)]
     exact Q0c h1 (by rw[<-hob];rfl)
   . first|(simp;done)|(rcases Xj with rfl|⟨_,_,_,_,_,_,_,rfl⟩ <;> simp)
structure Tr (h:Heap) (e T:Addr) (cls fl:Value):Prop where
 ex:∃oe vs,h.get? e=some oe/\oe.cls=cls/\oe.dict=none/\oe.data=.fields vs/\vs[1]? =some (.ref T)
 tb:∃oT ts,h.get? T=some oT/\oT.data=.fields ts/\ts[3]? =some fl
 ne:T≠e
end
theorem cO.ex {P:Program}{w:World}{H:Hp}{h:Heap}{a:Addr}{o:HO}(x:cO P w H h a o):∃ob,h.get? a=some ob:=by
 cases o with
 |lst xs=>obtain⟨_,_,_,_,e⟩:=x;exact⟨_,e⟩
 |tup xs=>obtain⟨_,_,_,ob,e,_⟩:=x;exact⟨ob,e⟩
 |dK kvs=>obtain⟨_,_,_,_,ob,_,_,e,_⟩:=x;exact⟨ob,e⟩
 |dT kvs=>obtain⟨_,_,_,_,ob,_,_,e,_⟩:=x;exact⟨ob,e⟩
 |set S n=>obtain⟨ob,_,_,_,e,_⟩:=x;exact⟨ob,e⟩
 |ins C dx fs=>obtain⟨_,_,_,e,_⟩:=x;exact⟨_,e⟩
 |own y=>exact x
 |xd fs=>obtain⟨_,⟨ob,_,_,e,_⟩,_⟩:=x;exact⟨ob,e⟩
 |rng lo hi=>obtain⟨_,_,_,e⟩:=x;exact⟨_,e⟩
 |cg ob u=>obtain⟨e,_⟩:=x;exact⟨_,e⟩
 |dF ps=>exact⟨_,show h.get? a=some _ from x⟩
 |met f y=>exact⟨_,show h.get? a=some _ from x⟩
 |ext φ=>obtain⟨_,⟨ob,e⟩,_⟩:=x;exact⟨ob,e⟩
section
variable {X:Cx}{pins:List (Addr × Obj)}{σ:St}{H:Hp}{s:Shared}
theorem Heap.Xk {h:Heap}{a:Addr}(e:h.objs.size<=a):h.get? a=none:=by
 cases q:h.get? a with
 |none=>rfl
 |some o=>exact absurd (Q0a (Q01 q) e) (Q0l _)
theorem Inv.tQ (I:Inv X pins σ H s)(hex:X.ex=[]){a:Addr}(e:s.heap.get? a=none):X.s₀.heap.get? a=none:=by
 cases q:X.s₀.heap.get? a with
 |none=>rfl
 |some o=>
  obtain⟨o',e'⟩:=I.base.there a o q (by rw[hex];simp)
  rw[e] at e';cases e'
theorem Inv.Xl (I:Inv X pins σ H s)(hex:X.ex=[]){a T:Addr}{h':Heap}(ha:X.s₀.heap.get? a=none)(hT:X.s₀.heap.get? T=none)(na:H a=none)(nT:H T=none)
 (k1:∀b o,b ∉ frs X.stack->b≠a->b≠T->s.heap.get? b=some o->h'.get? b=some o) (k2:∀b o,b≠a->b≠T->s.heap.get? b=some o->∃sl,h'.get? b=some { o with slots:=sl }):
 Un (frs X.outer) [] X.H₀ H X.s₀.heap h'/\cC X.prog X.w H h':=by
 have B:=I.base
 rw[hex] at B
 have old:∀b o,X.s₀.heap.get? b=some o->b≠a/\b≠T/\b≠X.env.locals:=λb o e=>by
  have hb:=Q01 e
  exact⟨(λz=>by rw[z,ha] at e;cases e),(λz=>by rw[z,hT] at e;cases e),λz=>Q0l _ (Q0a (z ▸ hb) I.ok.above)⟩
 refine⟨⟨λb o e n hf _=>?_,λb o e n hf _=>?_,λb o e n _=>B.free b o e n (by simp),λb o e _=>?_,B.tups,B.gW,B.iy⟩,λb o e=>(I.hok b o e).stay (λc u hc r=>?_) (λ_ r=>r) λ_ _ r=>r⟩
 . obtain⟨o1,o2,o3⟩:=old b o e
   refine k1 b o (λz=>?_) o1 o2 (B.keep b o e n hf (by simp))
   rcases List.mem_cons.mp (I.sV b z) with z|z
   . exact o3 z
   . exact hf z
 . obtain⟨o1,o2,o3⟩:=old b o e
   obtain⟨sl,e1⟩:=B.slot b o e n hf (by simp)
   obtain⟨sl',e2⟩:=k2 b _ o1 o2 e1
   exact⟨sl',e2⟩
 . obtain⟨o1,o2,o3⟩:=old b o e
   obtain⟨o',e1⟩:=B.there b o e (by simp)
   obtain⟨sl,e2⟩:=k2 b o' o1 o2 e1
   exact⟨_,e2⟩
 . have hc':∃v,H c=some v:=by
    rcases hc with z|z
    . exact⟨o,by rw[z];exact e⟩
    . exact⟨_,z⟩
   obtain⟨v,hv⟩:=hc'
   refine k1 c u (λz=>?_) (λz=>?_) (λz=>?_) r
   . rw[I.vL c z] at hv;cases hv
   . rw[z,na] at hv;cases hv
   . rw[z,nT] at hv;cases hv
end
noncomputable def CXE (P:Program) (w:World):iC:=λouter H s E e s'=>∃(a T C:Addr) (H':Hp),e=.ref a/\Tr s'.heap a T (.ref C) .none/\s.heap.get? a=none/\s.heap.get? T=none/\H' a=none/\H' T=none/\s'.os=s.os/\AllBare s'.gens/\Un (frs outer) [] H H' s.heap s'.heap/\cC P w H' s'.heap/\E (.ref C) none H'
section
variable {M:Model}{A:Around}{E:Value->Shared->Prop}{s:Shared}
end
section
variable {X:Cx}{pins:List (Addr × Obj)}{σ:St}{H:Hp}{s:Shared}
end
noncomputable def afz (X:Cx) (pins:List (Addr × Obj)) (σ:St) (Ek:XK) (e:Value) (s':Shared):Prop:=∃H s,Inv X pins σ H s/\CXE X.prog X.w X.stack H s Ek e s'
noncomputable def PX (X:Cx) (Ek:XK) (e:Expr) (t:TE):Prop:=
 ∀(pins:List (Addr × Obj)) (s:Shared) (σ:St) (H:Hp) (Q:VK),Inv X pins σ H s->t σ H Q->wpAny (model X.prog X.w) X.A (eval e X.env) (EP X pins σ Q) (afz X pins σ Ek) s
section
variable {X:Cx}{k:Nat}{f:Addr}{fd:FuncData}{ps:List Str}{sp:Sp}{d8:List V}{ds:List Value}{Ek:XK}{x:Str}{p pos:Pos}{e:Expr}{es:List Expr}{t:TA}{te:TE}
end
end L2
namespace L2
open PySem PySem.Spec PyProof.Rows PySem.W
theorem Gz {M:Model}{A:Around}{E:Value->Shared->Prop}{K:Frag}{s:Shared}{a C D:Addr}{oe:Obj}{b:Bool}{Q:Bool->Shared->Prop}(X:K.In s.heap)(h1:typeIn K (.ref D)=some (.type "type"))(h2:(clsIn K D).isSome=true)(h3:subIn K (.ref D) (.type "BaseException")=some true)
 (h4:subIn K (.ref C) (.ref D)=some b) (he:s.heap.get? a=some oe) (hc:oe.cls=.ref C) (hq:Q b s):wpAny M A (excMatches (.ref a) (.ref D)) Q E s:=by
 obtain⟨h,g,d,t,os⟩:=s
 have L1:=looks_typeIn (M:=M) X h1
 have L2:Looks M h (isSubtype (.type "type") (.type "tuple")) false:=Looks.of_pure tc_notTuple
 have L3:=looks_subIn (M:=M) X h3
 have L4:=looks_subIn (M:=M) X h4
 have L5:Looks M h (isType (.ref D)) true:=by
  unfold clsIn at h2
  split at h2
  . rename_i c' d' cd' sl' ho
    intro A' Q' E' s' k q
    unfold isType loadHead
    exact Q00 (wpAny_loadPart (k _ _ (X _ _ ho)) (Q03 q))
  . cases h2
 have L6:Looks M h (typeOf (.ref a)) (.ref C):=by
  have z:Looks M h (typeOf (.ref a)) oe.cls:=(Looks.ld (show h.get? a=some oe from he)).andThen .now
  rw[hc] at z
  exact z
 have L7:Looks M h (isInstance (.ref D) (.type "tuple")) false:=L1.andThen L2
 have L8:Looks M h (isExcClass (.ref D)) true:=λA' Q' E' s' k q=>by
  unfold isExcClass
  exact Q00 (L5 A' _ E' s' k (L3 A' _ E' s' k q))
 unfold excMatches
 refine Q00 (L7.at ?_)
 repeat (any_goals (first|assumption|with_reducible refine L8.at ?_|with_reducible refine L6.at ?_|with_reducible refine L4.at ?_|wp_step))
 cases b <;> (repeat (any_goals (first|assumption|wp_step)))
end L2
namespace L2
open PySem PySem.Spec PyProof.Rows
section
variable {X:Cx}{pins:List (Addr × Obj)}{σ:St}{H:Hp}{s:Shared}
theorem Inv.unbind {M:Model}{A:Around}{E:Value->Shared->Prop}{i:Nat}{x:Str}{pos:Pos}{Q:Unit->Shared->Prop}(I:Inv X pins σ H s)(hN:X.N.Nodup)(hi:X.N[i]? =some x)(hk:X.env.kindOf x=some .local)
 (h:∀s',Inv X pins (σ.set i none) H s'->Q () s'):wpAny M A (do bindName X.env x .none;unbindBehindTheSuite X.env x pos) Q E s:=by
 obtain⟨m,hn,hl⟩:=id I.loc
 have hcls:(X.env.scope.kind == .class || (X.env.scope.kind == .module && X.env.locals != X.env.globals))=false:=by rw[I.ok.kind];rfl
 have zy:i<σ.length:=by rw[I.len];exact(List.getElem?_eq_some_iff.mp hi).1
 have kW:=I.kW
 refine wpAny_nameGoes_keeps hk hn hcls λh' v hn' hs=>?_
 obtain⟨oL,_,_,hoL,_⟩:=id hn
 have tracked:cC X.prog X.w H h':=λb ob e=>by
  refine(I.hok b ob e).stay (λc w' hc q=>(hs.2 c ?_).trans q) (λ_ q=>q) λ_ _ q=>q
  rintro rfl
  rcases hc with rfl|hc
  . rw[I.free] at e;cases e
  . rw[I.free] at hc;cases hc
 refine h _ ⟨I.ok,I.os,I.bare,⟨λb o e n hb hx=>?_,λb o e n hb hx=>?_,I.base.free,λb o e hx=>?_,I.base.tups,I.base.gW,I.base.iy⟩,⟨_,hn',λj y v' e1 e2 e3=>?_⟩,λy c e=>?_,I.free,I.fQ,λp hp=>?_,tracked,by simpa using I.len⟩
 . exact(hs.2 b (Q08 (Q0a (Q01 e) I.ok.above))).trans (I.base.keep b o e n hb hx)
 . obtain⟨sl,e1⟩:=I.base.slot b o e n hb hx
   exact⟨sl,(hs.2 b (Q08 (Q0a (Q01 e) I.ok.above))).trans e1⟩
 . obtain⟨o',e1⟩:=I.base.there b o e hx
   exact⟨o',(hs.2 b (Q08 (Q0a (Q01 e) I.ok.above))).trans e1⟩
 . by_cases hj:j=i
   . subst hj
     rw[Q20 zy] at e2
     cases e2
   . rw[Q21 (Ne.symm hj)] at e2
     obtain⟨u',r',q⟩:=hl j y v' e1 e2 e3
     refine⟨u',r',?_⟩
     rcases q with⟨k,e⟩|⟨k,c,e,z⟩
     . refine .inl ⟨k,?_⟩
       have:y≠x:=λe=>hj (Er hN e1 (e ▸ hi))
       simp[this,e]
     . exact .inr ⟨k,c,e,z.sameBut hs (kW y c e)⟩
 . obtain⟨w',z⟩:=I.cell y c e
   exact⟨w',z.sameBut hs (kW y c e)⟩
 . obtain⟨e,n,ne,nf,d⟩:=I.pin p hp
   exact⟨(hs.2 p.1 ne).trans e,n,ne,nf,d⟩
noncomputable abbrev Cx.marked (X:Cx) (a:Addr):Cx:={ X with A:=X.A.mark (some (.ref a)),calm:=false,xe:=λ_ _=>False }
theorem Inv.marked (I:Inv X pins σ H s)(a:Addr):Inv (X.marked a) pins σ H s:=
 ⟨⟨I.ok.mod,I.ok.kind,I.ok.glob,I.ok.blt,I.ok.above,I.ok.inj,I.ok.has,I.ok.cab,(λz=>by cases z),I.ok.frames,I.ok.stk,I.ok.vK,I.ok.bs,I.ok.jm,I.ok.oZ,I.ok.qy,I.ok.iz,I.ok.lU⟩,I.os,I.bare,I.base,I.loc,I.cell,I.free,I.fQ,I.pin,I.hok,I.len⟩
theorem Inv.unmarked {a:Addr}(I:Inv (X.marked a) pins σ H s)(ok:X.Ok):Inv X pins σ H s:=⟨ok,I.os,I.bare,I.base,I.loc,I.cell,I.free,I.fQ,I.pin,I.hok,I.len⟩
end
noncomputable def Ends.un (D:Ends) (i:Nat):Ends:={ nx:=λσ H=>D.nx (σ.set i none) H,rt:=D.rt,bk:=λσ H=>D.bk (σ.set i none) H,ct:=λσ H=>D.ct (σ.set i none) H }
end L2
namespace L2
open PySem PySem.Spec PySem.Calls PyProof.Rows PySem.W PySem.Builtin PySem.Builtin.ObjectAttr PySem.Builtin.Getset_descriptor
structure tR (K:Frag) (C:Addr):Prop where
 ga:findIn K (.ref C) "__getattribute__"=some (some (.builtin "BaseException.__getattribute__"))
 gt:findIn K (.ref C) "__getattr__"=some none
 cl:findIn K (.ref C) "__class__"=some (some (.builtin "object.__class__"))
 ob:mroIn K C (.type "object")=some true
 bx:mroIn K C (.type "BaseException")=some true
 is:(clsIn K C).isSome=true
section
variable {prog:Program}{w:World}{A:Around}{E:Value->Shared->Prop}{K:Frag}{h:Heap}{g:Array GenState}{d:Drawn}{t:Nat}{os:OsState}{a C:Addr}{o:Obj}
theorem afA {nameV:Value}{M:Model}{Q:Unit->Shared->Prop}(X:K.In h)(Z:tR K C)(hx:h.get? a=some o)(hc:o.cls=.ref C)(hq:Q () ⟨h,g,d,t,os⟩):
 wpAny M A (checkBuiltinCall "BaseException.__getattribute__" ⟨[.ref a,nameV],[]⟩) Q E ⟨h,g,d,t,os⟩:=by
 have hk:builtinKind "BaseException.__getattribute__"=some .slot:=by decide +kernel
 have hsplit:splitId "BaseException.__getattribute__"=some ("BaseException","__getattribute__"):=by decide +kernel
 have ha:=F.args_bexc_ga (.ref a) nameV
 have L1:=looks_mroIn (M:=M) X Z.bx
 simp only[checkBuiltinCall,hk,hsplit]
 refine Q00 ?_
 . unfold isInstance
   repeat (first|(with_reducible refine wpAny_loadPart_at hx ?_;rw[hc])|with_reducible refine L1.at ?_|wp_step)
   exact hq
end
end L2
namespace L2
open PySem PySem.Spec PyProof.Rows
section
variable {X:Cx}{es:List Expr}{n k:Nat}{t:St->Hp->Prop}{pos:Pos}
end
noncomputable def dM (x:Str):List Key:=[Sum.inr x]
theorem Xm (x y:Str):fW (dM x) (dM y)=decide (x.cps.toList<y.cps.toList):=by
 unfold dM
 rw[Ac]
 by_cases e:(Sum.inr x:Key)=Sum.inr y
 . rw[if_pos e]
   have e:=Sum.inr.inj e
   subst e
   have h:¬x.cps.toList<x.cps.toList:=Q2t _
   rw[decide_eq_false h]
   rfl
 . rw[if_neg e]
   rfl
theorem GC {ss:List Str}{us:List Value}(r:Vals (ss.map V.str) us){i:Nat}(hi:i<us.length):∃x t,us.getD i Value.none=.str x t/\(ss.map dM).getD i []=dM x:=by
 have hl:=r.length
 rw[Q06] at hl
 have h1:(ss.map V.str)[i]? =some (V.str (ss[i]'(by omega))):=by rw[Q0g,Q05 (by omega)];rfl
 obtain⟨u,e1,t,e2⟩:=r.get h1
 subst e2
 refine⟨ss[i]'(by omega),t,by rw[Q0n,e1];rfl,?_⟩
 rw[Q0n,Q0g,Q05 (by omega)]
 rfl
theorem afB {prog:Program}{w:World}{s:Shared}{A:Around}{ss:List Str}{us:List Value}(r:Vals (ss.map V.str) us):Asks prog w A s us (O:=Xd) (λi=>(ss.map dM).getD i []):=by
 intro h2
 refine W.kas_kind (T:=.type "str") h2 (λv hv=>?_) rfl rfl ⟨rfl,λi j C hi hj q=>?_⟩
 . obtain⟨i,hi,e⟩:=Q19 hv
   obtain⟨x,t,e1,_⟩:=GC r hi
   rw[Q0n,Q05 hi] at e1
   have e1:us[i]=.str x t:=e1
   rw[<-e,e1]
   exact W.Looks.of_pure rfl
 . unfold W.kas_ask
   obtain⟨x,t,e1,e2⟩:=GC r hi
   obtain⟨y,u,e3,e4⟩:=GC r hj
   rw[e1,e3]
   refine W.kas_lt_str ?_
   have q:C (fW ((ss.map dM).getD i []) ((ss.map dM).getD j [])) s:=q
   rw[e2,e4,Xm] at q
   exact q
noncomputable def GD (K:PySem.W.Frag) (P:Addr) (lp:Pos) (qual:Str) (te:TE) (σ:St) (Q:VK):VK:=λx H1=>∃a xs,x=.ref a/\aG K H1 a xs/\xs.length<64/\bw P lp qual H1/\
 ∀c' H2,qP P lp qual c' H2->(∀b o,b≠P->H1 b=some o->H2 b=some o)->
 ∃W:List V->Hp->Prop,W [] H2/\(∀ks H3,W ks H3->qP P lp qual c' H3)/\(∀ks H3 y,W ks H3->xs[ks.length]? =some y->te (some y::σ) H3 λk H4=>W (ks++[k]) H4)/\
 ∀ks H3,W ks H3->ks.length=xs.length->∃ss:List Str,ks=ss.map V.str/\∀p:List Nat,p.Perm (List.range xs.length)->(p.map λi=>(ss.map dM).getD i []).Pairwise wG->∀D,H3 D=none->Q (.ref D) (upd H3 D (.lst (p.map λi=>xs.getD i .non)))
noncomputable def afC (K:W.Frag) (P:Addr) (lp:Pos) (qual:Str) (tl te:TE):TE:=λσ H Q=>tl σ H (GD K P lp qual te σ Q)
section
variable {X:Cx}
theorem afD {x:Str}{N':List Str}{l body:Expr}{params:Arguments}{scope:Scope}{lp kp p pos:Pos}{qual:Str}{c P:Addr}{tl te:TE}{k:Nat}(hg:Gl X "sorted")(hm:X.mg "sorted"=none)(hv:bootBuiltins "sorted"=some (.builtin "sorted"))(hr:cU k X.A)(hq:X.env.qual++"<lambda>"=qual)(hcode:X.env.code=.ref c)(C:PySem.W.CodeHd X.base c P)
 (B:BM X.mg X.base) (S:tO X x N' scope) (hdef:defaultsOf params X.env=([],[])) (hb:∀(cl:List (Str × Addr)) (pm:Value) (c':Addr) (ctv u:Value),bindArgs (PySem.W.kla_fn "<lambda>" qual params body scope cl pm (.ref c') ctv) ⟨[u],[]⟩=pure [(x,u)])
 (hl:PE X l tl) (he:∀(cl:List (Str × Addr)) (f c':Addr) (s:Shared) (H:Hp),PE (Aa X x N' scope cl qual f c' s H) body te) (hs:starEach [l] X.env=[(false,eval l X.env)]:=by rfl):
 PE X (.Call (.Name "sorted" p) [l] [⟨some "key",.Lambda params body scope lp,kp⟩] pos) (afC X.K P lp qual tl te):=by
 intro pins s σ H Q I h
 refine wpAny_Call_Name_kw (jM I hg hm hv ?_)
 have ha:PA X [l] (cj tl gj):=aj hl ak (by rw[hs];rfl)
 refine callWith_kw (aP (ha pos pins s σ H (λvs H1=>match vs with|[x]=>GD X.K P lp qual te σ Q x H1|_=>False) I h) λus s1 ⟨vs,H1,I1,r1,q1⟩=>?_) (by rw[hs];rfl) (by rw[hs];rfl)
 obtain⟨x',rfl⟩:∃x',vs=[x']:=by
  match vs,q1 with
  |[x'],_=>exact⟨x',rfl⟩
 have q1:GD X.K P lp qual te σ Q x' H1:=q1
 obtain⟨a,xs,rfl,GF,h64,T,cont⟩:=q1
 obtain⟨u,rfl,ru⟩:=vals1 r1
 cases ru
 show wpAny _ _ (evalAll [do let v <-eval (.Lambda params body scope lp) X.env;standAt pos;pure v]) _ _ s1
 obtain⟨cl,hclos,hsub,hget⟩:=Gg (scope:=scope) (env:=X.env) λy hy hf=>I1.ok.has y.1 (S.free y hy hf)
 refine wpAny_evalAll_cons (Q00 (PySem.W.kla_eval hdef ?_))
 rw[hq]
 refine afa I1 hcode C B T hclos λf c' pm ctv H2 s2 I2 L2' mono=>?_
 refine Q00 (wpAny_standAt (Q03 (wpAny_evalAll_nil ?_)))
 show wpAny _ _ (call (.builtin "sorted") [.ref a] [(Str.ofString "key",.ref f)]) _ _ s2
 obtain⟨W,w0,wL,wt,wf⟩:=cont c' H2 L2' mono
 have hPt:∃ps,H1 P=some (.dF ps):=by
  rcases T with e|⟨c₂,e,_⟩
  . exact⟨_,e⟩
  . exact⟨_,e⟩
 have hq2:aG X.K H2 a xs:=by
  obtain⟨ps,hP⟩:=hPt
  rcases GF with(z|⟨o,z⟩)|z
  . exact .inl (.inl (mono a _ (kO z hP (by intro z;cases z)) z))
  . exact .inl (.inr ⟨o,mono a _ (kO z hP (by intro z;cases z)) z⟩)
  . exact .inr z
 refine aP (afh (Q:=Q) (W:=W) I2 hq2 h64 w0 (λpl s' H' ks y u J wk hy ry=>?_) λpl s' H' ks us J wk hlen rk=>?_) λr s' ⟨v,H',J,rv,q⟩=>⟨v,H',J.pA,rv,q⟩
 . exact afb J S hr.hd hr.depth hsub hget (Q1n _ (Q0d _ Q0f)) (wL ks H' wk).2 (hb cl pm c' ctv) ry (he cl f c') (wt ks H' y wk hy)
 . obtain⟨ss,k1,k3⟩:=wf ks H' wk hlen
   subst k1
   exact⟨Xd,_,afB rk,λp p1 p2 D hD=>k3 p p1 p2 D hD⟩
end
variable {P:Program}{w:World}{K:W.Frag}{mg:Str->Option Value}{base:Heap}
section
variable {X:Cx}
noncomputable def afF (K:W.Frag) (n:Nat):R2:=λx y H Q=>(x=.non/\(∃b ys,y=.ref b/\aD K H b ys)/\Q (.bl false) H)\/Xh K n x y H Q
theorem Xn {n:Nat}(hu:X.A.units+1+n<cLine):dJ X (compareOp .Eq) (afF X.K n):=by
 intro pins s σ H x y v u Q I rx ry h
 rcases h with⟨rfl,⟨b,ys,rfl,hb⟩,q⟩|h
 . cases rx
   cases ry
   obtain⟨its,r1,p1,_⟩:=I.tuple hb
   exact SeqAt.RcAt.none_tuple p1 (by omega) _ _ _ _ ⟨.bl false,H,I,rfl,q⟩
 . exact aft hu pins s σ H x y v u Q I rx ry h
end
theorem lC.okL {x qual:Str}{st:Stmt}{f c:Addr}{fd:FuncData}{N ps:List Str}{k:Nat}{sp:Sp}(F:lC K x qual st f fd)(hc:fd.code=.ref c)(S:bC N ps (aL st))(len:∀vs H Q E,sp vs H Q E->vs.length=ps.length)
 (hbody:∀(A:Around) (outer:List Env) (s:Shared) (H:Hp) (vs:List V) (Q:VK) (E:XK),cU k (A.deeper (envOfC qual (aL st) s.heap.objs.size f (.ref c)))->sp vs H Q E->
   ∃t,fY (lA aC P w K mg base N qual (aL st) f (.ref c) A outer s H E).kZ (dW st) t/\t { nx:=λ_ H'=>Q .non H',rt:=Q } (start N vs) H):aq P w K mg base aC (k+1) f fd ps sp:=by
 obtain⟨oc,od,kV,doc,pm,an,cdv,ct,osl,rfl,lk,hcd⟩:=F.ex
 have hc:cdv=.ref c:=hc
 subst hc
 refine zL lk hcd S len λA outer s H vs Q E hr hsp=>?_
 obtain⟨t,h,q⟩:=hbody A outer s H vs Q E hr hsp
 exact⟨t,h.kZ,q⟩
noncomputable def Ae (tabs:List Addr) (H:Hp):Prop:=∀b,H b=none\/(∃o xs,H b=some (.cg o (.lst xs)))\/(b∈tabs/\H b=some (.dF #[]))
theorem afH {P:Program}{w:World}{K:W.Frag}{mg mb:Str->Option Value}{CX:iC}{k:Nat}{fa a:Addr}{fd:FuncData}{x:Str}{sp:Sp}{s₁:Shared}{vs:List Value}{ns:List Int}{tabs:List (Addr × Addr)}
 (KX:K.In s₁.heap) (hT:W.TabsAt tabs s₁.heap) (wI:W.noTabs K=true) (hbm:BM mg s₁.heap) (hns:s₁.heap.Ns mainGlobals mg) (hb:s₁.heap.Ns builtinsNs mb) (hbb:∀x:Str,x≠"__name__"->mb x=bootBuiltins x) (hlim:s₁.heap.NoLimit) (hg:s₁.gens=#[])
 (ha:s₁.heap.get? a=some { cls:=.type "list",data:=.seq vs.toArray }) (hi:IntsAre vs ns) (hl:ns.length<=sizeLine) (hr:cU k callerA)
 (F:∀base:Heap,K.In base->base.Ns mainGlobals mg->BM mg base->aq P w K mg base CX k fa fd [x] sp) (hbind:∀(s:Shared) (u:Value),BindsTo s fd ⟨[u],[]⟩ [(x,u)])
 (hsp:∀H:Hp,Ae (tabs.map (·.2)) H->(∀q∈tabs,H q.2=some (.dF #[]))->aG K H a (ns.map V.int)->sp [.ref a] H (λv _=>v=.bl true) λ_ _ _=>False)
 (hCX:∀H e s',CX [] H s₁ (λ_ _ _=>False) e s'->False):
 codeAny (model P w) callerA (.call (.ref fa) ⟨[.ref a],[]⟩) (λr s'=>r=.ok (.ret (.bool true))/\OldK s₁.heap s'.heap/\s'.os=s₁.os/\AllBare s'.gens) s₁:=by
 have rv:=Ws hi
 have lenV:=hi.length
 have tU:∀b,b∈tabs.map (·.2)->s₁.heap.get? b=some (W.tabObj #[]):=λb hm=>by
  obtain⟨q,hq,rfl⟩:=List.mem_map.mp hm
  exact(hT q hq).2
 have Xo:a ∉ tabs.map (·.2):=λhm=>by
  have:=tU a hm
  rw[ha] at this;cases this
 have core:∀H:Hp,Ae (tabs.map (·.2)) H->(∀q∈tabs,H q.2=some (.dF #[]))->aG K H a (ns.map V.int)->cC P w H s₁.heap->(∀b,H b≠none->b=a\/b∈tabs.map (·.2))->(H a≠none->K.lookup a=none)->
  codeAny (model P w) callerA (.call (.ref fa) ⟨[.ref a],[]⟩) (λr s'=>r=.ok (.ret (.bool true))/\OldK s₁.heap s'.heap/\s'.os=s₁.os/\AllBare s'.gens) s₁:=by
  intro H hO hPt hS hok hA hK
  have GJ:∀{b:Addr} {o:Obj},s₁.heap.get? b=some o->H b=none->(lR s₁.heap H).get? b=some o:=λe n=>acY e n
  have other:∀{b:Addr} {o:Obj},s₁.heap.get? b=some o->(∀us n,o.data≠ .seq us n)->(∀us,o.data≠ .fields us)->H b=none:=λ{b o} e d1 d2=>by
   cases q:H b with
   |none=>rfl
   |some u=>
    rcases hA b (by rw[q];simp) with e'|e'
    . subst e'
      rw[ha] at e;cases e
      exact absurd rfl (d1 _ _)
    . rw[tU b e'] at e;cases e
      exact absurd rfl (d2 _)
  have Af:∀{b:Addr} {m:Str->Option Value},s₁.heap.Ns b m->(lR s₁.heap H).Ns b m:=λ{b m} ⟨o,es,ep,e,d,r⟩=>⟨o,es,ep,GJ e (other e (by rw[d];intro us n z;cases z) (by rw[d];intro us z;cases z)),d,r⟩
  have Xp:K.In (lR s₁.heap H):=λb o e=>GJ (KX b o e) (by
   cases q:H b with
   |none=>rfl
   |some u=>
    rcases hA b (by rw[q];simp) with e'|e'
    . subst e'
      rw[hK (by rw[q];simp)] at e;cases e
    . have e2:=KX b o e
      rw[tU b e'] at e2;cases e2
      have:=List.all_eq_true.mp wI _ (W.mem_of_lookupK e)
      simp at this)
  have hM:Mod K mg (lR s₁.heap H):=⟨Xp,Af hns,⟨mb,Af hb,hbb⟩,let⟨mc,h1,h2⟩:=hlim;⟨mc,Af h1,h2⟩⟩
  have wJ:BM mg (lR s₁.heap H):=by
   obtain⟨bm,o,b1,b2,b3,b4,b5,b6,b7⟩:=hbm
   exact⟨bm,o,b1,b2,b3,GJ b4 (other b4 (by rw[b7];intro us n z;cases z) (by rw[b7];intro us z;cases z)),b5,b6,b7⟩
  have e0:qK P w K mg (lR s₁.heap H) callerA [] s₁ H:=⟨rfl,hM,λb o e=>acZ e,Q1h (acX _ _),trivial,λb hb=>absurd (show b∈([]:List Addr) from hb) (by simp),hok,.of_eq hg⟩
  refine codeAny_mono ((F _ Xp (Af hns) wJ).run callerA [] s₁ H ⟨[.ref a],[]⟩ [.ref a] [.ref a] _ _ hr e0 (hbind s₁ (.ref a)) (.cons rfl .nil) (hsp H hO hPt hS)) λr s' h=>?_
  cases r with
  |error e=>exact(hCX H e s' h).elim
  |ok fl=>
   cases fl with
   |next=>exact False.elim h
   |brk=>exact False.elim h
   |cont=>exact False.elim h
   |ret u=>
    obtain⟨v,H',os,bare,un,hok',r',q⟩:=h
    have q':v=.bl true:=q
    subst q'
    obtain rfl:u=Value.bool true:=r'
    have grown:∀b,b∈tabs.map (·.2)->∃ps,s'.heap.get? b=some (W.tabObj ps):=λb hm=>by
     obtain⟨q,hq,rfl⟩:=List.mem_map.mp hm
     obtain⟨more,e⟩:=un.iy _ _ (hPt q hq)
     exact⟨_,hok' _ _ e⟩
    have keep:∀b o,b ∉ tabs.map (·.2)->s₁.heap.get? b=some o->s'.heap.get? b=some o:=λb o hb e=>by
     cases q:H b with
     |none=>exact un.keep b o e q (by intro z;exact absurd (show b∈([]:List Addr) from z) (by simp)) (by simp)
     |some u=>
      rcases hO b with z|⟨ob,xs,z⟩|⟨z,_⟩
      . rw[q] at z;cases z
      . have z2:=un.gW b ob _ z
        obtain⟨e1,_⟩:=hok b _ z
        obtain⟨e2,_⟩:=hok' b _ z2
        rw[e] at e1;cases e1
        exact e2
      . exact absurd z hb
    refine⟨rfl,⟨λb o e=>?_,λb o e=>?_⟩,os,bare⟩
    . by_cases hb:b∈tabs.map (·.2)
      . obtain⟨ps,hP⟩:=grown b hb
        have e2:=tU b hb
        rw[e] at e2;cases e2
        obtain⟨q,hq,rfl⟩:=List.mem_map.mp hb
        exact .inr (.inl ⟨((hT q hq).1.tab (hT q hq).2).isCodeTable,rfl,#[],ps,rfl,by rw[Q2g];exact hP⟩)
      . exact .inl (keep b o hb e)
    . by_cases hb:b∈tabs.map (·.2)
      . obtain⟨ps,hP⟩:=grown b hb
        exact⟨_,hP⟩
      . exact⟨o,keep b o hb e⟩
 cases hk:K.lookup a with
 |some o=>
  have e:=KX a o hk
  rw[ha] at e
  cases e
  refine core (λb=>if b∈tabs.map (·.2) then some (.dF #[]) else none) (λb=>?_) (λq hq=>if_pos (Q2u hq)) (.inr ⟨_,vs.toArray,_,hk,rfl,rfl,rfl,by rw[Q07,lenV];exact hl,by simpa using rv⟩) (λb u z=>?_) (λb z=>?_) λz=>absurd (if_neg Xo) z
  . by_cases hb:b∈tabs.map (·.2)
    . exact .inr (.inr ⟨hb,if_pos hb⟩)
    . exact .inl (if_neg hb)
  . by_cases hb:b∈tabs.map (·.2)
    . have z':=(if_pos hb).symm.trans z
      cases z'
      exact tU b hb
    . have z':=(if_neg hb).symm.trans z
      cases z'
  . by_cases hb:b∈tabs.map (·.2)
    . exact .inr hb
    . exact absurd (if_neg hb) z
 |none=>
  refine core (λb=>if b∈tabs.map (·.2) then some (.dF #[]) else if b=a then some (.cg { cls:=.type "list",data:=.seq vs.toArray } (.lst (ns.map V.int))) else none) (λb=>?_) (λq hq=>if_pos (Q2u hq))
   (.inl (.inr ⟨{ cls:=.type "list",data:=.seq vs.toArray },(if_neg Xo).trans (if_pos rfl)⟩)) (λb u z=>?_) (λb z=>?_) λ_=>hk
  . by_cases hb:b∈tabs.map (·.2)
    . exact .inr (.inr ⟨hb,if_pos hb⟩)
    . by_cases hba:b=a
      . exact .inr (.inl ⟨_,_,(if_neg hb).trans (if_pos hba)⟩)
      . exact .inl ((if_neg hb).trans (if_neg hba))
  . by_cases hb:b∈tabs.map (·.2)
    . have z':=(if_pos hb).symm.trans z
      cases z'
      exact tU b hb
    . have z:=(if_neg hb).symm.trans z
      by_cases hba:b=a
      . have z':=(if_pos hba).symm.trans z
        cases z'
        subst hba
        exact⟨ha,by rw[Q06];exact hl,vs,_,rv,ha⟩
      . have z':=(if_neg hba).symm.trans z
        cases z'
  . by_cases hb:b∈tabs.map (·.2)
    . exact .inr hb
    . by_cases hba:b=a
      . exact .inl hba
      . exact absurd ((if_neg hb).trans (if_neg hba)) z
theorem afJ {l:W.OpenLaw}{n k:Nat}{q:Program}{loose:List Str}{XP:(Str->Option Value)->Heap->Prop}{YP:World->Heap->Prop}{d:DefRec}{K:Params->W.Frag}{sp:World->List (Addr × Addr)->Sp}{x:Str}{names:List Str}
 (hn:l.most=some n) (hn2:n<=sizeLine) (hdf:d.params.defaults=[]) (hr:cU k callerA)
 (hY:∀(w:World) (h:Heap),YP w h->(K w.params).In h) (wI:∀w:World,W.noTabs (K w.params)=true)
 (tb:∀w:World,∃tabs:List (Addr × Addr),(∀q'∈tabs,∃y∈names,W.tabIn (K w.params) y=some q')/\
   (∀(mg:Str->Option Value) (fa:Addr) (h:Heap),(K w.params).In h->h.Ns mainGlobals mg->mg d.name=some (.ref fa)->
   ∃fd:FuncData,(∀(s:Shared) (u:Value),BindsTo s fd ⟨[u],[]⟩ [(x,u)])/\
    ∀base:Heap,(K w.params).In base->base.Ns mainGlobals mg->BM mg base->aq l.prog w (K w.params) mg base aC k fa fd [x] (sp w tabs)))
 (hrec:∀y∈names,∃d',(recsOf q).find? (λe=>e.name == y)=some d')
 (hsp:∀(w:World) (tabs:List (Addr × Addr)) (H:Hp) (a:Addr) (ns:List Int),ns.length<=n->Ae (tabs.map (·.2)) H->(∀q∈tabs,H q.2=some (.dF #[]))->aG (K w.params) H a (ns.map V.int)->sp w tabs [.ref a] H (λv _=>v=.bl true) λ_ _ _=>False):
 W.WalkO q loose XP YP l.row.toRowW d [] (λf vs=>PySem.call f vs):=by
 refine Wr.aeH hn hdf λw s₀ s₁ mg mb fa o pm cd doc a vs ns G Y ho hd hcd hmg hobj hints hlen hg=>?_
 have KX:=hY w _ Y
 obtain⟨tabs,ht,F⟩:=tb w
 obtain⟨fd,hb,hF⟩:=F mg fa _ KX G.T.g hmg
 have hT:W.TabsAt tabs s₁.heap:=λq' hq=>by
  obtain⟨y,hy,hty⟩:=ht q' hq
  obtain⟨d',hd'⟩:=hrec y hy
  exact W.tab_of G.T KX hd' hty
 have hbm:BM mg s₁.heap:=by
  obtain⟨bm,ob,b1,b2,b3,b4,b5,b6⟩:=G.T.bmain
  refine⟨bm,ob,b1,b2,λz=>?_,b3,b4,b5,b6⟩
  obtain⟨o',es,ep,e,hd,_⟩:=G.T.g
  rw[z,e] at b3;cases b3
  rw[hd] at b6;cases b6
 exact afH KX hT (wI w) hbm G.T.g G.T.b G.T.builtins G.T.nolimit hg hobj hints (Q0e hlen hn2) hr hF hb (λH hO hP hS=>hsp w tabs H a ns hlen hO hP hS) λH e s' h=>h.elim
end L2
namespace Pb
open PySem L2 PyProof.Rows
mutual
inductive Kd where
 |num
 |eO
 |wK (fs:Fs)
 |rows (key by_:Str) (fs:Fs)
 |tree (k:Kd)
 |wM (fs:Fs)
inductive Fs where
 |nil
 |cons (x:Str) (k:Kd) (r:Fs)
end
noncomputable def Fs.names:Fs->List Str
 | .nil=>[]
 | .cons x _ r=>x::r.names
noncomputable def Fs.get:Fs->Str->Option Kd
 | .nil,_=>none
 | .cons y k r,x=>if x=y then some k else r.get x
noncomputable def Fs.at:Fs->Nat->Option (Str × Kd)
 | .nil,_=>none
 | .cons x k _,0=>some (x,k)
 | .cons _ _ r,i+1=>r.at i
noncomputable def Fs.snoc:Fs->Str->Kd->Fs
 | .nil,x,k=>.cons x k .nil
 | .cons y q r,x,k=>.cons y q (r.snoc x k)
theorem Fs.Xq:∀(fs:Fs) (x:Str) (k:Kd),(fs.snoc x k).names=fs.names++[x]
 | .nil,_,_=>rfl
 | .cons y q r,x,k=>by
   show y::(r.snoc x k).names=_
   rw[Fs.Xq r x k];rfl
theorem Fs.gZ:∀(fs:Fs) (i:Nat),fs.names[i]? =(fs.at i).map (·.1)
 | .nil,i=>by simp[Fs.names,Fs.at]
 | .cons x k r,0=>by simp[Fs.names,Fs.at]
 | .cons x k r,i+1=>by
   show(x::r.names)[i+1]? =_
   rw[List.getElem?_cons_succ,Fs.gZ r i];rfl
theorem Fs.Xr:∀{fs:Fs}{i:Nat},i<fs.names.length->∃x k,fs.at i=some (x,k)
 | .nil,i,h=>by simp[Fs.names] at h
 | .cons x k r,0,h=>⟨x,k,rfl⟩
 | .cons x k r,i+1,h=>Fs.Xr (fs:=r) (i:=i) (by simpa[Fs.names] using h)
theorem Fs.qU:∀{fs:Fs}{i:Nat}{x:Str}{k:Kd},fs.names.Nodup->fs.at i=some (x,k)->fs.get x=some k
 | .nil,_,_,_,_,h=>by cases h
 | .cons y q r,0,x,k,_,h=>by
   cases h
   simp[Fs.get]
 | .cons y q r,i+1,x,k,nd,h=>by
   have nd:(y::r.names).Nodup:=nd
   obtain⟨n1,n2⟩:=List.nodup_cons.mp nd
   have h:r.at i=some (x,k):=h
   have hm:x∈r.names:=Q0v (i:=i) (by rw[Fs.gZ,h];rfl)
   show(if x=y then some q else r.get x)=some k
   rw[if_neg (λe=>n1 (by rw[<-e];exact hm))]
   exact Fs.qU n2 h
noncomputable def gw:Kd->Prop
 | .num=>True
 | .eO=>True
 |_=>False
noncomputable def Fs.pl (fs:Fs) (x:Str):Prop:=∃k,fs.get x=some k/\gw k
mutual
noncomputable def Kd.W:Kd->Prop
 | .num=>True
 | .eO=>True
 | .wK fs=>fs.names.Nodup/\fs.names.length<=12/\fs.W
 | .rows key by_ fs=>fs.names.Nodup/\fs.names.length<=12/\fs.W/\fs.pl key/\(by_=""\/fs.pl by_)
 | .tree k=>k.W
 | .wM fs=>fs.names.Nodup/\fs.names.length<=12/\1<=fs.names.length/\fs.W
noncomputable def Fs.W:Fs->Prop
 | .nil=>True
 | .cons _ k r=>k.W/\r.W
end
end Pb
namespace Pb
open PySem L2
mutual
noncomputable def KA (H:Hp):V->Kd->Prop
 |v,.num=>∃a,v=.ref a/\H a=some (.tup [.str "number"])
 |v,.eO=>∃a,v=.ref a/\H a=some (.tup [.str "word"])
 |v,.wK fs=>∃a b vs,v=.ref a/\H a=some (.tup [.str "record",.ref b])/\H b=some (.tup vs)/\FA H vs fs
 |v,.rows key by_ fs=>∃a b vs,v=.ref a/\H a=some (.tup [.str "rows",.str key,.str by_,.ref b])/\H b=some (.tup vs)/\FA H vs fs
 |v,.tree k=>∃a u,v=.ref a/\H a=some (.tup [.str "tree",u])/\KA H u k
 |v,.wM fs=>∃a b vs,v=.ref a/\H a=some (.tup [.str "either",.ref b])/\H b=some (.tup vs)/\FA H vs fs
noncomputable def FA (H:Hp):List V->Fs->Prop
 |vs,.nil=>vs=[]
 |vs,.cons x k r=>∃c u vr,vs=.ref c::vr/\H c=some (.tup [.str x,u])/\KA H u k/\FA H vr r
end
noncomputable def Tu (H H':Hp):Prop:=∀a xs,H a=some (.tup xs)->H' a=some (.tup xs)
theorem Tu.trans {H H1 H2:Hp}(a:Tu H H1)(b:Tu H1 H2):Tu H H2:=λc xs h=>b c xs (a c xs h)
theorem Tu.of {H H':Hp}(s:Same H H'):Tu H H':=λa xs h=>s a _ h
mutual
theorem KA.mono {H H':Hp}(t:Tu H H'):∀{v:V}(k:Kd),KA H v k->KA H' v k
 |v,.num,h=>by
  unfold KA at h ⊢
  obtain⟨a,e,q⟩:=h
  exact⟨a,e,t _ _ q⟩
 |v,.eO,h=>by
  unfold KA at h ⊢
  obtain⟨a,e,q⟩:=h
  exact⟨a,e,t _ _ q⟩
 |v,.wK fs,h=>by
  unfold KA at h ⊢
  obtain⟨a,b,vs,e,q1,q2,f⟩:=h
  exact⟨a,b,vs,e,t _ _ q1,t _ _ q2,FA.mono t fs f⟩
 |v,.rows key by_ fs,h=>by
  unfold KA at h ⊢
  obtain⟨a,b,vs,e,q1,q2,f⟩:=h
  exact⟨a,b,vs,e,t _ _ q1,t _ _ q2,FA.mono t fs f⟩
 |v,.tree k,h=>by
  unfold KA at h ⊢
  obtain⟨a,u,e,q,f⟩:=h
  exact⟨a,u,e,t _ _ q,KA.mono t k f⟩
 |v,.wM fs,h=>by
  unfold KA at h ⊢
  obtain⟨a,b,vs,e,q1,q2,f⟩:=h
  exact⟨a,b,vs,e,t _ _ q1,t _ _ q2,FA.mono t fs f⟩
theorem FA.mono {H H':Hp}(t:Tu H H'):∀{vs:List V}(fs:Fs),FA H vs fs->FA H' vs fs
 |vs,.nil,h=>by
  unfold FA at h ⊢
  exact h
 |vs,.cons x k r,h=>by
  unfold FA at h ⊢
  obtain⟨c,u,vr,e,q,f,g⟩:=h
  exact⟨c,u,vr,e,t _ _ q,KA.mono t k f,FA.mono t r g⟩
end
theorem FA.len {H:Hp}:∀{vs:List V}(fs:Fs),FA H vs fs->vs.length=fs.names.length
 |vs,.nil,h=>by
  unfold FA at h
  rw[h];rfl
 |vs,.cons x k r,h=>by
  unfold FA at h
  obtain⟨c,u,vr,e,_,_,g⟩:=h
  rw[e]
  show vr.length+1=r.names.length+1
  rw[FA.len r g]
theorem FA.get {H:Hp}:∀{vs:List V}(fs:Fs) {i:Nat}{v:V},FA H vs fs->vs[i]? =some v->∃c u x k,v=.ref c/\fs.at i=some (x,k)/\H c=some (.tup [.str x,u])/\KA H u k
 |vs,.nil,i,v,h,e=>by
  unfold FA at h
  rw[h] at e;simp at e
 |vs,.cons x k r,0,v,h,e=>by
  unfold FA at h
  obtain⟨c,u,vr,ev,q,f,_⟩:=h
  rw[ev] at e
  have e:some (V.ref c)=some v:=e
  cases e
  exact⟨c,u,x,k,rfl,rfl,q,f⟩
 |vs,.cons x k r,i+1,v,h,e=>by
  unfold FA at h
  obtain⟨c,u,vr,ev,_,_,g⟩:=h
  rw[ev] at e
  exact FA.get r (i:=i) g (by simpa using e)
theorem FA.snoc {H:Hp}{c:Addr}{u:V}{x:Str}{k:Kd}(hc:H c=some (.tup [.str x,u]))(hk:KA H u k):∀{vs:List V}(fs:Fs),FA H vs fs->FA H (vs++[.ref c]) (fs.snoc x k)
 |vs,.nil,h=>by
  unfold FA at h
  subst h
  show FA H [.ref c] (.cons x k .nil)
  unfold FA
  exact⟨c,u,[],rfl,hc,hk,by unfold FA;rfl⟩
 |vs,.cons y q r,h=>by
  unfold FA at h
  obtain⟨d,w,vr,e,h1,h2,h3⟩:=h
  subst e
  show FA H (.ref d::(vr++[.ref c])) (.cons y q (r.snoc x k))
  unfold FA
  exact⟨d,w,vr++[.ref c],rfl,h1,h2,FA.snoc hc hk r h3⟩
noncomputable def Kp (S:Addr->Prop) (H H':Hp):Prop:=∀c o,¬S c->H c=some o->H' c=some o
theorem Kp.trans {S:Addr->Prop}{H H1 H2:Hp}(x:Kp S H H1)(y:Kp S H1 H2):Kp S H H2:=λc o n h=>y c o n (x c o n h)
theorem Kp.of {S:Addr->Prop}{H H':Hp}(s:Same H H'):Kp S H H':=λc o _ h=>s c o h
noncomputable def lt (z:Int):Str:=⟨#[97+z.toNat]⟩
theorem Ag (z:Int):(lt z).length=1:=rfl
theorem afK:∀j:Nat,j<26->(("abcdefghijklmnopqrstuvwxyz":Str)).cps.toList[j]? =some (97+j):=by decide +kernel
theorem afL:(("abcdefghijklmnopqrstuvwxyz":Str)).cps.toList.length=26:=by decide +kernel
theorem GK {z:Int}(h0:0<=z)(h1:z<26):dO (("abcdefghijklmnopqrstuvwxyz":Str)).cps.toList z=some (97+z.toNat):=by
 unfold dO lB
 rw[afL,if_pos h0,if_pos (show z<((26:Nat):Int) by omega)]
 exact afK z.toNat (by omega)
theorem afM {z:Int}(h0:0<=z)(h1:z<6):dO [V.int 1,.int 3,.int 5,.int 7,.int 9,.int 11] z=some (.int (2 * z+1)):=by
 have h:z=0\/z=1\/z=2\/z=3\/z=4\/z=5:=by omega
 rcases h with h|h|h|h|h|h <;> subst h <;> rfl
theorem foldl_size (a:Array Nat):∀(n:Nat) (b:Array Nat),((List.replicate n a).foldl (· ++ ·) b).size=b.size+n * a.size
 |0,b=>by simp
 |n+1,b=>by
  rw[Q1t,Q1u,foldl_size a n,Array.size_append,Nat.succ_mul];omega
theorem Xu {x:Str}(hx:x.length=1)(k:Nat):(Txt.mul x ((k:Int)+1)).length=k+1:=by
 have hs:x.cps.size=1:=hx
 unfold Txt.mul
 rw[if_neg (by omega)]
 by_cases h:k=0
 . subst h
   rw[if_pos (by simp)]
   exact hx
 . rw[if_neg]
   . show((List.replicate ((k:Int)+1).toNat x.cps).foldl (· ++ ·) #[]).size=k+1
     rw[foldl_size,hs,show((k:Int)+1).toNat=k+1 by omega];simp
   . rw[hx]
     simp
     omega
theorem Ah (x y:Str):(x++y).cps.toList=x.cps.toList++y.cps.toList:=by
 show(x.cps++y.cps).toList=_
 simp
theorem Xv {f:Nat->Str}:∀{n:Nat},(∀i j,i<n->j<n->f i=f j->i=j)->((List.range n).map f).Nodup:=by
 intro n h
 refine List.pairwise_map.mpr (List.Pairwise.imp_of_mem (λ{a b} ha hb hab=>?_) (List.nodup_range (n:=n)))
 intro e
 exact hab (h a b (List.mem_range.mp ha) (List.mem_range.mp hb) e)
theorem afN {x:Str}(hx:x.length=1){k:Nat}(hk:k<12)(hl:∀n,n<=1000->Builtin.Str.tooLong n=false):MulOk x ((k:Int)+1):=by
 refine⟨?_,λ_ _=>?_,λ_ _=>?_⟩
 . have e1:decide (((k:Int)+1)< -(2 ^ 63:Int))=false:=decide_eq_false (by omega)
   have e2:decide (((k:Int)+1) ≥ 2 ^ 63)=false:=decide_eq_false (by omega)
   rw[e1,e2];rfl
 . rw[hx]
   have h:k=0\/k=1\/k=2\/k=3\/k=4\/k=5\/k=6\/k=7\/k=8\/k=9\/k=10\/k=11:=by omega
   rcases h with h|h|h|h|h|h|h|h|h|h|h|h <;> subst h <;> decide
 . rw[hx]
   exact hl _ (by omega)
end Pb
namespace Pb
open PySem L2 PyProof.Rows PySem.Spec PySem.StrLaws PySem.Builtin PySem.Builtin.Str
noncomputable def pG (H:Hp) (u:V) (pl:Bool):Prop:=∃a f rest,u=.ref a/\H a=some (.tup (.str f::rest))/\(pl=true->rest=[]/\(f="number"\/f="word"))/\(pl=false->f≠"number"/\f≠"word")/\∀v∈rest,(∃s,v=.str s)\/∃c,v=.ref c
theorem pG.mono {H H':Hp}(t:Tu H H'){u:V}{pl:Bool}(h:pG H u pl):pG H' u pl:=by
 obtain⟨a,f,rest,e,h1,h2⟩:=h
 exact⟨a,f,rest,e,t _ _ h1,h2⟩
theorem pG.of {H:Hp}{u:V}:∀{k:Kd},KA H u k->∃pl,pG H u pl
 | .num,h=>by
   unfold KA at h
   obtain⟨a,e,q⟩:=h
   exact⟨true,a,_,_,e,q,λ_=>⟨rfl,.inl rfl⟩,(λz=>by cases z),λv hv=>nomatch hv⟩
 | .eO,h=>by
   unfold KA at h
   obtain⟨a,e,q⟩:=h
   exact⟨true,a,_,_,e,q,λ_=>⟨rfl,.inr rfl⟩,(λz=>by cases z),λv hv=>nomatch hv⟩
 | .wK fs,h=>by
   unfold KA at h
   obtain⟨a,b,vs,e,q,_⟩:=h
   exact⟨false,a,_,_,e,q,(λz=>by cases z),(λ_=>by decide),λv hv=>by rw[List.mem_singleton.mp hv];exact .inr ⟨_,rfl⟩⟩
 | .rows key by_ fs,h=>by
   unfold KA at h
   obtain⟨a,b,vs,e,q,_⟩:=h
   refine⟨false,a,_,_,e,q,(λz=>by cases z),(λ_=>by decide),λv hv=>?_⟩
   simp only[Q1v,List.mem_nil_iff,or_false] at hv
   rcases hv with z|z|z <;> subst z
   . exact .inl ⟨_,rfl⟩
   . exact .inl ⟨_,rfl⟩
   . exact .inr ⟨_,rfl⟩
 | .tree k,h=>by
   unfold KA at h
   obtain⟨a,b,e,q,hk⟩:=h
   obtain⟨_,c,_,_,ec,_⟩:=pG.of hk
   exact⟨false,a,_,_,e,q,(λz=>by cases z),(λ_=>by decide),λv hv=>by rw[List.mem_singleton.mp hv];exact .inr ⟨c,ec⟩⟩
 | .wM fs,h=>by
   unfold KA at h
   obtain⟨a,b,vs,e,q,_⟩:=h
   exact⟨false,a,_,_,e,q,(λz=>by cases z),(λ_=>by decide),λv hv=>by rw[List.mem_singleton.mp hv];exact .inr ⟨_,rfl⟩⟩
noncomputable abbrev Qd:=V × Str × Bool
noncomputable def Ai (H:Hp) (q:Qd):Prop:=∃c u,q.1=.ref c/\H c=some (.tup [.str q.2.1,u])/\pG H u q.2.2
noncomputable def lD (H:Hp) (qs:List Qd):Prop:=∀q∈qs,Ai H q
noncomputable def nms (qs:List Qd):List Str:=qs.map (·.2.1)
noncomputable def dg (qs:List Qd):List V:=qs.map (·.1)
theorem Ai.mono {H H':Hp}(t:Tu H H'){q:Qd}(h:Ai H q):Ai H' q:=by
 obtain⟨c,u,e,h1,h2⟩:=h
 exact⟨c,u,e,t _ _ h1,h2.mono t⟩
theorem lD.mono {H H':Hp}(t:Tu H H'){qs:List Qd}(h:lD H qs):lD H' qs:=λq hq=>(h q hq).mono t
theorem lD.of {H:Hp}:∀{ys:List V}{fs:Fs},FA H ys fs->∃qs,dg qs=ys/\nms qs=fs.names/\lD H qs
 |ys,.nil,h=>by
  unfold FA at h
  subst h
  exact⟨[],rfl,rfl,λq hq=>nomatch hq⟩
 |ys,.cons x k r,h=>by
  unfold FA at h
  obtain⟨c,u,vr,rfl,q,hk,hr⟩:=h
  obtain⟨qs,e1,e2,hp⟩:=lD.of hr
  obtain⟨pl,hs⟩:=pG.of hk
  refine⟨(.ref c,x,pl)::qs,by show _::dg qs=_;rw[e1],by show x::nms qs=_;rw[e2];rfl,λq' hq=>?_⟩
  rcases List.mem_cons.mp hq with e|e
  . subst e
    exact⟨c,u,rfl,q,hs⟩
  . exact hp q' e
noncomputable def sle (x y:Str):Prop:=wG (dM x) (dM y)
noncomputable def slt (x y:Str):Prop:=fW (dM x) (dM y)=true
theorem GP (x y:Str)(h:slt x y):¬slt y x:=λh2=>by
 have z:=wF _ _ _ h h2
 rw[Gw] at z
 cases z
theorem afO {x y:Str}(h:dM x=dM y):x=y:=Sum.inr.inj (List.cons.inj h).1
theorem Aj {x y:Str}(h:sle x y):slt x y\/x=y:=by
 rcases Ad (dM x) (dM y) with q|q|q
 . exact .inl q
 . exact .inr (afO q)
 . have h:fW (dM y) (dM x)=false:=h
   rw[h] at q;cases q
theorem afP {x y:Str}(h:slt x y):sle x y:=by
 unfold sle wG
 cases e:fW (dM y) (dM x) with
 |false=>rfl
 |true=>exact absurd e (GP _ _ h)
theorem afQ {x y z:Str}(h1:sle x y)(h2:sle y z):sle x z:=by
 rcases Aj h1 with a|a
 . rcases Aj h2 with b|b
   . exact afP (wF _ _ _ a b)
   . rw[<-b];exact h1
 . rw[a];exact h2
theorem Xw (x y:Str):ltCps x.cps.toList y.cps.toList=fW (dM x) (dM y):=by
 rw[Xm]
 exact ltCps_eq _ _
theorem GQ:∀{ss:List Str},sortedS ss=true->ss.Pairwise sle
 |[],_=>.nil
 |[x],_=>Q2q _ _
 |x::y::r,h=>by
  have h:(!ltCps y.cps.toList x.cps.toList && risingS y r)=true:=h
  obtain⟨h1,h2⟩:=Bool.and_eq_true_iff.mp h
  have ih:(y::r).Pairwise sle:=GQ (ss:=y::r) h2
  have hxy:sle x y:=by
   rw[Xw] at h1
   unfold sle wG
   cases e:fW (dM y) (dM x) with
   |false=>rfl
   |true=>rw[e] at h1;cases h1
  refine .cons (λz hz=>?_) ih
  rcases List.mem_cons.mp hz with e|e
  . rw[e];exact hxy
  . exact afQ hxy ((List.pairwise_cons.mp ih).1 z e)
theorem Xx {qs:List Qd}(h:(nms qs).Pairwise sle)(nd:(nms qs).Nodup):qs.Pairwise λa b=>slt a.2.1 b.2.1:=by
 have h1:=List.pairwise_map.mp h
 have h2:qs.Pairwise λa b=>a.2.1≠b.2.1:=List.pairwise_map.mp nd
 refine(h1.and h2).imp λ{a b} ⟨x,y⟩=>?_
 rcases Aj x with z|z
 . exact z
 . exact absurd z y
theorem GR {α:Type}{R:α->α->Prop}(as:∀a b,R a b->¬R b a):∀{l1 l2:List α},l1.Perm l2->l1.Pairwise R->l2.Pairwise R->l1=l2
 |[],l2,p,_,_=>by rw[p.nil_eq]
 |a::r,[],p,_,_=>absurd p.length_eq (by simp)
 |a::r,b::q,p,h1,h2=>by
  obtain⟨a1,a2⟩:=List.pairwise_cons.mp h1
  obtain⟨b1,b2⟩:=List.pairwise_cons.mp h2
  have hab:a=b:=by
   have ha:a∈b::q:=p.mem_iff.mp Q0f
   have hb:b∈a::r:=p.mem_iff.mpr Q0f
   rcases List.mem_cons.mp ha with e|e
   . exact e
   . rcases List.mem_cons.mp hb with e2|e2
     . exact e2.symm
     . exact absurd (a1 b e2) (as b a (b1 a e))
  subst hab
  rw[GR as ((List.perm_cons a).mp p) a2 b2]
theorem afR {q1 q2:List Qd}(p:q1.Perm q2)(h1:(nms q1).Pairwise sle)(h2:(nms q2).Pairwise sle)(nd:(nms q2).Nodup):q1=q2:=
 GR (λa b=>GP _ _) p (Xx h1 ((p.map _).nodup_iff.mpr nd)) (Xx h2 nd)
theorem foldl_rep (c:Nat):∀(n:Nat) (b:Array Nat),((List.replicate n #[c]).foldl (· ++ ·) b).toList=b.toList++List.replicate n c
 |0,b=>by simp
 |n+1,b=>by
  rw[Q1t,Q1u,foldl_rep c n,Array.toList_append,Q2v]
  rfl
theorem GX (z:Int)(k:Nat):(Txt.mul (lt z) ((k:Int)+1)).cps.toList=List.replicate (k+1) (97+z.toNat):=by
 unfold Txt.mul
 rw[if_neg (by omega)]
 by_cases h:(((k:Int)+1 == 1) || (lt z).length == 0)=true
 . rw[if_pos h]
   have hk:k=0:=by
    rw[Ag] at h
    simp at h
    omega
   subst hk
   rfl
 . rw[if_neg h]
   have e:((k:Int)+1).toNat=k+1:=by omega
   rw[e]
   show((List.replicate (k+1) #[97+z.toNat]).foldl (· ++ ·) #[]).toList=_
   rw[foldl_rep]
   rfl
end Pb
namespace L2
open PySem PySem.Spec PyProof.Rows
noncomputable def Xy (a:Addr) (o:Obj) (kvs:List (Key × V)):It:=
 ⟨λi H=>i<kvs.length/\H a=some (.cg o (.dK kvs)),λi H x H'=>H'=H/\∃p,kvs[i]? =some p/\x=kV p.1,λi H=>kvs.length<=i/\H a=some (.cg o (.dK kvs))⟩
theorem Xz:∀{kvs:List (Key × V)}{vs:List (Key × Value)}{i:Nat}{p:Key × V},KV kvs vs->kvs[i]? =some p->∃v,vs[i]? =some (p.1,v)
 |_,_,i,p,.nil,h=>by simp at h
 |_,_,0,p,.cons (b:=b) h t,e=>by
  have e:=Option.some.inj (show some _=some p from e)
  subst e
  exact⟨b.2,by show some b=_;rw[h.1]⟩
 |_,_,i+1,p,.cons h t,e=>Xz (i:=i) t e
theorem XD {P:Program}{w:World}{k:Key}{u:Value}(h:(cJ P w).is k u=true):RelV (kV k) u:=by
 have h:oY k u=true:=h
 rcases lQ h with⟨i,t,rfl,rfl⟩|⟨x,t,rfl,rfl⟩
 . exact⟨t,rfl⟩
 . exact⟨t,rfl⟩
theorem afS {P:Program}{w:World}{K:W.Frag}{tg:Expr}{a it:Addr}{o:Obj}{kvs:List (Key × V)}{vs:List (Key × Value)}{ep:Nat}(rel:KV kvs vs)(ha:∀h:Heap,h.get? a=some o->h.DictAt (cJ P w) a vs ep):
 Turn P w K tg (Xy a o kvs) [it] it (λi h=>h.IsKeyIter it a i vs.length ep) where
 mem:=by simp
 obj:=λi h st b hb=>by
  have e:b=it:=by simpa using hb
  subst e
  obtain⟨o,e,c,d⟩:=st
  exact⟨o,e,λv z=>by rw[d] at z;cases z⟩
 keep:=λi h h' st k=>st.at λo e=>k it (by simp) o e
 item:=by
  intro X hP hw hK hc i pins s σ H E I hf st hg
  subst hP hw hK
  obtain⟨hi,hfz⟩:=hg
  obtain⟨hao,_⟩:=I.hok a _ hfz
  have hp:kvs[i]? =some kvs[i]:=Q05 hi
  obtain⟨v,hv⟩:=Xz rel hp
  obtain⟨f0,f1,f2,f3,f4,f5⟩:=hf it (by simp)
  refine wpAny_pyNext_dict_item st (ha _ hao) hv λkey h' hk st' sb=>?_
  have I1:Inv X pins σ H { s with heap:=h' }:=I.turned (t':=s.toks) (λb o hb e=>(sb.2 b hb).trans e) f0 f1 f3 f4 f5
  obtain⟨o,e,c,d⟩:=id st'
  exact⟨key,rfl,vP (s:={ s with heap:=h' }) e c d (by decide) ⟨kV kvs[i].1,H,I1,XD hk,⟨rfl,_,hp,rfl⟩,st',λb hb=>(hf b hb).1⟩⟩
 done:=by
  intro X hP hw hK hc i pins s σ H E I hf st hg
  subst hP hw hK
  obtain⟨hi,hfz⟩:=hg
  obtain⟨hao,_⟩:=I.hok a _ hfz
  obtain⟨f0,f1,f2,f3,f4,f5⟩:=hf it (by simp)
  have hl:=Paired.length rel
  exact wpAny_pyNext_dict_end (I.ok.hd hc) st (ha _ hao) (Q2w (by omega)) λh' eb=>⟨rfl,I.turned (t':=s.toks) (λb o hb e=>eb b o hb e) f0 f1 f3 f4 f5⟩
 self:=λ_ _ _ _ _ st h=>wpAny_pyIter_keyiter st h
section
variable {X:Cx}{tg:Expr}
noncomputable def wN (H0:Hp) (a:Addr):Prop:=∀o u,H0 a≠some (.cg o u)
noncomputable def XF (H0:Hp) (tl:TE):TI:=λσ H R=>tl σ H λx H1=>∃a kvs,x=.ref a/\H1 a=some (.dK kvs)/\∀o,wN H0 a->R (Xy a o kvs) (upd H1 a (.cg o (.dK kvs)))
theorem Inv.freeze {pins:List (Addr × Obj)}{σ:St}{H:Hp}{s:Shared}{a:Addr}{kvs:List (Key × V)}(I:Inv X pins σ H s)(h:H a=some (.dK kvs)):
 ∃o vs ep,KV kvs vs/\(a == sysModules)=false/\s.heap.get? a=some o/\(∀h:Heap,h.get? a=some o->h.DictAt (cJ X.prog X.w) a vs ep)/\wN X.H₀ a/\Inv X pins σ (upd H a (.cg o (.dK kvs))) s:=by
 obtain⟨z,hd,vs,rel,o,es,ep,e1,e2⟩:=id (I.hok a _ h)
 refine⟨o,vs,ep,rel,hd,e1,λh' e=>⟨o,es,e,e2⟩,λo' u z'=>?_,?_⟩
 . have:=I.base.gW a o' u z'
   rw[h] at this;cases this
 . have u:Un X.fs [] H (upd H a (.cg o (.dK kvs))) s.heap s.heap:=Un.write (x:=a) (e:=a) (by rw[h];trivial) (.inl rfl) (λb u _ q=>q) ⟨o,e1⟩
   refine I.un (t':=s.toks) u λb v e=>?_
   by_cases hb:b=a
   . subst hb
     rw[aF] at e
     cases e
     exact⟨e1,z,hd,vs,rel,o,es,ep,e1,e2⟩
   . rw[au hb] at e
     exact(I.hok b v e).stay (λc w _ q=>q) (λc q=>by rw[au (λz'=>by rw[z',h] at q;cases q)];exact q) λc xs q=>by rw[au (λz'=>by rw[z',h] at q;cases q)];exact q
theorem Inv.GZ {pins:List (Addr × Obj)}{σ:St}{H:Hp}{s:Shared}{a:Addr}{o:Obj}{kvs:List (Key × V)}(I:Inv X pins σ H s)(h:H a=some (.cg o (.dK kvs)))(hz:wN X.H₀ a):Inv X pins σ (upd H a (.dK kvs)) s:=by
 have nn:∀{b:Addr},H b=none->upd H a (.dK kvs) b=none:=λ{b} e=>by rw[au (λz=>by rw[z,h] at e;cases e)];exact e
 refine⟨I.ok,I.os,I.bare,⟨I.base.keep,I.base.slot,λb u q n hx=>nn (I.base.free b u q n hx),I.base.there,λb xs q=>?_,λb o' u q=>?_,λb ps q=>?_⟩,I.loc,I.cell,nn I.free,λx c e=>nn (I.fQ x c e),λp hp=>?_,λb v e=>?_,I.len⟩
 . have:=I.base.tups b xs q
   rw[au (λz=>by rw[z,h] at this;cases this)];exact this
 . have:=I.base.gW b o' u q
   rw[au (λz=>hz o' u (by rw[<-z];exact q))];exact this
 . obtain⟨more,this⟩:=I.base.iy b ps q
   exact⟨more,by rw[au (λz=>by rw[z,h] at this;cases this)];exact this⟩
 . obtain⟨p1,p2,p3⟩:=I.pin p hp
   exact⟨p1,nn p2,p3⟩
 . by_cases hb:b=a
   . subst hb
     rw[aF] at e
     cases e
     exact(I.hok b _ h).2
   . rw[au hb] at e
     exact(I.hok b v e).stay (λc w _ q=>q) (λc q=>by rw[au (λz'=>by rw[z',h] at q;cases q)];exact q) λc xs q=>by rw[au (λz'=>by rw[z',h] at q;cases q)];exact q
theorem afT {l:Expr}{tl:TE}(hl:PE X l tl):PI X tg l (XF X.H₀ tl):=by
 intro pins s σ H R I h
 refine aP (hl pins s σ H _ I h) λv s1 ⟨x,H1,I1,r1,q1⟩=>?_
 obtain⟨a,kvs,e,hq,q⟩:=q1
 subst e
 cases r1
 obtain⟨o,vs,ep,rel,hs,hao,hda,hz,I2⟩:=I1.freeze hq
 refine wpAny_pyIter_dict hs (hda _ hao) ?_
 refine⟨s1.heap.objs.size,[s1.heap.objs.size],_,_,upd H1 a (.cg o (.dK kvs)),rfl,I2.kept (t':=s1.toks) λb o e=>Q04 _ e,afS rel hda,⟨_,Q0c _ rfl,rfl,rfl⟩,λb hb=>?_,q o hz⟩
 have e:b=s1.heap.objs.size:=by simpa using hb
 subst e
 exact I2.k_ (Q02 _) (I2.hok.fresh (Q02 _))
theorem afU {H0:Hp}(h0:X.H₀=H0){l:Expr}{tl:TE}(hl:PE X l tl):PI X tg l (XF H0 tl):=by
 subst h0
 exact afT hl
noncomputable def afV (H0:Hp) (t:TE):TE:=λσ H Q=>t σ H λv H'=>∃a o kvs,wN H0 a/\H' a=some (.cg o (.dK kvs))/\Q v (upd H' a (.dK kvs))
theorem XH {H0:Hp}(h0:X.H₀=H0){e:Expr}{t:TE}(h:PE X e t):PE X e (afV H0 t):=by
 subst h0
 intro pins s σ H Q I q
 refine aP (h pins s σ H _ I q) λv s1 ⟨x,H1,I1,r1,q1⟩=>?_
 obtain⟨a,o,kvs,hz,ha,q1⟩:=q1
 exact⟨x,_,I1.GZ ha hz,r1,q1⟩
end
section
variable {prog:Program}{w:World}{A:Around}{E:Value->Shared->Prop}{s:Shared}
theorem G3 {j a:Addr}{i:Nat}{vs:Array Value}{v:Value}{Q:Value->Shared->Prop}(h1:s.heap.IsTupleIter j a i)(h2:s.heap.IsTuple a vs)(hv:vs[i]? =some v)(q:∀h',h'.IsTupleIter j a (i+1)->Heap.SameBut j s.heap h'->Q v { s with heap:=h' }):
 wpAny (model prog w) A (Builtin.SmallTypes.nextOf (.ref j)) Q E s:=by
 obtain⟨ob,g1,g2,g3⟩:=id h1
 obtain⟨ot,k1,_,nt,k2⟩:=h2
 unfold Builtin.SmallTypes.nextOf;refine Q00 (wpAny_callSpecial?_slot (name:=Str.ofString "__next__") h1.typeIs F.slot_tuple_iterator_next (wpAny_call_entry F.slot_tuple_iterator_next h1.typeIs F.entry_tuple_iterator_next ?_ (F.args_tuple_iterator_next_1 _)))
 show wpAny _ _ (field (.ref j) 0 >>= _) _ _ s;refine Q00 (wpAny_field g1 g3 (x:=.ref a) rfl ?_)
 show wpAny _ _ (if(Value.ref a == Value.none)=true then _ else _) _ _ s;rw[if_neg (show ¬((Value.ref a == Value.none)=true) from Bool.false_ne_true)]
 show wpAny _ _ (field (.ref j) 1 >>= _) _ _ s;refine Q00 (wpAny_field g1 g3 (x:=.int i 0) rfl ?_)
 show wpAny _ _ (seqItems? (.ref a) >>= _) _ _ s;refine Q00 (wpAny_seqItems k1 k2 ?_)
 simp only[Q1o,hv];refine Q00 (wpAny_setField g1 g3 (by simp) (Q03 ⟨v,rfl,Q03 (q _ ?_ (Heap.SameBut.update ..))⟩))
 exact⟨_,Q16 _ g1 (Obj.isFreed_of_fields (Obj.data_mapFields g3 _)),(Obj.cls_mapFields ..).trans g2,by rw[Obj.data_mapFields g3];simp[rawInt]⟩
theorem XJ {j a:Addr}{i:Nat}{vs:Array Value}{Q:Value->Shared->Prop}(h0:A.handled=none)(h1:s.heap.IsTupleIter j a i)(h2:s.heap.IsTuple a vs)(hv:vs[i]? =none)
 (q:∀h' e,Heap.ExtBut j s.heap h'->(∃o,h'.get? e=some o/\o.cls=.type "StopIteration")->E (.ref e) { s with heap:=h' }):wpAny (model prog w) A (Builtin.SmallTypes.nextOf (.ref j)) Q E s:=by
 obtain⟨ob,g1,g2,g3⟩:=id h1
 obtain⟨ot,k1,_,nt,k2⟩:=h2
 unfold Builtin.SmallTypes.nextOf;refine Q00 (wpAny_callSpecial?_slot (name:=Str.ofString "__next__") h1.typeIs F.slot_tuple_iterator_next (wpAny_call_entry F.slot_tuple_iterator_next h1.typeIs F.entry_tuple_iterator_next ?_ (F.args_tuple_iterator_next_1 _)))
 show wpAny _ _ (field (.ref j) 0 >>= _) _ _ s;refine Q00 (wpAny_field g1 g3 (x:=.ref a) rfl ?_)
 show wpAny _ _ (if(Value.ref a == Value.none)=true then _ else _) _ _ s;rw[if_neg (show ¬((Value.ref a == Value.none)=true) from Bool.false_ne_true)]
 show wpAny _ _ (field (.ref j) 1 >>= _) _ _ s;refine Q00 (wpAny_field g1 g3 (x:=.int i 0) rfl ?_)
 show wpAny _ _ (seqItems? (.ref a) >>= _) _ _ s;refine Q00 (wpAny_seqItems k1 k2 ?_)
 simp only[Q1o,hv];refine Q00 (wpAny_rule (Q00 (wpAny_setField g1 g3 (by simp) ?_)))
 show wpAny _ _ (newExc (.type "StopIteration") [] >>= _) _ _ _;refine Q00 ?_;simp only[newExc,newTuple];refine Q00 (wpAny_newObj_type ?_ (by size_fits))
 refine Q00 (m:=firstArgMember _ _) (wpAny_of_eq (a:=Value.none) (by first|rfl|(simp only[firstArgMember];rfl)) ?_);refine wpAny_newObj_type ?_ (by size_fits);simp only[raiseNew];refine Q00 (wpAny_handled ?_)
 (first|rw[show A.in1.handled=none from h0]|rw[h0]);refine Q00 (Q03 (wpAny_throw ?_))
 exact q _ _ (((Heap.SameBut.update ..).extBut.push _).push _) ⟨_,Q0c _ rfl,rfl⟩
end
section
variable {X:Cx}
end
end L2
namespace Pb
open PySem L2
end Pb
namespace L2
open PySem PySem.Spec PyProof.Rows
section
variable {X:Cx}
theorem tV:iY X (.type "dict") (λxs H Q=>∃a kvs,xs=[.ref a]/\H a=some (.dK kvs)/\∀l,H l=none->Q (.ref l) (upd H l (.dK kvs))):=by
 intro pins s σ H xs us Q I r h
 obtain⟨a,kvs,rfl,hH,q⟩:=h
 obtain⟨u,rfl,ru⟩:=vals1 r
 cases ru
 obtain⟨z,sm,vs,kv,dd⟩:=zR I.hok hH
 refine kt_call_dict sm dd (by rw[<-kv.length];exact z) λh' hd hs=>?_
 have hb:(s.heap.objs.size == sysModules)=false:=beq_eq_false_iff_ne.mpr (Q0m I.big)
 refine⟨.ref s.heap.objs.size,_,I.laid (a:=s.heap.objs.size) (o:=.dK kvs) (t':=s.toks) (λb o e=>?_) (Q02 _) ⟨z,hb,vs,kv,hd⟩,rfl,q _ (I.hok.fresh (Q02 _))⟩
 exact hs.extBut b o (Q08 (Q01 e)) (Q04 _ e)
end
theorem afW:typeLookup (.type "list") "keys"=pure none:=am_miss_of_fast (by kernel_rfl)
theorem afX {prog:Program}{w:World}{A:Around}{E:Value->Shared->Prop}{s:Shared}{a:Addr}{xs:Array Value}{k:Nat}{sl:Array (Option Value)}{Q:Option Value->Shared->Prop}
 (hx:s.heap.get? a=some { cls:=.type "list",dict:=none,data:=.seq xs k,slots:=sl }) (hA:A.handled=none)
 (h:∀h' tk,(∀b ob,s.heap.get? b=some ob->h'.get? b=some ob)->Q none { s with heap:=h',toks:=tk }):
 wpAny (model prog w) A (getAttr? (.ref a) "keys") Q E s:=by
 obtain⟨hp,g,d,tk,os⟩:=s
 have hT:∀tk',(⟨hp,g,d,tk',os⟩:Shared).TypeIs (.ref a) "list":=λ_=>⟨_,hx,rfl⟩
 have f1:=sub_AttributeError
 have f3:=F.slot_list_getattribute.lookup
 have f4:=F.slot_list_getattribute.bind (.ref a)
 have f5:=am_list_getattr_none
 unfold getAttr? getAttrBy? getAttrBy
 repeat (any_goals (first|assumption|exact hT _|((with_reducible show wpAny _ _ (call (Value.builtin "list.__getattribute__") _ _) _ _ _);refine call_meets F.slot_list_getattribute (hT _) am_entry_list_getattribute (F.args_list_getattribute_2 _ _) (meets_getattribute_miss_list a xs k sl "keys" _ afW (by decide +kernel) (by size_fits)) ⟨hx,hA,λh' tk' e hx'=>?_⟩)|wp_step))
 obtain⟨t',u',he⟩:=hx'.there
 show wpAny _ _ (getattributeRaised _ _ _ _ _ _ _) _ _ _
 unfold getattributeRaised
 repeat (any_goals (first|assumption|wp_step))
 exact h h' tk' hx'.keeps
theorem pH {a b:String}(h:a≠b):Value.type a≠Value.type b:=λz=>h (by injection z)
theorem XM:entryFor table "dict.update.loop"=some Builtin.«dict.update.loop»:=entryFor_of_tree (by kernel_rfl)
theorem Ak:plainId "dict.update.loop"=true:=by decide +kernel
section
variable {prog:Program}{w:World}{K:Type} [DecidableEq K]{knd:KeyKind prog w K}{A:Around}{E:Value->Shared->Prop}{s:Shared}
structure tW (knd:KeyKind prog w K) (h:Heap) (ts:List Addr) (ps:List (K × Value)):Prop where
 len:ts.length=ps.length
 at_:∀(i:Nat) t p,ts[i]? =some t->ps[i]? =some p->∃u,knd.is p.1 u=true/\IsTup h t #[u,p.2]
theorem tW.keep {h h':Heap}{ts:List Addr}{ps:List (K × Value)}(x:tW knd h ts ps)(k:∀b o,o.cls=.type "tuple"->h.get? b=some o->h'.get? b=some o):tW knd h' ts ps:=
 ⟨x.len,λi t p ht hp=>by
   obtain⟨u,hu,o,e,c,d⟩:=x.at_ i t p ht hp
   exact⟨u,hu,o,k _ _ c e,c,d⟩⟩
theorem afY (hh:A.handled=none)(d I l:Addr)(ts:List Addr)(ps:List (K × Value))(hn:(ps.map (·.1)).Nodup)(hz:ps.length<=sizeLine){R:Result->Shared->Prop}:
 ∀(k i:Nat) (s:Shared),ps.length - i=k->i<=ps.length->s.heap.IsListIter I l i->s.heap.IsList l (ts.map Value.ref).toArray->tW knd s.heap ts ps->s.heap.DictOf knd d (ps.take i)->
  (∀h' tk,(∀b o,b≠d->b≠I->s.heap.get? b=some o->h'.get? b=some o)->h'.DictOf knd d ps->R (.ok (.ret .none)) { s with heap:=h',toks:=tk })->
  codeAny (model prog w) A (.builtin "dict.update.loop" ⟨[.ref d,.ref I,rawInt (i:Int),.none],[]⟩) R s:=by
 intro k
 induction k with
 |zero=>
  intro i s hk hi hit hl hp hd hR
  have hin:i=ps.length:=by omega
  subst hin
  refine codeAny_builtin XM ?_
  rw[Around.under_plainId Ak _]
  show wpAny _ A.in1 (pyNext (.ref I) >>= _) _ _ s
  refine Q00 (wpAny_pyNext_list_end hh hit hl (by simp[hp.len]) λh' eb=>?_)
  rw[Q1a] at hd
  obtain⟨od,es,ep,hg,hc,r⟩:=id hd
  have hdI:d≠I:=λz=>by
   obtain⟨oi,hgi,mj,_⟩:=hit
   rw[z,hgi] at hg;cases hg
   have hc:=hc.1
   rw[mj] at hc;exact absurd hc (pH (by decide))
  exact Q00 (Q03 (Q03 (hR h' s.toks (λb o _ hb e=>eb b o hb e) (hd.extBut eb hdI))))
 |succ k ih=>
  intro i s hk hi hit hl hp hd hR
  have hlt:i<ps.length:=by omega
  have hps:ps[i]? =some ps[i]:=Q05 hlt
  have hts:ts[i]? =some (ts[i]'(by rw[hp.len];exact hlt)):=Q05 _
  obtain⟨u,hu,o,ho,hc,n,hda⟩:=hp.at_ i _ _ hts hps
  refine codeAny_builtin XM ?_
  rw[Around.under_plainId Ak _]
  show wpAny _ A.in1 (pyNext (.ref I) >>= _) _ _ s
  refine Q00 (wpAny_pyNext_list_item hit hl (x:=.ref (ts[i]'(by rw[hp.len];exact hlt))) (by simp[hts]) λh' hit' sb=>?_)
  have hdI:d≠I:=λz=>by
   obtain⟨od,es,ep,hg,hc,r⟩:=id hd
   obtain⟨oi,hgi,mj,_⟩:=hit
   rw[z,hgi] at hg;cases hg
   have hc:=hc.1
   rw[mj] at hc;exact absurd hc (pH (by decide))
  have G4:∀b o,o.cls≠ .type "list_iterator"->s.heap.get? b=some o->b≠I:=λb o hne e z=>by
   obtain⟨oi,hgi,mj,_⟩:=hit
   rw[z,hgi] at e;cases e
   exact hne mj
  have hcd:∀b o,o.cls≠ .type "dict"->s.heap.get? b=some o->b≠d:=λb o hne e z=>by
   obtain⟨od,es,ep,hg,hc,r⟩:=id hd
   rw[z,hg] at e;cases e
   exact hne hc.1
  have k1:∀b o,o.cls≠ .type "list_iterator"->s.heap.get? b=some o->h'.get? b=some o:=λb o hne e=>(sb.2 b (G4 b o hne e)).trans e
  have ho':=k1 _ _ (by rw[hc];exact pH (by decide)) ho
  have hd':h'.DictOf knd d (ps.take i):=by
   obtain⟨od,es,ep,hg,hc,r⟩:=id hd
   exact⟨od,es,ep,k1 _ _ (by rw[hc.1];exact pH (by decide)) hg,hc,r⟩
  dsimp only
  refine Q00 (wpAny_holding (Q00 (wpAny_tryCatch ?_)))
  unfold Builtin.Dict.pairItems
  refine Q00 (wpAny_typeOf (T:="tuple") ⟨_,ho',hc⟩ ?_)
  rw[if_pos (by decide)]
  refine Q00 (wpAny_seqItems ho' hda (Q03 ?_))
  show wpAny _ _ (holding [u,ps[i].2] (dictSet d u ps[i].2)) _ _ _
  refine wpAny_holding (wpAny_dictSet_pairs hu hd' (λh'' hd'' afZ=>?_) (by rw[Q0i];omega))
  refine Q03 ⟨plainId_quiet Ak _,?_⟩
  have k2:∀b o,b≠d->h'.get? b=some o->h''.get? b=some o:=λb o hb e=>(afZ.2 b hb).trans e
  have k12:∀b o,o.cls≠ .type "list_iterator"->o.cls≠ .type "dict"->s.heap.get? b=some o->h''.get? b=some o:=λb o h1 h2 e=>k2 b o (hcd b o h2 e) (k1 b o h1 e)
  refine ih (i+1) { s with heap:=h'',toks:=s.toks+1 } (by omega) (by omega) ?_ ?_ ?_ ?_ ?_
  . obtain⟨oi,hgi,mj,r⟩:=hit'
    exact⟨oi,k2 _ _ (Ne.symm hdI) hgi,mj,r⟩
  . obtain⟨ol,hgl,hcl,r⟩:=hl
    exact⟨ol,k12 _ _ (by rw[hcl];exact pH (by decide)) (by rw[hcl];exact pH (by decide)) hgl,hcl,r⟩
  . exact hp.keep λb o h1 e=>k12 b o (by rw[h1];exact pH (by decide)) (by rw[h1];exact pH (by decide)) e
  . have e1:stored (ps.take i) ps[i].1 ps[i].2=ps.take (i+1):=by
     rw[stored_absent ?_]
     . rw[Q0p,hps];rfl
     . cases hv:valueAt (ps.take i) ps[i].1 with
       |none=>rfl
       |some v=>
        exfalso
        have hm:ps[i].1∈(ps.take i).map (·.1):=by
         unfold valueAt at hv
         obtain⟨q,hq,_⟩:=Option.map_eq_some_iff.mp hv
         have h1:=List.find?_some hq
         have h2:=List.mem_of_find?_eq_some hq
         exact List.mem_map.mpr ⟨q,h2,by simpa using h1⟩
        obtain⟨q,hq,e⟩:=List.mem_map.mp hm
        obtain⟨j,hj,ej⟩:=Q19 hq
        rw[Q0i] at hj
        rw[Q29] at ej
        have hji:j<i:=by omega
        have:=List.pairwise_iff_getElem.mp hn j i (by rw[Q06];omega) (by rw[Q06];exact hlt) hji
        rw[Q1j,Q1j,ej] at this
        exact this e
    rw[<-e1]
    exact hd''
  . intro h3 tk keep G5
    exact hR h3 tk (λb o hb hI e=>keep b o hb hI (k2 b o hb ((sb.2 b hI).trans e))) G5
theorem af2 {ax:Addr}{ts:List Addr}{ps:List (K × Value)}{Q:Value->Shared->Prop}(hh:A.handled=none)(hl:PlainL s.heap ax (ts.map Value.ref).toArray)(hp:tW knd s.heap ts ps)(hn:(ps.map (·.1)).Nodup)(hz:ps.length<=sizeLine)
 (h:∀h' tk,h'.DictOf knd s.heap.objs.size ps->(∀b o,s.heap.get? b=some o->h'.get? b=some o)->Q (.ref s.heap.objs.size) { s with heap:=h',toks:=tk }):
 wpAny (model prog w) A (call (.type "dict") [.ref ax]) Q E s:=by
 refine callType_codes (Q₁:=λobj s₁=>obj=.ref s.heap.objs.size/\s₁={ s with heap:=s.heap.push { cls:=.type "dict",data:=.dict #[] } }) F.kt_called_dict (F.kt_typeCall_dict_1 _) F.entry_dict_init (kt_code_dict_new _ ⟨rfl,rfl⟩) ?_
 rintro obj s₁ ⟨rfl,rfl⟩
 have hnew:(s.heap.push { cls:=.type "dict",data:=.dict #[] }).DictOf knd s.heap.objs.size []:=Heap.DictOf.new s.heap
 have kp:∀b o,s.heap.get? b=some o->(s.heap.push { cls:=.type "dict",data:=.dict #[] }).get? b=some o:=λb o e=>Q04 _ e
 obtain⟨⟨oc,od,oda,osl⟩,n,hg,hc,hdi,hda⟩:=hl
 dsimp only at hc hdi hda
 subst hc
 subst hdi
 subst hda
 refine⟨hnew.typeIs,F.args_dict_init_2 _ _,?_⟩
 unfold Builtin.«dict.__init__»
 refine Q00 ?_
 unfold Builtin.Dict.selfAndRest
 refine Q00 (wpAny_notOrdered_dict hnew.typeIs ?_)
 show wpAny _ _ (pure (s.heap.objs.size,[Value.ref ax])) _ _ _
 refine Q03 ?_
 show wpAny _ _ (Builtin.Dict.updateFrom "dict.__init__" s.heap.objs.size (.ref ax) [] .none) _ _ _
 unfold Builtin.Dict.updateFrom
 refine Q00 (wpAny_typeOf (T:="list") ⟨_,kp _ _ hg,rfl⟩ ?_)
 rw[if_pos (by decide)]
 refine Q00 (afX (kp _ _ hg) hh λh1 tk1 k1=>?_)
 rw[if_pos (show(none:Option Value).isNone=true from rfl)]
 refine Q00 (wpAny_rule ?_)
 refine Q00 (wpAny_pyIter_list (items:=(ts.map Value.ref).toArray) ⟨_,k1 _ _ (kp _ _ hg),rfl,n,rfl⟩ ?_)
 refine Q03 ⟨plainId_quiet Ak _,?_⟩
 have k2:∀b o,s.heap.get? b=some o->(h1.push { cls:=.type "list_iterator",data:=.fields #[.ref ax,.int 0 0] }).get? b=some o:=λb o e=>Q04 _ (k1 _ _ (kp _ _ e))
 have hd1:h1.DictOf knd s.heap.objs.size []:=hnew.keep k1
 refine afY (A:=A.in1) hh s.heap.objs.size h1.objs.size ax ts ps hn hz ps.length 0 _ (Nat.sub_zero _) (Q0b _) ⟨_,Q0c _ rfl,rfl,rfl⟩ ⟨_,k2 _ _ hg,rfl,n,rfl⟩ (hp.keep λb o _ e=>k2 b o e) (hd1.keep λb o e=>Q04 _ e) λh' tk keep hd'=>?_
 refine⟨rfl,h h' tk hd' λb o e=>keep b o (Q08 (Q01 e)) (λz=>?_) (k2 b o e)⟩
 have:=Q01 (k1 _ _ (kp _ _ e))
 rw[z] at this
 exact Q0l _ this
end
section
variable {X:Cx}
theorem af3 {k:Key}{u:Value}(h:RelV (kV k) u):oY k u=true:=by
 cases k with
 |inl i=>obtain⟨t,rfl⟩:=h;show(i == i)=true;simp
 |inr s=>obtain⟨t,rfl⟩:=h;show(s == s)=true;simp
theorem XQ:∀{cs:List Addr}{its:List Value},Vals (cs.map V.ref) its->its=cs.map Value.ref
 |[],_,h=>by cases h;rfl
 |c::r,_,h=>by
  cases h with
  |cons h t=>rw[XQ (cs:=r) t,show _=Value.ref c from h];rfl
theorem XR {pins:List (Addr × Obj)}{σ:St}{H:Hp}{s:Shared}(I:Inv X pins σ H s):∀(ts:List Addr) (kvs:List (Key × V)),ts.length=kvs.length->(∀(i:Nat) t p,ts[i]? =some t->kvs[i]? =some p->H t=some (.tup [kV p.1,p.2]))->∃ps:List (Key × Value),KV kvs ps/\tW (cJ X.prog X.w) s.heap ts ps
 |[],[],_,_=>⟨[],.nil,rfl,λi t p h=>by simp at h⟩
 |t::ts,p::kvs,hl,h=>by
  obtain⟨ps,h1,h2⟩:=XR I ts kvs (by simpa using hl) λi t' p' a b=>h (i+1) t' p' a b
  obtain⟨its,rv,tp,_⟩:=I.tuple (aD.of (h 0 t p rfl rfl))
  obtain⟨u1,u2,rfl,r1,r2⟩:=vals2 rv
  refine⟨(p.1,u2)::ps,.cons ⟨rfl,r2⟩ h1,by rw[Q0o,Q0o,h2.len],λi t' p' a b=>?_⟩
  cases i with
  |zero=>
   have a:some t=some t':=a
   have b:some (p.1,u2)=some p':=b
   cases a
   cases b
   exact⟨u1,af3 r1,tp⟩
  |succ i=>exact h2.at_ i t' p' a b
theorem XS:∀{kvs:List (Key × V)}{ps:List (Key × Value)},KV kvs ps->ps.map (·.1)=kvs.map (·.1)
 |_,_,.nil=>rfl
 |_,_,.cons h t=>by rw[Q0u,Q0u,XS t,h.1]
noncomputable def af4 (K:W.Frag):List V->Hp->VK->Prop:=λxs H Q=>∃a,∃ts:List Addr,∃kvs:List (Key × V),xs=[.ref a]/\aG K H a (ts.map V.ref)/\ts.length=kvs.length/\(∀(i:Nat) t p,ts[i]? =some t->kvs[i]? =some p->H t=some (.tup [kV p.1,p.2]))/\(kvs.map (·.1)).Nodup/\kvs.length<=100/\∀l,H l=none->Q (.ref l) (upd H l (.dK kvs))
theorem X3 (hc:X.calm=true):iY X (.type "dict") (af4 X.K):=by
 intro pins s σ H xs us Q I r h
 obtain⟨a,ts,kvs,rfl,hq,hlen,hat,hn,h100,q⟩:=h
 obtain⟨u,rfl,ru⟩:=vals1 r
 cases ru
 obtain⟨its,rv,pl,hz⟩:=I.list hq
 obtain rfl:=XQ rv
 obtain⟨ps,kv,hp⟩:=XR I ts kvs hlen hat
 have X4:kvs.length<=sizeLine:=Q0s (cW (by omega))
 refine af2 (I.ok.hd hc) pl hp (by rw[XS kv];exact hn) (by rw[<-kv.length];exact X4) λh' tk hd hk=>?_
 have hb:(s.heap.objs.size == sysModules)=false:=beq_eq_false_iff_ne.mpr (Q0m I.big)
 exact⟨.ref s.heap.objs.size,_,I.laid (a:=s.heap.objs.size) (o:=.dK kvs) (t':=tk) hk (Q02 _) ⟨X4,hb,ps,kv,hd⟩,rfl,q _ (I.hok.fresh (Q02 _))⟩
end
noncomputable def pI (h:Heap) (C fI:Addr) (iH:List Value) (nid:String):Prop:=
 ∃tl N nm q bs hdct sn sub ab col dd k0 k1 k2 k3 k5 mN oI,h.get? C=some (excClassObj nm q C N bs tl hdct sn sub ab col dd k0 k1 k2 k3 k5 nid)/\h.Ns N mN/\mN "__init__"=some (.ref fI)/\OwnTail h iH tl/\h.get? fI=some oI/\oI.cls=.type "function"
theorem pI.keeps {h h':Heap}{C fI:Addr}{iH:List Value}{nid:String}(x:pI h C fI iH nid)(k:∀b o,h.get? b=some o->h'.get? b=some o):pI h' C fI iH nid:=by
 obtain⟨tl,N,nm,q,bs,hdct,sn,sub,ab,col,dd,k0,k1,k2,k3,k5,mN,oI,h1,h2,h3,h4,h5,h6⟩:=x
 exact⟨tl,N,nm,q,bs,hdct,sn,sub,ab,col,dd,k0,k1,k2,k3,k5,mN,oI,k _ _ h1,h2.keeps k,h3,h4.keeps k,k _ _ h5,h6⟩
section
variable {prog:Program}{w:World}{A:Around}{E:Value->Shared->Prop}{hp:Heap}{g:Array GenState}{dr:Drawn}{tk:Nat}{os:OsState}{C fI:Addr}{iH:List Value}{B nid Al:String}
theorem af5 (FB:ExcBaseFacts B nid Al iH){us:List Value}{Q:Fin->Shared->Prop}(x:pI hp C fI iH nid)
 (q1:∀h' e,Heap.MadeExcOf hp h' e (.ref C) us->wpAny (model prog w) A (call (.ref fI) (.ref e::us)) (λr s'=>r=.none/\Q (.done (.ret (.ref e))) s') E ⟨h',g,dr,tk,os⟩) (hl:us.length<=sizeLine):
 wpAny (model prog w) A (Builtin.«type.__call__» ⟨.ref C::us,[]⟩) Q E ⟨hp,g,dr,tk,os⟩:=by
 obtain⟨tl,N,nm,q,bs,hdct,sn,sub,ab,col,dd,k0,k1,k2,k3,k5,mN,oI,cl,ns,ini,tail,X5,fty⟩:=x
 repeat (first|with_reducible refine wpAny_loadPart_at cl ?_|with_reducible refine wpAny_madeBy_exc cl ?_|wp_step)
 refine codeAny_call_builtin_code (Code.quiet_builtin _ FB.quiet) (wpAny_check_new_subT FB tail cl (codeAny_exc_new_subT FB tail cl ?_ hl))
 show wpAny _ _ _ _ _ _
 generalize hO1:({ cls:=.type "tuple",data:=.seq us.toArray }:Obj)=o1
 generalize G6:({ cls:=.ref C,data:=.fields #[.ref hp.objs.size,.none,.none,.none,.bool false,.none] }:Obj)=o2
 have up:∀b o,hp.get? b=some o->((hp.push o1).push o2).get? b=some o:=λb o e=>Q04 _ (Q04 _ e)
 have X6:=up _ _ cl
 have ns':((hp.push o1).push o2).Ns N mN:=ns.keeps up
 have af7:=up _ _ X5
 have tail':=tail.keeps up
 have ex:((hp.push o1).push o2).get? (hp.objs.size+1)=some o2:=by
  subst G6
  exact Q2a (by rw[Q0y]) rfl
 have ecl:o2.cls=.ref C:=by rw[<-G6]
 have inC:(Value.ref C::tl).contains (.ref C)=true:=by simp
 unfold isInstance
 repeat (first|(with_reducible refine wpAny_loadPart_at ex ?_;rw[ecl])|(with_reducible refine wpAny_isSubtype_exc X6 ?_;rw[inC])|wp_step)
 show wpAny _ _ (typeLookup (.ref C) _) _ _ _
 refine wpAny_typeLookup_tail X6 ns' tail' FB.mroIs FB.init.lookup ?_
 rw[ini]
 refine wpAny_holding (Q00 ?_)
 unfold bindSpecial
 refine Q00 (wpAny_typeOf (T:="function") ⟨_,af7,fty⟩ ?_)
 rw[if_pos (by decide)]
 refine Q03 (Q00 (Q0h (q1 _ (hp.objs.size+1) ⟨up,Q2 (Q10 _),hp.objs.size,?_,Q2 (Q02 _),?_⟩) (λr s' hr=>?_) λ_ _ z=>z))
 . rw[ex,<-G6]
 . rw[<-hO1]
   exact Q04 _ (Q2a rfl rfl)
 . obtain⟨rfl,hQ⟩:=hr
   wp_walk
   exact hQ
theorem af9 (FB:ExcBaseFacts B nid Al iH){us:List Value}{Q:Value->Shared->Prop}(x:pI hp C fI iH nid)
 (q1:∀h' e,Heap.MadeExcOf hp h' e (.ref C) us->wpAny (model prog w) (A.under (.builtin "type.__call__" ⟨.ref C::us,[]⟩)) (call (.ref fI) (.ref e::us)) (λr s'=>r=.none/\Q (.ref e) s') E ⟨h',g,dr,tk,os⟩) (hl:us.length<=sizeLine):
 wpAny (model prog w) A (call (.ref C) us) Q E ⟨hp,g,dr,tk,os⟩:=by
 have tl1:=tc_lookup
 have tl2:=tc_bind (.ref C)
 have x':=x
 obtain⟨tl,N,nm,q,bs,hdct,sn,sub,ab,col,dd,k0,k1,k2,k3,k5,mN,oI,cl,ns,ini,tail,X5,fty⟩:=x'
 have ty:(⟨hp,g,dr,tk,os⟩:Shared).TypeIs (.ref C) "type":=⟨_,cl,rfl⟩
 refine wpAny_call (codeAny_of_tree ?_)
 show wpAny _ _ (callAny (.ref C) _) _ _ _
 repeat (any_goals (first|assumption|with_reducible refine wpAny_loadPart_at cl ?_|wp_step))
 exact⟨rfl,codeAny_call_builtin_at (Code.quiet_builtin _ (by decide +kernel)) entry_typeCall (wpAny_check_type_call_sub cl (af5 FB x (λh' e hm=>q1 h' e hm) hl))⟩
end
theorem af_ {M:Model}{A:Around}{E:Value->Shared->Prop}{env:Env}{s:Shared}{x:Sem Value}{Q:Flow->Shared->Prop}(hh:A.handled=none)
 (h:wpAny M A x (λv s1=>∃(e C:Addr) (oe:Obj) (t:Value) (r:Array Value),v=.ref e/\s1.heap.get? e=some oe/\oe.cls=.ref C/\oe.data=.fields #[t,.none,.none,.none,.bool false,.none]/\
   (∃tl N nm q bs hdct sn sub ab col dd k0 k1 k2 k3 k5 nid,s1.heap.get? C=some (excClassObj nm q C N bs tl hdct sn sub ab col dd k0 k1 k2 k3 k5 nid)/\tl.contains (.type "BaseException")=true)/\E (.ref e) s1) E s):
 wpAny M A (raiseStmt env (some x) none) Q E s:=by
 unfold raiseStmt
 refine Q00 (Q0h h (λv s1 h1=>?_) λ_ _ z=>z)
 obtain⟨e,C,oe,t,r,rfl,he,hc,hd,⟨tl,N,nm,q,bs,hdct,sn,sub,ab,col,dd,k0,k1,k2,k3,k5,nid,cl,hb⟩,hE⟩:=h1
 have inB:(Value.ref C::tl).contains (.type "BaseException")=true:=by rw[List.contains_cons,hb,Bool.or_true]
 obtain⟨hp,g,dr,tk,os⟩:=s1
 obtain⟨oc,od,oda,osl⟩:=oe
 have hc:oc=.ref C:=hc
 have hd:oda=.fields #[t,.none,.none,.none,.bool false,.none]:=hd
 subst hc
 subst hd
 repeat (first|with_reducible refine wpAny_loadPart_at he ?_|with_reducible refine wpAny_loadPart_at cl ?_|(with_reducible refine wpAny_isSubtype_exc cl ?_;rw[inB])|wp_step)
 exact wpAny_raiseNew_none hh hE
end L2
namespace L2
open PySem PySem.Spec PySem.Calls PyProof.Rows PySem.W PySem.Builtin PySem.Builtin.ObjectAttr
noncomputable def Am:List Value->Bool
 | .ref _::r=>Am r
 |l=>l == [.type "ValueError",.type "Exception",.type "BaseException",.type "object"]
theorem X7 {self:Value}:∀{l:List Value},Am l=true->refuseLoop self "__setattr__" l=pure ()
 |[],h=>by cases h
 | .ref C::r,h=>by
   rw[refuseLoop_ref]
   exact X7 (l:=r) h
 | .type n::r,h=>by
   have e:Value.type n::r=[.type "ValueError",.type "Exception",.type "BaseException",.type "object"]:=beq_iff_eq.mp h
   rw[e]
   exact F.store_ValueError.passes self
 | .none::r,h=>by cases beq_iff_eq.mp (show(Value.none::r == _)=true from h)
 | .bool b::r,h=>by cases beq_iff_eq.mp (show(Value.bool b::r == _)=true from h)
 | .int i t::r,h=>by cases beq_iff_eq.mp (show(Value.int i t::r == _)=true from h)
 | .str x t::r,h=>by cases beq_iff_eq.mp (show(Value.str x t::r == _)=true from h)
 | .bytes x t::r,h=>by cases beq_iff_eq.mp (show(Value.bytes x t::r == _)=true from h)
 | .float x t::r,h=>by cases beq_iff_eq.mp (show(Value.float x t::r == _)=true from h)
 | .builtin x::r,h=>by cases beq_iff_eq.mp (show(Value.builtin x::r == _)=true from h)
 | .ellipsis::r,h=>by cases beq_iff_eq.mp (show(Value.ellipsis::r == _)=true from h)
 | .notImplemented::r,h=>by cases beq_iff_eq.mp (show(Value.notImplemented::r == _)=true from h)
structure pJ (K:Frag) (C:Addr) (name:Str):Prop where
 sa:findIn K (.ref C) "__setattr__"=some (some (.builtin "object.__setattr__"))
 na:findIn K (.ref C) name=some none
 ob:mroIn K C (.type "object")=some true
 row:((clsIn K C).any λcd=>Am cd.mro && cd.hasDict)=true
section
variable {prog:Program}{w:World}{A:Around}{E:Value->Shared->Prop}{s:Shared}{K:Frag}{x C:Addr}{ox:Obj}{name:Str}{v:Value}
theorem aga {R:Result->Shared->Prop}{tk:Tok}(X:K.In s.heap)(Z:pJ K C name)(hx:s.heap.get? x=some ox)(hc:ox.cls=.ref C)
 (h:wpAny (model prog w) A.in1 (storeInOwnDict (.ref x) (.ref C) (.str name tk) name v false) (λfin s'=>match fin with| .done f=>R (.ok f) s'| .again c'=>c'.quiet=true/\codeAny (model prog w) A c' R s') (λe s'=>R (.error e) s') s):
 codeAny (model prog w) A (.call (.builtin "object.__setattr__") ⟨[.ref x,.str name tk,v],[]⟩) R s:=by
 have SF:=PySem.F.store_object
 have L0:Looks (model prog w) s.heap (typeOf (.ref x)) (.ref C):=by
  have z:Looks (model prog w) s.heap (typeOf (.ref x)) ox.cls:=(Looks.ld hx).andThen .now
  rw[hc] at z
  exact z
 have Lo:Looks (model prog w) s.heap (isInstance (.ref x) (.type "object")) true:=L0.andThen (looks_mroIn X Z.ob)
 obtain⟨cd,hcd,hrow⟩:=any_some Z.row
 have hr:=(Bool.and_eq_true_iff.mp hrow).1
 have Lm:Looks (model prog w) s.heap (mroOf (.ref C)) cd.mro:=(looks_clsIn X hcd).andThen .now
 refine codeAny_call_builtin SF.slot.plain SF.entry (@check_slot (model prog w) _ _ s "object.__setattr__" "object" "__setattr__" (.ref x) [.str name tk,v] [] _ SF.kind SF.split Lo (SF.args (.ref x) (.str name tk) v) ?_)
 rw[osa_eq,refuse_eq]
 refine Q00 (Q00 (L0.here (Q00 (Lm.here ?_))))
 rw[X7 hr]
 refine Q03 (Q00 (L0.here (Q00 ((looks_findIn X Z.na).here (Q00 ?_)))))
 exact(show Looks (model prog w) s.heap (storeTaker? none) none from .now).here h
theorem agb {Q:Unit->Shared->Prop}{vs:Array Value}(X:K.In s.heap)(Z:pJ K C name)(hx:s.heap.get? x=some ox)(hc:ox.cls=.ref C)(hdn:ox.dict=none)(hd:ox.data=.fields vs)
 (h:∀h' tk',h'.Ns1 s.heap.objs.size (λy=>if y=name then some v else none)->h'.get? x=some { ox with dict:=some s.heap.objs.size }->(∀b o,b≠x->s.heap.get? b=some o->h'.get? b=some o)->Q () { s with heap:=h',toks:=tk' }):
 wpAny (model prog w) A (setAttr (.ref x) name v) Q E s:=by
 have I:InstAt s.heap x ox C none:=⟨hx,hc,by unfold notCls;rw[hd],by rw[hdn];trivial⟩
 refine set_plain X I Z.sa (aga (s:={ s with toks:=s.toks+1 }) X Z hx hc ?_)
 obtain⟨cd,hcd,hrow⟩:=any_some Z.row
 have hdct:=(Bool.and_eq_true_iff.mp hrow).2
 obtain⟨oc,od,oda,osl⟩:=ox
 have hc:oc=.ref C:=hc
 have hdn:od=none:=hdn
 have hd:oda=.fields vs:=hd
 subst hc
 subst hdn
 subst hd
 have Lc:=looks_clsIn (M:=model prog w) X hcd
 obtain⟨hp,g,dr,tk,os⟩:=s
 have hx:hp.get? x=some ⟨.ref C,none,.fields vs,osl⟩:=hx
 have hxs:x≠hp.objs.size:=Q08 (Q01 hx)
 unfold storeInOwnDict
 refine Q00 (Q03 ?_)
 refine Q00 ?_
 show wpAny _ _ (instanceDict x true) _ _ _
 unfold instanceDict
 refine Q00 (wpAny_loadPart hx (Q00 (Lc.at ?_)))
 rw[hdct]
 rw[if_neg (by decide)]
 show wpAny _ _ (if(!true || !typeHasDict (.ref C))=true then _ else _) _ _ _
 rw[if_neg (by simp[typeHasDict])]
 show wpAny _ _ (alloc _ >>= _) _ _ _
 have hx1:(hp.push { cls:=.type "dict",data:=.dict #[] }).get? x=some ⟨.ref C,none,.fields vs,osl⟩:=Q04 _ hx
 refine Q00 (wpAny_alloc' (Q00 (wpAny_update' hx1 (Q03 ?_))))
 generalize hH:(hp.push { cls:=.type "dict",data:=.dict #[] }).update x (λo=>{ cls:=o.cls,dict:=some hp.objs.size,data:=o.data,slots:=o.slots })=h1
 have gd:h1.get? hp.objs.size=some { cls:=.type "dict",data:=.dict #[] }:=by
  rw[<-hH]
  exact(Q28 _ _ _ _ hxs.symm).trans (Q2a rfl rfl)
 have gx:h1.get? x=some ⟨.ref C,some hp.objs.size,.fields vs,osl⟩:=by
  rw[<-hH]
  exact Q16 _ hx1 rfl
 have go:∀b o,b≠x->hp.get? b=some o->h1.get? b=some o:=λb o hb e=>by
  rw[<-hH]
  exact(Q28 _ _ _ _ hb).trans (Q04 _ e)
 have nsd:h1.Ns hp.objs.size (λ_=>none):=⟨_,#[],_,gd,rfl,(λe he=>absurd he (by simp)),λ_=>rfl⟩
 show wpAny _ _ (storeInDict hp.objs.size (.str name tk) name v) _ _ _
 unfold storeInDict newKeyGuard
 refine Q00 (Q03 (Q00 (wpAny_nsSet1 (Heap.Ns1.of_empty nsd) λh2 hn2 hs2=>?_)))
 obtain⟨oD,esD,epD,hoD,hdD,hcD⟩:=hn2.count (PySem.Within.cons name v PySem.Within.nil)
 refine Q00 (wpAny_lookBehind hoD (by rw[hdD];exact pastItsLine_dict (Q0e hcD (by rw[Q0o,Q2l,sizeLine_eq];omega))) ?_)
 exact Q03 (h h2 _ hn2 ((hs2.2 x hxs).trans gx) λb o hb e=>(hs2.2 b (Q08 (Q01 e))).trans (go b o hb e))
end
end L2
namespace L2
open PySem PySem.Spec PySem.Calls PyProof.Rows PySem.W PySem.Builtin PySem.Builtin.ObjectAttr PySem.Builtin.Getset_descriptor
section
variable {prog:Program}{w:World}{A:Around}{E:Value->Shared->Prop}{K:Frag}{h:Heap}{g:Array GenState}{d:Drawn}{t:Nat}{os:OsState}{a C dx:Addr}{o:Obj}{vs:Array Value}{mA:Str->Option Value}{name:Str}{v:Value}
theorem agd {tk:Tok}{Q:Fin->Shared->Prop}(X:K.In h)(Z:tR K C)(Y:pJ K C name)(hx:h.get? a=some o)(hc:o.cls=.ref C)(hd:o.data=.fields vs)(hdx:o.dict=some dx)(hn:h.Ns dx mA)(hv:mA name=some v)(hq:Q (.done (.ret v)) ⟨h,g,d,t,os⟩):
 wpAny (model prog w) A (Builtin.«object.__getattribute__» ⟨[.ref a,.str name tk],[]⟩) Q E ⟨h,g,d,t,os⟩:=by
 obtain⟨cd,hcd,hrow⟩:=any_some Y.row
 have hdct:=(Bool.and_eq_true_iff.mp hrow).2
 have L1:=looks_findIn (M:=model prog w) X Y.na
 have L2:=looks_clsIn (M:=model prog w) X hcd
 obtain⟨oc,od,oda,osl⟩:=o
 have hc:oc=.ref C:=hc
 have hd:oda=.fields vs:=hd
 have hdx:od=some dx:=hdx
 subst hc
 subst hd
 subst hdx
 have hC:∃c' d' sl',h.get? C=some ⟨c',d',.cls cd,sl'⟩:=by
  unfold clsIn at hcd
  split at hcd
  . rename_i c' d' cd' sl' ho
    cases hcd
    exact⟨c',d',sl',X _ _ ho⟩
  . cases hcd
 obtain⟨c',d',sl',hC⟩:=hC
 obtain⟨c1,c2,c3,c4,c5,c6,c7,c8,c9,X8,X_⟩:=cd
 have hdct:c6=true:=hdct
 subst hdct
 repeat (any_goals (first|assumption|with_reducible refine wpAny_loadPart_at hx ?_|with_reducible refine wpAny_loadPart_at hC ?_|with_reducible refine L1.at ?_|(with_reducible refine wpAny_nsGet hn ?_;rw[hv])|wp_step))
theorem agf {tk:Tok}{fill expr:Bool}{Q:Value->Shared->Prop}(X:K.In h)(Z:tR K C)(Y:pJ K C name)(hx:h.get? a=some o)(hc:o.cls=.ref C)(hd:o.data=.fields vs)(hdx:o.dict=some dx)(hn:h.Ns dx mA)(hv:mA name=some v)(hh:handedOut v=pure v)(hq:Q v ⟨h,g,d,t,os⟩):
 wpAny (model prog w) A (getAttrBy (.ref a) (.str name tk) fill expr) Q E ⟨h,g,d,t,os⟩:=by
 have f3:=F.attr_ValueError.ga.bind (.ref a)
 have hx0:(expr && onTheHeap (Value.builtin "BaseException.__getattribute__"))=false:=by cases expr <;> rfl
 have hx2:(Value.builtin "BaseException.__getattribute__" == Value.builtin "object.__getattribute__")=false:=by decide +kernel
 have hx1:(onTheHeap (Value.ref C) && Value.builtin "BaseException.__getattribute__" == Value.builtin "object.__getattribute__")=false:=by rw[hx2];rfl
 have L1:=looks_findIn (M:=model prog w) X Z.ga
 have L2:=looks_findIn (M:=model prog w) X Z.gt
 repeat (any_goals (first|assumption|(with_reducible refine wpAny_loadPart_at hx ?_;rw[hc])|with_reducible refine L1.at ?_|with_reducible refine L2.at ?_|wp_step))
 refine codeAny_call_builtin F.attr_ValueError.ga.plain F.entry_bexc_ga (afA X Z hx hc (agd X Z Y hx hc hd hdx hn hv ?_))
 repeat (any_goals (first|assumption|wp_step))
theorem agg {expr:Bool}{Q:Value->Shared->Prop}(X:K.In h)(Z:tR K C)(Y:pJ K C name)(hx:h.get? a=some o)(hc:o.cls=.ref C)(hd:o.data=.fields vs)(hdx:o.dict=some dx)(hn:h.Ns dx mA)(hv:mA name=some v)(hh:handedOut v=pure v)(hq:Q v ⟨h,g,d,t+1,os⟩):
 wpAny (model prog w) A (getAttr (.ref a) name expr) Q E ⟨h,g,d,t,os⟩:=by
 unfold getAttr
 repeat (any_goals (first|assumption|with_reducible apply agf X Z Y hx hc hd hdx hn hv hh|wp_step))
end
end L2
namespace L2
open PySem PySem.Spec PyProof.Rows
section
variable {M:Model}{A:Around}{E:Value->Shared->Prop}{s:Shared}
structure jT (h:Heap) (e T:Addr) (cls:Value) (dd:Option Addr) (fl:Value):Prop where
 ex:∃oe vs,h.get? e=some oe/\oe.cls=cls/\oe.dict=dd/\oe.data=.fields vs/\vs[1]? =some (.ref T)
 tb:∃oT ts,h.get? T=some oT/\oT.data=.fields ts/\ts[3]? =some fl
 ne:T≠e
theorem wO {e T:Addr}{cls fl:Value}{dd:Option Addr}{Q:Unit->Shared->Prop}(t:jT s.heap e T cls dd fl)(h:∀h',jT h' e T cls dd .none->(∀b o,b≠T->s.heap.get? b=some o->h'.get? b=some o)->(∃o',h'.get? T=some o')->Q () { s with heap:=h' }):wpAny M A (setFlight (.ref e) none) Q E s:=by
 obtain⟨⟨oe,vs,he,hc,hdi,hd,h1⟩,⟨oT,ts,hT,hdT,h3⟩,ne⟩:=t
 have em:Obj.mapFields (·.setIfInBounds 3 ((none:Option Addr).elim Value.none λf=>rawInt f)) oT={ oT with data:=.fields (ts.setIfInBounds 3 .none) }:=Gy hdT
 have hsz:=(Array.getElem?_eq_some_iff.mp h3).1
 unfold setFlight
 refine Q00 (wpAny_field he hd h1 ?_)
 rw[if_pos (show(Value.ref T != Value.none)=true by simp)]
 have self:=Q16 (Obj.mapFields (·.setIfInBounds 3 ((none:Option Addr).elim Value.none λf=>rawInt f))) hT (by rw[em];exact Obj.isFreed_of_fields rfl)
 rw[em] at self
 have oth:∀b o,b≠T->s.heap.get? b=some o->(s.heap.update T (Obj.mapFields (·.setIfInBounds 3 ((none:Option Addr).elim Value.none λf=>rawInt f)))).get? b=some o:=λb o hb ho=>by
  rw[Q13 _ _ (Ne.symm hb)];exact ho
 exact wpAny_setField hT hdT hsz (h _ ⟨⟨oe,vs,oth e oe (Ne.symm ne) he,hc,hdi,hd,h1⟩,⟨_,_,self,rfl,by simp[hsz]⟩,ne⟩ oth ⟨_,self⟩)
theorem Yb {base:Heap}{env:Env}{outer:List Env}{L e T:Addr}{cls:Value}{dd:Option Addr}{Q:Unit->Shared->Prop}(hfr:A.frames=some (env::outer))(hl:s.heap.FunFrames base (env::outer))(hf:env.frame=some L)(t:jT s.heap e T cls dd .none)
 (h:∀(h':Heap) (T':Addr),s.heap.objs.size<=T'->(∀b o,b ∉ frs (env::outer)->b≠e->b≠T->s.heap.get? b=some o->h'.get? b=some o)->(∀b o,b≠e->b≠T->s.heap.get? b=some o->∃sl,h'.get? b=some { o with slots:=sl })->(∃o,h'.get? T=some o)->jT h' e T' cls dd (rawInt L)->Q () { s with heap:=h' }):
 wpAny M A (noteFrame (.ref e) env) Q E s:=by
 obtain⟨⟨oe,vs,he,hc,hdi,hd,h1⟩,⟨oT,ts,hT,hdT,h3⟩,ne⟩:=t
 have hsz:=(Array.getElem?_eq_some_iff.mp h3).1
 have em:Obj.mapFields (·.setIfInBounds 3 Value.none) oT={ oT with data:=.fields (ts.setIfInBounds 3 .none) }:=Gy hdT
 unfold noteFrame
 simp only[hf]
 refine Q00 (wpAny_field he hd h1 ?_)
 rw[if_pos (show(Value.ref T != Value.none)=true by simp)]
 refine Q00 (wpAny_field hT hdT h3 ?_)
 rw[if_neg (show ¬(Value.none == rawInt L)=true by simp[rawInt])]
 refine Q00 (wpAny_setField hT hdT hsz ?_)
 have self:=Q16 (Obj.mapFields (·.setIfInBounds 3 Value.none)) hT (by rw[em];exact Obj.isFreed_of_fields rfl)
 rw[em] at self
 have oth:∀b o,b≠T->s.heap.get? b=some o->(s.heap.update T (Obj.mapFields (·.setIfInBounds 3 Value.none))).get? b=some o:=λb o hb ho=>by
  rw[Q13 _ _ (Ne.symm hb)];exact ho
 have nT:∀b o,s.heap.get? b=some o->(∀vs,o.data≠ .fields vs)->b≠T:=λb o ho hn z=>by
  rw[z,hT] at ho
  cases ho
  exact hn ts hdT
 have hsize:(s.heap.update T (Obj.mapFields (·.setIfInBounds 3 Value.none))).objs.size=s.heap.objs.size:=Q26 _ _ _
 refine Xi (s:={ s with heap:=s.heap.update T (Obj.mapFields (·.setIfInBounds 3 Value.none)) }) hfr (hl.of_keeps λb o ho hn=>⟨o,oth b o (nT b o ho hn) ho,rfl⟩) hf (oth e oe (Ne.symm ne) he) hd (Array.getElem?_eq_some_iff.mp h1).1 λh' T' hT' hP he' htb=>?_
 have hle:s.heap.objs.size<=T':=by rw[<-hsize];exact hT'
 refine h h' T' hle (λb o hb hbe hbT ho=>hP.1 b o hb hbe (oth b o hbT ho)) (λb o hbe hbT ho=>hP.2 b o hbe (oth b o hbT ho)) ?_ ⟨⟨_,_,he',hc,hdi,rfl,by simp[(Array.getElem?_eq_some_iff.mp h1).1]⟩,htb,?_⟩
 . obtain⟨sl,hs⟩:=hP.2 T _ ne self
   exact⟨_,hs⟩
 . have h1:e<s.heap.objs.size:=Q01 he
   exact λz=>Q0l e (Q0a h1 (by rw[<-z];exact hle))
end
section
variable {X:Cx}{pins:List (Addr × Obj)}{σ:St}{H:Hp}{s:Shared}
theorem Inv.agh (I:Inv X pins σ H s)(hex:X.ex=[])(hst:X.stack=X.env::X.outer)(hfm:X.env.frame=some X.env.locals){a T:Addr}{cls:Value}{dd:Option Addr}{Q:Unit->Shared->Prop}{E:Value->Shared->Prop}{M:Model}(t:jT s.heap a T cls dd .none)
 (ha:X.s₀.heap.get? a=none) (hT:X.s₀.heap.get? T=none) (na:H a=none) (nT:H T=none)
 (q:∀(h':Heap) (T':Addr),jT h' a T' cls dd .none->X.s₀.heap.get? T'=none->H T'=none->Un (frs X.outer) [] X.H₀ H X.s₀.heap h'->cC X.prog X.w H h'->Q () { s with heap:=h' }):
 wpAny M X.A (leaving X.env (.ref a)) Q E s:=by
 have hfr:X.A.frames=some (X.env::X.outer):=by rw[<-hst];exact I.ok.frames
 have hl:s.heap.FunFrames X.base (X.env::X.outer):=by rw[<-hst];exact I.stack
 unfold leaving
 refine Q00 (Yb hfr hl hfm t λh1 T1 hT1 k1 k2 hTT t1=>?_)
 refine wO (s:={ s with heap:=h1 }) t1 λh2 t2 k3 hT2=>?_
 have G7:H T1=none:=I.hok.fresh hT1
 have mq:∀b o,s.heap.get? b=some o->b≠T1:=λb o e z=>by
  have h3:=Q01 e
  rw[z] at h3
  exact Q0l _ (Q0a h3 hT1)
 obtain⟨u,ok⟩:=I.Xl hex (h':=h2) ha hT na nT (λb o hb h1' h2' e=>k3 b o (mq b o e) (k1 b o (by rw[<-hst];exact hb) h1' h2' e)) (λb o h1' h2' e=>by
  obtain⟨sl,e1⟩:=k2 b o h1' h2' e
  exact⟨sl,k3 b _ (mq b o e) e1⟩)
 exact q h2 T1 t2 (I.tQ hex (Heap.Xk hT1)) G7 u ok
end
noncomputable def gA (P:Program) (w:World):iC:=λouter H s E e s'=>∃(a T C:Addr) (dd:Option Addr) (H':Hp),e=.ref a/\jT s'.heap a T (.ref C) dd .none/\s.heap.get? a=none/\s.heap.get? T=none/\H' a=none/\H' T=none/\s'.os=s.os/\AllBare s'.gens/\Un (frs outer) [] H H' s.heap s'.heap/\cC P w H' s'.heap/\E (.ref C) dd H'
theorem G8 {P:Program}{w:World}{K:W.Frag}{mg:Str->Option Value}{base:Heap}{N:List Str}{qual:Str}{scope:Scope}{f:Addr}{cd:Value}{A:Around}{outer:List Env}{s₀:Shared}{H₀:Hp}{E E':XK}(hE:∀C d H,E' C d H->E C d H):
 Passes (gA P w) (lA (gA P w) P w K mg base N qual scope f cd A outer s₀ H₀ E) E':=λpins σ H s e s' I h=>by
 obtain⟨a,T,C,dd,H',rfl,t,la,lT,na,nT,os,bare,un,hok,hE'⟩:=h
 obtain⟨hh,g,d,tk,os'⟩:=s'
 obtain rfl:os'=s.os:=os
 have I':=I.call (h':=hh) (g':=g) (d':=d) (t':=tk) (ch:=[]) un hok bare (λb z=>absurd z (by simp))
 show wpAny (model P w) _ (leaving _ _) _ _ _
 refine I'.agh rfl rfl rfl t (I.tQ rfl la) (I.tQ rfl lT) na nT λh' T' t' G9 G_ un' hok'=>?_
 exact⟨a,T',C,dd,H',rfl,t',I.tQ rfl la,G9,na,G_,I'.os,bare,un',hok',hE _ _ _ hE'⟩
section
variable {M:Model}{A:Around}{E:Value->Shared->Prop}{s:Shared}
theorem agi {base:Heap}{env:Env}{outer:List Env}{L e:Addr}{cls:Value}{dd:Option Addr}{oe:Obj}{vs:Array Value}{Q:Unit->Shared->Prop}(hfr:A.frames=some (env::outer))(hl:s.heap.FunFrames base (env::outer))(hf:env.frame=some L)
 (he:s.heap.get? e=some oe) (hc:oe.cls=cls) (hdi:oe.dict=dd) (hd:oe.data=.fields vs) (h1:vs[1]? =some .none)
 (h:∀(h':Heap) (T':Addr),s.heap.objs.size<=T'->(∀b o,b ∉ frs (env::outer)->b≠e->s.heap.get? b=some o->h'.get? b=some o)->(∀b o,b≠e->s.heap.get? b=some o->∃sl,h'.get? b=some { o with slots:=sl })->jT h' e T' cls dd (rawInt L)->Q () { s with heap:=h' }):
 wpAny M A (noteFrame (.ref e) env) Q E s:=by
 have hsz:=(Array.getElem?_eq_some_iff.mp h1).1
 unfold noteFrame
 simp only[hf]
 refine Q00 (wpAny_field he hd h1 ?_)
 rw[if_neg (by decide)]
 refine Xi hfr hl hf he hd hsz λh' T' hT' hP he' htb=>?_
 refine h h' T' hT' hP.1 hP.2 ⟨⟨_,_,he',hc,hdi,rfl,by simp[hsz]⟩,htb,λz=>?_⟩
 have h3:=Q01 he
 rw[<-z] at h3
 exact Q0l _ (Q0a h3 hT')
end
section
variable {X:Cx}{pins:List (Addr × Obj)}{σ:St}{H:Hp}{s:Shared}
theorem Inv.agj (I:Inv X pins σ H s)(hex:X.ex=[])(hst:X.stack=X.env::X.outer)(hfm:X.env.frame=some X.env.locals){a:Addr}{oe:Obj}{vs:Array Value}{cls:Value}{dd:Option Addr}{Q:Unit->Shared->Prop}{E:Value->Shared->Prop}{M:Model}
 (he:s.heap.get? a=some oe) (hc:oe.cls=cls) (hdi:oe.dict=dd) (hd:oe.data=.fields vs) (h1:vs[1]? =some .none) (ha:X.s₀.heap.get? a=none) (na:H a=none)
 (q:∀(h':Heap) (T':Addr),jT h' a T' cls dd .none->X.s₀.heap.get? T'=none->H T'=none->Un (frs X.outer) [] X.H₀ H X.s₀.heap h'->cC X.prog X.w H h'->Q () { s with heap:=h' }):
 wpAny M X.A (leaving X.env (.ref a)) Q E s:=by
 have hfr:X.A.frames=some (X.env::X.outer):=by rw[<-hst];exact I.ok.frames
 have hl:s.heap.FunFrames X.base (X.env::X.outer):=by rw[<-hst];exact I.stack
 unfold leaving
 refine Q00 (agi hfr hl hfm he hc hdi hd h1 λh1 T1 hT1 k1 k2 t1=>?_)
 refine wO (s:={ s with heap:=h1 }) t1 λh2 t2 k3 hT2=>?_
 have G7:H T1=none:=I.hok.fresh hT1
 have mq:∀b o,s.heap.get? b=some o->b≠T1:=λb o e z=>by
  have h3:=Q01 e
  rw[z] at h3
  exact Q0l _ (Q0a h3 hT1)
 obtain⟨u,ok⟩:=I.Xl hex (h':=h2) ha ha na na (λb o hb h1' _ e=>k3 b o (mq b o e) (k1 b o (by rw[<-hst];exact hb) h1' e)) (λb o h1' _ e=>by
  obtain⟨sl,e1⟩:=k2 b o h1' e
  exact⟨sl,k3 b _ (mq b o e) e1⟩)
 exact q h2 T1 t2 (I.tQ hex (Heap.Xk hT1)) G7 u ok
end
noncomputable def mz (a C:Addr) (dd:Option Addr):HO:=.ext λh=>∃o,h.get? a=some o/\o.cls=.ref C/\o.dict=dd/\∃vs,o.data=.fields vs
theorem mz.ok {P:Program}{w:World}{H:Hp}{h:Heap}{a C:Addr}{dd:Option Addr}(e:∃o,h.get? a=some o/\o.cls=.ref C/\o.dict=dd/\∃vs,o.data=.fields vs):cO P w H h a (mz a C dd):=
 ⟨e,let⟨o,h1,_⟩:=e;⟨o,h1⟩,λ_ _ ⟨o,h1,h2⟩ k=>⟨o,k o h1,h2⟩⟩
noncomputable def wQ (X:Cx) (pins:List (Addr × Obj)) (σ:St) (Ek:XK) (e:Value) (s':Shared):Prop:=∃H s,Inv X pins σ H s/\gA X.prog X.w X.stack H s Ek e s'
noncomputable def wR (X:Cx) (Ek:XK) (e:Expr) (t:TE):Prop:=
 ∀(pins:List (Addr × Obj)) (s:Shared) (σ:St) (H:Hp) (Q:VK),Inv X pins σ H s->t σ H Q->wpAny (model X.prog X.w) X.A (eval e X.env) (EP X pins σ Q) (wQ X pins σ Ek) s
noncomputable def Hf (X:Cx) (Ek:XK) (st:List Stmt) (t:TS):Prop:=
 ∀(pins:List (Addr × Obj)) (s:Shared) (σ:St) (H:Hp) (D:Ends),Inv X pins σ H s->t D σ H->wpAny (model X.prog X.w) X.A (execs st X.env) (SP X pins D) (wQ X pins σ Ek) s
section
variable {X:Cx}{k:Nat}{f:Addr}{fd:FuncData}{ps:List Str}{sp:Sp}{d8:List V}{ds:List Value}{Ek:XK}{x:Str}{p pos:Pos}{e:Expr}{es:List Expr}{t:TA}{te:TE}
theorem Yc {i:Nat}{y:Str}{pos':Pos}(hN:X.N.Nodup)(hi:X.N[i]? =some y)(hx:Loc X.env.scope y)(he:wR X Ek e te)(hs:swapsWith e (some (.Name y pos')) pos.line X.env=pure false:=by rfl)(hf:X.fn y=true\/X.env.scope.names.lookup y=some .local:=by first|exact .inl rfl|exact .inr rfl|assumption):
 Hf X Ek [.Assign [.Name y pos'] e pos] (mV te (cL i)):=by
 intro pins s σ H D I h
 refine wpAny_execs_cons (wpAny_Assign_Name (Q0h (he pins s σ H _ I h) (λv s1 ⟨z,H1,I1,r1,q1⟩=>?_) λ_ _ z=>z) hs)
 exact sW I1 hN hi hx r1 (λs2 I2=>wpAny_execs_nil ⟨_,H1,I2,q1⟩) hf
end
theorem Yd {X:Cx}{pins:List (Addr × Obj)}{σ:St}{Ek:XK}{e:Value}{s':Shared}{Q:Unit->Shared->Prop}{E:Value->Shared->Prop}(hst:X.stack=X.env::X.outer)(hfm:X.env.frame=some X.env.locals)(h:wQ X pins σ Ek e s')
 (q:∀(a C T:Addr) (dd:Option Addr) (H':Hp) (h2:Heap),e=.ref a->H' a=none->Ek (.ref C) dd H'->jT h2 a T (.ref C) dd .none->Inv X pins σ (upd H' a (mz a C dd)) { s' with heap:=h2 }->
   (∀h3:Heap,jT h3 a T (.ref C) dd .none->(∀b o,b≠T->h2.get? b=some o->h3.get? b=some o)->Inv X pins σ (upd H' a (mz a C dd)) { s' with heap:=h3 })->Q () { s' with heap:=h2 }):
 wpAny (model X.prog X.w) X.A (noteFrame e X.env) (λ_ s2=>wpAny (model X.prog X.w) X.A (setFlight e none) Q E s2) E s':=by
 obtain⟨H,s,I,a,T,C,dd,H',rfl,t,la,lT,na,nT,os,bare,un,hok,hE⟩:=h
 have I':=I.call' (s':=s') (ch:=[]) os un hok bare (λb z=>absurd z (by simp))
 have hfr:X.A.frames=some (X.env::X.outer):=by rw[<-hst];exact I.ok.frames
 have hl:s'.heap.FunFrames X.base (X.env::X.outer):=by rw[<-hst];exact I'.stack
 refine Yb hfr hl hfm t λh1 T1 hT1 k1 k2 hTT t1=>?_
 refine wO (s:={ s' with heap:=h1 }) t1 λh2 t2 k3 hT2=>?_
 have mq:∀b o,s'.heap.get? b=some o->b≠T1:=λb o e z=>by
  have h3:=Q01 e
  rw[z] at h3
  exact Q0l _ (Q0a h3 hT1)
 have key:∀h3:Heap,jT h3 a T1 (.ref C) dd .none->(∀b o,b≠T1->h2.get? b=some o->h3.get? b=some o)->Inv X pins σ (upd H' a (mz a C dd)) { s' with heap:=h3 }:=λh3 t3 k4=>by
  have m1:∀b o,b ∉ frs X.stack->b≠a->b≠T->s'.heap.get? b=some o->h3.get? b=some o:=λb o hb n1 n2 e=>
   k4 b o (mq b o e) (k3 b o (mq b o e) (k1 b o (by rw[<-hst];exact hb) n1 n2 e))
  have m2:∀b o,b≠a->b≠T->s'.heap.get? b=some o->∃sl,h3.get? b=some { o with slots:=sl }:=λb o n1 n2 e=>by
   obtain⟨sl,e1⟩:=k2 b o n1 n2 e
   exact⟨sl,k4 b _ (mq b o e) (k3 b _ (mq b o e) e1)⟩
  have old:∀b o,s.heap.get? b=some o->b≠a/\b≠T:=λb o e=>⟨(λz=>by rw[z,la] at e;cases e),λz=>by rw[z,lT] at e;cases e⟩
  refine I.call' (s':={ s' with heap:=h3 }) (ch:=[]) os ⟨λb o e n hb _=>?_,λb o e n hb hx=>?_,λb o e n hx=>?_,λb o e hx=>?_,λb xs e=>?_,λb o u e=>?_,λb ps e=>?_⟩ (λb o e=>?_) bare (λb z=>absurd z (by simp))
  . exact m1 b o hb (old b o e).1 (old b o e).2 (un.keep b o e n hb (by simp))
  . obtain⟨sl,e1⟩:=un.slot b o e n hb hx
    obtain⟨sl',e2⟩:=m2 b _ (old b o e).1 (old b o e).2 e1
    exact⟨sl',e2⟩
  . rw[au (old b o e).1];exact un.free b o e n hx
  . obtain⟨o',e1⟩:=un.there b o e hx
    obtain⟨sl',e2⟩:=m2 b _ (old b o e).1 (old b o e).2 e1
    exact⟨_,e2⟩
  . have:=un.tups b xs e
    rw[au (aO this na)];exact this
  . have:=un.gW b o u e
    rw[au (aO this na)];exact this
  . obtain⟨more,this⟩:=un.iy b ps e
    exact⟨more,by rw[au (aO this na)];exact this⟩
  . by_cases hb:b=a
    . subst hb
      rw[aF] at e
      cases e
      obtain⟨oe,vs,he,hc,hdi,hda,_⟩:=t3.ex
      exact mz.ok ⟨oe,he,hc,hdi,vs,hda⟩
    . rw[au hb] at e
      refine(hok b o e).stay (λc u hc r=>?_) (λc r=>by rw[au (aO r na)];exact r) λc xs r=>by rw[au (aO r na)];exact r
      have hc':∃v,H' c=some v:=by
       rcases hc with z|z
       . exact⟨o,by rw[z];exact e⟩
       . exact⟨_,z⟩
      obtain⟨v,hv⟩:=hc'
      refine m1 c u (λz=>?_) (aO hv na) (aO hv nT) r
      rw[I'.vL c z] at hv;cases hv
 exact q a C T1 dd H' h2 rfl na hE t2 (key h2 t2 λ_ _ _ e=>e) key
noncomputable def Ye (Ek:XK) (i:Nat) (tb ts:TS):TS:=λD σ H=>tb D σ H/\∀(a C:Addr) (dd:Option Addr) (H':Hp),H' a=none->Ek (.ref C) dd H'->ts (D.un i) (σ.set i (some (.ref a))) (upd H' a (mz a C dd))
theorem agk {X:Cx}{body:List Stmt}{x n:Str}{Dc:Addr}{Ek:XK}{i:Nat}{b₀:Stmt}{suite:List Stmt}{np hpos pos:Pos}{tb ts:TS}(hst:X.stack=X.env::X.outer)(hfm:X.env.frame=some X.env.locals)
 (hb:Hf X Ek body tb) (hg:Gl X x) (hm:X.mg x=some (.ref Dc)) (h1:W.typeIn X.K (.ref Dc)=some (.type "type")) (h2:(W.clsIn X.K Dc).isSome=true) (h3:W.subIn X.K (.ref Dc) (.type "BaseException")=some true)
 (h4:∀C dd H,Ek (.ref C) dd H->W.subIn X.K (.ref C) (.ref Dc)=some true) (hN:X.N.Nodup) (hi:X.N[i]? =some n) (hlo:X.env.kindOf n=some .local) (hs:∀a,fY (X.marked a) (b₀::suite) ts) (hd:(x == ("__debug__":Str))=false:=by decide):
 PS X (.Try body [.ExceptHandler (some (.Name x np)) (some n) (b₀::suite) hpos] [] [] pos) (Ye Ek i tb ts):=by
 intro pins s σ H D I h
 obtain⟨hq,hk⟩:=h
 refine wpAny_Try_except (Q0h (hb pins s σ H D I hq) (λf s1 q=>?_) λe s1 z=>?_)
 . cases f with
   |next=>exact wpAny_execs_nil q
   |ret v=>exact q
   |brk=>exact q
   |cont=>exact q
 . refine Yd hst hfm z λa C T dd H' h2' e1 na hE t2 I2 key=>?_
   subst e1
   have ok:=I2.ok
   refine wpAny_handleBy_cons (codeAny_handlers_test ?_) (by intro q;cases q)
   refine sX (X:=X.marked a) (I2.marked a) hg hm ?_ hd
   obtain⟨oe,vs,he,hc,_⟩:=id t2.ex
   refine Gz I2.cP h1 h2 h3 (h4 C dd H' hE) he hc ?_
   simp only[if_true]
   refine codeAny_handlers_suite_as ?_
   refine wO t2 λh3' t3 k3 _=>?_
   have I3:=key h3' t3 k3
   refine sW I3 hN hi (.inl hlo) (show RelV (.ref a) (.ref a) from rfl) (λs4 I4=>?_) (.inr hlo)
   refine Q0h (hs a pins s4 _ _ (D.un i) (I4.marked a) (hk a C dd H' na hE)) (λf s5 q=>?_) λ_ _ z=>False.elim z
   show wpAny _ _ _ _ _ _
   cases f with
   |next=>
    obtain⟨σ',H5,I5,q⟩:=q
    exact(I5.unmarked ok).unbind hN hi hlo λs6 I6=>⟨_,_,I6,q⟩
   |ret v=>
    obtain⟨y,σ',H5,I5,r,q⟩:=q
    exact(I5.unmarked ok).unbind hN hi hlo λs6 I6=>⟨y,_,_,I6,r,q⟩
   |brk=>
    obtain⟨σ',H5,I5,q⟩:=q
    exact(I5.unmarked ok).unbind hN hi hlo λs6 I6=>⟨_,_,I6,q⟩
   |cont=>
    obtain⟨σ',H5,I5,q⟩:=q
    exact(I5.unmarked ok).unbind hN hi hlo λs6 I6=>⟨_,_,I6,q⟩
noncomputable def lE (a C:Addr):HO:=.ext λh=>∃o t,h.get? a=some o/\o.cls=.ref C/\o.dict=none/\o.data=.fields #[t,.none,.none,.none,.bool false,.none]
noncomputable def MadeX (a C dx:Addr):HO:=.ext λh=>∃o t,h.get? a=some o/\o.cls=.ref C/\o.dict=some dx/\o.data=.fields #[t,.none,.none,.none,.bool false,.none]
theorem lE.ok {P:Program}{w:World}{H:Hp}{h:Heap}{a C:Addr}(e:∃o t,h.get? a=some o/\o.cls=.ref C/\o.dict=none/\o.data=.fields #[t,.none,.none,.none,.bool false,.none]):cO P w H h a (lE a C):=
 ⟨e,let⟨o,t,h1,_⟩:=e;⟨o,h1⟩,λ_ _ ⟨o,t,h1,h2⟩ k=>⟨o,t,k o h1,h2⟩⟩
theorem MadeX.ok {P:Program}{w:World}{H:Hp}{h:Heap}{a C dx:Addr}(e:∃o t,h.get? a=some o/\o.cls=.ref C/\o.dict=some dx/\o.data=.fields #[t,.none,.none,.none,.bool false,.none]):cO P w H h a (MadeX a C dx):=
 ⟨e,let⟨o,t,h1,_⟩:=e;⟨o,h1⟩,λ_ _ ⟨o,t,h1,h2⟩ k=>⟨o,t,k o h1,h2⟩⟩
noncomputable def rem (H:Hp) (a:Addr):Hp:=λb=>if b=a then none else H b
theorem Hg {H:Hp}{a:Addr}:rem H a a=none:=if_pos rfl
theorem jU {H:Hp}{a b:Addr}(h:b≠a):rem H a b=H b:=if_neg h
section
variable {X:Cx}{pins:List (Addr × Obj)}{σ:St}{H:Hp}{s:Shared}
noncomputable def agl (K:W.Frag) (ta tv:TE) (f:Str):TS:=λD σ H=>tv σ H λy H1=>ta σ H1 λx H2=>∃a C,x=.ref a/\H2 a=some (lE a C)/\pJ K C f/\
 ∀dx,H2 dx=none->dx≠a->D.nx σ (upd (upd H2 dx (.xd [(f,y)])) a (MadeX a C dx))
theorem Yg {o value:Expr}{ta tv:TE}{f:Str}{pos pos':Pos}(ha:PE X o ta)(hv:PE X value tv)(hs:swapsWith value (some (.Attribute o f pos')) pos.line X.env=pure false):PS X (.Assign [.Attribute o f pos'] value pos) (agl X.K ta tv f):=by
 intro pins s σ H D I h
 refine plainObj_wpAny_Assign_Attribute (aP (hv pins s σ H _ I h) λu s1 ⟨y,H1,I1,ry,q⟩=>aP (ha pins s1 σ H1 _ I1 q) λov s2 ⟨x,H2,I2,rx,a,C,ex,ea,Z,q2⟩=>?_) hs
 subst ex
 obtain rfl:ov=Value.ref a:=rx
 obtain⟨oe,t,he,hc,hdi,hda⟩:=(I2.hok a _ ea).1
 refine agb I2.cP Z he hc hdi hda λh' tk' hn hx hk=>?_
 have hfr:H2 s2.heap.objs.size=none:=I2.hok.fresh (Q02 _)
 have hne:s2.heap.objs.size≠a:=(Q08 (Q01 he)).symm
 have nea:∀b u,H2 b=some u->(∀C',u≠lE a C')->b≠a:=λb u e hu z=>by
  subst z
  rw[ea] at e
  exact hu C (Option.some.inj e).symm
 refine⟨σ,_,I2.call' (s':={ s2 with heap:=h',toks:=tk' }) (ch:=[]) rfl ⟨λb ob e n hb _=>?_,λb ob e n hb _=>?_,λb ob e n _=>?_,λb ob e _=>?_,λb xs e=>?_,λb ob u e=>?_,λb ps e=>?_⟩ (λb u e=>?_) I2.bare (λb z=>absurd z (by simp)),q2 s2.heap.objs.size hfr hne⟩
 . exact hk b ob (aO ea n).symm e
 . exact⟨ob.slots,hk b ob (aO ea n).symm e⟩
 . rw[au (aO ea n).symm,au (Q08 (Q01 e))];exact n
 . by_cases hb:b=a
   . subst hb;exact⟨_,hx⟩
   . exact⟨ob,hk b ob hb e⟩
 . have h1:b≠a:=λz=>by rw[z,ea] at e;cases e
   rw[au h1,au (aO e hfr)];exact e
 . have h1:b≠a:=λz=>by rw[z,ea] at e;cases e
   rw[au h1,au (aO e hfr)];exact e
 . have h1:b≠a:=λz=>by rw[z,ea] at e;cases e
   exact⟨#[],by rw[au h1,au (aO e hfr),Q1y];exact e⟩
 . by_cases h1:b=a
   . subst h1
     rw[aF] at e
     cases e
     exact MadeX.ok ⟨_,t,hx,hc,rfl,hda⟩
   . rw[au h1] at e
     by_cases h2:b=s2.heap.objs.size
     . subst h2
       rw[aF] at e
       cases e
       refine⟨_,hn,λg=>?_⟩
       by_cases hg:g=f
       . subst hg
         rw[if_pos rfl]
         rw[Q18,beq_self_eq_true]
         exact ry
       . rw[if_neg hg]
         rw[Q18,beq_false_of_ne hg]
         trivial
     . rw[au h2] at e
       refine(I2.hok b u e).stay (λc v hc' r=>hk c v ?_ r) (λc r=>?_) λc xs r=>?_
       . rintro rfl
         rcases hc' with z|z
         . exact h1 z.symm
         . rw[ea] at z;cases z
       . have n1:c≠a:=λz=>by rw[z,ea] at r;cases r
         rw[au n1,au (aO r hfr)];exact r
       . have n1:c≠a:=λz=>by rw[z,ea] at r;cases r
         rw[au n1,au (aO r hfr)];exact r
theorem Inv.agm (I:Inv X pins σ H s){h':Heap}{e C:Addr}{us:List Value}(hm:Heap.MadeExcOf s.heap h' e (.ref C) us):H e=none/\Inv X pins σ (upd H e (lE e C)) { s with heap:=h' }:=by
 obtain⟨t,he,_,_⟩:=hm.there
 have hnew:s.heap.get? e=none:=hm.new
 have na:H e=none:=by
  cases q:H e with
  |none=>rfl
  |some o=>
   obtain⟨o',e'⟩:=(I.hok e o q).ex
   rw[hnew] at e';cases e'
 refine⟨na,I.call' (s':={ s with heap:=h' }) (ch:=[]) rfl ⟨λb ob e1 n hb _=>hm.keeps b ob e1,λb ob e1 n hb _=>⟨ob.slots,hm.keeps b ob e1⟩,λb ob e1 n _=>?_,λb ob e1 _=>⟨ob,hm.keeps b ob e1⟩,λb xs e1=>?_,λb ob u e1=>?_,λb ps e1=>?_⟩ (λb u e1=>?_) I.bare (λb z=>absurd z (by simp))⟩
 . rw[au (λz=>by rw[z,hnew] at e1;cases e1)];exact n
 . rw[au (aO e1 na)];exact e1
 . rw[au (aO e1 na)];exact e1
 . exact⟨#[],by rw[au (aO e1 na),Q1y];exact e1⟩
 . by_cases hb:b=e
   . subst hb
     rw[aF] at e1
     cases e1
     exact lE.ok ⟨_,_,he,rfl,rfl,rfl⟩
   . rw[au hb] at e1
     refine(I.hok b u e1).stay (λc v _ r=>hm.keeps c v r) (λc r=>?_) λc xs r=>?_
     . rw[au (aO r na)];exact r
     . rw[au (aO r na)];exact r
noncomputable def Yh (X:Cx) (R:Addr->Addr->Hp->Prop):Prop:=∀(pins:List (Addr × Obj)) (σ:St) (H:Hp) (s:Shared) (a C dx:Addr),Inv X pins σ H s->X.s₀.heap.get? a=none->H a=some (MadeX a C dx)->R C dx (rem H a)->X.xe (.ref a) s
noncomputable def agn (C:Addr) (sp:Sp) (R:Addr->Addr->Hp->Prop) (t:TA):TS:=λ_ σ H=>t σ H λvs H1=>vs.length<=sizeLine/\∀a,H1 a=none->sp (.ref a::vs) (upd H1 a (lE a C)) (λv H2=>v=.non/\∃dx,H2 a=some (MadeX a C dx)/\R C dx (rem H2 a)) E0
theorem Yi {x:Str}{C f:Addr}{fd:FuncData}{ps:List Str}{sp:Sp}{k:Nat}{B nid Al:String}{iH:List Value}{e:Expr}{es:List Expr}{p cpos pos:Pos}{t:TA}{R:Addr->Addr->Hp->Prop}(hex:X.ex=[])(Z:pI X.base C f iH nid)(FB:ExcBaseFacts B nid Al iH)(hkp:W.keepIn X.K (.ref C)=true)
 (F:aq X.prog X.w X.K X.mg X.base aC k f fd ps sp) (hr:cU (k+1) X.A) (hcl:X.calm=true) (hg:Gl X x) (hm:X.mg x=some (.ref C)) (hb:Binds X.K fd ps []) (hx:Yh X R)
 (ha:PA X (e::es) t) (hdb:(x == ("__debug__":Str))=false:=by decide) (he:starEach (e::es) X.env=(false,eval e X.env)::starEach es X.env:=by rfl) (hpl:(backTo cpos (starEach es X.env)).any (·.1)=false:=by rfl):
 PS X (.Raise (some (.Call (.Name x p) (e::es) [] cpos)) none pos) (agn C sp R t):=by
 intro pins s σ H D I h
 rw[arm_exec_Raise]
 have key:wpAny (model X.prog X.w) X.A (eval (.Call (.Name x p) (e::es) [] cpos) X.env) (λv s1=>∃(e C:Addr) (oe:Obj) (t:Value) (r:Array Value),v=.ref e/\s1.heap.get? e=some oe/\oe.cls=.ref C/\oe.data=.fields #[t,.none,.none,.none,.bool false,.none]/\
  (∃tl N nm q bs hdct sn sub ab col dd k0 k1 k2 k3 k5 nid,s1.heap.get? C=some (excClassObj nm q C N bs tl hdct sn sub ab col dd k0 k1 k2 k3 k5 nid)/\tl.contains (.type "BaseException")=true)/\X.xe (.ref e) s1) X.xe s:=by
  refine wpAny_Call_Name_kw (sX I hg hm ?_ hdb)
  refine W.callWith_K (h₀:=X.base) I.ok.mod.qw hkp (aP (ha cpos pins s σ H _ I h) λus s1 ⟨vs,H1,I1,r,hl,q⟩=>⟨I1.cP,?_⟩) he hpl
  obtain⟨hp,g,d,tk,os⟩:=s1
  refine af9 FB (Z.keeps I1.bk) (λh' e' hm'=>?_) (by show us.length<=sizeLine;rw[<-r.length];exact hl)
  have l0:X.s₀.heap.get? e'=none:=I1.tQ hex hm'.new
  obtain⟨na,I2⟩:=I1.agm hm'
  have hq:=q e' na
  have r2:Vals (V.ref e'::vs) (Value.ref e'::us):=.cons rfl r
  have hlen:(Value.ref e'::us++[]).length=ps.length:=by
   rw[Q0z,<-r2.length];exact F.len _ _ _ _ hq
  have hbd:=hb _ (Value.ref e'::us) I2.cP hlen
  rw[Q0z] at hbd
  refine wpAny_call (codeAny_mono (F.run _ X.stack _ _ ⟨Value.ref e'::us,[]⟩ (Value.ref e'::us) _ _ E0 (hr.make C us []) (I2.env0.make C us []) hbd r2 hq) λr' s' hq'=>?_)
  cases r' with
  |error e=>exact False.elim hq'
  |ok fl=>
   cases fl with
   |ret u=>
    obtain⟨v,H',I3,rv,ev,dx,wU,hR⟩:=I2.after hq'
    subst ev
    obtain⟨oe,t',he',hc',hd',ago⟩:=(I3.hok _ _ wU).1
    obtain⟨tl,N,nm,q,bs,hdct,sn,sub,ab,col,dd,k0,k1,k2,k3,k5,mN,oI,z1,z2,z3,z4,z5,z6⟩:=Z.keeps I3.bk
    exact⟨rv,⟨e',C,oe,t',#[],rfl,he',hc',ago,⟨tl,N,nm,q,bs,hdct,sn,sub,ab,col,dd,k0,k1,k2,k3,k5,nid,z1,z4.hasType FB.hasBase⟩,hx pins σ H' s' e' C dx I3 l0 wU hR⟩⟩
   |next=>exact False.elim hq'
   |brk=>exact False.elim hq'
   |cont=>exact False.elim hq'
 exact Q00 (wpAny_standAt (af_ (I.ok.hd hcl) (Q00 (Q0h key (λv s1 q=>Q00 (wpAny_standAt (Q03 q))) λ_ _ z=>z))))
theorem Inv.agp (I:Inv X pins σ H s)(hex:X.ex=[]){a:Addr}{φ:Heap->Prop}(l0:X.s₀.heap.get? a=none)(ha:H a=some (.ext φ)):Un (frs X.outer) [] X.H₀ (rem H a) X.s₀.heap s.heap/\cC X.prog X.w (rem H a) s.heap:=by
 have B:=I.base
 rw[hex] at B
 refine⟨⟨B.keep,B.slot,λb o e n hx=>?_,B.there,λb xs e=>?_,λb o u e=>?_,λb ps e=>?_⟩,λb u e=>?_⟩
 . rw[jU (λz=>by rw[z,l0] at e;cases e)];exact B.free b o e n hx
 . have:=B.tups b xs e
   rw[jU (λz=>by rw[z,ha] at this;cases this)];exact this
 . have:=B.gW b o u e
   rw[jU (λz=>by rw[z,ha] at this;cases this)];exact this
 . obtain⟨more,this⟩:=B.iy b ps e
   exact⟨more,by rw[jU (λz=>by rw[z,ha] at this;cases this)];exact this⟩
 . have nb:b≠a:=λz=>by rw[z,Hg] at e;cases e
   rw[jU nb] at e
   refine(I.hok b u e).stay (λc v _ r=>r) (λc r=>?_) λc xs r=>?_
   . rw[jU (λz=>by rw[z,ha] at r;cases r)];exact r
   . rw[jU (λz=>by rw[z,ha] at r;cases r)];exact r
end
theorem Hh {H:Hp}{a b:Addr}(h:H b=none):rem H a b=none:=by
 unfold rem
 split
 . rfl
 . exact h
theorem Inv.rem {X:Cx}{pins:List (Addr × Obj)}{σ:St}{H:Hp}{s:Shared}(I:Inv X pins σ H s)(hex:X.ex=[]){a:Addr}{φ:Heap->Prop}(l0:X.s₀.heap.get? a=none)(ha:H a=some (.ext φ)):Inv X pins σ (L2.rem H a) s:=by
 obtain⟨un,hok⟩:=I.agp hex l0 ha
 refine⟨I.ok,I.os,I.bare,by rw[hex];exact un,I.loc,I.cell,Hh I.free,λx c e=>Hh (I.fQ x c e),λp hp=>?_,hok,I.len⟩
 obtain⟨h1,h2,h3⟩:=I.pin p hp
 exact⟨h1,Hh h2,h3⟩
theorem Yj {P:Program}{w:World}{K:W.Frag}{mg:Str->Option Value}{base:Heap}{N:List Str}{qual:Str}{scope:Scope}{f:Addr}{cd:Value}{A:Around}{outer:List Env}{s₀:Shared}{H₀:Hp}{E:XK}:
 Yh (lA (gA P w) P w K mg base N qual scope f cd A outer s₀ H₀ E) (λC dx H=>E (.ref C) (some dx) H):=λpins σ H s a C dx I l0 wU hE=>by
 obtain⟨oe,t,he,hc,hdi,hda⟩:=(I.hok a _ wU).1
 have I':=I.rem rfl l0 wU
 show wpAny (model P w) _ (leaving _ _) _ _ _
 refine I'.agj rfl rfl rfl he hc hdi hda rfl l0 Hg λh2 T' t' G9 G_ un' hok'=>?_
 exact⟨a,T',C,some dx,_,rfl,t',l0,G9,Hg,G_,I'.os,I'.bare,un',hok',hE⟩
section
variable {X:Cx}
noncomputable def Yk (K:W.Frag) (ta:TE) (f:Str):TE:=λσ H Q=>ta σ H λx H1=>∃a C dx fs v,x=.ref a/\H1 a=some (mz a C (some dx))/\H1 dx=some (.xd fs)/\tR K C/\pJ K C f/\fs.lookup f=some v/\Q v H1
theorem agq {e:Expr}{ta:TE}{f:Str}{pos:Pos}(he:PE X e ta)(hb:attributeBase e f X.env (eval e X.env)=eval e X.env):PE X (.Attribute e f pos) (Yk X.K ta f):=by
 intro pins s σ H Q I h
 refine VL hb (aP (he pins s σ H _ I h) λu s1 ⟨x,H1,I1,rx,a,C,dx,fs,v,ex,ea,ed,Z,Y,l,q⟩=>?_)
 subst ex
 obtain rfl:u=Value.ref a:=rx
 obtain⟨o,ho,hc,hdx,vs,hda⟩:=(I1.hok a _ ea).1
 obtain⟨mA,hn,hr⟩:=I1.hok dx _ ed
 obtain⟨u',hu,ru⟩:=gK.some_of (v:=v) (o:=mA f) (by rw[<-l];exact hr f)
 obtain⟨hp,g,d,tk,os⟩:=s1
 exact agg I1.cP Z Y ho hc hda hdx hn.ns hu (W.handedOut_of (VJ ru)) ⟨v,H1,I1.tok _,ru,q⟩
end
section
variable {X:Cx}{k:Nat}{f C:Addr}{fd:FuncData}{ps:List Str}{sp:Sp}{Ek:XK}{m:Str}{p pos apos:Pos}{e o:Expr}{es:List Expr}{t:TA}{te ta:TE}
theorem agr {pins:List (Addr × Obj)}{σ:St}{H:Hp}{s:Shared}{Q:VK}{us:List Value}{vs:List V}(F:aq X.prog X.w X.K X.mg X.base (gA X.prog X.w) k f fd ps sp)(hr:cU k X.A)(hb:Binds X.K fd ps [])
 (I:Inv X pins σ H s) (r:Vals vs us) (h:sp vs H Q Ek):wpAny (model X.prog X.w) X.A (call (.ref f) us) (EP X pins σ Q) (wQ X pins σ Ek) s:=by
 have hl:(us++[]).length=ps.length:=by rw[Q0z,<-r.length];exact F.len _ _ _ _ h
 have hbd:=hb s us I.cP hl
 rw[Q0z] at hbd
 refine wpAny_call (codeAny_mono (F.run X.A X.stack s H ⟨us,[]⟩ us vs Q Ek hr I.env0 hbd r h) λr' s' hq=>?_)
 cases r' with
 |error e=>exact⟨H,s,I,hq⟩
 |ok fl=>
  cases fl with
  |ret u=>exact I.after hq
  |next=>exact False.elim hq
  |brk=>exact False.elim hq
  |cont=>exact False.elim hq
theorem Yl (he:PE X.kZ e te):wR X Ek e te:=λpins s σ H Q I h=>
 Q0h (he pins s σ H Q (I.wish _) h) (λ_ _ ⟨v,H',I',r,q⟩=>⟨v,H',I'.jN,r,q⟩) λ_ _ z=>False.elim z
noncomputable def PAD (X:Cx) (Ek:XK) (es:List Expr) (t:TA):Prop:=
 ∀(pos:Pos) (pins:List (Addr × Obj)) (s:Shared) (σ:St) (H:Hp) (Q:List V->Hp->Prop),Inv X pins σ H s->t σ H Q->wpAny (model X.prog X.w) X.A (spliced (backTo pos (starEach es X.env))) (AP X pins σ Q) (wQ X pins σ Ek) s
theorem Ym:PAD X Ek [] gj:=λ_ _ _ _ H Q I h=>Calls.spliced_nil ⟨[],H,I,.nil,h⟩
theorem Ao (ha:wR X Ek e te)(hr:PAD X Ek es t)(hs:starEach (e::es) X.env=(false,eval e X.env)::starEach es X.env:=by rfl):PAD X Ek (e::es) (cj te t):=by
 intro pos pins s σ H Q I h
 rw[hs]
 show wpAny _ _ (spliced ((false,eval e X.env)::backTo pos (starEach es X.env))) _ _ s
 refine Calls.spliced_cons (aP (ha pins s σ H _ I h) λu s1 ⟨x,H1,I1,r1,q1⟩=>?_)
 exact aP (hr pos pins s1 σ H1 _ I1 q1) λus s2 ⟨xs,H2,I2,r2,q2⟩=>⟨x::xs,H2,I2,.cons r1 r2,q2⟩
theorem Yn {x1:Nat}(h:PAD X Ek es t):wR X Ek (.Tuple es x1 pos) (pB t):=by
 intro pins s σ H Q I hq
 refine wpAny_Tuple_spliced (aP (h pos pins s σ H _ I hq) λus s1 ⟨xs,H1,I1,r,z,q⟩=>⟨by rw[<-r.length];exact z,?_⟩)
 have hf:H1 s1.heap.objs.size=none:=I1.hok.fresh (Q02 _)
 exact⟨.ref s1.heap.objs.size,upd H1 s1.heap.objs.size (.tup xs),I1.laid (t':=s1.toks) (λb u e=>Q04 _ e) (Q02 _) ⟨z,us,r,⟨_,Q0c _ rfl,rfl,_,rfl⟩⟩,rfl,q _ hf⟩
theorem Yo {pl:Sem Bool}(he:PE X.kZ o ta)(c:Cls X.K C)(hm:Meth X.K C m f)(F:aq X.prog X.w X.K X.mg X.base (gA X.prog X.w) k f fd ps sp)(hr:cU k X.A)(hb:Binds X.K fd ps [])(ha:PA X.kZ (e::es) t)
 (hst:starEach (e::es) X.env=(false,eval e X.env)::starEach es X.env:=by rfl) (hpl:(backTo pos (starEach es X.env)).any (·.1)=false:=by rfl)
 (ht:eval (.Call (.Attribute o m apos) (e::es) [] pos) X.env=(do
   let ov <-eval o X.env
   standAt apos.atName
   let(f,first) <-holding [ov] (getMethod ov m pl)
   callWith pos f first (backTo pos (starEach (e::es) X.env)) (backToKw pos (keywordEach [] X.env))):=by rfl):
 wR X Ek (.Call (.Attribute o m apos) (e::es) [] pos) (Fp C m sp [] Ek ta t):=by
 intro pins s σ H Q I h
 refine W.methodCall_KW (pl:=pl) (Q0h (he pins s σ H _ (I.wish _) h) (λu s1 ⟨x,H1,I1,rx,a,dx,fs,ex,ea,l,q⟩=>?_) λ_ _ z=>False.elim z) ht
 subst ex
 obtain rfl:u=Value.ref a:=rx
 have I1:=I1.jN
 refine Fo I1 ea c hm l ?_
 refine W.callWith_K (first:=[.ref a]) (h₀:=X.base) I.ok.mod.qw hm.kp (Q0h (ha pos pins s1 σ H1 _ (I1.wish _) q) (λus s2 ⟨vs,H2,I2,r,q2⟩=>⟨I2.jN.cP,?_⟩) λ_ _ z=>False.elim z) hst hpl
 exact agr (us:=.ref a::us) (vs:=.ref a::(vs++[])) F hr hb I2.jN (.cons rfl (by rw[Q0z];exact r)) q2
end
noncomputable def hk (l:List Key) (q:Key):Bool:=l.any λx=>decide (x=q)
noncomputable def stepK (l:List Key) (k:Key):List Key:=if hk l k=true then l else l++[k]
theorem Yp {prog:Program}{w:World}{h:Heap}{a:Addr}{S S':Key->Bool}{n n':Nat}(hS:h.SetOf (cJ prog w) a S n)(e:∀k,S k=S' k)(en:n=n'):h.SetOf (cJ prog w) a S' n':=by
 obtain rfl:S=S':=funext e
 subst en
 exact hS
noncomputable def eU (v:Nat->Key):Nat->List Key
 |0=>[]
 |i+1=>stepK (eU v i) (v i)
theorem Yq (v:Nat->Key):∀i,(eU v i).length<=i
 |0=>Q02 _
 |i+1=>by
  have:=Yq v i
  show(stepK (eU v i) (v i)).length<=i+1
  unfold stepK
  split
  . omega
  . rw[Q09];exact Nat.succ_le_succ this
theorem ags (l m:List Key)(q:Key):hk (l++m) q=(hk l q || hk m q):=List.any_append
theorem agt (l:List Key)(k q:Key):hk (stepK l k) q=(hk l q || decide (q=k)):=by
 unfold stepK
 split
 . rename_i h
   by_cases e:q=k
   . subst e;rw[h];rfl
   . rw[decide_eq_false e,Bool.or_false]
 . rw[ags]
   have:hk [k] q=decide (q=k):=by
    show(decide (k=q) || false)=_
    rw[Bool.or_false]
    by_cases e:q=k
    . subst e;rfl
    . rw[decide_eq_false e,decide_eq_false λz=>e z.symm]
   rw[this]
theorem agu (l:List Key)(k:Key):(stepK l k).length=if hk l k=true then l.length else l.length+1:=by
 unfold stepK
 split
 . rfl
 . rw[Q09];rfl
theorem agv {l:List Key}{q:Key}:hk l q=true↔q∈l:=by
 unfold hk
 rw[Q2x]
 constructor
 . rintro⟨x,h1,h2⟩
   rw[<-of_decide_eq_true h2];exact h1
 . intro h
   exact⟨q,h,decide_eq_true rfl⟩
theorem Yr {v:Nat->Key}:∀{i:Nat},((List.range i).map v).Nodup->eU v i=(List.range i).map v
 |0,_=>rfl
 |i+1,h=>by
  rw[Q2y,Q0k] at h ⊢
  obtain⟨h1,h2,h3⟩:=List.nodup_append.mp h
  show stepK (eU v i) (v i)=_
  rw[Yr h1]
  unfold stepK
  rw[if_neg]
  . rfl
  . intro z
    exact h3 _ (agv.mp z) (v i) (List.mem_singleton.mpr rfl) rfl
section
variable {prog:Program}{w:World}{A:Around}{R:Result->Shared->Prop}{I:Addr}{fp wr:List Addr}{G:Array GenState->Array GenState->Prop}{n:Nat}{Pp:Nat->Value->Prop}{St':Nat->Shared->Prop}
theorem agw (W:WalksS prog w A.in1 I fp wr G n Pp St')(S:Addr)(sf:S ∉ fp)(v:Nat->Key)(hv:∀i u,Pp i u->(cJ prog w).is (v i) u=true/\u.scannable=true)(bd:n+1<scanBound):
 ∀(k i:Nat) (s:Shared),n - i=k->i<=n->St' i s->s.heap.SetOf (cJ prog w) S (λq=>hk (eU v i) q) (eU v i).length->
  (∀s',Moved (S::wr) G s s'->s'.heap.SetOf (cJ prog w) S (λq=>hk (eU v n) q) (eU v n).length->R (.ok (.ret .none)) s')->
  codeAny (model prog w) A (.builtin "set.update.loop" ⟨[.ref S,.ref I],[]⟩) R s:=by
 have sw:S ∉ wr:=λz=>sf (W.sub _ z)
 have up:∀b∈wr,b∈S::wr:=λb z=>Q0j _ z
 intro k
 induction k with
 |zero=>
  intro i s e1 e2 st so fin
  obtain rfl:i=n:=by omega
  refine codeAny_builtin PyProof.Rows.F.entry_set_update_loop ?_
  rw[Around.under_plainId PyProof.Rows.F.plain_set_update_loop _]
  show wpAny _ A.in1 (pyNext (.ref I) >>= _) _ _ s
  refine Q00 (W.done s _ _ st λs' mv=>?_)
  show wpAny _ A.in1 (ret Value.none) _ _ s'
  obtain⟨o,es,ep,t,ho,more⟩:=so
  exact Q03 (fin s' (mv.mono up) ⟨o,es,ep,t,mv.heap S _ sw ho,more⟩)
 |succ k ih=>
  intro i s e1 e2 st so fin
  have lt:i<n:=by omega
  refine codeAny_builtin PyProof.Rows.F.entry_set_update_loop ?_
  rw[Around.under_plainId PyProof.Rows.F.plain_set_update_loop _]
  show wpAny _ A.in1 (pyNext (.ref I) >>= _) _ _ s
  refine Q00 (W.item i s _ _ lt st λu s' hP st' mv=>?_)
  obtain⟨is,sc⟩:=hv i u hP
  have so':s'.heap.SetOf (cJ prog w) S (λq=>hk (eU v i) q) (eU v i).length:=by
   obtain⟨o,es,ep,tb,ho,more⟩:=so
   exact⟨o,es,ep,tb,mv.heap S _ sw ho,more⟩
  show wpAny _ A.in1 (holding [u] (setAdd S u) >>= _) _ _ s'
  refine Q00 (wpAny_holding ?_)
  unfold setAdd
  refine wpAny_holding (Q00 ((cJ prog w).pyHash (k:=v i) is ?_))
  have room:(eU v i).length+1<scanBound:=by have:=Yq v i;omega
  refine wpAny_setAddHashed_of (knd:=cJ prog w) (s:={ s' with toks:=s'.toks+1 }) is sc so' room λh' sb nJ=>?_
  have so3:h'.SetOf (cJ prog w) S (λq=>hk (eU v (i+1)) q) (eU v (i+1)).length:=
   Yp nJ (λq=>(agt _ _ _).symm) (agu _ _).symm
  refine Q03 ⟨plainId_quiet PyProof.Rows.F.plain_set_update_loop _,ih (i+1) _ (by omega) lt (W.frame _ s' _ _ st' (Q10 _) λb hb o e=>?_) so3 λs'' mv' so4=>?_⟩
  . rw[sb.2 b (λz:b=S=>sf (by rw[<-z];exact hb))];exact e
  . refine fin s'' (Moved.trans W.gtrans ((mv.mono up).then_heap (Q10 _) λb o hb e=>?_) mv') so4
    rw[sb.2 b (λz:b=S=>hb (by rw[z];exact Q0f))];exact e
end
theorem agz:LawfulBEq Key where
 eq_of_beq:=by
  intro a b h
  cases a <;> cases b
  . exact congrArg Sum.inl (eq_of_beq (α:=Int) h)
  . cases h
  . cases h
  . exact congrArg Sum.inr (eq_of_beq (α:=Str) h)
 rfl:=by
  intro a
  cases a
  . exact BEq.rfl (α:=Int)
  . exact BEq.rfl (α:=Str)
theorem agA {prog:Program}{w:World}{A:Around}{E:Value->Shared->Prop}{s:Shared}{l:Addr}{its:Array Value}{v:Nat->Key}{Q:Value->Shared->Prop}(ah:A.handled=none)(il:s.heap.IsList l its)
 (hv:∀(i:Nat) (u:Value),its[i]? =some u->(cJ prog w).is (v i) u=true/\u.scannable=true) (bd:its.size+1<scanBound)
 (q:∀(h':Heap) (tk:Nat),h'.SetOf (cJ prog w) s.heap.objs.size (λk=>hk (eU v its.size) k) (eU v its.size).length->(∀b o,b<s.heap.objs.size->s.heap.get? b=some o->h'.get? b=some o)->Q (.ref s.heap.objs.size) { s with heap:=h',toks:=tk }):
 wpAny (model prog w) A (call (.type "set") [.ref l]) Q E s:=by
 obtain⟨c,tl,mro⟩:=PySem.F.called_set.mro
 have made:=PySem.F.called_set.made
 have sub:=PySem.F.called_set.sub
 refine wpAny_call (codeAny_of_tree ?_)
 show wpAny _ _ (callAny (.type "set") _) _ _ _
 refine Q03 ⟨Code.quiet_builtin _ (by decide +kernel),codeAny_builtin PySem.F.entry_type_call ?_⟩
 rw[Around.under_plain (weight_type_call_type "set" [.ref l] []) rfl]
 have n1:=PySem.F.called_set.notType
 have n2:=PySem.F.called_set.canCreate
 have ct:=PySem.F.typeCall_set_1 (.ref l)
 repeat (any_goals (first|assumption|wp_step))
 refine codeAny_mono (code_set_new_1 (.ref l) (E:=E) (Q₁:=λob s1=>∃ld:Bool,ob=.ref s.heap.objs.size/\s1={ s with heap:=s.heap.push { cls:=.type "set",dict:=none,data:=.set #[] 0 (.fresh 0 0 ld) } }) λld=>⟨ld,rfl,rfl⟩) λr s1 hr=>?_
 cases r with
 |error e=>exact hr
 |ok fl=>
  cases fl with
  |ret ob=>
   obtain⟨ld,rfl,rfl⟩:=hr
   have gS:(s.heap.push { cls:=.type "set",dict:=none,data:=.set #[] 0 (.fresh 0 0 ld) }).get? s.heap.objs.size=some { cls:=.type "set",dict:=none,data:=.set #[] 0 (.fresh 0 0 ld) }:=Q0c _ rfl
   have ty:Shared.TypeIs { s with heap:=s.heap.push { cls:=.type "set",dict:=none,data:=.set #[] 0 (.fresh 0 0 ld) } } (.ref s.heap.objs.size) "set":=⟨_,gS,rfl⟩
   have li:=PySem.F.called_set.init.lookup
   have bi:=PySem.F.called_set.init.bind (.ref s.heap.objs.size)
   repeat (any_goals (first|assumption|wp_step))
   refine codeAny_mono (codeAny_call_builtin (R:=wants (λr s2=>r=.none/\∃h' tk,s2={ s with heap:=h',toks:=tk }/\h'.SetOf (cJ prog w) s.heap.objs.size (λk=>hk (eU v its.size) k) (eU v its.size).length/\
    (∀b o,b<s.heap.objs.size->s.heap.get? b=some o->h'.get? b=some o)) E) PySem.F.called_set.init.plain PySem.F.entry_set_init (check_set_init_1 ty ?_)) λr2 s2 hr2=>?_
   . obtain⟨ol,hol,Hi,nl,dl⟩:=il
     obtain⟨oc,od,oda,osl⟩:=ol
     have Hi:oc=.type "list":=Hi
     have dl:oda=.seq its nl:=dl
     subst Hi
     subst dl
     have hol':(s.heap.push { cls:=.type "set",dict:=none,data:=.set #[] 0 (.fresh 0 0 ld) }).get? l=some { cls:=.type "list",dict:=od,data:=.seq its nl,slots:=osl }:=Q04 _ hol
     have sl1:=PySem.F.sub_list_set
     have sl2:=PySem.F.sub_list_frozenset
     have nd:(Value.type "list" == Value.type "dict")=false:=by decide
     have Ys:(s.heap.push { cls:=.type "set",dict:=none,data:=.set #[] 0 (.fresh 0 0 ld) }).IsList l its:=⟨_,hol',rfl,nl,rfl⟩
     unfold Builtin.«set.__init__» noKeywords Builtin.Frozenset.updateFrom
     generalize hPI:pyIter=PI
     wp_walk
     subst hPI
     refine wpAny_pyIter_list Ys ?_
     refine Q00 (wpAny_runValue ?_)
     have Yt:l<s.heap.objs.size:=Q01 hol
     have ah3:A.in1.in1.in1.handled=none:=by simp[ah]
     have neI:l≠(s.heap.push { cls:=.type "set",dict:=none,data:=.set #[] 0 (.fresh 0 0 ld) }).objs.size:=by rw[Q0y];exact Q08 (Q27 Yt)
     have nin:s.heap.objs.size ∉ [(s.heap.push { cls:=.type "set",dict:=none,data:=.set #[] 0 (.fresh 0 0 ld) }).objs.size,l]:=by
      rw[Q0y];simp only[Q1v,Q2z,Q2b,or_false,not_or]
      exact⟨Q08 (Q1c _),Q0m Yt⟩
     refine agw ((Walks.list ah3 _ l neI its).toS) s.heap.objs.size nin v hv bd (its.size - 0) 0 _ (by omega) (Q0b _) ⟨⟨_,Q0c _ rfl,rfl,rfl⟩,(Ys.push _)⟩ ?sA ?sB
     case sA=>
      have g2:((s.heap.push { cls:=.type "set",dict:=none,data:=.set #[] 0 (.fresh 0 0 ld) }).push { cls:=.type "list_iterator",data:=.fields #[.ref l,.int 0 0] }).get? s.heap.objs.size=some { cls:=.type "set",dict:=none,data:=.set #[] 0 (.fresh 0 0 ld) }:=Q04 _ gS
      haveI:=agz
      refine Yp (Obj.SetObjOf.setOf (knd:=cJ prog w) (setObjOf_fresh ld) g2 (by unfold scanBound;omega)) (λ_=>rfl) rfl
     case sB=>
      intro s' mv so
      obtain⟨h',g',d',tk',os'⟩:=s'
      have eg:g'=s.gens:=mv.gens
      have ed:d'=s.drawn:=mv.drawn
      have eo:os'=s.os:=mv.os
      subst eg
      subst ed
      subst eo
      show wpAny _ _ _ _ _ _
      refine Q03 ?_
      show wpAny _ _ (ret Value.none) _ _ _
      refine Q03 ⟨rfl,h',tk',rfl,so,λb o hb e=>?_⟩
      have b1:b≠s.heap.objs.size:=Q08 hb
      have b2:b≠(s.heap.push { cls:=.type "set",dict:=none,data:=.set #[] 0 (.fresh 0 0 ld) }).objs.size:=by rw[Q0y];exact Q08 (Q27 hb)
      exact mv.heap b o (by simp only[Q1v,Q2z,Q2b,or_false,not_or];exact⟨b1,b2⟩) (Q04 _ (Q04 _ e))
   . cases r2 with
     |error e=>exact hr2
     |ok fl2=>
      cases fl2 with
      |ret r=>
       obtain⟨rfl,h',tk,rfl,so,kp⟩:=hr2
       repeat (any_goals (first|assumption|wp_step))
       exact q _ _ so kp
      |_=>exact hr2.elim
  |_=>exact hr.elim
noncomputable def wV (P:Program) (w:World) (a:Addr) (n:Nat):HO:=.ext λh=>∃S,h.SetOf (cJ P w) a S n
section
variable {X:Cx}
theorem agE (hc:X.calm=true):iY X (.type "set") (λxs H Q=>∃(a:Addr) (ss:List Str),xs=[.ref a]/\aG X.K H a (ss.map V.str)/\ss.length<=60/\∀p,H p=none->Q (.ref p) (upd H p (wV X.prog X.w p (eU (λi=>Sum.inr (ss.getD i "")) ss.length).length))):=by
 intro pins s σ H xs us Q I r h
 obtain⟨a,ss,rfl,hq,Aq,q⟩:=h
 obtain⟨u,rfl,ru⟩:=vals1 r
 cases ru
 obtain⟨its,rv,pl,hz⟩:=I.list hq
 have hl:its.length=ss.length:=by rw[<-rv.length,Q06]
 have hsz:its.toArray.size=ss.length:=by rw[Q07];exact hl
 refine agA (v:=λi=>Sum.inr (ss.getD i "")) (I.ok.hd hc) pl.isList (λi u hu=>?_) (by rw[hsz];unfold scanBound;omega) λh' tk so kp=>?_
 . have hi:i<ss.length:=by
    have:=(Array.getElem?_eq_some_iff.mp hu).1
    rw[hsz] at this;exact this
   have h1:(ss.map V.str)[i]? =some (V.str (ss.getD i "")):=by
    rw[Q0g,Q0n,Q05 hi];rfl
   obtain⟨u',e1,t,e2⟩:=rv.get h1
   have:u=u':=by
    have hu':its.toArray[i]? =some u:=hu
    rw[List.getElem?_toArray,e1] at hu'
    exact(Option.some.inj hu').symm
   subst this
   subst e2
   exact⟨Vg _ t,rfl⟩
 . rw[hsz] at so
   obtain⟨o,es,ep,t,ho,more⟩:=so
   refine⟨.ref s.heap.objs.size,_,I.laid (h':=h') (t':=tk) (λb u e=>kp b u (Q01 e) e) (Q02 _) ?_,rfl,q _ (I.hok.fresh (Q02 _))⟩
   exact⟨⟨_,o,es,ep,t,ho,more⟩,⟨o,ho⟩,λh1 h2 ⟨S,o',es',ep',t',ho',more'⟩ k=>⟨S,o',es',ep',t',k _ ho',more'⟩⟩
theorem agF:iY X (.builtin "len") (λxs H Q=>∃a n,xs=[.ref a]/\H a=some (wV X.prog X.w a n)/\Q (.int n) H):=by
 intro pins s σ H xs us Q I r h
 obtain⟨a,n,rfl,ha,q⟩:=h
 obtain⟨u,rfl,ru⟩:=vals1 r
 cases ru
 obtain⟨S,o,es,ep,t,ho,hex,hd,hel,hmem,hb,hf,hn⟩:=(I.hok a _ ha).1
 refine call_len_set ho hex hd hf (by unfold scanBound at hb;omega) ⟨.int n,H,I.tok _,⟨_,by rw[hn]⟩,q⟩
end
end L2
namespace L2
open PySem PySem.StrLaws PySem.Builtin PySem.Builtin.Str
end L2
namespace L2
open PySem PySem.NumText
end L2
namespace L2
open PySem
end L2
namespace L2
open PySem PySem.Builtin PySem.Builtin.Str
end L2
namespace L2
open PySem PySem.Spec PyProof.Rows
section
variable {X:Cx}
end
end L2
namespace L2
open PySem PyProof.Rows
open PySem.Builtin PySem.Builtin.Str PySem.Builtin.Int
theorem Yu:∀{ss:List Str}{its:List Value},Vals (ss.map V.str) its->∃l:List (Str × Tok),strValues l=its/\l.map (·.1)=ss
 |[],[],.nil=>⟨[],rfl,rfl⟩
 |s::ss,_::_,.cons r t=>by
  obtain⟨k,rfl⟩:=r
  obtain⟨l,rfl,rfl⟩:=Yu t
  exact⟨(s,k)::l,rfl,rfl⟩
section
variable {X:Cx}
theorem agG:FZ X "str.join" (λx vs H Q=>∃z a ss,x=.str z/\vs=[.ref a]/\aG X.K H a (ss.map V.str)/\JoinOk z ss=true/\Q (.str (Txt.join z ss)) H):=by
 intro pins s σ H x vs v us Q I rx rv h
 obtain⟨z,a,ss,rfl,rfl,hq,hok,q⟩:=h
 obtain⟨t,rfl⟩:=rx
 obtain⟨u1,rfl,r1⟩:=vals1 rv
 cases r1
 obtain⟨its,r',pl,hz⟩:=I.list hq
 obtain⟨l,rfl,rfl⟩:=Yu r'
 exact SC.join pl.isList rfl hok λt' k=>⟨.str _,H,I.tok _,⟨_,rfl⟩,q⟩
end
end L2
namespace Pb
open PySem L2
theorem boot_isinstance:bootBuiltins "isinstance"=some (.builtin "isinstance"):=by decide +kernel
theorem boot_sorted:bootBuiltins "sorted"=some (.builtin "sorted"):=by decide +kernel
theorem boot_all:bootBuiltins "all"=some (.builtin "all"):=by decide +kernel
theorem boot_int:bootBuiltins "int"=some (.type "int"):=by decide +kernel
theorem boot_bool:bootBuiltins "bool"=some (.type "bool"):=by decide +kernel
theorem boot_str:bootBuiltins "str"=some (.type "str"):=by decide +kernel
theorem boot_list:bootBuiltins "list"=some (.type "list"):=by decide +kernel
theorem boot_tuple:bootBuiltins "tuple"=some (.type "tuple"):=by decide +kernel
theorem boot_set:bootBuiltins "set"=some (.type "set"):=by decide +kernel
theorem boot_dict:bootBuiltins "dict"=some (.type "dict"):=by decide +kernel
structure Tb (mg:Str->Option Value):Prop where
 dU:mg "len"=none
 bQ:mg "isinstance"=none
 Hj:mg "sorted"=none
 wW:mg "all"=none
 wX:mg "range"=none
 Hl:mg "enumerate"=none
 Yv:mg "zip"=none
 qW:mg "int"=none
 qX:mg "bool"=none
 nM:mg "str"=none
 jV:mg "list"=none
 mC:mg "tuple"=none
 g_:mg "dict"=none
 agH:mg "set"=none
 Yw:mg "reversed"=none
structure Dn (K:W.Frag) (mg:Str->Option Value) (x:Str) (ps:List Str) (st:Stmt) (f:Addr) (fd:FuncData):Prop where
 F:lC K x x st f fd
 b:Binds K fd ps []
 m:mg x=some (.ref f)
theorem aR {X:Cx}{k:Nat}{f:Addr}{fd:FuncData}{ps:List Str}{sp:Sp}{x:Str}{p pos:Pos}{e:Expr}{es:List Expr}{t:TA}{st:Stmt}(F:aq X.prog X.w X.K X.mg X.base aC k f fd ps sp)(hr:cU k X.A)(D:Dn X.K X.mg x ps st f fd)(ha:PA X (e::es) t)(hg:Gl X x:=by rfl)(hdb:(x == ("__debug__":Str))=false:=by decide)(he:starEach (e::es) X.env=(false,eval e X.env)::starEach es X.env:=by rfl)(hpl:(backTo pos (starEach es X.env)).any (·.1)=false:=by rfl):PE X (.Call (.Name x p) (e::es) [] pos) (pC sp [] E0 t):=Ft F hr hg D.m D.F.kp D.b .nil eG ha hdb he hpl
abbrev cB:List Str:=["kind","value"]
abbrev cR:List Str:=["_law_script","_law_at"]
abbrev gC:List Str:=["fields","record"]
abbrev h_:List Str:=["kind","step","path","value"]
abbrev je:List Str:=["self","new"]
abbrev jW:List Str:=["self","kind"]
abbrev jX:List Str:=["self","name"]
abbrev jY:List Str:=["_law_found","_law_due"]
abbrev mF:List Str:=["fields","name"]
abbrev nO:List Str:=["_law_script","_law_at","_law_kind_here","_law_room"]
abbrev nQ:List Str:=["pairs"]
abbrev pK:List Str:=["self","kind","source"]
abbrev pL:List Str:=["kind","seen"]
abbrev pN:List Str:=["self","kind","source","seen"]
abbrev pO:List Str:=["kind","step","value"]
abbrev pP:List Str:=["fields","step","path","record"]
abbrev pQ:List Str:=["kind","paper","value"]
abbrev pR:List Str:=["path","kind","old","new"]
abbrev tX:List Str:=["_law_script","_law_at","_law_many"]
abbrev tY:List Str:=["view","kind","source"]
abbrev tZ:List Str:=["self","paper"]
abbrev t_:List Str:=["self","name","seen"]
abbrev uc:List Str:=["_law_names_here","_law_value_here"]
abbrev Ar:List Str:=["_law_script","_law_at","_law_deep"]
abbrev Av:List Str:=["_law_script","_law_at","_law_many","_law_deep"]
abbrev Aw:List Str:=["kind","names"]
abbrev Ax:List Str:=["fields","names"]
abbrev Ay:List Str:=["record","names"]
abbrev Az:List Str:=["self","names"]
abbrev A_:List Str:=["path","fields","old","new"]
abbrev Ba:List Str:=["kind","old","new"]
abbrev Bb:List Str:=["self","view","old"]
abbrev Bc:List Str:=["self","name","view"]
abbrev Bd:List Str:=["kind","source"]
abbrev Bf:List Str:=["_law_desk","_law_paper"]
abbrev Bg:List Str:=["_law_desk","_law_name","_law_seen"]
abbrev Bh:List Str:=["_law_row","_law_m"]
abbrev Bj:List Str:=["_law_script","_law_at","_law_fields_here","_law_value_here","_law_many"]
abbrev Bk:List Str:=["_law_hooks","_law_old","_law_new"]
abbrev Bl:List Str:=["_law_script","_law_at","_law_desk","_law_hooks","_law_fields_here","_law_source","_law_way"]
noncomputable def jf (K:W.Frag) (H:Hp) (a:Addr) (ns:List Int):Prop:=
 (∃o,H a=some (.cg o (.lst (ns.map V.int))))\/
   ∃(o:Obj) (its:Array Value) (n:Nat),K.lookup a=some o/\o.cls=.type "list"/\o.dict=none/\o.data=.seq its n/\its.size<=sizeLine/\Vals (ns.map V.int) its.toList
theorem jf.sq {K:W.Frag}{H:Hp}{a:Addr}{ns:List Int}(h:jf K H a ns):aG K H a (ns.map V.int):=by
 rcases h with⟨o,h⟩|h
 . exact .inl (.inr ⟨o,h⟩)
 . exact .inr h
noncomputable def SB (b:Addr) (H H':Hp):Prop:=∀c o,c≠b->H c=some o->H' c=some o
theorem SB.refl (b:Addr)(H:Hp):SB b H H:=λ_ _ _ h=>h
theorem SB.trans {b:Addr}{H H1 H2:Hp}(x:SB b H H1)(y:SB b H1 H2):SB b H H2:=λc o n h=>y c o n (x c o n h)
theorem SB.of {b:Addr}{H H':Hp}(s:Same H H'):SB b H H':=λc o _ h=>s c o h
theorem SB.wr {b:Addr}{H:Hp}{o:HO}:SB b H (upd H b o):=λc u n h=>by rw[au n];exact h
theorem SB.new {b p:Addr}{H:Hp}{o:HO}(h:H p=none):SB b H (upd H p o):=λc u n q=>by rw[au (aO q h)];exact q
structure G0 (K:W.Frag) (H:Hp) (a b:Addr) (ns:List Int) (n:Int):Prop where
 jy:jf K H a ns
 len:ns.length<=63
 at_:H b=some (.lst [.int n])
 pos:0<=n
theorem SB.jy {K:W.Frag}{b:Addr}{H H':Hp}{a:Addr}{ns:List Int}{n:Int}(x:SB b H H')(hb:H b=some (.lst [.int n]))(h:jf K H a ns):jf K H' a ns:=by
 rcases h with⟨o,h⟩|h
 . exact .inl ⟨o,x a _ (kO h hb (by intro z;cases z)) h⟩
 . exact .inr h
theorem SB.tu {b:Addr}{H H':Hp}{n:Int}(x:SB b H H')(hb:H b=some (.lst [.int n])):Tu H H':=λc xs h=>x c _ (kO h hb (by intro z;cases z)) h
theorem G0.go {K:W.Frag}{H H':Hp}{a b:Addr}{ns:List Int}{n n':Int}(g:G0 K H a b ns n)(x:SB b H H')(h:H' b=some (.lst [.int n']))(hn:n<=n'):G0 K H' a b ns n':=
 ⟨x.jy g.at_ g.jy,g.len,h,by have:=g.pos;omega⟩
theorem Same.new {H:Hp}{p:Addr}{o:HO}(h:H p=none):Same H (upd H p o):=λc u q=>by rw[au (aO q h)];exact q
theorem int_at {ns:List Int}{z:Int}(h0:0<=z)(h1:z<ns.length):dO (ns.map V.int) z=some (.int (ns.getD z.toNat 0)):=by
 obtain⟨j,rfl⟩:∃j:Nat,z=(j:Int):=⟨z.toNat,by omega⟩
 rw[Q1o]
 exact jO (by rw[Q0g,Q0n,Q05 (by omega)];rfl)
theorem wY {A B:TS}{D:Ends}{σ:L2.St}{H:Hp}(Pv:L2.St->Hp->Prop)(hB:∀σ' H',Pv σ' H'->B D σ' H')(hA:(∀σ' H',Pv σ' H'->B D σ' H')->A { D with nx:=B D } σ H):Vq A B D σ H:=hA hB
theorem new1 {H:Hp}{p:Addr}(hp:H p=none)(o:HO):∃H',upd H p o=H'/\Same H H'/\H' p=some o:=⟨_,rfl,Same.new hp,aF⟩
noncomputable def nR (K:W.Frag):Sp:=λvs H Q _=>∃a b ns n,vs=[.ref a,.ref b]/\G0 K H a b ns n/\n<=1000000000000/\
 ∀(r:Int) (H':Hp),0<=r->r<1999999973->SB b H H'->H' b=some (.lst [.int (n+1)])->Q (.int r) H'
noncomputable def Yx (K:W.Frag):Sp:=λvs H Q _=>∃a b ns n,vs=[.ref a,.ref b]/\G0 K H a b ns n/\n<=1000000000000/\
 ∀(v:V) (k:Kd) (H':Hp),SB b H H'->H' b=some (.lst [.int (n+1)])->KA H' v k->gw k->Q v H'
noncomputable def Ho (K:W.Frag):Sp:=λvs H Q _=>∃a b ns n,vs=[.ref a,.ref b]/\G0 K H a b ns n/\n<=1000000000000/\
 ∀(z:Int) (H':Hp),SB b H H'->H' b=some (.lst [.int (n+1)])->Q (.int z) H'
noncomputable def Hq (K:W.Frag):Sp:=λvs H Q _=>∃a b ns n,vs=[.ref a,.ref b]/\G0 K H a b ns n/\n<=1000000000000/\
 ∀(z:Str) (H':Hp),SB b H H'->H' b=some (.lst [.int (n+1)])->Q (.str z) H'
variable {P:Program}{w:World}{K:W.Frag}{mg:Str->Option Value}{base:Heap}
theorem Yy:bC ["_law_script","_law_at","_law_cell","_law_m"] ["_law_script","_law_at"] (aL (top 63)):=by refine⟨rfl,rfl,rfl,?_,rfl,?_,?_⟩ <;> decide +kernel
theorem agI (T:Tb mg)(dh:Dn K mg "_law_next" cR (top 63) gO gP):aq P w K mg base aC (1) gO gP cR (nR K):=by
 refine dh.F.ok Yy (λvs H Q E h=>?_) (λcdv A outer s H vs Q E hr h=>?_)
 . obtain⟨a,b,ns,n,rfl,_⟩:=h
   rfl
 obtain⟨a,b,ns,n,rfl,g,hn,q⟩:=h
 have nd:=Yy.nd
 refine⟨_,(ao (sY (aX jt (aZ gY (pv 1) aH (λ_ _=>rfl)) aH) (adh (pv 1) aH set_list))
  (ao (bf (i:=2) nd rfl (Or.inl rfl) (fZ (aW Fi (aY eY (by rfl) T.dU PySem.boot_len (aj (pv 0) ak)) aH (aQ _)) (aZ gY (pv 0) (aX cG (aZ gY (pv 1) aH (λ_ _=>rfl)) (aY eY (by rfl) T.dU PySem.boot_len (aj (pv 0) ak))) (λ_ _=>rfl)) aH))
  (ao (bf (i:=3) nd rfl (Or.inl rfl) (aX cG (aX lW (aX jt (aX jt (aX cG (pv 2) aH) (aX lW (aX lW (aZ gY (pv 1) aH (λ_ _=>rfl)) (aZ gY (pv 1) aH (λ_ _=>rfl))) aH)) aH) aH) aH))
  (aB (aN (aX cG (aX lW (pv 3) (pv 3)) aH)))))),?_⟩
 have hb:=g.at_
 have hp:=g.pos
 have hS:aG K (upd H b (.lst [.int (n+1)])) a (ns.map V.int):=(SB.wr.jy hb g.jy).sq
 have hb':upd H b (.lst [.int (n+1)]) b=some (.lst [.int (n+1)]):=aF
 refine⟨_,rfl,b,_,_,_,rfl,rfl,aG.of hb,rfl,_,_,rfl,rfl,_,rfl,b,_,_,0,rfl,rfl,hb,rfl,?_⟩
 dsimp only[cL]
 refine wY (A:=mV _ _) (λσ' H'=>H'=upd H b (.lst [.int (n+1)])/\∃c:Int,σ'=[some (.ref a),some (.ref b),some (.int c),none]) ?_ (λhB=>?_)
 rotate_left
 . refine⟨_,rfl,a,_,rfl,.inl hS,_,_,rfl,rfl,_,rfl,?_⟩
   have hl:(ns.map V.int).length=ns.length:=Q06 _
   refine eN (λc=>?_) (λc=>?_)
   . have c':(0:Int)<((ns.map V.int).length:Nat):=of_decide_eq_true c
     rw[hl] at c'
     have i0:=Q0w (n+1) (show(ns.length:Int)≠0 by omega)
     have i1:=Q0x (n+1) c'
     refine⟨_,rfl,_,rfl,b,_,_,_,rfl,rfl,aG.of hb',rfl,_,rfl,a,_,rfl,.inl hS,_,_,rfl,rfl,by rw[hl];exact c',a,_,_,_,rfl,rfl,hS,by rw[hl];exact int_at i0 i1,?_⟩
     exact hB _ _ ⟨rfl,_,rfl⟩
   . exact hB _ _ ⟨rfl,_,rfl⟩
 rintro _ H2 ⟨rfl,c,rfl⟩
 refine⟨_,rfl,_,_,rfl,rfl,(by show(0:Int)<_;decide),_,rfl,b,_,_,_,rfl,rfl,aG.of hb',rfl,_,rfl,b,_,_,_,rfl,rfl,aG.of hb',rfl,_,_,rfl,rfl,.inl ⟨by omega,by omega⟩,_,_,rfl,rfl,.inr ⟨by decide,by decide⟩,
  _,_,rfl,rfl,_,_,rfl,rfl,_,_,rfl,rfl,.inr ⟨by decide,by decide⟩,_,_,rfl,rfl,(by show(0:Int)<_;decide),?_⟩
 refine⟨_,rfl,_,rfl,_,_,rfl,rfl,.inl ⟨?_,?_⟩,_,_,rfl,rfl,(by show(0:Int)<_;decide),q _ _ (Q0w _ (by decide)) (Q0x _ (by decide)) SB.wr hb'⟩
 . exact Int.lt_of_lt_of_le (by decide) (Q0w _ (by decide))
 . exact Int.lt_trans (Q0x _ (by decide)) (by decide)
theorem Yz:bC ["_law_script","_law_at"] ["_law_script","_law_at"] (aL (top 67)):=by refine⟨rfl,rfl,rfl,?_,rfl,?_,?_⟩ <;> decide +kernel
theorem agJ (T:Tb mg)(ud:Dn K mg "_law_plain" cR (top 67) Hr Hs)(dh:Dn K mg "_law_next" cR (top 63) gO gP)(fX:aq P w K mg base aC (1) gO gP cR (nR K)):aq P w K mg base aC (2) Hr Hs cR (Yx K):=by
 refine ud.F.ok Yz (λvs H Q E h=>?_) (λcdv A outer s H vs Q E hr h=>?_)
 . obtain⟨a,b,ns,n,rfl,_⟩:=h
   rfl
 obtain⟨a,b,ns,n,rfl,g,hn,q⟩:=h
 have nd:=Yz.nd
 refine⟨_,(aB (aN (aZ gY (dG (aj (cQ (aj bh ak)) (aj (cQ (aj bh ak)) ak))) (aX cG (aR fX (hr.mono (by decide)) dh (aj (pv 0) (aj (pv 1) ak))) aH) (λ_ _=>rfl)))),?_⟩
 refine⟨gH,λp1 hp1=>⟨gH,λp2 hp2=>⟨cX,λp3 hp3=>?_⟩⟩⟩
 obtain⟨H1,e1,s1,f1⟩:=new1 hp1 (.tup [.str "number"])
 rw[e1] at hp2 hp3 ⊢
 obtain⟨H2,e2,s2,f2⟩:=new1 hp2 (.tup [.str "word"])
 rw[e2] at hp3 ⊢
 obtain⟨H3,e3,s3,f3⟩:=new1 hp3 (.lst [.ref p1,.ref p2])
 rw[e3]
 have t3:=s1.trans (s2.trans s3)
 refine⟨_,rfl,_,rfl,a,b,ns,n,rfl,g.go (SB.of t3) (t3 _ _ g.at_) (Q14 _),hn,λr H4 r0 r1 s4 h4=>?_⟩
 have npb:p3≠b:=λz=>by rw[z,s2 _ _ (s1 _ _ g.at_)] at hp3;cases hp3
 have f4:=s4 _ _ npb f3
 have tu:=s4.tu (t3 _ _ g.at_)
 have sb:SB b H H4:=(SB.of t3).trans s4
 have h01:r % 2=0\/r % 2=1:=by omega
 rcases h01 with e|e
 . refine⟨_,_,rfl,rfl,(by show(0:Int)<_;decide),p3,_,_,.ref p1,rfl,rfl,aG.of f4,by show dO [V.ref p1,V.ref p2] (r % 2)=_;rw[e];rfl,q _ .num _ sb h4 (by unfold KA;exact⟨p1,rfl,tu _ _ (s3 _ _ (s2 _ _ f1))⟩) trivial⟩
 . refine⟨_,_,rfl,rfl,(by show(0:Int)<_;decide),p3,_,_,.ref p2,rfl,rfl,aG.of f4,by show dO [V.ref p1,V.ref p2] (r % 2)=_;rw[e];rfl,q _ .eO _ sb h4 (by unfold KA;exact⟨p2,rfl,tu _ _ (s3 _ _ f2)⟩) trivial⟩
theorem agL (n:Nat)(h:n<=1000):Builtin.Str.tooLong n=false:=by
 have:n<=sizeLine:=Q0s (cW h)
 unfold Builtin.Str.tooLong
 exact decide_eq_false (by omega)
theorem agM {sep:Str}{ss:List Str}(h1:ss.length<=1000)(h2:∀x∈ss,x.length<=100)(h3:sep.length<=100):JoinOk sep ss=true:=by
 unfold JoinOk
 rw[StrLaws.joinTotal]
 have hs:∀(l:List Str),(∀x∈l,x.length<=100)->(l.map (·.length)).sum<=100 * l.length:=by
  intro l
  induction l with
  |nil=>intro _;exact Q02 _
  |cons x l ih=>
   intro h
   have a:=h x Q0f
   have b:=ih λy hy=>h y (Q0j _ hy)
   show x.length+(l.map (·.length)).sum<=100 * (l.length+1)
   omega
 have a:=hs ss h2
 have b:ss.length * sep.length<=1000 * 100:=Nat.mul_le_mul h1 h3
 have c:(ss.map (·.length)).sum+ss.length * sep.length<=200000:=by omega
 have d:Builtin.Str.tooLong ((ss.map (·.length)).sum+ss.length * sep.length)=false:=by
  unfold Builtin.Str.tooLong
  exact decide_eq_false (Nat.not_lt.mpr (Q0e c (by decide)))
 rw[d];rfl
theorem Ht {i m:Nat}{te:TE}{σ:L2.St}{H:Hp}{Q:VK}(Pv:Nat->List V->Hp->Prop)(hi:σ[i]? =some (some (.int m)))(hm:m<=1000)(h0:Pv 0 [] H)(hl:∀j ys H',Pv j ys H'->ys.length=j)
 (hs:∀(j:Nat) ys H',j<m->Pv j ys H'->∀R:V->Hp->Prop,(∀y H2,Pv (j+1) (ys++[y]) H2->R y H2)->te (some (.int j)::σ) H' R) (hd:∀ys H',Pv m ys H'->∀p,H' p=none->Q (.ref p) (upd H' p (.lst ys))):
 zU 1 (Vv (cj (bB i) gj)) (cL 0) gn te σ H Q:=by
 refine⟨_,hi,_,rfl,by omega,by omega,λj k ys H'=>k=m - j/\j<=m/\Pv j ys H',⟨m,by omega,Q0b _,h0⟩,?_⟩
 rintro j k ys H' ⟨rfl,hj,hp⟩
 have em:Int.toNat (m:Int)=m:=by omega
 by_cases hlt:j<m
 . refine .inr ⟨by show j<Int.toNat (m:Int);omega,by rw[hl _ _ _ hp];exact cW (by omega),λx H2 y=>?_⟩
   obtain⟨rfl,rfl⟩:=y
   refine⟨rfl,yes (bR ?_)⟩
   rw[Int.zero_add]
   exact hs j ys H2 hlt hp _ λy H3 h=>⟨m - (j+1),by omega,rfl,by omega,h⟩
 . have ej:j=m:=by omega
   subst ej
   exact .inl ⟨by show Int.toNat (j:Int)<=j;omega,hd ys H' hp⟩
theorem YB:bC ["_law_script","_law_at","_law_m","_law_cell"] ["_law_script","_law_at"] (aL (top 64)):=by refine⟨rfl,rfl,rfl,?_,rfl,?_,?_⟩ <;> decide +kernel
theorem agN (T:Tb mg)(nU:Dn K mg "_law_number" cR (top 64) wZ w5)(dh:Dn K mg "_law_next" cR (top 63) gO gP)(fX:aq P w K mg base aC (1) gO gP cR (nR K)):aq P w K mg base aC (2) wZ w5 cR (Ho K):=by
 refine nU.F.ok YB (λvs H Q E h=>?_) (λcdv A outer s H vs Q E hr h=>?_)
 . obtain⟨a,b,ns,n,rfl,_⟩:=h
   rfl
 obtain⟨a,b,ns,n,rfl,g,hn,q⟩:=h
 have nd:=YB.nd
 refine⟨_,(ao (bf (i:=2) nd rfl (Or.inl rfl) (aR fX (hr.mono (by decide)) dh (aj (pv 0) (aj (pv 1) ak))))
  (ao (bf (i:=3) nd rfl (Or.inl rfl) (fZ (aW Fi (aY eY (by rfl) T.dU PySem.boot_len (aj (pv 0) ak)) aH (aQ _)) (aZ gY (pv 0) (aX cG (aZ gY (pv 1) aH (λ_ _=>rfl)) (aY eY (by rfl) T.dU PySem.boot_len (aj (pv 0) ak))) (λ_ _=>rfl)) aH))
  (ao (aV (aW bA (aX cG (pv 2) aH) aH (aQ _)) (aB (aN (aX Fg (aX cG (aX ju (pv 2) aH) aH) aH))) aU)
  (aB (aN (aX Fg (aX cG (aX jt (aX cG (pv 3) (aX zJ aH aH)) (aX lW (pv 2) (aX zJ aH aH))) (aX lW aH (aX zJ aH aH))) (aX zJ aH aH))))))),?_⟩
 refine⟨_,rfl,_,rfl,a,b,ns,n,rfl,g,hn,λr H1 r0 r1 s1 h1=>?_⟩
 have g1:=g.go s1 h1 (by omega)
 have hS:=g1.jy.sq
 have hp:=g.pos
 dsimp only[cL]
 refine wY (A:=mV _ _) (λσ' H'=>H'=H1/\∃c:Int,σ'=[some (.ref a),some (.ref b),some (.int r),some (.int c)]) ?_ (λhB=>?_)
 rotate_left
 . refine⟨_,rfl,a,_,rfl,.inl hS,_,_,rfl,rfl,_,rfl,?_⟩
   have hl:(ns.map V.int).length=ns.length:=Q06 _
   refine eN (λc=>?_) (λc=>?_)
   . have c':(0:Int)<((ns.map V.int).length:Nat):=of_decide_eq_true c
     rw[hl] at c'
     have i0:=Q0w (n+1) (show(ns.length:Int)≠0 by omega)
     have i1:=Q0x (n+1) c'
     refine⟨_,rfl,_,rfl,b,_,_,_,rfl,rfl,aG.of h1,rfl,_,rfl,a,_,rfl,.inl hS,_,_,rfl,rfl,by rw[hl];exact c',a,_,_,_,rfl,rfl,hS,by rw[hl];exact int_at i0 i1,?_⟩
     exact hB _ _ ⟨rfl,_,rfl⟩
   . exact hB _ _ ⟨rfl,_,rfl⟩
 rintro _ H2 ⟨rfl,c,rfl⟩
 have pw:Fb 10 40:=⟨by decide,by decide,by decide⟩
 have pw2:Fb 10 29:=⟨by decide,by decide,by decide⟩
 refine⟨_,rfl,_,_,rfl,rfl,(by show(0:Int)<_;decide),rfl,_,rfl,eN (λc2=>?_) (λc2=>?_)⟩
 . exact⟨_,rfl,_,_,rfl,rfl,⟨by decide,by decide⟩,_,_,rfl,rfl,(by show(0:Int)<_;decide),_,_,rfl,rfl,q _ _ s1 h1⟩
 . exact⟨_,rfl,_,_,rfl,rfl,pw,_,_,rfl,rfl,(by show(0:Int)<_;decide),_,rfl,_,_,rfl,rfl,pw2,_,_,rfl,rfl,.inl ⟨by omega,by omega⟩,_,_,rfl,rfl,_,_,rfl,rfl,pw,_,_,rfl,rfl,.inl ⟨by decide,by decide⟩,_,_,rfl,rfl,(by show(0:Int)<_;decide),_,_,rfl,rfl,pw,_,_,rfl,rfl,q _ _ s1 h1⟩
noncomputable abbrev sgn:Str:=(" !#$&'()*+,-./0123456789:;<=>?@ABCDEFGHIJKLMNOPQRSTUVWXYZ":Str)++("[\\]^_`abcdefghijklmnopqrstuvwxyz{|}~":Str)
theorem uf:sgn.length=93:=by decide +kernel
theorem agP {z:Int}(h0:0<=z)(h1:z<93):∃c,dO sgn.cps.toList z=some c:=by
 have hl:sgn.cps.toList.length=93:=by
  have:=uf
  rw[Q1g];exact this
 unfold dO lB
 rw[hl,if_pos h0,if_pos (show z<((93:Nat):Int) by omega)]
 exact⟨_,Q05 (by omega)⟩
theorem YC:bC ["_law_script","_law_at","_law_signs","_law_m","_law_many"] ["_law_script","_law_at"] (aL (top 65)):=by refine⟨rfl,rfl,rfl,?_,rfl,?_,?_⟩ <;> decide +kernel
theorem agQ (T:Tb mg)(nW:Dn K mg "_law_word" cR (top 65) w6 xg)(dh:Dn K mg "_law_next" cR (top 63) gO gP)(fX:aq P w K mg base aC (1) gO gP cR (nR K)):aq P w K mg base aC (2) w6 xg cR (Hq K):=by
 refine nW.F.ok YC (λvs H Q E h=>?_) (λcdv A outer s H vs Q E hr h=>?_)
 . obtain⟨a,b,ns,n,rfl,_⟩:=h
   rfl
 obtain⟨a,b,ns,n,rfl,g,hn,q⟩:=h
 have nd:=YC.nd
 refine⟨_,(ao (bf (i:=2) nd rfl (Or.inr rfl) bh)
  (ao (bf (i:=2) nd rfl (Or.inr rfl) (aX Fj (pv 2) bh))
  (ao (bf (i:=3) nd rfl (Or.inr rfl) (aR fX (hr.mono (by decide)) dh (aj (pv 0) (aj (pv 1) ak))))
  (ao (bf (i:=4) nd rfl (Or.inl rfl) (fZ (aW bA (aX cG (aX ju (pv 3) aH) aH) aH (aQ _)) aH (aX cG (pv 3) aH)))
  (aB (aN (pF PySem.F.plainAttrs_str PySem.F.slot_str_join PySem.F.type_str_join agG bh (aj (jc (g:=(cL 0)) (tt:=gn) (te:=(bJ _ (bB 3) (bJ _ (bJ _ (bJ _ (bB 4) (tC (.int 145))) (bJ _ (bJ _ (bB 0) (bB 0)) (bJ _ (bJ _ (bB 4) (tC (.int 7))) (tC (.int 3))))) _))) (own:=["_law_k"]) rfl (dw.of (N:=["_law_script","_law_at","_law_signs","_law_m","_law_many"]) (sc:=aL (top 65)) rfl rfl rfl (by decide +kernel)) (zE rfl T.wX (aj (pv 4) ak)) (λ_ _ _ _ _=>(bH (i:=0) (show(["_law_k","_law_script","_law_at","_law_signs","_law_m","_law_many"]:List Str).Nodup by decide +kernel) rfl (Or.inl rfl) (.inr rfl))) (λ_ _ _ _ _=>i_) (λ_ _ _ _ _=>(aZ vY (pv 3) (aX cG (aX jt (aX ju (pv 4) aH) (aX lW (aX lW (pv 0) (pv 0)) (aX cG (aX ju (pv 4) aH) aH))) (aY aee (by rfl) T.dU PySem.boot_len (aj (pv 3) ak))) (λ_ _=>rfl)))) ak)))))))),?_⟩
 have hz1:sgn.length<=sizeLine:=by rw[uf];decide
 refine⟨_,rfl,_,_,rfl,rfl,by decide +kernel,?_⟩
 refine⟨_,rfl,_,rfl,a,b,ns,n,rfl,g,hn,λr H1 r0 r1 s1 h1=>?_⟩
 dsimp only[cL]
 refine wY (A:=mV _ _) (λσ' H'=>H'=H1/\∃m:Nat,m<=40/\σ'=[some (.ref a),some (.ref b),some (.str sgn),some (.int r),some (.int m)]) ?_ (λhB=>?_)
 rotate_left
 . refine⟨_,rfl,_,_,rfl,rfl,⟨by decide,by decide⟩,_,_,rfl,rfl,(by show(0:Int)<_;decide),rfl,_,rfl,eN (λc=>?_) (λc=>?_)⟩
   . exact hB _ _ ⟨rfl,40,Q02 _,rfl⟩
   . exact⟨_,rfl,_,_,rfl,rfl,(by show(0:Int)<_;decide),hB _ _ ⟨rfl,(r % 5).toNat,by omega,by rw[show(((r % 5).toNat:Nat):Int)=r % 5 by omega];rfl⟩⟩
 rintro _ H2 ⟨rfl,m,hm,rfl⟩
 have em:Int.toNat (m:Int)=m:=by omega
 refine⟨rfl,Ht (λj ys H'=>H'=H2/\∃ss:List Str,ys=ss.map V.str/\ss.length=j/\∀x∈ss,x.length<=1) rfl (by omega) ⟨rfl,[],rfl,rfl,λx hx=>absurd hx (by simp)⟩ (λj ys H' h=>by obtain⟨_,ss,rfl,e,_⟩:=h;rw[Q06];exact e) ?_ ?_⟩
 . rintro j ys H' hj ⟨rfl,ss,rfl,hsl,hs1⟩ R hR
   have i0:=Q0w (r / 145+(j:Int) * (j:Int) * (r / 7 % 3)) (show((sgn.length:Nat):Int)≠0 by rw[uf];decide)
   have i1:=Q0x (r / 145+(j:Int) * (j:Int) * (r / 7 % 3)) (show(0:Int)<((sgn.length:Nat):Int) by rw[uf];decide)
   obtain⟨c,hc⟩:=agP i0 (by rw[uf] at i1 ⊢;exact i1)
   have hjj:(j:Int) * (j:Int)<=40 * 40:=Int.mul_le_mul (by omega) (by omega) (by omega) (by omega)
   have hj0:0<=(j:Int) * (j:Int):=Int.mul_nonneg (by omega) (by omega)
   refine⟨_,rfl,_,rfl,_,_,rfl,rfl,⟨by decide,by decide⟩,_,rfl,_,rfl,_,_,rfl,rfl,.inl ⟨by omega,by omega⟩,_,rfl,_,_,rfl,rfl,⟨by decide,by decide⟩,_,_,rfl,rfl,(by show(0:Int)<_;decide),_,_,rfl,rfl,.inl ⟨by omega,by omega⟩,_,_,rfl,rfl,_,rfl,_,rfl,hz1,_,_,rfl,rfl,(by show(0:Int)<((sgn.length:Nat):Int);rw[uf];decide),_,_,c,rfl,rfl,hz1,hc,hR _ _ ⟨rfl,ss++[⟨#[c]⟩],by rw[Q0k];rfl,by rw[Q09,hsl];rfl,λx hx=>?_⟩⟩
   rcases List.mem_append.mp hx with h|h
   . exact hs1 x h
   . rw[List.mem_singleton.mp h];exact Q02 _
 . rintro ys H' ⟨rfl,ss,rfl,hsl,hs1⟩ p hp
   exact⟨_,p,ss,rfl,rfl,aG.of aF,agM (by omega) (λx hx=>Q0e (hs1 x hx) (by decide)) (by decide),q _ _ (s1.trans (SB.new hp)) (by rw[au (aO h1 hp)];exact h1)⟩
noncomputable def nY (m:Int) (k:Nat):Str:=Txt.mul (lt (m / 4 % 26)) ((k:Int)+1)
noncomputable def mG (m:Int) (k:Nat):Str:=lt ((m / 624+(k:Int) * (2 * (m / 4 % 6)+1)) % 26)
noncomputable def mH (m:Int) (x:Str):Str:=if m % 4=1 then lt (m / 24 % 26)++x else x++lt (m / 24 % 26)
theorem YD (c:Nat):∀(n m:Nat),m<=n->PySem.Spec.ltCps (List.replicate n c) (List.replicate m c)=false
 |n,0,_=>by cases n <;> rfl
 |0,m+1,h=>absurd h (by omega)
 |n+1,m+1,h=>by
  rw[Q1t,Q1t]
  have:=YD c n m (by omega)
  simp[PySem.Spec.ltCps,this]
theorem agR (m:Int){i j:Nat}(h:i<=j):sle (nY m i) (nY m j):=by
 unfold sle wG
 rw[<-Xw]
 unfold nY
 rw[GX,GX]
 exact YD _ _ _ (by omega)
theorem agS (m:Int){i j:Nat}(h:nY m i=nY m j):i=j:=by
 have e:=congrArg Str.length h
 unfold nY at e
 rw[Xu (Ag _),Xu (Ag _)] at e
 omega
theorem agT {m:Int}{i j:Nat}(hm:0<=m)(hi:i<12)(hj:j<12)(h:mG m i=mG m j):i=j:=by
 have e:((m / 624+(i:Int) * (2 * (m / 4 % 6)+1)) % 26).toNat=((m / 624+(j:Int) * (2 * (m / 4 % 6)+1)) % 26).toNat:=by
  have e:=congrArg (λs:Str=>s.cps.toList) h
  have e:[97+((m / 624+(i:Int) * (2 * (m / 4 % 6)+1)) % 26).toNat]=[97+((m / 624+(j:Int) * (2 * (m / 4 % 6)+1)) % 26).toNat]:=e
  have e:=(List.cons.inj e).1
  omega
 have hs:m / 4 % 6=0\/m / 4 % 6=1\/m / 4 % 6=2\/m / 4 % 6=3\/m / 4 % 6=4\/m / 4 % 6=5:=by omega
 generalize m / 624=a at e
 rcases hs with s|s|s|s|s|s <;> rw[s] at e <;> omega
theorem YF {x y:Str}(h:x.cps.toList=y.cps.toList):x=y:=by
 obtain⟨⟨x⟩⟩:=x
 obtain⟨⟨y⟩⟩:=y
 have h:x=y:=h
 rw[h]
theorem agU {m:Int}{x y:Str}(h:mH m x=mH m y):x=y:=by
 unfold mH at h
 have e:=congrArg (λs:Str=>s.cps.toList) h
 split at e
 . simp only[Ah] at e
   exact YF (List.append_cancel_left e)
 . simp only[Ah] at e
   exact YF (List.append_cancel_right e)
theorem agV (m:Int)(i:Nat):nY m i≠"qzqzqz":=λh=>by
 have e:=congrArg (λs:Str=>s.cps.toList) h
 unfold nY at e
 simp only[GX] at e
 have e:List.replicate ((i:Int)+1).toNat (97+(m / 4 % 26).toNat)=[113,122,113,122,113,122]:=e
 have h1:(113:Nat)∈List.replicate ((i:Int)+1).toNat (97+(m / 4 % 26).toNat):=by rw[e];decide
 have h2:(122:Nat)∈List.replicate ((i:Int)+1).toNat (97+(m / 4 % 26).toNat):=by rw[e];decide
 have h1:=Q2c h1
 have h2:=Q2c h2
 omega
theorem agW (m:Int)(i:Nat):mH m (mG m i)≠"qzqzqz":=λh=>by
 have e:=congrArg (λs:Str=>s.cps.toList.length) h
 unfold mH at e
 split at e
 . simp only[Ah] at e
   cases e
 . simp only[Ah] at e
   cases e
noncomputable def Hu (K:W.Frag):Sp:=λvs H Q _=>∃a b ns n,∃m:Nat,vs=[.ref a,.ref b,.int m]/\m<=12/\G0 K H a b ns n/\n<=1000000000000/\
 ∀(p:Addr) (ss:List Str) (H':Hp),SB b H H'->H' b=some (.lst [.int (n+1)])->p≠b->H' p=some (.lst (ss.map V.str))->ss.length=m->ss.Nodup->ss.Pairwise sle->(∀x∈ss,x≠"qzqzqz")->Q (.ref p) H'
theorem agX {K:W.Frag}{i:Nat}{a:Addr}{xs:List V}{te:TE}{σ:L2.St}{H:Hp}{Q:VK}(Pv:Nat->List V->Hp->Prop)(hi:σ[i]? =some (some (.ref a)))(ha:aG K H a xs)(hm:xs.length<=1000)(h0:Pv 0 [] H)(hl:∀j ys H',Pv j ys H'->ys.length=j/\aG K H' a xs)
 (hs:∀(j:Nat) x ys H',xs[j]? =some x->Pv j ys H'->∀R:V->Hp->Prop,(∀y H2,Pv (j+1) (ys++[y]) H2->R y H2)->te (some x::σ) H' R) (hd:∀ys H',Pv xs.length ys H'->∀p,H' p=none->Q (.ref p) (upd H' p (.lst ys))):
 zU 1 (Vt K (bB i)) (cL 0) gn te σ H Q:=by
 refine⟨_,hi,a,rfl,⟨_,ha⟩,λj k ys H'=>k=xs.length - j/\j<=xs.length/\Pv j ys H',⟨xs.length,by omega,Q0b _,h0⟩,?_⟩
 rintro j k ys H' ⟨rfl,hj,hp⟩
 obtain⟨hyl,Hw⟩:=hl _ _ _ hp
 by_cases hlt:j<xs.length
 . refine .inr ⟨⟨xs,xs[j],Hw,Q05 hlt⟩,by rw[hyl];exact cW (by omega),λx H2 y=>?_⟩
   obtain⟨rfl,y⟩:=y
   refine⟨rfl,yes (bR ?_)⟩
   exact hs j x ys H2 (y xs Hw) hp _ λy H3 h=>⟨xs.length - (j+1),by omega,rfl,by omega,h⟩
 . have ej:j=xs.length:=by omega
   subst ej
   exact .inl ⟨⟨xs,Hw,Q02 _⟩,hd ys H' hp⟩
noncomputable abbrev abc:Str:="abcdefghijklmnopqrstuvwxyz"
theorem Bm (f:Nat->Str)(i:Nat):((List.range (i+1)).map f).map V.str=((List.range i).map f).map V.str++[V.str (f i)]:=by
 rw[Q2y,Q0k,Q0k];rfl
theorem YG:bC ["_law_script","_law_at","_law_many","_law_letters","_law_m","_law_stem","_law_signs"] ["_law_script","_law_at","_law_many"] (aL (top 66)):=by refine⟨rfl,rfl,rfl,?_,rfl,?_,?_⟩ <;> decide +kernel
theorem agY (T:Tb mg)(nZ:Dn K mg "_law_names" tX (top 66) xr xu)(dh:Dn K mg "_law_next" cR (top 63) gO gP)(fX:aq P w K mg base aC (1) gO gP cR (nR K)):aq P w K mg base aC (2) xr xu tX (Hu K):=by
 refine nZ.F.ok YG (λvs H Q E h=>?_) (λcdv A outer s H vs Q E hr h=>?_)
 . obtain⟨a,b,ns,n,m,rfl,_⟩:=h
   rfl
 obtain⟨a,b,ns,n,m,rfl,hm,g,hn,q⟩:=h
 have nd:=YG.nd
 refine⟨_,(ao (bf (i:=3) nd rfl (Or.inr rfl) bh)
  (ao (bf (i:=4) nd rfl (Or.inr rfl) (aR fX (hr.mono (by decide)) dh (aj (pv 0) (aj (pv 1) ak))))
  (ao (aV (aW bA (aX cG (pv 4) aH) aH (aQ _)) (aB (aN (jc (g:=(cL 0)) (tt:=gn) (te:=(bJ _ (bJ _ (bB 4) (bJ _ (bJ _ (bB 5) (tC (.int 4))) (tC (.int 26)))) (bJ _ (bB 0) (tC (.int 1))))) (own:=["_law_k"]) rfl (dw.of (N:=["_law_script","_law_at","_law_many","_law_letters","_law_m","_law_stem","_law_signs"]) (sc:=aL (top 66)) rfl rfl rfl (by decide +kernel)) (zE rfl T.wX (aj (pv 2) ak)) (λ_ _ _ _ _=>(bH (i:=0) (show(["_law_k","_law_script","_law_at","_law_many","_law_letters","_law_m","_law_stem","_law_signs"]:List Str).Nodup by decide +kernel) rfl (Or.inl rfl) (.inr rfl))) (λ_ _ _ _ _=>i_) (λ_ _ _ _ _=>(aX ae4 (aZ vY (pv 4) (aX cG (aX ju (pv 5) aH) aH) (λ_ _=>rfl)) (aX jt (pv 0) aH)))))) aU)
  (ao (bf (i:=5) nd rfl (Or.inr rfl) (aZ vY (pv 3) (aX cG (aX ju (pv 4) aH) aH) (λ_ _=>rfl)))
  (ao (zV (i:=6) nd rfl (Or.inl rfl) (g:=(cL 0)) (tt:=gn) (te:=(bJ _ (bB 4) (bJ _ (bJ _ (bJ _ (bB 5) (tC (.int 624))) (bJ _ (bB 0) (bJ (FJ K) (VN (cj (tC (.int 1)) (cj (tC (.int 3)) (cj (tC (.int 5)) (cj (tC (.int 7)) (cj (tC (.int 9)) (cj (tC (.int 11)) gj))))))) (bJ _ (bJ _ (bB 5) (tC (.int 4))) (tC (.int 6)))))) (tC (.int 26))))) (own:=["_law_k"]) rfl (dw.of (N:=["_law_script","_law_at","_law_many","_law_letters","_law_m","_law_stem","_law_signs"]) (sc:=aL (top 66)) rfl rfl rfl (by decide +kernel)) (zE rfl T.wX (aj (pv 2) ak)) (λ_ _ _ _ _=>(bH (i:=0) (show(["_law_k","_law_script","_law_at","_law_many","_law_letters","_law_m","_law_stem","_law_signs"]:List Str).Nodup by decide +kernel) rfl (Or.inl rfl) (.inr rfl))) (λ_ _ _ _ _=>i_) (λ_ _ _ _ _=>(aZ vY (pv 4) (aX cG (aX jt (aX ju (pv 5) aH) (aX lW (pv 0) (aZ gY (dG (aj aH (aj aH (aj aH (aj aH (aj aH (aj aH ak))))))) (aX cG (aX ju (pv 5) aH) aH) (λ_ _=>rfl)))) aH) (λ_ _=>rfl))))
  (aB (aN (aY WQ (by rfl) T.Hj boot_sorted (aj (jc (g:=(cL 0)) (tt:=gn) (te:=(Vp (lX (bJ tD (bJ _ (bB 5) (tC (.int 4))) (tC (.int 1)))) (bJ _ (bB 6) (bB 0)) (bJ _ (bB 0) (bB 6)))) (own:=["_law_sign"]) rfl (dw.of (N:=["_law_script","_law_at","_law_many","_law_letters","_law_m","_law_stem","_law_signs"]) (sc:=aL (top 66)) rfl rfl rfl (by decide +kernel)) (o_ (pv 6)) (λ_ _ _ _ _=>(bH (i:=0) (show(["_law_sign","_law_script","_law_at","_law_many","_law_letters","_law_m","_law_stem","_law_signs"]:List Str).Nodup by decide +kernel) rfl (Or.inl rfl) (.inr rfl))) (λ_ _ _ _ _=>i_) (λ_ _ _ _ _=>(fZ (aW bA (aX cG (pv 5) aH) aH (aQ _)) (aX Fj (pv 6) (pv 0)) (aX Fj (pv 0) (pv 6))))) ak))))))))),?_⟩
 refine⟨_,rfl,_,rfl,a,b,ns,n,rfl,g,hn,λr H1 r0 r1 s1 h1=>?_⟩
 have hz:(abc).length<=sizeLine:=by decide +kernel
 have l1:0<=r / 4 % 26/\r / 4 % 26<26:=by omega
 have l2:0<=r / 24 % 26/\r / 24 % 26<26:=by omega
 have m6:0<=r / 4 % 6/\r / 4 % 6<6:=by omega
 refine⟨_,rfl,_,_,rfl,rfl,(by show(0:Int)<_;decide),rfl,_,rfl,eN (λc=>?_) (λc=>?_)⟩
 . refine Ht (λj ys H'=>H'=H1/\ys=((List.range j).map (nY r)).map V.str) rfl (by omega) ⟨rfl,rfl⟩ (λj ys H' h=>by rw[h.2,Q06,Q06,Q1]) ?_ ?_
   . rintro j ys H' hj ⟨rfl,rfl⟩ R hR
     refine⟨_,rfl,_,rfl,_,_,rfl,rfl,⟨by decide,by decide⟩,_,_,rfl,rfl,(by show(0:Int)<_;decide),_,_,_,rfl,rfl,hz,GK l1.1 l1.2,_,rfl,_,_,rfl,rfl,_,_,rfl,rfl,afN (Ag _) (by omega) agL,hR _ _ ⟨rfl,by rw[Bm];rfl⟩⟩
   . rintro ys H' ⟨rfl,rfl⟩ p hp
     refine q p _ _ (s1.trans (SB.new hp)) (by rw[au (aO h1 hp)];exact h1) (λz=>by rw[z,h1] at hp;cases hp) aF (by rw[Q06,Q1]) (Xv λi j _ _ e=>agS r e) ?_ ?_
     . rw[Q1s]
       exact List.pairwise_lt_range.imp λh=>agR r (Q0s h)
     . intro x hx
       obtain⟨i,_,rfl⟩:=List.mem_map.mp hx
       exact agV r i
 refine⟨_,rfl,_,rfl,_,_,rfl,rfl,⟨by decide,by decide⟩,_,_,rfl,rfl,(by show(0:Int)<_;decide),_,_,_,rfl,rfl,hz,GK l2.1 l2.2,?_⟩
 dsimp only[cL]
 refine wY (A:=mV _ _) (λσ' H'=>∃p,σ'=[some (.ref a),some (.ref b),some (.int m),some (.str abc),some (.int r),some (.str (lt (r / 24 % 26))),some (.ref p)]/\SB b H H'/\H' b=some (.lst [.int (n+1)])/\H' p=some (.lst (((List.range m).map (mG r)).map V.str))) ?_ (λhB=>?_)
 rotate_left
 . refine Ht (λj ys H'=>SB b H H'/\H' b=some (.lst [.int (n+1)])/\ys=((List.range j).map (mG r)).map V.str) rfl (by omega) ⟨s1,h1,rfl⟩ (λj ys H' h=>by rw[h.2.2,Q06,Q06,Q1]) ?_ ?_
   . rintro j ys H' hj ⟨s2,h2,rfl⟩ R hR
     have l3:0<=(r / 624+(j:Int) * (2 * (r / 4 % 6)+1)) % 26/\(r / 624+(j:Int) * (2 * (r / 4 % 6)+1)) % 26<26:=⟨Q0w _ (by decide),Q0x _ (by decide)⟩
     refine⟨_,rfl,_,rfl,_,_,rfl,rfl,⟨by decide,by decide⟩,_,rfl,acv,λp1 hp1=>⟨_,rfl,_,_,rfl,rfl,⟨by decide,by decide⟩,_,_,rfl,rfl,(by show(0:Int)<_;decide),p1,_,_,_,rfl,rfl,aG.of aF,afM m6.1 m6.2,_,_,rfl,rfl,.inl ⟨by omega,by omega⟩,_,_,rfl,rfl,_,_,rfl,rfl,(by show(0:Int)<_;decide),_,_,_,rfl,rfl,hz,GK l3.1 l3.2,hR _ _ ⟨s2.trans (SB.new hp1),by rw[au (aO h2 hp1)];exact h2,by rw[Bm];rfl⟩⟩⟩
   . rintro ys H' ⟨s2,h2,rfl⟩ p hp
     exact hB _ _ ⟨p,rfl,s2.trans (SB.new hp),by rw[au (aO h2 hp)];exact h2,aF⟩
 rintro _ H2 ⟨p,rfl,s2,h2,hp2⟩
 have c':r % 4≠0:=λz=>c (decide_eq_true (show V.int (r % 4)=V.int 0 by rw[z]))
 dsimp only[Et,zM,cj]
 refine agX (K:=K) (xs:=((List.range m).map (mG r)).map V.str) (λj ys H'=>H'=H2/\ys=((List.range j).map λk=>mH r (mG r k)).map V.str) rfl (aG.of hp2) (by rw[Q06,Q06,Q1];omega) ⟨rfl,rfl⟩ (λj ys H' h=>⟨by rw[h.2,Q06,Q06,Q1],by rw[h.1];exact aG.of hp2⟩) ?_ ?_
 . rintro j x ys H' hx ⟨rfl,rfl⟩ R hR
   have hxx:x=.str (mG r j):=by
    rw[Q0g,Q0g] at hx
    cases e:(List.range m)[j]? with
    |none=>rw[e] at hx;cases hx
    |some k=>
     rw[e] at hx
     have:=List.getElem?_range (n:=m) (i:=j) (by have:=(List.getElem?_eq_some_iff.mp e).1;rw[Q1] at this;exact this)
     rw[this] at e
     cases e
     exact(Option.some.inj hx).symm
   subst hxx
   refine⟨_,rfl,_,_,rfl,rfl,(by show(0:Int)<_;decide),rfl,_,rfl,eN (λc1=>?_) (λc1=>?_)⟩
   . have e1:r % 4=1:=by
      have:=of_decide_eq_true c1
      injection this
     exact⟨_,rfl,_,rfl,_,_,rfl,rfl,cX,hR _ _ ⟨rfl,by rw[Bm];unfold mH;rw[if_pos e1]⟩⟩
   . have e1:r % 4≠1:=λz=>c1 (decide_eq_true (show V.int (r % 4)=V.int 1 by rw[z]))
     exact⟨_,rfl,_,rfl,_,_,rfl,rfl,cX,hR _ _ ⟨rfl,by rw[Bm];unfold mH;rw[if_neg e1]⟩⟩
 . rintro ys H' ⟨rfl,rfl⟩ p2 hp2'
   rw[Q06,Q06,Q1]
   have hlen:((List.range m).map λk=>mH r (mG r k)).length=m:=by rw[Q06,Q1]
   have s3:=Same.new hp2' (o:=.lst (((List.range m).map λk=>mH r (mG r k)).map V.str))
   refine⟨p2,_,rfl,aG.of aF,by rw[hlen];omega,λp' ss' hp3 hperm Hx=>?_⟩
   exact q p' ss' _ ((s2.trans (SB.of s3)).trans (SB.new hp3)) (by rw[au (aO (s3 _ _ h2) hp3)];exact s3 _ _ h2) (λz=>by rw[z,s3 _ _ h2] at hp3;cases hp3) aF (hperm.length_eq.trans hlen) (hperm.nodup_iff.mpr (Xv λi j hi hj e=>agT r0 (by omega) (by omega) (agU e))) (GQ Hx) (λx hx=>by obtain⟨i,_,rfl⟩:=List.mem_map.mp (hperm.mem_iff.mp hx);exact agW r i)
end Pb
namespace L2
open PySem PySem.Spec PyProof.Rows
noncomputable def n6 (kvs more:List (Key × V)):List (Key × V):=more.foldl (λacc kv=>putK acc kv.1 kv.2) kvs
theorem KV.puts:∀{more:List (Key × V)}{vm:List (Key × Value)},KV more vm->∀{kvs:List (Key × V)}{vs:List (Key × Value)},KV kvs vs->KV (n6 kvs more) (merged vs vm)
 |_,_,.nil,_,_,r=>r
 |_,_,.cons (a:=p) (b:=q) h t,kvs,vs,r=>by
  obtain⟨h1,h2⟩:=h
  have:=KV.puts t (r.put p.1 h2)
  unfold n6 merged at this ⊢
  rw[Q1u,Q1u,<-h1]
  exact this
theorem agZ (kvs:List (Key × V))(k:Key)(v:V):(putK kvs k v).length<=kvs.length+1:=by
 unfold putK
 split
 . rw[Q06];omega
 . rw[Q09];exact Q02 _
theorem YH:∀(more kvs:List (Key × V)),(n6 kvs more).length<=kvs.length+more.length
 |[],kvs=>Q02 _
 |p::r,kvs=>by
  have:=YH r (putK kvs p.1 p.2)
  have h2:=agZ kvs p.1 p.2
  have e:n6 kvs (p::r)=n6 (putK kvs p.1 p.2) r:=rfl
  rw[e,Q0o];omega
section
variable {X:Cx}
noncomputable def ag0:V->List V->Hp->VK->Prop:=λx vs H Q=>∃a b kvs more,x=.ref a/\vs=[.ref b]/\a≠b/\H a=some (.dK kvs)/\H b=some (.dK more)/\kvs.length+more.length<=sizeLine/\Q .non (upd H a (.dK (n6 kvs more)))
theorem YJ:Fz X "dict.update" ag0:=by
 intro pins s σ H x vs v us Q I rx rv h
 obtain⟨a,b,kvs,more,rfl,rfl,ne,hA,hB,hz,q⟩:=h
 obtain⟨u,rfl,ru⟩:=vals1 rv
 cases rx
 cases ru
 obtain⟨z,hd,wa,rel,dd⟩:=zR I.hok hA
 obtain⟨z2,hd2,wb,YK,dd2⟩:=zR I.hok hB
 refine call_meetsIn PySem.F.slot_dict_update dd.typeIs PySem.F.entry_dict_update (PySem.F.args_dict_update_2 _ _) (meets_dict_update (cJ X.prog X.w) a b ne hd2) ⟨wa,wb,dd,dd2,by rw[<-rel.length,<-YK.length];exact hz,λh' qL _ hs=>?_⟩
 have he:∃q,h'.get? a=some q:=let⟨q,_,_,hq,_⟩:=qL;⟨q,hq⟩
 exact⟨.non,_,Gb (t':=s.toks) I (by rw[hA];exact True.intro) hs he (Wn (Q0e (YH more kvs) hz) hd (YK.puts rel) qL),rfl,q⟩
end
section
variable {X:Cx}{N':List Str}{e:Expr}{t:TE}
structure ug (X:Cx) (N':List Str):Prop where
 len:N'.length=X.N.length
 old:∀(i:Nat) y,N'[i]? =some y->X.N[i]? =some y\/¬zu X.env.scope y
theorem Inv.ren {pins:List (Addr × Obj)}{σ:St}{H:Hp}{s:Shared}(r:ug X N')(I:Inv X pins σ H s):Inv { X with N:=N' } pins σ H s:=by
 refine⟨⟨I.ok.mod,I.ok.kind,I.ok.glob,I.ok.blt,I.ok.above,I.ok.inj,I.ok.has,I.ok.cab,I.ok.hd,I.ok.frames,I.ok.stk,I.ok.vK,I.ok.bs,I.ok.jm,I.ok.oZ,I.ok.qy,I.ok.iz,I.ok.lU⟩,I.os,I.bare,I.base,?_,I.cell,I.free,I.fQ,I.pin,I.hok,I.len.trans r.len.symm⟩
 obtain⟨m,h1,h2⟩:=I.loc
 refine⟨m,h1,λi x v hi hs Bo=>?_⟩
 rcases r.old i x hi with h|h
 . exact h2 i x v h hs Bo
 . exact absurd Bo h
theorem Inv.ag2 {pins:List (Addr × Obj)}{σ:St}{H:Hp}{s:Shared}(r:ug X N')(hσ:∀(i:Nat) v,X.N[i]? ≠N'[i]? ->σ[i]? ≠some (some v))(I:Inv { X with N:=N' } pins σ H s):Inv X pins σ H s:=by
 refine⟨⟨I.ok.mod,I.ok.kind,I.ok.glob,I.ok.blt,I.ok.above,I.ok.inj,I.ok.has,I.ok.cab,I.ok.hd,I.ok.frames,I.ok.stk,I.ok.vK,I.ok.bs,I.ok.jm,I.ok.oZ,I.ok.qy,I.ok.iz,I.ok.lU⟩,I.os,I.bare,I.base,?_,I.cell,I.free,I.fQ,I.pin,I.hok,I.len.trans r.len⟩
 obtain⟨m,h1,h2⟩:=I.loc
 refine⟨m,h1,λi x v hi hs Bo=>?_⟩
 by_cases hn:X.N[i]? =N'[i]?
 . exact h2 i x v (by rw[<-hn];exact hi) hs Bo
 . exact absurd hs (hσ i v hn)
noncomputable def ag3 (N N':List Str) (t:TE):TE:=λσ H Q=>(∀(i:Nat) v,N[i]? ≠N'[i]? ->σ[i]? ≠some (some v))/\t σ H Q
theorem ag4 (r:ug X N')(h:PE { X with N:=N' } e t):PE X e (ag3 X.N N' t):=by
 intro pins s σ H Q I q
 refine aP (h pins s σ H Q (I.ren r) q.2) λv s1 ⟨x,H1,I1,r1,q1⟩=>?_
 exact⟨x,H1,I1.ag2 r q.1,r1,q1⟩
theorem ug.of {N:List Str}{sc:Scope}(hN:X.N=N)(hs:X.env.scope=sc)(hl:N'.length=N.length)(hb:(List.zip N' N).all (λp=>p.1 == p.2 || ((sc.names.lookup p.1 != some .local) && (sc.names.lookup p.1 != some .cell) && (sc.names.lookup p.1 != some .free)))=true):ug X N':=by
 subst hN
 subst hs
 refine⟨hl,λi y hy=>?_⟩
 have hi:=(List.getElem?_eq_some_iff.mp hy).1
 have hx:X.N[i]? =some (X.N[i]'(by omega)):=Q05 _
 have hm:(y,X.N[i]'(by omega))∈List.zip N' X.N:=by
  refine Q0v (i:=i) ?_
  rw[Q2d]
  exact⟨hy,hx⟩
 have:=List.all_eq_true.mp hb _ hm
 simp only[Bool.or_eq_true,Bool.and_eq_true,beq_iff_eq,bne_iff_ne] at this
 rcases this with h|⟨⟨h1,h2⟩,h3⟩
 . exact .inl (by rw[hx,h])
 . exact .inr λz=>z.elim h1 λz=>z.elim h2 h3
end
end L2
namespace Pb
open PySem L2
noncomputable def Fs.cu:Fs->Prop
 | .nil=>True
 | .cons _ k r=>gw k/\r.cu
theorem Fs.YL {x:Str}{k:Kd}(hk:gw k):∀{fs:Fs},fs.cu->(fs.snoc x k).cu
 | .nil,_=>⟨hk,trivial⟩
 | .cons _ _ _,h=>⟨h.1,Fs.YL hk h.2⟩
theorem gw.W:∀{k:Kd},gw k->k.W
 | .num,_=>by unfold Kd.W;trivial
 | .eO,_=>by unfold Kd.W;trivial
theorem Fs.cu.W:∀{fs:Fs},fs.cu->fs.W
 | .nil,_=>by unfold Fs.W;trivial
 | .cons _ _ _,h=>by unfold Fs.W;exact⟨h.1.W,Fs.cu.W h.2⟩
theorem Fs.uh:∀{fs:Fs}{i:Nat}{x:Str}{k:Kd},fs.cu->fs.at i=some (x,k)->gw k
 | .nil,_,_,_,_,h=>by cases h
 | .cons _ _ _,0,_,_,w,h=>by cases h;exact w.1
 | .cons _ _ r,i+1,_,_,w,h=>Fs.uh (fs:=r) (i:=i) w.2 h
noncomputable def YM (K:W.Frag):Sp:=λvs H Q _=>∃a b ns n,vs=[.ref a,.ref b,.int 0]/\G0 K H a b ns n/\n+2<=1000000000000/\
 ∀(v:V) (k:Kd) (n':Int) (H':Hp),SB b H H'->H' b=some (.lst [.int n'])->n<=n'->n'<=n+2->KA H' v k->gw k->Q v H'
noncomputable def YQ (K:W.Frag):Sp:=λvs H Q _=>∃a b ns n,∃m:Nat,vs=[.ref a,.ref b,.int m,.int 0]/\m<=8/\G0 K H a b ns n/\n+17<=1000000000000/\
 ∀(t:Addr) (xs:List V) (fs:Fs) (n':Int) (H':Hp),SB b H H'->H' b=some (.lst [.int n'])->n<=n'->n'<=n+17->H' t=some (.tup xs)->FA H' xs fs->fs.names.Nodup->fs.names.length=m->fs.cu->fs.names.Pairwise sle->(∀x∈fs.names,x≠"qzqzqz")->Q (.ref t) H'
variable {P:Program}{w:World}{K:W.Frag}{mg:Str->Option Value}{base:Heap}
theorem YS:bC ["_law_script","_law_at","_law_deep","_law_m"] ["_law_script","_law_at","_law_deep"] (aL (top 70)):=by refine⟨rfl,rfl,rfl,?_,rfl,?_,?_⟩ <;> decide +kernel
theorem ag5 (T:Tb mg)(um:Dn K mg "_law_kind" Ar (top 70) Hy Hz)(dh:Dn K mg "_law_next" cR (top 63) gO gP)(fX:aq P w K mg base aC (1) gO gP cR (nR K))(ud:Dn K mg "_law_plain" cR (top 67) Hr Hs)(ag6:aq P w K mg base aC (2) Hr Hs cR (Yx K)):aq P w K mg base aC (4) Hy Hz Ar (YM K):=by
 refine um.F.ok YS (λvs H Q E h=>?_) (λcdv A outer s H vs Q E hr h=>?_)
 . obtain⟨a,b,ns,n,rfl,_⟩:=h
   rfl
 obtain⟨a,b,ns,n,rfl,g,hn,q⟩:=h
 have nd:=YS.nd
 refine⟨_,(ao (bf (i:=3) nd rfl (Or.inl rfl) (aR fX (hr.mono (by decide)) dh (aj (pv 0) (aj (pv 1) ak))))
  (ao (aV (PW.pt (jq (aW adC (pv 2) aH (aQ _)) (jo zW))) (aB (aN (aR ag6 (hr.mono (by decide)) ud (aj (pv 0) (aj (pv 1) ak))))) aU) adf)),?_⟩
 refine⟨_,rfl,_,rfl,a,b,ns,n,rfl,g,by omega,λr H1 r0 r1 s1 h1=>?_⟩
 refine⟨_,rfl,_,_,rfl,rfl,_,rfl,?_⟩
 refine eN (λc=>bR ?_) (λc=>(c (by decide)).elim)
 refine⟨_,rfl,_,rfl,a,b,ns,n+1,rfl,g.go s1 h1 (by omega),by omega,λv k H2 s2 h2 hk hp=>?_⟩
 exact q v k (n+1+1) H2 (s1.trans s2) h2 (by omega) (by omega) hk hp
theorem YT:bC ["_law_script","_law_at","_law_many","_law_deep"] ["_law_script","_law_at","_law_many","_law_deep"] (aL (top 68)):=by refine⟨rfl,rfl,rfl,?_,rfl,?_,?_⟩ <;> decide +kernel
theorem ag7 (T:Tb mg)(uo:Dn K mg "_law_fields" Av (top 68) HF HN)(nZ:Dn K mg "_law_names" tX (top 66) xr xu)(HS:aq P w K mg base aC (2) xr xu tX (Hu K))(um:Dn K mg "_law_kind" Ar (top 70) Hy Hz)(ag8:aq P w K mg base aC (4) Hy Hz Ar (YM K)):aq P w K mg base aC (5) HF HN Av (YQ K):=by
 refine uo.F.ok YT (λvs H Q E h=>?_) (λcdv A outer s H vs Q E hr h=>?_)
 . obtain⟨a,b,ns,n,m,rfl,_⟩:=h
   rfl
 obtain⟨a,b,ns,n,m,rfl,hm,g,hn,q⟩:=h
 have nd:=YT.nd
 refine⟨_,(aB (aN (iZ Wh (by rfl) T.mC boot_tuple (aj (jc (g:=(cL 0)) (tt:=gn) (te:=(pB (cj (bB 0) (cj (pC _ _ _ (cj (bB 1) (cj (bB 2) (cj (bB 4) gj)))) gj)))) (own:=["_law_name"]) rfl (dw.of (N:=["_law_script","_law_at","_law_many","_law_deep"]) (sc:=aL (top 68)) rfl rfl rfl (by decide +kernel)) (o_ (aR HS (hr.mono (by decide)) nZ (aj (pv 0) (aj (pv 1) (aj (pv 2) ak))))) (λ_ _ _ _ _=>(bH (i:=0) (show(["_law_name","_law_script","_law_at","_law_many","_law_deep"]:List Str).Nodup by decide +kernel) rfl (Or.inl rfl) (.inr rfl))) (λ_ _ _ _ _=>i_) (λ_ _ _ _ _=>(cQ (aj (pv 0) (aj (aR ag8 (hr.mono (by decide)) um (aj (pv 1) (aj (pv 2) (aj (pv 4) ak)))) ak))))) ak)))),?_⟩
 have hn2:n<=1000000000000:=by omega
 refine⟨_,rfl,_,rfl,_,rfl,a,b,ns,n,m,rfl,by omega,g,hn2,λp ss H1 s1 h1 hpb hp hl hnd hsr xG=>?_⟩
 refine⟨p,rfl,⟨_,aG.of hp⟩,λi m' ys H'=>m'=ss.length - i/\i<=ss.length/\∃(fs:Fs) (n':Int),SB b H H'/\H' b=some (.lst [.int n'])/\n<=n'/\n'<=n+1+i * 2/\H' p=some (.lst (ss.map V.str))/\FA H' ys fs/\fs.names=ss.take i/\ys.length=i/\fs.cu,
  ⟨_,rfl,Q0b _,.nil,n+1,s1,h1,by omega,by omega,hp,by unfold FA;rfl,by simp[Fs.names],rfl,trivial⟩,?_⟩
 rintro i m' ys H' ⟨rfl,hile,fs,n',sb,hb',z1,z2,hp',hf,hnm,hy,hW⟩
 by_cases hi:i<ss.length
 . refine .inr ⟨⟨_,.str ss[i],aG.of hp',by rw[Q0g,Q05 hi];rfl⟩,cW (by omega),λx gM y=>?_⟩
   obtain⟨rfl,y⟩:=y
   have hx:=y _ (aG.of hp')
   have ex:x=.str ss[i]:=by
    rw[Q0g,Q05 hi] at hx
    exact(Option.some.inj hx).symm
   subst ex
   refine⟨rfl,yes (bR ?_)⟩
   refine⟨_,rfl,_,rfl,_,rfl,_,rfl,a,b,ns,n',rfl,g.go sb hb' z1,by omega,λv k n'' H2 s2 h2 y1 y2 hk hkW=>?_⟩
   refine⟨cX,λt ht=>?_⟩
   have hne:t≠b:=λz=>by rw[z,h2] at ht;cases ht
   have Bp:Tu H2 (upd H2 t (.tup [.str ss[i],v])):=Tu.of (λc o h=>by rw[au (aO h ht)];exact h)
   have tu:Tu gM (upd H2 t (.tup [.str ss[i],v])):=(s2.tu hb').trans Bp
   refine⟨_,Nat.sub_lt_sub_left hi (Q1c i),rfl,hi,fs.snoc ss[i] k,n'',sb.trans (s2.trans (SB.new ht)),by rw[au (Ne.symm hne)];exact h2,by omega,by omega,?_,FA.snoc aF (KA.mono Bp k hk) fs (FA.mono tu fs hf),?_,?_,Fs.YL hkW hW⟩
   . have h3:=s2 p _ hpb hp'
     rw[au (aO h3 ht)];exact h3
   . rw[Fs.Xq,hnm,Q0p,Q05 hi];rfl
   . rw[Q09,hy];rfl
 . have ei:i=m:=by omega
   subst ei
   refine .inl ⟨⟨_,aG.of hp',by rw[Q06];omega⟩,λp' hp2=>?_⟩
   refine⟨p',ys,rfl,.inl ⟨aG.of aF,λt ht=>?_⟩⟩
   have ahb:p'≠b:=λz=>by rw[z,hb'] at hp2;cases hp2
   have hb2:upd H' p' (.lst ys) b=some (.lst [.int n']):=by rw[au (Ne.symm ahb)];exact hb'
   have tu:Tu H' (upd (upd H' p' (.lst ys)) t (.tup ys)):=λc xs h=>by
    rw[au (aO (show upd H' p' (.lst ys) c=some (.tup xs) by rw[au (aO h hp2)];exact h) ht),au (aO h hp2)];exact h
   have hst:ss.take i=ss:=by rw[<-hl,Q1a]
   refine q t ys fs n' _ (sb.trans ((SB.new hp2).trans (SB.new ht))) (by rw[au (aO hb2 ht)];exact hb2) z1 (by omega) aF (FA.mono tu fs hf) ?_ ?_ hW (by rw[hnm,hst];exact hsr) (by rw[hnm,hst];exact xG)
   . rw[hnm,hst];exact hnd
   . rw[hnm,hst];exact hl
noncomputable def dH:Kd->V->Prop
 | .num,v=>∃z,v=.int z
 | .eO,v=>∃s,v=.str s
 |_,_=>False
noncomputable def aK (f:Str->V) (l:List Str):List (Key × V):=l.map λx=>(Sum.inr x,f x)
theorem gD (f:Str->V)(l:List Str):(aK f l).length=l.length:=Q06 _
theorem gQ (f:Str->V):∀(l:List Str) (x:Str),dR (aK f l) (Sum.inr x)=if x∈l then some (f x) else none
 |[],x=>rfl
 |y::r,x=>by
  show dR ((Sum.inr y,f y)::aK f r) (Sum.inr x)=_
  by_cases e:y=x
  . subst e
    rw[v5 rfl,if_pos Q0f]
  . rw[tK (λz=>e (Sum.inr.inj z)),gQ f r x]
    by_cases h:x∈r
    . rw[if_pos h,if_pos (Q0j _ h)]
    . rw[if_neg h,if_neg (λz=>(List.mem_cons.mp z).elim (λz=>e z.symm) h)]
theorem ahc (f:Str->V)(l:List Str):(aK f l).map (·.1)=l.map Sum.inr:=by unfold aK;rw[Q1w];rfl
theorem YW {f:Str->V}{l:List Str}(h:l.Nodup):((aK f l).map (·.1)).Nodup:=by
 rw[ahc]
 exact List.Pairwise.map _ (λa b h z=>h (Sum.inr.inj z)) h
theorem YX {f g:Str->V}{l:List Str}(h:∀x∈l,f x=g x):aK f l=aK g l:=by
 unfold aK
 exact Q1q λx hx=>by rw[h x hx]
noncomputable def dz (f:Str->V) (x:Str) (v:V):Str->V:=λy=>if y=x then v else f y
theorem HW {f:Str->V}{l:List Str}{i:Nat}{x:Str}(h:l[i]? =some x):(aK f l)[i]? =some (Sum.inr x,f x):=by
 unfold aK;rw[Q0g,h];rfl
theorem Bq {f:Str->V}{l:List Str}{x:Str}(v:V)(h:x∈l):putK (aK f l) (Sum.inr x) v=aK (dz f x v) l:=by
 unfold putK
 rw[if_pos]
 . unfold aK
   rw[Q1w]
   refine Q1q λy _=>?_
   show(if Sum.inr y=(Sum.inr x:Key) then _ else _)=_
   unfold dz
   by_cases e:y=x
   . subst e;simp
   . simp[e]
 . simp only[Q2x]
   exact⟨(Sum.inr x,f x),List.mem_map.mpr ⟨x,h,rfl⟩,by simp⟩
noncomputable def HX (K:W.Frag):Sp:=λvs H Q _=>∃a b ns n kv k,∃room:Int,vs=[.ref a,.ref b,kv,.int room]/\G0 K H a b ns n/\n<=1000000000000/\KA H kv k/\gw k/\
 ∀(v:V) (H':Hp),SB b H H'->H' b=some (.lst [.int (n+1)])->dH k v->Q v H'
noncomputable def YZ (K:W.Frag):Sp:=λvs H Q _=>∃a b ns n kk t xs fs,∃room:Int,vs=[.ref a,.ref b,.ref kk,.int room]/\G0 K H a b ns n/\n+12<=1000000000000/\H kk=some (.tup [.str "record",.ref t])/\H t=some (.tup xs)/\FA H xs fs/\fs.cu/\fs.names.Nodup/\fs.names.length<=8/\
 ∀(p:Addr) (f:Str->V) (n':Int) (H':Hp),SB b H H'->H' b=some (.lst [.int n'])->n<=n'->n'<=n+8->H p=none->H' p=some (.dK (aK f fs.names))->(∀i nm k,fs.at i=some (nm,k)->dH k (f nm))->Q (.ref p) H'
theorem Br:bC ["_law_script","_law_at","_law_kind_here","_law_room","_law_m","_law_top","_law_name","_law_inner"] ["_law_script","_law_at","_law_kind_here","_law_room"] (aL (top 73)):=by refine⟨rfl,rfl,rfl,?_,rfl,?_,?_⟩ <;> decide +kernel
theorem ahd (T:Tb mg)(jz:Dn K mg "_law_value" nO (top 73) pU pW)(nU:Dn K mg "_law_number" cR (top 64) wZ w5)(HY:aq P w K mg base aC (2) wZ w5 cR (Ho K))(nW:Dn K mg "_law_word" cR (top 65) w6 xg)(H_:aq P w K mg base aC (2) w6 xg cR (Hq K)):aq P w K mg base aC (3) pU pW nO (HX K):=by
 refine jz.F.ok Br (λvs H Q E h=>?_) (λcdv A outer s H vs Q E hr h=>?_)
 . obtain⟨a,b,ns,n,kv,k,room,rfl,_⟩:=h
   rfl
 obtain⟨a,b,ns,n,kv,k,room,rfl,g,hn,hk,hp,q⟩:=h
 have nd:=Br.nd
 refine⟨_,(ao (aV (aW bA (aZ bF (pv 2) aH (λ_ _=>rfl)) bh (aQ _)) (aB (aN (aR HY (hr.mono (by decide)) nU (aj (pv 0) (aj (pv 1) ak))))) aU)
  (ao (aV (aW bA (aZ bF (pv 2) aH (λ_ _=>rfl)) bh (aQ _)) (aB (aN (aR H_ (hr.mono (by decide)) nW (aj (pv 0) (aj (pv 1) ak))))) aU)
  (ao aM
  (ao aM
  (ao aM
  (ao aM
  (ao aM
  (aB aM)))))))),?_⟩
 cases k with
 |num=>
  unfold KA at hk
  obtain⟨c,rfl,hc⟩:=hk
  refine Gk rfl hc rfl (by decide +kernel) ?_
  exact⟨_,rfl,_,rfl,a,b,ns,n,rfl,g,hn,λz H1 s1 h1=>q _ _ s1 h1 ⟨z,rfl⟩⟩
 |eO=>
  unfold KA at hk
  obtain⟨c,rfl,hc⟩:=hk
  refine Gm rfl hc rfl (by decide +kernel) ?_
  refine Gk rfl hc rfl (by decide +kernel) ?_
  exact⟨_,rfl,_,rfl,a,b,ns,n,rfl,g,hn,λz H1 s1 h1=>q _ _ s1 h1 ⟨z,rfl⟩⟩
 |_=>exact hp.elim
theorem ahe (T:Tb mg)(jz:Dn K mg "_law_value" nO (top 73) pU pW)(xH:aq P w K mg base aC (3) pU pW nO (HX K))(nU:Dn K mg "_law_number" cR (top 64) wZ w5)(HY:aq P w K mg base aC (2) wZ w5 cR (Ho K))(nW:Dn K mg "_law_word" cR (top 65) w6 xg)(H_:aq P w K mg base aC (2) w6 xg cR (Hq K)):aq P w K mg base aC (4) pU pW nO (YZ K):=by
 refine jz.F.ok Br (λvs H Q E h=>?_) (λcdv A outer s H vs Q E hr h=>?_)
 . obtain⟨a,b,ns,n,kk,t,xs,fs,room,rfl,_⟩:=h
   rfl
 obtain⟨a,b,ns,n,kk,t,xs,fs,room,rfl,g,hn,hkk,ht,hfa,hpl,hnd,h8,q⟩:=h
 have nd:=Br.nd
 refine⟨_,(ao (aV (aW bA (aZ bF (pv 2) aH (λ_ _=>rfl)) bh (aQ _)) (aB (aN (aR HY (hr.mono (by decide)) nU (aj (pv 0) (aj (pv 1) ak))))) aU)
  (ao (aV (aW bA (aZ bF (pv 2) aH (λ_ _=>rfl)) bh (aQ _)) (aB (aN (aR H_ (hr.mono (by decide)) nW (aj (pv 0) (aj (pv 1) ak))))) aU)
  (ao (aV (aW bA (aZ bF (pv 2) aH (λ_ _=>rfl)) bh (aQ _)) (aB (aN (ag4 (N':=["_law_script","_law_at","_law_kind_here","_law_room","_law_m","_law_top","~6","~7"]) (ug.of (N:=["_law_script","_law_at","_law_kind_here","_law_room","_law_m","_law_top","_law_name","_law_inner"]) (sc:=aL (top 73)) rfl rfl rfl (by decide +kernel)) (iZ (X3 rfl) (by rfl) T.g_ boot_dict (aj (jc (g:=(qF K 2 (jr (cL 0) (jr (cL 1) qD)))) (tt:=gn) (te:=(pB (cj (bB 0) (cj (pC _ _ _ (cj (bB 2) (cj (bB 3) (cj (bB 1) (cj (bB 5) gj))))) gj)))) (own:=["_law_name","_law_inner"]) rfl (dw.of (N:=["_law_script","_law_at","_law_kind_here","_law_room","_law_m","_law_top","~6","~7"]) (sc:=aL (top 73)) rfl rfl rfl (by decide +kernel)) (lg (aZ bF (pv 2) aH (λ_ _=>rfl))) (λ_ _ _ _ _=>(gh rfl (cF (bH (i:=0) (show(["_law_name","_law_inner","_law_script","_law_at","_law_kind_here","_law_room","_law_m","_law_top","~6","~7"]:List Str).Nodup by decide +kernel) rfl (Or.inl rfl) (.inr rfl)) (cF (bH (i:=1) (show(["_law_name","_law_inner","_law_script","_law_at","_law_kind_here","_law_room","_law_m","_law_top","~6","~7"]:List Str).Nodup by decide +kernel) rfl (Or.inl rfl) (.inr rfl)) f9)))) (λ_ _ _ _ _=>i_) (λ_ _ _ _ _=>(cQ (aj (pv 0) (aj (aR xH (hr.mono (by decide)) jz (aj (pv 2) (aj (pv 3) (aj (pv 1) (aj (pv 5) ak))))) ak))))) ak))))) aU)
  (ao aM
  (ao aM
  (ao aM
  (ao aM
  (aB aM)))))))),?_⟩
 refine Gm rfl hkk rfl (by decide +kernel) ?_
 refine Gm rfl hkk rfl (by decide +kernel) ?_
 refine Gk rfl hkk rfl (by decide +kernel) ?_
 have xJ:xs.length=fs.names.length:=FA.len fs hfa
 refine⟨λi v hne=>?_,?_⟩
 . match i with
   |0=>exact absurd rfl hne
   |1=>exact absurd rfl hne
   |2=>exact absurd rfl hne
   |3=>exact absurd rfl hne
   |4=>exact absurd rfl hne
   |5=>exact absurd rfl hne
   |6=>exact λz=>by cases z
   |7=>exact λz=>by cases z
   |i+8=>exact absurd rfl hne
 dsimp only[Et,zM,cj]
 refine⟨_,rfl,kk,_,_,_,rfl,rfl,aD.of hkk,rfl,t,rfl,⟨_,aD.of ht⟩,λi m ys H'=>m=xs.length - i/\i<=xs.length/\∃(ts:List Addr) (f:Str->V) (n':Int),ys=ts.map V.ref/\ts.length=i/\SB b H H'/\H' b=some (.lst [.int n'])/\n<=n'/\n'<=n+i/\(∀(j:Nat) c nm k,ts[j]? =some c->fs.at j=some (nm,k)->H' c=some (.tup [.str nm,f nm])/\dH k (f nm)),
  ⟨_,rfl,Q0b _,[],λ_=>.non,n,rfl,rfl,SB.refl _ _,g.at_,by omega,by omega,λj c nm k h=>by simp at h⟩,?_⟩
 rintro i m ys H' ⟨rfl,hile,ts,f,n',rfl,htl,sb,hb',z1,z2,hat⟩
 have tu:Tu H H':=sb.tu g.at_
 by_cases hi:i<xs.length
 . refine .inr ⟨⟨xs,xs[i],aD.of (tu _ _ ht),Q05 hi⟩,by rw[Q06];exact cW (by omega),λx gM y=>?_⟩
   obtain⟨rfl,y⟩:=y
   obtain⟨c,u,nm,k,rfl,Ia,hc,hk⟩:=FA.get fs hfa (y xs (aD.of (tu _ _ ht)))
   refine⟨c,_,rfl,aD.of (tu _ _ hc),rfl,_,_,rfl,_,_,rfl,rfl,rfl,yes (bR ?_)⟩
   refine⟨_,rfl,_,rfl,_,rfl,_,rfl,_,rfl,a,b,ns,n',u,k,room,rfl,g.go sb hb' z1,by omega,KA.mono tu k hk,Fs.uh hpl Ia,λv H2 s2 h2 hv=>⟨cX,λt2 jZ=>?_⟩⟩
   have s3:=Same.new jZ (o:=.tup [.str nm,v])
   have nmi:fs.names[i]? =some nm:=by rw[Fs.gZ,Ia];rfl
   refine⟨xs.length - (i+1),by omega,rfl,hi,ts++[t2],dz f nm v,n'+1,by rw[Q0k];rfl,by rw[Q09,htl];rfl,sb.trans (s2.trans (SB.of s3)),s3 _ _ h2,by omega,by omega,λj c' nm' k' hj Bs=>?_⟩
   by_cases hji:j<ts.length
   . rw[Q0t hji] at hj
     obtain⟨h1,h2'⟩:=hat j c' nm' k' hj Bs
     have hne:nm'≠nm:=λz=>by
      have e1:fs.names[j]? =some nm':=by rw[Fs.gZ,Bs];rfl
      have:=(List.getElem?_inj (by have:=(List.getElem?_eq_some_iff.mp e1).1;exact this) hnd).mp (e1.trans (by rw[z];exact nmi.symm))
      omega
     unfold dz
     rw[if_neg hne]
     exact⟨s3 _ _ ((s2.tu hb') _ _ h1),h2'⟩
   . have hjl:=(List.getElem?_eq_some_iff.mp hj).1
     rw[Q09] at hjl
     have ej:j=i:=by simp at hjl;omega
     subst ej
     rw[Q0q (by omega),htl,Q1x] at hj
     have hj:some t2=some c':=hj
     cases hj
     rw[Ia] at Bs
     cases Bs
     unfold dz
     rw[if_pos rfl]
     exact⟨aF,hv⟩
 . have ei:i=xs.length:=by omega
   refine .inl ⟨⟨_,aD.of (tu _ _ ht),by omega⟩,λp' hp2=>?_⟩
   have s3:=Same.new hp2 (o:=.lst (ts.map V.ref))
   refine⟨p',ts,aK f fs.names,rfl,aG.of aF,by rw[gD];omega,λj c p hj hpj=>?_,YW hnd,by rw[gD];omega,λl hl=>?_⟩
   . have hjl:j<fs.names.length:=by have:=(List.getElem?_eq_some_iff.mp hj).1;omega
     obtain⟨nm,k,e⟩:=Fs.Xr hjl
     rw[HW (by rw[Fs.gZ,e];rfl)] at hpj
     cases hpj
     exact s3 _ _ (hat j c nm k hj e).1
   . have s4:=Same.new hl (o:=.dK (aK f fs.names))
     refine q l f n' _ (sb.trans (SB.of (s3.trans s4))) (s4 _ _ (s3 _ _ hb')) z1 (by omega) ?_ aF λj nm k e=>?_
     . cases e:H l with
       |none=>rfl
       |some o=>
        by_cases hlb:l=b
        . rw[hlb,s3 _ _ hb'] at hl;cases hl
        . rw[s3 _ _ (sb _ _ hlb e)] at hl;cases hl
     . have hjl:j<ts.length:=by
        have e1:fs.names[j]? =some nm:=by rw[Fs.gZ,e];rfl
        have:=(List.getElem?_eq_some_iff.mp e1).1
        omega
       exact(hat j ts[j] nm k (Q05 hjl) e).2
end Pb
namespace Pb
open PySem L2 PyProof.Rows
theorem _root_.L2.bw.tab {P:Addr}{lp:Pos}{ql:Str}{H:Hp}(h:bw P lp ql H):∃ps,H P=some (.dF ps):=by
 rcases h with e|⟨c,e,_⟩ <;> exact⟨_,e⟩
theorem _root_.L2.bw.keep {P:Addr}{lp:Pos}{ql:Str}{H H':Hp}(h:bw P lp ql H)(k:∀c o,(∀xs,o≠ .lst xs)->H c=some o->H' c=some o):bw P lp ql H':=by
 rcases h with e|⟨c,e,f⟩
 . exact .inl (k _ _ (by intro xs z;cases z) e)
 . exact .inr ⟨c,k _ _ (by intro xs z;cases z) e,k _ _ (by intro xs z;cases z) f⟩
theorem _root_.L2.bw.same {P:Addr}{lp:Pos}{ql:Str}{H H':Hp}(h:bw P lp ql H)(s:Same H H'):bw P lp ql H':=h.keep λc o _ e=>s c o e
theorem _root_.L2.bw.sb {P b:Addr}{lp:Pos}{ql:Str}{H H':Hp}{l:List V}(h:bw P lp ql H)(hb:H b=some (.lst l))(s:SB b H H'):bw P lp ql H':=
 h.keep λc o ho e=>s c o (kO e hb (ho l)) e
theorem KA.Ib {H:Hp}:∀{u:V}{k:Kd},KA H u k->u≠ .non
 |_,.num,h=>by unfold KA at h;obtain⟨a,rfl,_⟩:=h;intro z;cases z
 |_,.eO,h=>by unfold KA at h;obtain⟨a,rfl,_⟩:=h;intro z;cases z
 |_,.wK _,h=>by unfold KA at h;obtain⟨a,b,vs,rfl,_⟩:=h;intro z;cases z
 |_,.rows _ _ _,h=>by unfold KA at h;obtain⟨a,b,vs,rfl,_⟩:=h;intro z;cases z
 |_,.tree _,h=>by unfold KA at h;obtain⟨a,b,rfl,_⟩:=h;intro z;cases z
 |_,.wM _,h=>by unfold KA at h;obtain⟨a,b,vs,rfl,_⟩:=h;intro z;cases z
theorem Fs.get_mem:∀{fs:Fs}{x:Str}{k:Kd},fs.get x=some k->x∈fs.names
 | .nil,_,_,h=>by cases h
 | .cons y q r,x,k,h=>by
   have h:(if x=y then some q else r.get x)=some k:=h
   by_cases e:x=y
   . rw[e];exact Q0f
   . rw[if_neg e] at h
     exact Q0j _ (Fs.get_mem h)
noncomputable def Bt:Sp:=λvs H Q _=>∃b x xs fs k,vs=[.ref b,.str x]/\H b=some (.tup xs)/\FA H xs fs/\fs.names.Nodup/\fs.get x=some k/\∀u,KA H u k->u≠ .non->Q u H
variable {P:Program}{w:World}{K:W.Frag}{mg:Str->Option Value}{base:Heap}
theorem Bu:bC ["fields","name","pair"] ["fields","name"] (aL (top 12)):=by refine⟨rfl,rfl,rfl,?_,rfl,?_,?_⟩ <;> decide +kernel
theorem ahg (T:Tb mg)(iI:Dn K mg "kind_at" mF (top 12) n8 n_):aq P w K mg base aC (1) n8 n_ mF (Bt):=by
 refine iI.F.ok Bu (λvs H Q E h=>?_) (λcdv A outer s H vs Q E hr h=>?_)
 . obtain⟨b,x,xs,fs,k,rfl,_⟩:=h
   rfl
 obtain⟨b,x,xs,fs,k,rfl,hb,hfa,hnd,hget,q⟩:=h
 have nd:=Bu.nd
 refine⟨_,(ao (iW PassesOwn.never rfl (lg (pv 0)) (bH (i:=2) nd rfl (Or.inl rfl)) (aB (aV (aW bA (aZ bF (pv 2) aH (λ_ _=>rfl)) (pv 1) (aQ _)) (aB (aN (aZ bF (pv 2) aH (λ_ _=>rfl)))) aU)))
  (aB (aN cD))),?_⟩
 refine⟨_,rfl,b,rfl,⟨_,aD.of hb⟩,sZ (xs:=xs) (λi σ H'=>H'=H/\(∃z,σ=[some (.ref b),some (.str x),z])/\∀j,j<i->fs.names[j]? ≠some x) ⟨rfl,⟨_,rfl⟩,λj hj=>absurd hj (by omega)⟩ ?_ ?_ ?_⟩
 . rintro i σ H' _ ⟨rfl,_⟩
   exact aD.of hb
 . rintro i v σ H' hv ⟨rfl,⟨z,rfl⟩,hno⟩
   obtain⟨c,u,nm,k',rfl,hat,hc,hk⟩:=FA.get fs hfa hv
   have hnm:fs.names[i]? =some nm:=by rw[Fs.gZ,hat];rfl
   refine⟨_,rfl,c,_,_,_,rfl,rfl,aD.of hc,rfl,_,rfl,rfl,_,rfl,eN (λcc=>?_) (λcc=>?_)⟩
   . have e:nm=x:=by
      have:=of_decide_eq_true cc
      injection this
     subst e
     have ek:=Fs.qU hnd hat
     rw[hget] at ek
     cases ek
     exact⟨_,rfl,c,_,_,_,rfl,rfl,aD.of hc,rfl,q u hk hk.Ib⟩
   . refine⟨rfl,⟨_,rfl⟩,λj hj=>?_⟩
     by_cases e:j<i
     . exact hno j e
     . have:j=i:=by omega
       subst this
       rw[hnm]
       intro z
       cases z
       exact cc (decide_eq_true rfl)
 . rintro σ H' ⟨rfl,_,hno⟩
   obtain⟨j,hj,e⟩:=Q19 (Fs.get_mem hget)
   exact absurd (by rw[Q05 hj,e]) (hno j (by rw[FA.len fs hfa];exact hj))
noncomputable def ahh (st:Stmt):Pos:=match dW st with
 | .Assign _ (.Call _ [.Call _ _ [⟨_,.Lambda _ _ _ lp,_⟩] _] _ _) _::_=>lp
 |_=>⟨0,0,0,0⟩
noncomputable abbrev bK:Pos:=ahh (top 13)
noncomputable abbrev bL:Str:=("sorted_fields":Str)++".<locals>."++"<lambda>"
noncomputable abbrev d9 (Pt:Addr) (H H':Hp):Prop:=Kp (λc=>c=Pt) H H'
theorem d9.tu {Pt:Addr}{H H':Hp}{lp:Pos}{ql:Str}(x:d9 Pt H H')(hT:bw Pt lp ql H):Tu H H':=λc xs h=>by
 obtain⟨ps,hP⟩:=hT.tab
 exact x c _ (kO h hP (by intro z;cases z)) h
noncomputable def Y0 (K:W.Frag) (Pt:Addr):Sp:=λvs H Q E=>∃l qs,vs=[.ref l]/\aG K H l (dg qs)/\lD H qs/\qs.length<=13/\bw Pt bK bL H/\(nms qs).Nodup/\(nms qs).Pairwise sle/\
 (∀t H',d9 Pt H H'->bw Pt bK bL H'->H' t=some (.tup (dg qs))->Q (.ref t) H')
noncomputable def Y4 (K:W.Frag) (Pt:Addr):Sp:=λvs H Q E=>∃l qs,vs=[.ref l]/\aG K H l (dg qs)/\lD H qs/\qs.length<=13/\bw Pt bK bL H/\(nms qs).Nodup/\(nms qs).Pairwise sle/\
 (∀r t H',d9 Pt H H'->bw Pt bK bL H'->H' t=some (.tup (dg qs))->H' r=some (.tup [.str "record",.ref t])->Q (.ref r) H')
theorem ahi {qs:List Qd}{i:Nat}{v:V}(h:(dg qs)[i]? =some v):∃q,qs[i]? =some q/\q.1=v:=by
 have h:(qs.map (·.1))[i]? =some v:=h
 rw[Q0g] at h
 cases e:qs[i]? with
 |none=>rw[e] at h;cases h
 |some q=>rw[e] at h;exact⟨q,rfl,Option.some.inj h⟩
theorem xK (qs:List Qd):(dg qs).length=qs.length:=Q06 _
theorem Bv (qs:List Qd):(nms qs).length=qs.length:=Q06 _
noncomputable def q0:Qd:=(.non,"",false)
theorem ahj (qs:List Qd)(p:List Nat):dg (p.map λi=>qs.getD i q0)=p.map λi=>(dg qs).getD i .non:=by
 unfold dg
 rw[Q1w]
 refine Q1q λi _=>?_
 show(qs.getD i q0).1=_
 rw[Q0n,Q0n,Q0g]
 cases qs[i]? <;> rfl
theorem ahk (qs:List Qd){p:List Nat}(h:p.Perm (List.range qs.length)):(p.map λi=>qs.getD i q0).Perm qs:=by
 have:=h.map λi=>qs.getD i q0
 rw[Xa] at this
 exact this
theorem Bw {x:Str}{ss:List Str}:inV (.str x) (ss.map V.str)=decide (x∈ss):=by
 unfold inV
 rw[List.any_map]
 have:∀y:Str,((λy=>ni y (V.str x)) ∘ V.str) y=decide (y=x):=λy=>rfl
 induction ss with
 |nil=>rfl
 |cons y r ih=>
  rw[Q1d,ih,this]
  by_cases e:y=x
  . rw[decide_eq_true e,decide_eq_true (show x∈y::r by rw[e];exact Q0f)];rfl
  . rw[decide_eq_false e]
    by_cases h:x∈r
    . rw[decide_eq_true h,decide_eq_true (Q0j _ h)];rfl
    . rw[decide_eq_false h,decide_eq_false λz=>(List.mem_cons.mp z).elim (λz=>e z.symm) h];rfl
theorem Ie:∀{ss:List Str},(ss.map V.str).all m_=true
 |[]=>rfl
 |x::r=>by rw[Q0u,Q23,Ie];rfl
noncomputable def Fs.bU (ss:List Str):Fs->Fs
 | .nil=>.nil
 | .cons x k r=>if x∈ss then .cons x k (r.bU ss) else r.bU ss
noncomputable def fj (ss:List Str) (xs:List V) (ns:List Str):List V:=((xs.zip ns).filter λq=>decide (q.2∈ss)).map (·.1)
theorem FA.few {H:Hp}{ss:List Str}:∀{xs:List V}(fs:Fs),FA H xs fs->FA H (fj ss xs fs.names) (fs.bU ss)
 |xs,.nil,h=>by
  unfold FA at h
  subst h
  show FA H [] .nil
  unfold FA
  rfl
 |xs,.cons x k r,h=>by
  unfold FA at h
  obtain⟨c,u,vr,rfl,h1,h2,h3⟩:=h
  have ih:=FA.few (ss:=ss) r h3
  show FA H (fj ss (.ref c::vr) (x::r.names)) (if x∈ss then .cons x k (r.bU ss) else r.bU ss)
  unfold fj
  rw[List.zip_cons_cons,Q1l]
  by_cases e:x∈ss
  . rw[if_pos e,if_pos (decide_eq_true e),Q0u]
    unfold FA
    exact⟨c,u,_,rfl,h1,h2,ih⟩
  . rw[if_neg e,if_neg (by rw[decide_eq_false e];decide)]
    exact ih
theorem Fs.fu (ss:List Str):∀fs:Fs,(fs.bU ss).names=fs.names.filter λx=>decide (x∈ss)
 | .nil=>rfl
 | .cons x k r=>by
   show(if x∈ss then Fs.cons x k (r.bU ss) else r.bU ss).names=(x::r.names).filter _
   rw[Q1l]
   by_cases e:x∈ss
   . rw[if_pos e,if_pos (decide_eq_true e)]
     show x::(r.bU ss).names=_
     rw[Fs.fu ss r]
   . rw[if_neg e,if_neg (by rw[decide_eq_false e];decide)]
     exact Fs.fu ss r
theorem Fs.uq (ss:List Str):∀{fs:Fs}{x:Str},(fs.bU ss).get x=if x∈ss then fs.get x else none
 | .nil,x=>by
   show none=_
   split <;> rfl
 | .cons y k r,x=>by
   have ih:=Fs.uq ss (fs:=r) (x:=x)
   show(if y∈ss then Fs.cons y k (r.bU ss) else r.bU ss).get x=if x∈ss then(if x=y then some k else r.get x) else none
   by_cases e:y∈ss
   . rw[if_pos e]
     show(if x=y then some k else(r.bU ss).get x)=_
     by_cases z:x=y
     . rw[if_pos z,if_pos (by rw[z];exact e),if_pos z]
     . rw[if_neg z,ih,if_neg z]
   . rw[if_neg e,ih]
     by_cases z:x∈ss
     . rw[if_pos z,if_pos z,if_neg λq=>e (by rw[<-q];exact z)]
     . rw[if_neg z,if_neg z]
theorem Fs.Ig (ss:List Str):∀{fs:Fs},fs.W->(fs.bU ss).W
 | .nil,h=>h
 | .cons y k r,h=>by
   unfold Fs.W at h
   show(if y∈ss then Fs.cons y k (r.bU ss) else r.bU ss).W
   split
   . unfold Fs.W
     exact⟨h.1,Fs.Ig ss h.2⟩
   . exact Fs.Ig ss h.2
structure Dm (K:W.Frag) (x qual:Str) (ps:List Str) (st:Stmt) (f:Addr) (fd:FuncData):Prop where
 F:lC K x qual st f fd
 b:Binds K fd ps []
theorem Y5:bC ["pairs","fields","number","name"] ["pairs"] (aL (top 13)):=by refine⟨rfl,rfl,rfl,?_,rfl,?_,?_⟩ <;> decide +kernel
theorem ahl {Pt c:Addr}(T:Tb mg)(ur:Dn K mg "sorted_fields" nQ (top 13) Ih Bx)(hcode:Bx.code=.ref c)(hCd:W.CodeHd base c Pt)(wJ:BM mg base):aq P w K mg base aC (8) Ih Bx nQ (Y0 K Pt):=by
 refine ur.F.okL hcode Y5 (λvs H Q E h=>?_) (λA outer s H vs Q E hr h=>?_)
 . obtain⟨l,qs,rfl,_⟩:=h
   rfl
 obtain⟨l,qs,rfl,hl,hp,h13,hT,hnd,hso,q1⟩:=h
 have nd:=Y5.nd
 have hu:=eZ hr
 refine⟨_,(ao (bf (i:=1) nd rfl (Or.inl rfl) (iZ Wh (by rfl) T.mC boot_tuple (aj (afD (te:=(bJ (m9 K) (bB 0) (tC (.int 0)))) (x:="pair") (N':=["","","",""]) rfl T.Hj boot_sorted hr rfl rfl hCd wJ (tO.of (N:=["pairs","fields","number","name"]) (sc:=aL (top 13)) rfl rfl rfl rfl rfl (by decide +kernel)) rfl (λ_ _ _ _ _=>rfl) (pv 0) (λ_ _ _ _ _=>(aZ bF (pv 0) aH (λ_ _=>rfl)))) ak)))
  (ao (iW PassesOwn.never rfl (adp rfl T.wX (aj aH (aj (aY eY (by rfl) T.dU PySem.boot_len (aj (pv 1) ak)) ak))) (bH (i:=2) nd rfl (Or.inl rfl)) (ao (bf (i:=3) nd rfl (Or.inl rfl) (aZ bF (aZ bF (pv 1) (pv 2) (λ_ _=>rfl)) aH (λ_ _=>rfl)))
  (aB (aV (aW bA (pv 3) (aZ bF (aZ bF (pv 1) (aX Fg (pv 2) aH) (λ_ _=>rfl)) aH (λ_ _=>rfl)) (aQ _)) (aB aM) aU))))
  (aB (aN (pv 1))))),?_⟩
 refine⟨_,rfl,l,dg qs,rfl,hl,by rw[xK];omega,hT,λc' H2 hL2 mono=>?_⟩
 have oh:d9 Pt H H2:=λcc o hc e=>mono cc o hc e
 have hp2:lD H2 qs:=hp.mono (oh.tu hT)
 refine⟨λks H3=>H3=H2/\ks.length<=qs.length/\ks=((nms qs).map V.str).take ks.length,⟨rfl,Q0b _,rfl⟩,λks H3 hw=>by rw[hw.1];exact hL2,?_,?_⟩
 . rintro ks H3 yv ⟨rfl,hle,hks⟩ hy
   obtain⟨qq,hq,rfl⟩:=ahi hy
   obtain⟨cc,u,ec,hc,hk⟩:=hp2 qq (Q0v hq)
   obtain⟨qv,qn,qb⟩:=qq
   have ec:qv=.ref cc:=ec
   subst ec
   have hlt:ks.length<qs.length:=(List.getElem?_eq_some_iff.mp hq).1
   refine⟨_,rfl,cc,_,_,_,rfl,rfl,aD.of hc,rfl,rfl,by rw[Q09];exact hlt,?_⟩
   rw[Q09]
   show _=List.take (ks.length+1) _
   rw[Q0p,<-hks,Q0g]
   have:(nms qs)[ks.length]? =some qn:=by
    show(qs.map (·.2.1))[ks.length]? =_
    rw[Q0g,hq];rfl
   rw[this]
   rfl
 . rintro ks H3 ⟨rfl,_,hks⟩ hlen
   have hks:ks=(nms qs).map V.str:=by
    rw[hks,hlen,xK,Q1b (by rw[Q06,Bv];exact Q02 _)]
   refine⟨nms qs,hks,λp hpm hs D hD=>?_⟩
   rw[xK] at hpm
   rw[<-ahj]
   have hperm:=ahk qs hpm
   have ahn:(nms (p.map λi=>qs.getD i q0)).Pairwise sle:=by
    show((p.map λi=>qs.getD i q0).map (·.2.1)).Pairwise sle
    rw[Q1w,Q1s]
    rw[Q1s] at hs
    refine List.Pairwise.imp_of_mem (λ{i j} hi hj h=>?_) hs
    have ge:∀i∈p,((nms qs).map dM).getD i []=dM (qs.getD i q0).2.1:=λi hi=>by
     have hi':i<qs.length:=by
      have:=hpm.mem_iff.mp hi
      simpa using this
     unfold nms
     rw[Q0n,Q0n,Q0g,Q0g,Q05 hi']
     rfl
    rw[ge i hi,ge j hj] at h
    exact h
   have GF:(p.map λi=>qs.getD i q0)=qs:=afR hperm ahn hso hnd
   rw[GF]
   refine⟨D,dg qs,rfl,.inl ⟨aG.of aF,λt ht=>?_⟩⟩
   have sD:Same H3 (upd H3 D (.lst (dg qs))):=Same.new hD
   have s5:Same H3 (upd (upd H3 D (.lst (dg qs))) t (.tup (dg qs))):=sD.trans (Same.new ht)
   have Y6:d9 Pt H (upd (upd H3 D (.lst (dg qs))) t (.tup (dg qs))):=oh.trans (Kp.of s5)
   have hT5:bw Pt bK bL (upd (upd H3 D (.lst (dg qs))) t (.tup (dg qs))):=.inr ⟨c',hL2.mono λb o _ e=>s5 _ _ e⟩
   have xM:upd (upd H3 D (.lst (dg qs))) t (.tup (dg qs)) t=some (.tup (dg qs)):=aF
   have xO:lD (upd (upd H3 D (.lst (dg qs))) t (.tup (dg qs))) qs:=hp2.mono (Tu.of s5)
   generalize upd (upd H3 D (.lst (dg qs))) t (.tup (dg qs))=H5 at Y6 hT5 xM xO
   have Y7:∀j,j<qs.length->∃cc u,(dg qs)[j]? =some (.ref cc)/\H5 cc=some (.tup [.str ((nms qs).getD j ""),u]):=λj hj=>by
    obtain⟨cc,u,ec,hc,_⟩:=xO qs[j] (Q0r hj)
    refine⟨cc,u,?_,?_⟩
    . show(qs.map (·.1))[j]? =_
      rw[Q0g,Q05 hj]
      exact congrArg some ec
    . have e:(nms qs).getD j ""=qs[j].2.1:=by
       unfold nms
       rw[Q0n,Q0g,Q05 hj]
       rfl
      rw[e];exact hc
   refine⟨_,rfl,t,_,rfl,.inr (aD.of xM),_,_,rfl,⟨by decide,by decide,by omega,by rw[xK];omega⟩,Vw (lo:=1) (n:=(((dg qs).length:Int) - 1).toNat) (λk σ H'=>H'=H5/\∃y z,σ=[some (.ref l),some (.ref t),y,z]) ⟨rfl,_,_,rfl⟩ ?_ ?_⟩
   . rintro k σ H' hk ⟨rfl,y,z,rfl⟩
     rw[xK] at hk
     obtain⟨c1,u1,a1,b1⟩:=Y7 (k+1) (by omega)
     obtain⟨c2,u2,a2,b2⟩:=Y7 k (by omega)
     have e1:dO (dg qs) ((1:Int)+(k:Int))=some (.ref c1):=by
      have:=jO (j:=k+1) a1
      rw[show((1:Int)+(k:Int))=((k+1:Nat):Int) by omega];exact this
     have e2:dO (dg qs) ((1:Int)+(k:Int) - 1)=some (.ref c2):=by
      have:=jO (j:=k) a2
      rw[show((1:Int)+(k:Int) - 1)=((k:Nat):Int) by omega];exact this
     refine⟨_,rfl,_,rfl,t,_,_,_,rfl,rfl,aD.of xM,e1,c1,_,_,_,rfl,rfl,aD.of b1,rfl,?_⟩
     refine⟨_,rfl,_,rfl,_,rfl,_,_,rfl,rfl,t,_,_,_,rfl,rfl,aD.of xM,e2,c2,_,_,_,rfl,rfl,aD.of b2,rfl,rfl,_,rfl,eN (λcc=>?_) λcc=>⟨rfl,_,_,rfl⟩⟩
     have e:(nms qs).getD (k+1) ""=(nms qs).getD k "":=by
      have:=of_decide_eq_true cc
      injection this
     have hl1:k+1<(nms qs).length:=by rw[Bv];omega
     have hl2:k<(nms qs).length:=by rw[Bv];omega
     rw[Q0n,Q0n,Q05 hl1,Q05 hl2] at e
     have e:(nms qs)[k+1]=(nms qs)[k]:=e
     exact absurd e.symm (List.pairwise_iff_getElem.mp hnd k (k+1) hl2 hl1 (by omega))
   . rintro σ H' ⟨rfl,y,z,rfl⟩
     exact⟨_,rfl,q1 t _ Y6 hT5 xM⟩
theorem Y8:bC ["pairs"] ["pairs"] (aL (top 14)):=by refine⟨rfl,rfl,rfl,?_,rfl,?_,?_⟩ <;> decide +kernel
theorem aho {Pt:Addr}(T:Tb mg)(uw:Dn K mg "record_of" nQ (top 14) Ii Ij)(ur:Dn K mg "sorted_fields" nQ (top 13) Ih Bx)(ahp:aq P w K mg base aC (8) Ih Bx nQ (Y0 K Pt)):aq P w K mg base aC (9) Ii Ij nQ (Y4 K Pt):=by
 refine uw.F.ok Y8 (λvs H Q E h=>?_) (λcdv A outer s H vs Q E hr h=>?_)
 . obtain⟨l,qs,rfl,_⟩:=h
   rfl
 obtain⟨l,qs,rfl,hl,hp,h13,hT,hnd,hso,q1⟩:=h
 have nd:=Y8.nd
 refine⟨_,(aB (aN (cQ (aj bh (aj (aR ahp (hr.mono (by decide)) ur (aj (pv 0) ak)) ak))))),?_⟩
 refine⟨_,rfl,l,qs,rfl,hl,hp,h13,hT,hnd,hso,λt H' kp hT' ht'=>?_⟩
 refine⟨cX,λr hr'=>?_⟩
 exact q1 r t _ (kp.trans (Kp.of (Same.new hr'))) (hT'.same (Same.new hr')) (by rw[au (aO ht' hr')];exact ht') aF
noncomputable abbrev ahq:R2:=λx y H Q=>y=.non/\Q (.bl (!decide (x=.non))) H
theorem Y9 (f:Str->V){ss:List Str}{x:Str}(h:x ∉ ss):putK (aK f ss) (Sum.inr x) (f x)=aK f (ss++[x]):=by
 unfold putK
 rw[if_neg]
 . unfold aK
   rw[Q0k]
   rfl
 . rw[zQ,gQ,if_neg h]
   decide
theorem Fs.qY:∀{fs:Fs}{x:Str},x∈fs.names->∃k,fs.get x=some k
 | .nil,_,h=>nomatch h
 | .cons y q r,x,h=>by
   by_cases e:x=y
   . exact⟨q,by show(if x=y then some q else r.get x)=_;rw[if_pos e]⟩
   . obtain⟨k,hk⟩:=Fs.qY (fs:=r) (x:=x) (by
      rcases List.mem_cons.mp h with z|z
      . exact absurd z e
      . exact z)
     exact⟨k,by show(if x=y then some q else r.get x)=_;rw[if_neg e];exact hk⟩
theorem xP (i:Nat):(List.replicate i true).all id=true:=by
 rw[Q1i]
 intro z hz
 rw[Q2c hz]
 rfl
theorem ahr {ss:List Str}{i:Nat}{v:V}(h:(ss.map V.str)[i]? =some v):∃x,ss[i]? =some x/\v=.str x:=by
 rw[Q0g] at h
 cases e:ss[i]? with
 |none=>rw[e] at h;cases h
 |some x=>rw[e] at h;exact⟨x,rfl,(Option.some.inj h).symm⟩
theorem ahs (ss:List Str):((List.range ss.length).map λi=>(Sum.inr (ss.getD i ""):Key))=ss.map Sum.inr:=by
 refine Q2p (by simp) λi h1 h2=>?_
 have hi:i<ss.length:=by simpa using h2
 rw[Q1j,List.getElem_range,Q1j,Q0n,Q05 hi]
 rfl
theorem aG.xQ {K:W.Frag}{H H':Hp}{l:Addr}{xs:List V}(h:aG K H l xs)(s:Same H H'):aG K H' l xs:=by
 rcases h with(h|⟨o,h⟩)|h
 . exact .inl (.inl (s _ _ h))
 . exact .inl (.inr ⟨o,s _ _ h⟩)
 . exact .inr h
noncomputable def Y_:Sp:=λvs H Q _=>vs=[.bl true]/\Q .non H
noncomputable def Za (K:W.Frag):Sp:=λvs H Q _=>∃kk t l xs fs,∃ss:List Str,vs=[.ref kk,.ref l]/\H kk=some (.tup [.str "record",.ref t])/\H t=some (.tup xs)/\FA H xs fs/\fs.names.Nodup/\aG K H l (ss.map V.str)/\ss.Nodup/\ss.length<=12/\(∀x∈ss,x∈fs.names)/\∀H',Same H H'->Q (.bl true) H'
noncomputable def Zb (K:W.Frag):Sp:=λvs H Q _=>∃t l xs fs,∃ss:List Str,vs=[.ref t,.ref l]/\H t=some (.tup xs)/\FA H xs fs/\fs.names.length<=12/\aG K H l (ss.map V.str)/\∀p H',Same H H'->H' p=some (.lst (fj ss xs fs.names))->H p=none->Q (.ref p) H'
noncomputable def Zc (K:W.Frag):Sp:=λvs H Q _=>∃a l kvs,∃ss:List Str,∃f:Str->V,vs=[.ref a,.ref l]/\H a=some (.dK kvs)/\aG K H l (ss.map V.str)/\ss.Nodup/\ss.length<=12/\(∀x∈ss,dR kvs (Sum.inr x)=some (f x))/\∀p H',Same H H'->H' p=some (.dK (aK f ss))->H p=none->Q (.ref p) H'
theorem Zd:bC ["stands"] ["stands"] (aL (top 55)):=by refine⟨rfl,rfl,rfl,?_,rfl,?_,?_⟩ <;> decide +kernel
theorem aht (T:Tb mg)(ux:Dn K mg "ask_stands" ["stands"] (top 55) Ik Il):aq P w K mg base aC (1) Ik Il ["stands"] (Y_):=by
 refine ux.F.ok Zd (λvs H Q E h=>?_) (λcdv A outer s H vs Q E hr h=>?_)
 . obtain⟨rfl,_⟩:=h
   rfl
 obtain⟨rfl,q⟩:=h
 have nd:=Zd.nd
 refine⟨_,(aB (aV (iV (bY (pv 0))) (aB aM) aU)),?_⟩
 exact⟨_,rfl,true,rfl,bD q⟩
theorem Ze:bC ["kind","names"] ["kind","names"] (aL (top 58)):=by refine⟨rfl,rfl,rfl,?_,rfl,?_,?_⟩ <;> decide +kernel
theorem ahu (T:Tb mg)(uy:Dn K mg "has_each_once" Aw (top 58) Im Io)(iI:Dn K mg "kind_at" mF (top 12) n8 n_)(xR:aq P w K mg base aC (1) n8 n_ mF (Bt)):aq P w K mg base aC (3) Im Io Aw (Za K):=by
 refine uy.F.ok Ze (λvs H Q E h=>?_) (λcdv A outer s H vs Q E hr h=>?_)
 . obtain⟨kk,t,l,xs,fs,ss,rfl,_⟩:=h
   rfl
 obtain⟨kk,t,l,xs,fs,ss,rfl,hkk,ht,hfa,hnd,hl,hsn,h12,hin,q⟩:=h
 have nd:=Ze.nd
 refine⟨_,(ao (aV (aW qI (aY agF (by rfl) T.dU PySem.boot_len (aj (iZ (agE rfl) (by rfl) T.agH boot_set (aj (pv 1) ak)) ak)) (aY eY (by rfl) T.dU PySem.boot_len (aj (pv 1) ak)) (aQ _)) (aB (aN o7)) aU)
  (aB (aN (kY (lq bA (aZ bF (pv 0) aH (λ_ _=>rfl)) bh (aQ _)) (lV (aY (wB rfl) (by rfl) T.wW boot_all (aj (jc (g:=(cL 0)) (tt:=gn) (te:=(bJ ahq (pC _ _ _ (cj (bJ (m9 K) (bB 1) (tC (.int 1))) (cj (bB 0) gj))) (tC .non))) (own:=["name"]) rfl (dw.of (N:=["kind","names"]) (sc:=aL (top 58)) rfl rfl rfl (by decide +kernel)) (o_ (pv 1)) (λ_ _ _ _ _=>(bH (i:=0) (show(["name","kind","names"]:List Str).Nodup by decide +kernel) rfl (Or.inl rfl) (.inr rfl))) (λ_ _ _ _ _=>i_) (λ_ _ _ _ _=>(lq tE (aR xR (hr.mono (by decide)) iI (aj (aZ bF (pv 1) aH (λ_ _=>rfl)) (aj (pv 0) ak))) cD (aQ _)))) ak))))))),?_⟩
 refine⟨_,rfl,l,ss,rfl,hl,by omega,λp hp=>?_⟩
 have s1:Same H (upd H p (wV P w p (eU (λi=>Sum.inr (ss.getD i "")) ss.length).length)):=Same.new hp
 have hml:(eU (λi=>(Sum.inr (ss.getD i ""):Key)) ss.length).length=ss.length:=by
  have hn:((List.range ss.length).map λi=>(Sum.inr (ss.getD i ""):Key)).Nodup:=by
   rw[ahs]
   exact List.Pairwise.map _ (λa b h z=>h (Sum.inr.inj z)) hsn
  rw[Yr hn,Q06,Q1]
 refine⟨p,_,rfl,aF,?_⟩
 have hl1:aG K (upd H p (wV P w p (eU (λi=>Sum.inr (ss.getD i "")) ss.length).length)) l (ss.map V.str):=(Pb.aG.xQ hl s1)
 rw[hml] at s1 hl1 ⊢
 refine⟨_,rfl,l,_,rfl,.inl hl1,rfl,_,rfl,aeI (by rw[Q06]) ?_⟩
 refine⟨_,rfl,kk,_,_,_,rfl,rfl,aD.of (s1 _ _ hkk),rfl,rfl,_,rfl,?_⟩
 rw[decide_eq_true rfl]
 refine bR ?_
 have ht1:=s1 _ _ ht
 have ahv:=s1 _ _ hkk
 have ahw:=FA.mono (Tu.of s1) fs hfa
 refine⟨_,rfl,l,rfl,⟨_,hl1⟩,λi m ys H'=>H'=upd H p (wV P w p ss.length)/\m=ss.length - i/\i<=ss.length/\ys=(List.replicate i true).map V.bl,⟨ss.length,rfl,by simp,Q0b _,rfl⟩,?_⟩
 rintro i m ys H' ⟨rfl,rfl,hi,rfl⟩
 by_cases hlt:i<ss.length
 . refine .inr ⟨⟨_,.str ss[i],hl1,by rw[Q0g,Q05 hlt];rfl⟩,by rw[Q06,Q15];exact cW (by omega),λx H' y=>?_⟩
   obtain⟨rfl,y⟩:=y
   have hx:=y _ hl1
   have ex:x=.str ss[i]:=by
    rw[Q0g,Q05 hlt] at hx
    exact(Option.some.inj hx).symm
   subst ex
   obtain⟨k,hk⟩:=Fs.qY (hin _ (Q0r hlt))
   refine⟨rfl,yes (bR ?_)⟩
   refine⟨_,rfl,kk,_,_,_,rfl,rfl,aD.of ahv,rfl,_,rfl,t,ss[i],xs,fs,k,rfl,ht1,ahw,hnd,hk,λu hu hne=>⟨rfl,?_⟩⟩
   rw[decide_eq_false hne]
   refine⟨ss.length - (i+1),by omega,rfl,rfl,hlt,?_⟩
   rw[List.replicate_succ',Q0k]
   rfl
 . refine .inl ⟨⟨_,hl1,by rw[Q06];exact Q11 hlt⟩,λp hp=>⟨p,List.replicate i true,rfl,aG.of aF,?_⟩⟩
   rw[xP]
   exact q _ (s1.trans (Same.new hp))
theorem Zf:bC ["fields","names"] ["fields","names"] (aL (top 59)):=by refine⟨rfl,rfl,rfl,?_,rfl,?_,?_⟩ <;> decide +kernel
theorem ahx (T:Tb mg)(uz:Dn K mg "fields_among" Ax (top 59) Ip Ir):aq P w K mg base aC (1) Ip Ir Ax (Zb K):=by
 refine uz.F.ok Zf (λvs H Q E h=>?_) (λcdv A outer s H vs Q E hr h=>?_)
 . obtain⟨t,l,xs,fs,ss,rfl,_⟩:=h
   rfl
 obtain⟨t,l,xs,fs,ss,rfl,ht,hfa,h12,hl,q⟩:=h
 have nd:=Zf.nd
 refine⟨_,(aB (aN (jc (g:=(cL 0)) (tt:=(lX (bJ (FT K false) (bJ (m9 K) (bB 0) (tC (.int 0))) (bB 2)))) (te:=(bB 0)) (own:=["pair"]) rfl (dw.of (N:=["fields","names"]) (sc:=aL (top 59)) rfl rfl rfl (by decide +kernel)) (lg (pv 0)) (λ_ _ _ _ _=>(bH (i:=0) (show(["pair","fields","names"]:List Str).Nodup by decide +kernel) rfl (Or.inl rfl) (.inr rfl))) (λ_ _ _ _ _=>(zT (aW Wg (aZ bF (pv 0) aH (λ_ _=>rfl)) (pv 2) (by with_unfolding_all rfl)))) (λ_ _ _ _ _=>(pv 0))))),?_⟩
 have xJ:=FA.len fs hfa
 refine⟨_,rfl,t,rfl,⟨_,aD.of ht⟩,λi m ys H'=>H'=H/\m=xs.length - i/\i<=xs.length/\ys=(((xs.zip fs.names).take i).filter λq=>decide (q.2∈ss)).map (·.1),⟨xs.length,rfl,by simp,Q0b _,rfl⟩,?_⟩
 rintro i m ys H' ⟨rfl,rfl,hi,rfl⟩
 by_cases hlt:i<xs.length
 . have hb:((((xs.zip fs.names).take i).filter λq=>decide (q.2∈ss)).map (·.1)).length<=i:=by
    rw[Q06]
    exact Q0e (Q1f _ _) (by rw[Q0i];omega)
   refine .inr ⟨⟨xs,xs[i],aD.of ht,by simp[hlt]⟩,cW (by omega),λx H' y=>?_⟩
   obtain⟨rfl,y⟩:=y
   have hv:=y xs (aD.of ht)
   obtain⟨c,u,nm,k,rfl,hat,hc,hk⟩:=FA.get fs hfa hv
   have hnm:fs.names[i]? =some nm:=by rw[Fs.gZ,hat];rfl
   have hz:(xs.zip fs.names)[i]? =some (.ref c,nm):=by
    rw[Q2d]
    exact⟨hv,hnm⟩
   have step:(((xs.zip fs.names).take (i+1)).filter λq=>decide (q.2∈ss)).map (·.1)=(((xs.zip fs.names).take i).filter λq=>decide (q.2∈ss)).map (·.1)++(if nm∈ss then [V.ref c] else []):=by
    rw[Q0p,hz,Q2e,Q0k]
    congr 1
    show(List.filter _ [(V.ref c,nm)]).map _=_
    rw[Q1l]
    by_cases e:nm∈ss
    . rw[if_pos (decide_eq_true e),if_pos e];rfl
    . rw[if_neg (by show ¬decide (nm∈ss)=true;rw[decide_eq_false e];decide),if_neg e];rfl
   refine⟨rfl,_,rfl,c,_,_,_,rfl,rfl,aD.of hc,rfl,_,rfl,l,_,rfl,.inl hl,rfl,Ie,_,rfl,?_⟩
   refine eN (λcc=>?_) (λcc=>?_)
   . have e:nm∈ss:=of_decide_eq_true (Bw.symm.trans (show inV (V.str nm) (ss.map V.str)=true from cc))
     refine⟨_,rfl,xs.length - (i+1),by omega,rfl,rfl,hlt,?_⟩
     rw[step,if_pos e]
   . have e:¬nm∈ss:=λz=>cc (show inV (V.str nm) (ss.map V.str)=true from Bw.trans (decide_eq_true z))
     refine⟨xs.length - (i+1),by omega,rfl,rfl,hlt,?_⟩
     rw[step,if_neg e,Q0z]
 . refine .inl ⟨⟨xs,aD.of ht,Q11 hlt⟩,λp hp=>?_⟩
   refine q p _ (Same.new hp) ?_ hp
   rw[aF]
   unfold fj
   rw[Q1b (by rw[Q3];omega)]
theorem Zg:bC ["record","names","part","name"] ["record","names"] (aL (top 60)):=by refine⟨rfl,rfl,rfl,?_,rfl,?_,?_⟩ <;> decide +kernel
theorem ahy (T:Tb mg)(uD:Dn K mg "part_of" Ay (top 60) Iu Iv):aq P w K mg base aC (1) Iu Iv Ay (Zc K):=by
 refine uD.F.ok Zg (λvs H Q E h=>?_) (λcdv A outer s H vs Q E hr h=>?_)
 . obtain⟨a,l,kvs,ss,f,rfl,_⟩:=h
   rfl
 obtain⟨a,l,kvs,ss,f,rfl,ha,hl,hsn,h12,hv,q⟩:=h
 have nd:=Zg.nd
 have hu:=eZ hr
 refine⟨_,(ao (bf (i:=2) nd rfl (Or.inl rfl) wj)
  (ao (iW PassesOwn.never rfl (o_ (pv 1)) (bH (i:=3) nd rfl (Or.inl rfl)) (aB (qN hu (pv 2) (pv 3) (gk hu (pv 0) (pv 3) (λ_ _=>rfl)) rfl)))
  (aB (aN (pv 2))))),?_⟩
 intro p hp
 have s0:Same H (upd H p (.dK [])):=Same.new hp
 refine⟨_,rfl,l,rfl,⟨_,(Pb.aG.xQ hl s0)⟩,Ey (xs:=ss.map V.str) (λi σ H'=>Same H H'/\(∃z,σ=[some (.ref a),some (.ref l),some (.ref p),z])/\H' p=some (.dK (aK f (ss.take i)))) ⟨s0,⟨_,rfl⟩,aF⟩ ?_ ?_ ?_⟩
 . rintro i σ H' _ ⟨s1,_⟩
   exact(Pb.aG.xQ hl s1)
 . rintro i v σ H' hv' ⟨s1,⟨z,rfl⟩,hp'⟩
   obtain⟨x,hx,rfl⟩:=ahr hv'
   have hi:i<ss.length:=(List.getElem?_eq_some_iff.mp hx).1
   have hxe:ss[i]=x:=(List.getElem?_eq_some_iff.mp hx).2
   refine⟨_,rfl,_,rfl,a,f x,rfl,?_,_,rfl,_,rfl,p,_,rfl,lY.k (k:=Sum.inr x) hp' (by rw[gD,Q0i];exact cW (by omega)),?_⟩
   . have:=bW.k (k:=Sum.inr x) (s1 _ _ ha)
     rw[hv x (Q0v hx)] at this
     exact this
   . refine⟨λc o e=>?_,⟨_,rfl⟩,?_⟩
     . rw[au]
       . exact s1 c o e
       . exact aO e hp
     . rw[aF,Y9 f,Q0p,hx]
       . rfl
       . intro hm
         obtain⟨j,hj,e⟩:=Q19 hm
         rw[Q0i] at hj
         rw[Q29] at e
         exact absurd (e.trans hxe.symm) (List.pairwise_iff_getElem.mp hsn j i (by omega) hi (by omega))
 . rintro σ H' ⟨s1,⟨z,rfl⟩,hp'⟩
   rw[Q06,Q1a] at hp'
   exact⟨_,rfl,q p _ s1 hp' hp⟩
structure dI (H:Hp) (kk t:Addr) (xs:List V) (fs:Fs):Prop where
 at_:H kk=some (.tup [.str "record",.ref t])
 tu:H t=some (.tup xs)
 fa:FA H xs fs
 nd:fs.names.Nodup
 bM:fs.names.length<=12
 W:fs.W
 so:fs.names.Pairwise sle
theorem dI.mono {H H':Hp}{kk t:Addr}{xs:List V}{fs:Fs}(h:dI H kk t xs fs)(u:Tu H H'):dI H' kk t xs fs:=
 ⟨u _ _ h.at_,u _ _ h.tu,FA.mono u fs h.fa,h.nd,h.bM,h.W,h.so⟩
theorem dI.few {H:Hp}{kk t r t':Addr}{xs:List V}{fs:Fs}(ss:List Str)(h:dI H kk t xs fs)(h1:H r=some (.tup [.str "record",.ref t']))(h2:H t'=some (.tup (fj ss xs fs.names))):dI H r t' (fj ss xs fs.names) (fs.bU ss):=
 ⟨h1,h2,FA.few fs h.fa,by rw[Fs.fu];exact h.nd.filter _,by rw[Fs.fu];exact Q0e (Q1f _ _) h.bM,Fs.Ig ss h.W,by rw[Fs.fu];exact h.so.filter _⟩
structure dX (H:Hp) (C v dx nl:Addr) (ss:List Str):Prop where
 ob:H v=some (.ins C dx [("names",.ref nl)])
 nl:H nl=some (.lst (ss.map V.str))
 nd:ss.Nodup
 bM:ss.length<=12
structure j4 (K:W.Frag) (mg:Str->Option Value) (C fI fB fS fP:Addr):Prop where
 ct:Cls K C
 na:lu K C "names"
 mkk:Mk K C fI
 m:mg "Take"=some (.ref C)
 b:Meth K C "behind" fB
 s:Meth K C "see" fS
 p:Meth K C "put" fP
noncomputable def Zh (K:W.Frag) (C:Addr):Sp:=λvs H Q _=>∃x hl dx,∃ss:List Str,vs=[.ref x,.ref hl]/\H x=some (.ins C dx [])/\aG K H hl (ss.map V.str)/\∀p H',H p=none->(∀c o,c≠x->H c=some o->H' c=some o)->H' x=some (.ins C dx [("names",.ref p)])->H' p=some (.lst (ss.map V.str))->Q .non H'
noncomputable def uE (P2 C:Addr):Sp:=λvs H Q _=>∃v kk t dx nl xs fs ss,vs=[.ref v,.ref kk]/\dX H C v dx nl ss/\dI H kk t xs fs/\(∀x∈ss,x∈fs.names)/\bw P2 bK bL H/\∀r t' H',d9 P2 H H'->bw P2 bK bL H'->H' r=some (.tup [.str "record",.ref t'])->H' t'=some (.tup (fj ss xs fs.names))->Q (.ref r) H'
noncomputable def Zi (C:Addr):Sp:=λvs H Q _=>∃v kv a dx nl ss kvs,∃f:Str->V,vs=[.ref v,kv,.ref a]/\dX H C v dx nl ss/\H a=some (.dK kvs)/\(∀x∈ss,dR kvs (Sum.inr x)=some (f x))/\∀p H',Same H H'->H' p=some (.dK (aK f ss))->H p=none->Q (.ref p) H'
section
variable {P:Program}{w:World}{K:W.Frag}{mg:Str->Option Value}{base:Heap}
variable {C P2:Addr}
theorem Zj:bC ["self","names"] ["self","names"] (aL (aJ 61 0)):=by refine⟨rfl,rfl,rfl,?_,rfl,?_,?_⟩ <;> decide +kernel
theorem ahB (T:Tb mg)(TK:j4 K mg C jg eV jh gF)(uF:Dm K "__init__" "Take.__init__" Az (aJ 61 0) jg Iw):aq P w K mg base aC (1) jg Iw Az (Zh K C):=by
 refine uF.F.ok Zj (λvs H Q E h=>?_) (λcdv A outer s H vs Q E hr h=>?_)
 . obtain⟨x,hl,dx,ss,rfl,_⟩:=h
   rfl
 obtain⟨x,hl,dx,ss,rfl,hx,hs,q⟩:=h
 have nd:=Zj.nd
 refine⟨_,(aB (tH (pv 0) (iZ FW (by rfl) T.jV boot_list (aj (pv 1) ak)) rfl)),?_⟩
 refine⟨_,rfl,hl,_,rfl,.inl hs,λp hp=>?_⟩
 have hpx:x≠p:=aO hx hp
 refine⟨_,rfl,x,C,dx,[],rfl,by rw[au hpx];exact hx,TK.ct,TK.na,by decide,?_⟩
 refine q p _ hp (λc o hc e=>by rw[au hc,au (aO e hp)];exact e) aF ?_
 rw[au (Ne.symm hpx),aF]
theorem Zk:bC ["self","kind"] ["self","kind"] (aL (aJ 61 1)):=by refine⟨rfl,rfl,rfl,?_,rfl,?_,?_⟩ <;> decide +kernel
theorem ahC (T:Tb mg)(TK:j4 K mg C jg eV jh gF)(gG:Dm K "behind" "Take.behind" jW (aJ 61 1) eV lF)(ux:Dn K mg "ask_stands" ["stands"] (top 55) Ik Il)(ahD:aq P w K mg base aC (1) Ik Il ["stands"] (Y_))(uy:Dn K mg "has_each_once" Aw (top 58) Im Io)(ahE:aq P w K mg base aC (3) Im Io Aw (Za K))(uz:Dn K mg "fields_among" Ax (top 59) Ip Ir)(ahF:aq P w K mg base aC (1) Ip Ir Ax (Zb K))(uw:Dn K mg "record_of" nQ (top 14) Ii Ij)(ahG:aq P w K mg base aC (9) Ii Ij nQ (Y4 K P2)):aq P w K mg base aC (10) eV lF jW (uE P2 C):=by
 refine gG.F.ok Zk (λvs H Q E h=>?_) (λcdv A outer s H vs Q E hr h=>?_)
 . obtain⟨v,kk,t,dx,nl,xs,fs,ss,rfl,_⟩:=h
   rfl
 obtain⟨v,kk,t,dx,nl,xs,fs,ss,rfl,hV,hK,hin,hT,q⟩:=h
 have nd:=Zk.nd
 refine⟨_,(ao (iB (aR ahD (hr.mono (by decide)) ux (aj (aR ahE (hr.mono (by decide)) uy (aj (pv 1) (aj (cZ (pv 0) rfl) ak))) ak)))
  (aB (aN (aR ahG (hr.mono (by decide)) uw (aj (aR ahF (hr.mono (by decide)) uz (aj (aZ bF (pv 1) aH (λ_ _=>rfl)) (aj (cZ (pv 0) rfl) ak))) ak))))),?_⟩
 refine⟨_,rfl,_,rfl,v,C,dx,_,_,rfl,hV.ob,TK.ct,TK.na,rfl,kk,t,nl,xs,fs,ss,rfl,hK.at_,hK.tu,hK.fa,hK.nd,aG.of hV.nl,hV.nd,hV.bM,hin,λH1 s1=>⟨rfl,?_⟩⟩
 have jA:=hK.mono (Tu.of s1)
 refine⟨_,rfl,kk,_,_,_,rfl,rfl,aD.of jA.at_,rfl,_,rfl,v,C,dx,_,_,rfl,s1 _ _ hV.ob,TK.ct,TK.na,rfl,t,nl,xs,fs,ss,rfl,jA.tu,jA.fa,jA.bM,aG.of (s1 _ _ hV.nl),λp H2 s2 hp2 _=>?_⟩
 have s12:=s1.trans s2
 have xT:=jA.mono (Tu.of s2)
 obtain⟨qs,e1,e2,hpr⟩:=lD.of (FA.few (ss:=ss) fs xT.fa)
 rw[<-e1] at hp2
 have h12:qs.length<=12:=by
  rw[<-Bv,e2,Fs.fu]
  exact Q0e (Q1f _ _) hK.bM
 refine⟨p,qs,rfl,aG.of hp2,hpr,by omega,hT.same s12,by rw[e2,Fs.fu];exact hK.nd.filter _,by rw[e2,Fs.fu];exact hK.so.filter _,λr t' H' kp hT' ht' hr'=>?_⟩
 exact q r t' H' ((Kp.of s12).trans kp) hT' hr' (by rw[ht',e1])
theorem Zm:bC ["self","kind","source"] ["self","kind","source"] (aL (aJ 61 2)):=by refine⟨rfl,rfl,rfl,?_,rfl,?_,?_⟩ <;> decide +kernel
theorem ahH (T:Tb mg)(TK:j4 K mg C jg eV jh gF)(uG:Dm K "see" "Take.see" pK (aJ 61 2) jh Iz)(uD:Dn K mg "part_of" Ay (top 60) Iu Iv)(ahI:aq P w K mg base aC (1) Iu Iv Ay (Zc K)):aq P w K mg base aC (2) jh Iz pK (Zi C):=by
 refine uG.F.ok Zm (λvs H Q E h=>?_) (λcdv A outer s H vs Q E hr h=>?_)
 . obtain⟨v,kv,a,dx,nl,ss,kvs,f,rfl,_⟩:=h
   rfl
 obtain⟨v,kv,a,dx,nl,ss,kvs,f,rfl,hV,ha,hf,q⟩:=h
 have nd:=Zm.nd
 refine⟨_,(aB (aN (aR ahI (hr.mono (by decide)) uD (aj (pv 2) (aj (cZ (pv 0) rfl) ak))))),?_⟩
 exact⟨_,rfl,_,rfl,v,C,dx,_,_,rfl,hV.ob,TK.ct,TK.na,rfl,a,nl,kvs,ss,f,rfl,ha,aG.of hV.nl,hV.nd,hV.bM,hf,q⟩
end
noncomputable def IK:Sp:=λvs H Q _=>∃b a xs kvs fs,vs=[.ref b,.ref a]/\H b=some (.tup xs)/\FA H xs fs/\fs.names.length<=12/\H a=some (.dK kvs)/\kvs.length=fs.names.length/\(∀i nm k,fs.at i=some (nm,k)->∃v,dR kvs (Sum.inr nm)=some v)/\∀H',Same H H'->Q (.bl true) H'
noncomputable def mJ (fs:Fs) (kvs:List (Key × V)):Prop:=kvs.length=fs.names.length/\∀i nm k,fs.at i=some (nm,k)->∃v,dR kvs (Sum.inr nm)=some v/\dH k v
theorem ahJ {k:Kd}{v:V}(h:dH k v):gw k:=by
 cases k with
 |num=>trivial
 |eO=>trivial
 |_=>exact h.elim
noncomputable def BJ:Sp:=λvs H Q _=>∃kv v k,vs=[kv,v]/\KA H kv k/\dH k v/\Q .non H
noncomputable def Zn:Sp:=λvs H Q _=>∃b a xs kvs fs,vs=[.ref b,.ref a]/\H b=some (.tup xs)/\FA H xs fs/\fs.names.length<=12/\H a=some (.dK kvs)/\mJ fs kvs/\∀H',Same H H'->Q .non H'
noncomputable def xU:Sp:=λvs H Q _=>∃kk t a xs kvs fs,vs=[.ref kk,.ref a]/\dI H kk t xs fs/\H a=some (.dK kvs)/\mJ fs kvs/\∀H',Same H H'->Q .non H'
noncomputable def IV:Sp:=λvs H Q _=>∃kv k,vs=[kv]/\KA H kv k/\gw k/\∀H',Same H H'->Q (.bl true) H'
noncomputable def iJ (f g:Str->V) (ss:List Str):Str->V:=λx=>if x∈ss then g x else f x
theorem Zo {l:List Str}(g:Str->V):∀(ss:List Str) (f:Str->V),(∀x∈ss,x∈l)->n6 (aK f l) (aK g ss)=aK (iJ f g ss) l
 |[],f,_=>YX λx _=>by unfold iJ;rw[if_neg (by simp)]
 |y::r,f,h=>by
  show n6 (putK (aK f l) (Sum.inr y) (g y)) (aK g r)=_
  rw[Bq _ (h y Q0f),Zo g r _ λx hx=>h x (Q0j _ hx)]
  refine YX λx _=>?_
  unfold iJ dz
  by_cases e1:x∈r
  . rw[if_pos e1,if_pos (Q0j _ e1)]
  . rw[if_neg e1]
    by_cases e2:x=y
    . rw[if_pos e2,if_pos (by rw[e2];exact Q0f),e2]
    . rw[if_neg e2,if_neg (λz=>(List.mem_cons.mp z).elim e2 e1)]
noncomputable def Zq (P2 C:Addr):Sp:=λvs H Q _=>∃v kk t dx nl xs fs ss src sn,∃f g:Str->V,vs=[.ref v,.ref kk,.ref src,.ref sn]/\dX H C v dx nl ss/\dI H kk t xs fs/\(∀x∈ss,x∈fs.names)/\bw P2 bK bL H/\H src=some (.dK (aK f fs.names))/\H sn=some (.dK (aK g ss))/\mJ (fs.bU ss) (aK g ss)/\
 ∀p H',d9 P2 H H'->bw P2 bK bL H'->H' p=some (.dK (aK (iJ f g ss) fs.names))->Q (.ref p) H'
section
variable {P:Program}{w:World}{K:W.Frag}{mg:Str->Option Value}{base:Heap}
variable {C P2:Addr}
theorem Zr:bC ["fields","record"] ["fields","record"] (aL (top 18)):=by refine⟨rfl,rfl,rfl,?_,rfl,?_,?_⟩ <;> decide +kernel
theorem ahK (T:Tb mg)(ou:Dn K mg "has_just" gC (top 18) xV xW):aq P w K mg base aC (1) xV xW gC (IK):=by
 refine ou.F.ok Zr (λvs H Q E h=>?_) (λcdv A outer s H vs Q E hr h=>?_)
 . obtain⟨b,a,xs,kvs,fs,rfl,_⟩:=h
   rfl
 obtain⟨b,a,xs,kvs,fs,rfl,hb,hfa,hx,ha,hkl,hget,q⟩:=h
 have nd:=Zr.nd
 have hu:=eZ hr
 refine⟨_,(aB (aN (kY (lq bA (aY Ge (by rfl) T.dU PySem.boot_len (aj (pv 1) ak)) (aY eY (by rfl) T.dU PySem.boot_len (aj (pv 0) ak)) (aQ _)) (lV (aY (wB rfl) (by rfl) T.wW boot_all (aj (jc (g:=(qF K 2 (jr (cL 0) (jr (cL 1) qD)))) (tt:=gn) (te:=_) (own:=["name","inner"]) rfl (dw.of (N:=["fields","record"]) (sc:=aL (top 18)) rfl rfl rfl (by decide +kernel)) (lg (pv 0)) (λ_ _ _ _ _=>(gh rfl (cF (bH (i:=0) (show(["name","inner","fields","record"]:List Str).Nodup by decide +kernel) rfl (Or.inl rfl) (.inr rfl)) (cF (bH (i:=1) (show(["name","inner","fields","record"]:List Str).Nodup by decide +kernel) rfl (Or.inl rfl) (.inr rfl)) f9)))) (λ_ _ _ _ _=>i_) (λ_ _ _ _ _=>(Vl (Gd hu (pv 0) (pv 3)) (by with_unfolding_all rfl)))) ak)))))),?_⟩
 have e1:kvs.length=xs.length:=by rw[hkl,FA.len fs hfa]
 have hx':xs.length<=12:=by rw[FA.len fs hfa];exact hx
 refine⟨_,rfl,a,_,rfl,ha,_,rfl,b,_,rfl,.inr (aD.of hb),rfl,_,rfl,?_⟩
 rw[decide_eq_true (show V.int (kvs.length:Nat)=V.int (xs.length:Nat) by rw[e1])]
 refine bR ?_
 refine⟨_,rfl,b,rfl,⟨_,aD.of hb⟩,λi m ys H'=>H'=H/\m=xs.length - i/\i<=xs.length/\ys=(List.replicate i true).map V.bl,⟨xs.length,rfl,by simp,Q0b _,rfl⟩,?_⟩
 rintro i m ys H' ⟨rfl,rfl,hi,rfl⟩
 by_cases hlt:i<xs.length
 . refine .inr ⟨⟨xs,xs[i],aD.of hb,by simp[hlt]⟩,by rw[Q06,Q15];exact cW (by omega),λx H' y=>?_⟩
   obtain⟨rfl,y⟩:=y
   have hv:=y xs (aD.of hb)
   obtain⟨c,u,nm,k,rfl,hat,hc,hk⟩:=FA.get fs hfa hv
   obtain⟨v,hval⟩:=hget i nm k hat
   refine⟨c,_,rfl,aD.of hc,rfl,_,_,rfl,_,_,rfl,rfl,rfl,yes (bR ?_)⟩
   refine⟨_,rfl,_,rfl,a,_,rfl,bW.k (k:=Sum.inr nm) ha,?_⟩
   rw[hval]
   refine⟨xs.length - (i+1),by omega,rfl,rfl,hlt,?_⟩
   rw[List.replicate_succ',Q0k]
   rfl
 . refine .inl ⟨⟨xs,aD.of hb,Q11 hlt⟩,λp hp=>⟨p,List.replicate i true,rfl,aG.of aF,?_⟩⟩
   rw[xP]
   exact q _ (Same.new hp)
theorem mK:bC ["kind","value","form"] ["kind","value"] (aL (top 16)):=by refine⟨rfl,rfl,rfl,?_,rfl,?_,?_⟩ <;> decide +kernel
theorem ahL (T:Tb mg)(cH:Dn K mg "misfit" cB (top 16) d_ eE):aq P w K mg base aC (1) d_ eE cB (BJ):=by
 refine cH.F.ok mK (λvs H Q E h=>?_) (λcdv A outer s H vs Q E hr h=>?_)
 . obtain⟨kv,v,k,rfl,_⟩:=h
   rfl
 obtain⟨kv,v,k,rfl,hk,hv,q⟩:=h
 have nd:=mK.nd
 refine⟨_,(ao (bf (i:=2) nd rfl (Or.inl rfl) (aZ bF (pv 0) aH (λ_ _=>rfl)))
  (ao (aV (aW bA (pv 2) bh (aQ _)) (aB (aN (fZ (PW.pt (o9 (bY (aY bO (by rfl) T.bQ boot_isinstance (aj (pv 1) (aj (bN (v:=.ty "int") rfl T.qW boot_int rfl) ak)))) (o8 (iV (bY (aY bO (by rfl) T.bQ boot_isinstance (aj (pv 1) (aj (bN (v:=.ty "bool") rfl T.qX boot_bool rfl) ak)))))))) cD (dG ak)))) aU)
  (ao (aV (aW bA (pv 2) bh (aQ _)) (aB (aN (fZ (bY (aY bO (by rfl) T.bQ boot_isinstance (aj (pv 1) (aj (bN (v:=.ty "str") rfl T.nM boot_str rfl) ak)))) cD (dG ak)))) aU)
  (ao (aV (aW bA (pv 2) bh (aQ _)) (aB aM) aU)
  (ao (aV (aW bA (pv 2) bh (aQ _)) (aB aM) aU)
  (ao (aV (aW bA (pv 2) bh (aQ _)) (aB aM) aU)
  (aB aM))))))),?_⟩
 cases k with
 |num=>
  unfold KA at hk
  obtain⟨a,rfl,ha⟩:=hk
  obtain⟨z,rfl⟩:=hv
  refine⟨_,rfl,a,_,_,_,rfl,rfl,aD.of ha,rfl,?_⟩
  refine jQ rfl (by decide +kernel) ?_
  refine⟨_,rfl,_,_,_,true,rfl,.int z,rfl,true,rfl,bR ?_⟩
  exact⟨_,rfl,_,_,_,false,rfl,.int z,rfl,false,rfl,bR q⟩
 |eO=>
  unfold KA at hk
  obtain⟨a,rfl,ha⟩:=hk
  obtain⟨z,rfl⟩:=hv
  refine⟨_,rfl,a,_,_,_,rfl,rfl,aD.of ha,rfl,?_⟩
  refine gq rfl (by decide +kernel) ?_
  refine jQ rfl (by decide +kernel) ?_
  exact⟨_,rfl,_,_,_,true,rfl,.str z,rfl,true,rfl,bR q⟩
 |_=>exact hv.elim
theorem BK:bC ["fields","record","name","inner","place"] ["fields","record"] (aL (top 17)):=by refine⟨rfl,rfl,rfl,?_,rfl,?_,?_⟩ <;> decide +kernel
theorem ahM (T:Tb mg)(j5:Dn K mg "record_misfit" gC (top 17) qZ q9)(ou:Dn K mg "has_just" gC (top 18) xV xW)(IW:aq P w K mg base aC (1) xV xW gC (IK))(cH:Dn K mg "misfit" cB (top 16) d_ eE)(jB:aq P w K mg base aC (1) d_ eE cB (BJ)):aq P w K mg base aC (2) qZ q9 gC (Zn):=by
 refine j5.F.ok BK (λvs H Q E h=>?_) (λcdv A outer s H vs Q E hr h=>?_)
 . obtain⟨b,a,xs,kvs,fs,rfl,_⟩:=h
   rfl
 obtain⟨b,a,xs,kvs,fs,rfl,hb,hfa,hx,ha,⟨hkl,hget⟩,q⟩:=h
 have nd:=BK.nd
 have hu:=eZ hr
 refine⟨_,(ao (aV (PW.pt (jq (iV (bY (aY bO (by rfl) T.bQ boot_isinstance (aj (pv 1) (aj (bN (v:=.ty "dict") rfl T.g_ boot_dict rfl) ak))))) (jo (iV (bY (aR IW (hr.mono (by decide)) ou (aj (pv 0) (aj (pv 1) ak)))))))) (aB (aN (dG ak))) aU)
  (ao (iW PassesOwn.never rfl (lg (pv 0)) (gh rfl (cF (bH (i:=2) nd rfl (Or.inl rfl)) (cF (bH (i:=3) nd rfl (Or.inl rfl)) f9))) (ao (bf (i:=4) nd rfl (Or.inl rfl) (aR jB (hr.mono (by decide)) cH (aj (pv 3) (aj (gk hu (pv 1) (pv 2) (λ_ _=>rfl)) ak))))
  (aB (aV (aW tE (pv 4) cD (aQ _)) (aB aM) aU))))
  (aB (aN cD)))),?_⟩
 refine⟨_,rfl,_,_,_,true,rfl,.dK ha,rfl,true,rfl,bD ?_⟩
 refine⟨_,rfl,_,rfl,b,a,xs,kvs,fs,rfl,hb,hfa,hx,ha,hkl,(λi nm k h=>by obtain⟨v,hv,_⟩:=hget i nm k h;exact⟨v,hv⟩),λH1 s1=>⟨true,rfl,bD ?_⟩⟩
 refine⟨_,rfl,b,rfl,⟨_,aD.of (s1 _ _ hb)⟩,sZ (xs:=xs) (λi σ H'=>Same H H'/\∃x y z,σ=[some (.ref b),some (.ref a),x,y,z]) ⟨s1,_,_,_,rfl⟩ ?_ ?_ ?_⟩
 . rintro i σ H' _ ⟨s2,_⟩
   exact aD.of (s2 _ _ hb)
 . rintro i v σ H' hv ⟨s2,x,y,z,rfl⟩
   obtain⟨c,u,nm,k,rfl,hat,hc,hk⟩:=FA.get fs hfa hv
   obtain⟨e,hval,hpl⟩:=hget i nm k hat
   refine⟨c,_,rfl,aD.of (s2 _ _ hc),rfl,_,_,rfl,_,_,rfl,rfl,?_⟩
   refine⟨_,rfl,_,rfl,_,rfl,a,e,rfl,(by have:=bW.k (k:=Sum.inr nm) (s2 _ _ ha);rw[hval] at this;exact this),u,e,k,rfl,KA.mono (Tu.of s2) k hk,hpl,?_⟩
   refine⟨_,rfl,rfl,_,rfl,?_⟩
   rw[decide_eq_true rfl]
   exact bD ⟨s2,_,_,_,rfl⟩
 . rintro σ H' ⟨s2,_⟩
   exact q _ s2
theorem ahN (T:Tb mg)(cH:Dn K mg "misfit" cB (top 16) d_ eE)(j5:Dn K mg "record_misfit" gC (top 17) qZ q9)(I_:aq P w K mg base aC (2) qZ q9 gC (Zn)):aq P w K mg base aC (3) d_ eE cB (xU):=by
 refine cH.F.ok mK (λvs H Q E h=>?_) (λcdv A outer s H vs Q E hr h=>?_)
 . obtain⟨kk,t,a,xs,kvs,fs,rfl,_⟩:=h
   rfl
 obtain⟨kk,t,a,xs,kvs,fs,rfl,hK,ha,hH,q⟩:=h
 have nd:=mK.nd
 refine⟨_,(ao (bf (i:=2) nd rfl (Or.inl rfl) (aZ bF (pv 0) aH (λ_ _=>rfl)))
  (ao (aV (aW bA (pv 2) bh (aQ _)) (aB (aN (fZ (PW.pt (o9 (bY (aY bO (by rfl) T.bQ boot_isinstance (aj (pv 1) (aj (bN (v:=.ty "int") rfl T.qW boot_int rfl) ak)))) (o8 (iV (bY (aY bO (by rfl) T.bQ boot_isinstance (aj (pv 1) (aj (bN (v:=.ty "bool") rfl T.qX boot_bool rfl) ak)))))))) cD (dG ak)))) aU)
  (ao (aV (aW bA (pv 2) bh (aQ _)) (aB (aN (fZ (bY (aY bO (by rfl) T.bQ boot_isinstance (aj (pv 1) (aj (bN (v:=.ty "str") rfl T.nM boot_str rfl) ak)))) cD (dG ak)))) aU)
  (ao (aV (aW bA (pv 2) bh (aQ _)) (aB (aN (aR I_ (hr.mono (by decide)) j5 (aj (aZ bF (pv 0) aH (λ_ _=>rfl)) (aj (pv 1) ak))))) aU)
  (ao (aV (aW bA (pv 2) bh (aQ _)) (aB aM) aU)
  (ao (aV (aW bA (pv 2) bh (aQ _)) (aB aM) aU)
  (aB aM))))))),?_⟩
 refine⟨_,rfl,kk,_,_,_,rfl,rfl,aD.of hK.at_,rfl,?_⟩
 refine gq rfl (by decide +kernel) ?_
 refine gq rfl (by decide +kernel) ?_
 refine jQ rfl (by decide +kernel) ?_
 exact⟨_,rfl,kk,_,_,_,rfl,rfl,aD.of hK.at_,rfl,_,rfl,t,a,xs,kvs,fs,rfl,hK.tu,hK.fa,hK.bM,ha,hH,q⟩
theorem BL:bC ["kind","seen","place"] ["kind","seen"] (aL (top 54)):=by refine⟨rfl,rfl,rfl,?_,rfl,?_,?_⟩ <;> decide +kernel
theorem ahO (T:Tb mg)(ji:Dn K mg "ask_fit" pL (top 54) q_ rm)(cH:Dn K mg "misfit" cB (top 16) d_ eE)(jB:aq P w K mg base aC (3) d_ eE cB (xU)):aq P w K mg base aC (4) q_ rm pL (xU):=by
 refine ji.F.ok BL (λvs H Q E h=>?_) (λcdv A outer s H vs Q E hr h=>?_)
 . obtain⟨kk,t,a,xs,kvs,fs,rfl,_⟩:=h
   rfl
 obtain⟨kk,t,a,xs,kvs,fs,rfl,hK,ha,hH,q⟩:=h
 have nd:=BL.nd
 refine⟨_,(ao (bf (i:=2) nd rfl (Or.inl rfl) (aR jB (hr.mono (by decide)) cH (aj (pv 0) (aj (pv 1) ak))))
  (aB (aV (aW tE (pv 2) cD (aQ _)) (aB aM) aU))),?_⟩
 refine⟨_,rfl,_,rfl,kk,t,a,xs,kvs,fs,rfl,hK,ha,hH,λH' s1=>?_⟩
 refine⟨_,rfl,rfl,_,rfl,?_⟩
 rw[decide_eq_true rfl]
 exact bD (q _ s1)
theorem str1 {f g:Str}{rest:List V}{K:W.Frag}{H:Hp}:Xg K H 0 (.str f::rest) [.str g] (λ_=>decide (f=g)):=λj x y h1 h2=>by
 cases j with
 |zero=>
  cases h1
  cases h2
  exact jx.str f g
 |succ j=>cases h2
theorem Zt:bC ["kind"] ["kind"] (aL (top 11)):=by refine⟨rfl,rfl,rfl,?_,rfl,?_,?_⟩ <;> decide +kernel
theorem ahP (T:Tb mg)(oA:Dn K mg "is_plain" ["kind"] (top 11) xX xY):aq P w K mg base aC (1) xX xY ["kind"] (IV):=by
 refine oA.F.ok Zt (λvs H Q E h=>?_) (λcdv A outer s H vs Q E hr h=>?_)
 . obtain⟨u,k,rfl,_⟩:=h
   rfl
 obtain⟨u,k,rfl,hk,hp,q⟩:=h
 have nd:=Zt.nd
 have hu:=eZ hr
 refine⟨_,(aB (aN (ac_ (lq (Xn (n:=0) hu) (pv 0) (cQ (aj bh ak)) (aQ _)) (lV (lq (Xn (n:=0) hu) (pv 0) (cQ (aj bh ak)) (aQ _)))))),?_⟩
 refine⟨_,rfl,gH,λt ht=>?_⟩
 have s1:Same H (upd H t (.tup [.str "number"])):=Same.new ht
 cases k with
 |num=>
  unfold KA at hk
  obtain⟨a,rfl,ha⟩:=hk
  exact .inr ⟨a,t,_,_,_,rfl,rfl,str1 (f:="number") (g:="number") (rest:=[]),.inr ⟨aD.of (s1 _ _ ha),aD.of aF,_,rfl,bR (q _ s1)⟩⟩
 |eO=>
  unfold KA at hk
  obtain⟨a,rfl,ha⟩:=hk
  refine .inr ⟨a,t,_,_,_,rfl,rfl,str1 (f:="word") (g:="number") (rest:=[]),.inr ⟨aD.of (s1 _ _ ha),aD.of aF,_,rfl,bD ?_⟩⟩
  refine⟨_,rfl,gH,λt2 jZ=>?_⟩
  have s2:=s1.trans (Same.new (o:=.tup [.str "word"]) jZ)
  exact .inr ⟨a,t2,_,_,_,rfl,rfl,str1 (f:="word") (g:="word") (rest:=[]),.inr ⟨aD.of (s2 _ _ ha),aD.of aF,q _ s2⟩⟩
 |_=>exact hp.elim
theorem BP:bC ["self","kind","source","seen","fresh"] ["self","kind","source","seen"] (aL (aJ 61 3)):=by refine⟨rfl,rfl,rfl,?_,rfl,?_,?_⟩ <;> decide +kernel
theorem ahQ (T:Tb mg)(TK:j4 K mg C jg eV jh gF)(j6:Dm K "put" "Take.put" pN (aJ 61 3) gF rz)(ji:Dn K mg "ask_fit" pL (top 54) q_ rm)(ahR:aq P w K mg base aC (4) q_ rm pL (xU))(gG:Dm K "behind" "Take.behind" jW (aJ 61 1) eV lF)(oE:aq P w K mg base aC (10) eV lF jW (uE P2 C)):aq P w K mg base aC (11) gF rz pN (Zq P2 C):=by
 have CT:=TK.ct
 have oF:=TK.b
 refine j6.F.ok BP (λvs H Q E h=>?_) (λcdv A outer s H vs Q E hr h=>?_)
 . obtain⟨v,kk,t,dx,nl,xs,fs,ss,src,sn,f,g,rfl,_⟩:=h
   rfl
 obtain⟨v,kk,t,dx,nl,xs,fs,ss,src,sn,f,g,rfl,hV,hK,hin,hT,xZ,hsn,hH,q⟩:=h
 have nd:=BP.nd
 refine⟨_,(ao (iB (aR ahR (hr.mono (by decide)) ji (aj (fV (pv 0) CT oF oE (hr.mono (by decide)) gG.b .nil eG (aj (pv 1) ak)) (aj (pv 3) ak))))
  (ao (bf (i:=4) nd rfl (Or.inl rfl) (iZ tV (by rfl) T.g_ boot_dict (aj (pv 2) ak)))
  (ao (iB (pF PySem.F.plainAttrs_dict PySem.F.slot_dict_update PySem.F.type_dict_update YJ (pv 4) (aj (pv 3) ak)))
  (aB (aN (pv 4)))))),?_⟩
 obtain⟨ps,hP⟩:=hT.tab
 refine⟨_,rfl,v,dx,_,rfl,hV.ob,rfl,_,rfl,v,kk,t,dx,nl,xs,fs,ss,rfl,hV,hK,hin,hT,λr t' H1 cT hT1 hr1 ht1=>?_⟩
 have Ja:=cT.tu hT
 have jA:=hK.mono Ja
 have nP:∀c o,H c=some o->(∀ps,o≠ .dF ps)->H1 c=some o:=λc o e ho=>cT c o (λz=>by rw[z,hP] at e;cases e;exact ho _ rfl) e
 have Zu:=nP _ _ hsn (by intro ps z;cases z)
 have Jb:=nP _ _ xZ (by intro ps z;cases z)
 refine⟨_,rfl,r,t',sn,_,_,_,rfl,jA.few ss hr1 ht1,Zu,hH,λH2 s2=>?_⟩
 have Zv:=s2 _ _ Zu
 have ahS:=s2 _ _ Jb
 refine⟨_,rfl,src,_,rfl,ahS,λl hl=>?_⟩
 have Zw:sn≠l:=aO Zv hl
 have sF:Same H2 (upd (upd H2 l (.dK (aK f fs.names))) l (.dK (n6 (aK f fs.names) (aK g ss)))):=λc o e=>by rw[au (aO e hl),au (aO e hl)];exact e
 have h12:=hK.bM
 have am1:=hV.bM
 refine⟨_,rfl,.inr (.inr (.inl ⟨rfl,.inl ⟨_,aF⟩⟩)),_,rfl,l,sn,_,_,rfl,rfl,Ne.symm Zw,aF,by rw[au Zw];exact Zv,Q0s (cW (by rw[gD,gD];omega)),?_⟩
 refine⟨_,rfl,q l _ (cT.trans ((Kp.of s2).trans (Kp.of sF))) ((hT1.same s2).same sF) ?_⟩
 rw[aF,Zo g ss f hin]
end
end Pb
namespace L2
open PySem PySem.Spec PyProof.Rows
theorem ahT {prog:Program}{w:World}{A:Around}{E:Value->Shared->Prop}{s:Shared}{t b:Addr}{vs ws:List Value}{Q:Value->Shared->Prop}(ht:IsTup s.heap t vs.toArray)(hb:IsTup s.heap b ws.toArray)(hv:vs=[])(h0:Q (.ref b) s):wpAny (model prog w) A (binaryOp .Add (.ref t) (.ref b)) Q E s:=by
 obtain⟨⟨cls,dd,data,sl⟩,ho,hc,n,hd⟩:=id ht
 obtain⟨⟨cls2,dd2,data2,sl2⟩,ho2,hc2,n2,hd2⟩:=id hb
 simp only at hc hd hc2 hd2
 subst hc hd hc2 hd2
 exact concat_meets ⟨_,ho,rfl⟩ ⟨_,ho2,rfl⟩ noFill_tuple_add seq_tuple_add PySem.F.slot_tuple_add PySem.F.entry_tuple_add (PySem.F.args_tuple_add_2 _ _)
  (tuple_addW0 t b vs.toArray ws.toArray n n2 dd dd2 sl sl2 (by simp[hv])) ⟨ho,ho2,h0⟩
noncomputable def ahU (K:W.Frag):R2:=λx y H Q=>∃a b xs ys,x=.ref a/\y=.ref b/\aD K H a xs/\aD K H b ys/\ys≠[]/\xs.length+ys.length<=sizeLine/\
 (xs=[]->Q (.ref b) H)/\(xs≠[]->∀p,H p=none->Q (.ref p) (upd H p (.tup (xs++ys))))
theorem ahV {X:Cx}:dJ X (binaryOp .Add) (ahU X.K):=by
 intro pins s σ H x y v u Q I rx ry h
 obtain⟨a,b,xs,ys,rfl,rfl,ha,hb,hy,hz,q1,q2⟩:=h
 by_cases hx:xs=[]
 . cases rx
   cases ry
   obtain⟨its,r1,p1,_⟩:=I.tuple ha
   obtain⟨its2,r2,p2,_⟩:=I.tuple hb
   exact ahT p1 p2 (r1.zO.mpr hx) ⟨.ref b,H,I,rfl,q1 hx⟩
 . exact ad5 pins s σ H _ _ v u Q I rx ry ⟨a,b,xs,ys,rfl,rfl,ha,hb,hx,hz,λz=>absurd z hy,λ_=>q2 hx⟩
end L2
namespace Pb
open PySem L2 PyProof.Rows
theorem Zx {K:PySem.W.Frag}{a:Addr}{xs:List V}{g:TG}{tb:TS}{D:Ends}{σ:L2.St}{H:Hp}(Pv:Nat->L2.St->Hp->Prop)(h0:Pv 0 σ H)(hl:∀i σ H,i<=xs.length->Pv i σ H->aG K H a xs)
 (hs:∀(i:Nat) y σ H p,xs[i]? =some y->Pv i σ H->H p=none->g (.ref p) σ (upd H p (.tup [.int i,y])) λσ2 H2=>tb { D with nx:=Pv (i+1),ct:=Pv (i+1),bk:=D.nx } σ2 H2) (hd:∀σ H,Pv xs.length σ H->D.nx σ H):
 ∃W:Nat->Nat->L2.St->Hp->Prop,(∃m,W 0 m σ H)/\∀i m σ H,W i m σ H->
  ((Ite K a).stop i H/\D.nx σ H)\/((Ite K a).go i H/\∃N:L2.St->Hp->Prop,(∀σ' H',N σ' H'->∃m',m'<m/\W (i+1) m' σ' H')/\∀x H',(Ite K a).mW i H x H'->g x σ H' λσ2 H2=>tb { D with nx:=N,ct:=N,bk:=D.nx } σ2 H2):=by
 refine⟨λi m σ H=>m=xs.length - i/\i<=xs.length/\Pv i σ H,⟨xs.length,by simp,Q0b _,h0⟩,?_⟩
 rintro i m σ H ⟨rfl,hi,p⟩
 by_cases hlt:i<xs.length
 . refine .inr ⟨⟨xs,xs[i],hl i σ H hi p,by simp[hlt]⟩,Pv (i+1),λσ' H' p'=>⟨xs.length - (i+1),by omega,rfl,hlt,p'⟩,λx H' y=>?_⟩
   obtain⟨q,y,hq,rfl,hy,rfl⟩:=y
   exact hs i y σ H q (hy xs (hl i σ H hi p)) p hq
 . have e:i=xs.length:=by omega
   subst e
   exact .inl ⟨⟨xs,hl _ σ H (Q02 _) p,Q02 _⟩,hd σ H p⟩
noncomputable abbrev Op:=Str × V
noncomputable def Itm (H:Hp) (v:V) (o:Op):Prop:=∃c t,v=.ref c/\H c=some (.tup [.str "set",.ref t,o.2])/\H t=some (.tup [.str o.1])
noncomputable def bV (H:Hp) (xs:List V) (ops:List Op):Prop:=xs.length=ops.length/\∀(i:Nat) v o,xs[i]? =some v->ops[i]? =some o->Itm H v o
theorem Itm.mono {H H':Hp}{v:V}{o:Op}(u:Tu H H')(h:Itm H v o):Itm H' v o:=by
 obtain⟨c,t,e,h1,h2⟩:=h
 exact⟨c,t,e,u _ _ h1,u _ _ h2⟩
theorem bV.mono {H H':Hp}{xs:List V}{ops:List Op}(u:Tu H H')(h:bV H xs ops):bV H' xs ops:=⟨h.1,λi v o e1 e2=>(h.2 i v o e1 e2).mono u⟩
theorem bV.nil (H:Hp):bV H [] []:=⟨rfl,λi v o e=>by simp at e⟩
theorem bV.app {H:Hp}{xs ys:List V}{os qs:List Op}(h1:bV H xs os)(h2:bV H ys qs):bV H (xs++ys) (os++qs):=by
 refine⟨by rw[Q09,Q09,h1.1,h2.1],λi v o e1 e2=>?_⟩
 by_cases hi:i<xs.length
 . rw[Q0t hi] at e1
   rw[Q0t (by rw[<-h1.1];exact hi)] at e2
   exact h1.2 i v o e1 e2
 . rw[Q0q (by omega)] at e1
   rw[Q0q (by rw[<-h1.1];omega),<-h1.1] at e2
   exact h2.2 _ v o e1 e2
theorem bV.one {H:Hp}{v:V}{o:Op}(h:Itm H v o):bV H [v] [o]:=⟨rfl,λi v' o' e1 e2=>by
 cases i with
 |zero=>cases e1;cases e2;exact h
 |succ i=>simp at e1⟩
noncomputable def ig (fs:Fs) (ops:List Op):Prop:=∀o∈ops,∃k,fs.get o.1=some k/\dH k o.2
noncomputable def cM (f:Str->V) (ops:List Op):Str->V:=ops.foldl (λf o=>dz f o.1 o.2) f
theorem dH.Ib {k:Kd}{v:V}(h:dH k v):v≠ .non:=by
 cases k with
 |num=>obtain⟨z,rfl⟩:=h;intro z;cases z
 |eO=>obtain⟨z,rfl⟩:=h;intro z;cases z
 |_=>exact h.elim
noncomputable def Zy:Sp:=λvs H Q _=>∃kv c v0 k tv v,vs=[kv,.ref c,v0]/\KA H kv k/\H c=some (.tup [.str "set",tv,v])/\dH k v/\∀H',Same H H'->Q v H'
noncomputable def Zz:Sp:=λvs H Q _=>∃kv c e v0 k tv v,vs=[kv,.ref c,.ref e,v0]/\H e=some (.tup [])/\KA H kv k/\H c=some (.tup [.str "set",tv,v])/\dH k v/\∀H',Same H H'->Q v H'
noncomputable def ZC:Sp:=λvs H Q _=>∃t c pt a xs fs k tv v nm,∃f:Str->V,vs=[.ref t,.ref c,.ref pt,.ref a]/\H t=some (.tup xs)/\FA H xs fs/\fs.names.Nodup/\fs.names.length<=12/\H c=some (.tup [.str "set",tv,v])/\H pt=some (.tup [.str nm])/\fs.get nm=some k/\dH k v/\(∃l:List Str,nm∈l/\l.length<=12/\H a=some (.dK (aK f l))/\∀p H',Same H H'->H' p=some (.dK (aK (dz f nm v) l))->Q (.ref p) H')
noncomputable def Jc:Sp:=λvs H Q _=>∃kk t c pt a xs fs k tv v nm,∃f:Str->V,vs=[.ref kk,.ref c,.ref pt,.ref a]/\dI H kk t xs fs/\H c=some (.tup [.str "set",tv,v])/\H pt=some (.tup [.str nm])/\fs.get nm=some k/\dH k v/\(∃l:List Str,nm∈l/\l.length<=12/\H a=some (.dK (aK f l))/\∀p H',Same H H'->H' p=some (.dK (aK (dz f nm v) l))->Q (.ref p) H')
noncomputable def ZD (K:W.Frag):Sp:=λvs H Q _=>∃kk t pl a xs fs ys ops,∃f:Str->V,∃l:List Str,vs=[.ref kk,.ref pl,.ref a]/\dI H kk t xs fs/\aG K H pl ys/\bV H ys ops/\ig fs ops/\(∀o∈ops,o.1∈l)/\l.length<=12/\H a=some (.dK (aK f l))/\∀p H',Same H H'->H' p=some (.dK (aK (cM f ops) l))->Q (.ref p) H'
variable {P:Program}{w:World}{K:W.Frag}{mg:Str->Option Value}{base:Heap}
theorem BR:bC ["kind","step","value","deed","form"] ["kind","step","value"] (aL (top 42)):=by refine⟨rfl,rfl,rfl,?_,rfl,?_,?_⟩ <;> decide +kernel
theorem ahW (T:Tb mg)(j7:Dn K mg "acted" pO (top 42) rA rB)(cH:Dn K mg "misfit" cB (top 16) d_ eE)(jB:aq P w K mg base aC (1) d_ eE cB (BJ))(oA:Dn K mg "is_plain" ["kind"] (top 11) xX xY)(Jd:aq P w K mg base aC (1) xX xY ["kind"] (IV)):aq P w K mg base aC (2) rA rB pO (Zy):=by
 refine j7.F.ok BR (λvs H Q E h=>?_) (λcdv A outer s H vs Q E hr h=>?_)
 . obtain⟨kv,c,v0,k,tv,v,rfl,_⟩:=h
   rfl
 obtain⟨kv,c,v0,k,tv,v,rfl,hk,hc,hp,q⟩:=h
 have nd:=BR.nd
 refine⟨_,(ao (bf (i:=3) nd rfl (Or.inl rfl) (aZ bF (pv 1) aH (λ_ _=>rfl)))
  (ao (bf (i:=4) nd rfl (Or.inl rfl) (aZ bF (pv 0) aH (λ_ _=>rfl)))
  (ao (aV (PW.pt (o9 (aW bA (pv 3) bh (aQ _)) (o8 (PW.pt (jq (bY (aR Jd (hr.mono (by decide)) oA (aj (pv 0) ak))) (jo zW)))))) (aB (aN (fZ (aW mZ (aR jB (hr.mono (by decide)) cH (aj (pv 0) (aj (aZ bF (pv 1) aH (λ_ _=>rfl)) ak))) cD (aQ _)) (aZ bF (pv 1) aH (λ_ _=>rfl)) cD))) aU)
  (ao aM
  (ao aM
  (ao aM
  (ao aM
  (aB aM)))))))),?_⟩
 obtain⟨ka,kx,rest,rfl,hka⟩:∃ka kx rest,kv=.ref ka/\H ka=some (.tup (kx::rest)):=by
  cases k with
  |num=>unfold KA at hk;obtain⟨a,rfl,ha⟩:=hk;exact⟨a,_,_,rfl,ha⟩
  |eO=>unfold KA at hk;obtain⟨a,rfl,ha⟩:=hk;exact⟨a,_,_,rfl,ha⟩
  |_=>exact hp.elim
 refine⟨_,rfl,c,_,_,_,rfl,rfl,aD.of hc,rfl,?_⟩
 refine⟨_,rfl,ka,_,_,kx,rfl,rfl,aD.of hka,jO (j:=0) rfl,?_⟩
 refine⟨_,rfl,rfl,_,rfl,?_⟩
 rw[decide_eq_true rfl]
 refine bR ?_
 refine⟨_,rfl,_,k,rfl,hk,ahJ hp,λH1 s1=>⟨true,rfl,bR ?_⟩⟩
 have hc1:=s1 _ _ hc
 refine⟨_,rfl,_,rfl,c,_,_,_,rfl,rfl,aD.of hc1,rfl,_,v,k,rfl,KA.mono (Tu.of s1) k hk,hp,?_⟩
 refine⟨rfl,_,rfl,?_⟩
 rw[decide_eq_true rfl]
 refine bR ?_
 exact⟨_,rfl,c,_,_,_,rfl,rfl,aD.of hc1,rfl,q _ s1⟩
theorem pX:bC ["kind","step","path","value","form"] ["kind","step","path","value"] (aL (top 33)):=by refine⟨rfl,rfl,rfl,?_,rfl,?_,?_⟩ <;> decide +kernel
theorem ahX (T:Tb mg)(dY:Dn K mg "stepped" h_ (top 33) iK iM)(j7:Dn K mg "acted" pO (top 42) rA rB)(Je:aq P w K mg base aC (2) rA rB pO (Zy)):aq P w K mg base aC (3) iK iM h_ (Zz):=by
 refine dY.F.ok pX (λvs H Q E h=>?_) (λcdv A outer s H vs Q E hr h=>?_)
 . obtain⟨kv,c,e,v0,k,tv,v,rfl,_⟩:=h
   rfl
 obtain⟨kv,c,e,v0,k,tv,v,rfl,he,hk,hc,hp,q⟩:=h
 have nd:=pX.nd
 refine⟨_,(ao (aV (aW bA (aY eY (by rfl) T.dU PySem.boot_len (aj (pv 2) ak)) aH (aQ _)) (aB (aN (aR Je (hr.mono (by decide)) j7 (aj (pv 0) (aj (pv 1) (aj (pv 3) ak)))))) aU)
  (ao aM
  (ao aM
  (ao aM
  (ao aM
  (ao aM
  (aB aM))))))),?_⟩
 refine⟨_,rfl,e,_,rfl,.inr (aD.of he),rfl,_,rfl,?_⟩
 rw[decide_eq_true (show V.int (([]:List V).length:Nat)=V.int 0 from rfl)]
 refine bR ?_
 exact⟨_,rfl,_,rfl,_,rfl,kv,c,v0,k,tv,v,rfl,hk,hc,hp,q⟩
theorem BW:bC ["fields","step","path","record","name","inner","part","fresh"] ["fields","step","path","record"] (aL (top 34)):=by refine⟨rfl,rfl,rfl,?_,rfl,?_,?_⟩ <;> decide +kernel
theorem ahY (T:Tb mg)(j8:Dn K mg "stepped_in_record" pP (top 34) rD rE)(dY:Dn K mg "stepped" h_ (top 33) iK iM)(rF:aq P w K mg base aC (3) iK iM h_ (Zz))(iI:Dn K mg "kind_at" mF (top 12) n8 n_)(xR:aq P w K mg base aC (1) n8 n_ mF (Bt)):aq P w K mg base aC (4) rD rE pP (ZC):=by
 refine j8.F.ok BW (λvs H Q E h=>?_) (λcdv A outer s H vs Q E hr h=>?_)
 . obtain⟨t,c,pt,a,xs,fs,k,tv,v,nm,f,rfl,_⟩:=h
   rfl
 obtain⟨t,c,pt,a,xs,fs,k,tv,v,nm,f,rfl,ht,hfa,hnd,h12,hc,hpt,hg,hp,l,hnl,rG,ha,q⟩:=h
 have nd:=BW.nd
 have hu:=eZ hr
 refine⟨_,(ao (bf (i:=4) nd rfl (Or.inl rfl) (aZ bF (pv 2) aH (λ_ _=>rfl)))
  (ao (bf (i:=5) nd rfl (Or.inl rfl) (aR xR (hr.mono (by decide)) iI (aj (pv 0) (aj (pv 4) ak))))
  (ao (aV (aW mZ (pv 5) cD (aQ _)) (aB (aN cD)) aU)
  (ao (bf (i:=6) nd rfl (Or.inl rfl) (aR rF (hr.mono (by decide)) dY (aj (pv 5) (aj (pv 1) (aj (vX Wa (pv 2) (vW aH) vV) (aj (gk hu (pv 3) (pv 4) (λ_ _=>rfl)) ak))))))
  (ao (aV (aW mZ (pv 6) cD (aQ _)) (aB (aN cD)) aU)
  (ao (bf (i:=7) nd rfl (Or.inl rfl) (iZ tV (by rfl) T.g_ boot_dict (aj (pv 3) ak)))
  (ao (qN hu (pv 7) (pv 4) (pv 6) rfl)
  (aB (aN (pv 7)))))))))),?_⟩
 refine⟨_,rfl,pt,_,_,_,rfl,rfl,aD.of hpt,rfl,?_⟩
 refine⟨_,rfl,_,rfl,t,nm,xs,fs,k,rfl,ht,hfa,hnd,hg,λu Jf hne=>?_⟩
 refine⟨_,rfl,rfl,_,rfl,?_⟩
 rw[decide_eq_false hne]
 refine bD ?_
 refine⟨_,rfl,_,rfl,_,rfl,_,rfl,pt,_,rfl,aD.of hpt,(by rintro⟨z,_⟩;exact absurd z (show ¬HT.bG 1 0 (some 1)=0 by decide)),λe he=>?_⟩
 have s1:Same H (upd H e (.tup (eX [V.str nm] (some 1) none))):=Same.new he
 have hv0:bW (upd H e (.tup (eX [V.str nm] (some 1) none))) a (.str nm) (some (f nm)):=by
  have:=bW.k (k:=Sum.inr nm) (s1 _ _ ha)
  rw[gQ,if_pos hnl] at this
  exact this
 refine⟨_,rfl,_,rfl,a,f nm,rfl,hv0,u,c,e,_,k,tv,v,rfl,aF,KA.mono (Tu.of s1) k Jf,s1 _ _ hc,hp,λH2 s2=>?_⟩
 refine⟨_,rfl,rfl,_,rfl,?_⟩
 rw[decide_eq_false hp.Ib]
 refine bD ?_
 refine⟨_,rfl,a,_,rfl,s2 _ _ (s1 _ _ ha),λp hp2=>?_⟩
 have s3:Same H2 (upd H2 p (.dK (aK f l))):=Same.new hp2
 refine⟨_,rfl,_,rfl,_,rfl,p,_,rfl,lY.k (k:=Sum.inr nm) aF (by rw[gD];exact cW (by omega)),?_⟩
 refine⟨_,rfl,q p _ (λb o e'=>?_) ?_⟩
 . have:=s2 _ _ (s1 _ _ e')
   rw[au (aO this hp2)]
   exact s3 _ _ this
 . rw[aF,Bq v hnl]
theorem ahZ (T:Tb mg)(dY:Dn K mg "stepped" h_ (top 33) iK iM)(j8:Dn K mg "stepped_in_record" pP (top 34) rD rE)(Jg:aq P w K mg base aC (4) rD rE pP (ZC)):aq P w K mg base aC (5) iK iM h_ (Jc):=by
 refine dY.F.ok pX (λvs H Q E h=>?_) (λcdv A outer s H vs Q E hr h=>?_)
 . obtain⟨kk,t,c,pt,a,xs,fs,k,tv,v,nm,f,rfl,_⟩:=h
   rfl
 obtain⟨kk,t,c,pt,a,xs,fs,k,tv,v,nm,f,rfl,hK,hc,hpt,hg,hp,hq⟩:=h
 have nd:=pX.nd
 refine⟨_,(ao (aV (aW bA (aY eY (by rfl) T.dU PySem.boot_len (aj (pv 2) ak)) aH (aQ _)) (aB aM) aU)
  (ao (bf (i:=4) nd rfl (Or.inl rfl) (aZ bF (pv 0) aH (λ_ _=>rfl)))
  (ao (aV (aW bA (pv 4) bh (aQ _)) (aB (aN (aR Jg (hr.mono (by decide)) j8 (aj (aZ bF (pv 0) aH (λ_ _=>rfl)) (aj (pv 1) (aj (pv 2) (aj (pv 3) ak))))))) aU)
  (ao aM
  (ao aM
  (ao aM
  (aB aM))))))),?_⟩
 refine⟨_,rfl,pt,_,rfl,.inr (aD.of hpt),rfl,_,rfl,?_⟩
 rw[decide_eq_false (by intro z;cases z)]
 refine bD ?_
 refine⟨_,rfl,kk,_,_,_,rfl,rfl,aD.of hK.at_,rfl,?_⟩
 refine jQ rfl (by decide +kernel) ?_
 exact⟨_,rfl,kk,_,_,_,rfl,rfl,aD.of hK.at_,rfl,_,rfl,_,rfl,_,rfl,t,c,pt,a,xs,fs,k,tv,v,nm,f,rfl,hK.tu,hK.fa,hK.nd,hK.bM,hc,hpt,hg,hp,hq⟩
theorem BX:bC ["kind","paper","value","now","number","step"] ["kind","paper","value"] (aL (top 31)):=by refine⟨rfl,rfl,rfl,?_,rfl,?_,?_⟩ <;> decide +kernel
theorem ah0 (T:Tb mg)(jj:Dn K mg "done" pQ (top 31) rH rJ)(dY:Dn K mg "stepped" h_ (top 33) iK iM)(rF:aq P w K mg base aC (5) iK iM h_ (Jc)):aq P w K mg base aC (6) rH rJ pQ (ZD K):=by
 refine jj.F.ok BX (λvs H Q E h=>?_) (λcdv A outer s H vs Q E hr h=>?_)
 . obtain⟨kk,t,pl,a,xs,fs,ys,ops,f,l,rfl,_⟩:=h
   rfl
 obtain⟨kk,t,pl,a,xs,fs,ys,ops,f,l,rfl,hK,hpl,hP,hO,hin,rG,ha,q⟩:=h
 have nd:=BX.nd
 refine⟨_,(ao (bf (i:=3) nd rfl (Or.inl rfl) (pv 2))
  (ao (iW PassesOwn.never rfl (Gj rfl T.Hl (aj (pv 1) ak)) (gh rfl (cF (bH (i:=4) nd rfl (Or.inl rfl)) (cF (bH (i:=5) nd rfl (Or.inl rfl)) f9))) (ao (bf (i:=3) nd rfl (Or.inl rfl) (aR rF (hr.mono (by decide)) dY (aj (pv 0) (aj (pv 5) (aj (aZ bF (pv 5) aH (λ_ _=>rfl)) (aj (pv 3) ak))))))
  (aB (aV (aW mZ (pv 3) cD (aQ _)) (aB aM) aU))))
  (aB (aN (pv 3))))),?_⟩
 refine⟨_,rfl,?_⟩
 refine⟨_,rfl,pl,rfl,⟨_,hpl⟩,Zx (xs:=ys) (λi σ H'=>Same H H'/\∃p x y,σ=[some (.ref kk),some (.ref pl),some (.ref a),some (.ref p),x,y]/\H' p=some (.dK (aK (cM f (ops.take i)) l))) ⟨Same.refl _,a,_,_,rfl,ha⟩ ?_ ?_ ?_⟩
 . rintro i σ H' _ ⟨s1,_⟩
   exact Pb.aG.xQ hpl s1
 . rintro i v σ H' z hv ⟨s1,p,x,y,rfl,hp⟩ hz
   have hi:i<ops.length:=by rw[<-hP.1];exact(List.getElem?_eq_some_iff.mp hv).1
   have ho:ops[i]? =some ops[i]:=Q05 hi
   obtain⟨c,pt,rfl,hc,hpt⟩:=(hP.mono (Tu.of s1)).2 i v ops[i] hv ho
   obtain⟨k,hg,hpk⟩:=hO _ (Q0r hi)
   have s2:Same H' (upd H' z (.tup [.int i,.ref c])):=Same.new hz
   refine⟨z,_,rfl,aD.of aF,rfl,_,_,rfl,_,_,rfl,rfl,?_⟩
   refine⟨_,rfl,_,rfl,_,rfl,c,_,_,_,rfl,rfl,aD.of (s2 _ _ hc),rfl,_,rfl,kk,t,c,pt,p,xs,fs,k,_,_,_,_,rfl,(hK.mono (Tu.of s1)).mono (Tu.of s2),s2 _ _ hc,s2 _ _ hpt,hg,hpk,l,hin _ (Q0r hi),rG,s2 _ _ hp,λp' H3 s3 hp'=>?_⟩
   refine⟨_,rfl,rfl,_,rfl,?_⟩
   rw[decide_eq_false (by intro z;cases z)]
   refine bD ⟨s1.trans (s2.trans s3),p',_,_,rfl,?_⟩
   rw[hp',Q0p,ho]
   unfold cM
   rw[Q2f]
   rfl
 . rintro σ H' ⟨s1,p,x,y,rfl,hp⟩
   rw[hP.1,Q1a] at hp
   exact⟨_,rfl,q p _ s1 hp⟩
noncomputable def fH (f g:Str->V) (l:List Str):List Op:=(l.filter λx=> !decide (f x=g x)).map λx=>(x,g x)
theorem Jh (f g:Str->V)(l m:List Str):fH f g (l++m)=fH f g l++fH f g m:=by
 unfold fH;rw[Q2e,Q0k]
theorem Ji (f g:Str->V)(x:Str):fH f g [x]=if f x=g x then [] else [(x,g x)]:=by
 unfold fH
 rw[Q1l]
 by_cases e:f x=g x
 . rw[if_pos e,if_neg (by rw[decide_eq_true e];decide)];rfl
 . rw[if_neg e,if_pos (by rw[decide_eq_false e];decide)];rfl
theorem Jj (f g:Str->V)(l:List Str):(fH f g l).length<=l.length:=by
 unfold fH
 rw[Q06]
 exact Q1f _ _
theorem dH.mY {k:Kd}{v u:V}(h:dH k v)(h2:dH k u):mY v u=true:=by
 cases k with
 |num=>obtain⟨z,rfl⟩:=h;obtain⟨y,rfl⟩:=h2;rfl
 |eO=>obtain⟨z,rfl⟩:=h;obtain⟨y,rfl⟩:=h2;rfl
 |_=>exact h.elim
theorem d9.keep {Pt:Addr}{H H':Hp}{lp:Pos}{ql:Str}(x:d9 Pt H H')(hT:bw Pt lp ql H){c:Addr}{o:HO}(e:H c=some o)(ho:∀ps,o≠ .dF ps):H' c=some o:=by
 obtain⟨ps,hP⟩:=hT.tab
 exact x c o (λz=>by rw[z,hP] at e;cases e;exact ho _ rfl) e
theorem dX.keep {Pt:Addr}{H H':Hp}{lp:Pos}{ql:Str}{C v dx nl:Addr}{ss:List Str}(x:d9 Pt H H')(hT:bw Pt lp ql H)(h:dX H C v dx nl ss):dX H' C v dx nl ss:=
 ⟨x.keep hT h.ob (by intro ps z;cases z),x.keep hT h.nl (by intro ps z;cases z),h.nd,h.bM⟩
theorem dX.same {H H':Hp}{C v dx nl:Addr}{ss:List Str}(x:Same H H')(h:dX H C v dx nl ss):dX H' C v dx nl ss:=⟨x _ _ h.ob,x _ _ h.nl,h.nd,h.bM⟩
noncomputable def ZF:Sp:=λvs H Q _=>∃pt kv o n k nm,vs=[.ref pt,kv,o,n]/\KA H kv k/\dH k o/\dH k n/\H pt=some (.tup [.str nm])/\∀p ys H',Same H H'->H' p=some (.lst ys)->H p=none->bV H' ys (if o=n then [] else [(nm,n)])->Q (.ref p) H'
noncomputable def Two (fs:Fs) (ka kb:List (Key × V)) (f g:Str->V):Prop:=∀i nm k,fs.at i=some (nm,k)->dR ka (Sum.inr nm)=some (f nm)/\dR kb (Sum.inr nm)=some (g nm)/\dH k (f nm)/\dH k (g nm)
noncomputable def ZG:Sp:=λvs H Q _=>∃pt t a b xs fs ka kb,∃f g:Str->V,vs=[.ref pt,.ref t,.ref a,.ref b]/\H pt=some (.tup [])/\H t=some (.tup xs)/\FA H xs fs/\fs.names.length<=12/\H a=some (.dK ka)/\H b=some (.dK kb)/\Two fs ka kb f g/\∀p ys H',Same H H'->H' p=some (.lst ys)->bV H' ys (fH f g fs.names)->Q (.ref p) H'
noncomputable def ZJ:Sp:=λvs H Q _=>∃pt kk t a b xs fs ka kb,∃f g:Str->V,vs=[.ref pt,.ref kk,.ref a,.ref b]/\H pt=some (.tup [])/\dI H kk t xs fs/\H a=some (.dK ka)/\H b=some (.dK kb)/\Two fs ka kb f g/\∀p ys H',Same H H'->H' p=some (.lst ys)->bV H' ys (fH f g fs.names)->Q (.ref p) H'
noncomputable def ZK:Sp:=λvs H Q _=>∃kk t a b xs fs ka kb,∃f g:Str->V,vs=[.ref kk,.ref a,.ref b]/\dI H kk t xs fs/\H a=some (.dK ka)/\H b=some (.dK kb)/\Two fs ka kb f g/\∀p ys H',Same H H'->H' p=some (.lst ys)->bV H' ys (fH f g fs.names)->Q (.ref p) H'
theorem BZ:bC ["path","kind","old","new","form"] ["path","kind","old","new"] (aL (top 45)):=by refine⟨rfl,rfl,rfl,?_,rfl,?_,?_⟩ <;> decide +kernel
theorem ah1 (T:Tb mg)(j9:Dn K mg "paper_at" pR (top 45) rK rM):aq P w K mg base aC (1) rK rM pR (ZF):=by
 refine j9.F.ok BZ (λvs H Q E h=>?_) (λcdv A outer s H vs Q E hr h=>?_)
 . obtain⟨pt,kv,o,n,k,nm,rfl,_⟩:=h
   rfl
 obtain⟨pt,kv,o,n,k,nm,rfl,hk,ho,hn,hpt,q⟩:=h
 have nd:=BZ.nd
 refine⟨_,(ao (bf (i:=4) nd rfl (Or.inl rfl) (aZ bF (pv 1) aH (λ_ _=>rfl)))
  (ao (aV (aW bA (pv 4) bh (aQ _)) (aB aM) aU)
  (ao (aV (aW bA (pv 4) bh (aQ _)) (aB aM) aU)
  (ao (aV (aW bA (pv 4) bh (aQ _)) (aB aM) aU)
  (ao (aV (PW.pt (o9 (aW bA (pv 4) bh (aQ _)) (o8 zW))) (aB aM) aU)
  (aB (aN (fZ (aW bA (pv 2) (pv 3) (aQ _)) (dG ak) (dG (aj (cQ (aj bh (aj (pv 0) (aj (pv 3) ak)))) ak)))))))))),?_⟩
 obtain⟨ka,kx,rfl,hka,hkx⟩:∃ka kx,kv=.ref ka/\H ka=some (.tup [.str kx])/\(kx="number"\/kx="word"):=by
  cases k with
  |num=>unfold KA at hk;obtain⟨a,rfl,ha⟩:=hk;exact⟨a,_,rfl,ha,.inl rfl⟩
  |eO=>unfold KA at hk;obtain⟨a,rfl,ha⟩:=hk;exact⟨a,_,rfl,ha,.inr rfl⟩
  |_=>exact ho.elim
 refine⟨_,rfl,ka,_,_,_,rfl,rfl,aD.of hka,rfl,?_⟩
 have nk:∀z:Str,(z="record"\/z="rows"\/z="tree"\/z="either")->decide (V.str kx=V.str z)=false:=by
  rintro z (rfl|rfl|rfl|rfl) <;> rcases hkx with rfl|rfl <;> decide +kernel
 refine gq rfl (nk _ (.inl rfl)) ?_
 refine gq rfl (nk _ (.inr (.inl rfl))) ?_
 refine gq rfl (nk _ (.inr (.inr (.inl rfl)))) ?_
 refine⟨_,rfl,rfl,_,rfl,?_⟩
 rw[nk _ (.inr (.inr (.inr rfl)))]
 refine bD ?_
 refine⟨_,rfl,_,rfl,ho.mY hn,_,rfl,eN (λc=>?_) (λc=>?_)⟩
 . have e:o=n:=of_decide_eq_true c
   refine⟨fM,λp hp=>q p [] _ (Same.new hp) aF hp ?_⟩
   rw[if_pos e]
   exact bV.nil _
 . have e:¬o=n:=λz=>c (decide_eq_true z)
   refine⟨_,rfl,_,rfl,yZ,λt ht=>⟨gH,λp hp=>?_⟩⟩
   have s1:=Same.new ht (o:=.tup [.str "set",.ref pt,n])
   have s2:=Same.new hp (o:=.lst [.ref t])
   refine q p _ _ (s1.trans s2) aF ?_ ?_
   . cases e:H p with
     |none=>rfl
     |some o=>rw[s1 _ _ e] at hp;cases hp
   . rw[if_neg e]
     exact bV.one ⟨t,pt,rfl,s2 _ _ aF,s2 _ _ (s1 _ _ hpt)⟩
theorem ZL:bC ["path","fields","old","new","paper","name","inner"] ["path","fields","old","new"] (aL (top 46)):=by refine⟨rfl,rfl,rfl,?_,rfl,?_,?_⟩ <;> decide +kernel
theorem ah2 (T:Tb mg)(uH:Dn K mg "record_paper" A_ (top 46) Jk Jl)(j9:Dn K mg "paper_at" pR (top 45) rK rM)(Jm:aq P w K mg base aC (1) rK rM pR (ZF)):aq P w K mg base aC (2) Jk Jl A_ (ZG):=by
 refine uH.F.ok ZL (λvs H Q E h=>?_) (λcdv A outer s H vs Q E hr h=>?_)
 . obtain⟨pt,t,a,b,xs,fs,ka,kb,f,g,rfl,_⟩:=h
   rfl
 obtain⟨pt,t,a,b,xs,fs,ka,kb,f,g,rfl,hpt,ht,hfa,h12,ha,hb,h2,q⟩:=h
 have nd:=ZL.nd
 have hu:=eZ hr
 refine⟨_,(ao (bf (i:=4) nd rfl (Or.inl rfl) (dG ak))
  (ao (iW PassesOwn.never rfl (lg (pv 1)) (gh rfl (cF (bH (i:=5) nd rfl (Or.inl rfl)) (cF (bH (i:=6) nd rfl (Or.inl rfl)) f9))) (aB (iB (pF PySem.F.plainAttrs_list PySem.F.slot_list_extend PySem.F.type_list_extend ael (pv 4) (aj (aR Jm (hr.mono (by decide)) j9 (aj (aX ahV (pv 0) (cQ (aj (pv 5) ak))) (aj (pv 6) (aj (gk hu (pv 2) (pv 5) (λ_ _=>rfl)) (aj (gk hu (pv 3) (pv 5) (λ_ _=>rfl)) ak))))) ak)))))
  (aB (aN (pv 4))))),?_⟩
 refine⟨fM,λp hp=>?_⟩
 have s0:Same H (upd H p (.lst [])):=Same.new hp
 refine⟨_,rfl,t,rfl,⟨_,aD.of (s0 _ _ ht)⟩,sZ (xs:=xs) (λi σ H'=>Same H H'/\(∃x y,σ=[some (.ref pt),some (.ref t),some (.ref a),some (.ref b),some (.ref p),x,y])/\∃ys,H' p=some (.lst ys)/\bV H' ys (fH f g (fs.names.take i))) ⟨s0,⟨_,_,rfl⟩,[],aF,bV.nil _⟩ ?_ ?_ ?_⟩
 . rintro i σ H' _ ⟨s1,_⟩
   exact aD.of (s1 _ _ ht)
 . rintro i v σ H' hv ⟨s1,⟨x,y,rfl⟩,ys,hpp,hP⟩
   obtain⟨c,u,nm,k,rfl,hat,hc,hk⟩:=FA.get fs hfa hv
   obtain⟨va,vb,pf,pg⟩:=h2 i nm k hat
   have hnm:fs.names[i]? =some nm:=by rw[Fs.gZ,hat];rfl
   have hi:i<fs.names.length:=(List.getElem?_eq_some_iff.mp hnm).1
   refine⟨c,_,rfl,aD.of (s1 _ _ hc),rfl,_,_,rfl,_,_,rfl,rfl,?_⟩
   refine⟨_,rfl,.inl ⟨rfl,_,aG.of hpp⟩,_,rfl,_,rfl,gH,λz hz=>?_⟩
   have s2:=Same.new hz (o:=.tup [.str nm])
   have s12:=s1.trans s2
   refine⟨pt,z,_,_,rfl,rfl,aD.of (s12 _ _ hpt),aD.of aF,by simp,gH,λ_=>?_,λw=>absurd rfl w⟩
   have ga:bW (upd H' z (.tup [.str nm])) a (.str nm) (some (f nm)):=by
    have:=bW.k (k:=Sum.inr nm) (s12 _ _ ha)
    rw[va] at this
    exact this
   have gb:bW (upd H' z (.tup [.str nm])) b (.str nm) (some (g nm)):=by
    have:=bW.k (k:=Sum.inr nm) (s12 _ _ hb)
    rw[vb] at this
    exact this
   refine⟨_,rfl,_,rfl,_,rfl,a,_,rfl,ga,_,rfl,_,rfl,b,_,rfl,gb,z,u,_,_,k,nm,rfl,KA.mono (Tu.of s12) k hk,pf,pg,aF,λp2 zs H3 s3 hp2 hn2 hP2=>?_⟩
   have hp3:=s3 _ _ (s2 _ _ hpp)
   have hne:p2≠p:=λe=>by rw[e,s2 _ _ hpp] at hn2;cases hn2
   have hl1:ys.length<=i:=by rw[hP.1];exact Q0e (Jj _ _ _) (by rw[Q0i];omega)
   have hl2:zs.length<=1:=by rw[hP2.1];split <;> simp
   refine⟨p,p2,_,_,rfl,rfl,hp3,hp2,Q0s (cW (by omega)),?_⟩
   have tu:Tu H3 (upd H3 p (.lst (ys++zs))):=λc' xs' e=>by rw[au (kO e hp3 (by intro z;cases z))];exact e
   refine⟨λc' o e=>?_,⟨_,_,rfl⟩,_,aF,?_⟩
   . rw[au (aO e hp)]
     exact s3 _ _ (s12 _ _ e)
   . rw[Q0p,hnm,Jh]
     refine bV.app (hP.mono ((Tu.of (s2.trans s3)).trans tu)) ?_
     show bV _ zs (fH f g [nm])
     rw[Ji]
     exact hP2.mono tu
 . rintro σ H' ⟨s1,⟨x,y,rfl⟩,ys,hpp,hP⟩
   rw[FA.len fs hfa,Q1a] at hP
   exact⟨_,rfl,q p ys _ s1 hpp hP⟩
theorem ah4 (T:Tb mg)(j9:Dn K mg "paper_at" pR (top 45) rK rM)(uH:Dn K mg "record_paper" A_ (top 46) Jk Jl)(ah5:aq P w K mg base aC (2) Jk Jl A_ (ZG)):aq P w K mg base aC (3) rK rM pR (ZJ):=by
 refine j9.F.ok BZ (λvs H Q E h=>?_) (λcdv A outer s H vs Q E hr h=>?_)
 . obtain⟨pt,kk,t,a,b,xs,fs,ka,kb,f,g,rfl,_⟩:=h
   rfl
 obtain⟨pt,kk,t,a,b,xs,fs,ka,kb,f,g,rfl,hpt,hK,ha,hb,h2,q⟩:=h
 have nd:=BZ.nd
 refine⟨_,(ao (bf (i:=4) nd rfl (Or.inl rfl) (aZ bF (pv 1) aH (λ_ _=>rfl)))
  (ao (aV (aW bA (pv 4) bh (aQ _)) (aB (aN (aR ah5 (hr.mono (by decide)) uH (aj (pv 0) (aj (aZ bF (pv 1) aH (λ_ _=>rfl)) (aj (pv 2) (aj (pv 3) ak))))))) aU)
  (ao aM
  (ao aM
  (ao aM
  (aB aM)))))),?_⟩
 refine⟨_,rfl,kk,_,_,_,rfl,rfl,aD.of hK.at_,rfl,?_⟩
 refine jQ rfl (by decide +kernel) ?_
 exact⟨_,rfl,_,rfl,kk,_,_,_,rfl,rfl,aD.of hK.at_,rfl,_,rfl,_,rfl,pt,t,a,b,xs,fs,ka,kb,f,g,rfl,hpt,hK.tu,hK.fa,hK.bM,ha,hb,h2,q⟩
theorem ZM:bC ["kind","old","new"] ["kind","old","new"] (aL (top 32)):=by refine⟨rfl,rfl,rfl,?_,rfl,?_,?_⟩ <;> decide +kernel
theorem ah6 (T:Tb mg)(uI:Dn K mg "between" Ba (top 32) Jo Jp)(j9:Dn K mg "paper_at" pR (top 45) rK rM)(Jm:aq P w K mg base aC (3) rK rM pR (ZJ)):aq P w K mg base aC (4) Jo Jp Ba (ZK):=by
 refine uI.F.ok ZM (λvs H Q E h=>?_) (λcdv A outer s H vs Q E hr h=>?_)
 . obtain⟨kk,t,a,b,xs,fs,ka,kb,f,g,rfl,_⟩:=h
   rfl
 obtain⟨kk,t,a,b,xs,fs,ka,kb,f,g,rfl,hK,ha,hb,h2,q⟩:=h
 have nd:=ZM.nd
 refine⟨_,(aB (aN (aR Jm (hr.mono (by decide)) j9 (aj (cQ ak) (aj (pv 0) (aj (pv 1) (aj (pv 2) ak))))))),?_⟩
 refine⟨fM,λe he=>?_⟩
 have s1:=Same.new he (o:=.tup [])
 exact⟨_,rfl,_,rfl,_,rfl,e,kk,t,a,b,xs,fs,ka,kb,f,g,rfl,aF,hK.mono (Tu.of s1),s1 _ _ ha,s1 _ _ hb,h2,λp ys H' s2=>q p ys H' (s1.trans s2)⟩
end Pb
namespace Pb
open PySem L2
theorem Fs.yc (ss:List Str):∀{fs:Fs},fs.cu->(fs.bU ss).cu
 | .nil,h=>h
 | .cons y k r,h=>by
   show(if y∈ss then Fs.cons y k (r.bU ss) else r.bU ss).cu
   split
   . exact⟨h.1,Fs.yc ss h.2⟩
   . exact Fs.yc ss h.2
end Pb
namespace Pb
open PySem L2 PyProof.Rows
noncomputable def ZP:Sp:=λvs H Q _=>∃kv v k,vs=[kv,v]/\KA H kv k/\gw k/\Q v H
noncomputable def Hv (fs:Fs) (kvs:List (Key × V)) (f:Str->V):Prop:=∀x∈fs.names,dR kvs (Sum.inr x)=some (f x)
theorem Hv.mk {fs:Fs}{l:List Str}{f:Str->V}(h:∀x∈fs.names,x∈l):Hv fs (aK f l) f:=λx hx=>by rw[gQ,if_pos (h x hx)]
noncomputable def ZQ:Sp:=λvs H Q _=>∃t a xs fs kvs,∃f:Str->V,vs=[.ref t,.ref a]/\H t=some (.tup xs)/\FA H xs fs/\fs.cu/\fs.names.Nodup/\fs.names.length<=12/\H a=some (.dK kvs)/\Hv fs kvs f/\∀p H',Same H H'->H p=none->H' p=some (.dK (aK f fs.names))->Q (.ref p) H'
noncomputable def yd:Sp:=λvs H Q _=>∃kk t a xs fs kvs,∃f:Str->V,vs=[.ref kk,.ref a]/\dI H kk t xs fs/\fs.cu/\H a=some (.dK kvs)/\Hv fs kvs f/\∀p H',Same H H'->H p=none->H' p=some (.dK (aK f fs.names))->Q (.ref p) H'
noncomputable def Jq (P2 C:Addr):Sp:=λvs H Q _=>∃v kk t dx nl xs fs ss src kvs,∃f:Str->V,vs=[.ref v,.ref kk,.ref src]/\dX H C v dx nl ss/\dI H kk t xs fs/\fs.cu/\(∀x∈ss,x∈fs.names)/\bw P2 bK bL H/\H src=some (.dK kvs)/\Hv fs kvs f/\
 ∀p H',d9 P2 H H'->bw P2 bK bL H'->H p=none->H' p=some (.dK (aK f (fs.names.filter λx=>decide (x∈ss))))->Q (.ref p) H'
section
variable {P:Program}{w:World}{K:W.Frag}{mg:Str->Option Value}{base:Heap}
variable {C P2:Addr}
theorem B_:bC ["kind","value","form"] ["kind","value"] (aL (top 25)):=by refine⟨rfl,rfl,rfl,?_,rfl,?_,?_⟩ <;> decide +kernel
theorem ah7 (T:Tb mg)(fC:Dn K mg "copied" cB (top 25) jC jD):aq P w K mg base aC (1) jC jD cB (ZP):=by
 refine fC.F.ok B_ (λvs H Q E h=>?_) (λcdv A outer s H vs Q E hr h=>?_)
 . obtain⟨kv,v,k,rfl,_⟩:=h
   rfl
 obtain⟨kv,v,k,rfl,hk,hp,q⟩:=h
 have nd:=B_.nd
 refine⟨_,(ao (bf (i:=2) nd rfl (Or.inl rfl) (aZ bF (pv 0) aH (λ_ _=>rfl)))
  (ao (aV (aW bA (pv 2) bh (aQ _)) (aB aM) aU)
  (ao (aV (aW bA (pv 2) bh (aQ _)) (aB aM) aU)
  (ao (aV (aW bA (pv 2) bh (aQ _)) (aB aM) aU)
  (ao (aV (aW bA (pv 2) bh (aQ _)) (aB aM) aU)
  (aB (aN (pv 1)))))))),?_⟩
 cases k with
 |num=>
  unfold KA at hk
  obtain⟨a,rfl,ha⟩:=hk
  refine⟨_,rfl,a,_,_,_,rfl,rfl,aD.of ha,rfl,?_⟩
  refine gq rfl (by decide +kernel) ?_
  refine gq rfl (by decide +kernel) ?_
  refine gq rfl (by decide +kernel) ?_
  refine gq rfl (by decide +kernel) ?_
  exact⟨_,rfl,q⟩
 |eO=>
  unfold KA at hk
  obtain⟨a,rfl,ha⟩:=hk
  refine⟨_,rfl,a,_,_,_,rfl,rfl,aD.of ha,rfl,?_⟩
  refine gq rfl (by decide +kernel) ?_
  refine gq rfl (by decide +kernel) ?_
  refine gq rfl (by decide +kernel) ?_
  refine gq rfl (by decide +kernel) ?_
  exact⟨_,rfl,q⟩
 |_=>exact hp.elim
theorem ZR:bC ["fields","record","fresh","name","inner"] ["fields","record"] (aL (top 26)):=by refine⟨rfl,rfl,rfl,?_,rfl,?_,?_⟩ <;> decide +kernel
theorem ah8 (T:Tb mg)(uJ:Dn K mg "copied_record" gC (top 26) Jr Js)(fC:Dn K mg "copied" cB (top 25) jC jD)(oG:aq P w K mg base aC (1) jC jD cB (ZP)):aq P w K mg base aC (2) Jr Js gC (ZQ):=by
 refine uJ.F.ok ZR (λvs H Q E h=>?_) (λcdv A outer s H vs Q E hr h=>?_)
 . obtain⟨t,a,xs,fs,kvs,f,rfl,_⟩:=h
   rfl
 obtain⟨t,a,xs,fs,kvs,f,rfl,ht,hfa,hpl,hnd,h12,ha,hv,q⟩:=h
 have nd:=ZR.nd
 have hu:=eZ hr
 refine⟨_,(ao (bf (i:=2) nd rfl (Or.inl rfl) wj)
  (ao (iW PassesOwn.never rfl (lg (pv 0)) (gh rfl (cF (bH (i:=3) nd rfl (Or.inl rfl)) (cF (bH (i:=4) nd rfl (Or.inl rfl)) f9))) (aB (qN hu (pv 2) (pv 3) (aR oG (hr.mono (by decide)) fC (aj (pv 4) (aj (gk hu (pv 1) (pv 3) (λ_ _=>rfl)) ak))) rfl)))
  (aB (aN (pv 2))))),?_⟩
 intro p hp
 have s0:Same H (upd H p (.dK [])):=Same.new hp
 refine⟨_,rfl,t,rfl,⟨_,aD.of (s0 _ _ ht)⟩,sZ (xs:=xs) (λi σ H'=>Same H H'/\(∃x y,σ=[some (.ref t),some (.ref a),some (.ref p),x,y])/\H' p=some (.dK (aK f (fs.names.take i)))) ⟨s0,⟨_,_,rfl⟩,aF⟩ ?_ ?_ ?_⟩
 . rintro i σ H' _ ⟨s1,_⟩
   exact aD.of (s1 _ _ ht)
 . rintro i v σ H' hvx ⟨s1,⟨x,y,rfl⟩,hpp⟩
   obtain⟨c,u,nm,k,rfl,hat,hc,hk⟩:=FA.get fs hfa hvx
   have hnm:fs.names[i]? =some nm:=by rw[Fs.gZ,hat];rfl
   have hi:i<fs.names.length:=(List.getElem?_eq_some_iff.mp hnm).1
   have hie:fs.names[i]=nm:=(List.getElem?_eq_some_iff.mp hnm).2
   have ga:bW H' a (.str nm) (some (f nm)):=by
    have:=bW.k (k:=Sum.inr nm) (s1 _ _ ha)
    rw[hv nm (Q0v hnm)] at this
    exact this
   refine⟨c,_,rfl,aD.of (s1 _ _ hc),rfl,_,_,rfl,_,_,rfl,rfl,?_⟩
   refine⟨_,rfl,_,rfl,_,rfl,a,_,rfl,ga,u,_,k,rfl,KA.mono (Tu.of s1) k hk,Fs.uh hpl hat,?_⟩
   refine⟨_,rfl,_,rfl,p,_,rfl,lY.k (k:=Sum.inr nm) hpp (by rw[gD,Q0i];exact cW (by omega)),?_⟩
   refine⟨λb o e=>?_,⟨_,_,rfl⟩,?_⟩
   . rw[au (aO e hp)]
     exact s1 _ _ e
   . rw[aF,Y9 f,Q0p,hnm]
     . rfl
     . intro hm
       obtain⟨j,hj,e⟩:=Q19 hm
       rw[Q0i] at hj
       rw[Q29] at e
       exact absurd (e.trans hie.symm) (List.pairwise_iff_getElem.mp hnd j i (by omega) hi (by omega))
 . rintro σ H' ⟨s1,⟨x,y,rfl⟩,hpp⟩
   rw[FA.len fs hfa,Q1a] at hpp
   exact⟨_,rfl,q p _ s1 hp hpp⟩
theorem aia (T:Tb mg)(fC:Dn K mg "copied" cB (top 25) jC jD)(uJ:Dn K mg "copied_record" gC (top 26) Jr Js)(aib:aq P w K mg base aC (2) Jr Js gC (ZQ)):aq P w K mg base aC (3) jC jD cB (yd):=by
 refine fC.F.ok B_ (λvs H Q E h=>?_) (λcdv A outer s H vs Q E hr h=>?_)
 . obtain⟨kk,t,a,xs,fs,kvs,f,rfl,_⟩:=h
   rfl
 obtain⟨kk,t,a,xs,fs,kvs,f,rfl,hK,hpl,ha,hv,q⟩:=h
 have nd:=B_.nd
 refine⟨_,(ao (bf (i:=2) nd rfl (Or.inl rfl) (aZ bF (pv 0) aH (λ_ _=>rfl)))
  (ao (aV (aW bA (pv 2) bh (aQ _)) (aB (aN (aR aib (hr.mono (by decide)) uJ (aj (aZ bF (pv 0) aH (λ_ _=>rfl)) (aj (pv 1) ak))))) aU)
  (ao aM
  (ao aM
  (ao aM
  (aB aM)))))),?_⟩
 refine⟨_,rfl,kk,_,_,_,rfl,rfl,aD.of hK.at_,rfl,?_⟩
 refine jQ rfl (by decide +kernel) ?_
 exact⟨_,rfl,kk,_,_,_,rfl,rfl,aD.of hK.at_,rfl,_,rfl,t,a,xs,fs,kvs,f,rfl,hK.tu,hK.fa,hpl,hK.nd,hK.bM,ha,hv,q⟩
theorem ZS:bC ["view","kind","source"] ["view","kind","source"] (aL (top 51)):=by refine⟨rfl,rfl,rfl,?_,rfl,?_,?_⟩ <;> decide +kernel
theorem aic (T:Tb mg)(TK:j4 K mg C jg eV jh gF)(mL:Dn K mg "shown" tY (top 51) yg yh)(fC:Dn K mg "copied" cB (top 25) jC jD)(oG:aq P w K mg base aC (3) jC jD cB (yd))(gG:Dm K "behind" "Take.behind" jW (aJ 61 1) eV lF)(oE:aq P w K mg base aC (10) eV lF jW (uE P2 C))(uG:Dm K "see" "Take.see" pK (aJ 61 2) jh Iz)(aie:aq P w K mg base aC (2) jh Iz pK (Zi C)):aq P w K mg base aC (11) yg yh tY (Jq P2 C):=by
 have CT:=TK.ct
 have oF:=TK.b
 have aif:=TK.s
 refine mL.F.ok ZS (λvs H Q E h=>?_) (λcdv A outer s H vs Q E hr h=>?_)
 . obtain⟨v,kk,t,dx,nl,xs,fs,ss,src,kvs,f,rfl,_⟩:=h
   rfl
 obtain⟨v,kk,t,dx,nl,xs,fs,ss,src,kvs,f,rfl,hV,hK,hpl,hin,hT,xZ,hv,q⟩:=h
 have nd:=ZS.nd
 refine⟨_,(aB (aN (aR oG (hr.mono (by decide)) fC (aj (fV (pv 0) CT oF oE (hr.mono (by decide)) gG.b .nil eG (aj (pv 1) ak)) (aj (fV (pv 0) CT aif aie (hr.mono (by decide)) uG.b .nil eG (aj (pv 1) (aj (pv 2) ak))) ak))))),?_⟩
 refine⟨_,rfl,v,dx,_,rfl,hV.ob,rfl,_,rfl,v,kk,t,dx,nl,xs,fs,ss,rfl,hV,hK,hin,hT,λr t' H1 cT hT1 hr1 ht1=>?_⟩
 have rN:=hV.keep cT hT
 have jA:=hK.mono (cT.tu hT)
 have Jb:=cT.keep hT xZ (by intro ps z;cases z)
 refine⟨_,rfl,v,dx,_,rfl,rN.ob,rfl,_,rfl,_,rfl,v,_,src,dx,nl,ss,_,f,rfl,rN,Jb,λx hx=>hv x (hin x hx),λpa H2 s2 hpa _=>?_⟩
 refine⟨r,t',pa,_,_,_,f,rfl,(jA.few ss hr1 ht1).mono (Tu.of s2),Fs.yc ss hpl,hpa,Hv.mk (λx hx=>?_),λp H3 s3 hpn hp=>?_⟩
 . rw[Fs.fu] at hx
   exact of_decide_eq_true (List.mem_filter.mp hx).2
 . rw[Fs.fu] at hp
   refine q p H3 (cT.trans (Kp.of (s2.trans s3))) (hT1.same (s2.trans s3)) ?_ hp
   cases e:H p with
   |none=>rfl
   |some o=>
    obtain⟨ps,hP⟩:=hT.tab
    by_cases hpp:p=P2
    . obtain⟨ps',hP'⟩:=(hT1.same s2).tab
      rw[hpp,hP'] at hpn;cases hpn
    . rw[s2 _ _ (cT _ _ hpp e)] at hpn;cases hpn
end
end Pb
namespace L2
open PySem PySem.Spec PyProof.Rows
noncomputable def ZV (a:Addr) (o:Obj) (kvs:List (Key × V)):It:=
 ⟨λi H=>i<kvs.length/\H a=some (.cg o (.dK kvs)),λi H x H'=>∃p kv,H p=none/\x=.ref p/\kvs[i]? =some kv/\H'=upd H p (.tup [kV kv.1,kv.2]),λi H=>kvs.length<=i/\H a=some (.cg o (.dK kvs))⟩
theorem ZW:∀{kvs:List (Key × V)}{vs:List (Key × Value)}{i:Nat}{p:Key × V},KV kvs vs->kvs[i]? =some p->∃v,vs[i]? =some (p.1,v)/\RelV p.2 v
 |_,_,i,p,.nil,h=>by simp at h
 |_,_,0,p,.cons (b:=b) h t,e=>by
  have e:=Option.some.inj (show some _=some p from e)
  subst e
  exact⟨b.2,by show some b=_;rw[h.1],h.2⟩
 |_,_,i+1,p,.cons h t,e=>ZW (i:=i) t e
theorem aii:entryFor table "dict_itemiterator.__iter__"=some Builtin.«dict_keyiterator.__iter__»:=
 entryFor_alias (id':="dict_keyiterator.__iter__") (by kernel_rfl) rfl (by decide +kernel) (by kernel_rfl)
theorem aij {prog:Program}{w:World}{A:Around}{E:Value->Shared->Prop}{s:Shared}{it d:Addr}{i n ep:Nat}{ok ov:Value}{Q:Value->Shared->Prop}(hit:IsItemIter s.heap it d i n ep ok ov)(h:Q (.ref it) s):wpAny (model prog w) A (pyIter (.ref it)) Q E s:=by
 have hT:s.TypeIs (.ref it) "dict_itemiterator":=⟨_,hit,rfl⟩
 refine wpAny_pyIter_slot hT F.slot_dict_itemiterator_iter (wpAny_call_entry F.slot_dict_itemiterator_iter hT aii ?_ (F.args_dict_itemiterator_iter_1 _))
 show wpAny _ _ (ret (.ref it)) _ _ s
 exact Q03 ⟨_,rfl,"dict_itemiterator",_,hT,F.slot_dict_itemiterator_next.lookup,h⟩
theorem aik {P:Program}{w:World}{K:W.Frag}{elts:List Expr}{k:Nat}{tpos:Pos}{a it:Addr}{o:Obj}{kvs:List (Key × V)}{vs:List (Key × Value)}{ep:Nat}(rel:KV kvs vs)(ha:∀h:Heap,h.get? a=some o->h.DictAt (cJ P w) a vs ep):
 Turn P w K (.Tuple elts k tpos) (ZV a o kvs) [it] it (λi h=>∃ok ov,IsItemIter h it a i vs.length ep ok ov) where
 mem:=by simp
 obj:=λi h st b hb=>by
  have e:b=it:=by simpa using hb
  subst e
  obtain⟨ok,ov,e⟩:=st
  exact⟨_,e,λv z=>by
   have z:Data.fields _=Data.cell v:=z
   cases z⟩
 keep:=λi h h' st k=>by
  obtain⟨ok,ov,e⟩:=st
  exact⟨ok,ov,k it (by simp) _ e⟩
 item:=by
  intro X hP hw hK hc i pins s σ H E I hf st hg
  subst hP hw hK
  obtain⟨ok,ov,st⟩:=st
  obtain⟨hi,hfz⟩:=hg
  obtain⟨hao,_⟩:=I.hok a _ hfz
  have hp:kvs[i]? =some kvs[i]:=Q05 hi
  obtain⟨v,hv,rv⟩:=ZW rel hp
  obtain⟨f0,f1,f2,f3,f4,f5⟩:=hf it (by simp)
  have fr:H s.heap.objs.size=none:=I.hok.fresh (Q02 _)
  refine wpAny_pyNext_items_item st (ha _ hao) hv λkey h' hk q1 q3 _ q5=>?_
  refine⟨_,rfl,wpAny_letOwnedTupleGo_items (s:={ s with heap:=h' }) q1 λh'' g1 g2=>?_⟩
  have ne1:∀b o,s.heap.get? b=some o->b≠s.heap.objs.size:=λb o q=>Q08 (Q01 q)
  have kk:∀b o,b≠it->s.heap.get? b=some o->h''.get? b=some o:=λb o n1 q=>g2.extBut b o n1 (q5 b o n1 q)
  have pe:s.heap.objs.size≠it:=Q0m (Q01 st)
  have tup:h''.get? s.heap.objs.size=some { cls:=.type "tuple",data:=.seq #[key,v] }:=g2.extBut _ _ pe q3
  have I1:Inv X pins σ (upd H s.heap.objs.size (.tup [kV kvs[i].1,kvs[i].2])) { s with heap:=h'' }:=by
   refine I.step (g':=s.gens) (d':=s.drawn) (t':=s.toks) (ch:=[it]) (λb hb=>?_) (λb o _ _ hc q _=>?_) (λb o _ _ hc q _=>?_) (λb o _ q n=>?_) (λb o hc q=>?_) (λb ys q=>?_) (λb o v q=>?_) (λb ps q=>?_) (λm hm=>?_) (λb o q=>?_) I.bare
   . have hb:b=it:=by simpa using hb
     rw[hb]
     exact⟨f3,f1,f4,f5⟩
   . exact kk b o (λz=>hc (by simp[z])) q
   . exact⟨o.slots,kk b o (λz=>hc (by simp[z])) q⟩
   . rw[au (ne1 b o q)];exact n
   . exact⟨o,kk b o (λz=>hc (by simp[z])) q⟩
   . rw[au (aO q fr)];exact q
   . rw[au (aO q fr)];exact q
   . exact⟨#[],by rw[au (aO q fr),q];simp⟩
   . obtain⟨o,es,ep,ho,r⟩:=hm
     exact⟨o,es,ep,kk _ o (Ne.symm f1) ho,r⟩
   . by_cases hb:b=s.heap.objs.size
     . subst hb
       rw[aF] at q;cases q
       refine⟨cX,[key,v],.cons (XD hk) (.cons rv .nil),?_⟩
       exact⟨_,tup,rfl,_,rfl⟩
     . rw[au hb] at q
       refine(I.hok b o q).stay (λc v hc' z=>kk c v ?_ z) (λc z=>by rw[au (aO z fr)];exact z) λc ys z=>by rw[au (aO z fr)];exact z
       rcases hc' with z|z
       . rw[z];exact aO q f0
       . exact aO z f0
  refine⟨.ref s.heap.objs.size,_,I1,rfl,⟨s.heap.objs.size,kvs[i],fr,rfl,hp,rfl⟩,⟨key,v,g1⟩,λb hb=>?_⟩
  have hb':b=it:=by simpa using hb
  rw[hb',au (Ne.symm pe)]
  exact(hf it (by simp)).1
 done:=by
  intro X hP hw hK hc i pins s σ H E I hf st hg
  subst hP hw hK
  obtain⟨ok,ov,st⟩:=st
  obtain⟨hi,hfz⟩:=hg
  obtain⟨hao,_⟩:=I.hok a _ hfz
  obtain⟨f0,f1,f2,f3,f4,f5⟩:=hf it (by simp)
  have hl:=Paired.length rel
  exact wpAny_pyNext_items_end (I.ok.hd hc) st (ha _ hao) (Q2w (by omega)) λh' eb=>⟨rfl,I.turned (t':=s.toks) (λb o hb e=>eb b o hb e) f0 f1 f3 f4 f5⟩
 self:=λ_ _ _ _ _ st h=>by
  obtain⟨ok,ov,st⟩:=st
  exact aij st h
section
variable {X:Cx}
noncomputable def ail (H0:Hp) (tl:TE):TI:=λσ H R=>tl σ H λx H1=>∃a kvs,x=.ref a/\H1 a=some (.dK kvs)/\∀o,wN H0 a->R (ZV a o kvs) (upd H1 a (.cg o (.dK kvs)))
theorem ain {H0:Hp}(h0:X.H₀=H0){elts:List Expr}{k:Nat}{tpos apos cpos:Pos}{l:Expr}{tl:TE}(hl:PE X l tl)
 (hbase:attributeBase l "items" X.env (eval l X.env)=eval l X.env:=by rfl) (hline:(apos.endLine == cpos.line)=true:=by rfl):
 PI X (.Tuple elts k tpos) (.Call (.Attribute l "items" apos) [] [] cpos) (ail H0 tl):=by
 subst h0
 intro pins s σ H R I h
 refine wpAny_Call_method0_late hbase hline (aP (hl pins s σ H _ I h) λv s1 ⟨x,H1,I1,r1,q1⟩=>?_)
 obtain⟨a,kvs,e,hq,q⟩:=q1
 subst e
 cases r1
 obtain⟨o,vs,ep,rel,hs,hao,hda,hz,I2⟩:=I1.freeze hq
 have hat:=hda _ hao
 have hm:s1.heap.DictOf (cJ X.prog X.w) a vs:=hat.dictOf
 refine⟨"dict","dict.items",F.plainAttrs_dict,F.slot_dict_items,F.type_dict_items,hm.typeIs,hm.mapOf.noDict,?_⟩
 show wpAny _ _ (callWith cpos (.builtin "dict.items") [.ref a] [] []) _ _ s1
 refine method_meetsIn F.slot_dict_items F.entry_dict_items rfl (PySem.evalArgs_none ⟨rfl,hm.typeIs,F.args_dict_items_1 _,_,meets_dict_items (cJ X.prog X.w) a hs,⟨vs,hm⟩,?_⟩)
 have up:∀b ob,s1.heap.get? b=some ob->(s1.heap.push { cls:=.type "dict_items",data:=.fields #[.ref a] }).get? b=some ob:=λb ob e=>Q04 _ e
 refine wpAny_pyIter_items (s:={ s1 with heap:=s1.heap.push { cls:=.type "dict_items",data:=.fields #[.ref a] } }) ⟨_,Q0c _ rfl,rfl,rfl⟩ (hda _ (up _ _ hao)) ?_
 have I3:Inv X pins σ (upd H1 a (.cg o (.dK kvs))) { s1 with heap:=s1.heap.push { cls:=.type "dict_items",data:=.fields #[.ref a] } }:=I2.kept (t':=s1.toks) up
 refine⟨_,[_],_,_,upd H1 a (.cg o (.dK kvs)),rfl,I3.kept (t':=s1.toks) λb o e=>Q04 _ e,aik rel hda,⟨.none,.none,Q0c _ rfl⟩,λb hb=>?_,q o hz⟩
 have e:=List.mem_singleton.mp hb
 subst e
 exact I3.k_ (Q02 _) (I3.hok.fresh (Q02 _))
end
end L2
namespace Pb
open PySem L2 PyProof.Rows
structure iu (K:W.Frag) (CD:Addr):Prop where
 ct:Cls K CD
 nk:lu K CD "kind"
 ns:lu K CD "source"
 nv:lu K CD "views"
 np:lu K CD "past"
noncomputable abbrev jk (CD dd kk src vs ps:Addr):HO:=.ins CD dd [("kind",.ref kk),("source",.ref src),("views",.ref vs),("past",.ref ps)]
theorem mJ.bU {fs:Fs}{ss:List Str}{f g:Str->V}(nd:fs.names.Nodup)(hf:∀x k,fs.get x=some k->dH k (f x))(hg:∀x k,fs.get x=some k->dH k (g x)):Two (fs.bU ss) (aK f (fs.names.filter λx=>decide (x∈ss))) (aK g (fs.names.filter λx=>decide (x∈ss))) f g:=λi nm k hat=>by
 have e:=Fs.qU (by rw[Fs.fu];exact nd.filter _) hat
 rw[Fs.uq] at e
 by_cases z:nm∈ss
 . rw[if_pos z] at e
   have hm:nm∈fs.names.filter λx=>decide (x∈ss):=List.mem_filter.mpr ⟨Fs.get_mem e,decide_eq_true z⟩
   exact⟨by rw[gQ,if_pos hm],by rw[gQ,if_pos hm],hf _ _ e,hg _ _ e⟩
 . rw[if_neg z] at e;cases e
noncomputable def FK (fs:Fs) (f:Str->V):Prop:=∀x k,fs.get x=some k->dH k (f x)
noncomputable def ZX (P2 C CD:Addr):Sp:=λvs H Q _=>∃d v old dd kk t src vv ps dx nl xs fs ss k1 k2,∃f g:Str->V,vs=[.ref d,.ref v,.ref old]/\H d=some (jk CD dd kk src vv ps)/\dX H C v dx nl ss/\dI H kk t xs fs/\fs.cu/\(∀x∈ss,x∈fs.names)/\bw P2 bK bL H/\H old=some (.dK k1)/\Hv fs k1 f/\FK fs f/\H src=some (.dK k2)/\Hv fs k2 g/\FK fs g/\
 ∀p ys H',d9 P2 H H'->bw P2 bK bL H'->H' p=some (.lst ys)->bV H' ys (fH f g (fs.names.filter λx=>decide (x∈ss)))->Q (.ref p) H'
section
variable {P:Program}{w:World}{K:W.Frag}{mg:Str->Option Value}{base:Heap}
variable {C P2 CD:Addr}
theorem Z0:bC ["self","view","old"] ["self","view","old"] (aL (aJ 52 12)):=by refine⟨rfl,rfl,rfl,?_,rfl,?_,?_⟩ <;> decide +kernel
theorem aio (T:Tb mg)(TK:j4 K mg C jg eV jh gF)(DK:iu K CD)(uK:Dm K "paper_for" "Desk.paper_for" Bb (aJ 52 12) Ca Jt)(uI:Dn K mg "between" Ba (top 32) Jo Jp)(aip:aq P w K mg base aC (4) Jo Jp Ba (ZK))(mL:Dn K mg "shown" tY (top 51) yg yh)(Cd:aq P w K mg base aC (11) yg yh tY (Jq P2 C))(gG:Dm K "behind" "Take.behind" jW (aJ 61 1) eV lF)(oE:aq P w K mg base aC (10) eV lF jW (uE P2 C)):aq P w K mg base aC (12) Ca Jt Bb (ZX P2 C CD):=by
 have CT:=TK.ct
 have oF:=TK.b
 refine uK.F.ok Z0 (λvs H Q E h=>?_) (λcdv A outer s H vs Q E hr h=>?_)
 . obtain⟨d,v,old,dd,kk,t,src,vv,ps,dx,nl,xs,fs,ss,k1,k2,f,g,rfl,_⟩:=h
   rfl
 obtain⟨d,v,old,dd,kk,t,src,vv,ps,dx,nl,xs,fs,ss,k1,k2,f,g,rfl,hd,hV,hK,hpl,hin,hT,ho,ho1,hf,hs,hs1,hg,q⟩:=h
 have nd:=Z0.nd
 refine⟨_,(aB (aN (aR aip (hr.mono (by decide)) uI (aj (fV (pv 1) CT oF oE (hr.mono (by decide)) gG.b .nil eG (aj (cZ (pv 0) rfl) ak)) (aj (aR Cd (hr.mono (by decide)) mL (aj (pv 1) (aj (cZ (pv 0) rfl) (aj (pv 2) ak)))) (aj (aR Cd (hr.mono (by decide)) mL (aj (pv 1) (aj (cZ (pv 0) rfl) (aj (cZ (pv 0) rfl) ak)))) ak)))))),?_⟩
 refine⟨_,rfl,v,dx,_,rfl,hV.ob,rfl,_,rfl,d,CD,dd,_,_,rfl,hd,DK.ct,DK.nk,rfl,v,kk,t,dx,nl,xs,fs,ss,rfl,hV,hK,hin,hT,λr t' H1 cT hT1 hr1 ht1=>?_⟩
 have rN:=hV.keep cT hT
 have jA:=hK.mono (cT.tu hT)
 have kf:=jA.few ss hr1 ht1
 have hd1:=cT.keep hT hd (by intro ps z;cases z)
 have aiq:=cT.keep hT ho (by intro ps z;cases z)
 have air:=cT.keep hT hs (by intro ps z;cases z)
 refine⟨_,rfl,_,rfl,d,CD,dd,_,_,rfl,hd1,DK.ct,DK.nk,rfl,_,rfl,v,kk,t,dx,nl,xs,fs,ss,old,k1,f,rfl,rN,jA,hpl,hin,hT1,aiq,ho1,λpa H2 oh hT2 _ hpa=>?_⟩
 have Ju:=rN.keep oh hT1
 have xT:=jA.mono (oh.tu hT1)
 have hd2:=oh.keep hT1 hd1 (by intro ps z;cases z)
 have hs2:=oh.keep hT1 air (by intro ps z;cases z)
 refine⟨_,rfl,_,rfl,d,CD,dd,_,_,rfl,hd2,DK.ct,DK.nk,rfl,_,rfl,d,CD,dd,_,_,rfl,hd2,DK.ct,DK.ns,rfl,v,kk,t,dx,nl,xs,fs,ss,src,k2,g,rfl,Ju,xT,hpl,hin,hT2,hs2,hs1,λpb H3 mO mQ _ hpb=>?_⟩
 have kf3:=(kf.mono (oh.tu hT1)).mono (mO.tu hT2)
 refine⟨r,t',pa,pb,_,_,_,_,f,g,rfl,kf3,mO.keep hT2 hpa (by intro ps z;cases z),hpb,mJ.bU hK.nd hf hg,λp ys H4 s4 hp hP=>?_⟩
 rw[Fs.fu] at hP
 exact q p ys H4 (cT.trans (oh.trans (mO.trans (Kp.of s4)))) (mQ.same s4) hp hP
end
noncomputable abbrev Hk:=Str × Addr × List Str
noncomputable def fJ (hks:List Hk):List (Key × V):=hks.map λh=>(Sum.inr h.1,.ref h.2.1)
noncomputable def ait (H:Hp) (C:Addr) (hks:List Hk):Prop:=∀h∈hks,∃dx nl,dX H C h.2.1 dx nl h.2.2
noncomputable def gR (H:Hp) (cs:List V) (hks:List Hk) (F:List Str->List Op):Prop:=cs.length=hks.length/\∀(i:Nat) v h,cs[i]? =some v->hks[i]? =some h->∃c p ys,v=.ref c/\H c=some (.tup [.str h.1,.ref p])/\H p=some (.lst ys)/\bV H ys (F h.2.2)
noncomputable def KD (P2 d:Addr) (H H':Hp):Prop:=∀c o,c≠P2->c≠d->H c=some o->H' c=some o
noncomputable def Z1 (P2 C CD:Addr):Sp:=λvs H Q _=>∃d new dd kk t src vv ps xs fs hks k1 k2,∃f g:Str->V,vs=[.ref d,.ref new]/\H d=some (jk CD dd kk src vv ps)/\H vv=some (.dK (fJ hks))/\ait H C hks/\hks.length<=12/\dI H kk t xs fs/\fs.cu/\(∀h∈hks,∀x∈h.2.2,x∈fs.names)/\bw P2 bK bL H/\src≠vv/\new≠vv/\H src=some (.dK k1)/\Hv fs k1 f/\FK fs f/\H new=some (.dK k2)/\Hv fs k2 g/\FK fs g/\
 ∀p cs H',KD P2 d H H'->bw P2 bK bL H'->H' d=some (jk CD dd kk new vv ps)->H' p=some (.lst cs)->gR H' cs hks (λss=>fH f g (fs.names.filter λx=>decide (x∈ss)))->Q (.ref p) H'
theorem gR.keep {H H':Hp}{cs:List V}{hks:List Hk}{F:List Str->List Op}(k:∀c o,((∃xs,o=.tup xs)\/∃xs,o=.lst xs)->H c=some o->H' c=some o)(h:gR H cs hks F):gR H' cs hks F:=by
 refine⟨h.1,λi v hk e1 e2=>?_⟩
 obtain⟨c,p,ys,e,h1,h2,h3⟩:=h.2 i v hk e1 e2
 exact⟨c,p,ys,e,k _ _ (.inl ⟨_,rfl⟩) h1,k _ _ (.inr ⟨_,rfl⟩) h2,h3.mono λc xs e=>k _ _ (.inl ⟨_,rfl⟩) e⟩
theorem gR.snoc {H:Hp}{cs:List V}{hks:List Hk}{F:List Str->List Op}{v:V}{hk:Hk}(h:gR H cs hks F)(hv:∃c p ys,v=.ref c/\H c=some (.tup [.str hk.1,.ref p])/\H p=some (.lst ys)/\bV H ys (F hk.2.2)):gR H (cs++[v]) (hks++[hk]) F:=by
 refine⟨by rw[Q09,Q09,h.1];rfl,λi v' hk' e1 e2=>?_⟩
 by_cases hi:i<cs.length
 . rw[Q0t hi] at e1
   rw[Q0t (by rw[<-h.1];exact hi)] at e2
   exact h.2 i v' hk' e1 e2
 . rw[Q0q (by omega)] at e1
   rw[Q0q (by rw[<-h.1];omega),<-h.1] at e2
   cases hj:i - cs.length with
   |zero=>
    rw[hj] at e1 e2
    cases e1
    cases e2
    exact hv
   |succ j=>rw[hj] at e1;cases e1
theorem _root_.L2.bw.GZ {P:Addr}{lp:Pos}{ql:Str}{H:Hp}{a:Addr}{o:Obj}{kvs:List (Key × V)}{u:HO}(h:bw P lp ql H)(ha:H a=some (.cg o (.dK kvs))):bw P lp ql (upd H a u):=by
 have nn:∀{c:Addr} {v:HO},H c=some v->(∀o' w,v≠ .cg o' w)->c≠a:=λ{c v} e hv z=>by rw[z,ha] at e;cases e;exact hv _ _ rfl
 rcases h with e|⟨c,e,fe⟩
 . exact .inl (by rw[au (nn e (by intro o' w z;cases z))];exact e)
 . exact .inr ⟨c,by rw[au (nn e (by intro o' w z;cases z))];exact e,by rw[au (nn fe (by intro o' w z;cases z))];exact fe⟩
section
variable {P:Program}{w:World}{K:W.Frag}{mg:Str->Option Value}{base:Heap}
variable {C P2 CD:Addr}
theorem Z2:bC ["self","new","old"] ["self","new"] (aL (aJ 52 11)):=by refine⟨rfl,rfl,rfl,?_,rfl,?_,?_⟩ <;> decide +kernel
theorem aiu (T:Tb mg)(DK:iu K CD)(aiv:Meth K CD "paper_for" Ca)(uL:Dm K "moved_to" "Desk.moved_to" je (aJ 52 11) Ce Jv)(uK:Dm K "paper_for" "Desk.paper_for" Bb (aJ 52 12) Ca Jt)(aiw:aq P w K mg base aC (12) Ca Jt Bb (ZX P2 C CD)):aq P w K mg base aC (13) Ce Jv je (Z1 P2 C CD):=by
 have eF:=DK.ct
 refine uL.F.ok Z2 (λvs H Q E h=>?_) (λcdv A outer s H vs Q E hr h=>?_)
 . obtain⟨d,new,dd,kk,t,src,vv,ps,xs,fs,hks,k1,k2,f,g,rfl,_⟩:=h
   rfl
 obtain⟨d,new,dd,kk,t,src,vv,ps,xs,fs,hks,k1,k2,f,g,rfl,hd,jl,hHk,h12,hK,hpl,hin,hT,jE,nnv,hs,hs1,hf,hn,hn1,hg,q⟩:=h
 have nd:=Z2.nd
 refine⟨_,(ao (bf (i:=2) nd rfl (Or.inr rfl) (cZ (pv 0) rfl))
  (ao (tH (pv 0) (pv 1) rfl)
  (aB (aN (XH rfl (jc (g:=(qF K 2 (jr (cL 0) (jr (cL 1) qD)))) (tt:=gn) (te:=(pB (cj (bB 0) (cj _ gj)))) (own:=["name","view"]) rfl (dw.of (N:=["self","new","old"]) (sc:=aL (aJ 52 11)) rfl rfl rfl (by decide +kernel)) (ain rfl (cZ (pv 0) rfl)) (λ_ _ _ _ _=>(gh rfl (cF (bH (i:=0) (show(["name","view","self","new","old"]:List Str).Nodup by decide +kernel) rfl (Or.inl rfl) (.inr rfl)) (cF (bH (i:=1) (show(["name","view","self","new","old"]:List Str).Nodup by decide +kernel) rfl (Or.inl rfl) (.inr rfl)) f9)))) (λ_ _ _ _ _=>i_) (λ_ _ _ _ _=>(cQ (aj (pv 0) (aj (fV (pv 2) eF aiv aiw (hr.mono (by decide)) uK.b .nil eG (aj (pv 1) (aj (pv 4) ak))) ak)))))))))),?_⟩
 refine⟨_,rfl,d,CD,dd,_,_,rfl,hd,DK.ct,DK.ns,rfl,?_⟩
 refine⟨_,rfl,_,rfl,d,CD,dd,_,rfl,hd,DK.ct,DK.ns,by show 4<1000;decide,?_⟩
 have e1:upd H d (.ins CD dd (cY "source" (.ref new) [("kind",.ref kk),("source",.ref src),("views",.ref vv),("past",.ref ps)]))=upd H d (jk CD dd kk new vv ps):=rfl
 rw[e1]
 have hd1:upd H d (jk CD dd kk new vv ps) d=some (jk CD dd kk new vv ps):=aF
 have k0:∀c o,c≠d->H c=some o->upd H d (jk CD dd kk new vv ps) c=some o:=λc o hc e=>by rw[au hc];exact e
 have rO:∀{c:Addr} {o:HO},H c=some o->(∀a b l,o≠ .ins a b l)->c≠d:=λ{c o} e ho z=>by rw[z,hd] at e;cases e;exact ho _ _ _ rfl
 generalize upd H d (jk CD dd kk new vv ps)=H1 at hd1 k0
 obtain⟨pt,hPt⟩:=hT.tab
 have Z4:P2≠d:=rO hPt (by intro a b l z;cases z)
 have Jw:vv≠d:=rO jl (by intro a b l z;cases z)
 have Z5:=k0 _ _ Jw jl
 have hT1:bw P2 bK bL H1:=by
  rcases hT with e|⟨c,e,fe⟩
  . exact .inl (k0 _ _ Z4 e)
  . exact .inr ⟨c,k0 _ _ Z4 e,k0 _ _ (rO fe (by intro a b l z;cases z)) fe⟩
 refine⟨_,rfl,d,CD,dd,_,_,rfl,hd1,DK.ct,DK.nv,rfl,vv,_,rfl,Z5,λo hz=>?_⟩
 have nvP:vv≠P2:=λz=>by rw[z,hPt] at jl;cases jl
 have f2:upd H1 vv (.cg o (.dK (fJ hks))) vv=some (.cg o (.dK (fJ hks))):=aF
 have k2':∀c u,c≠vv->H1 c=some u->upd H1 vv (.cg o (.dK (fJ hks))) c=some u:=λc u hc e=>by rw[au hc];exact e
 generalize upd H1 vv (.cg o (.dK (fJ hks)))=H2 at f2 k2'
 have hT2:bw P2 bK bL H2:=by
  have nn:∀{c:Addr} {u:HO},H1 c=some u->(∀kv,u≠ .dK kv)->c≠vv:=λ{c u} e hu z=>by rw[z,Z5] at e;cases e;exact hu _ rfl
  rcases hT1 with e|⟨c,e,fe⟩
  . exact .inl (k2' _ _ (nn e (by intro kv z;cases z)) e)
  . exact .inr ⟨c,k2' _ _ (nn e (by intro kv z;cases z)) e,k2' _ _ (nn fe (by intro kv z;cases z)) fe⟩
 have uM:∀c u,c≠d->c≠vv->H c=some u->H2 c=some u:=λc u h1 h2 e=>k2' c u h2 (k0 c u h1 e)
 have Jx:∀{c:Addr} {u:HO},H c=some u->(∀kv,u≠ .dK kv)->c≠vv:=λ{c u} e hu z=>by rw[z,jl] at e;cases e;exact hu _ rfl
 have Bp:Tu H H2:=λc ys e=>uM c _ (rO e (by intro a b l z;cases z)) (Jx e (by intro kv z;cases z)) e
 have hd2:H2 d=some (jk CD dd kk new vv ps):=k2' _ _ (Ne.symm Jw) hd1
 have xT:=hK.mono Bp
 have hs2:H2 src=some (.dK k1):=uM _ _ (rO hs (by intro a b l z;cases z)) jE hs
 have hn2:H2 new=some (.dK k2):=uM _ _ (rO hn (by intro a b l z;cases z)) nnv hn
 have Ju:∀h∈hks,∃dx nl,dX H2 C h.2.1 dx nl h.2.2:=λh hh=>by
  obtain⟨dx,nl,hV⟩:=hHk h hh
  refine⟨dx,nl,uM _ _ (λz=>?_) (Jx hV.ob (by intro kv z;cases z)) hV.ob,uM _ _ (rO hV.nl (by intro a b l z;cases z)) (Jx hV.nl (by intro kv z;cases z)) hV.nl,hV.nd,hV.bM⟩
  have:=hV.ob
  rw[z,hd] at this
  cases this
 refine⟨λi m ys H'=>m=hks.length - i/\i<=hks.length/\d9 P2 H2 H'/\bw P2 bK bL H'/\gR H' ys (hks.take i) (λss=>fH f g (fs.names.filter λx=>decide (x∈ss))),⟨_,rfl,Q0b _,Kp.of (Same.refl _),hT2,rfl,λi v h e=>by cases e⟩,?_⟩
 rintro i m ys H' ⟨rfl,hi0,kp,hT',hP⟩
 have hvl:(fJ hks).length=hks.length:=Q06 _
 have hfz:=kp.keep hT2 f2 (by intro ps z;cases z)
 by_cases hi:i<hks.length
 . refine .inr ⟨⟨by rw[hvl];exact hi,hfz⟩,by rw[hP.1,Q0i];exact cW (by omega),λx gM y=>?_⟩
   obtain⟨p,kv,hp,rfl,hkv,rfl⟩:=y
   have hki:hks[i]? =some hks[i]:=Q05 hi
   have ekv:kv=(Sum.inr hks[i].1,.ref hks[i].2.1):=by
    unfold fJ at hkv
    rw[Q0g,hki] at hkv
    exact(Option.some.inj hkv).symm
   subst ekv
   have hmem:hks[i]∈hks:=Q0r hi
   obtain⟨dx,nl,hV⟩:=Ju _ hmem
   have s3:=Same.new hp (o:=.tup [kV (Sum.inr hks[i].1),.ref hks[i].2.1])
   have mO:d9 P2 H2 (upd H' p (.tup [kV (Sum.inr hks[i].1),.ref hks[i].2.1])):=kp.trans (Kp.of s3)
   have mQ:=hT'.same s3
   refine⟨p,_,rfl,aD.of aF,rfl,_,_,rfl,_,_,rfl,rfl,rfl,L2.yes (bR ?_)⟩
   refine⟨_,rfl,_,rfl,d,dd,_,rfl,mO.keep hT2 hd2 (by intro ps z;cases z),rfl,_,rfl,_,rfl,d,hks[i].2.1,src,dd,kk,t,new,vv,ps,dx,nl,xs,fs,hks[i].2.2,k1,k2,f,g,rfl,mO.keep hT2 hd2 (by intro ps z;cases z),hV.keep mO hT2,xT.mono (mO.tu hT2),hpl,hin _ hmem,mQ,mO.keep hT2 hs2 (by intro ps z;cases z),hs1,hf,mO.keep hT2 hn2 (by intro ps z;cases z),hn1,hg,λp4 ys4 H4 kp4 Cg Jy hP4=>?_⟩
   refine⟨cX,λc hc=>?_⟩
   have s5:=Same.new hc (o:=.tup [.str hks[i].1,.ref p4])
   have Z6:d9 P2 H' (upd H4 c (.tup [.str hks[i].1,.ref p4])):=(Kp.of s3).trans (kp4.trans (Kp.of s5))
   refine⟨hks.length - (i+1),by omega,rfl,hi,kp.trans Z6,Cg.same s5,?_⟩
   rw[Q0p,hki]
   refine(hP.keep λc' o' ho e=>Z6.keep hT' e (by rcases ho with⟨_,rfl⟩|⟨_,rfl⟩ <;> intro ps z <;> cases z)).snoc ⟨c,p4,ys4,rfl,aF,s5 _ _ Jy,hP4.mono (Tu.of s5)⟩
 . refine .inl ⟨⟨by rw[hvl];omega,hfz⟩,λr hr'=>?_⟩
   have s6:=Same.new hr' (o:=.lst ys)
   have Ci:=s6 _ _ hfz
   have e6:upd H' r (.lst ys) r=some (.lst ys):=aF
   refine⟨vv,o,_,hz,Ci,?_⟩
   have Jz:d9 P2 H2 (upd H' r (.lst ys)):=kp.trans (Kp.of s6)
   have rP:=hT'.same s6
   have JB:=hP.keep λc' o' _ e=>s6 _ _ e
   generalize upd H' r (.lst ys)=H6 at Ci e6 Jz rP JB
   have nn:∀{c:Addr} {v:HO},H6 c=some v->(∀o' w,v≠ .cg o' w)->c≠vv:=λ{c v} e hv z=>by rw[z,Ci] at e;cases e;exact hv _ _ rfl
   rw[Q1b (by omega)] at JB
   refine q r ys _ (λc u n1 n2 e=>?_) (rP.GZ Ci) ?_ ?_ (JB.keep λc' o' ho e=>?_)
   . by_cases hc:c=vv
     . rw[hc,aF,<-e,hc,jl]
     . rw[au hc]
       exact Jz c u n1 (uM c u n2 hc e)
   . rw[au (Ne.symm Jw)]
     exact Jz.keep hT2 hd2 (by intro ps z;cases z)
   . rw[au (nn e6 (by intro o' w z;cases z))]
     exact e6
   . rw[au (nn e (by rcases ho with⟨_,rfl⟩|⟨_,rfl⟩ <;> intro o' w z <;> cases z))]
     exact e
end
structure cN (H:Hp) (C CD d dd kk t src vv ps:Addr) (xs:List V) (fs:Fs) (f:Str->V) (hks:List Hk) (pl:List V):Prop where
 ob:H d=some (jk CD dd kk src vv ps)
 jE:src≠vv
 hk:∀h∈hks,∃dx nl,dX H C h.2.1 dx nl h.2.2/\nl≠ps
 bM:hks.length<=12
 oH:(hks.map (·.1)).Nodup
 kd:dI H kk t xs fs
 cu:fs.cu
 inn:∀h∈hks,∀x∈h.2.2,x∈fs.names
 sr:H src=some (.dK (aK f fs.names))
 fk:FK fs f
 vs:H vv=some (.dK (fJ hks))
 past:H ps=some (.lst pl)
noncomputable def KP (P2 d ps:Addr) (H H':Hp):Prop:=∀c o,c≠P2->c≠d->c≠ps->H c=some o->H' c=some o
theorem KP.keep {P2 d ps:Addr}{H H':Hp}(k:KP P2 d ps H H')(hT:bw P2 bK bL H){CD dd kk src vv:Addr}(hd:H d=some (jk CD dd kk src vv ps)){pl:List V}(hp:H ps=some (.lst pl)){c:Addr}{o:HO}(e:H c=some o)(h1:∀ps,o≠ .dF ps)(h2:∀a b l,o≠ .ins a b l)(h3:∀l,o≠ .lst l):H' c=some o:=by
 obtain⟨pt,hP⟩:=hT.tab
 exact k c o (λz=>by rw[z,hP] at e;cases e;exact h1 _ rfl) (λz=>by rw[z,hd] at e;cases e;exact h2 _ _ _ rfl) (λz=>by rw[z,hp] at e;cases e;exact h3 _ rfl) e
theorem cN.go {P2:Addr}{H H':Hp}{C CD d dd kk t src vv ps src':Addr}{xs:List V}{fs:Fs}{f g:Str->V}{hks:List Hk}{pl gU:List V}(h:cN H C CD d dd kk t src vv ps xs fs f hks pl)(k:KP P2 d ps H H')(hT:bw P2 bK bL H)(hd:H' d=some (jk CD dd kk src' vv ps))(hs:H' src'=some (.dK (aK g fs.names)))(hg:FK fs g)(hn:src'≠vv)(hp:H' ps=some (.lst gU)):cN H' C CD d dd kk t src' vv ps xs fs g hks gU:=by
 have Z7:=@KP.keep _ _ _ _ _ k hT _ _ _ _ _ h.ob _ h.past
 have tu:Tu H H':=λc xs e=>Z7 e (by intro ps z;cases z) (by intro a b l z;cases z) (by intro l z;cases z)
 obtain⟨pt,hP⟩:=hT.tab
 refine⟨hd,hn,λx hx=>?_,h.bM,h.oH,h.kd.mono tu,h.cu,h.inn,hs,hg,Z7 h.vs (by intro ps z;cases z) (by intro a b l z;cases z) (by intro l z;cases z),hp⟩
 obtain⟨dx,nl,hV,hne⟩:=h.hk x hx
 refine⟨dx,nl,⟨k _ _ (λz=>?_) (λz=>?_) (λz=>?_) hV.ob,k _ _ (λz=>?_) (λz=>?_) hne hV.nl,hV.nd,hV.bM⟩,hne⟩
 . have:=hV.ob;rw[z,hP] at this;cases this
 . have:=hV.ob;rw[z,h.ob] at this;cases this
 . have:=hV.ob;rw[z,h.past] at this;cases this
 . have:=hV.nl;rw[z,hP] at this;cases this
 . have:=hV.nl;rw[z,h.ob] at this;cases this
noncomputable def lG (fs:Fs) (f g:Str->V):List Str->List Op:=λss=>fH f g (fs.names.filter λx=>decide (x∈ss))
noncomputable def yj (P2 C CD:Addr):Sp:=λvs H Q _=>∃d new dd kk t src vv ps xs fs hks pl k2,∃f g:Str->V,vs=[.ref d,.ref new]/\cN H C CD d dd kk t src vv ps xs fs f hks pl/\bw P2 bK bL H/\pl.length<=900/\H new=some (.dK k2)/\Hv fs k2 g/\FK fs g/\
 ∀p cs src' H',KP P2 d ps H H'->bw P2 bK bL H'->cN H' C CD d dd kk t src' vv ps xs fs g hks (pl++[.ref src])->H' p=some (.lst cs)->gR H' cs hks (lG fs f g)->Q (.ref p) H'
section
variable {P:Program}{w:World}{K:W.Frag}{mg:Str->Option Value}{base:Heap}
variable {C P2 CD:Addr}
theorem Z8:bC ["self","new"] ["self","new"] (aL (aJ 52 10)):=by refine⟨rfl,rfl,rfl,?_,rfl,?_,?_⟩ <;> decide +kernel
theorem aiC (T:Tb mg)(DK:iu K CD)(aiD:Meth K CD "moved_to" Ce)(iQ:Dm K "did" "Desk.did" je (aJ 52 10) jF oJ)(uL:Dm K "moved_to" "Desk.moved_to" je (aJ 52 11) Ce Jv)(aiE:aq P w K mg base aC (13) Ce Jv je (Z1 P2 C CD))(fC:Dn K mg "copied" cB (top 25) jC jD)(oG:aq P w K mg base aC (3) jC jD cB (yd)):aq P w K mg base aC (14) jF oJ je (yj P2 C CD):=by
 have eF:=DK.ct
 refine iQ.F.ok Z8 (λvs H Q E h=>?_) (λcdv A outer s H vs Q E hr h=>?_)
 . obtain⟨d,new,dd,kk,t,src,vv,ps,xs,fs,hks,pl,k2,f,g,rfl,_⟩:=h
   rfl
 obtain⟨d,new,dd,kk,t,src,vv,ps,xs,fs,hks,pl,k2,f,g,rfl,hD,hT,pY,hn,hn1,hg,q⟩:=h
 have nd:=Z8.nd
 refine⟨_,(ao (iB (pF PySem.F.plainAttrs_list PySem.F.slot_list_append PySem.F.type_list_append zP (cZ (pv 0) rfl) (aj (cZ (pv 0) rfl) ak)))
  (aB (aN (fV (pv 0) eF aiD aiE (hr.mono (by decide)) uL.b .nil eG (aj (aR oG (hr.mono (by decide)) fC (aj (cZ (pv 0) rfl) (aj (pv 1) ak))) ak))))),?_⟩
 refine⟨_,rfl,d,CD,dd,_,_,rfl,hD.ob,DK.ct,DK.np,rfl,.inl ⟨rfl,_,aG.of hD.past⟩,_,rfl,d,CD,dd,_,_,rfl,hD.ob,DK.ct,DK.ns,rfl,ps,_,_,rfl,rfl,hD.past,cW (by omega),?_⟩
 have e1:upd H ps (.lst (pl++[.ref src])) ps=some (.lst (pl++[.ref src])):=aF
 have k1:KP P2 d ps H (upd H ps (.lst (pl++[.ref src]))):=λc o _ _ h e=>by rw[au h];exact e
 have Cj:∀{c:Addr} {o:HO},H c=some o->(∀l,o≠ .lst l)->upd H ps (.lst (pl++[.ref src])) c=some o:=λ{c o} e ho=>by
  rw[au (λz=>by rw[z,hD.past] at e;cases e;exact ho _ rfl)]
  exact e
 have hd1:=Cj hD.ob (by intro l z;cases z)
 have hT1:bw P2 bK bL (upd H ps (.lst (pl++[.ref src]))):=hT.keep λc o ho e=>Cj e ho
 have hD1:=hD.go k1 hT hd1 (Cj hD.sr (by intro l z;cases z)) hD.fk hD.jE e1
 have hn':=Cj hn (by intro l z;cases z)
 generalize upd H ps (.lst (pl++[.ref src]))=H1 at e1 k1 hd1 hT1 hD1 hn'
 refine⟨_,rfl,d,dd,_,rfl,hd1,rfl,_,rfl,d,CD,dd,_,_,rfl,hd1,DK.ct,DK.nk,rfl,_,rfl,kk,t,new,xs,fs,k2,g,rfl,hD1.kd,hD.cu,hn',hn1,λsrc' H2 s2 hsn hs'=>?_⟩
 have oK:src'≠vv:=λz=>by rw[z,hD1.vs] at hsn;cases hsn
 have hD2:=hD1.go (P2:=P2) (λc o _ _ _ e=>s2 c o e) hT1 (s2 _ _ hd1) (s2 _ _ hD1.sr) hD.fk hD.jE (s2 _ _ e1)
 have hT2:=hT1.same s2
 refine⟨d,src',dd,kk,t,src,vv,ps,xs,fs,hks,_,_,f,g,rfl,hD2.ob,hD2.vs,(λh hh=>by obtain⟨dx,nl,hV,_⟩:=hD2.hk h hh;exact⟨dx,nl,hV⟩),hD.bM,hD2.kd,hD.cu,hD.inn,hT2,hD.jE,oK,hD2.sr,Hv.mk (λx hx=>hx),hD.fk,hs',Hv.mk (λx hx=>hx),hg,λp cs H3 k3 mQ G5 hp hP=>?_⟩
 obtain⟨pt,hPt⟩:=hT2.tab
 have ndp:ps≠d:=λz=>by have:=hD.past;rw[z,hD.ob] at this;cases this
 have nP:∀{c:Addr} {o:HO},H2 c=some o->(∀ps,o≠ .dF ps)->c≠P2:=λ{c o} e ho z=>by rw[z,hPt] at e;cases e;exact ho _ rfl
 have aiG:=k3 _ _ (nP hD2.past (by intro ps z;cases z)) ndp hD2.past
 have hs3:=k3 _ _ (nP hs' (by intro ps z;cases z)) (λz=>by rw[z,s2 _ _ hd1] at hs';cases hs') hs'
 have kA:KP P2 d ps H H3:=λc o n1 n2 n3 e=>k3 c o n1 n2 (s2 _ _ (k1 c o n1 n2 n3 e))
 exact q p cs src' H3 kA mQ (hD.go kA hT G5 hs3 hg oK aiG) hp hP
end
theorem yp:∀{hks:List Hk}{h:Hk},(hks.map (·.1)).Nodup->h∈hks->dR (fJ hks) (Sum.inr h.1)=some (.ref h.2.1)
 |x::r,h,nd,hm=>by
  show dR ((Sum.inr x.1,.ref x.2.1)::fJ r) (Sum.inr h.1)=_
  rcases List.mem_cons.mp hm with e|e
  . subst e
    rw[v5 rfl]
  . have nd':x.1 ∉ r.map (·.1)/\(r.map (·.1)).Nodup:=List.nodup_cons.mp nd
    rw[tK (λz=>nd'.1 (by rw[Sum.inr.inj z];exact List.mem_map.mpr ⟨h,e,rfl⟩))]
    exact yp nd'.2 e
theorem JC {fs:Fs}:∀{ops:List Op}{f:Str->V},FK fs f->ig fs ops->FK fs (cM f ops)
 |[],f,h,_=>h
 |o::r,f,h,ho=>by
  refine JC (ops:=r) (f:=dz f o.1 o.2) (λx k e=>?_) λo' h'=>ho o' (Q0j _ h')
  unfold dz
  by_cases z:x=o.1
  . rw[if_pos z]
    obtain⟨k',e',p⟩:=ho o Q0f
    rw[z,e'] at e
    cases e
    exact p
  . rw[if_neg z]
    exact h x k e
theorem Z9 {fs:Fs}{ops:List Op}(h:ig fs ops):∀o∈ops,o.1∈fs.names:=λo ho=>by
 obtain⟨k,e,_⟩:=h o ho
 exact Fs.get_mem e
noncomputable def Ck (C CD:Addr):Sp:=λvs H Q _=>∃d dd kk t src vv ps xs fs hks pl h,∃f:Str->V,vs=[.ref d,.str h.1]/\cN H C CD d dd kk t src vv ps xs fs f hks pl/\h∈hks/\Q .non H
noncomputable def Z_ (C CD:Addr):Sp:=λvs H Q _=>∃d dd kk t src vv ps xs fs hks pl,∃f:Str->V,vs=[.ref d]/\cN H C CD d dd kk t src vv ps xs fs f hks pl/\∀p H',Same H H'->H p=none->H' p=some (.dK (aK f fs.names))->Q (.ref p) H'
noncomputable def aac (P2 C CD:Addr):Sp:=λvs H Q _=>∃d dd kk t src vv ps xs fs hks pl h,∃f:Str->V,vs=[.ref d,.str h.1]/\cN H C CD d dd kk t src vv ps xs fs f hks pl/\h∈hks/\bw P2 bK bL H/\
 ∀p H',d9 P2 H H'->bw P2 bK bL H'->H p=none->H' p=some (.dK (aK f (fs.names.filter λx=>decide (x∈h.2.2))))->Q (.ref p) H'
noncomputable def aad (K:W.Frag) (P2 C CD:Addr):Sp:=λvs H Q _=>∃d pa dd kk t src vv ps xs fs hks pl ys ops,∃f:Str->V,vs=[.ref d,.ref pa]/\cN H C CD d dd kk t src vv ps xs fs f hks pl/\bw P2 bK bL H/\pl.length<=900/\H pa=some (.lst ys)/\bV H ys ops/\ig fs ops/\
 ∀p cs src' H',KP P2 d ps H H'->bw P2 bK bL H'->cN H' C CD d dd kk t src' vv ps xs fs (cM f ops) hks (pl++[.ref src])->H' p=some (.lst cs)->gR H' cs hks (lG fs f (cM f ops))->Q (.ref p) H'
section
variable {P:Program}{w:World}{K:W.Frag}{mg:Str->Option Value}{base:Heap}
variable {C P2 CD:Addr}
theorem aae:bC ["self","name"] ["self","name"] (aL (aJ 52 3)):=by refine⟨rfl,rfl,rfl,?_,rfl,?_,?_⟩ <;> decide +kernel
theorem aiH (T:Tb mg)(DK:iu K CD)(j_:Dm K "ask_hung" "Desk.ask_hung" jX (aJ 52 3) mR rQ):aq P w K mg base aC (1) mR rQ jX (Ck C CD):=by
 refine j_.F.ok aae (λvs H Q E h=>?_) (λcdv A outer s H vs Q E hr h=>?_)
 . obtain⟨d,dd,kk,t,src,vv,ps,xs,fs,hks,pl,h,f,rfl,_⟩:=h
   rfl
 obtain⟨d,dd,kk,t,src,vv,ps,xs,fs,hks,pl,h,f,rfl,hD,hm,q⟩:=h
 have nd:=aae.nd
 have hu:=eZ hr
 refine⟨_,(aB (aV (Vm (aeB hu (pv 1) (cZ (pv 0) rfl)) (by with_unfolding_all rfl)) (aB aM) aU)),?_⟩
 refine⟨_,rfl,_,rfl,d,CD,dd,_,_,rfl,hD.ob,DK.ct,DK.nv,rfl,vv,_,rfl,bW.k (k:=Sum.inr h.1) hD.vs,?_⟩
 rw[yp hD.oH hm]
 exact⟨false,rfl,bD q⟩
theorem aaf:bC ["self"] ["self"] (aL (aJ 52 5)):=by refine⟨rfl,rfl,rfl,?_,rfl,?_,?_⟩ <;> decide +kernel
theorem aiI (T:Tb mg)(DK:iu K CD)(uN:Dm K "source_now" "Desk.source_now" ["self"] (aJ 52 5) Cm JD)(fC:Dn K mg "copied" cB (top 25) jC jD)(oG:aq P w K mg base aC (3) jC jD cB (yd)):aq P w K mg base aC (4) Cm JD ["self"] (Z_ C CD):=by
 refine uN.F.ok aaf (λvs H Q E h=>?_) (λcdv A outer s H vs Q E hr h=>?_)
 . obtain⟨d,dd,kk,t,src,vv,ps,xs,fs,hks,pl,f,rfl,_⟩:=h
   rfl
 obtain⟨d,dd,kk,t,src,vv,ps,xs,fs,hks,pl,f,rfl,hD,q⟩:=h
 have nd:=aaf.nd
 refine⟨_,(aB (aN (aR oG (hr.mono (by decide)) fC (aj (cZ (pv 0) rfl) (aj (cZ (pv 0) rfl) ak))))),?_⟩
 exact⟨_,rfl,d,CD,dd,_,_,rfl,hD.ob,DK.ct,DK.nk,rfl,_,rfl,d,CD,dd,_,_,rfl,hD.ob,DK.ct,DK.ns,rfl,kk,t,src,xs,fs,_,f,rfl,hD.kd,hD.cu,hD.sr,Hv.mk (λx hx=>hx),q⟩
theorem aag:bC ["self","name"] ["self","name"] (aL (aJ 52 6)):=by refine⟨rfl,rfl,rfl,?_,rfl,?_,?_⟩ <;> decide +kernel
theorem aiJ (T:Tb mg)(DK:iu K CD)(yq:Meth K CD "ask_hung" mR)(uO:Dm K "seen_by" "Desk.seen_by" jX (aJ 52 6) Cp JF)(j_:Dm K "ask_hung" "Desk.ask_hung" jX (aJ 52 3) mR rQ)(yr:aq P w K mg base aC (1) mR rQ jX (Ck C CD))(mL:Dn K mg "shown" tY (top 51) yg yh)(Cd:aq P w K mg base aC (11) yg yh tY (Jq P2 C)):aq P w K mg base aC (12) Cp JF jX (aac P2 C CD):=by
 have eF:=DK.ct
 refine uO.F.ok aag (λvs H Q E h=>?_) (λcdv A outer s H vs Q E hr h=>?_)
 . obtain⟨d,dd,kk,t,src,vv,ps,xs,fs,hks,pl,h,f,rfl,_⟩:=h
   rfl
 obtain⟨d,dd,kk,t,src,vv,ps,xs,fs,hks,pl,h,f,rfl,hD,hm,hT,q⟩:=h
 have nd:=aag.nd
 have hu:=eZ hr
 refine⟨_,(ao (iB (fV (pv 0) eF yq yr (hr.mono (by decide)) j_.b .nil eG (aj (pv 1) ak)))
  (aB (aN (aR Cd (hr.mono (by decide)) mL (aj (gk hu (cZ (pv 0) rfl) (pv 1) (λ_ _=>rfl)) (aj (cZ (pv 0) rfl) (aj (cZ (pv 0) rfl) ak))))))),?_⟩
 refine⟨_,rfl,d,dd,_,rfl,hD.ob,rfl,_,rfl,d,dd,kk,t,src,vv,ps,xs,fs,hks,pl,h,f,rfl,hD,hm,?_⟩
 have hg:bW H vv (.str h.1) (some (.ref h.2.1)):=by
  have:=bW.k (k:=Sum.inr h.1) hD.vs
  rw[yp hD.oH hm] at this
  exact this
 obtain⟨dx,nl,hV,_⟩:=hD.hk h hm
 exact⟨_,rfl,d,CD,dd,_,_,rfl,hD.ob,DK.ct,DK.nv,rfl,_,rfl,vv,_,rfl,hg,_,rfl,d,CD,dd,_,_,rfl,hD.ob,DK.ct,DK.nk,rfl,_,rfl,d,CD,dd,_,_,rfl,hD.ob,DK.ct,DK.ns,rfl,h.2.1,kk,t,dx,nl,xs,fs,h.2.2,src,_,f,rfl,hV,hD.kd,hD.cu,hD.inn h hm,hT,hD.sr,Hv.mk (λx hx=>hx),q⟩
theorem Cq:bC ["self","paper"] ["self","paper"] (aL (aJ 52 8)):=by refine⟨rfl,rfl,rfl,?_,rfl,?_,?_⟩ <;> decide +kernel
theorem aiK (T:Tb mg)(DK:iu K CD)(rR:Meth K CD "did" jF)(oM:Dm K "change" "Desk.change" tZ (aJ 52 8) uP yt)(iQ:Dm K "did" "Desk.did" je (aJ 52 10) jF oJ)(rT:aq P w K mg base aC (14) jF oJ je (yj P2 C CD))(jj:Dn K mg "done" pQ (top 31) rH rJ)(aiL:aq P w K mg base aC (6) rH rJ pQ (ZD K)):aq P w K mg base aC (15) uP yt tZ (aad K P2 C CD):=by
 have eF:=DK.ct
 refine oM.F.ok Cq (λvs H Q E h=>?_) (λcdv A outer s H vs Q E hr h=>?_)
 . obtain⟨d,pa,dd,kk,t,src,vv,ps,xs,fs,hks,pl,ys,ops,f,rfl,_⟩:=h
   rfl
 obtain⟨d,pa,dd,kk,t,src,vv,ps,xs,fs,hks,pl,ys,ops,f,rfl,hD,hT,pY,hpa,hP,hO,q⟩:=h
 have nd:=Cq.nd
 refine⟨_,(aB (aN (fV (pv 0) eF rR rT (hr.mono (by decide)) iQ.b .nil eG (aj (aR aiL (hr.mono (by decide)) jj (aj (cZ (pv 0) rfl) (aj (pv 1) (aj (cZ (pv 0) rfl) ak)))) ak)))),?_⟩
 refine⟨_,rfl,d,dd,_,rfl,hD.ob,rfl,_,rfl,d,CD,dd,_,_,rfl,hD.ob,DK.ct,DK.nk,rfl,_,rfl,_,rfl,d,CD,dd,_,_,rfl,hD.ob,DK.ct,DK.ns,rfl,kk,t,pa,src,xs,fs,ys,ops,f,fs.names,rfl,hD.kd,aG.of hpa,hP,hO,Z9 hO,hD.kd.bM,hD.sr,λnew H1 s1 hnew=>?_⟩
 have hD1:=hD.go (P2:=P2) (λc o _ _ _ e=>s1 c o e) hT (s1 _ _ hD.ob) (s1 _ _ hD.sr) hD.fk hD.jE (s1 _ _ hD.past)
 refine⟨d,new,dd,kk,t,src,vv,ps,xs,fs,hks,pl,_,f,cM f ops,rfl,hD1,hT.same s1,pY,hnew,Hv.mk (λx hx=>hx),JC hD.fk hO,λp cs src' H2 k2 hT2 hD2 hp iR=>?_⟩
 exact q p cs src' H2 (λc o n1 n2 n3 e=>k2 c o n1 n2 n3 (s1 _ _ e)) hT2 hD2 hp iR
end
theorem Fs.Cr:∀{fs:Fs}{x:Str}{k:Kd},fs.get x=some k->∃i,fs.at i=some (x,k)
 | .nil,_,_,h=>by cases h
 | .cons y q r,x,k,h=>by
   have h:(if x=y then some q else r.get x)=some k:=h
   by_cases e:x=y
   . rw[if_pos e] at h
     cases h
     exact⟨0,by rw[e];rfl⟩
   . rw[if_neg e] at h
     obtain⟨i,hi⟩:=Fs.Cr h
     exact⟨i+1,hi⟩
theorem aiM {fs:Fs}{f g:Str->V}{ss:List Str}(hf:FK fs f)(hg:mJ (fs.bU ss) (aK g ss)):FK fs (iJ f g ss):=λx k e=>by
 unfold iJ
 split
 . rename_i hx
   obtain⟨i,hi⟩:=Fs.Cr (fs:=fs.bU ss) (x:=x) (k:=k) (by rw[Fs.uq,if_pos hx];exact e)
   obtain⟨v,h1,h2⟩:=hg.2 i x k hi
   rw[gQ,if_pos hx] at h1
   cases h1
   exact h2
 . exact hf x k e
noncomputable def aah (P2 C CD:Addr):Sp:=λvs H Q _=>∃d sn dd kk t src vv ps xs fs hks pl h,∃f g:Str->V,vs=[.ref d,.str h.1,.ref sn]/\cN H C CD d dd kk t src vv ps xs fs f hks pl/\h∈hks/\bw P2 bK bL H/\pl.length<=900/\H sn=some (.dK (aK g h.2.2))/\mJ (fs.bU h.2.2) (aK g h.2.2)/\
 ∀p cs src' H',KP P2 d ps H H'->bw P2 bK bL H'->cN H' C CD d dd kk t src' vv ps xs fs (iJ f g h.2.2) hks (pl++[.ref src])->H' p=some (.lst cs)->gR H' cs hks (lG fs f (iJ f g h.2.2))->Q (.ref p) H'
section
variable {P:Program}{w:World}{K:W.Frag}{mg:Str->Option Value}{base:Heap}
variable {C P2 CD:Addr}
theorem Cu:bC ["self","name","seen"] ["self","name","seen"] (aL (aJ 52 7)):=by refine⟨rfl,rfl,rfl,?_,rfl,?_,?_⟩ <;> decide +kernel
theorem aiN (T:Tb mg)(TK:j4 K mg C jg eV jh gF)(DK:iu K CD)(yq:Meth K CD "ask_hung" mR)(rR:Meth K CD "did" jF)(oN:Dm K "put_by" "Desk.put_by" t_ (aJ 52 7) uQ yu)(j_:Dm K "ask_hung" "Desk.ask_hung" jX (aJ 52 3) mR rQ)(yr:aq P w K mg base aC (1) mR rQ jX (Ck C CD))(iQ:Dm K "did" "Desk.did" je (aJ 52 10) jF oJ)(rT:aq P w K mg base aC (14) jF oJ je (yj P2 C CD))(j6:Dm K "put" "Take.put" pN (aJ 61 3) gF rz)(aiO:aq P w K mg base aC (11) gF rz pN (Zq P2 C)):aq P w K mg base aC (15) uQ yu t_ (aah P2 C CD):=by
 have eF:=DK.ct
 have CT:=TK.ct
 have JG:=TK.p
 refine oN.F.ok Cu (λvs H Q E h=>?_) (λcdv A outer s H vs Q E hr h=>?_)
 . obtain⟨d,sn,dd,kk,t,src,vv,ps,xs,fs,hks,pl,h,f,g,rfl,_⟩:=h
   rfl
 obtain⟨d,sn,dd,kk,t,src,vv,ps,xs,fs,hks,pl,h,f,g,rfl,hD,hm,hT,pY,hsn,hH,q⟩:=h
 have nd:=Cu.nd
 have hu:=eZ hr
 refine⟨_,(ao (iB (fV (pv 0) eF yq yr (hr.mono (by decide)) j_.b .nil eG (aj (pv 1) ak)))
  (aB (aN (fV (pv 0) eF rR rT (hr.mono (by decide)) iQ.b .nil eG (aj (fV (gk hu (cZ (pv 0) rfl) (pv 1) (λ_ _=>rfl)) CT JG aiO (hr.mono (by decide)) j6.b .nil eG (aj (cZ (pv 0) rfl) (aj (cZ (pv 0) rfl) (aj (pv 2) ak)))) ak))))),?_⟩
 refine⟨_,rfl,d,dd,_,rfl,hD.ob,rfl,_,rfl,d,dd,kk,t,src,vv,ps,xs,fs,hks,pl,h,f,rfl,hD,hm,?_⟩
 have hg:bW H vv (.str h.1) (some (.ref h.2.1)):=by
  have:=bW.k (k:=Sum.inr h.1) hD.vs
  rw[yp hD.oH hm] at this
  exact this
 obtain⟨dx,nl,hV,_⟩:=hD.hk h hm
 refine⟨_,rfl,d,dd,_,rfl,hD.ob,rfl,_,rfl,d,CD,dd,_,_,rfl,hD.ob,DK.ct,DK.nv,rfl,_,rfl,vv,_,rfl,hg,h.2.1,dx,_,rfl,hV.ob,rfl,_,rfl,d,CD,dd,_,_,rfl,hD.ob,DK.ct,DK.nk,rfl,_,rfl,d,CD,dd,_,_,rfl,hD.ob,DK.ct,DK.ns,rfl,_,rfl,h.2.1,kk,t,dx,nl,xs,fs,h.2.2,src,sn,f,g,rfl,hV,hD.kd,hD.inn h hm,hT,hD.sr,hsn,hH,λnew H1 cT hT1 hnew=>?_⟩
 have kA:KP P2 d ps H H1:=λc o n1 _ _ e=>cT c o n1 e
 have hD1:=hD.go kA hT (cT.keep hT hD.ob (by intro ps z;cases z)) (cT.keep hT hD.sr (by intro ps z;cases z)) hD.fk hD.jE (cT.keep hT hD.past (by intro ps z;cases z))
 refine⟨d,new,dd,kk,t,src,vv,ps,xs,fs,hks,pl,_,f,iJ f g h.2.2,rfl,hD1,hT1,pY,hnew,Hv.mk (λx hx=>hx),aiM hD.fk hH,λp cs src' H2 k2 hT2 hD2 hp iR=>?_⟩
 exact q p cs src' H2 (λc o n1 n2 n3 e=>k2 c o n1 n2 n3 (cT c o n1 e)) hT2 hD2 hp iR
end
theorem JH:∀{hks:List Hk}{x:Str},x ∉ hks.map (·.1)->dR (fJ hks) (Sum.inr x)=none
 |[],_,_=>rfl
 |y::r,x,h=>by
  show dR ((Sum.inr y.1,.ref y.2.1)::fJ r) (Sum.inr x)=_
  rw[tK (λz=>h (by rw[<-Sum.inr.inj z];exact Q0f))]
  exact JH λz=>h (Q0j _ z)
theorem aiP {hks:List Hk}{h:Hk}(hn:h.1 ∉ hks.map (·.1)):putK (fJ hks) (Sum.inr h.1) (.ref h.2.1)=fJ (hks++[h]):=by
 unfold putK
 rw[if_neg]
 . unfold fJ
   rw[Q0k]
   rfl
 . rw[zQ,JH hn]
   decide
theorem FK.hld {fs:Fs}{f:Str->V}(nd:fs.names.Nodup)(h:FK fs f):mJ fs (aK f fs.names):=by
 refine⟨gD _ _,λi nm k hat=>⟨f nm,?_,h _ _ (Fs.qU nd hat)⟩⟩
 have:nm∈fs.names:=Q0v (by rw[Fs.gZ,hat];rfl)
 rw[gQ,if_pos this]
noncomputable def aai (P2 C CD:Addr):Sp:=λvs H Q _=>∃d dd kk t src vv ps xs fs hks pl h dx nl,∃f:Str->V,vs=[.ref d,.str h.1,.ref h.2.1]/\cN H C CD d dd kk t src vv ps xs fs f hks pl/\h.1 ∉ hks.map (·.1)/\hks.length<12/\dX H C h.2.1 dx nl h.2.2/\nl≠ps/\(∀x∈h.2.2,x∈fs.names)/\bw P2 bK bL H/\
 ∀H',(∀c o,c≠P2->c≠vv->H c=some o->H' c=some o)->bw P2 bK bL H'->cN H' C CD d dd kk t src vv ps xs fs f (hks++[h]) pl->Q .non H'
noncomputable def aaj:Sp:=λvs H Q _=>∃kk t a xs fs,∃f:Str->V,vs=[.ref kk,.ref a]/\dI H kk t xs fs/\fs.cu/\H a=some (.dK (aK f fs.names))/\FK fs f/\∀p H',Same H H'->H p=none->H' p=some (.dK (aK f fs.names))->Q (.ref p) H'
noncomputable def aak (C CD:Addr):Sp:=λvs H Q _=>∃x dx kk t a xs fs,∃f:Str->V,vs=[.ref x,.ref kk,.ref a]/\H x=some (.ins CD dx [])/\dI H kk t xs fs/\fs.cu/\H a=some (.dK (aK f fs.names))/\FK fs f/\
 ∀src vv ps H',(∀c o,c≠x->H c=some o->H' c=some o)->H src=none->H vv=none->H ps=none->cN H' C CD x dx kk t src vv ps xs fs f [] []->Q .non H'
section
variable {P:Program}{w:World}{K:W.Frag}{mg:Str->Option Value}{base:Heap}
variable {C P2 CD:Addr}
theorem aal:bC ["self","name","view"] ["self","name","view"] (aL (aJ 52 1)):=by refine⟨rfl,rfl,rfl,?_,rfl,?_,?_⟩ <;> decide +kernel
theorem aiR (T:Tb mg)(TK:j4 K mg C jg eV jh gF)(DK:iu K CD)(uR:Dm K "hang" "Desk.hang" Bc (aJ 52 1) Cw JK)(gG:Dm K "behind" "Take.behind" jW (aJ 61 1) eV lF)(oE:aq P w K mg base aC (10) eV lF jW (uE P2 C)):aq P w K mg base aC (11) Cw JK Bc (aai P2 C CD):=by
 have CT:=TK.ct
 have oF:=TK.b
 refine uR.F.ok aal (λvs H Q E h=>?_) (λcdv A outer s H vs Q E hr h=>?_)
 . obtain⟨d,dd,kk,t,src,vv,ps,xs,fs,hks,pl,h,dx,nl,f,rfl,_⟩:=h
   rfl
 obtain⟨d,dd,kk,t,src,vv,ps,xs,fs,hks,pl,h,dx,nl,f,rfl,hD,hnew,rG,hV,hnp,hin,hT,q⟩:=h
 have nd:=aal.nd
 have hu:=eZ hr
 refine⟨_,(ao (aV (Vm (Gd hu (pv 1) (cZ (pv 0) rfl)) (by with_unfolding_all rfl)) (aB aM) aU)
  (ao (iB (fV (pv 2) CT oF oE (hr.mono (by decide)) gG.b .nil eG (aj (cZ (pv 0) rfl) ak)))
  (aB (qN hu (cZ (pv 0) rfl) (pv 1) (pv 2) rfl)))),?_⟩
 refine⟨_,rfl,_,rfl,d,CD,dd,_,_,rfl,hD.ob,DK.ct,DK.nv,rfl,vv,_,rfl,bW.k (k:=Sum.inr h.1) hD.vs,?_⟩
 rw[JH hnew]
 refine⟨false,rfl,bD ?_⟩
 refine⟨_,rfl,h.2.1,dx,_,rfl,hV.ob,rfl,_,rfl,d,CD,dd,_,_,rfl,hD.ob,DK.ct,DK.nk,rfl,h.2.1,kk,t,dx,nl,xs,fs,h.2.2,rfl,hV,hD.kd,hin,hT,λr t' H1 cT hT1 hr1 ht1=>?_⟩
 have hD1:=hD.go (P2:=P2) (λc o n1 _ _ e=>cT c o n1 e) hT (cT.keep hT hD.ob (by intro ps z;cases z)) (cT.keep hT hD.sr (by intro ps z;cases z)) hD.fk hD.jE (cT.keep hT hD.past (by intro ps z;cases z))
 have rN:=hV.keep cT hT
 have hvl:(fJ hks).length=hks.length:=Q06 _
 refine⟨_,rfl,_,rfl,d,CD,dd,_,_,rfl,hD1.ob,DK.ct,DK.nv,rfl,_,rfl,vv,_,rfl,lY.k (k:=Sum.inr h.1) hD1.vs (by rw[hvl];exact cW (by omega)),?_⟩
 rw[aiP hnew]
 have k2:∀c o,c≠vv->H1 c=some o->upd H1 vv (.dK (fJ (hks++[h]))) c=some o:=λc o hc e=>by rw[au hc];exact e
 have e2:upd H1 vv (.dK (fJ (hks++[h]))) vv=some (.dK (fJ (hks++[h]))):=aF
 generalize upd H1 vv (.dK (fJ (hks++[h])))=H2 at k2 e2
 have nv:∀{c:Addr} {o:HO},H1 c=some o->(∀kv,o≠ .dK kv)->H2 c=some o:=λ{c o} e ho=>k2 c o (λz=>by rw[z,hD1.vs] at e;cases e;exact ho _ rfl) e
 have hT2:bw P2 bK bL H2:=by
  rcases hT1 with e|⟨c,e,fe⟩
  . exact .inl (nv e (by intro kv z;cases z))
  . exact .inr ⟨c,nv e (by intro kv z;cases z),nv fe (by intro kv z;cases z)⟩
 have tu:Tu H1 H2:=λc ys e=>nv e (by intro kv z;cases z)
 have vw:∀{v dx nl:Addr} {ss:List Str},dX H1 C v dx nl ss->dX H2 C v dx nl ss:=λhv=>⟨nv hv.ob (by intro kv z;cases z),nv hv.nl (by intro kv z;cases z),hv.nd,hv.bM⟩
 refine q H2 (λc o n1 n2 e=>k2 c o n2 (cT c o n1 e)) hT2 ⟨nv hD1.ob (by intro kv z;cases z),hD.jE,λy hy=>?_,by rw[Q09];show hks.length+1<=12;omega,?_,hD1.kd.mono tu,hD.cu,λy hy=>?_,k2 _ _ hD.jE hD1.sr,hD.fk,e2,nv hD1.past (by intro kv z;cases z)⟩
 . rcases List.mem_append.mp hy with z|z
   . obtain⟨JL,nl',hv,hn⟩:=hD1.hk y z
     exact⟨JL,nl',vw hv,hn⟩
   . obtain rfl:=List.mem_singleton.mp z
     exact⟨dx,nl,vw rN,hnp⟩
 . rw[Q0k]
   exact List.nodup_append.mpr ⟨hD.oH,by simp,λa ha b hb z=>by
    obtain rfl:=List.mem_singleton.mp hb
    exact hnew (by have z:a=h.1:=z;rw[<-z];exact ha)⟩
 . rcases List.mem_append.mp hy with z|z
   . exact hD.inn y z
   . obtain rfl:=List.mem_singleton.mp z
     exact hin
theorem aam:bC ["kind","source","place"] ["kind","source"] (aL (top 50)):=by refine⟨rfl,rfl,rfl,?_,rfl,?_,?_⟩ <;> decide +kernel
theorem aiT (T:Tb mg)(uT:Dn K mg "first_source" Bd (top 50) JM JN)(cH:Dn K mg "misfit" cB (top 16) d_ eE)(jB:aq P w K mg base aC (3) d_ eE cB (xU))(fC:Dn K mg "copied" cB (top 25) jC jD)(oG:aq P w K mg base aC (3) jC jD cB (yd)):aq P w K mg base aC (4) JM JN Bd (aaj):=by
 refine uT.F.ok aam (λvs H Q E h=>?_) (λcdv A outer s H vs Q E hr h=>?_)
 . obtain⟨kk,t,a,xs,fs,f,rfl,_⟩:=h
   rfl
 obtain⟨kk,t,a,xs,fs,f,rfl,hK,hpl,ha,hf,q⟩:=h
 have nd:=aam.nd
 refine⟨_,(ao (aV (aW mZ (pv 1) cD (aQ _)) (aB aM) aU)
  (ao (bf (i:=2) nd rfl (Or.inl rfl) (aR jB (hr.mono (by decide)) cH (aj (pv 0) (aj (pv 1) ak))))
  (ao (aV (aW tE (pv 2) cD (aQ _)) (aB aM) aU)
  (aB (aN (aR oG (hr.mono (by decide)) fC (aj (pv 0) (aj (pv 1) ak)))))))),?_⟩
 refine⟨_,rfl,rfl,_,rfl,?_⟩
 rw[decide_eq_false (by intro z;cases z)]
 refine bD ?_
 refine⟨_,rfl,_,rfl,kk,t,a,xs,_,fs,rfl,hK,ha,hf.hld hK.nd,λH1 s1=>?_⟩
 refine⟨_,rfl,rfl,_,rfl,?_⟩
 rw[decide_eq_true rfl]
 refine bD ?_
 exact⟨_,rfl,_,rfl,kk,t,a,xs,fs,_,f,rfl,hK.mono (Tu.of s1),hpl,s1 _ _ ha,Hv.mk (λx hx=>hx),λp H2 s2 hpn hp=>q p H2 (s1.trans s2) (by
  cases e:H p with
  |none=>rfl
  |some o=>rw[s1 _ _ e] at hpn;cases hpn) hp⟩
end
structure JQ (K:W.Frag) (x qual:Str) (st:Stmt) (f:Addr) (fd:FuncData):Prop where
 ex:∃(oc:Value) (od:Option Addr) (dV kV doc pm:Value) (an:Option Addr) (cdv ct:Value) (osl:Array (Option Value)),
  fd=W.fnOf x qual (fO st) (dW st) (aL st) dV kV doc pm an cdv ct/\K.lookup f=some ⟨oc,od,.func fd,osl⟩/\W.codeIn K cdv qual=true
 kp:W.keepIn K (.ref f)=true
theorem JQ.ok {P:Program}{w:World}{K:W.Frag}{mg:Str->Option Value}{base:Heap}{x qual:Str}{st:Stmt}{f:Addr}{fd:FuncData}{N ps:List Str}{k:Nat}{sp:Sp}(F:JQ K x qual st f fd)(S:bC N ps (aL st))(len:∀vs H Q E,sp vs H Q E->vs.length=ps.length)
 (hbody:∀(cdv:Value) (A:Around) (outer:List Env) (s:Shared) (H:Hp) (vs:List V) (Q:VK) (E:XK),cU k (A.deeper (envOfC qual (aL st) s.heap.objs.size f cdv))->sp vs H Q E->
   ∃t,fY (lA aC P w K mg base N qual (aL st) f cdv A outer s H E).kZ (dW st) t/\t { nx:=λ_ H'=>Q .non H',rt:=Q } (start N vs) H):aq P w K mg base aC (k+1) f fd ps sp:=by
 obtain⟨oc,od,dV,kV,doc,pm,an,cdv,ct,osl,rfl,lk,hcd⟩:=F.ex
 refine zL lk hcd S len λA outer s H vs Q E hr hsp=>?_
 obtain⟨t,h,q⟩:=hbody cdv A outer s H vs Q E hr hsp
 exact⟨t,h.kZ,q⟩
structure JR (K:W.Frag) (x qual:Str) (ps:List Str) (st:Stmt) (f:Addr) (fd:FuncData):Prop where
 F:JQ K x qual st f fd
 b:Binds K fd ps []
theorem aiU {K:W.Frag}{x ql:Str}{st:Stmt}{p1 p2 p3:Str}{f T:Addr}{oc JT:Value}{od an JV:Option Addr}{osl JW:Array (Option Value)}{nT:Nat}{kV doc pm cdv ct:Value}
 (l:K.lookup f=some ⟨oc,od,.func (W.fnOf x ql (fO st) (dW st) (aL st) (.ref T) kV doc pm an cdv ct),osl⟩) (c:W.codeIn K cdv ql=true) (k:W.keepIn K (.ref f)=true) (lT:K.lookup T=some ⟨JT,JV,.seq #[.none] nT,JW⟩)
 (hb:∀(kV doc pm:Value) (an:Option Addr) (cdv ct u1 u2 u3:Value),∃kk:Option (Array Value)->Sem (List (Str × Value)),bindArgs (W.fnOf x ql (fO st) (dW st) (aL st) (.ref T) kV doc pm an cdv ct) ⟨[u1,u2,u3],[]⟩=seqItems? (.ref T) >>= kk/\kk (some #[.none])=pure ([p1,p2,p3].zip [u1,u2,u3])):
 JR K x ql [p1,p2,p3] st f (W.fnOf x ql (fO st) (dW st) (aL st) (.ref T) kV doc pm an cdv ct):=by
 refine⟨⟨⟨oc,od,.ref T,kV,doc,pm,an,cdv,ct,osl,rfl,l,c⟩,k⟩,λs us X hl=>?_⟩
 obtain⟨u1,u2,u3,rfl⟩:∃u1 u2 u3,us=[u1,u2,u3]:=by
  rw[Q0z] at hl
  match us,hl with
  |[u1,u2,u3],_=>exact⟨u1,u2,u3,rfl⟩
 obtain⟨kk,h1,h2⟩:=hb kV doc pm an cdv ct u1 u2 u3
 exact BindsTo.of_defaults rfl (X T _ lT) rfl h1 h2
section
variable {P:Program}{w:World}{K:W.Frag}{mg:Str->Option Value}{base:Heap}
variable {C CD:Addr}
theorem aan:bC ["self","kind","source"] ["self","kind","source"] (aL (aJ 52 0)):=by refine⟨rfl,rfl,rfl,?_,rfl,?_,?_⟩ <;> decide +kernel
theorem aiV (T:Tb mg)(DK:iu K CD)(uU:JR K "__init__" "Desk.__init__" pK (aJ 52 0) Cy JX)(uT:Dn K mg "first_source" Bd (top 50) JM JN)(aiW:aq P w K mg base aC (4) JM JN Bd (aaj)):aq P w K mg base aC (5) Cy JX pK (aak C CD):=by
 refine uU.F.ok aan (λvs H Q E h=>?_) (λcdv A outer s H vs Q E hr h=>?_)
 . obtain⟨x,dx,kk,t,a,xs,fs,f,rfl,_⟩:=h
   rfl
 obtain⟨x,dx,kk,t,a,xs,fs,f,rfl,hx,hK,hpl,ha,hf,q⟩:=h
 have nd:=aan.nd
 refine⟨_,(ao (tH (pv 0) (pv 1) rfl)
  (ao (tH (pv 0) (aR aiW (hr.mono (by decide)) uT (aj (pv 1) (aj (pv 2) ak))) rfl)
  (ao (tH (pv 0) wj rfl)
  (aB (tH (pv 0) (dG ak) rfl))))),?_⟩
 have nx:∀{c:Addr} {o:HO},H c=some o->(∀a b l,o≠ .ins a b l)->c≠x:=λ{c o} e ho z=>by rw[z,hx] at e;cases e;exact ho _ _ _ rfl
 refine⟨_,rfl,_,rfl,x,CD,dx,[],rfl,hx,DK.ct,DK.nk,by decide,?_⟩
 have x1:upd H x (.ins CD dx (cY "kind" (.ref kk) [])) x=some (.ins CD dx [("kind",.ref kk)]):=aF
 have k1:∀c o,c≠x->H c=some o->upd H x (.ins CD dx (cY "kind" (.ref kk) [])) c=some o:=λc o hc e=>by rw[au hc];exact e
 have r1:∀c,c≠x->upd H x (.ins CD dx (cY "kind" (.ref kk) [])) c=none->H c=none:=λc hc e=>by rw[au hc] at e;exact e
 generalize upd H x (.ins CD dx (cY "kind" (.ref kk) []))=H1 at x1 k1 r1
 have Ja:Tu H H1:=λc ys e=>k1 c _ (nx e (by intro a b l z;cases z)) e
 have ha1:=k1 _ _ (nx ha (by intro a b l z;cases z)) ha
 refine⟨_,rfl,_,rfl,kk,t,a,xs,fs,f,rfl,hK.mono Ja,hpl,ha1,hf,λsrc H2 s2 hsn hs=>?_⟩
 have Cz:src≠x:=λz=>by rw[z,x1] at hsn;cases hsn
 have x2:=s2 _ _ x1
 refine⟨_,rfl,x,CD,dx,_,rfl,x2,DK.ct,DK.ns,by show 1<1000;decide,?_⟩
 have x3:upd H2 x (.ins CD dx (cY "source" (.ref src) [("kind",.ref kk)])) x=some (.ins CD dx [("kind",.ref kk),("source",.ref src)]):=aF
 have k3:∀c o,c≠x->H2 c=some o->upd H2 x (.ins CD dx (cY "source" (.ref src) [("kind",.ref kk)])) c=some o:=λc o hc e=>by rw[au hc];exact e
 have r3:∀c,c≠x->upd H2 x (.ins CD dx (cY "source" (.ref src) [("kind",.ref kk)])) c=none->H2 c=none:=λc hc e=>by rw[au hc] at e;exact e
 generalize upd H2 x (.ins CD dx (cY "source" (.ref src) [("kind",.ref kk)]))=H3 at x3 k3 r3
 intro vv jl
 have s4:Same H3 (upd H3 vv (.dK [])):=Same.new jl
 have e4:upd H3 vv (.dK []) vv=some (.dK []):=aF
 have yw:vv≠x:=λz=>by rw[z,x3] at jl;cases jl
 have nvs:src≠vv:=λz=>by rw[<-z,k3 _ _ Cz hs] at jl;cases jl
 generalize upd H3 vv (.dK [])=H4 at s4 e4
 refine⟨_,rfl,x,CD,dx,_,rfl,s4 _ _ x3,DK.ct,DK.nv,by show 2<1000;decide,?_⟩
 have x5:upd H4 x (.ins CD dx (cY "views" (.ref vv) [("kind",.ref kk),("source",.ref src)])) x=some (.ins CD dx [("kind",.ref kk),("source",.ref src),("views",.ref vv)]):=aF
 have k5:∀c o,c≠x->H4 c=some o->upd H4 x (.ins CD dx (cY "views" (.ref vv) [("kind",.ref kk),("source",.ref src)])) c=some o:=λc o hc e=>by rw[au hc];exact e
 generalize upd H4 x (.ins CD dx (cY "views" (.ref vv) [("kind",.ref kk),("source",.ref src)]))=H5 at x5 k5
 refine⟨fM,λps hps=>?_⟩
 have s6:Same H5 (upd H5 ps (.lst [])):=Same.new hps
 have e6:upd H5 ps (.lst []) ps=some (.lst []):=aF
 have npx:ps≠x:=λz=>by rw[z,x5] at hps;cases hps
 generalize upd H5 ps (.lst [])=H6 at s6 e6
 refine⟨_,rfl,x,CD,dx,_,rfl,s6 _ _ x5,DK.ct,DK.np,by show 3<1000;decide,?_⟩
 have x7:upd H6 x (.ins CD dx (cY "past" (.ref ps) [("kind",.ref kk),("source",.ref src),("views",.ref vv)])) x=some (jk CD dx kk src vv ps):=aF
 have k7:∀c o,c≠x->H6 c=some o->upd H6 x (.ins CD dx (cY "past" (.ref ps) [("kind",.ref kk),("source",.ref src),("views",.ref vv)])) c=some o:=λc o hc e=>by rw[au hc];exact e
 generalize upd H6 x (.ins CD dx (cY "past" (.ref ps) [("kind",.ref kk),("source",.ref src),("views",.ref vv)]))=H7 at x7 k7
 have kA:∀c o,c≠x->H2 c=some o->H7 c=some o:=λc o hc e=>k7 c o hc (s6 _ _ (k5 c o hc (s4 _ _ (k3 c o hc e))))
 have kB:∀c o,c≠x->H c=some o->H7 c=some o:=λc o hc e=>kA c o hc (s2 _ _ (k1 c o hc e))
 have fr:∀{c:Addr},c≠x->(∀o,H c=some o->False)->H c=none:=λ{c} _ h=>by
  cases e:H c with
  |none=>rfl
  |some o=>exact(h o e).elim
 refine q src vv ps H7 kB (fr Cz λo e=>?_) (fr yw λo e=>?_) (fr npx λo e=>?_) ⟨x7,nvs,(λh hh=>nomatch hh),by decide,List.nodup_nil,hK.mono λc ys e=>kB c _ (nx e (by intro a b l z;cases z)) e,hpl,(λh hh=>nomatch hh),kA _ _ Cz hs,hf,k7 _ _ yw (s6 _ _ (k5 _ _ yw e4)),k7 _ _ npx e6⟩
 . rw[k1 _ _ Cz e] at hsn;cases hsn
 . rw[k3 _ _ yw (s2 _ _ (k1 _ _ yw e))] at jl;cases jl
 . rw[k5 _ _ npx (s4 _ _ (k3 _ _ npx (s2 _ _ (k1 _ _ npx e))))] at hps;cases hps
end
noncomputable abbrev aao:List Value:=[.type "ValueError",.type "Exception",.type "BaseException",.type "object"]
structure rW (K:W.Frag) (mg:Str->Option Value) (base:Heap) (x fl:Str) (C fI:Addr):Prop where
 xi:pI base C fI aao "ValueError.__new__"
 kp:W.keepIn K (.ref C)=true
 m:mg x=some (.ref C)
 fld:pJ K C fl
 cls:tR K C
 ty:W.typeIn K (.ref C)=some (.type "type")
 is:(W.clsIn K C).isSome=true
 bx:W.subIn K (.ref C) (.type "BaseException")=some true
 sub:W.subIn K (.ref C) (.ref C)=some true
theorem yC {P:Program}{w:World}{K:W.Frag}{mg:Str->Option Value}{base:Heap}{x qual:Str}{st:Stmt}{f:Addr}{fd:FuncData}{N ps:List Str}{k:Nat}{sp:Sp}(F:lC K x qual st f fd)(S:bC N ps (aL st))(len:∀vs H Q E,sp vs H Q E->vs.length=ps.length)
 (hbody:∀(cdv:Value) (A:Around) (outer:List Env) (s:Shared) (H:Hp) (vs:List V) (Q:VK) (E:XK),cU k (A.deeper (envOfC qual (aL st) s.heap.objs.size f cdv))->sp vs H Q E->
   ∃t,fY (lA (gA P w) P w K mg base N qual (aL st) f cdv A outer s H E) (dW st) t/\t { nx:=λ_ H'=>Q .non H',rt:=Q } (start N vs) H):aq P w K mg base (gA P w) (k+1) f fd ps sp:=by
 obtain⟨oc,od,kV,doc,pm,an,cdv,ct,osl,rfl,lk,hcd⟩:=F.ex
 refine zL lk hcd S len λA outer s H vs Q E hr hsp=>?_
 exact hbody cdv A outer s H vs Q E hr hsp
theorem yD {P:Program}{w:World}{K:W.Frag}{mg:Str->Option Value}{base:Heap}{CX:iC}{k:Nat}{f:Addr}{fd:FuncData}{ps:List Str}{s1 s2:Sp}(F:aq P w K mg base CX k f fd ps s1)(G:aq P w K mg base CX k f fd ps s2):
 aq P w K mg base CX k f fd ps (λvs H Q E=>s1 vs H Q E\/s2 vs H Q E):=
 ⟨λvs H Q E q=>q.elim (F.len vs H Q E) (G.len vs H Q E),λA outer s H args us vs Q E hr he hb hv hs=>hs.elim (F.run A outer s H args us vs Q E hr he hb hv) (G.run A outer s H args us vs Q E hr he hb hv)⟩
noncomputable def JZ (C:Addr):Sp:=λvs H Q _=>∃a v0,vs=[.ref a,v0]/\H a=some (lE a C)/\∀dx H',dx≠a->(∀c o,c≠a->H c=some o->H' c=some o)->H' a=some (MadeX a C dx)->H' dx=some (.xd [("at",v0)])->Q .non H'
noncomputable def J0 (dN:Addr) (n:Nat) (Kp:Hp->Prop) (E:XK):Prop:=∀dx H',Kp H'->H' dx=some (.xd [("at",.int n)])->E (.ref dN) (some dx) H'
noncomputable def aap:Sp:=λvs H Q _=>∃b x xs fs,vs=[.ref b,.str x]/\H b=some (.tup xs)/\FA H xs fs/\x ∉ fs.names/\Q .non H
noncomputable def aaq:Sp:=λvs H Q _=>∃kv k,vs=[kv,.non]/\KA H kv k/\gw k/\∀p H',Same H H'->Q (.ref p) H'
noncomputable def aar:Sp:=λvs H Q _=>∃kv c v0 k tv,vs=[kv,.ref c,v0]/\KA H kv k/\gw k/\H c=some (.tup [.str "set",tv,.non])/\∀H',Same H H'->Q .non H'
noncomputable def aas:Sp:=λvs H Q _=>∃kv c e v0 k tv,vs=[kv,.ref c,.ref e,v0]/\H e=some (.tup [])/\KA H kv k/\gw k/\H c=some (.tup [.str "set",tv,.non])/\∀H',Same H H'->Q .non H'
noncomputable def uV (fs:Fs) (l:List Str) (nm:Str):Prop:=nm ∉ fs.names\/∃k,fs.get nm=some k/\gw k/\nm∈l
noncomputable def aat:Sp:=λvs H Q _=>∃t c pt a xs fs tv nm l,∃f:Str->V,vs=[.ref t,.ref c,.ref pt,.ref a]/\H t=some (.tup xs)/\FA H xs fs/\fs.names.Nodup/\H c=some (.tup [.str "set",tv,.non])/\H pt=some (.tup [.str nm])/\uV fs l nm/\H a=some (.dK (aK f l))/\∀H',Same H H'->Q .non H'
noncomputable def aau:Sp:=λvs H Q _=>∃kk t c pt a xs fs tv nm l,∃f:Str->V,vs=[.ref kk,.ref c,.ref pt,.ref a]/\dI H kk t xs fs/\H c=some (.tup [.str "set",tv,.non])/\H pt=some (.tup [.str nm])/\uV fs l nm/\H a=some (.dK (aK f l))/\∀H',Same H H'->Q .non H'
section
variable {P:Program}{w:World}{K:W.Frag}{mg:Str->Option Value}{base:Heap}
variable {dN:Addr}
theorem aav:bC ["self","at"] ["self","at"] (aL (aJ 9 0)):=by refine⟨rfl,rfl,rfl,?_,rfl,?_,?_⟩ <;> decide +kernel
theorem aiY (T:Tb mg)(XN:rW K mg base "NoPaper" "at" dN uW)(uX:Dm K "__init__" "NoPaper.__init__" ["self","at"] (aJ 9 0) uW J1):aq P w K mg base aC (1) uW J1 ["self","at"] (JZ dN):=by
 refine uX.F.ok aav (λvs H Q E h=>?_) (λcdv A outer s H vs Q E hr h=>?_)
 . obtain⟨a,v0,rfl,_⟩:=h
   rfl
 obtain⟨a,v0,rfl,ha,q⟩:=h
 have nd:=aav.nd
 refine⟨_,(aB (Yg (pv 0) (pv 1) rfl)),?_⟩
 refine⟨_,rfl,_,rfl,a,dN,rfl,ha,XN.fld,λdx hdx hda=>?_⟩
 refine q dx _ hda (λc o hc e=>?_) aF ?_
 . rw[au hc,au (aO e hdx)];exact e
 . rw[au hda,aF]
theorem aiZ (T:Tb mg)(iI:Dn K mg "kind_at" mF (top 12) n8 n_):aq P w K mg base aC (1) n8 n_ mF (aap):=by
 refine iI.F.ok Bu (λvs H Q E h=>?_) (λcdv A outer s H vs Q E hr h=>?_)
 . obtain⟨b,x,xs,fs,rfl,_⟩:=h
   rfl
 obtain⟨b,x,xs,fs,rfl,hb,hfa,hno,q⟩:=h
 have nd:=Bu.nd
 refine⟨_,(ao (iW PassesOwn.never rfl (lg (pv 0)) (bH (i:=2) nd rfl (Or.inl rfl)) (aB (aV (aW bA (aZ bF (pv 2) aH (λ_ _=>rfl)) (pv 1) (aQ _)) (aB (aN (aZ bF (pv 2) aH (λ_ _=>rfl)))) aU)))
  (aB (aN cD))),?_⟩
 refine⟨_,rfl,b,rfl,⟨_,aD.of hb⟩,sZ (xs:=xs) (λi σ H'=>H'=H/\∃z,σ=[some (.ref b),some (.str x),z]) ⟨rfl,_,rfl⟩ ?_ ?_ ?_⟩
 . rintro i σ H' _ ⟨rfl,_⟩
   exact aD.of hb
 . rintro i v σ H' hv ⟨rfl,z,rfl⟩
   obtain⟨c,u,nm,k',rfl,hat,hc,hk⟩:=FA.get fs hfa hv
   have hnm:fs.names[i]? =some nm:=by rw[Fs.gZ,hat];rfl
   refine⟨_,rfl,c,_,_,_,rfl,rfl,aD.of hc,rfl,_,rfl,rfl,_,rfl,eN (λcc=>?_) (λcc=>⟨rfl,_,rfl⟩)⟩
   have e:nm=x:=by
    have:=of_decide_eq_true cc
    injection this
   exact absurd (by rw[<-e];exact Q0v hnm) hno
 . rintro σ H' ⟨rfl,z,rfl⟩
   exact q
theorem ai0 (T:Tb mg)(cH:Dn K mg "misfit" cB (top 16) d_ eE):aq P w K mg base aC (1) d_ eE cB (aaq):=by
 refine cH.F.ok mK (λvs H Q E h=>?_) (λcdv A outer s H vs Q E hr h=>?_)
 . obtain⟨kv,k,rfl,_⟩:=h
   rfl
 obtain⟨kv,k,rfl,hk,hp,q⟩:=h
 have nd:=mK.nd
 refine⟨_,(ao (bf (i:=2) nd rfl (Or.inl rfl) (aZ bF (pv 0) aH (λ_ _=>rfl)))
  (ao (aV (aW bA (pv 2) bh (aQ _)) (aB (aN (fZ (PW.pt (o9 (bY (aY bO (by rfl) T.bQ boot_isinstance (aj (pv 1) (aj (bN (v:=.ty "int") rfl T.qW boot_int rfl) ak)))) (o8 (iV (bY (aY bO (by rfl) T.bQ boot_isinstance (aj (pv 1) (aj (bN (v:=.ty "bool") rfl T.qX boot_bool rfl) ak)))))))) cD (dG ak)))) aU)
  (ao (aV (aW bA (pv 2) bh (aQ _)) (aB (aN (fZ (bY (aY bO (by rfl) T.bQ boot_isinstance (aj (pv 1) (aj (bN (v:=.ty "str") rfl T.nM boot_str rfl) ak)))) cD (dG ak)))) aU)
  (ao (aV (aW bA (pv 2) bh (aQ _)) (aB aM) aU)
  (ao (aV (aW bA (pv 2) bh (aQ _)) (aB aM) aU)
  (ao (aV (aW bA (pv 2) bh (aQ _)) (aB aM) aU)
  (aB aM))))))),?_⟩
 cases k with
 |num=>
  unfold KA at hk
  obtain⟨a,rfl,ha⟩:=hk
  refine⟨_,rfl,a,_,_,_,rfl,rfl,aD.of ha,rfl,?_⟩
  refine jQ rfl (by decide +kernel) ?_
  refine⟨_,rfl,_,_,_,false,rfl,.non,rfl,false,rfl,bD ?_⟩
  exact⟨fM,λp hp=>q p _ (Same.new hp)⟩
 |eO=>
  unfold KA at hk
  obtain⟨a,rfl,ha⟩:=hk
  refine⟨_,rfl,a,_,_,_,rfl,rfl,aD.of ha,rfl,?_⟩
  refine gq rfl (by decide +kernel) ?_
  refine jQ rfl (by decide +kernel) ?_
  refine⟨_,rfl,_,_,_,false,rfl,.non,rfl,false,rfl,bD ?_⟩
  exact⟨fM,λp hp=>q p _ (Same.new hp)⟩
 |_=>exact hp.elim
end
variable {P:Program}{w:World}{K:W.Frag}{mg:Str->Option Value}{base:Heap}
theorem ai1 (T:Tb mg)(j7:Dn K mg "acted" pO (top 42) rA rB)(cH:Dn K mg "misfit" cB (top 16) d_ eE)(jB:aq P w K mg base aC (1) d_ eE cB (aaq))(oA:Dn K mg "is_plain" ["kind"] (top 11) xX xY)(Jd:aq P w K mg base aC (1) xX xY ["kind"] (IV)):aq P w K mg base aC (2) rA rB pO (aar):=by
 refine j7.F.ok BR (λvs H Q E h=>?_) (λcdv A outer s H vs Q E hr h=>?_)
 . obtain⟨kv,c,v0,k,tv,rfl,_⟩:=h
   rfl
 obtain⟨kv,c,v0,k,tv,rfl,hk,hp,hc,q⟩:=h
 have nd:=BR.nd
 refine⟨_,(ao (bf (i:=3) nd rfl (Or.inl rfl) (aZ bF (pv 1) aH (λ_ _=>rfl)))
  (ao (bf (i:=4) nd rfl (Or.inl rfl) (aZ bF (pv 0) aH (λ_ _=>rfl)))
  (ao (aV (PW.pt (o9 (aW bA (pv 3) bh (aQ _)) (o8 (PW.pt (jq (bY (aR Jd (hr.mono (by decide)) oA (aj (pv 0) ak))) (jo zW)))))) (aB (aN (fZ (aW mZ (aR jB (hr.mono (by decide)) cH (aj (pv 0) (aj (aZ bF (pv 1) aH (λ_ _=>rfl)) ak))) cD (aQ _)) (aZ bF (pv 1) aH (λ_ _=>rfl)) cD))) aU)
  (ao aM
  (ao aM
  (ao aM
  (ao aM
  (aB aM)))))))),?_⟩
 obtain⟨ka,kx,rest,rfl,hka⟩:∃ka kx rest,kv=.ref ka/\H ka=some (.tup (kx::rest)):=by
  cases k with
  |num=>unfold KA at hk;obtain⟨a,rfl,ha⟩:=hk;exact⟨a,_,_,rfl,ha⟩
  |eO=>unfold KA at hk;obtain⟨a,rfl,ha⟩:=hk;exact⟨a,_,_,rfl,ha⟩
  |_=>exact hp.elim
 refine⟨_,rfl,c,_,_,_,rfl,rfl,aD.of hc,rfl,?_⟩
 refine⟨_,rfl,ka,_,_,kx,rfl,rfl,aD.of hka,jO (j:=0) rfl,?_⟩
 refine⟨_,rfl,rfl,_,rfl,?_⟩
 rw[decide_eq_true rfl]
 refine bR ?_
 refine⟨_,rfl,_,k,rfl,hk,hp,λH1 s1=>⟨true,rfl,bR ?_⟩⟩
 have hc1:=s1 _ _ hc
 refine⟨_,rfl,_,rfl,c,_,_,_,rfl,rfl,aD.of hc1,rfl,_,k,rfl,KA.mono (Tu.of s1) k hk,hp,λp H2 s2=>?_⟩
 refine⟨rfl,_,rfl,?_⟩
 rw[decide_eq_false (by intro z;cases z)]
 exact bD (q _ (s1.trans s2))
theorem ai2 (T:Tb mg)(dY:Dn K mg "stepped" h_ (top 33) iK iM)(j7:Dn K mg "acted" pO (top 42) rA rB)(Je:aq P w K mg base aC (2) rA rB pO (aar)):aq P w K mg base aC (3) iK iM h_ (aas):=by
 refine dY.F.ok pX (λvs H Q E h=>?_) (λcdv A outer s H vs Q E hr h=>?_)
 . obtain⟨kv,c,e,v0,k,tv,rfl,_⟩:=h
   rfl
 obtain⟨kv,c,e,v0,k,tv,rfl,he,hk,hp,hc,q⟩:=h
 have nd:=pX.nd
 refine⟨_,(ao (aV (aW bA (aY eY (by rfl) T.dU PySem.boot_len (aj (pv 2) ak)) aH (aQ _)) (aB (aN (aR Je (hr.mono (by decide)) j7 (aj (pv 0) (aj (pv 1) (aj (pv 3) ak)))))) aU)
  (ao aM
  (ao aM
  (ao aM
  (ao aM
  (ao aM
  (aB aM))))))),?_⟩
 refine⟨_,rfl,e,_,rfl,.inr (aD.of he),rfl,_,rfl,?_⟩
 rw[decide_eq_true (show V.int (([]:List V).length:Nat)=V.int 0 from rfl)]
 refine bR ?_
 exact⟨_,rfl,_,rfl,_,rfl,kv,c,v0,k,tv,rfl,hk,hp,hc,q⟩
theorem ai3 (T:Tb mg)(j8:Dn K mg "stepped_in_record" pP (top 34) rD rE)(dY:Dn K mg "stepped" h_ (top 33) iK iM)(rF:aq P w K mg base aC (3) iK iM h_ (aas))(iI:Dn K mg "kind_at" mF (top 12) n8 n_)(xR:aq P w K mg base aC 1 n8 n_ mF (λvs H Q E=>Bt vs H Q E\/aap vs H Q E)):aq P w K mg base aC (4) rD rE pP (aat):=by
 refine j8.F.ok BW (λvs H Q E h=>?_) (λcdv A outer s H vs Q E hr h=>?_)
 . obtain⟨t,c,pt,a,xs,fs,tv,nm,l,f,rfl,_⟩:=h
   rfl
 obtain⟨t,c,pt,a,xs,fs,tv,nm,l,f,rfl,ht,hfa,hnd,hc,hpt,hbad,ha,q⟩:=h
 have nd:=BW.nd
 have hu:=eZ hr
 refine⟨_,(ao (bf (i:=4) nd rfl (Or.inl rfl) (aZ bF (pv 2) aH (λ_ _=>rfl)))
  (ao (bf (i:=5) nd rfl (Or.inl rfl) (aR xR (hr.mono (by decide)) iI (aj (pv 0) (aj (pv 4) ak))))
  (ao (aV (aW mZ (pv 5) cD (aQ _)) (aB (aN cD)) aU)
  (ao (bf (i:=6) nd rfl (Or.inl rfl) (aR rF (hr.mono (by decide)) dY (aj (pv 5) (aj (pv 1) (aj (vX Wa (pv 2) (vW aH) vV) (aj (gk hu (pv 3) (pv 4) (λ_ _=>rfl)) ak))))))
  (ao (aV (aW mZ (pv 6) cD (aQ _)) (aB (aN cD)) aU)
  (ao (bf (i:=7) nd rfl (Or.inl rfl) (iZ tV (by rfl) T.g_ boot_dict (aj (pv 3) ak)))
  (ao (qN hu (pv 7) (pv 4) (pv 6) rfl)
  (aB (aN (pv 7)))))))))),?_⟩
 refine⟨_,rfl,pt,_,_,_,rfl,rfl,aD.of hpt,rfl,?_⟩
 rcases hbad with hno|⟨k,hg,hpk,hnl⟩
 . refine⟨_,rfl,_,rfl,.inr ⟨t,nm,xs,fs,rfl,ht,hfa,hno,?_⟩⟩
   refine⟨_,rfl,rfl,_,rfl,?_⟩
   rw[decide_eq_true rfl]
   exact bR (q _ (Same.refl _))
 . refine⟨_,rfl,_,rfl,.inl ⟨t,nm,xs,fs,k,rfl,ht,hfa,hnd,hg,λu Jf hne=>?_⟩⟩
   refine⟨_,rfl,rfl,_,rfl,?_⟩
   rw[decide_eq_false hne]
   refine bD ?_
   refine⟨_,rfl,_,rfl,_,rfl,_,rfl,pt,_,rfl,aD.of hpt,(by rintro⟨z,_⟩;exact absurd z (show ¬HT.bG 1 0 (some 1)=0 by decide)),λe he=>?_⟩
   have s1:Same H (upd H e (.tup (eX [V.str nm] (some 1) none))):=Same.new he
   have hv0:bW (upd H e (.tup (eX [V.str nm] (some 1) none))) a (.str nm) (some (f nm)):=by
    have:=bW.k (k:=Sum.inr nm) (s1 _ _ ha)
    rw[gQ,if_pos hnl] at this
    exact this
   refine⟨_,rfl,_,rfl,a,f nm,rfl,hv0,u,c,e,_,k,tv,rfl,aF,KA.mono (Tu.of s1) k Jf,hpk,s1 _ _ hc,λH2 s2=>?_⟩
   refine⟨_,rfl,rfl,_,rfl,?_⟩
   rw[decide_eq_true rfl]
   exact bR (q _ (s1.trans s2))
theorem ai4 (T:Tb mg)(dY:Dn K mg "stepped" h_ (top 33) iK iM)(j8:Dn K mg "stepped_in_record" pP (top 34) rD rE)(Jg:aq P w K mg base aC (4) rD rE pP (aat)):aq P w K mg base aC (5) iK iM h_ (aau):=by
 refine dY.F.ok pX (λvs H Q E h=>?_) (λcdv A outer s H vs Q E hr h=>?_)
 . obtain⟨kk,t,c,pt,a,xs,fs,tv,nm,l,f,rfl,_⟩:=h
   rfl
 obtain⟨kk,t,c,pt,a,xs,fs,tv,nm,l,f,rfl,hK,hc,hpt,hb,ha,q⟩:=h
 have nd:=pX.nd
 refine⟨_,(ao (aV (aW bA (aY eY (by rfl) T.dU PySem.boot_len (aj (pv 2) ak)) aH (aQ _)) (aB aM) aU)
  (ao (bf (i:=4) nd rfl (Or.inl rfl) (aZ bF (pv 0) aH (λ_ _=>rfl)))
  (ao (aV (aW bA (pv 4) bh (aQ _)) (aB (aN (aR Jg (hr.mono (by decide)) j8 (aj (aZ bF (pv 0) aH (λ_ _=>rfl)) (aj (pv 1) (aj (pv 2) (aj (pv 3) ak))))))) aU)
  (ao aM
  (ao aM
  (ao aM
  (aB aM))))))),?_⟩
 refine⟨_,rfl,pt,_,rfl,.inr (aD.of hpt),rfl,_,rfl,?_⟩
 rw[decide_eq_false (by intro z;cases z)]
 refine bD ?_
 refine⟨_,rfl,kk,_,_,_,rfl,rfl,aD.of hK.at_,rfl,?_⟩
 refine jQ rfl (by decide +kernel) ?_
 exact⟨_,rfl,kk,_,_,_,rfl,rfl,aD.of hK.at_,rfl,_,rfl,_,rfl,_,rfl,t,c,pt,a,xs,fs,tv,nm,l,f,rfl,hK.tu,hK.fa,hK.nd,hc,hpt,hb,ha,q⟩
theorem ai5 {dN:Addr}{H:Hp}{E:XK}{n:Nat}(q:J0 dN n (Same H) E){H1:Hp}(s1:Same H H1)(a:Addr)(ha:H1 a=none):JZ dN [.ref a,.int n] (upd H1 a (lE a dN)) (λv H2=>v=.non/\∃dx,H2 a=some (MadeX a dN dx)/\E (.ref dN) (some dx) (rem H2 a)) E0:=by
 refine⟨a,.int n,rfl,aF,λdx H' hda keep J3 hdx=>⟨rfl,dx,J3,?_⟩⟩
 refine q dx _ (λc o e=>?_) (by rw[jU hda];exact hdx)
 have e1:=s1 c o e
 have hca:=aO e1 ha
 rw[jU hca]
 exact keep c o hca (by rw[au hca];exact e1)
noncomputable def aaw (K:W.Frag) (dN:Addr):Sp:=λvs H _ E=>∃kk t pl a c pt xs fs ys zs ops nm,∃f:Str->V,∃l:List Str,vs=[.ref kk,.ref pl,.ref a]/\dI H kk t xs fs/\aG K H pl (ys++ .ref c::zs)/\bV H ys ops/\ig fs ops/\(∀o∈ops,o.1∈l)/\l.length<=12/\H a=some (.dK (aK f l))/\H c=some (.tup [.str "set",.ref pt,.non])/\H pt=some (.tup [.str nm])/\uV fs l nm/\J0 dN ops.length (Same H) E
section
variable {P:Program}{w:World}{K:W.Frag}{mg:Str->Option Value}{base:Heap}
variable {dN:Addr}
theorem ai6 (T:Tb mg)(XN:rW K mg base "NoPaper" "at" dN uW)(jj:Dn K mg "done" pQ (top 31) rH rJ)(dY:Dn K mg "stepped" h_ (top 33) iK iM)(rF:aq P w K mg base aC 5 iK iM h_ (λvs H Q E=>Jc vs H Q E\/aau vs H Q E))(uX:Dm K "__init__" "NoPaper.__init__" ["self","at"] (aJ 9 0) uW J1)(ai7:aq P w K mg base aC (1) uW J1 ["self","at"] (JZ dN)):aq P w K mg base (gA P w) 6 rH rJ pQ (aaw K dN):=by
 refine yC jj.F BX (λvs H Q E h=>?_) (λcdv A outer s H vs Q E hr h=>?_)
 . obtain⟨kk,t,pl,a,c,pt,xs,fs,ys,zs,ops,nm,f,l,rfl,_⟩:=h
   rfl
 obtain⟨kk,t,pl,a,c,pt,xs,fs,ys,zs,ops,nm,f,l,rfl,hK,hpl,hP,hO,hin,rG,ha,hc,hpt,hbad,q⟩:=h
 have nd:=BX.nd
 refine⟨_,(ao (bf (i:=3) nd rfl (Or.inl rfl) (pv 2))
  (ao (iW PassesOwn.leaving rfl (Gj rfl T.Hl (aj (pv 1) ak)) (gh rfl (cF (bH (i:=4) nd rfl (Or.inl rfl)) (cF (bH (i:=5) nd rfl (Or.inl rfl)) f9))) (ao (bf (i:=3) nd rfl (Or.inl rfl) (aR rF (hr.mono (by decide)) dY (aj (pv 0) (aj (pv 5) (aj (aZ bF (pv 5) aH (λ_ _=>rfl)) (aj (pv 3) ak))))))
  (aB (aV (aW mZ (pv 3) cD (aQ _)) (aB (Yi rfl XN.xi PySem.F.excBase_ValueError XN.kp ai7 (hr.mono (by decide)) rfl rfl XN.m uX.b Yj (aj (pv 4) ak))) aU))))
  (aB (aN (pv 3))))),?_⟩
 refine⟨_,rfl,?_⟩
 refine⟨_,rfl,pl,rfl,⟨_,hpl⟩,Zx (xs:=ys++ .ref c::zs) (λi σ H'=>i<=ops.length/\Same H H'/\∃p x y,σ=[some (.ref kk),some (.ref pl),some (.ref a),some (.ref p),x,y]/\H' p=some (.dK (aK (cM f (ops.take i)) l))) ⟨Q0b _,Same.refl _,a,_,_,rfl,ha⟩ ?_ ?_ ?_⟩
 . rintro i σ H' _ ⟨_,s1,_⟩
   exact Pb.aG.xQ hpl s1
 . rintro i v σ H' z hv ⟨hi0,s1,p,x,y,rfl,hp⟩ hz
   by_cases hi:i<ops.length
   . have ho:ops[i]? =some ops[i]:=Q05 hi
     rw[Q0t (by rw[hP.1];exact hi)] at hv
     obtain⟨c',pt',rfl,hc',ai9⟩:=(hP.mono (Tu.of s1)).2 i v ops[i] hv ho
     obtain⟨k,hg,hpk⟩:=hO _ (Q0r hi)
     have s2:Same H' (upd H' z (.tup [.int i,.ref c'])):=Same.new hz
     refine⟨z,_,rfl,aD.of aF,rfl,_,_,rfl,_,_,rfl,rfl,?_⟩
     refine⟨_,rfl,_,rfl,_,rfl,c',_,_,_,rfl,rfl,aD.of (s2 _ _ hc'),rfl,_,rfl,.inl ⟨kk,t,c',pt',p,xs,fs,k,_,_,_,_,rfl,(hK.mono (Tu.of s1)).mono (Tu.of s2),s2 _ _ hc',s2 _ _ ai9,hg,hpk,l,hin _ (Q0r hi),rG,s2 _ _ hp,λp' H3 s3 hp'=>?_⟩⟩
     refine⟨_,rfl,rfl,_,rfl,?_⟩
     rw[decide_eq_false (by intro z;cases z)]
     refine bD ⟨hi,s1.trans (s2.trans s3),p',_,_,rfl,?_⟩
     rw[hp',Q0p,ho]
     unfold cM
     rw[Q2f]
     rfl
   . have ei:i=ops.length:=by omega
     subst ei
     rw[Q0q (by rw[hP.1];exact Q02 _),hP.1,Q1x] at hv
     have hv:some (V.ref c)=some v:=hv
     cases hv
     have s2:Same H' (upd H' z (.tup [.int ops.length,.ref c])):=Same.new hz
     have s12:=s1.trans s2
     refine⟨z,_,rfl,aD.of aF,rfl,_,_,rfl,_,_,rfl,rfl,?_⟩
     refine⟨_,rfl,_,rfl,_,rfl,c,_,_,_,rfl,rfl,aD.of (s12 _ _ hc),rfl,_,rfl,.inr ⟨kk,t,c,pt,p,xs,fs,_,nm,l,_,rfl,hK.mono (Tu.of s12),s12 _ _ hc,s12 _ _ hpt,hbad,s2 _ _ hp,λH3 s3=>?_⟩⟩
     refine⟨_,rfl,rfl,_,rfl,?_⟩
     rw[decide_eq_true rfl]
     exact bR ⟨_,rfl,gH,ai5 q (s12.trans s3)⟩
 . rintro σ H' ⟨hi0,_⟩
   rw[Q09,hP.1,Q0o] at hi0
   omega
end
noncomputable def aax (C CD dN:Addr):Sp:=λvs H _ E=>∃d pa dd kk t src vv ps xs fs hks pl c pt ys zs ops nm,∃f:Str->V,vs=[.ref d,.ref pa]/\cN H C CD d dd kk t src vv ps xs fs f hks pl/\H pa=some (.lst (ys++ .ref c::zs))/\bV H ys ops/\ig fs ops/\H c=some (.tup [.str "set",.ref pt,.non])/\H pt=some (.tup [.str nm])/\uV fs fs.names nm/\J0 dN ops.length (Same H) E
inductive lH (H:Hp):V->Prop where
 |non:lH H .non
 |rY:lH H (.bl true)
 |lst {a:Addr} (e:H a=some (.lst [])):lH H (.ref a)
 |rZ {a:Addr} (e:H a=some (.dK [])):lH H (.ref a)
theorem lH.same {H H':Hp}{v:V}(s:Same H H')(h:lH H v):lH H' v:=by
 cases h with
 |non=>exact .non
 |rY=>exact .rY
 |lst e=>exact .lst (s _ _ e)
 |rZ e=>exact .rZ (s _ _ e)
noncomputable def aay:Sp:=λvs H Q _=>∃kv v k,vs=[kv,v]/\KA H kv k/\gw k/\lH H v/\∀p H',Same H H'->H' p=some (.lst [])->Q (.ref p) H'
noncomputable def mU (H:Hp) (fs:Fs) (kvs:List (Key × V)) (odd:Str):Prop:=kvs.length=fs.names.length/\odd∈fs.names/\∀i nm k,fs.at i=some (nm,k)->∃v,dR kvs (Sum.inr nm)=some v/\gw k/\(nm≠odd->dH k v)/\(nm=odd->lH H v)
noncomputable def aaz:Sp:=λvs H Q _=>∃b a xs kvs fs odd,vs=[.ref b,.ref a]/\H b=some (.tup xs)/\FA H xs fs/\fs.names.length<=12/\H a=some (.dK kvs)/\mU H fs kvs odd/\∀p H',Same H H'->H' p=some (.lst [.str odd])->Q (.ref p) H'
noncomputable def aaA:Sp:=λvs H Q _=>∃kk t a xs kvs fs odd,vs=[.ref kk,.ref a]/\dI H kk t xs fs/\H a=some (.dK kvs)/\mU H fs kvs odd/\∀p H',Same H H'->H' p=some (.lst [.str odd])->Q (.ref p) H'
section
variable {P:Program}{w:World}{K:W.Frag}{mg:Str->Option Value}{base:Heap}
variable {C P2 CD dN:Addr}
theorem ai_ (T:Tb mg)(DK:iu K CD)(rR:Meth K CD "did" jF)(oM:Dm K "change" "Desk.change" tZ (aJ 52 8) uP yt)(iQ:Dm K "did" "Desk.did" je (aJ 52 10) jF oJ)(rT:aq P w K mg base aC (14) jF oJ je (yj P2 C CD))(jj:Dn K mg "done" pQ (top 31) rH rJ)(aja:aq P w K mg base (gA P w) 6 rH rJ pQ (aaw K dN)):aq P w K mg base (gA P w) 15 uP yt tZ (aax C CD dN):=by
 have eF:=DK.ct
 refine yC oM.F Cq (λvs H Q E h=>?_) (λcdv A outer s H vs Q E hr h=>?_)
 . obtain⟨d,pa,dd,kk,t,src,vv,ps,xs,fs,hks,pl,c,pt,ys,zs,ops,nm,f,rfl,_⟩:=h
   rfl
 obtain⟨d,pa,dd,kk,t,src,vv,ps,xs,fs,hks,pl,c,pt,ys,zs,ops,nm,f,rfl,hD,hpa,hP,hO,hc,hpt,hbad,q⟩:=h
 have nd:=Cq.nd
 refine⟨_,(aB (aN (fV (pv 0) eF rR rT (hr.mono (by decide)) iQ.b .nil eG (aj (Ft aja (hr.mono (by decide)) rfl jj.m jj.F.kp jj.b .nil (G8 λ_ _ _ z=>z) (aj (cZ (pv 0) rfl) (aj (pv 1) (aj (cZ (pv 0) rfl) ak)))) ak)))),?_⟩
 exact⟨_,rfl,d,dd,_,rfl,hD.ob,rfl,_,rfl,d,CD,dd,_,_,rfl,hD.ob,DK.ct,DK.nk,rfl,_,rfl,_,rfl,d,CD,dd,_,_,rfl,hD.ob,DK.ct,DK.ns,rfl,kk,t,pa,src,c,pt,xs,fs,ys,zs,ops,nm,f,fs.names,rfl,hD.kd,aG.of hpa,hP,hO,Z9 hO,hD.kd.bM,hD.sr,hc,hpt,hbad,q⟩
theorem ajb (T:Tb mg)(cH:Dn K mg "misfit" cB (top 16) d_ eE):aq P w K mg base aC (1) d_ eE cB (aay):=by
 refine cH.F.ok mK (λvs H Q E h=>?_) (λcdv A outer s H vs Q E hr h=>?_)
 . obtain⟨kv,v,k,rfl,_⟩:=h
   rfl
 obtain⟨kv,v,k,rfl,hk,hp,hj,q⟩:=h
 have nd:=mK.nd
 refine⟨_,(ao (bf (i:=2) nd rfl (Or.inl rfl) (aZ bF (pv 0) aH (λ_ _=>rfl)))
  (ao (aV (aW bA (pv 2) bh (aQ _)) (aB (aN (fZ (PW.pt (o9 (bY (aY bO (by rfl) T.bQ boot_isinstance (aj (pv 1) (aj (bN (v:=.ty "int") rfl T.qW boot_int rfl) ak)))) (o8 (iV (bY (aY bO (by rfl) T.bQ boot_isinstance (aj (pv 1) (aj (bN (v:=.ty "bool") rfl T.qX boot_bool rfl) ak)))))))) cD (dG ak)))) aU)
  (ao (aV (aW bA (pv 2) bh (aQ _)) (aB (aN (fZ (bY (aY bO (by rfl) T.bQ boot_isinstance (aj (pv 1) (aj (bN (v:=.ty "str") rfl T.nM boot_str rfl) ak)))) cD (dG ak)))) aU)
  (ao (aV (aW bA (pv 2) bh (aQ _)) (aB aM) aU)
  (ao (aV (aW bA (pv 2) bh (aQ _)) (aB aM) aU)
  (ao (aV (aW bA (pv 2) bh (aQ _)) (aB aM) aU)
  (aB aM))))))),?_⟩
 cases k with
 |num=>
  unfold KA at hk
  obtain⟨a,rfl,ha⟩:=hk
  refine⟨_,rfl,a,_,_,_,rfl,rfl,aD.of ha,rfl,?_⟩
  refine jQ rfl (by decide +kernel) ?_
  cases hj with
  |non=>exact⟨_,rfl,_,_,_,false,rfl,.non,rfl,false,rfl,bD ⟨fM,λp hp=>q p _ (Same.new hp) aF⟩⟩
  |rY=>exact⟨_,rfl,_,_,_,true,rfl,.bl true,rfl,true,rfl,bR ⟨_,rfl,_,_,_,true,rfl,.bl true,rfl,true,rfl,bD ⟨fM,λp hp=>q p _ (Same.new hp) aF⟩⟩⟩
  |lst e=>exact⟨_,rfl,_,_,_,false,rfl,.lst e,rfl,false,rfl,bD ⟨fM,λp hp=>q p _ (Same.new hp) aF⟩⟩
  |rZ e=>exact⟨_,rfl,_,_,_,false,rfl,.dK e,rfl,false,rfl,bD ⟨fM,λp hp=>q p _ (Same.new hp) aF⟩⟩
 |eO=>
  unfold KA at hk
  obtain⟨a,rfl,ha⟩:=hk
  refine⟨_,rfl,a,_,_,_,rfl,rfl,aD.of ha,rfl,?_⟩
  refine gq rfl (by decide +kernel) ?_
  refine jQ rfl (by decide +kernel) ?_
  cases hj with
  |non=>exact⟨_,rfl,_,_,_,false,rfl,.non,rfl,false,rfl,bD ⟨fM,λp hp=>q p _ (Same.new hp) aF⟩⟩
  |rY=>exact⟨_,rfl,_,_,_,false,rfl,.bl true,rfl,false,rfl,bD ⟨fM,λp hp=>q p _ (Same.new hp) aF⟩⟩
  |lst e=>exact⟨_,rfl,_,_,_,false,rfl,.lst e,rfl,false,rfl,bD ⟨fM,λp hp=>q p _ (Same.new hp) aF⟩⟩
  |rZ e=>exact⟨_,rfl,_,_,_,false,rfl,.dK e,rfl,false,rfl,bD ⟨fM,λp hp=>q p _ (Same.new hp) aF⟩⟩
 |_=>exact hp.elim
theorem ajc (T:Tb mg)(j5:Dn K mg "record_misfit" gC (top 17) qZ q9)(ou:Dn K mg "has_just" gC (top 18) xV xW)(IW:aq P w K mg base aC (1) xV xW gC (IK))(cH:Dn K mg "misfit" cB (top 16) d_ eE)(jB:aq P w K mg base aC 1 d_ eE cB (λvs H Q E=>BJ vs H Q E\/aay vs H Q E)):aq P w K mg base aC (2) qZ q9 gC (aaz):=by
 refine j5.F.ok BK (λvs H Q E h=>?_) (λcdv A outer s H vs Q E hr h=>?_)
 . obtain⟨b,a,xs,kvs,fs,odd,rfl,_⟩:=h
   rfl
 obtain⟨b,a,xs,kvs,fs,odd,rfl,hb,hfa,hx,ha,⟨hkl,hodd,hget⟩,q⟩:=h
 have nd:=BK.nd
 have hu:=eZ hr
 refine⟨_,(ao (aV (PW.pt (jq (iV (bY (aY bO (by rfl) T.bQ boot_isinstance (aj (pv 1) (aj (bN (v:=.ty "dict") rfl T.g_ boot_dict rfl) ak))))) (jo (iV (bY (aR IW (hr.mono (by decide)) ou (aj (pv 0) (aj (pv 1) ak)))))))) (aB (aN (dG ak))) aU)
  (ao (iW PassesOwn.never rfl (lg (pv 0)) (gh rfl (cF (bH (i:=2) nd rfl (Or.inl rfl)) (cF (bH (i:=3) nd rfl (Or.inl rfl)) f9))) (ao (bf (i:=4) nd rfl (Or.inl rfl) (aR jB (hr.mono (by decide)) cH (aj (pv 3) (aj (gk hu (pv 1) (pv 2) (λ_ _=>rfl)) ak))))
  (aB (aV (aW tE (pv 4) cD (aQ _)) (aB (aN (aX Ga (dG (aj (pv 2) ak)) (pv 4)))) aU))))
  (aB (aN cD)))),?_⟩
 refine⟨_,rfl,_,_,_,true,rfl,.dK ha,rfl,true,rfl,bD ?_⟩
 refine⟨_,rfl,_,rfl,b,a,xs,kvs,fs,rfl,hb,hfa,hx,ha,hkl,(λi nm k h=>by obtain⟨v,hv,_⟩:=hget i nm k h;exact⟨v,hv⟩),λH1 s1=>⟨true,rfl,bD ?_⟩⟩
 refine⟨_,rfl,b,rfl,⟨_,aD.of (s1 _ _ hb)⟩,sZ (xs:=xs) (λi σ H'=>Same H H'/\(∃x y z,σ=[some (.ref b),some (.ref a),x,y,z])/\∀j,j<i->fs.names[j]? ≠some odd) ⟨s1,⟨_,_,_,rfl⟩,λj hj=>absurd hj (by omega)⟩ ?_ ?_ ?_⟩
 . rintro i σ H' _ ⟨s2,_⟩
   exact aD.of (s2 _ _ hb)
 . rintro i v σ H' hv ⟨s2,⟨x,y,z,rfl⟩,hno⟩
   obtain⟨c,u,nm,k,rfl,hat,hc,hk⟩:=FA.get fs hfa hv
   have hnm:fs.names[i]? =some nm:=by rw[Fs.gZ,hat];rfl
   obtain⟨e,hval,hpl,h1,h2⟩:=hget i nm k hat
   refine⟨c,_,rfl,aD.of (s2 _ _ hc),rfl,_,_,rfl,_,_,rfl,rfl,?_⟩
   have ga:bW H' a (.str nm) (some e):=by have:=bW.k (k:=Sum.inr nm) (s2 _ _ ha);rw[hval] at this;exact this
   by_cases ho:nm=odd
   . refine⟨_,rfl,_,rfl,_,rfl,a,e,rfl,ga,.inr ⟨u,e,k,rfl,KA.mono (Tu.of s2) k hk,hpl,(h2 ho).same s2,λp H3 s3 hp=>?_⟩⟩
     refine⟨_,rfl,rfl,_,rfl,?_⟩
     rw[decide_eq_false (by intro z;cases z)]
     refine bR ?_
     refine⟨_,rfl,gH,λl hl=>?_⟩
     have s4:=Same.new hl (o:=.lst [.str nm])
     refine⟨_,rfl,l,p,_,_,rfl,rfl,aF,s4 _ _ hp,gH,λr hr'=>?_⟩
     exact q r _ (s2.trans (s3.trans (s4.trans (Same.new hr')))) (by rw[aF,ho];rfl)
   . refine⟨_,rfl,_,rfl,_,rfl,a,e,rfl,ga,.inl ⟨u,e,k,rfl,KA.mono (Tu.of s2) k hk,h1 ho,?_⟩⟩
     refine⟨_,rfl,rfl,_,rfl,?_⟩
     rw[decide_eq_true rfl]
     refine bD ⟨s2,⟨_,_,_,rfl⟩,λj hj=>?_⟩
     by_cases ej:j<i
     . exact hno j ej
     . have:j=i:=by omega
       subst this
       rw[hnm]
       intro z
       cases z
       exact ho rfl
 . rintro σ H' ⟨s2,_,hno⟩
   obtain⟨j,hj,e⟩:=Q19 hodd
   exact absurd (by rw[Q05 hj,e]) (hno j (by rw[FA.len fs hfa];exact hj))
end
noncomputable def J4 (K:W.Frag) (C:Addr):Sp:=λvs H Q _=>∃a p0 ws,vs=[.ref a,.ref p0]/\H a=some (lE a C)/\aG K H p0 ws/\∀p dx H',p≠a->dx≠a->(∀c o,c≠a->H c=some o->H' c=some o)->H' a=some (MadeX a C dx)->H' dx=some (.xd [("way",.ref p)])->H' p=some (.lst ws)->Q .non H'
noncomputable def XW (dB:Addr) (ws:List V) (Kp:Hp->Prop) (E:XK):Prop:=∀dx p H',Kp H'->H' dx=some (.xd [("way",.ref p)])->H' p=some (.lst ws)->E (.ref dB) (some dx) H'
theorem ajd {K:W.Frag}{dB:Addr}{H:Hp}{E:XK}{ws:List V}(q:XW dB ws (Same H) E){p0:Addr}{H1:Hp}(s1:Same H H1)(hp0:H1 p0=some (.lst ws))(a:Addr)(ha:H1 a=none):J4 K dB [.ref a,.ref p0] (upd H1 a (lE a dB)) (λv H2=>v=.non/\∃dx,H2 a=some (MadeX a dB dx)/\E (.ref dB) (some dx) (rem H2 a)) E0:=by
 refine⟨a,p0,ws,rfl,aF,aG.of (by rw[au (aO hp0 ha)];exact hp0),λp dx H' hpa hda keep J3 hdx hp=>⟨rfl,dx,J3,?_⟩⟩
 refine q dx p _ (λc o e=>?_) (by rw[jU hda];exact hdx) (by rw[jU hpa];exact hp)
 have e1:=s1 c o e
 have hca:=aO e1 ha
 rw[jU hca]
 exact keep c o hca (by rw[au hca];exact e1)
noncomputable def aaB (dB:Addr):Sp:=λvs H _ E=>∃kk t a xs kvs fs odd,vs=[.ref kk,.ref a]/\dI H kk t xs fs/\H a=some (.dK kvs)/\mU H fs kvs odd/\XW dB [.str odd] (Same H) E
noncomputable def aaC (P2 C dB:Addr):Sp:=λvs H _ E=>∃v kk t dx nl xs fs ss src sn kvs odd,vs=[.ref v,.ref kk,.ref src,.ref sn]/\dX H C v dx nl ss/\dI H kk t xs fs/\(∀x∈ss,x∈fs.names)/\bw P2 bK bL H/\H sn=some (.dK kvs)/\mU H (fs.bU ss) kvs odd/\
 XW dB [.str odd] (λH'=>d9 P2 H H'/\bw P2 bK bL H') E
noncomputable def aaD (P2 C CD dB:Addr):Sp:=λvs H _ E=>∃d sn dd kk t src vv ps xs fs hks pl h kvs odd,∃f:Str->V,vs=[.ref d,.str h.1,.ref sn]/\cN H C CD d dd kk t src vv ps xs fs f hks pl/\h∈hks/\bw P2 bK bL H/\H sn=some (.dK kvs)/\mU H (fs.bU h.2.2) kvs odd/\
 XW dB [.str odd] (λH'=>d9 P2 H H'/\bw P2 bK bL H') E
theorem mU.kpt {P2:Addr}{H H':Hp}{fs:Fs}{kvs:List (Key × V)}{odd:Str}{lp:Pos}{ql:Str}(h:mU H fs kvs odd)(k:d9 P2 H H')(hT:bw P2 lp ql H):mU H' fs kvs odd:=by
 refine⟨h.1,h.2.1,λi nm kd hat=>?_⟩
 obtain⟨v,h1,h2,h3,h4⟩:=h.2.2 i nm kd hat
 refine⟨v,h1,h2,h3,λz=>?_⟩
 cases h4 z with
 |non=>exact .non
 |rY=>exact .rY
 |lst e=>exact .lst (k.keep hT e (by intro ps z;cases z))
 |rZ e=>exact .rZ (k.keep hT e (by intro ps z;cases z))
section
variable {P:Program}{w:World}{K:W.Frag}{mg:Str->Option Value}{base:Heap}
variable {C P2 CD dB:Addr}
theorem aaE:bC ["self","way"] ["self","way"] (aL (aJ 7 0)):=by refine⟨rfl,rfl,rfl,?_,rfl,?_,?_⟩ <;> decide +kernel
theorem ajf (T:Tb mg)(XC:rW K mg base "CantPut" "way" dB uY)(uZ:Dm K "__init__" "CantPut.__init__" ["self","way"] (aJ 7 0) uY J5):aq P w K mg base aC (1) uY J5 ["self","way"] (J4 K dB):=by
 refine uZ.F.ok aaE (λvs H Q E h=>?_) (λcdv A outer s H vs Q E hr h=>?_)
 . obtain⟨a,p0,ws,rfl,_⟩:=h
   rfl
 obtain⟨a,p0,ws,rfl,ha,hs,q⟩:=h
 have nd:=aaE.nd
 refine⟨_,(aB (Yg (pv 0) (iZ FW (by rfl) T.jV boot_list (aj (pv 1) ak)) rfl)),?_⟩
 refine⟨_,rfl,p0,_,rfl,.inl hs,λp hp=>?_⟩
 have hpa:a≠p:=aO ha hp
 refine⟨_,rfl,a,dB,rfl,by rw[au hpa];exact ha,XC.fld,λdx hdx hda=>?_⟩
 have hpd:p≠dx:=aO (H:=upd H p (.lst ws)) aF hdx
 refine q p dx _ (Ne.symm hpa) hda (λc o hc e=>?_) aF ?_ ?_
 . have e1:upd H p (.lst ws) c=some o:=by rw[au (aO e hp)];exact e
   rw[au hc,au (aO e1 hdx)];exact e1
 . rw[au hda,aF]
 . rw[au (Ne.symm hpa),au hpd,aF]
theorem ajg (T:Tb mg)(cH:Dn K mg "misfit" cB (top 16) d_ eE)(j5:Dn K mg "record_misfit" gC (top 17) qZ q9)(I_:aq P w K mg base aC (2) qZ q9 gC (aaz)):aq P w K mg base aC (3) d_ eE cB (aaA):=by
 refine cH.F.ok mK (λvs H Q E h=>?_) (λcdv A outer s H vs Q E hr h=>?_)
 . obtain⟨kk,t,a,xs,kvs,fs,odd,rfl,_⟩:=h
   rfl
 obtain⟨kk,t,a,xs,kvs,fs,odd,rfl,hK,ha,hH,q⟩:=h
 have nd:=mK.nd
 refine⟨_,(ao (bf (i:=2) nd rfl (Or.inl rfl) (aZ bF (pv 0) aH (λ_ _=>rfl)))
  (ao (aV (aW bA (pv 2) bh (aQ _)) (aB (aN (fZ (PW.pt (o9 (bY (aY bO (by rfl) T.bQ boot_isinstance (aj (pv 1) (aj (bN (v:=.ty "int") rfl T.qW boot_int rfl) ak)))) (o8 (iV (bY (aY bO (by rfl) T.bQ boot_isinstance (aj (pv 1) (aj (bN (v:=.ty "bool") rfl T.qX boot_bool rfl) ak)))))))) cD (dG ak)))) aU)
  (ao (aV (aW bA (pv 2) bh (aQ _)) (aB (aN (fZ (bY (aY bO (by rfl) T.bQ boot_isinstance (aj (pv 1) (aj (bN (v:=.ty "str") rfl T.nM boot_str rfl) ak)))) cD (dG ak)))) aU)
  (ao (aV (aW bA (pv 2) bh (aQ _)) (aB (aN (aR I_ (hr.mono (by decide)) j5 (aj (aZ bF (pv 0) aH (λ_ _=>rfl)) (aj (pv 1) ak))))) aU)
  (ao (aV (aW bA (pv 2) bh (aQ _)) (aB aM) aU)
  (ao (aV (aW bA (pv 2) bh (aQ _)) (aB aM) aU)
  (aB aM))))))),?_⟩
 refine⟨_,rfl,kk,_,_,_,rfl,rfl,aD.of hK.at_,rfl,?_⟩
 refine gq rfl (by decide +kernel) ?_
 refine gq rfl (by decide +kernel) ?_
 refine jQ rfl (by decide +kernel) ?_
 exact⟨_,rfl,kk,_,_,_,rfl,rfl,aD.of hK.at_,rfl,_,rfl,t,a,xs,kvs,fs,odd,rfl,hK.tu,hK.fa,hK.bM,ha,hH,q⟩
theorem ajh (T:Tb mg)(XC:rW K mg base "CantPut" "way" dB uY)(ji:Dn K mg "ask_fit" pL (top 54) q_ rm)(cH:Dn K mg "misfit" cB (top 16) d_ eE)(jB:aq P w K mg base aC (3) d_ eE cB (aaA))(uZ:Dm K "__init__" "CantPut.__init__" ["self","way"] (aJ 7 0) uY J5)(aji:aq P w K mg base aC (1) uY J5 ["self","way"] (J4 K dB)):aq P w K mg base (gA P w) 4 q_ rm pL (aaB dB):=by
 refine yC ji.F BL (λvs H Q E h=>?_) (λcdv A outer s H vs Q E hr h=>?_)
 . obtain⟨kk,t,a,xs,kvs,fs,odd,rfl,_⟩:=h
   rfl
 obtain⟨kk,t,a,xs,kvs,fs,odd,rfl,hK,ha,hH,q⟩:=h
 have nd:=BL.nd
 refine⟨_,(ao (bf (i:=2) nd rfl (Or.inl rfl) (aR jB (hr.mono (by decide)) cH (aj (pv 0) (aj (pv 1) ak))))
  (aB (aV (aW tE (pv 2) cD (aQ _)) (aB (Yi rfl XC.xi PySem.F.excBase_ValueError XC.kp aji (hr.mono (by decide)) rfl rfl XC.m uZ.b Yj (aj (pv 2) ak))) aU))),?_⟩
 refine⟨_,rfl,_,rfl,kk,t,a,xs,kvs,fs,odd,rfl,hK,ha,hH,λp0 H1 s1 hp0=>?_⟩
 exact⟨_,rfl,rfl,_,rfl,bR ⟨_,rfl,gH,ajd q s1 hp0⟩⟩
theorem ajj (T:Tb mg)(TK:j4 K mg C jg eV jh gF)(j6:Dm K "put" "Take.put" pN (aJ 61 3) gF rz)(ji:Dn K mg "ask_fit" pL (top 54) q_ rm)(ajk:aq P w K mg base (gA P w) 4 q_ rm pL (aaB dB))(gG:Dm K "behind" "Take.behind" jW (aJ 61 1) eV lF)(oE:aq P w K mg base aC (10) eV lF jW (uE P2 C)):aq P w K mg base (gA P w) 11 gF rz pN (aaC P2 C dB):=by
 have CT:=TK.ct
 have oF:=TK.b
 refine yC j6.F BP (λvs H Q E h=>?_) (λcdv A outer s H vs Q E hr h=>?_)
 . obtain⟨v,kk,t,dx,nl,xs,fs,ss,src,sn,kvs,odd,rfl,_⟩:=h
   rfl
 obtain⟨v,kk,t,dx,nl,xs,fs,ss,src,sn,kvs,odd,rfl,hV,hK,hin,hT,hsn,hH,q⟩:=h
 have nd:=BP.nd
 refine⟨_,(ao (iB (Ft ajk (hr.mono (by decide)) rfl ji.m ji.F.kp ji.b .nil (G8 λ_ _ _ z=>z) (aj (fV (pv 0) CT oF oE (hr.mono (by decide)) gG.b .nil eG (aj (pv 1) ak)) (aj (pv 3) ak))))
  (ao (bf (i:=4) nd rfl (Or.inl rfl) (iZ tV (by rfl) T.g_ boot_dict (aj (pv 2) ak)))
  (ao (iB (pF PySem.F.plainAttrs_dict PySem.F.slot_dict_update PySem.F.type_dict_update YJ (pv 4) (aj (pv 3) ak)))
  (aB (aN (pv 4)))))),?_⟩
 refine⟨_,rfl,v,dx,_,rfl,hV.ob,rfl,_,rfl,v,kk,t,dx,nl,xs,fs,ss,rfl,hV,hK,hin,hT,λr t' H1 cT hT1 hr1 ht1=>?_⟩
 exact⟨_,rfl,r,t',sn,_,kvs,_,odd,rfl,(hK.mono (cT.tu hT)).few ss hr1 ht1,cT.keep hT hsn (by intro ps z;cases z),hH.kpt cT hT,λJL p' H2 s2 h1 h2=>q JL p' H2 ⟨cT.trans (Kp.of s2),hT1.same s2⟩ h1 h2⟩
theorem ajl (T:Tb mg)(TK:j4 K mg C jg eV jh gF)(DK:iu K CD)(yq:Meth K CD "ask_hung" mR)(rR:Meth K CD "did" jF)(oN:Dm K "put_by" "Desk.put_by" t_ (aJ 52 7) uQ yu)(j_:Dm K "ask_hung" "Desk.ask_hung" jX (aJ 52 3) mR rQ)(yr:aq P w K mg base aC (1) mR rQ jX (Ck C CD))(iQ:Dm K "did" "Desk.did" je (aJ 52 10) jF oJ)(rT:aq P w K mg base aC (14) jF oJ je (yj P2 C CD))(j6:Dm K "put" "Take.put" pN (aJ 61 3) gF rz)(ajm:aq P w K mg base (gA P w) 11 gF rz pN (aaC P2 C dB)):aq P w K mg base (gA P w) 15 uQ yu t_ (aaD P2 C CD dB):=by
 have eF:=DK.ct
 have CT:=TK.ct
 have JG:=TK.p
 refine yC oN.F Cu (λvs H Q E h=>?_) (λcdv A outer s H vs Q E hr h=>?_)
 . obtain⟨d,sn,dd,kk,t,src,vv,ps,xs,fs,hks,pl,h,kvs,odd,f,rfl,_⟩:=h
   rfl
 obtain⟨d,sn,dd,kk,t,src,vv,ps,xs,fs,hks,pl,h,kvs,odd,f,rfl,hD,hm,hT,hsn,hH,q⟩:=h
 have nd:=Cu.nd
 have hu:=eZ hr
 refine⟨_,(ao (iB (fV (pv 0) eF yq yr (hr.mono (by decide)) j_.b .nil eG (aj (pv 1) ak)))
  (aB (aN (fV (pv 0) eF rR rT (hr.mono (by decide)) iQ.b .nil eG (aj (fV (gk hu (cZ (pv 0) rfl) (pv 1) (λ_ _=>rfl)) CT JG ajm (hr.mono (by decide)) j6.b .nil (G8 λ_ _ _ z=>z) (aj (cZ (pv 0) rfl) (aj (cZ (pv 0) rfl) (aj (pv 2) ak)))) ak))))),?_⟩
 refine⟨_,rfl,d,dd,_,rfl,hD.ob,rfl,_,rfl,d,dd,kk,t,src,vv,ps,xs,fs,hks,pl,h,f,rfl,hD,hm,?_⟩
 have hg:bW H vv (.str h.1) (some (.ref h.2.1)):=by
  have:=bW.k (k:=Sum.inr h.1) hD.vs
  rw[yp hD.oH hm] at this
  exact this
 obtain⟨dx,nl,hV,_⟩:=hD.hk h hm
 exact⟨_,rfl,d,dd,_,rfl,hD.ob,rfl,_,rfl,d,CD,dd,_,_,rfl,hD.ob,DK.ct,DK.nv,rfl,_,rfl,vv,_,rfl,hg,h.2.1,dx,_,rfl,hV.ob,rfl,_,rfl,d,CD,dd,_,_,rfl,hD.ob,DK.ct,DK.nk,rfl,_,rfl,d,CD,dd,_,_,rfl,hD.ob,DK.ct,DK.ns,rfl,_,rfl,h.2.1,kk,t,dx,nl,xs,fs,h.2.2,src,sn,kvs,odd,rfl,hV,hD.kd,hD.inn h hm,hT,hsn,hH,q⟩
end
end Pb
namespace L2
open PySem PySem.Spec PyProof.Rows
theorem ajn {X:Cx}{body:List Stmt}{x0 x n:Str}{D0 Dc:Addr}{Ek:XK}{i:Nat}{b₀:Stmt}{suite ajo:List Stmt}{np0 ajp np hpos pos:Pos}{tb ts:TS}(hst:X.stack=X.env::X.outer)(hfm:X.env.frame=some X.env.locals)
 (hb:Hf X Ek body tb)
 (hg0:Gl X x0) (hm0:X.mg x0=some (.ref D0)) (g1:W.typeIn X.K (.ref D0)=some (.type "type")) (g2:(W.clsIn X.K D0).isSome=true) (g3:W.subIn X.K (.ref D0) (.type "BaseException")=some true)
 (g4:∀C dd H,Ek (.ref C) dd H->W.subIn X.K (.ref C) (.ref D0)=some false)
 (hg:Gl X x) (hm:X.mg x=some (.ref Dc)) (h1:W.typeIn X.K (.ref Dc)=some (.type "type")) (h2:(W.clsIn X.K Dc).isSome=true) (h3:W.subIn X.K (.ref Dc) (.type "BaseException")=some true)
 (h4:∀C dd H,Ek (.ref C) dd H->W.subIn X.K (.ref C) (.ref Dc)=some true) (hN:X.N.Nodup) (hi:X.N[i]? =some n) (hlo:X.env.kindOf n=some .local) (hs:∀a,fY (X.marked a) (b₀::suite) ts) (hd0:(x0 == ("__debug__":Str))=false:=by decide) (hd:(x == ("__debug__":Str))=false:=by decide):
 PS X (.Try body [.ExceptHandler (some (.Name x0 np0)) none ajo ajp,.ExceptHandler (some (.Name x np)) (some n) (b₀::suite) hpos] [] [] pos) (Ye Ek i tb ts):=by
 intro pins s σ H D I h
 obtain⟨hq,hk⟩:=h
 refine wpAny_Try_except (Q0h (hb pins s σ H D I hq) (λf s1 q=>?_) λe s1 z=>?_)
 . cases f with
   |next=>exact wpAny_execs_nil q
   |ret v=>exact q
   |brk=>exact q
   |cont=>exact q
 . refine Yd hst hfm z λa C T dd H' h2' e1 na hE t2 I2 key=>?_
   subst e1
   have ok:=I2.ok
   obtain⟨oe,vs,he,hc,_⟩:=id t2.ex
   refine wpAny_handleBy_cons (codeAny_handlers_test ?_) (by intro q;cases q)
   refine sX (X:=X.marked a) (I2.marked a) hg0 hm0 ?_ hd0
   refine Gz I2.cP g1 g2 g3 (g4 C dd H' hE) he hc ?_
   simp only[Bool.false_eq_true,if_false]
   refine wpAny_handleBy_cons (codeAny_handlers_test ?_) (by intro q;cases q)
   refine sX (X:=X.marked a) (I2.marked a) hg hm ?_ hd
   refine Gz I2.cP h1 h2 h3 (h4 C dd H' hE) he hc ?_
   simp only[if_true]
   refine codeAny_handlers_suite_as ?_
   refine wO t2 λh3' t3 k3 _=>?_
   have I3:=key h3' t3 k3
   refine sW I3 hN hi (.inl hlo) (show RelV (.ref a) (.ref a) from rfl) (λs4 I4=>?_) (.inr hlo)
   refine Q0h (hs a pins s4 _ _ (D.un i) (I4.marked a) (hk a C dd H' na hE)) (λf s5 q=>?_) λ_ _ z=>False.elim z
   show wpAny _ _ _ _ _ _
   cases f with
   |next=>
    obtain⟨σ',H5,I5,q⟩:=q
    exact(I5.unmarked ok).unbind hN hi hlo λs6 I6=>⟨_,_,I6,q⟩
   |ret v=>
    obtain⟨y,σ',H5,I5,r,q⟩:=q
    exact(I5.unmarked ok).unbind hN hi hlo λs6 I6=>⟨y,_,_,I6,r,q⟩
   |brk=>
    obtain⟨σ',H5,I5,q⟩:=q
    exact(I5.unmarked ok).unbind hN hi hlo λs6 I6=>⟨_,_,I6,q⟩
   |cont=>
    obtain⟨σ',H5,I5,q⟩:=q
    exact(I5.unmarked ok).unbind hN hi hlo λs6 I6=>⟨_,_,I6,q⟩
end L2
namespace Pb
open PySem L2 PyProof.Rows
theorem aaF {X:Cx}{K:W.Frag}{e:Expr}{ta:TE}{f:Str}{pos:Pos}(hK:X.K=K)(he:PE X e ta)(hb:attributeBase e f X.env (eval e X.env)=eval e X.env):PE X (.Attribute e f pos) (Yk K ta f):=by
 subst hK
 exact agq he hb
structure XNo (K:W.Frag) (mg:Str->Option Value) (x:Str) (D0 C:Addr):Prop where
 m:mg x=some (.ref D0)
 ty:W.typeIn K (.ref D0)=some (.type "type")
 is:(W.clsIn K D0).isSome=true
 bx:W.subIn K (.ref D0) (.type "BaseException")=some true
 no:W.subIn K (.ref C) (.ref D0)=some false
noncomputable def aaH (K:W.Frag) (P2 C CD:Addr):Sp:=λvs H Q _=>
 (∃d pa dd kk t src vv ps xs fs hks pl ys ops,∃f:Str->V,vs=[.ref d,.ref pa]/\cN H C CD d dd kk t src vv ps xs fs f hks pl/\bw P2 bK bL H/\pl.length<=900/\H pa=some (.lst ys)/\bV H ys ops/\ig fs ops/\
   ∀tq p cs src' H',KP P2 d ps H H'->bw P2 bK bL H'->cN H' C CD d dd kk t src' vv ps xs fs (cM f ops) hks (pl++[.ref src])->H' tq=some (.tup [.str "told",.ref p])->H' p=some (.lst cs)->gR H' cs hks (lG fs f (cM f ops))->Q (.ref tq) H')\/
 (∃d pa dd kk t src vv ps xs fs hks pl c pt ys zs ops nm,∃f:Str->V,vs=[.ref d,.ref pa]/\cN H C CD d dd kk t src vv ps xs fs f hks pl/\H pa=some (.lst (ys++ .ref c::zs))/\bV H ys ops/\ig fs ops/\H c=some (.tup [.str "set",.ref pt,.non])/\H pt=some (.tup [.str nm])/\uV fs fs.names nm/\
   ∀tq H',Same H H'->H' tq=some (.tup [.str "no paper",.int ops.length])->Q (.ref tq) H')
theorem cN.same {H H':Hp}{C CD d dd kk t src vv ps:Addr}{xs:List V}{fs:Fs}{f:Str->V}{hks:List Hk}{pl:List V}(h:cN H C CD d dd kk t src vv ps xs fs f hks pl)(s:Same H H'):cN H' C CD d dd kk t src vv ps xs fs f hks pl:=
 ⟨s _ _ h.ob,h.jE,λx hx=>by obtain⟨dx,nl,hV,hn⟩:=h.hk x hx;exact⟨dx,nl,hV.same s,hn⟩,h.bM,h.oH,h.kd.mono (Tu.of s),h.cu,h.inn,s _ _ h.sr,h.fk,s _ _ h.vs,s _ _ h.past⟩
section
variable {P:Program}{w:World}{K:W.Frag}{mg:Str->Option Value}{base:Heap}
variable {C P2 CD dN:Addr}
theorem aaI:bC ["_law_desk","_law_paper","_law_told","e"] ["_law_desk","_law_paper"] (aL (top 79)):=by refine⟨rfl,rfl,rfl,?_,rfl,?_,?_⟩ <;> decide +kernel
theorem ajq (T:Tb mg)(DK:iu K CD)(XN:rW K mg base "NoPaper" "at" dN uW)(ajr:Meth K CD "change" uP)(su:Dn K mg "_law_change" Bf (top 79) J6 J7)(oM:Dm K "change" "Desk.change" tZ (aJ 52 8) uP yt)(ajs:aq P w K mg base (gA P w) 15 uP yt tZ (λvs H Q E=>aad K P2 C CD vs H Q E\/aax C CD dN vs H Q E)):aq P w K mg base aC (16) J6 J7 Bf (aaH K P2 C CD):=by
 have eF:=DK.ct
 refine su.F.ok aaI (λvs H Q E h=>?_) (λcdv A outer s H vs Q E hr h=>?_)
 . rcases h with⟨d,pa,dd,kk,t,src,vv,ps,xs,fs,hks,pl,ys,ops,f,rfl,_⟩|⟨d,pa,dd,kk,t,src,vv,ps,xs,fs,hks,pl,c,pt,ys,zs,ops,nm,f,rfl,_⟩ <;> rfl
 have nd:=aaI.nd
 obtain⟨x0,y0,rfl⟩:∃x y,vs=[x,y]:=by
  rcases h with⟨d,pa,dd,kk,t,src,vv,ps,xs,fs,hks,pl,ys,ops,f,e,_⟩|⟨d,pa,dd,kk,t,src,vv,ps,xs,fs,hks,pl,c,pt,ys,zs,ops,nm,f,e,_⟩ <;> exact⟨_,_,e⟩
 let Ek:XK:=λCv dd H'=>Cv=.ref dN/\∃dx n,dd=some dx/\H' dx=some (.xd [("at",.int n)])/\∀tq H2,Same H' H2->H2 tq=some (.tup [.str "no paper",.int n])->Q (.ref tq) H2
 have J8:∀C' dd H',Ek (.ref C') dd H'->W.subIn K (.ref C') (.ref dN)=some true:=λC' dd H' z=>by rw[z.1];exact XN.sub
 refine⟨_,(ao (agk (Ek:=Ek) (i:=3) rfl rfl (Yc (i:=2) nd rfl (.inl rfl) (Yn (Ao (Yl bh) (Ao (Yo (pv 0) eF ajr ajs (hr.mono (by decide)) oM.b (aj (pv 1) ak)) Ym)))) rfl XN.m XN.ty XN.is XN.bx J8 nd rfl rfl (λa=>(aB (bf (i:=2) nd rfl (Or.inl rfl) (cQ (aj bh (aj (aaF (K:=K) rfl (pv 3) rfl) ak)))))))
  (aB (aN (pv 2)))),?_⟩
 refine⟨?_,λa C' dd H' na hE=>?_⟩
 . rcases h with⟨d,pa,dd,kk,t,src,vv,ps,xs,fs,hks,pl,ys,ops,f,hvs,hD,hT,pY,hpa,hP,hO,q⟩|⟨d,pa,dd,kk,t,src,vv,ps,xs,fs,hks,pl,c,pt,ys,zs,ops,nm,f,hvs,hD,hpa,hP,hO,hc,hpt,hbad,q⟩
   . cases hvs
     refine⟨_,rfl,d,dd,_,rfl,hD.ob,rfl,_,rfl,.inl ⟨d,pa,dd,kk,t,src,vv,ps,xs,fs,hks,pl,ys,ops,f,rfl,hD,hT,pY,hpa,hP,hO,λp cs src' H1 k1 hT1 hD1 hp iR=>?_⟩⟩
     refine⟨cX,λtq dD=>?_⟩
     have s2:=Same.new dD (o:=.tup [.str "told",.ref p])
     exact⟨_,rfl,q tq p cs src' _ (λc o n1 n2 n3 e=>s2 _ _ (k1 c o n1 n2 n3 e)) (hT1.same s2) (hD1.same s2) aF (s2 _ _ hp) (iR.keep λc' o' _ e=>s2 _ _ e)⟩
   . cases hvs
     refine⟨_,rfl,d,dd,_,rfl,hD.ob,rfl,_,rfl,.inr ⟨d,pa,dd,kk,t,src,vv,ps,xs,fs,hks,pl,c,pt,ys,zs,ops,nm,f,rfl,hD,hpa,hP,hO,hc,hpt,hbad,λdx H1 s1 hdx=>⟨rfl,dx,_,rfl,hdx,λtq H2 s2 dD=>q tq H2 (s1.trans s2) dD⟩⟩⟩
 . obtain⟨e,dx,n,rfl,hdx,q⟩:=hE
   injection e with e
   subst e
   have s1:Same H' (upd H' a (mz a C' (some dx))):=Same.new na
   refine⟨_,rfl,a,C',dx,_,.int n,rfl,aF,s1 _ _ hdx,XN.cls,XN.fld,rfl,cX,λtq dD=>⟨_,rfl,q tq _ (s1.trans (Same.new dD)) aF⟩⟩
end
noncomputable def aaJ (P2 C CD:Addr):Sp:=λvs H Q _=>
 (∃d sn dd kk t src vv ps xs fs hks pl h,∃f g:Str->V,vs=[.ref d,.str h.1,.ref sn]/\cN H C CD d dd kk t src vv ps xs fs f hks pl/\h∈hks/\bw P2 bK bL H/\pl.length<=900/\H sn=some (.dK (aK g h.2.2))/\mJ (fs.bU h.2.2) (aK g h.2.2)/\
   ∀tq p cs src' H',KP P2 d ps H H'->bw P2 bK bL H'->cN H' C CD d dd kk t src' vv ps xs fs (iJ f g h.2.2) hks (pl++[.ref src])->H' tq=some (.tup [.str "told",.ref p])->H' p=some (.lst cs)->gR H' cs hks (lG fs f (iJ f g h.2.2))->Q (.ref tq) H')\/
 (∃d sn dd kk t src vv ps xs fs hks pl h kvs odd,∃f:Str->V,vs=[.ref d,.str h.1,.ref sn]/\cN H C CD d dd kk t src vv ps xs fs f hks pl/\h∈hks/\bw P2 bK bL H/\H sn=some (.dK kvs)/\mU H (fs.bU h.2.2) kvs odd/\
   ∀tq p H',d9 P2 H H'->bw P2 bK bL H'->H' tq=some (.tup [.str "no put",.ref p])->H' p=some (.lst [.str odd])->Q (.ref tq) H')
section
variable {P:Program}{w:World}{K:W.Frag}{mg:Str->Option Value}{base:Heap}
variable {C P2 CD dB cNN:Addr}
theorem aaL:bC ["_law_desk","_law_name","_law_seen","_law_told","e"] ["_law_desk","_law_name","_law_seen"] (aL (top 80)):=by refine⟨rfl,rfl,rfl,?_,rfl,?_,?_⟩ <;> decide +kernel
theorem ajt (T:Tb mg)(DK:iu K CD)(XC:rW K mg base "CantPut" "way" dB uY)(sy:XNo K mg "NoName" cNN dB)(aju:Meth K CD "put_by" uQ)(pZ:Dn K mg "_law_put_by" Bg (top 80) J9 J_)(oN:Dm K "put_by" "Desk.put_by" t_ (aJ 52 7) uQ yu)(ajv:aq P w K mg base (gA P w) 15 uQ yu t_ (λvs H Q E=>aah P2 C CD vs H Q E\/aaD P2 C CD dB vs H Q E)):aq P w K mg base aC (16) J9 J_ Bg (aaJ P2 C CD):=by
 have eF:=DK.ct
 refine pZ.F.ok aaL (λvs H Q E h=>?_) (λcdv A outer s H vs Q E hr h=>?_)
 . rcases h with⟨d,sn,dd,kk,t,src,vv,ps,xs,fs,hks,pl,h,f,g,rfl,_⟩|⟨d,sn,dd,kk,t,src,vv,ps,xs,fs,hks,pl,h,kvs,odd,f,rfl,_⟩ <;> rfl
 have nd:=aaL.nd
 obtain⟨x0,y0,z0,rfl⟩:∃x y z,vs=[x,y,z]:=by
  rcases h with⟨d,sn,dd,kk,t,src,vv,ps,xs,fs,hks,pl,h,f,g,e,_⟩|⟨d,sn,dd,kk,t,src,vv,ps,xs,fs,hks,pl,h,kvs,odd,f,e,_⟩ <;> exact⟨_,_,_,e⟩
 let Ek:XK:=λCv dd H'=>Cv=.ref dB/\∃dx p,dd=some dx/\H' dx=some (.xd [("way",.ref p)])/\∀tq H2,Same H' H2->H2 tq=some (.tup [.str "no put",.ref p])->Q (.ref tq) H2
 have J8:∀C' dd H',Ek (.ref C') dd H'->W.subIn K (.ref C') (.ref dB)=some true:=λC' dd H' z=>by rw[z.1];exact XC.sub
 have hE0:∀C' dd H',Ek (.ref C') dd H'->W.subIn K (.ref C') (.ref cNN)=some false:=λC' dd H' z=>by rw[z.1];exact sy.no
 refine⟨_,(ao (ajn (Ek:=Ek) (i:=4) rfl rfl (Yc (i:=3) nd rfl (.inl rfl) (Yn (Ao (Yl bh) (Ao (Yo (pv 0) eF aju ajv (hr.mono (by decide)) oN.b (aj (pv 1) (aj (pv 2) ak))) Ym)))) rfl sy.m sy.ty sy.is sy.bx hE0 rfl XC.m XC.ty XC.is XC.bx J8 nd rfl rfl (λa=>(aB (bf (i:=3) nd rfl (Or.inl rfl) (cQ (aj bh (aj (aaF (K:=K) rfl (pv 4) rfl) ak)))))))
  (aB (aN (pv 3)))),?_⟩
 refine⟨?_,λa C' dd H' na hE=>?_⟩
 . rcases h with⟨d,sn,dd,kk,t,src,vv,ps,xs,fs,hks,pl,h,f,g,hvs,hD,hm,hT,pY,hsn,hH,q⟩|⟨d,sn,dd,kk,t,src,vv,ps,xs,fs,hks,pl,h,kvs,odd,f,hvs,hD,hm,hT,hsn,hH,q⟩
   . cases hvs
     refine⟨_,rfl,d,dd,_,rfl,hD.ob,rfl,_,rfl,_,rfl,.inl ⟨d,sn,dd,kk,t,src,vv,ps,xs,fs,hks,pl,h,f,g,rfl,hD,hm,hT,pY,hsn,hH,λp cs src' H1 k1 hT1 hD1 hp iR=>?_⟩⟩
     refine⟨cX,λtq dD=>?_⟩
     have s2:=Same.new dD (o:=.tup [.str "told",.ref p])
     exact⟨_,rfl,q tq p cs src' _ (λc o n1 n2 n3 e=>s2 _ _ (k1 c o n1 n2 n3 e)) (hT1.same s2) (hD1.same s2) aF (s2 _ _ hp) (iR.keep λc' o' _ e=>s2 _ _ e)⟩
   . cases hvs
     exact⟨_,rfl,d,dd,_,rfl,hD.ob,rfl,_,rfl,_,rfl,.inr ⟨d,sn,dd,kk,t,src,vv,ps,xs,fs,hks,pl,h,kvs,odd,f,rfl,hD,hm,hT,hsn,hH,λdx p H1 hk hdx hp=>⟨rfl,dx,p,rfl,hdx,λtq H2 s2 dD=>q tq p H2 (hk.1.trans (Kp.of s2)) (hk.2.same s2) dD (s2 _ _ hp)⟩⟩⟩
 . obtain⟨e,dx,p,rfl,hdx,q⟩:=hE
   injection e with e
   subst e
   have s1:Same H' (upd H' a (mz a C' (some dx))):=Same.new na
   refine⟨_,rfl,a,C',dx,_,.ref p,rfl,aF,s1 _ _ hdx,XC.cls,XC.fld,rfl,cX,λtq dD=>⟨_,rfl,q tq _ (s1.trans (Same.new dD)) aF⟩⟩
end
end Pb
namespace PySem
namespace F
end F
namespace F
end F
open PyProof.Rows
section
variable {prog:Program}{w:World}{A:Around}{E:Value->Shared->Prop}{s:Shared}
end
section
variable {prog:Program}{w:World}{A:Around}{E:Value->Shared->Prop}{s:Shared}
end
end PySem
namespace L2
open PySem PyProof.Rows
section
variable {X:Cx}{e:Expr}{te:TE}{p p2 pos pos2:Pos}
end
end L2
namespace L2
open PySem PySem.Spec PyProof.Rows
section
variable {prog:Program}{w:World}{A:Around}{E:Value->Shared->Prop}{s:Shared}
theorem iT {h h':Heap}{it a c:Addr}{i:Nat}(x:h.IsTupleIter it a i)(k:Heap.ExtBut c h h')(n:it≠c):h'.IsTupleIter it a i:=let⟨o,ho,r⟩:=x;⟨o,k _ _ n ho,r⟩
theorem oO {h h':Heap}{a c:Addr}{vs:Array Value}(x:h.IsTuple a vs)(k:Heap.ExtBut c h h')(n:a≠c):h'.IsTuple a vs:=let⟨o,ho,r⟩:=x;⟨o,k _ _ n ho,r⟩
theorem ajx {z TI TO i1 i2 l1 l2:Addr}{k:Nat}{xs ys:Array Value}{x y a b:Value}{Q:Value->Shared->Prop}(D:ZipApart z TI TO i1 i2 l1 l2)
 (hz:IsZip s.heap z TI TO .none) (hTI:IsPair s.heap TI (.ref i1) (.ref i2)) (hTO:IsPair s.heap TO a b)
 (h1:s.heap.IsTupleIter i1 l1 k) (h2:s.heap.IsTupleIter i2 l2 k) (g1:s.heap.IsTuple l1 xs) (g2:s.heap.IsTuple l2 ys) (hx:xs[k]? =some x) (hy:ys[k]? =some y)
 (hQ:∀h',IsZip h' z TI TO (rawInt s.heap.objs.size)->IsPair h' TO x y->h'.IsTupleIter i1 l1 (k+1)->h'.IsTupleIter i2 l2 (k+1)->IsPair h' s.heap.objs.size x y->
   (∀c o,c≠z->c≠TO->c≠i1->c≠i2->s.heap.get? c=some o->h'.get? c=some o)->Q (.ref s.heap.objs.size) { s with heap:=h' }):
 wpAny (model prog w) A (Builtin.«zip.__next__» ⟨[.ref z],[]⟩) (λfin s'=>∃v,fin=.done (.ret v)/\Q v s') E s:=by
 show wpAny _ _ (field (.ref z) 2 >>= _) _ _ _;refine Q00 (wpAny_field hz rfl (x:=.bool false) rfl ?_)
 show wpAny _ _ (field (.ref z) 3 >>= _) _ _ _;refine Q00 (wpAny_field hz rfl (x:=.ref TI) rfl ?_);refine Q00 (wpAny_seqItems hTI rfl ?_)
 show wpAny _ _ (Builtin.SmallTypes.ownedTupleIsFree (.ref z) >>= _) _ _ _;refine Q00 ?_;unfold Builtin.SmallTypes.ownedTupleIsFree
 refine Q00 (wpAny_field hz rfl (x:=.none) rfl (Q03 ?_));simp only[if_true];refine Q00 (wpAny_rule ?_)
 refine Q00 (wpAny_field hz rfl (x:=.ref TO) rfl ?_);refine Q00 (wpAny_setField_rec hz (by simp) λha za sa=>?_)
 replace za:IsZip ha z TI TO .ellipsis:=za
 refine Q00 ?_;simp only[Q30,Q31,Q1r,Q32]
 refine Q00 (Q00 (wpAny_onRaise ?_));show wpAny _ _ (Builtin.SmallTypes.nextOf (.ref i1) >>= _) _ _ _
 refine Q00 (G3 (iT h1 sa.extBut D.i1z) (oO g1 sa.extBut D.l1z) hx λhb b1 sb=>Q03 ?_)
 have tb:IsPair hb TO a b:=sb.extBut _ _ D.TOi1 (sa.extBut _ _ D.TOz hTO)
 refine Q00 (wpAny_seqItems tb rfl ?_);refine Q00 (wpAny_updateSeq_pair tb λhc tc sc=>?_)
 replace tc:IsPair hc TO x b:=tc
 refine Q00 (wpAny_letGo (Q03 ?_));refine Q00 (Q00 (wpAny_onRaise ?_));show wpAny _ _ (Builtin.SmallTypes.nextOf (.ref i2) >>= _) _ _ _
 refine Q00 (G3 (iT (iT (iT h2 sa.extBut D.i2z) sb.extBut D.i12.symm) sc.extBut D.TOi2.symm) (oO (oO (oO g2 sa.extBut D.l2z) sb.extBut D.l2i1) sc.extBut D.l2TO) hy λhd d2 sd=>Q03 ?_)
 have td:IsPair hd TO x b:=sd.extBut _ _ D.TOi2 tc
 refine Q00 (wpAny_seqItems td rfl ?_);refine Q00 (wpAny_updateSeq_pair td λhe te se=>?_)
 replace te:IsPair he TO x y:=te
 refine Q00 (wpAny_letGo (Q03 (Q03 ?_)));refine Q00 (wpAny_seqItems te rfl ?_);refine Q00 (wpAny_newTuple ?_)
 have sz:he.objs.size=s.heap.objs.size:=by rw[se.1,sd.1,sc.1,sb.1,sa.1]
 have ze:IsZip he z TI TO .ellipsis:=se.extBut _ _ D.TOz.symm (sd.extBut _ _ D.i2z.symm (sc.extBut _ _ D.TOz.symm (sb.extBut _ _ D.i1z.symm za)))
 have ke:∀c o,c≠z->c≠TO->c≠i1->c≠i2->s.heap.get? c=some o->he.get? c=some o:=λc o c1 c2 c3 c4 q=>se.extBut _ _ c2 (sd.extBut _ _ c4 (sc.extBut _ _ c2 (sb.extBut _ _ c3 (sa.extBut _ _ c1 q))))
 have e1:he.IsTupleIter i1 l1 (k+1):=iT (iT (iT b1 sc.extBut D.TOi1.symm) sd.extBut D.i12) se.extBut D.TOi1.symm
 have e2:he.IsTupleIter i2 l2 (k+1):=iT d2 se.extBut D.TOi2.symm
 have zl:z<he.objs.size:=Q01 ze
 show wpAny _ _ (Builtin.SmallTypes.ownedTupleHandOut (.ref z) (.ref he.objs.size) >>= _) _ _ _;refine Q00 ?_;unfold Builtin.SmallTypes.ownedTupleHandOut
 have zf:IsZip (he.push { cls:=.type "tuple",data:=.seq #[x,y] }) z TI TO .ellipsis:=Q04 _ ze
 refine Q00 (wpAny_setField_rec zf (by simp) λhg zg sg=>?_)
 replace zg:IsZip hg z TI TO (rawInt he.objs.size):=zg
 refine wpAny_setField_rec zg (by simp) λhh zh sh=>?_
 replace zh:IsZip hh z TI TO (rawInt he.objs.size):=zh
 have up:∀c o,c≠z->he.get? c=some o->hh.get? c=some o:=λc o c1 q=>sh.extBut _ _ c1 (sg.extBut _ _ c1 (Q04 _ q))
 have pr:IsPair hh he.objs.size x y:=sh.extBut _ _ (Q0m zl) (sg.extBut _ _ (Q0m zl) (Q0c _ rfl))
 rw[sz] at zh pr
 refine Q03 ⟨_,rfl,?_⟩;show Q (.ref he.objs.size) _;rw[sz]
 exact hQ hh zh (up _ _ D.TOz te) (let⟨o,ho,r⟩:=e1;⟨o,up _ _ D.i1z ho,r⟩) (let⟨o,ho,r⟩:=e2;⟨o,up _ _ D.i2z ho,r⟩) pr λc o c1 c2 c3 c4 q=>up c o c1 (ke c o c1 c2 c3 c4 q)
theorem ajy {z TI TO i1 i2 l1 l2:Addr}{k:Nat}{xs ys:Array Value}{a b:Value}{Q:Fin->Shared->Prop}(h0:A.handled=none)(D:ZipApart z TI TO i1 i2 l1 l2)
 (hz:IsZip s.heap z TI TO .none) (hTI:IsPair s.heap TI (.ref i1) (.ref i2)) (hTO:IsPair s.heap TO a b)
 (h1:s.heap.IsTupleIter i1 l1 k) (h2:s.heap.IsTupleIter i2 l2 k) (g1:s.heap.IsTuple l1 xs) (g2:s.heap.IsTuple l2 ys) (hend:xs[k]? =none\/ys[k]? =none)
 (hE:∀h' e,(∀c o,c≠z->c≠TO->c≠i1->c≠i2->s.heap.get? c=some o->h'.get? c=some o)->(∃o,h'.get? e=some o/\o.cls=.type "StopIteration")->E (.ref e) { s with heap:=h' }):
 wpAny (model prog w) A (Builtin.«zip.__next__» ⟨[.ref z],[]⟩) Q E s:=by
 show wpAny _ _ (field (.ref z) 2 >>= _) _ _ _;refine Q00 (wpAny_field hz rfl (x:=.bool false) rfl ?_)
 show wpAny _ _ (field (.ref z) 3 >>= _) _ _ _;refine Q00 (wpAny_field hz rfl (x:=.ref TI) rfl ?_);refine Q00 (wpAny_seqItems hTI rfl ?_)
 show wpAny _ _ (Builtin.SmallTypes.ownedTupleIsFree (.ref z) >>= _) _ _ _;refine Q00 ?_;unfold Builtin.SmallTypes.ownedTupleIsFree
 refine Q00 (wpAny_field hz rfl (x:=.none) rfl (Q03 ?_));simp only[if_true];refine Q00 (wpAny_rule ?_)
 refine Q00 (wpAny_field hz rfl (x:=.ref TO) rfl ?_);refine Q00 (wpAny_setField_rec hz (by simp) λha za sa=>?_)
 replace za:IsZip ha z TI TO .ellipsis:=za
 refine Q00 ?_;simp only[Q30,Q31,Q1r,Q32]
 refine Q00 (Q00 (wpAny_onRaise ?_));show wpAny _ _ (Builtin.SmallTypes.nextOf (.ref i1) >>= _) _ _ _
 cases hx:xs[k]? with
 |none=>
  refine Q00 (XJ h0 (iT h1 sa.extBut D.i1z) (oO g1 sa.extBut D.l1z) hx λhb e sb he=>?_)
  obtain⟨oe,q1,q2⟩:=he
  have zb:IsZip hb z TI TO .ellipsis:=sb _ _ D.i1z.symm za
  have ez:e≠z:=λv=>by subst v;rw[zb] at q1;cases q1;simp at q2
  exact wpAny_setField_rec zb (by simp) λhc _ sc=>hE hc e (λc o c1 _ c3 _ v=>sc.extBut _ _ c1 (sb _ _ c3 (sa.extBut _ _ c1 v))) ⟨oe,sc.extBut _ _ ez q1,q2⟩
 |some x=>
  have hy:ys[k]? =none:=by rcases hend with v|v;rw[hx] at v;cases v;exact v
  refine Q00 (G3 (iT h1 sa.extBut D.i1z) (oO g1 sa.extBut D.l1z) hx λhb b1 sb=>Q03 ?_)
  have tb:IsPair hb TO a b:=sb.extBut _ _ D.TOi1 (sa.extBut _ _ D.TOz hTO)
  refine Q00 (wpAny_seqItems tb rfl ?_);refine Q00 (wpAny_updateSeq_pair tb λhc tc sc=>?_)
  refine Q00 (wpAny_letGo (Q03 ?_));refine Q00 (Q00 (wpAny_onRaise ?_));show wpAny _ _ (Builtin.SmallTypes.nextOf (.ref i2) >>= _) _ _ _
  refine Q00 (XJ h0 (iT (iT (iT h2 sa.extBut D.i2z) sb.extBut D.i12.symm) sc.extBut D.TOi2.symm) (oO (oO (oO g2 sa.extBut D.l2z) sb.extBut D.l2i1) sc.extBut D.l2TO) hy λhd e sd he=>?_)
  obtain⟨oe,q1,q2⟩:=he
  have zd:IsZip hd z TI TO .ellipsis:=sd _ _ D.i2z.symm (sc.extBut _ _ D.TOz.symm (sb.extBut _ _ D.i1z.symm za))
  have ez:e≠z:=λv=>by subst v;rw[zd] at q1;cases q1;simp at q2
  exact wpAny_setField_rec zd (by simp) λhg _ sg=>hE hg e (λc o c1 c2 c3 c4 v=>sg.extBut _ _ c1 (sd _ _ c4 (sc.extBut _ _ c2 (sb.extBut _ _ c3 (sa.extBut _ _ c1 v))))) ⟨oe,sg.extBut _ _ ez q1,q2⟩
theorem ajz {z TI TO i1 i2 l1 l2:Addr}{k:Nat}{xs ys:Array Value}{x y a b:Value}{Q:Option Value->Shared->Prop}(D:ZipApart z TI TO i1 i2 l1 l2)
 (hz:IsZip s.heap z TI TO .none) (hTI:IsPair s.heap TI (.ref i1) (.ref i2)) (hTO:IsPair s.heap TO a b)
 (h1:s.heap.IsTupleIter i1 l1 k) (h2:s.heap.IsTupleIter i2 l2 k) (g1:s.heap.IsTuple l1 xs) (g2:s.heap.IsTuple l2 ys) (hx:xs[k]? =some x) (hy:ys[k]? =some y)
 (hQ:∀h',IsZip h' z TI TO (rawInt s.heap.objs.size)->IsPair h' TO x y->h'.IsTupleIter i1 l1 (k+1)->h'.IsTupleIter i2 l2 (k+1)->IsPair h' s.heap.objs.size x y->
   (∀c o,c≠z->c≠TO->c≠i1->c≠i2->s.heap.get? c=some o->h'.get? c=some o)->Q (some (.ref s.heap.objs.size)) { s with heap:=h' }):
 wpAny (model prog w) A (pyNext (.ref z)) Q E s:=by
 have hT:s.TypeIs (.ref z) "zip":=⟨_,hz,rfl⟩
 unfold pyNext
 exact Q00 (wpAny_attempt (wpAny_callSpecial?_slot (name:=Str.ofString "__next__") hT F.slot_zip_next (wpAny_call_entry F.slot_zip_next hT F.entry_zip_next (ajx D hz hTI hTO h1 h2 g1 g2 hx hy λh' a1 a2 a3 a4 a5 a6=>Q03 (hQ h' a1 a2 a3 a4 a5 a6)) (F.args_zip_next_1 _))))
theorem ajA {z TI TO i1 i2 l1 l2:Addr}{k:Nat}{xs ys:Array Value}{a b:Value}{Q:Option Value->Shared->Prop}(h0:A.handled=none)(D:ZipApart z TI TO i1 i2 l1 l2)
 (hz:IsZip s.heap z TI TO .none) (hTI:IsPair s.heap TI (.ref i1) (.ref i2)) (hTO:IsPair s.heap TO a b)
 (h1:s.heap.IsTupleIter i1 l1 k) (h2:s.heap.IsTupleIter i2 l2 k) (g1:s.heap.IsTuple l1 xs) (g2:s.heap.IsTuple l2 ys) (hend:xs[k]? =none\/ys[k]? =none)
 (hQ:∀h',(∀c o,c≠z->c≠TO->c≠i1->c≠i2->s.heap.get? c=some o->h'.get? c=some o)->Q none { s with heap:=h' }):wpAny (model prog w) A (pyNext (.ref z)) Q E s:=by
 have hT:s.TypeIs (.ref z) "zip":=⟨_,hz,rfl⟩
 unfold pyNext
 refine Q00 (wpAny_attempt (wpAny_callSpecial?_slot (name:=Str.ofString "__next__") hT F.slot_zip_next (wpAny_call_entry F.slot_zip_next hT F.entry_zip_next (ajy h0 D hz hTI hTO h1 h2 g1 g2 hend λh' e hk he=>?_) (F.args_zip_next_1 _))))
 obtain⟨o,ho,hc⟩:=he
 exact Q00 (wpAny_isInstance (T:="StopIteration") (b:=true) ⟨o,ho,hc⟩ isSubtype_stop (Q03 (hQ _ hk)))
noncomputable abbrev CG (h:Heap) (l1:Addr):Heap:=h.push { cls:=.type "tuple_iterator",data:=.fields #[.ref l1,.int 0 0] }
noncomputable abbrev CJ (h:Heap) (l1 l2:Addr):Heap:=(CG h l1).push { cls:=.type "tuple_iterator",data:=.fields #[.ref l2,.int 0 0] }
noncomputable abbrev CK (h:Heap) (l1 l2:Addr):Heap:=(CJ h l1 l2).push { cls:=.type "tuple",data:=.seq #[.ref h.objs.size,.ref (CG h l1).objs.size] }
noncomputable abbrev CN (h:Heap) (l1 l2:Addr):Heap:=(CK h l1 l2).push { cls:=.type "tuple",data:=.seq #[.none,.none] }
noncomputable abbrev u5 (h:Heap) (l1 l2:Addr):Heap:=(CN h l1 l2).push { cls:=.type "zip",data:=.fields #[.none,.bool false,.bool false,.ref (CJ h l1 l2).objs.size,.ref (CK h l1 l2).objs.size] }
theorem ajB (l1 l2:Addr)(xs ys:Array Value):Meets (Builtin.«zip.__new__» ⟨[.type "zip",.ref l1,.ref l2],[]⟩) (λ_ R s=>s.heap.IsTuple l1 xs/\s.heap.IsTuple l2 ys/\R (.ok (.ret (.ref (CN s.heap l1 l2).objs.size))) { s with heap:=u5 s.heap l1 l2 }):=
 .of_wp λprog w A R s h=>by
   obtain⟨hp,g,d,tk,os⟩:=s;obtain⟨t1,t2,h⟩:=h;have hsub:=sub_zip
   have L1:Heap.IsTuple (Shared.heap ⟨hp,g,d,tk,os⟩) l1 xs:=t1
   have L2:Heap.IsTuple (Shared.heap ⟨hp.push { cls:=.type "tuple_iterator",data:=.fields #[.ref l1,.int 0 0] },g,d,tk,os⟩) l2 ys:=let⟨o,ho,r⟩:=t2;⟨o,Q04 _ ho,r⟩
   wp_walk using wpAny_pyIter_tuple L1,wpAny_pyIter_tuple L2
   exact⟨_,rfl,h⟩
theorem ajC {l1 l2:Addr}{xs ys:Array Value}{Q:Value->Shared->Prop}(t1:s.heap.IsTuple l1 xs)(t2:s.heap.IsTuple l2 ys)
 (h:∀h',IsZip h' (s.heap.objs.size+4) (s.heap.objs.size+2) (s.heap.objs.size+3) .none->IsPair h' (s.heap.objs.size+2) (.ref s.heap.objs.size) (.ref (s.heap.objs.size+1))->
   IsPair h' (s.heap.objs.size+3) .none .none->h'.IsTupleIter s.heap.objs.size l1 0->h'.IsTupleIter (s.heap.objs.size+1) l2 0->
   (∀c o,s.heap.get? c=some o->h'.get? c=some o)->Q (.ref (s.heap.objs.size+4)) { s with heap:=h' }):
 wpAny (model prog w) A (call (.type "zip") [.ref l1,.ref l2]) Q E s:=by
 refine callType_new F.called_zip (by decide) (F.typeCall_zip_2 _ _) (F.newCall_zip_2 _ _) (λobj=>F.args_object_init_3 obj _ _) F.entry_zip_new (ajB l1 l2 xs ys) ⟨t1,t2,?_⟩
 have z1:(CG s.heap l1).objs.size=s.heap.objs.size+1:=Q0y ..
 have z2:(CJ s.heap l1 l2).objs.size=s.heap.objs.size+2:=by rw[Q0y,z1]
 have z3:(CK s.heap l1 l2).objs.size=s.heap.objs.size+3:=by rw[Q0y,z2]
 have z4:(CN s.heap l1 l2).objs.size=s.heap.objs.size+4:=by rw[Q0y,z3]
 have q5:(u5 s.heap l1 l2).get? (CN s.heap l1 l2).objs.size=some _:=Q0c _ rfl
 have q4:(u5 s.heap l1 l2).get? (CK s.heap l1 l2).objs.size=some _:=Q04 _ (Q0c _ rfl)
 have q3:(u5 s.heap l1 l2).get? (CJ s.heap l1 l2).objs.size=some _:=Q04 _ (Q04 _ (Q0c _ rfl))
 have q2:(u5 s.heap l1 l2).get? (CG s.heap l1).objs.size=some _:=Q04 _ (Q04 _ (Q04 _ (Q0c _ rfl)))
 have q1:(u5 s.heap l1 l2).get? s.heap.objs.size=some _:=Q04 _ (Q04 _ (Q04 _ (Q04 _ (Q0c _ rfl))))
 show _/\_
 rw[z2,z3,z4] at q5;rw[z1,z2] at q3;rw[z3] at q4;rw[z1] at q2;rw[z4]
 exact⟨⟨_,q5,rfl⟩,h _ q5 q3 q4 ⟨_,q1,rfl,rfl⟩ ⟨_,q2,rfl,rfl⟩ λc o v=>Q04 _ (Q04 _ (Q04 _ (Q04 _ (Q04 _ v))))⟩
end
noncomputable def aaM (K:W.Frag) (a b:Addr):It:=
 ⟨λi H=>∃xs ys x y,aD K H a xs/\aD K H b ys/\xs[i]? =some x/\ys[i]? =some y,
  λi H v H'=>∃p x y,H p=none/\v=.ref p/\(∀xs,aD K H a xs->xs[i]? =some x)/\(∀ys,aD K H b ys->ys[i]? =some y)/\H'=upd H p (.tup [x,y]),
  λi H=>∃xs ys,aD K H a xs/\aD K H b ys/\(xs.length<=i\/ys.length<=i)⟩
theorem ajD {P:Program}{w:World}{K:W.Frag}{elts:List Expr}{k:Nat}{tpos:Pos}{z TI TO i1 i2 l1 l2:Addr}(D:ZipApart z TI TO i1 i2 l1 l2):
 Turn P w K (.Tuple elts k tpos) (aaM K l1 l2) [z,TI,TO,i1,i2] z (λi h=>∃oa ob,IsZip h z TI TO .none/\IsPair h TI (.ref i1) (.ref i2)/\IsPair h TO oa ob/\h.IsTupleIter i1 l1 i/\h.IsTupleIter i2 l2 i) where
 mem:=by simp
 obj:=λi h st b hb=>by
  obtain⟨oa,ob,h1,h2,h3,h4,h5⟩:=st
  have hb:b=z\/b=TI\/b=TO\/b=i1\/b=i2:=by simpa using hb
  rcases hb with rfl|rfl|rfl|rfl|rfl
  . exact⟨_,h1,λv y=>by
     have y:Data.fields _=Data.cell v:=y
     cases y⟩
  . exact⟨_,h2,λv y=>by
     have y:Data.seq _ _=Data.cell v:=y
     cases y⟩
  . exact⟨_,h3,λv y=>by
     have y:Data.seq _ _=Data.cell v:=y
     cases y⟩
  . obtain⟨o,q,c,d⟩:=h4
    exact⟨o,q,λv y=>by rw[d] at y;cases y⟩
  . obtain⟨o,q,c,d⟩:=h5
    exact⟨o,q,λv y=>by rw[d] at y;cases y⟩
 keep:=λi h h' st k=>by
  obtain⟨oa,ob,h1,h2,h3,h4,h5⟩:=st
  exact⟨oa,ob,k z (by simp) _ h1,k TI (by simp) _ h2,k TO (by simp) _ h3,(let⟨o,ho,r⟩:=h4;⟨o,k i1 (by simp) o ho,r⟩),(let⟨o,ho,r⟩:=h5;⟨o,k i2 (by simp) o ho,r⟩)⟩
 item:=by
  intro X hP hw hK hc i pins s σ H E I hf st hg
  subst hP hw hK
  obtain⟨oa,ob,h1,h2,h3,h4,h5⟩:=st
  obtain⟨xs,ys,x,y,hq1,hq2,hx,hy⟩:=hg
  obtain⟨wH,nG,p1,hz1⟩:=I.tuple hq1
  obtain⟨its2,nH,p2,hz2⟩:=I.tuple hq2
  obtain⟨u1,hu1,qR⟩:=nG.get hx
  obtain⟨u2,hu2,qT⟩:=nH.get hy
  have fr:H s.heap.objs.size=none:=I.hok.fresh (Q02 _)
  refine ajz D h1 h2 h3 h4 h5 p1 p2 (x:=u1) (y:=u2) (by simpa using hu1) (by simpa using hu2) λh' q1 q2 q3 q4 q5 q7=>?_
  refine⟨_,rfl,wpAny_letOwnedTupleGo_zip (s:={ s with heap:=h' }) q1 λh'' g1 g2=>?_⟩
  have Gx:∀b∈[z,TI,TO,i1,i2],b<s.heap.objs.size:=λb hb=>by
   have hb:b=z\/b=TI\/b=TO\/b=i1\/b=i2:=by simpa using hb
   rcases hb with rfl|rfl|rfl|rfl|rfl
   . exact Q01 h1
   . exact Q01 h2
   . exact Q01 h3
   . obtain⟨o,q,_⟩:=h4;exact Q01 q
   . obtain⟨o,q,_⟩:=h5;exact Q01 q
  have ne1:∀b o,s.heap.get? b=some o->b≠s.heap.objs.size:=λb o q=>Q08 (Q01 q)
  have kk:∀b o,b≠z->b≠TO->b≠i1->b≠i2->s.heap.get? b=some o->h''.get? b=some o:=λb o n1 n2 n3 n4 q=>g2.extBut b o n1 (q7 b o n1 n2 n3 n4 q)
  have kn:∀b o,b ∉ [z,TO,i1,i2]->s.heap.get? b=some o->h''.get? b=some o:=λb o n q=>kk b o (λy=>n (by simp[y])) (λy=>n (by simp[y])) (λy=>n (by simp[y])) (λy=>n (by simp[y])) q
  have tup:h''.get? s.heap.objs.size=some { cls:=.type "tuple",data:=.seq #[u1,u2] }:=g2.extBut _ _ (Q0m (Q01 h1)) q5
  have I1:Inv X pins σ (upd H s.heap.objs.size (.tup [x,y])) { s with heap:=h'' }:=by
   refine I.step (g':=s.gens) (d':=s.drawn) (t':=s.toks) (ch:=[z,TO,i1,i2]) (λb hb=>?_) (λb o _ _ hc q _=>kn b o hc q) (λb o _ _ hc q _=>⟨o.slots,kn b o hc q⟩) (λb o _ q n=>?_) (λb o hc q=>⟨o,kn b o hc q⟩) (λb ws q=>?_) (λb o v q=>?_) (λb ps q=>?_) (λm hm=>?_) (λb o q=>?_) I.bare
   . have hb':b∈[z,TI,TO,i1,i2]:=by
      have hb:b=z\/b=TO\/b=i1\/b=i2:=by simpa using hb
      rcases hb with rfl|rfl|rfl|rfl <;> simp
     obtain⟨f0,f1,f2,f3,f4,f5⟩:=hf b hb'
     exact⟨f3,f1,f4,f5⟩
   . rw[au (ne1 b o q)];exact n
   . rw[au (aO q fr)];exact q
   . rw[au (aO q fr)];exact q
   . exact⟨#[],by rw[au (aO q fr),q];simp⟩
   . obtain⟨o,es,ep,ho,r⟩:=hm
     exact⟨o,es,ep,kk _ o (Ne.symm (hf z (by simp)).2.1) (Ne.symm (hf TO (by simp)).2.1) (Ne.symm (hf i1 (by simp)).2.1) (Ne.symm (hf i2 (by simp)).2.1) ho,r⟩
   . by_cases hb:b=s.heap.objs.size
     . subst hb
       rw[aF] at q;cases q
       exact⟨cX,[u1,u2],.cons qR (.cons qT .nil),⟨_,tup,rfl,_,rfl⟩⟩
     . rw[au hb] at q
       have nn:∀c v,H c=some v->c ∉ [z,TO,i1,i2]:=λc v e hm=>by
        have hm':c∈[z,TI,TO,i1,i2]:=by
         have hm:c=z\/c=TO\/c=i1\/c=i2:=by simpa using hm
         rcases hm with rfl|rfl|rfl|rfl <;> simp
        have:=(hf c hm').1
        rw[e] at this;cases this
       refine(I.hok b o q).stay (λc v hc' y=>kn c v ?_ y) (λc y=>by rw[au (aO y fr)];exact y) λc ws y=>by rw[au (aO y fr)];exact y
       rcases hc' with y|y
       . rw[y];exact nn b o q
       . exact nn c _ y
  refine⟨.ref s.heap.objs.size,_,I1,rfl,⟨s.heap.objs.size,x,y,fr,rfl,λws hw=>by rw[I.Es hw hq1];exact hx,λws hw=>by rw[I.Es hw hq2];exact hy,rfl⟩,⟨u1,u2,g1,?_,?_,?_,?_⟩,λb hb=>?_⟩
  . exact kk TI _ D.TIz D.TITO D.TIi1 D.TIi2 h2
  . exact g2.extBut _ _ D.TOz q2
  . exact iT q3 g2.extBut D.i1z
  . exact iT q4 g2.extBut D.i2z
  . rw[au (Q08 (Gx b hb))]
    exact(hf b hb).1
 done:=by
  intro X hP hw hK hc i pins s σ H E I hf st hg
  subst hP hw hK
  obtain⟨oa,ob,h1,h2,h3,h4,h5⟩:=st
  obtain⟨xs,ys,hq1,hq2,hend⟩:=hg
  obtain⟨wH,nG,p1,hz1⟩:=I.tuple hq1
  obtain⟨its2,nH,p2,hz2⟩:=I.tuple hq2
  have e1:=nG.length
  have e2:=nH.length
  refine ajA (I.ok.hd hc) D h1 h2 h3 h4 h5 p1 p2 (by
   rcases hend with q|q
   . exact .inl (by simp;omega)
   . exact .inr (by simp;omega)) λh' hk=>⟨rfl,?_⟩
  refine I.step (g':=s.gens) (d':=s.drawn) (t':=s.toks) (ch:=[z,TO,i1,i2]) (λb hb=>?_) (λb o _ _ hc q _=>?_) (λb o _ _ hc q _=>?_) (λb o _ q n=>n) (λb o hc q=>?_) (λb ys q=>q) (λb o v q=>q) (λb ps q=>⟨#[],by rw[q];simp⟩) (λm hm=>?_) (λb o q=>?_) I.bare
  . have hb':b∈[z,TI,TO,i1,i2]:=by
     have hb:b=z\/b=TO\/b=i1\/b=i2:=by simpa using hb
     rcases hb with rfl|rfl|rfl|rfl <;> simp
    obtain⟨f0,f1,f2,f3,f4,f5⟩:=hf b hb'
    exact⟨f3,f1,f4,f5⟩
  . exact hk b o (λy=>hc (by simp[y])) (λy=>hc (by simp[y])) (λy=>hc (by simp[y])) (λy=>hc (by simp[y])) q
  . exact⟨o.slots,hk b o (λy=>hc (by simp[y])) (λy=>hc (by simp[y])) (λy=>hc (by simp[y])) (λy=>hc (by simp[y])) q⟩
  . exact⟨o,hk b o (λy=>hc (by simp[y])) (λy=>hc (by simp[y])) (λy=>hc (by simp[y])) (λy=>hc (by simp[y])) q⟩
  . obtain⟨o,es,ep,ho,r⟩:=hm
    exact⟨o,es,ep,hk _ o (Ne.symm (hf z (by simp)).2.1) (Ne.symm (hf TO (by simp)).2.1) (Ne.symm (hf i1 (by simp)).2.1) (Ne.symm (hf i2 (by simp)).2.1) ho,r⟩
  . have nn:∀c v,H c=some v->∀y∈[z,TI,TO,i1,i2],c≠y:=λc v e y hy=>aO e (hf y hy).1
    refine(I.hok b o q).stay (λc v hc' y=>hk c v ?_ ?_ ?_ ?_ y) (λ_ y=>y) λ_ _ y=>y <;> (rcases hc' with y|y)
    all_goals first
     |(rw[y];exact nn b o q _ (by simp))
     |exact nn c _ y _ (by simp)
 self:=λA i s Q E st q=>by
  obtain⟨oa,ob,h1,_⟩:=st
  exact wpAny_pyIter_zip h1 q
noncomputable def ajE (K:W.Frag) (ta:TA):TI:=λσ H R=>ta σ H λvs H1=>∃a b,vs=[.ref a,.ref b]/\(∃xs,aD K H1 a xs)/\(∃ys,aD K H1 b ys)/\R (aaM K a b) H1
section
variable {X:Cx}
theorem ajF {elts:List Expr}{k:Nat}{tpos:Pos}{a b:Expr}{ta:TA}{p pos:Pos}(hg:Gl X "zip")(hm:X.mg "zip"=none)(ha:PA X [a,b] ta)(hs:starEach [a,b] X.env=[(false,eval a X.env),(false,eval b X.env)]:=by rfl)
 (hs2:starEach [b] X.env=[(false,eval b X.env)]:=by rfl):PI X (.Tuple elts k tpos) (.Call (.Name "zip" p) [a,b] [] pos) (ajE X.K ta):=by
 intro pins s σ H R I h
 refine Call_ (jM I hg hm boot_zip (PyProof.Rows.callWith_type1 (aP (ha pos pins s σ H _ I h) λus s1 ⟨vs,H1,I1,r1,q1⟩=>?_) (by rw[hs,hs2]) (by rw[hs2];rfl)))
 obtain⟨l1,l2,e,⟨xs,hq1⟩,⟨ys,hq2⟩,q⟩:=q1
 subst e
 obtain⟨u1,u2,rfl,qR,qT⟩:=vals2 r1
 cases qR
 cases qT
 obtain⟨wH,nG,p1,hz1⟩:=I1.tuple hq1
 obtain⟨its2,nH,p2,hz2⟩:=I1.tuple hq2
 have a1:l1<s1.heap.objs.size:=by obtain⟨_,e,_⟩:=p1;exact Q01 e
 have a2:l2<s1.heap.objs.size:=by obtain⟨_,e,_⟩:=p2;exact Q01 e
 refine ajC p1 p2 λh' q1 q2 q3 q4 q5 q7=>?_
 refine wpAny_pyIter_zip q1 ?_
 have I2:Inv X pins σ H1 { s1 with heap:=h' }:=I1.kept (t':=s1.toks) q7
 have Dz:ZipApart (s1.heap.objs.size+4) (s1.heap.objs.size+2) (s1.heap.objs.size+3) s1.heap.objs.size (s1.heap.objs.size+1) l1 l2:=by
  have b1:@LT.lt Nat _ l1 s1.heap.objs.size:=a1
  have b2:@LT.lt Nat _ l2 s1.heap.objs.size:=a2
  constructor <;> (intro z;have z':(_:Nat)=_:=z;omega)
 refine⟨s1.heap.objs.size+4,[s1.heap.objs.size+4,s1.heap.objs.size+2,s1.heap.objs.size+3,s1.heap.objs.size,s1.heap.objs.size+1],_,_,H1,rfl,I2,ajD Dz,⟨.none,.none,q1,q2,q3,q4,q5⟩,λb hb=>?_,q⟩
 have hb:s1.heap.objs.size<=b:=by
  have hb:b=s1.heap.objs.size+4\/b=s1.heap.objs.size+2\/b=s1.heap.objs.size+3\/b=s1.heap.objs.size\/b=s1.heap.objs.size+1:=by simpa using hb
  rcases hb with z|z|z|z|z <;> rw[z]
  . exact Q12 _ _
  . exact Q12 _ _
  . exact Q12 _ _
  . exact Q02 _
  . exact Q12 _ _
 exact I1.k_ hb (I1.hok.fresh hb)
end
end L2
namespace Pb
open PySem L2 PyProof.Rows
noncomputable def qd (a b:V):Prop:=(∃z,a=.int z/\b=.int z)\/∃z,a=.str z/\b=.str z
noncomputable def Sm (H:Hp):Nat->V->V->Prop
 |0,a,b=>qd a b
 |n+1,a,b=>qd a b\/(∃p q xs ys,a=.ref p/\b=.ref q/\H p=some (.tup xs)/\H q=some (.tup ys)/\xs.length=ys.length/\xs.length<=60/\∀(i:Nat) x y,xs[i]? =some x->ys[i]? =some y->Sm H n x y)\/
  (∃p q xs ys,a=.ref p/\b=.ref q/\H p=some (.lst xs)/\H q=some (.lst ys)/\xs.length=ys.length/\xs.length<=60/\∀(i:Nat) x y,xs[i]? =some x->ys[i]? =some y->Sm H n x y)\/
  ∃p q l l',∃f:Str->V,a=.ref p/\b=.ref q/\p≠q/\H p=some (.dK (aK f l'))/\H q=some (.dK (aK f l))/\l.length<=12/\l'.length=l.length/\∀x∈l,x∈l'/\qd (f x) (f x)
theorem Sm.zero {H:Hp}{a b:V}(h:qd a b):∀n,Sm H n a b
 |0=>h
 |_+1=>.inl h
theorem Sm.same {H H':Hp}(k:Same H H'):∀{n:Nat}{v u:V},Sm H n v u->Sm H' n v u
 |0,_,_,h=>h
 |n+1,_,_,.inl h=>.inl h
 |n+1,_,_,.inr (.inl ⟨a,b,xs,ys,e1,e2,h1,h2,h3,h4,h5⟩)=>.inr (.inl ⟨a,b,xs,ys,e1,e2,k _ _ h1,k _ _ h2,h3,h4,λi x y hx hy=>(h5 i x y hx hy).same k⟩)
 |n+1,_,_,.inr (.inr (.inl ⟨a,b,xs,ys,e1,e2,h1,h2,h3,h4,h5⟩))=>.inr (.inr (.inl ⟨a,b,xs,ys,e1,e2,k _ _ h1,k _ _ h2,h3,h4,λi x y hx hy=>(h5 i x y hx hy).same k⟩))
 |n+1,_,_,.inr (.inr (.inr ⟨p,q,l,l',f,e1,e2,e3,h1,h2,h⟩))=>.inr (.inr (.inr ⟨p,q,l,l',f,e1,e2,e3,k _ _ h1,k _ _ h2,h⟩))
noncomputable def sG (n:Nat):Sp:=λvs H Q _=>∃v u,vs=[v,u]/\Sm H n v u/\∀H',Same H H'->Q (.bl true) H'
variable {P:Program}{w:World}{K:W.Frag}{mg:Str->Option Value}{base:Heap}
theorem CQ:bC ["_law_found","_law_due"] ["_law_found","_law_due"] (aL (top 74)):=by refine⟨rfl,rfl,rfl,?_,rfl,?_,?_⟩ <;> decide +kernel
theorem aaN (T:Tb mg)(dZ:Dn K mg "_law_same" jY (top 74) lJ lK):aq P w K mg base aC (1) lJ lK jY (sG 0):=by
 refine dZ.F.ok CQ (λvs H Q E h=>?_) (λcdv A outer s H vs Q E hr h=>?_)
 . obtain⟨v,u,rfl,_⟩:=h
   rfl
 obtain⟨v,u,rfl,hs,q⟩:=h
 have nd:=CQ.nd
 refine⟨_,(ao (aV (bY (aY bO (by rfl) T.bQ boot_isinstance (aj (pv 1) (aj (bN (v:=.ty "dict") rfl T.g_ boot_dict rfl) ak)))) (ao aM
  (aB aM)) aU)
  (ao (aV (PW.pt (jq (bY (aY bO (by rfl) T.bQ boot_isinstance (aj (pv 1) (aj (bN (v:=.ty "list") rfl T.jV boot_list rfl) ak)))) (jo (bY (aY bO (by rfl) T.bQ boot_isinstance (aj (pv 1) (aj (bN (v:=.ty "tuple") rfl T.mC boot_tuple rfl) ak))))))) (ao aM
  (aB aM)) aU)
  (ao (aV (bY (aY bO (by rfl) T.bQ boot_isinstance (aj (pv 1) (aj (bN (v:=.ty "str") rfl T.nM boot_str rfl) ak)))) (aB (aN (kY (aY bO (by rfl) T.bQ boot_isinstance (aj (pv 0) (aj (bN (v:=.ty "str") rfl T.nM boot_str rfl) ak))) (lV (lq bA (pv 0) (pv 1) (aQ _)))))) aU)
  (aB (aN (kY (aY bO (by rfl) T.bQ boot_isinstance (aj (pv 0) (aj (bN (v:=.ty "int") rfl T.qW boot_int rfl) ak))) (kY (Vo (aY bO (by rfl) T.bQ boot_isinstance (aj (pv 0) (aj (bN (v:=.ty "bool") rfl T.qX boot_bool rfl) ak)))) (lV (lq bA (pv 0) (pv 1) (aQ _)))))))))),?_⟩
 rcases hs with⟨i,rfl,rfl⟩|⟨x,rfl,rfl⟩
 . refine⟨_,rfl,_,_,_,false,rfl,.int i,rfl,false,rfl,bD ?_⟩
   refine⟨_,rfl,_,_,_,false,rfl,.int i,rfl,false,rfl,bD ?_⟩
   refine⟨_,rfl,_,_,_,false,rfl,.int i,rfl,false,rfl,bD ?_⟩
   refine⟨_,rfl,_,_,_,false,rfl,.int i,rfl,false,rfl,bD ?_⟩
   refine⟨_,rfl,_,_,_,true,rfl,.int i,rfl,true,rfl,bR ?_⟩
   refine⟨_,rfl,_,_,_,false,rfl,.int i,rfl,false,rfl,true,rfl,bR ?_⟩
   refine⟨_,rfl,_,rfl,rfl,?_⟩
   rw[decide_eq_true rfl]
   exact q _ (Same.refl _)
 . refine⟨_,rfl,_,_,_,false,rfl,.str x,rfl,false,rfl,bD ?_⟩
   refine⟨_,rfl,_,_,_,false,rfl,.str x,rfl,false,rfl,bD ?_⟩
   refine⟨_,rfl,_,_,_,false,rfl,.str x,rfl,false,rfl,bD ?_⟩
   refine⟨_,rfl,_,_,_,true,rfl,.str x,rfl,true,rfl,bR ?_⟩
   refine⟨_,rfl,_,_,_,true,rfl,.str x,rfl,true,rfl,bR ?_⟩
   refine⟨_,rfl,_,rfl,rfl,?_⟩
   rw[decide_eq_true rfl]
   exact q _ (Same.refl _)
theorem ajG (n:Nat)(T:Tb mg)(dZ:Dn K mg "_law_same" jY (top 74) lJ lK)(G0_:aq P w K mg base aC (1) lJ lK jY (sG 0))(jG:aq P w K mg base aC (n+1) lJ lK jY (sG n)):aq P w K mg base aC ((n+1)+1) lJ lK jY (sG (n+1)):=by
 refine dZ.F.ok CQ (λvs H Q E h=>?_) (λcdv A outer s H vs Q E hr h=>?_)
 . obtain⟨v,u,rfl,_⟩:=h
   rfl
 obtain⟨v,u,rfl,hs,q⟩:=h
 have nd:=CQ.nd
 have hu:=eZ hr
 rcases hs with hs|⟨a,b,xs,ys,rfl,rfl,ha,hb,hl,Aq,hs⟩|⟨a,b,xs,ys,rfl,rfl,ha,hb,hl,Aq,hs⟩|⟨a,b,l,l',f,rfl,rfl,hne,ha,hb,hl,hll,hs⟩
 . refine⟨_,(ao (aV (bY (aY bO (by rfl) T.bQ boot_isinstance (aj (pv 1) (aj (bN (v:=.ty "dict") rfl T.g_ boot_dict rfl) ak)))) (ao aM
   (aB aM)) aU)
   (ao (aV (PW.pt (jq (bY (aY bO (by rfl) T.bQ boot_isinstance (aj (pv 1) (aj (bN (v:=.ty "list") rfl T.jV boot_list rfl) ak)))) (jo (bY (aY bO (by rfl) T.bQ boot_isinstance (aj (pv 1) (aj (bN (v:=.ty "tuple") rfl T.mC boot_tuple rfl) ak))))))) (ao aM
   (aB aM)) aU)
   (ao (aV (bY (aY bO (by rfl) T.bQ boot_isinstance (aj (pv 1) (aj (bN (v:=.ty "str") rfl T.nM boot_str rfl) ak)))) (aB (aN (kY (aY bO (by rfl) T.bQ boot_isinstance (aj (pv 0) (aj (bN (v:=.ty "str") rfl T.nM boot_str rfl) ak))) (lV (lq bA (pv 0) (pv 1) (aQ _)))))) aU)
   (aB (aN (kY (aY bO (by rfl) T.bQ boot_isinstance (aj (pv 0) (aj (bN (v:=.ty "int") rfl T.qW boot_int rfl) ak))) (kY (Vo (aY bO (by rfl) T.bQ boot_isinstance (aj (pv 0) (aj (bN (v:=.ty "bool") rfl T.qX boot_bool rfl) ak)))) (lV (lq bA (pv 0) (pv 1) (aQ _)))))))))),?_⟩
   rcases hs with⟨i,rfl,rfl⟩|⟨x,rfl,rfl⟩
   . refine⟨_,rfl,_,_,_,false,rfl,.int i,rfl,false,rfl,bD ?_⟩
     refine⟨_,rfl,_,_,_,false,rfl,.int i,rfl,false,rfl,bD ?_⟩
     refine⟨_,rfl,_,_,_,false,rfl,.int i,rfl,false,rfl,bD ?_⟩
     refine⟨_,rfl,_,_,_,false,rfl,.int i,rfl,false,rfl,bD ?_⟩
     refine⟨_,rfl,_,_,_,true,rfl,.int i,rfl,true,rfl,bR ?_⟩
     refine⟨_,rfl,_,_,_,false,rfl,.int i,rfl,false,rfl,true,rfl,bR ?_⟩
     refine⟨_,rfl,_,rfl,rfl,?_⟩
     rw[decide_eq_true rfl]
     exact q _ (Same.refl _)
   . refine⟨_,rfl,_,_,_,false,rfl,.str x,rfl,false,rfl,bD ?_⟩
     refine⟨_,rfl,_,_,_,false,rfl,.str x,rfl,false,rfl,bD ?_⟩
     refine⟨_,rfl,_,_,_,false,rfl,.str x,rfl,false,rfl,bD ?_⟩
     refine⟨_,rfl,_,_,_,true,rfl,.str x,rfl,true,rfl,bR ?_⟩
     refine⟨_,rfl,_,_,_,true,rfl,.str x,rfl,true,rfl,bR ?_⟩
     refine⟨_,rfl,_,rfl,rfl,?_⟩
     rw[decide_eq_true rfl]
     exact q _ (Same.refl _)
 . refine⟨_,(ao (aV (bY (aY bO (by rfl) T.bQ boot_isinstance (aj (pv 1) (aj (bN (v:=.ty "dict") rfl T.g_ boot_dict rfl) ak)))) (ao aM
   (aB aM)) aU)
   (ao (aV (PW.pt (jq (bY (aY bO (by rfl) T.bQ boot_isinstance (aj (pv 1) (aj (bN (v:=.ty "list") rfl T.jV boot_list rfl) ak)))) (jo (bY (aY bO (by rfl) T.bQ boot_isinstance (aj (pv 1) (aj (bN (v:=.ty "tuple") rfl T.mC boot_tuple rfl) ak))))))) (ao (aV (PW.pt (jq (aW qI (aY bO (by rfl) T.bQ boot_isinstance (aj (pv 0) (aj (bN (v:=.ty "list") rfl T.jV boot_list rfl) ak))) (aY bO (by rfl) T.bQ boot_isinstance (aj (pv 1) (aj (bN (v:=.ty "list") rfl T.jV boot_list rfl) ak))) (aQ _)) (jo (aW qI (aY bO (by rfl) T.bQ boot_isinstance (aj (pv 0) (aj (bN (v:=.ty "tuple") rfl T.mC boot_tuple rfl) ak))) (aY bO (by rfl) T.bQ boot_isinstance (aj (pv 1) (aj (bN (v:=.ty "tuple") rfl T.mC boot_tuple rfl) ak))) (aQ _))))) (aB (aN o7)) aU)
   (aB (aN (kY (lq bA (aY eY (by rfl) T.dU PySem.boot_len (aj (pv 0) ak)) (aY eY (by rfl) T.dU PySem.boot_len (aj (pv 1) ak)) (aQ _)) (lV (aY (wB rfl) (by rfl) T.wW boot_all (aj (jc (g:=(qF K 2 (jr (cL 0) (jr (cL 1) qD)))) (tt:=gn) (te:=(pC _ _ _ (cj (bB 0) (cj (bB 1) gj)))) (own:=["_law_a","_law_b"]) rfl (dw.of (N:=["_law_found","_law_due"]) (sc:=aL (top 74)) rfl rfl rfl (by decide +kernel)) (ajF rfl T.Yv (aj (pv 0) (aj (pv 1) ak))) (λ_ _ _ _ _=>(gh rfl (cF (bH (i:=0) (show(["_law_a","_law_b","_law_found","_law_due"]:List Str).Nodup by decide +kernel) rfl (Or.inl rfl) (.inr rfl)) (cF (bH (i:=1) (show(["_law_a","_law_b","_law_found","_law_due"]:List Str).Nodup by decide +kernel) rfl (Or.inl rfl) (.inr rfl)) f9)))) (λ_ _ _ _ _=>i_) (λ_ _ _ _ _=>(aR jG (hr.mono (by omega)) dZ (aj (pv 0) (aj (pv 1) ak))))) ak))))))) aU)
   (ao aM
   (aB aM)))),?_⟩
   refine⟨_,rfl,_,_,_,false,rfl,.tup hb,rfl,false,rfl,bD ?_⟩
   refine⟨_,rfl,_,_,_,false,rfl,.tup hb,rfl,false,rfl,bD ?_⟩
   refine⟨_,rfl,_,_,_,true,rfl,.tup hb,rfl,true,rfl,bR ?_⟩
   refine⟨_,rfl,_,_,_,false,rfl,.tup ha,rfl,_,rfl,_,_,_,false,rfl,.tup hb,rfl,rfl,_,rfl,bD ?_⟩
   refine⟨_,rfl,_,_,_,true,rfl,.tup ha,rfl,_,rfl,_,_,_,true,rfl,.tup hb,rfl,rfl,_,rfl,bD ?_⟩
   refine⟨_,rfl,a,_,rfl,.inr (aD.of ha),_,rfl,b,_,rfl,.inr (aD.of hb),rfl,_,rfl,?_⟩
   refine eN (λ_=>?_) (λc=>absurd (decide_eq_true (show V.int (xs.length:Nat)=V.int (ys.length:Nat) by rw[hl])) c)
   refine⟨_,rfl,_,rfl,a,b,rfl,⟨_,aD.of ha⟩,⟨_,aD.of hb⟩,λi m zs H'=>m=xs.length - i/\i<=xs.length/\zs=(List.replicate i true).map V.bl/\Same H H',⟨xs.length,rfl,Q0b _,rfl,Same.refl _⟩,?_⟩
   rintro i m zs H' ⟨rfl,hi0,rfl,s2⟩
   by_cases hi:i<xs.length
   . have hi2:i<ys.length:=by omega
     refine .inr ⟨⟨xs,ys,xs[i],ys[i],aD.of (s2 _ _ ha),aD.of (s2 _ _ hb),Q05 hi,Q05 hi2⟩,by rw[Q06,Q15];exact Q17 hi0 (Q17 Aq (by decide)),λx gM y=>?_⟩
     obtain⟨p,x1,x2,hp,rfl,e1,e2,rfl⟩:=y
     have e1:=e1 _ (aD.of (s2 _ _ ha))
     have e2:=e2 _ (aD.of (s2 _ _ hb))
     have sa:=s2.trans (Same.new hp (o:=.tup [x1,x2]))
     refine⟨p,_,rfl,aD.of aF,rfl,_,_,rfl,_,_,rfl,rfl,rfl,L2.yes (bR ?_)⟩
     refine⟨_,rfl,_,rfl,x1,x2,rfl,(hs i x1 x2 e1 e2).same sa,λH3 s4=>?_⟩
     refine⟨xs.length - (i+1),by omega,rfl,hi,?_,sa.trans s4⟩
     rw[List.replicate_succ',Q0k]
     rfl
   . refine .inl ⟨⟨xs,ys,aD.of (s2 _ _ ha),aD.of (s2 _ _ hb),.inl (Q11 hi)⟩,λp hp=>⟨p,List.replicate i true,rfl,aG.of aF,?_⟩⟩
     rw[xP]
     exact q _ (s2.trans (Same.new hp))
 . refine⟨_,(ao (aV (bY (aY bO (by rfl) T.bQ boot_isinstance (aj (pv 1) (aj (bN (v:=.ty "dict") rfl T.g_ boot_dict rfl) ak)))) (ao aM
   (aB aM)) aU)
   (ao (aV (PW.pt (jq (bY (aY bO (by rfl) T.bQ boot_isinstance (aj (pv 1) (aj (bN (v:=.ty "list") rfl T.jV boot_list rfl) ak)))) (jo (bY (aY bO (by rfl) T.bQ boot_isinstance (aj (pv 1) (aj (bN (v:=.ty "tuple") rfl T.mC boot_tuple rfl) ak))))))) (ao (aV (PW.pt (jq (aW qI (aY bO (by rfl) T.bQ boot_isinstance (aj (pv 0) (aj (bN (v:=.ty "list") rfl T.jV boot_list rfl) ak))) (aY bO (by rfl) T.bQ boot_isinstance (aj (pv 1) (aj (bN (v:=.ty "list") rfl T.jV boot_list rfl) ak))) (aQ _)) (jo (aW qI (aY bO (by rfl) T.bQ boot_isinstance (aj (pv 0) (aj (bN (v:=.ty "tuple") rfl T.mC boot_tuple rfl) ak))) (aY bO (by rfl) T.bQ boot_isinstance (aj (pv 1) (aj (bN (v:=.ty "tuple") rfl T.mC boot_tuple rfl) ak))) (aQ _))))) (aB (aN o7)) aU)
   (aB (aN (kY (lq bA (aY eY (by rfl) T.dU PySem.boot_len (aj (pv 0) ak)) (aY eY (by rfl) T.dU PySem.boot_len (aj (pv 1) ak)) (aQ _)) (lV (aY (wB rfl) (by rfl) T.wW boot_all (aj (jc (g:=(qF K 2 (jr (cL 0) (jr (cL 1) qD)))) (tt:=gn) (te:=(pC _ _ _ (cj (bB 0) (cj (bB 1) gj)))) (own:=["_law_a","_law_b"]) rfl (dw.of (N:=["_law_found","_law_due"]) (sc:=aL (top 74)) rfl rfl rfl (by decide +kernel)) (afs rfl T.Yv (aj (pv 0) (aj (pv 1) ak))) (λ_ _ _ _ _=>(gh rfl (cF (bH (i:=0) (show(["_law_a","_law_b","_law_found","_law_due"]:List Str).Nodup by decide +kernel) rfl (Or.inl rfl) (.inr rfl)) (cF (bH (i:=1) (show(["_law_a","_law_b","_law_found","_law_due"]:List Str).Nodup by decide +kernel) rfl (Or.inl rfl) (.inr rfl)) f9)))) (λ_ _ _ _ _=>i_) (λ_ _ _ _ _=>(aR jG (hr.mono (by omega)) dZ (aj (pv 0) (aj (pv 1) ak))))) ak))))))) aU)
   (ao aM
   (aB aM)))),?_⟩
   refine⟨_,rfl,_,_,_,false,rfl,.lst hb,rfl,false,rfl,bD ?_⟩
   refine⟨_,rfl,_,_,_,true,rfl,.lst hb,rfl,true,rfl,bR ?_⟩
   refine⟨_,rfl,_,_,_,true,rfl,.lst ha,rfl,_,rfl,_,_,_,true,rfl,.lst hb,rfl,rfl,_,rfl,bD ?_⟩
   refine⟨_,rfl,_,_,_,false,rfl,.lst ha,rfl,_,rfl,_,_,_,false,rfl,.lst hb,rfl,rfl,_,rfl,bD ?_⟩
   refine⟨_,rfl,a,_,rfl,.inl (aG.of ha),_,rfl,b,_,rfl,.inl (aG.of hb),rfl,_,rfl,?_⟩
   refine eN (λ_=>?_) (λc=>absurd (decide_eq_true (show V.int (xs.length:Nat)=V.int (ys.length:Nat) by rw[hl])) c)
   refine⟨_,rfl,_,rfl,a,b,rfl,⟨_,aG.of ha⟩,⟨_,aG.of hb⟩,λi m zs H'=>m=xs.length - i/\i<=xs.length/\zs=(List.replicate i true).map V.bl/\Same H H',⟨xs.length,rfl,Q0b _,rfl,Same.refl _⟩,?_⟩
   rintro i m zs H' ⟨rfl,hi0,rfl,s2⟩
   by_cases hi:i<xs.length
   . have hi2:i<ys.length:=by omega
     refine .inr ⟨⟨xs,ys,xs[i],ys[i],aG.of (s2 _ _ ha),aG.of (s2 _ _ hb),Q05 hi,Q05 hi2⟩,by rw[Q06,Q15];exact Q17 hi0 (Q17 Aq (by decide)),λx gM y=>?_⟩
     obtain⟨p,x1,x2,hp,rfl,e1,e2,rfl⟩:=y
     have e1:=e1 _ (aG.of (s2 _ _ ha))
     have e2:=e2 _ (aG.of (s2 _ _ hb))
     have sa:=s2.trans (Same.new hp (o:=.tup [x1,x2]))
     refine⟨p,_,rfl,aD.of aF,rfl,_,_,rfl,_,_,rfl,rfl,rfl,L2.yes (bR ?_)⟩
     refine⟨_,rfl,_,rfl,x1,x2,rfl,(hs i x1 x2 e1 e2).same sa,λH3 s4=>?_⟩
     refine⟨xs.length - (i+1),by omega,rfl,hi,?_,sa.trans s4⟩
     rw[List.replicate_succ',Q0k]
     rfl
   . refine .inl ⟨⟨xs,ys,aG.of (s2 _ _ ha),aG.of (s2 _ _ hb),.inl (Q11 hi)⟩,λp hp=>⟨p,List.replicate i true,rfl,aG.of aF,?_⟩⟩
     rw[xP]
     exact q _ (s2.trans (Same.new hp))
 . have jG:=G0_
   refine⟨_,(ao (aV (bY (aY bO (by rfl) T.bQ boot_isinstance (aj (pv 1) (aj (bN (v:=.ty "dict") rfl T.g_ boot_dict rfl) ak)))) (ao (aV (PW.pt (jq (iV (bY (aY bO (by rfl) T.bQ boot_isinstance (aj (pv 0) (aj (bN (v:=.ty "dict") rfl T.g_ boot_dict rfl) ak))))) (jo (aW qI (aY Ge (by rfl) T.dU PySem.boot_len (aj (pv 0) ak)) (aY Ge (by rfl) T.dU PySem.boot_len (aj (pv 1) ak)) (aQ _))))) (aB (aN o7)) aU)
   (aB (aN (aY (wB rfl) (by rfl) T.wW boot_all (aj (XH rfl (jc (g:=(cL 0)) (tt:=gn) (te:=(Vn _ (pC _ _ _ (cj (qM (bB 1) (bB 0)) (cj (qM (bB 2) (bB 0)) gj))))) (own:=["_law_name"]) rfl (dw.of (N:=["_law_found","_law_due"]) (sc:=aL (top 74)) rfl rfl rfl (by decide +kernel)) (afU rfl (pv 1)) (λ_ _ _ _ _=>(bH (i:=0) (show(["_law_name","_law_found","_law_due"]:List Str).Nodup by decide +kernel) rfl (Or.inl rfl) (.inr rfl))) (λ_ _ _ _ _=>i_) (λ_ _ _ _ _=>(kY (Vl (Gd hu (pv 0) (pv 1)) (by with_unfolding_all rfl)) (lV (aR jG (hr.mono (by omega)) dZ (aj (gk hu (pv 1) (pv 0) (λ_ _=>rfl)) (aj (gk hu (pv 2) (pv 0) (λ_ _=>rfl)) ak)))))))) ak))))) aU)
   (ao aM
   (ao aM
   (aB aM)))),?_⟩
   refine⟨_,rfl,_,_,_,true,rfl,.dK hb,rfl,true,rfl,bR ?_⟩
   refine⟨_,rfl,_,_,_,true,rfl,.dK ha,rfl,true,rfl,bD ?_⟩
   refine⟨_,rfl,a,_,rfl,ha,_,rfl,b,_,rfl,hb,rfl,_,rfl,?_⟩
   rw[decide_eq_true (show V.int ((aK f l').length:Nat)=V.int ((aK f l).length:Nat) by rw[gD,gD,hll])]
   refine bD ?_
   refine⟨_,rfl,b,_,rfl,hb,λo hz=>?_⟩
   have kf:∀c u,c≠b->H c=some u->upd H b (.cg o (.dK (aK f l))) c=some u:=λc u hc e=>by rw[au hc];exact e
   refine⟨λi m zs H'=>m=l.length - i/\i<=l.length/\zs=(List.replicate i true).map V.bl/\Same (upd H b (.cg o (.dK (aK f l)))) H',⟨l.length,rfl,Q0b _,rfl,Same.refl _⟩,?_⟩
   rintro i m zs H' ⟨rfl,hi0,rfl,s2⟩
   have hfz:=s2 _ _ (aF (H:=H) (a:=b) (o:=.cg o (.dK (aK f l))))
   by_cases hi:i<l.length
   . refine .inr ⟨⟨by rw[gD];exact hi,hfz⟩,by rw[Q06,Q15];exact cW (by omega),λx gM y=>?_⟩
     obtain⟨rfl,pr,hpr,rfl⟩:=y
     have hli:l[i]? =some l[i]:=Q05 hi
     rw[HW hli] at hpr
     cases hpr
     have hmem:l[i]∈l:=Q0r hi
     have ga:bW gM a (.str l[i]) (some (f l[i])):=by
      have:=bW.k (k:=Sum.inr l[i]) (s2 _ _ (kf _ _ hne ha))
      rw[gQ,if_pos (hs _ hmem).1] at this
      exact this
     have gb:bW gM b (.str l[i]) (some (f l[i])):=.inl ⟨_,Sum.inr l[i],.inr ⟨_,hfz⟩,rfl,by rw[gQ,if_pos hmem]⟩
     refine⟨rfl,L2.yes (bR ?_)⟩
     refine⟨_,rfl,_,rfl,a,_,rfl,ga,true,rfl,bR ?_⟩
     refine⟨_,rfl,_,rfl,a,_,rfl,ga,_,rfl,_,rfl,b,_,rfl,gb,_,_,rfl,(hs _ hmem).2,λH3 s4=>?_⟩
     refine⟨l.length - (i+1),by omega,rfl,hi,?_,s2.trans s4⟩
     rw[List.replicate_succ',Q0k]
     rfl
   . refine .inl ⟨⟨by rw[gD];omega,hfz⟩,λp hp=>?_⟩
     have s5:=Same.new hp (o:=.lst ((List.replicate i true).map V.bl))
     refine⟨b,o,_,hz,s5 _ _ hfz,?_⟩
     have hpb:p≠b:=λz=>by rw[z,hfz] at hp;cases hp
     refine⟨p,List.replicate i true,rfl,aG.of (by rw[au hpb,aF]),?_⟩
     rw[xP]
     refine q _ λc u e=>?_
     by_cases hc:c=b
     . subst hc
       rw[aF,<-hb];exact e
     . rw[au hc]
       exact s5 _ _ (s2 _ _ (kf _ _ hc e))
theorem aaO (T:Tb mg)(dZ:Dn K mg "_law_same" jY (top 74) lJ lK):∀n:Nat,aq P w K mg base aC (n+1) lJ lK jY (sG n)
 |0=>aaN T dZ
 |n+1=>ajG n T dZ (aaN T dZ) (aaO T dZ n)
end Pb
namespace PySem
namespace F
theorem ajI:typeLookup (.type "list_reverseiterator") "__len__"=pure none:=by rw[typeLookup_type,builtinLookup_eq_fast];kernel_rfl
theorem ajJ:Slot "list_reverseiterator" "__length_hint__" "list_reverseiterator.__length_hint__":=
 .of (owner:="list_reverseiterator") (n:="__length_hint__") (by rw[typeLookup_type,builtinLookup_eq_fast];kernel_rfl) (by decide +kernel) (by decide +kernel) (by decide +kernel)
   (by first|exact .inl (by decide +kernel)|exact .inr (by decide +kernel)) (by rw[isSubtype_type];kernel_rfl)
end F
open PyProof.Rows
section
variable {prog:Program}{w:World}{A:Around}{E:Value->Shared->Prop}{s:Shared}
theorem ajK {I l:Addr}{items:Array Value}{Q:Value->Shared->Prop}(hh:A.handled=none)(hne:l≠I)(hn:items.size<=sizeLine)
 (hit:s.heap.IsRevIter I l ((items.size:Int) - 1)) (ht:s.heap.IsList l items) (hlt:∀b∈[I,l],b<s.heap.objs.size)
 (hQ:∀s' acc' c',Moved [s.heap.objs.size,I] (λa b=>b=a) { s with heap:=s.heap.push { cls:=.type "list",data:=.seq #[] } } s'->s'.heap.get? s.heap.objs.size=some { cls:=.type "list",data:=.seq acc' c' }->ItemsOf (λi v=>items[items.size - 1 - i]? =some v) acc' items.size->Q (.ref s.heap.objs.size) s'):
 wpAny (model prog w) A (call (.type "list") [.ref I]) Q E s:=by
 refine callType_codes (Q₁:=λobj s₁=>obj=.ref s.heap.objs.size/\s₁={ s with heap:=s.heap.push { cls:=.type "list",data:=.seq #[] } }) F.called_list (F.typeCall_list_1 _) F.entry_list_init (code_list_new _ ⟨rfl,rfl⟩) λobj s₁ h₁=>?_
 obtain⟨rfl,rfl⟩:=h₁
 have W:=(Walks.listRev (prog:=prog) (w:=w) (A:=A.in1.in1) hh I l hne items).toS
 have hSf:s.heap.objs.size ∉ [I,l]:=λhm=>Q0l _ (hlt _ hm)
 have hSI:s.heap.objs.size≠I:=λe=>hSf (e ▸ Q0f)
 have hS₁:(s.heap.push { cls:=.type "list",data:=.seq #[] }).get? s.heap.objs.size=some { cls:=.type "list",data:=.seq #[] }:=Q0c _ rfl
 refine⟨⟨_,hS₁,rfl⟩,F.args_list_init_2 _ _,?_⟩
 have hit₁:(s.heap.push { cls:=.type "list",data:=.seq #[] }).IsRevIter I l ((items.size:Int) - 1):=hit.at λo e=>Q04 _ e
 unfold Builtin.«list.__init__»
 dsimp only
 rw[if_neg (by decide),if_neg (show ¬[Value.ref I].length > 1 from by show ¬1 > 1;decide)]
 refine Q00 (wpAny_listItems hS₁ rfl ?_)
 refine Q00 (PyProof.Rows.listUpdate_at hS₁ rfl ?_ (fM) (by show 0<=sizeLine+1;decide))
 refine Q00 (wpAny_letGo ?_)
 have hS₂:=Q16 (Obj.mapSeq (λ_=>(#[]:Array Value))) hS₁ rfl
 have oth:∀b o,b≠s.heap.objs.size->(s.heap.push { cls:=.type "list",data:=.seq #[] }).get? b=some o->
  ((s.heap.push { cls:=.type "list",data:=.seq #[] }).update s.heap.objs.size (Obj.mapSeq (λ_=>(#[]:Array Value)))).get? b=some o:=
  λb o hb e=>(Q13 _ _ (Ne.symm hb)).trans e
 have hit₂:((s.heap.push { cls:=.type "list",data:=.seq #[] }).update s.heap.objs.size (Obj.mapSeq (λ_=>(#[]:Array Value)))).IsRevIter I l ((items.size:Int) - 1):=hit₁.at λo e=>oth I o (Ne.symm hSI) e
 have h1:Builtin.List.listSameRef (.ref s.heap.objs.size) (.ref I)=false:=by simp[Builtin.List.listSameRef,hSI]
 have h2:(Value.type "list_reverseiterator" == Value.type "list")=false:=by decide
 have h3:(Value.type "list_reverseiterator" == Value.type "tuple")=false:=by decide
 have hst:0<=items.size/\s.heap.IsRevIter I l ((items.size:Int) - 1 - ((0:Nat):Int))/\s.heap.IsList l items:=⟨Q0b _,by
  have e:(items.size:Int) - 1 - ((0:Nat):Int)=(items.size:Int) - 1:=by omega
  rw[e];exact hit,ht⟩
 unfold Builtin.List.listExtendWith
 refine Q00 (wpAny_typeOf hit₂.typeIs ?_)
 simp only[h1,h2,h3,Bool.or_false,Bool.false_eq_true,if_false]
 refine Q00 (wpAny_pyIter_revIter hit₂ ?_)
 refine Q00 (wpAny_holding ?_)
 unfold Builtin.List.listLengthHint
 refine Q00 (wpAny_specialOf hit₂.typeIs F.ajI ?_)
 show wpAny _ _ (specialOf (Value.ref I) (Str.ofString "__length_hint__") >>= _) _ _ _
 refine Q00 (wpAny_specialOf hit₂.typeIs F.ajJ.lookup ?_)
 (generalize hid:("list_reverseiterator.__length_hint__":String)=id0;(fail_if_success (clear hid id0));wp_delta;rw[show splitId id0=some ("list_reverseiterator","__length_hint__") from by subst hid;decide +kernel];subst hid)
 refine Q00 (wpAny_isInstance (b:=true) hit₂.typeIs (by rw[isSubtype_type];kernel_rfl) ?_)
 rw[if_neg (by decide)]
 dsimp only
 rw[if_pos (by decide +kernel),if_neg (by decide)]
 refine Q03 ?_
 rw[if_neg (by decide)]
 refine Q03 ⟨plainId_quiet F.plain_extend_loop _,codeAny_extend_loopS W hn _ hSf _ items.size 0 _ _ _ rfl (Q0b _) (W.frame 0 s _ s.toks hst (Q02 _) λb hb o e=>oth b o (λh=>hSf (h ▸ hb)) (Q04 _ e)) hS₂ (ItemsOf.nil _) λs' acc' c' hm hS' hacc=>?_⟩
 exact⟨rfl,hQ s' acc' c' ⟨λb o hb e=>hm.heap b o hb (oth b o (λh=>hb (by rw[h];exact Q0f)) e),hm.gens,hm.drawn,hm.os,hm.toks⟩ hS' hacc⟩
end
end PySem
namespace L2
open PySem PyProof.Rows
theorem aaP:∀{xs:List V}{us:List Value},xs.length=us.length->(∀(i:Nat) (x:V) (u:Value),xs[i]? =some x->us[i]? =some u->RelV x u)->Vals xs us
 |[],[],_,_=>.nil
 |x::xs,u::us,hl,h=>.cons (h 0 x u rfl rfl) (aaP (by simpa using hl) λi y v hy hv=>h (i+1) y v (by simpa using hy) (by simpa using hv))
 |[],_::_,hl,_=>by cases hl
 |_::_,[],hl,_=>by cases hl
noncomputable def ajL (K:W.Frag) (te:TE):TE:=λσ H Q=>te σ H λv H1=>∃a xs,v=.ref a/\aG K H1 a xs/\∀l,H1 l=none->Q (.ref l) (upd H1 l (.lst xs.reverse))
section
variable {X:Cx}{e:Expr}{te:TE}{p p2 pos pos2:Pos}
theorem ajM (hc:X.calm=true)(hg:Gl X "list")(hm:X.mg "list"=none)(hb:bootBuiltins "list"=some (.type "list"))(hg2:Gl X "reversed")(hm2:X.mg "reversed"=none)(hb2:bootBuiltins "reversed"=some (.type "reversed"))(he:PE X e te)
 (hs:starEach [e] X.env=(false,eval e X.env)::starEach [] X.env:=by rfl)
 (hs2:starEach [.Call (.Name "reversed" p2) [e] [] pos2] X.env=(false,eval (.Call (.Name "reversed" p2) [e] [] pos2) X.env)::starEach [] X.env:=by rfl):
 PE X (.Call (.Name "list" p) [.Call (.Name "reversed" p2) [e] [] pos2] [] pos) (ajL X.K te):=by
 intro pins s σ H Q I h
 refine wpAny_Call_Name_kw (jM I hg hm hb ?_ (by decide) (by decide))
 refine PyProof.Rows.callWith_type1 ?_ hs2 rfl
 rw[hs2]
 show wpAny _ _ (spliced ((false,eval (.Call (.Name "reversed" p2) [e] [] pos2) X.env)::[])) _ _ s
 refine Calls.spliced_cons ?_
 refine wpAny_Call_Name_kw (jM I hg2 hm2 hb2 ?_ (by decide) (by decide))
 refine PyProof.Rows.callWith_type1 ?_ hs rfl
 rw[hs]
 show wpAny _ _ (spliced ((false,eval e X.env)::[])) _ _ s
 refine Calls.spliced_cons (aP (he pins s σ H _ I h) λu s1 ⟨x,H1,I1,r1,q1⟩=>?_)
 refine Calls.spliced_nil ?_
 obtain⟨a,xs,rfl,hq,q⟩:=q1
 cases r1
 obtain⟨its,r',pl,hz⟩:=I1.list hq
 have hlen:=r'.length
 have hsz:its.toArray.size=its.length:=Q07
 have pl1:=pl.isList
 refine call_reversed_list pl1 ?_
 refine Calls.spliced_nil ?_
 have ho:=id pl1
 obtain⟨o,hoa,hr⟩:=ho
 have hne:a≠s1.heap.objs.size:=λz=>Q0l _ (z ▸ Q01 hoa)
 have sH:(s1.heap.push (revObj a ((its.toArray.size:Int) - 1))).IsList a its.toArray:=⟨o,Q04 _ hoa,hr⟩
 have hit:(s1.heap.push (revObj a ((its.toArray.size:Int) - 1))).IsRevIter s1.heap.objs.size a ((its.toArray.size:Int) - 1):=⟨_,Q0c _ rfl,rfl,rfl⟩
 refine ajK (s:={ s1 with heap:=s1.heap.push (revObj a ((its.toArray.size:Int) - 1)) }) (I1.ok.hd hc) hne (by rw[hsz];omega) hit sH ?_ ?_
 . intro b hb'
   rcases List.mem_cons.mp hb' with z|z
   . rw[z];exact Q01 (Q0c _ rfl)
   . rw[List.mem_singleton.mp z];exact Q01 (Q04 _ hoa)
 . intro s' acc c' hm' hS' hacc
   have hlt1:(s1.heap.push (revObj a ((its.toArray.size:Int) - 1))).objs.size=s1.heap.objs.size+1:=by
    first|rfl|simp[Heap.push]
   have kp:∀b u,s1.heap.get? b=some u->s'.heap.get? b=some u:=λb u hbu=>hm'.heap b u (λz=>by
    have hb2:=Q01 hbu
    rcases List.mem_cons.mp z with z|z
    . exact absurd hb2 (Nat.not_lt.mpr (by rw[z];exact Q0e (Q10 _) (Q1h hlt1.symm)))
    . exact absurd hb2 (Nat.not_lt.mpr (by rw[List.mem_singleton.mp z];exact Q02 _))) (Q04 _ (Q04 _ hbu))
   have hv:Vals xs.reverse acc.toList:=by
    refine aaP ?_ λi x u hx hu=>?_
    . rw[Q1m,hlen,<-hsz,<-hacc.1];exact Array.length_toList.symm
    . have hi:i<xs.length:=by
       have:=(List.getElem?_eq_some_iff.mp hx).1
       rw[Q1m] at this;exact this
      have hu2:acc[i]? =some u:=by rw[<-hu];simp
      have h1:=hacc.2 i u hu2
      rw[Q33 hi] at hx
      obtain⟨u',hu',ru⟩:=r'.get hx
      have e1:its.toArray[its.toArray.size - 1 - i]? =some u':=by
       rw[hsz,<-hlen];simpa using hu'
      rw[e1] at h1
      injection h1 with h1
      subst h1
      exact ru
   obtain⟨h',g',d',tk',os'⟩:=s'
   have eg:g'=s1.gens:=hm'.gens
   have ed:d'=s1.drawn:=hm'.drawn
   have eo:os'=s1.os:=hm'.os
   subst eg ed eo
   have hfr:s1.heap.objs.size<=(s1.heap.push (revObj a ((its.toArray.size:Int) - 1))).objs.size:=by rw[hlt1];omega
   have I2:Inv X pins σ (upd H1 (s1.heap.push (revObj a ((its.toArray.size:Int) - 1))).objs.size (.lst xs.reverse)) { s1 with heap:=h',toks:=tk' }:=
    I1.laid (t':=tk') kp hfr (show cO X.prog X.w _ h' _ (.lst xs.reverse) from⟨by rw[Q1m];exact hz,acc.toList,c',hv,by
      have:=hS'
      simpa using this⟩)
   exact⟨.ref _,_,I2,rfl,q _ (I1.hok.fresh hfr)⟩
end
end L2
namespace Pb
open PySem L2 PyProof.Rows
theorem boot_reversed:bootBuiltins "reversed"=some (.type "reversed"):=by decide +kernel
theorem ajN {l1 l2 l:List Str}(nd:l.Nodup)(p1:l1.Perm l)(p2:l2.Perm l)(h1:l1.Pairwise sle)(h2:l2.Pairwise sle):l1=l2:=by
 have st:∀{m:List Str},m.Perm l->m.Pairwise sle->m.Pairwise slt:=λ{m} p h=>by
  have n:m.Pairwise (· ≠ ·):=p.nodup_iff.mpr nd
  refine(h.and n).imp λ{a b} ⟨x,y⟩=>?_
  rcases Aj x with z|z
  . exact z
  . exact absurd z y
 exact GR GP (p1.trans p2.symm) (st p1 h1) (st p2 h2)
noncomputable def aaS:Sp:=λvs H Q _=>∃l m,∃ss:List Str,vs=[.ref l,.int m]/\H l=some (.lst (ss.map V.str))/\ss.Nodup/\ss.length<=12/\∀p (rs:List Str) H',Same H H'->H' p=some (.lst (rs.map V.str))->H p=none->rs.Nodup->(∀x∈rs,x∈ss)->rs.length<=12->Q (.ref p) H'
noncomputable def aaT (K:W.Frag):Sp:=λvs H Q _=>∃a b ns n t src xs fs l,∃f:Str->V,∃m:Nat,vs=[.ref a,.ref b,.ref t,.ref src,.int m]/\m<=6/\G0 K H a b ns n/\n+20<=1000000000000/\(H t=some (.tup xs)\/(H t=some (.lst xs)/\t≠b))/\FA H xs fs/\fs.cu/\fs.names.Nodup/\1<=fs.names.length/\fs.names.length<=12/\H src=some (.dK (aK f l))/\(∀x∈fs.names,x∈l)/\l.length<=12/\
 ∀r p nw ys ops n' H',SB b H H'->H' b=some (.lst [.int n'])->n<=n'->n'<=n+12->H' r=some (.tup [.ref p,.ref nw])->H p=none->H nw=none->H' p=some (.lst ys)->H' nw=some (.dK (aK (cM f ops) l))->bV H' ys ops->ig fs ops->ops.length<=6->Q (.ref r) H'
theorem ajO {K:W.Frag}{t:Addr}{xs:List V}{i:Int}{v:V}{H:Hp}{Q:VK}(h:aG K H t xs\/aD K H t xs)(hv:dO xs i=some v)(q:Q v H):Wd K (.ref t) (.int i) H Q:=by
 rcases h with h|h
 . exact .inl ⟨t,xs,i,v,rfl,rfl,h,hv,q⟩
 . exact .inr (.inl ⟨t,xs,i,v,rfl,rfl,h,hv,q⟩)
theorem Kc {fs:Fs}{i:Nat}{x:Str}{k:Kd}(h:fs.at i=some (x,k)):x∈fs.names:=by
 have:fs.names[i]? =some x:=by rw[Fs.gZ,h];rfl
 exact Q0v this
variable {P:Program}{w:World}{K:W.Frag}{mg:Str->Option Value}{base:Heap}
theorem aaU:bC ["_law_row","_law_m","_law_some_here"] ["_law_row","_law_m"] (aL (top 75)):=by refine⟨rfl,rfl,rfl,?_,rfl,?_,?_⟩ <;> decide +kernel
theorem ajP (T:Tb mg)(u6:Dn K mg "_law_some" Bh (top 75) Ke Kf):aq P w K mg base aC (1) Ke Kf Bh (aaS):=by
 refine u6.F.ok aaU (λvs H Q E h=>?_) (λcdv A outer s H vs Q E hr h=>?_)
 . obtain⟨l,m,ss,rfl,_⟩:=h
   rfl
 obtain⟨l,m,ss,rfl,hl,hnd,h12,q⟩:=h
 have nd:=aaU.nd
 refine⟨_,(ao (zV (i:=2) nd rfl (Or.inl rfl) (g:=(qF K 2 (jr (cL 0) (jr (cL 1) qD)))) (tt:=(lX (bJ _ (bJ _ (bJ _ (bB 3) (bJ _ (bJ _ (tC (.int 3)) (bB 0)) (tC (.int 1)))) (tC (.int 3))) (tC (.int 0))))) (te:=(bB 1)) (own:=["_law_k","_law_one_here"]) rfl (dw.of (N:=["_law_row","_law_m","_law_some_here"]) (sc:=aL (top 75)) rfl rfl rfl (by decide +kernel)) (Gj rfl T.Hl (aj (pv 0) ak)) (λ_ _ _ _ _=>(gh rfl (cF (bH (i:=0) (show(["_law_k","_law_one_here","_law_row","_law_m","_law_some_here"]:List Str).Nodup by decide +kernel) rfl (Or.inl rfl) (.inr rfl)) (cF (bH (i:=1) (show(["_law_k","_law_one_here","_law_row","_law_m","_law_some_here"]:List Str).Nodup by decide +kernel) rfl (Or.inl rfl) (.inr rfl)) f9)))) (λ_ _ _ _ _=>(zT (aW Fi (aX cG (aX ju (pv 3) (aX jt (aX lW aH (pv 0)) aH)) aH) aH (aQ _)))) (λ_ _ _ _ _=>(pv 1)))
  (aB (aN (fZ (aW bA (aX cG (pv 1) aH) aH (aQ _)) (pv 2) (ajM rfl rfl T.jV boot_list rfl T.Yw boot_reversed (pv 2)))))),?_⟩
 refine⟨_,rfl,l,rfl,⟨_,aG.of hl⟩,λi k ys H'=>k=ss.length - i/\i<=ss.length/\Same H H'/\∃rs:List Str,ys=rs.map V.str/\rs.Sublist (ss.take i),⟨_,rfl,Q0b _,Same.refl _,[],rfl,List.nil_sublist _⟩,?_⟩
 rintro i k ys H' ⟨rfl,hi0,s1,rs,rfl,hsub⟩
 have hlen:rs.length<=i:=Q0e hsub.length_le (by rw[Q0i];omega)
 by_cases hi:i<ss.length
 . have hsi:(ss.map V.str)[i]? =some (.str ss[i]):=by rw[Q0g,Q05 hi];rfl
   refine .inr ⟨⟨_,.str ss[i],aG.of (s1 _ _ hl),hsi⟩,by rw[Q06];exact cW (by omega),λx gM y=>?_⟩
   obtain⟨p,y,hp,rfl,hy,rfl⟩:=y
   have hy:=hy _ (aG.of (s1 _ _ hl))
   rw[hsi] at hy
   cases hy
   have s2:=Same.new hp (o:=.tup [.int i,.str ss[i]])
   have stp:ss.take (i+1)=ss.take i++[ss[i]]:=by rw[Q0p,Q05 hi];rfl
   refine⟨p,_,rfl,aD.of aF,rfl,_,_,rfl,_,_,rfl,rfl,rfl,?_⟩
   refine⟨_,rfl,_,rfl,_,_,rfl,rfl,.inr ⟨by omega,by omega⟩,_,_,rfl,rfl,_,_,rfl,rfl,(by unfold Vy;exact⟨by omega,by omega⟩),_,_,rfl,rfl,by show(0:Int)<3;decide,_,_,rfl,rfl,_,rfl,?_⟩
   refine eN (λc=>?_) (λc=>?_)
   . refine⟨_,rfl,ss.length - (i+1),by omega,rfl,hi,s1.trans s2,rs++[ss[i]],by rw[Q0k];rfl,?_⟩
     rw[stp]
     exact hsub.append (List.Sublist.refl _)
   . refine⟨ss.length - (i+1),by omega,rfl,hi,s1.trans s2,rs,rfl,?_⟩
     rw[stp]
     exact hsub.trans (List.sublist_append_left _ _)
 . refine .inl ⟨⟨_,aG.of (s1 _ _ hl),by rw[Q06];omega⟩,λp hp=>?_⟩
   have hs:rs.Sublist ss:=hsub.trans (Q2j _ _)
   have hrn:rs.Nodup:=hs.nodup hnd
   have hrl:rs.length<=12:=Q0e hs.length_le h12
   have s2:=Same.new hp (o:=.lst (rs.map V.str))
   have e2:upd H' p (.lst (rs.map V.str)) p=some (.lst (rs.map V.str)):=aF
   have hpH:H p=none:=by
    cases e:H p with
    |none=>rfl
    |some o=>rw[s1 _ _ e] at hp;cases hp
   refine⟨_,rfl,_,_,rfl,rfl,by show(0:Int)<2;decide,rfl,_,rfl,eN (λc=>?_) (λc=>?_)⟩
   . exact⟨_,rfl,q p rs _ (s1.trans s2) e2 hpH hrn (λx hx=>hs.subset hx) hrl⟩
   . refine⟨_,rfl,p,_,rfl,aG.of e2,λp2 hp2=>?_⟩
     have s3:=Same.new hp2 (o:=.lst (rs.map V.str).reverse)
     refine q p2 rs.reverse _ (s1.trans (s2.trans s3)) (by rw[aF,Q34]) ?_ ((Q35 rs).nodup_iff.mpr hrn) (λx hx=>hs.subset (List.mem_reverse.mp hx)) (by rw[Q1m];exact hrl)
     cases e:H p2 with
     |none=>rfl
     |some o=>rw[s2 _ _ (s1 _ _ e)] at hp2;cases hp2
theorem ig.snoc {fs:Fs}{ops:List Op}{o:Op}(h:ig fs ops){k:Kd}(hk:fs.get o.1=some k)(hp:dH k o.2):ig fs (ops++[o]):=λx hx=>by
 rcases List.mem_append.mp hx with z|z
 . exact h x z
 . obtain rfl:=List.mem_singleton.mp z
   exact⟨k,hk,hp⟩
theorem ajR (f:Str->V)(ops:List Op)(o:Op):cM f (ops++[o])=dz (cM f ops) o.1 o.2:=by
 unfold cM
 rw[Q2f]
 rfl
theorem aaV:bC ["_law_script","_law_at","_law_fields_here","_law_value_here","_law_many","_law_paper","_law_now","_law_k","_law_name","_law_inner"] ["_law_script","_law_at","_law_fields_here","_law_value_here","_law_many"] (aL (top 76)):=by refine⟨rfl,rfl,rfl,?_,rfl,?_,?_⟩ <;> decide +kernel
theorem ajS (T:Tb mg)(qe:Dn K mg "_law_sets" Bj (top 76) Kg Kh)(dh:Dn K mg "_law_next" cR (top 63) gO gP)(fX:aq P w K mg base aC (1) gO gP cR (nR K))(jz:Dn K mg "_law_value" nO (top 73) pU pW)(xH:aq P w K mg base aC (3) pU pW nO (HX K)):aq P w K mg base aC (4) Kg Kh Bj (aaT K):=by
 refine qe.F.ok aaV (λvs H Q E h=>?_) (λcdv A outer s H vs Q E hr h=>?_)
 . obtain⟨a,b,ns,n,t,src,xs,fs,l,f,m,rfl,_⟩:=h
   rfl
 obtain⟨a,b,ns,n,t,src,xs,fs,l,f,m,rfl,hm,g,hn,ht,hfa,hpl,hnd,h1,h12,xZ,hin,rG,q⟩:=h
 have nd:=aaV.nd
 have hu:=eZ hr
 refine⟨_,(ao (bf (i:=5) nd rfl (Or.inl rfl) (dG ak))
  (ao (bf (i:=6) nd rfl (Or.inl rfl) (iZ tV (by rfl) T.g_ boot_dict (aj (pv 3) ak)))
  (ao (iW PassesOwn.never rfl (zE rfl T.wX (aj (pv 4) ak)) (bH (i:=7) nd rfl (Or.inl rfl)) (ao (sY (aZ ad7 (pv 2) (aX cG (aR fX (hr.mono (by decide)) dh (aj (pv 0) (aj (pv 1) ak))) (aY eY (by rfl) T.dU PySem.boot_len (aj (pv 2) ak))) (λ_ _=>rfl)) (gh rfl (cF (bH (i:=8) nd rfl (Or.inl rfl)) (cF (bH (i:=9) nd rfl (Or.inl rfl)) f9))))
  (ao (qN hu (pv 6) (pv 8) (aR xH (hr.mono (by decide)) jz (aj (pv 0) (aj (pv 1) (aj (pv 9) (aj aH ak))))) rfl)
  (aB (iB (pF PySem.F.plainAttrs_list PySem.F.slot_list_append PySem.F.type_list_append zP (pv 5) (aj (cQ (aj bh (aj (cQ (aj (pv 8) ak)) (aj (gk hu (pv 6) (pv 8) (λ_ _=>rfl)) ak)))) ak)))))))
  (aB (aN (cQ (aj (pv 5) (aj (pv 6) ak)))))))),?_⟩
 have xJ:xs.length=fs.names.length:=FA.len fs hfa
 have hbb:=g.at_
 refine⟨fM,λp hp=>?_⟩
 have s0:=Same.new hp (o:=.lst [])
 have e0:upd H p (.lst []) p=some (.lst []):=aF
 generalize upd H p (.lst [])=H0 at s0 e0
 refine⟨_,rfl,src,_,rfl,s0 _ _ xZ,λnw hnw=>?_⟩
 have s1:=Same.new hnw (o:=.dK (aK f l))
 have e1:upd H0 nw (.dK (aK f l)) nw=some (.dK (aK f l)):=aF
 have CV:H nw=none:=by
  cases e:H nw with
  |none=>rfl
  |some o=>rw[s0 _ _ e] at hnw;cases hnw
 have hpn:p≠nw:=λz=>by rw[<-z,e0] at hnw;cases hnw
 have hpb:p≠b:=λz=>by rw[z,hbb] at hp;cases hp
 have hnb:nw≠b:=λz=>by rw[z,hbb] at CV;cases CV
 have e0':=s1 _ _ e0
 generalize upd H0 nw (.dK (aK f l))=H1 at s1 e1 e0'
 have s01:=s0.trans s1
 refine⟨_,rfl,_,rfl,by omega,by omega,?_⟩
 refine Vw (lo:=0) (n:=Int.toNat (m:Int)) (λi σ H'=>SB b H H'/\(∃x y z,σ=[some (.ref a),some (.ref b),some (.ref t),some (.ref src),some (.int m),some (.ref p),some (.ref nw),x,y,z])/\∃ys ops n',H' b=some (.lst [.int n'])/\n<=n'/\n'<=n+2 * i/\H' p=some (.lst ys)/\H' nw=some (.dK (aK (cM f ops) l))/\bV H' ys ops/\ig fs ops/\ops.length=i)
  ⟨SB.of s01,⟨_,_,_,rfl⟩,[],[],n,s01 _ _ hbb,by omega,by omega,e0',e1,bV.nil _,(λo ho=>nomatch ho),rfl⟩ ?_ ?_
 . rintro i σ H' hi ⟨sb,⟨x,y,z,rfl⟩,ys,ops,n',hb',z1,z2,hpp,hnn,hP,hO,hol⟩
   have tu:Tu H H':=sb.tu hbb
   refine⟨_,rfl,_,rfl,_,rfl,a,b,ns,n',rfl,g.go sb hb' z1,by omega,λr H2 r0 r1 s2 h2=>?_⟩
   have jZ:aG K H2 t xs\/aD K H2 t xs:=by
    rcases ht with ht|⟨ht,htb⟩
    . exact .inr (aD.of (s2.tu hb' _ _ (tu _ _ ht)))
    . exact .inl (aG.of (s2 _ _ htb (sb _ _ htb ht)))
   have hr2:0<=r % (fs.names.length:Int):=Q0w _ (by omega)
   have hr3:r % (fs.names.length:Int)<(fs.names.length:Int):=Q0x _ (by omega)
   obtain⟨j,hj⟩:∃j:Nat,r % (fs.names.length:Int)=(j:Int):=⟨(r % (fs.names.length:Int)).toNat,by omega⟩
   have hjl:j<xs.length:=by omega
   obtain⟨c,u,nm,k,ev,hat,hc,hk⟩:=FA.get fs hfa (Q05 hjl)
   have hc2:=s2.tu hb' _ _ (tu _ _ hc)
   refine⟨_,rfl,t,_,rfl,jZ,_,_,rfl,rfl,by show(0:Int)<(xs.length:Nat);omega,ajO (v:=.ref c) jZ ?_ ?_⟩
   . rw[xJ,hj]
     exact jO (j:=j) (by rw[Q05 hjl,ev])
   refine⟨c,_,rfl,aD.of hc2,rfl,_,_,rfl,_,_,rfl,rfl,?_⟩
   refine⟨_,rfl,_,rfl,_,rfl,a,b,ns,n'+1,u,k,0,rfl,g.go (sb.trans s2) h2 (by omega),by omega,KA.mono ((sb.trans s2).tu hbb) k hk,Fs.uh hpl hat,λv H3 s3 h3 hv=>?_⟩
   have hgk:=Fs.qU hnd hat
   have hml:nm∈l:=hin _ (Kc hat)
   have CW:=s3 _ _ hnb (s2 _ _ hnb hnn)
   have yE:=s3 _ _ hpb (s2 _ _ hpb hpp)
   have tu3:Tu H' H3:=(s2.tu hb').trans (s3.tu h2)
   refine⟨_,rfl,_,rfl,nw,_,rfl,lY.k (k:=Sum.inr nm) CW (by rw[gD];exact cW (by omega)),?_⟩
   rw[Bq v hml]
   have e4:upd H3 nw (.dK (aK (dz (cM f ops) nm v) l)) nw=some (.dK (aK (dz (cM f ops) nm v) l)):=aF
   have k4:∀c' o,c'≠nw->H3 c'=some o->upd H3 nw (.dK (aK (dz (cM f ops) nm v) l)) c'=some o:=λc' o hc' e=>by rw[au hc'];exact e
   generalize upd H3 nw (.dK (aK (dz (cM f ops) nm v) l))=H4 at e4 k4
   have tu4:Tu H3 H4:=λc' xs' e=>k4 _ _ (kO e CW (by intro z;cases z)) e
   have yF:=k4 _ _ hpn yE
   have g4:∀{H5:Hp},Same H4 H5->bW H5 nw (.str nm) (some v):=λ{H5} s5=>by
    have:=bW.k (k:=Sum.inr nm) (s5 _ _ e4)
    rw[gQ,if_pos hml] at this
    have e:dz (cM f ops) nm v nm=v:=by unfold dz;rw[if_pos rfl]
    rw[e] at this
    exact this
   refine⟨_,rfl,.inl ⟨rfl,_,aG.of yF⟩,_,rfl,gH,λz hz=>?_⟩
   have s5:=Same.new hz (o:=.tup [.str nm])
   refine⟨_,rfl,_,rfl,nw,_,rfl,g4 s5,yZ,λc6 hc6=>?_⟩
   have s6:=Same.new hc6 (o:=.tup [.str "set",.ref z,v])
   have u9:=s5.trans s6
   have Kl:=u9 _ _ yF
   have i6:Itm (upd (upd H4 z (.tup [.str nm])) c6 (.tup [.str "set",.ref z,v])) (.ref c6) (nm,v):=⟨c6,z,rfl,aF,s6 _ _ aF⟩
   generalize upd (upd H4 z (.tup [.str nm])) c6 (.tup [.str "set",.ref z,v])=H6 at u9 Kl i6
   have hyl:ys.length<=6:=by rw[hP.1,hol];omega
   refine⟨p,_,_,rfl,rfl,Kl,cW (by omega),?_⟩
   have tu7:Tu H6 (upd H6 p (.lst (ys++[.ref c6]))):=λc' xs' e=>by rw[au (kO e Kl (by intro z;cases z))];exact e
   have keep:∀c' o,c'≠b->c'≠nw->c'≠p->H' c'=some o->upd H6 p (.lst (ys++[.ref c6])) c'=some o:=λc' o n1 n2 n3 e=>by
    rw[au n3]
    exact u9 _ _ (k4 _ _ n2 (s3 _ _ n1 (s2 _ _ n1 e)))
   refine⟨λc' o n1 e=>keep c' o n1 (λz=>by rw[z,CV] at e;cases e) (λz=>by rw[z,hp] at e;cases e) (sb c' o n1 e),⟨_,_,_,rfl⟩,ys++[.ref c6],ops++[(nm,v)],n'+1+1,?_,by omega,by omega,aF,?_,?_,hO.snoc hgk hv,by rw[Q09,hol];rfl⟩
   . rw[au (Ne.symm hpb)]
     exact u9 _ _ (k4 _ _ (Ne.symm hnb) h3)
   . rw[au (Ne.symm hpn),ajR]
     exact u9 _ _ e4
   . exact(hP.mono (tu3.trans (tu4.trans ((Tu.of u9).trans tu7)))).app (bV.one (i6.mono tu7))
 . rintro σ H' ⟨sb,⟨x,y,z,rfl⟩,ys,ops,n',hb',z1,z2,hpp,hnn,hP,hO,hol⟩
   refine⟨_,rfl,_,rfl,cX,λr hr'=>?_⟩
   have s5:=Same.new hr' (o:=.tup [.ref p,.ref nw])
   exact q r p nw ys ops n' _ (sb.trans (SB.of s5)) (s5 _ _ hb') z1 (by omega) aF hp CV (s5 _ _ hpp) (s5 _ _ hnn) (hP.mono (Tu.of s5)) hO (by omega)
noncomputable def Km:Sp:=λvs H Q _=>∃nl a kvs,∃ss:List Str,∃f:Str->V,vs=[.ref nl,.ref a]/\H nl=some (.lst (ss.map V.str))/\ss.Nodup/\ss.length<=12/\H a=some (.dK kvs)/\(∀x∈ss,dR kvs (Sum.inr x)=some (f x))/\∀p H',Same H H'->H p=none->H' p=some (.dK (aK f ss))->Q (.ref p) H'
theorem aaY:bC ["_law_names_here","_law_value_here"] ["_law_names_here","_law_value_here"] (aL (top 77)):=by refine⟨rfl,rfl,rfl,?_,rfl,?_,?_⟩ <;> decide +kernel
theorem ajW (T:Tb mg)(oR:Dn K mg "_law_taken" uc (top 77) yG yH):aq P w K mg base aC (1) yG yH uc (Km):=by
 refine oR.F.ok aaY (λvs H Q E h=>?_) (λcdv A outer s H vs Q E hr h=>?_)
 . obtain⟨nl,a,kvs,ss,f,rfl,_⟩:=h
   rfl
 obtain⟨nl,a,kvs,ss,f,rfl,hnl,hnd,h12,ha,hv,q⟩:=h
 have nd:=aaY.nd
 have hu:=eZ hr
 refine⟨_,(aB (aN (iZ (X3 rfl) (by rfl) T.g_ boot_dict (aj (jc (g:=(cL 0)) (tt:=gn) (te:=(pB (cj (bB 0) (cj (qM (bB 2) (bB 0)) gj)))) (own:=["_law_name"]) rfl (dw.of (N:=["_law_names_here","_law_value_here"]) (sc:=aL (top 77)) rfl rfl rfl (by decide +kernel)) (o_ (pv 0)) (λ_ _ _ _ _=>(bH (i:=0) (show(["_law_name","_law_names_here","_law_value_here"]:List Str).Nodup by decide +kernel) rfl (Or.inl rfl) (.inr rfl))) (λ_ _ _ _ _=>i_) (λ_ _ _ _ _=>(cQ (aj (pv 0) (aj (gk hu (pv 2) (pv 0) (λ_ _=>rfl)) ak))))) ak)))),?_⟩
 refine⟨_,rfl,nl,rfl,⟨_,aG.of hnl⟩,λi m ys H'=>m=ss.length - i/\i<=ss.length/\Same H H'/\∃ts:List Addr,ys=ts.map V.ref/\ts.length=i/\∀(j:Nat) c x,ts[j]? =some c->ss[j]? =some x->H' c=some (.tup [.str x,f x]),
  ⟨_,rfl,Q0b _,Same.refl _,[],rfl,rfl,λj c x h=>by simp at h⟩,?_⟩
 rintro i m ys H' ⟨rfl,hi0,s1,ts,rfl,htl,hat⟩
 by_cases hi:i<ss.length
 . have hsi:(ss.map V.str)[i]? =some (.str ss[i]):=by rw[Q0g,Q05 hi];rfl
   refine .inr ⟨⟨_,.str ss[i],aG.of (s1 _ _ hnl),hsi⟩,by rw[Q06];exact cW (by omega),λx gM y=>?_⟩
   obtain⟨rfl,hy⟩:=y
   have hy:=hy _ (aG.of (s1 _ _ hnl))
   rw[hsi] at hy
   cases hy
   have ga:bW gM a (.str ss[i]) (some (f ss[i])):=by
    have:=bW.k (k:=Sum.inr ss[i]) (s1 _ _ ha)
    rw[hv _ (Q0r hi)] at this
    exact this
   refine⟨rfl,L2.yes (bR ?_)⟩
   refine⟨_,rfl,_,rfl,_,rfl,a,_,rfl,ga,cX,λt2 jZ=>?_⟩
   have s3:=Same.new jZ (o:=.tup [.str ss[i],f ss[i]])
   refine⟨ss.length - (i+1),by omega,rfl,hi,s1.trans s3,ts++[t2],by rw[Q0k];rfl,by rw[Q09,htl];rfl,λj c x hj hx=>?_⟩
   by_cases hji:j<ts.length
   . rw[Q0t hji] at hj
     exact s3 _ _ (hat j c x hj hx)
   . have hjl:=(List.getElem?_eq_some_iff.mp hj).1
     rw[Q09] at hjl
     have ej:j=i:=by simp at hjl;omega
     subst ej
     rw[Q0q (by omega),htl,Q1x] at hj
     have hj:some t2=some c:=hj
     cases hj
     rw[Q05 hi] at hx
     cases hx
     exact aF
 . refine .inl ⟨⟨_,aG.of (s1 _ _ hnl),by rw[Q06];omega⟩,λp' hp2=>?_⟩
   have s3:=Same.new hp2 (o:=.lst (ts.map V.ref))
   refine⟨p',ts,aK f ss,rfl,aG.of aF,by rw[gD];omega,λj c p hj hpj=>?_,YW hnd,by rw[gD];omega,λl hl=>?_⟩
   . have hjl:j<ss.length:=by have:=(List.getElem?_eq_some_iff.mp hj).1;omega
     rw[HW (Q05 hjl)] at hpj
     cases hpj
     exact s3 _ _ (hat j c _ hj (Q05 hjl))
   . have s4:=Same.new hl (o:=.dK (aK f ss))
     refine q l _ (s1.trans (s3.trans s4)) ?_ aF
     cases e:H l with
     |none=>rfl
     |some o=>rw[s3 _ _ (s1 _ _ e)] at hl;cases hl
noncomputable def aaZ (H:Hp) (cs:List V) (hks:List Hk):Prop:=cs.length=hks.length/\∀(i:Nat) v h,cs[i]? =some v->hks[i]? =some h->∃c n,v=.ref c/\H c=some (.tup [.str h.1,.ref n])/\H n=some (.lst (h.2.2.map V.str))/\h.2.2.Nodup/\h.2.2.length<=12
theorem yI {l ss:List Str}(nd:l.Nodup)(sI:ss.Nodup)(h:∀x∈ss,x∈l):(l.filter λx=>decide (x∈ss)).Perm ss:=by
 refine(List.perm_ext_iff_of_nodup (nd.filter _) sI).mpr λx=>?_
 rw[List.mem_filter]
 exact⟨λz=>of_decide_eq_true z.2,λz=>⟨h x z,decide_eq_true z⟩⟩
theorem FK.mY {fs:Fs}{f g:Str->V}(h:FK fs f)(h2:FK fs g){x:Str}(hx:x∈fs.names):mY (f x) (g x)=true:=by
 obtain⟨k,hk⟩:=Fs.qY hx
 exact(h x k hk).mY (h2 x k hk)
noncomputable def jH (av:Addr->Prop) (H:Hp) (cs:List V) (hks:List Hk) (F:List Str->List Op):Prop:=cs.length=hks.length/\∀(i:Nat) v h,cs[i]? =some v->hks[i]? =some h->∃c p ys,v=.ref c/\H c=some (.tup [.str h.1,.ref p])/\H p=some (.lst ys)/\bV H ys (F h.2.2)/\av p
theorem jH.at {av:Addr->Prop}{H:Hp}{cs:List V}{hks:List Hk}{F:List Str->List Op}(h:jH av H cs hks F):gR H cs hks F:=⟨h.1,λi v k e1 e2=>by
 obtain⟨c,p,ys,a1,a2,a3,a4,_⟩:=h.2 i v k e1 e2
 exact⟨c,p,ys,a1,a2,a3,a4⟩⟩
theorem jH.imp {av av':Addr->Prop}{H:Hp}{cs:List V}{hks:List Hk}{F:List Str->List Op}(k:∀c,av c->av' c)(h:jH av H cs hks F):jH av' H cs hks F:=⟨h.1,λi v hk e1 e2=>by
 obtain⟨c,p,ys,e,h1,h2,h3,h4⟩:=h.2 i v hk e1 e2
 exact⟨c,p,ys,e,h1,h2,h3,k _ h4⟩⟩
theorem jH.keep {av:Addr->Prop}{H H':Hp}{cs:List V}{hks:List Hk}{F:List Str->List Op}(k:∀c o,((∃xs,o=.tup xs)\/av c)->H c=some o->H' c=some o)(h:jH av H cs hks F):jH av H' cs hks F:=by
 refine⟨h.1,λi v hk e1 e2=>?_⟩
 obtain⟨c,p,ys,e,h1,h2,h3,h4⟩:=h.2 i v hk e1 e2
 exact⟨c,p,ys,e,k _ _ (.inl ⟨_,rfl⟩) h1,k _ _ (.inr h4) h2,h3.mono λc xs e=>k _ _ (.inl ⟨_,rfl⟩) e,h4⟩
theorem jH.snoc {av:Addr->Prop}{H:Hp}{cs:List V}{hks:List Hk}{F:List Str->List Op}{v:V}{hk:Hk}(h:jH av H cs hks F)(hv:∃c p ys,v=.ref c/\H c=some (.tup [.str hk.1,.ref p])/\H p=some (.lst ys)/\bV H ys (F hk.2.2)/\av p):jH av H (cs++[v]) (hks++[hk]) F:=by
 refine⟨by rw[Q09,Q09,h.1];rfl,λi v' hk' e1 e2=>?_⟩
 by_cases hi:i<cs.length
 . rw[Q0t hi] at e1
   rw[Q0t (by rw[<-h.1];exact hi)] at e2
   exact h.2 i v' hk' e1 e2
 . rw[Q0q (by omega)] at e1
   rw[Q0q (by rw[<-h.1];omega),<-h.1] at e2
   cases hj:i - cs.length with
   |zero=>
    rw[hj] at e1 e2
    cases e1
    cases e2
    exact hv
   |succ j=>rw[hj] at e1;cases e1
theorem ajX {H H':Hp}{p:Addr}(s:Same H H')(h:H' p=none):H p=none:=by
 cases e:H p with
 |none=>rfl
 |some o=>rw[s _ _ e] at h;cases h
noncomputable def aa1:Sp:=λvs H Q _=>∃hl a b cs hks fs,∃f g:Str->V,vs=[.ref hl,.ref a,.ref b]/\H hl=some (.lst cs)/\aaZ H cs hks/\hks.length<=12/\H a=some (.dK (aK f fs.names))/\H b=some (.dK (aK g fs.names))/\FK fs f/\FK fs g/\fs.names.Nodup/\fs.names.Pairwise sle/\(∀h∈hks,∀x∈h.2.2,x∈fs.names)/\
 ∀p ds H',Same H H'->H p=none->H' p=some (.lst ds)->jH (λq=>H q=none) H' ds hks (lG fs f g)->Q (.ref p) H'
theorem aa2:bC ["_law_hooks","_law_old","_law_new","_law_pairs_here","_law_name","_law_names_here","_law_paper"] ["_law_hooks","_law_old","_law_new"] (aL (top 78)):=by refine⟨rfl,rfl,rfl,?_,rfl,?_,?_⟩ <;> decide +kernel
theorem ajY (T:Tb mg)(qg:Dn K mg "_law_pairs" Bk (top 78) Ko Kq):aq P w K mg base aC (1) Ko Kq Bk (aa1):=by
 refine qg.F.ok aa2 (λvs H Q E h=>?_) (λcdv A outer s H vs Q E hr h=>?_)
 . obtain⟨hl,a,b,cs,hks,fs,f,g,rfl,_⟩:=h
   rfl
 obtain⟨hl,a,b,cs,hks,fs,f,g,rfl,lM,hL,h12,ha,hb,hf,hg,hnd,hso,hin,q⟩:=h
 have nd:=aa2.nd
 have hu:=eZ hr
 refine⟨_,(ao (bf (i:=3) nd rfl (Or.inl rfl) (dG ak))
  (ao (iW PassesOwn.never rfl (o_ (pv 0)) (gh rfl (cF (bH (i:=4) nd rfl (Or.inl rfl)) (cF (bH (i:=5) nd rfl (Or.inl rfl)) f9))) (ao (zV (i:=6) nd rfl (Or.inl rfl) (g:=(cL 0)) (tt:=(lX (bJ _ (qM (bB 2) (bB 0)) (qM (bB 3) (bB 0))))) (te:=(pB (cj (tC (.str "set")) (cj (pB (cj (bB 0) gj)) (cj (qM (bB 3) (bB 0)) gj))))) (own:=["_law_one_here"]) rfl (dw.of (N:=["_law_hooks","_law_old","_law_new","_law_pairs_here","_law_name","_law_names_here","_law_paper"]) (sc:=aL (top 78)) rfl rfl rfl (by decide +kernel)) (o_ (aY WQ (by rfl) T.Hj boot_sorted (aj (pv 5) ak))) (λ_ _ _ _ _=>(bH (i:=0) (show(["_law_one_here","_law_hooks","_law_old","_law_new","_law_pairs_here","_law_name","_law_names_here","_law_paper"]:List Str).Nodup by decide +kernel) rfl (Or.inl rfl) (.inr rfl))) (λ_ _ _ _ _=>(zT (aW qI (gk hu (pv 2) (pv 0) (λ_ _=>rfl)) (gk hu (pv 3) (pv 0) (λ_ _=>rfl)) (aQ _)))) (λ_ _ _ _ _=>(cQ (aj bh (aj (cQ (aj (pv 0) ak)) (aj (gk hu (pv 3) (pv 0) (λ_ _=>rfl)) ak))))))
  (aB (iB (pF PySem.F.plainAttrs_list PySem.F.slot_list_append PySem.F.type_list_append zP (pv 3) (aj (cQ (aj (pv 4) (aj (pv 6) ak))) ak))))))
  (aB (aN (pv 3))))),?_⟩
 refine⟨fM,λp hp=>?_⟩
 have s0:=Same.new hp (o:=.lst [])
 refine⟨_,rfl,hl,rfl,⟨_,aG.of (s0 _ _ lM)⟩,Ey (xs:=cs) (λi σ H'=>Same H H'/\(∃x y z,σ=[some (.ref hl),some (.ref a),some (.ref b),some (.ref p),x,y,z])/\∃ds,H' p=some (.lst ds)/\jH (λq=>q≠p/\H q=none) H' ds (hks.take i) (lG fs f g)) ⟨s0,⟨_,_,_,rfl⟩,[],aF,rfl,λi v h e=>by cases e⟩ ?_ ?_ ?_⟩
 . rintro i σ H' _ ⟨s1,_⟩
   exact aG.of (s1 _ _ lM)
 . rintro i v σ H' hv ⟨s1,⟨x,y,z,rfl⟩,ds,hpp,hP⟩
   have hi:i<hks.length:=by rw[<-hL.1];exact(List.getElem?_eq_some_iff.mp hv).1
   have hki:hks[i]? =some hks[i]:=Q05 hi
   obtain⟨c,n,rfl,hc,hn,hsn,lN⟩:=hL.2 i v _ hv hki
   have hmem:hks[i]∈hks:=Q0r hi
   have hss:=hin _ hmem
   have hperm:=yI hnd hsn hss
   have ajZ:(fs.names.filter λx=>decide (x∈hks[i].2.2)).Pairwise sle:=hso.filter _
   refine⟨c,_,rfl,aD.of (s1 _ _ hc),rfl,_,_,rfl,_,_,rfl,rfl,?_⟩
   refine⟨_,rfl,n,_,rfl,aG.of (s1 _ _ hn),by omega,λps ss' hps hperm' Hx=>?_⟩
   have ess:ss'=fs.names.filter λx=>decide (x∈hks[i].2.2):=ajN hsn hperm' hperm (GQ Hx) ajZ
   have aj0:∀x∈ss',x∈fs.names:=λx hx=>hss x (hperm'.mem_iff.mp hx)
   have rG:ss'.length<=12:=by rw[hperm'.length_eq];exact lN
   have s2:=Same.new hps (o:=.lst (ss'.map V.str))
   have e2:upd H' ps (.lst (ss'.map V.str)) ps=some (.lst (ss'.map V.str)):=aF
   generalize upd H' ps (.lst (ss'.map V.str))=H2 at s2 e2
   have s12:=s1.trans s2
   refine⟨ps,rfl,⟨_,aG.of e2⟩,λj k ys H3=>k=ss'.length - j/\j<=ss'.length/\Same H2 H3/\bV H3 ys (fH f g (ss'.take j)),⟨_,rfl,Q0b _,Same.refl _,bV.nil _⟩,?_⟩
   rintro j k ys H3 ⟨rfl,hj0,s3,yJ⟩
   have hlen:ys.length<=j:=by rw[yJ.1];exact Q0e (Jj _ _ _) (by rw[Q0i];omega)
   have oU:=s12.trans s3
   by_cases hj:j<ss'.length
   . have hsi:(ss'.map V.str)[j]? =some (.str ss'[j]):=by rw[Q0g,Q05 hj];rfl
     have hm:=aj0 _ (Q0r hj)
     have stp:ss'.take (j+1)=ss'.take j++[ss'[j]]:=by rw[Q0p,Q05 hj];rfl
     refine .inr ⟨⟨_,.str ss'[j],aG.of (s3 _ _ e2),hsi⟩,cW (by omega),λx gM y=>?_⟩
     obtain⟨rfl,hy⟩:=y
     have hy:=hy _ (aG.of (s3 _ _ e2))
     rw[hsi] at hy
     cases hy
     have gt:∀{H2:Hp},Same H H2->bW H2 a (.str ss'[j]) (some (f ss'[j]))/\bW H2 b (.str ss'[j]) (some (g ss'[j])):=λ{H2} s2=>by
      have h1:=bW.k (k:=Sum.inr ss'[j]) (s2 _ _ ha)
      have h2:=bW.k (k:=Sum.inr ss'[j]) (s2 _ _ hb)
      rw[gQ,if_pos hm] at h1 h2
      exact⟨h1,h2⟩
     refine⟨rfl,?_⟩
     refine⟨_,rfl,_,rfl,a,_,rfl,(gt oU).1,_,rfl,_,rfl,b,_,rfl,(gt oU).2,hf.mY hg hm,_,rfl,?_⟩
     refine eN (λc=>?_) (λc=>?_)
     . have e:¬f ss'[j]=g ss'[j]:=λz=>by rw[decide_eq_true z] at c;exact absurd c (by decide)
       refine⟨_,rfl,gH,λz hz=>?_⟩
       have s4:=Same.new hz (o:=.tup [.str ss'[j]])
       refine⟨_,rfl,_,rfl,b,_,rfl,(gt (oU.trans s4)).2,yZ,λc2 hc2=>?_⟩
       have s5:=Same.new hc2 (o:=.tup [.str "set",.ref z,g ss'[j]])
       have jJ:=s4.trans s5
       refine⟨ss'.length - (j+1),by omega,rfl,hj,s3.trans jJ,?_⟩
       rw[stp,Jh,Ji,if_neg e]
       exact(yJ.mono (Tu.of jJ)).app (bV.one ⟨c2,z,rfl,aF,s5 _ _ aF⟩)
     . have e:f ss'[j]=g ss'[j]:=Decidable.byContradiction λz=>c (by rw[decide_eq_false z];rfl)
       refine⟨ss'.length - (j+1),by omega,rfl,hj,s3,?_⟩
       rw[stp,Jh,Ji,if_pos e,Q0z]
       exact yJ
   . refine .inl ⟨⟨_,aG.of (s3 _ _ e2),by rw[Q06];omega⟩,λq2 hq2=>?_⟩
     have s4:=Same.new hq2 (o:=.lst ys)
     have e4:upd H3 q2 (.lst ys) q2=some (.lst ys):=aF
     generalize upd H3 q2 (.lst ys)=H4 at s4 e4
     rw[Q1b (by omega),ess] at yJ
     have s34:=s2.trans (s3.trans s4)
     have yF:=s34 _ _ hpp
     refine⟨_,rfl,.inl ⟨rfl,_,aG.of yF⟩,_,rfl,_,rfl,cX,λtq dD=>?_⟩
     have s5:=Same.new dD (o:=.tup [.str hks[i].1,.ref q2])
     have e5:upd H4 tq (.tup [.str hks[i].1,.ref q2]) tq=some (.tup [.str hks[i].1,.ref q2]):=aF
     generalize upd H4 tq (.tup [.str hks[i].1,.ref q2])=H5 at s5 e5
     have aa4:=s5 _ _ yF
     have hdl:ds.length<=12:=by rw[hP.1,Q0i];omega
     refine⟨p,_,_,rfl,rfl,aa4,cW (by omega),?_⟩
     have sA:=s34.trans s5
     have nq:q2≠p:=λz=>by rw[z,(s2.trans s3) _ _ hpp] at hq2;cases hq2
     have kU:∀c' o',((∃xs,o'=.tup xs)\/c'≠p)->H5 c'=some o'->upd H5 p (.lst (ds++[.ref tq])) c'=some o':=λc' o' ho e=>by
      rw[au]
      . exact e
      . rcases ho with⟨xs',rfl⟩|h
        . exact kO e aa4 (by intro z;cases z)
        . exact h
     refine⟨λc' o' e=>kU c' o' (.inr (aO e hp)) (sA _ _ (s1 _ _ e)),⟨_,_,_,rfl⟩,_,aF,?_⟩
     rw[Q0p,hki]
     refine(hP.keep λc' o' ho e=>kU c' o' (ho.imp id And.left) (sA _ _ e)).snoc ⟨tq,q2,ys,rfl,kU _ _ (.inl ⟨_,rfl⟩) e5,kU _ _ (.inr nq) (s5 _ _ e4),yJ.mono (λc' xs' e=>kU _ _ (.inl ⟨_,rfl⟩) ((s4.trans s5) _ _ e)),nq,ajX oU hq2⟩
 . rintro σ H' ⟨s1,⟨x,y,z,rfl⟩,ds,hpp,hP⟩
   rw[hL.1,Q1a] at hP
   exact⟨_,rfl,q p ds H' s1 hp hpp (hP.imp λc h=>h.2)⟩
theorem dH.sm {k:Kd}{v:V}(h:dH k v):qd v v:=by
 cases k with
 |num=>obtain⟨z,rfl⟩:=h;exact .inl ⟨z,rfl,rfl⟩
 |eO=>obtain⟨z,rfl⟩:=h;exact .inr ⟨z,rfl,rfl⟩
 |_=>exact h.elim
theorem aj1 {H:Hp}{v u:V}{o:Op}(h1:Itm H v o)(h2:Itm H u o)(h:qd o.2 o.2):Sm H 2 v u:=by
 obtain⟨c,t,rfl,hc,ht⟩:=h1
 obtain⟨c',t',rfl,hc',ht'⟩:=h2
 have hp:Sm H 1 (.ref t) (.ref t'):=.inr (.inl ⟨t,t',_,_,rfl,rfl,ht,ht',rfl,(by show 1<=60;decide),λi x y e1 e2=>by
  match i with
  |0=>cases e1;cases e2;exact .inr ⟨_,rfl,rfl⟩
  |i+1=>cases e1⟩)
 refine .inr (.inl ⟨c,c',_,_,rfl,rfl,hc,hc',rfl,(by show 3<=60;decide),λi x y e1 e2=>?_⟩)
 match i with
 |0=>cases e1;cases e2;exact .inl (.inr ⟨_,rfl,rfl⟩)
 |1=>cases e1;cases e2;exact hp
 |2=>cases e1;cases e2;exact .inl h
 |i+3=>cases e1
theorem aj2 {H:Hp}{p q:Addr}{xs ys:List V}{ops:List Op}(hp:H p=some (.lst xs))(hq:H q=some (.lst ys))(h1:bV H xs ops)(h2:bV H ys ops)(h:∀o∈ops,qd o.2 o.2)(hl:ops.length<=60):Sm H 3 (.ref p) (.ref q):=by
 refine .inr (.inr (.inl ⟨p,q,xs,ys,rfl,rfl,hp,hq,by rw[h1.1,h2.1],by rw[h1.1];exact hl,λi x y e1 e2=>?_⟩))
 have hi:i<ops.length:=by rw[<-h1.1];exact(List.getElem?_eq_some_iff.mp e1).1
 have ho:ops[i]? =some ops[i]:=Q05 hi
 exact aj1 (h1.2 i x _ e1 ho) (h2.2 i y _ e2 ho) (h _ (Q0r hi))
theorem aj3 {fs:Fs}{f g:Str->V}(h:FK fs g){l:List Str}(hl:∀x∈l,x∈fs.names):∀o∈fH f g l,qd o.2 o.2:=λo ho=>by
 unfold fH at ho
 obtain⟨x,hx,rfl⟩:=List.mem_map.mp ho
 obtain⟨k,hk⟩:=Fs.qY (hl x (List.mem_filter.mp hx).1)
 exact(h x k hk).sm
theorem CZ {H:Hp}{n:Nat}{c c':Addr}{s:Str}{v u:V}(h1:H c=some (.tup [.str s,v]))(h2:H c'=some (.tup [.str s,u]))(h:Sm H n v u):Sm H (n+1) (.ref c) (.ref c'):=by
 refine .inr (.inl ⟨c,c',_,_,rfl,rfl,h1,h2,rfl,(by show 2<=60;decide),λi x y e1 e2=>?_⟩)
 match i with
 |0=>cases e1;cases e2;exact Sm.zero (.inr ⟨_,rfl,rfl⟩) n
 |1=>cases e1;cases e2;exact h
 |i+2=>cases e1
theorem Kr {H:Hp}{fs:Fs}{f g:Str->V}{hks:List Hk}{tq p tq' p':Addr}{cs ds:List V}(hg:FK fs g)(h12:fs.names.length<=12)(hh:hks.length<=12)(h1:H tq=some (.tup [.str "told",.ref p]))(h2:H p=some (.lst cs))(h3:gR H cs hks (lG fs f g))(h1':H tq'=some (.tup [.str "told",.ref p']))(h2':H p'=some (.lst ds))(h3':gR H ds hks (lG fs f g)):Sm H 6 (.ref tq) (.ref tq'):=by
 refine CZ h1 h1' (.inr (.inr (.inl ⟨p,p',cs,ds,rfl,rfl,h2,h2',by rw[h3.1,h3'.1],by rw[h3.1];omega,λi x y e1 e2=>?_⟩)))
 have hi:i<hks.length:=by rw[<-h3.1];exact(List.getElem?_eq_some_iff.mp e1).1
 have ho:hks[i]? =some hks[i]:=Q05 hi
 obtain⟨c,q,ys,rfl,a1,a2,a3⟩:=h3.2 i x _ e1 ho
 obtain⟨c',q',ys',rfl,b1,b2,b3⟩:=h3'.2 i y _ e2 ho
 have hl:∀x∈fs.names.filter (λx=>decide (x∈hks[i].2.2)),x∈fs.names:=λx hx=>(List.mem_filter.mp hx).1
 have hlen:(lG fs f g hks[i].2.2).length<=60:=Q0e (Jj _ _ _) (Q0e (Q1f _ _) (by omega))
 exact CZ a1 b1 (aj2 a2 b2 a3 b3 (aj3 hg hl) hlen)
theorem aa6:∀{ops:List Op}{f:Str->V}{x:Str},(∀o∈ops,o.1≠x)->cM f ops x=f x
 |[],f,x,_=>rfl
 |o::r,f,x,h=>by
  show cM (dz f o.1 o.2) r x=f x
  rw[aa6 λo' h'=>h o' (Q0j _ h')]
  unfold dz
  rw[if_neg (Ne.symm (h o Q0f))]
theorem aj4 {f:Str->V}{ops:List Op}{ss:List Str}(h:∀o∈ops,o.1∈ss):iJ f (cM f ops) ss=cM f ops:=by
 funext x
 unfold iJ
 by_cases e:x∈ss
 . rw[if_pos e]
 . rw[if_neg e,aa6 λo ho z=>e (by rw[<-z];exact h o ho)]
theorem ig.bU {fs:Fs}{ss:List Str}{ops:List Op}(h:ig (fs.bU ss) ops):ig fs ops/\∀o∈ops,o.1∈ss:=by
 have:∀o∈ops,(∃k,fs.get o.1=some k/\dH k o.2)/\o.1∈ss:=λo ho=>by
  obtain⟨k,e,p⟩:=h o ho
  rw[Fs.uq] at e
  by_cases z:o.1∈ss
  . rw[if_pos z] at e
    exact⟨⟨k,e,p⟩,z⟩
  . rw[if_neg z] at e;cases e
 exact⟨λo ho=>(this o ho).1,λo ho=>(this o ho).2⟩
structure En where
 a:Addr
 b:Addr
 d:Addr
 dd:Addr
 kk:Addr
 t:Addr
 vv:Addr
 ps:Addr
 hl:Addr
 ns:List Int
 xs:List V
 fs:Fs
 hks:List Hk
 cs:List V
 sl:Addr
 sx:List V
noncomputable def sJ (b ps:Addr) (H:Hp) (cs:List V) (hks:List Hk):Prop:=cs.length=hks.length/\∀(i:Nat) v h,cs[i]? =some v->hks[i]? =some h->∃c n,v=.ref c/\H c=some (.tup [.str h.1,.ref n])/\H n=some (.lst (h.2.2.map V.str))/\h.2.2.Nodup/\h.2.2.length<=12/\n≠b/\n≠ps
theorem sJ.at {b ps:Addr}{H:Hp}{cs:List V}{hks:List Hk}(h:sJ b ps H cs hks):aaZ H cs hks:=⟨h.1,λi v k e1 e2=>by
 obtain⟨c,n,a1,a2,a3,a4,a5,_⟩:=h.2 i v k e1 e2
 exact⟨c,n,a1,a2,a3,a4,a5⟩⟩
structure bZ (K:W.Frag) (P2 C CD:Addr) (e:En) (src so:Addr) (f:Str->V) (pl:List V) (n:Int) (H:Hp):Prop where
 g:G0 K H e.a e.b e.ns n
 lam:bw P2 bK bL H
 dk:cN H C CD e.d e.dd e.kk e.t src e.vv e.ps e.xs e.fs f e.hks pl
 u_:e.ps≠e.b
 vw:∀h∈e.hks,∃dx nl,dX H C h.2.1 dx nl h.2.2/\nl≠e.ps/\nl≠e.b
 hl:H e.hl=some (.lst e.cs)
 hlb:e.hl≠e.b
 hlp:e.hl≠e.ps
 lk:sJ e.b e.ps H e.cs e.hks
 so:H so=some (.dK (aK f e.fs.names))
 sl:H e.sl=some (.lst e.sx)
 vd:e.sl≠e.b
 yK:e.sl≠e.ps
noncomputable def iw (P2:Addr) (e:En) (H H':Hp):Prop:=∀c o,c≠P2->c≠e.b->c≠e.d->c≠e.ps->H c=some o->H' c=some o
theorem bZ.keep {K:W.Frag}{P2 C CD:Addr}{e:En}{src so:Addr}{f:Str->V}{pl:List V}{n:Int}{H H':Hp}(h:bZ K P2 C CD e src so f pl n H)(k:iw P2 e H H'){c:Addr}{o:HO}(ec:H c=some o)(h1:∀ps,o≠ .dF ps)(h2:∀a b l,o≠ .ins a b l)(h3:(∃l,o=.lst l)->c≠e.b/\c≠e.ps):H' c=some o:=by
 obtain⟨pt,hP⟩:=h.lam.tab
 refine k c o (λz=>by rw[z,hP] at ec;cases ec;exact h1 _ rfl) (λz=>?_) (λz=>by rw[z,h.dk.ob] at ec;cases ec;exact h2 _ _ _ rfl) (λz=>?_) ec
 . rw[z,h.g.at_] at ec;cases ec;exact(h3 ⟨_,rfl⟩).1 z
 . rw[z,h.dk.past] at ec;cases ec;exact(h3 ⟨_,rfl⟩).2 z
theorem bZ.tu {K:W.Frag}{P2 C CD:Addr}{e:En}{src so:Addr}{f:Str->V}{pl:List V}{n:Int}{H H':Hp}(h:bZ K P2 C CD e src so f pl n H)(k:iw P2 e H H'):Tu H H':=λc xs ec=>h.keep k ec (by intro ps z;cases z) (by intro a b l z;cases z) (λ⟨l,z⟩=>by cases z)
theorem bZ.jy {K:W.Frag}{P2 C CD:Addr}{e:En}{src so:Addr}{f:Str->V}{pl:List V}{n:Int}{H H':Hp}(h:bZ K P2 C CD e src so f pl n H)(k:iw P2 e H H'):jf K H' e.a e.ns:=by
 rcases h.g.jy with⟨o,h1⟩|h1
 . exact .inl ⟨o,h.keep k h1 (by intro ps z;cases z) (by intro a b l z;cases z) (λ⟨l,z⟩=>by cases z)⟩
 . exact .inr h1
theorem bZ.vwk {K:W.Frag}{P2 C CD:Addr}{e:En}{src so:Addr}{f:Str->V}{pl:List V}{n:Int}{H H':Hp}(h:bZ K P2 C CD e src so f pl n H)(k:iw P2 e H H'):∀h∈e.hks,∃dx nl,dX H' C h.2.1 dx nl h.2.2/\nl≠e.ps/\nl≠e.b:=λx hx=>by
 obtain⟨dx,nl,hV,h1,h2⟩:=h.vw x hx
 obtain⟨pt,hP⟩:=h.lam.tab
 refine⟨dx,nl,⟨k _ _ (λz=>?_) (λz=>?_) (λz=>?_) (λz=>?_) hV.ob,h.keep k hV.nl (by intro ps z;cases z) (by intro a b l z;cases z) (λ_=>⟨h2,h1⟩),hV.nd,hV.bM⟩,h1,h2⟩
 . have:=hV.ob;rw[z,hP] at this;cases this
 . have:=hV.ob;rw[z,h.g.at_] at this;cases this
 . have:=hV.ob;rw[z,h.dk.ob] at this;cases this
 . have:=hV.ob;rw[z,h.dk.past] at this;cases this
theorem bZ.lkk {K:W.Frag}{P2 C CD:Addr}{e:En}{src so:Addr}{f:Str->V}{pl:List V}{n:Int}{H H':Hp}(h:bZ K P2 C CD e src so f pl n H)(k:iw P2 e H H'):sJ e.b e.ps H' e.cs e.hks:=by
 refine⟨h.lk.1,λi v x e1 e2=>?_⟩
 obtain⟨c,m,a1,a2,a3,a4,a5,a6,a7⟩:=h.lk.2 i v x e1 e2
 exact⟨c,m,a1,h.tu k _ _ a2,h.keep k a3 (by intro ps z;cases z) (by intro a b l z;cases z) (λ_=>⟨a6,a7⟩),a4,a5,a6,a7⟩
theorem bZ.go {K:W.Frag}{P2 C CD:Addr}{e:En}{src so src' so':Addr}{f f':Str->V}{pl gU:List V}{n n':Int}{H H':Hp}(h:bZ K P2 C CD e src so f pl n H)(k:iw P2 e H H')(hb:H' e.b=some (.lst [.int n']))(hn:n<=n')(hT:bw P2 bK bL H')(hD:cN H' C CD e.d e.dd e.kk e.t src' e.vv e.ps e.xs e.fs f' e.hks gU)(hs:H' so'=some (.dK (aK f' e.fs.names))):bZ K P2 C CD e src' so' f' gU n' H':=
 ⟨⟨h.jy k,h.g.len,hb,Int.le_trans h.g.pos hn⟩,hT,hD,h.u_,h.vwk k,h.keep k h.hl (by intro ps z;cases z) (by intro a b l z;cases z) (λ_=>⟨h.hlb,h.hlp⟩),h.hlb,h.hlp,h.lkk k,hs,h.keep k h.sl (by intro ps z;cases z) (by intro a b l z;cases z) (λ_=>⟨h.vd,h.yK⟩),h.vd,h.yK⟩
theorem bZ.dkk {K:W.Frag}{P2 C CD:Addr}{e:En}{src so:Addr}{f:Str->V}{pl:List V}{n:Int}{H H':Hp}(h:bZ K P2 C CD e src so f pl n H)(k:iw P2 e H H')(h1:H' e.d=H e.d)(h2:H' e.ps=H e.ps):cN H' C CD e.d e.dd e.kk e.t src e.vv e.ps e.xs e.fs f e.hks pl:=
 ⟨by rw[h1];exact h.dk.ob,h.dk.jE,λx hx=>by obtain⟨dx,nl,hV,a1,_⟩:=h.vwk k x hx;exact⟨dx,nl,hV,a1⟩,h.dk.bM,h.dk.oH,h.dk.kd.mono (h.tu k),h.dk.cu,h.dk.inn,h.keep k h.dk.sr (by intro ps z;cases z) (by intro a b l z;cases z) (λ⟨l,z⟩=>by cases z),h.dk.fk,h.keep k h.dk.vs (by intro ps z;cases z) (by intro a b l z;cases z) (λ⟨l,z⟩=>by cases z),by rw[h2];exact h.dk.past⟩
theorem bZ.C_ {K:W.Frag}{P2 C CD:Addr}{e:En}{src so:Addr}{f:Str->V}{pl:List V}{n:Int}{H H':Hp}(h:bZ K P2 C CD e src so f pl n H)(k:iw P2 e H H'):H' so=some (.dK (aK f e.fs.names)):=h.keep k h.so (by intro ps z;cases z) (by intro a b l z;cases z) (λ⟨l,z⟩=>by cases z)
theorem bZ.db {K:W.Frag}{P2 C CD:Addr}{e:En}{src so:Addr}{f:Str->V}{pl:List V}{n:Int}{H:Hp}(h:bZ K P2 C CD e src so f pl n H):e.d≠e.b:=λz=>by have:=h.dk.ob;rw[z,h.g.at_] at this;cases this
theorem bZ.sb {K:W.Frag}{P2 C CD:Addr}{e:En}{src so:Addr}{f:Str->V}{pl:List V}{n n':Int}{H H':Hp}(h:bZ K P2 C CD e src so f pl n H)(s:SB e.b H H')(hb:H' e.b=some (.lst [.int n']))(hn:n<=n'):bZ K P2 C CD e src so f pl n' H':=by
 have k:iw P2 e H H':=λc o _ n2 _ _ ec=>s c o n2 ec
 exact h.go k hb hn (h.lam.sb h.g.at_ s) (h.dkk k (by rw[h.dk.ob];exact s _ _ h.db h.dk.ob) (by rw[h.dk.past];exact s _ _ h.u_ h.dk.past)) (h.C_ k)
theorem bZ.same {K:W.Frag}{P2 C CD:Addr}{e:En}{src so:Addr}{f:Str->V}{pl:List V}{n:Int}{H H':Hp}(h:bZ K P2 C CD e src so f pl n H)(s:Same H H'):bZ K P2 C CD e src so f pl n H':=h.sb (SB.of s) (s _ _ h.g.at_) (Q14 _)
theorem bZ.kp {K:W.Frag}{P2 C CD:Addr}{e:En}{src so:Addr}{f:Str->V}{pl:List V}{n:Int}{H H':Hp}(h:bZ K P2 C CD e src so f pl n H)(s:d9 P2 H H')(hT:bw P2 bK bL H'):bZ K P2 C CD e src so f pl n H':=by
 have k:iw P2 e H H':=λc o n1 _ _ _ ec=>s c o n1 ec
 exact h.go k (s.keep h.lam h.g.at_ (by intro ps z;cases z)) (Q14 _) hT (h.dkk k (by rw[h.dk.ob];exact s.keep h.lam h.dk.ob (by intro ps z;cases z)) (by rw[h.dk.past];exact s.keep h.lam h.dk.past (by intro ps z;cases z))) (h.C_ k)
theorem bZ.Ks {K:W.Frag}{P2 C CD:Addr}{e:En}{src so src' so':Addr}{f f':Str->V}{pl gU:List V}{n:Int}{H H':Hp}(h:bZ K P2 C CD e src so f pl n H)(s:KP P2 e.d e.ps H H')(hT:bw P2 bK bL H')(hD:cN H' C CD e.d e.dd e.kk e.t src' e.vv e.ps e.xs e.fs f' e.hks gU)(hs:H so'=some (.dK (aK f' e.fs.names))):bZ K P2 C CD e src' so' f' gU n H':=by
 obtain⟨pt,hP⟩:=h.lam.tab
 have hb:H' e.b=some (.lst [.int n]):=s _ _ (λz=>by have:=h.g.at_;rw[z,hP] at this;cases this) (Ne.symm h.db) (Ne.symm h.u_) h.g.at_
 have k:iw P2 e H H':=λc o n1 _ n3 n4 ec=>s c o n1 n3 n4 ec
 exact h.go k hb (Q14 _) hT hD (h.keep k hs (by intro ps z;cases z) (by intro a b l z;cases z) (λ⟨l,z⟩=>by cases z))
theorem iw.kp {P2:Addr}{e:En}{H H':Hp}(k:KP P2 e.d e.ps H H'):iw P2 e H H':=λc o n1 _ n3 n4 ec=>k c o n1 n3 n4 ec
theorem sJ.get {b ps:Addr}{H:Hp}{cs:List V}{hks:List Hk}(h:sJ b ps H cs hks){i:Nat}(hi:i<hks.length):∃c n,cs[i]? =some (.ref c)/\H c=some (.tup [.str hks[i].1,.ref n])/\H n=some (.lst (hks[i].2.2.map V.str))/\hks[i].2.2.Nodup/\hks[i].2.2.length<=12/\n≠b/\n≠ps:=by
 have hc:i<cs.length:=by rw[h.1];exact hi
 obtain⟨c,n,a1,a2⟩:=h.2 i _ _ (Q05 hc) (Q05 hi)
 exact⟨c,n,by rw[Q05 hc,a1],a2⟩
theorem bV.take {H:Hp}{xs:List V}{ops:List Op}(h:bV H xs ops)(i:Nat):bV H (xs.take i) (ops.take i):=by
 refine⟨by rw[Q0i,Q0i,h.1],λj v o e1 e2=>?_⟩
 rw[List.getElem?_take] at e1 e2
 by_cases z:j<i
 . rw[if_pos z] at e1 e2
   exact h.2 j v o e1 e2
 . rw[if_neg z] at e1;cases e1
theorem aj6 {xs:List V}{i:Nat}(h:i<=xs.length):eX xs none (some (i:Int))=xs.take i:=by
 have e:HT.bG xs.length xs.length (some (i:Int))=i:=by
  rw[HT.V8];omega
 unfold eX
 rw[e]
 rfl
theorem aj7 {xs:List V}{i:Nat}(h:i<=xs.length):eX xs (some (i:Int)) none=xs.drop i:=by
 have e:HT.bG xs.length 0 (some (i:Int))=i:=by
  rw[HT.V8];omega
 unfold eX
 rw[e]
 show(xs.drop i).take (xs.length - i)=_
 rw[Q1b (by rw[Q1p];omega)]
noncomputable def aa9 (K:W.Frag) (P2 C CD:Addr):Sp:=λvs H Q _=>∃(e:En) (src so:Addr) (f:Str->V) (pl:List V) (n way:Int),vs=[.ref e.a,.ref e.b,.ref e.d,.ref e.hl,.ref e.t,.ref so,.int way]/\0<=way/\way<7/\bZ K P2 C CD e src so f pl n H/\n+60<=1000000000000/\pl.length<=800/\1<=e.hks.length/\1<=e.fs.names.length/\(∀x∈e.fs.names,x≠"qzqzqz")/\
 ∀r so' src' f' gU n' H',bZ K P2 C CD e src' so' f' gU n' H'->n<=n'->n'<=n+20->gU.length<=pl.length+1->H' r=some (.tup [.ref so',.bl true])->Q (.ref r) H'
theorem aj8 {e:Fs}{x0:Str}{m:Int}(hx:x0∈e.names)(hp:e.cu)(hq:∀x∈e.names,x≠"qzqzqz"):∃odd,dO [V.str "qzqzqz",V.str x0] (m % 2)=some (.str odd)/\uV e e.names odd:=by
 have h:m % 2=0\/m % 2=1:=by omega
 rcases h with h|h <;> rw[h]
 . exact⟨_,rfl,.inl λz=>hq _ z rfl⟩
 . obtain⟨k,hk⟩:=Fs.qY hx
   obtain⟨i,hi⟩:=Fs.Cr hk
   exact⟨_,rfl,.inr ⟨k,hk,Fs.uh hp hi,hx⟩⟩
theorem aa_ {fs:Fs}{ss:List Str}{g:Str->V}(nd:fs.names.Nodup)(sI:ss.Nodup)(hin:∀x∈ss,x∈fs.names)(hg:FK fs g):mJ (fs.bU ss) (aK g ss):=by
 refine⟨by rw[gD,Fs.fu,(yI nd sI hin).length_eq],λi nm k hat=>?_⟩
 have e:=Fs.qU (by rw[Fs.fu];exact nd.filter _) hat
 rw[Fs.uq] at e
 by_cases z:nm∈ss
 . rw[if_pos z] at e
   exact⟨g nm,by rw[gQ,if_pos z],hg _ _ e⟩
 . rw[if_neg z] at e;cases e
theorem aj9 {H:Hp}{fs:Fs}{ss:List Str}{g:Str->V}{odd:Str}{v:V}(nd:fs.names.Nodup)(sI:ss.Nodup)(hin:∀x∈ss,x∈fs.names)(hp:fs.cu)(hg:FK fs g)(ho:odd∈(fs.bU ss).names)(hJ:lH H v):mU H (fs.bU ss) (aK (dz g odd v) ss) odd:=by
 refine⟨by rw[gD,Fs.fu,(yI nd sI hin).length_eq],ho,λi nm k hat=>?_⟩
 have e:=Fs.qU (by rw[Fs.fu];exact nd.filter _) hat
 have hk:=Fs.uh (Fs.yc ss hp) hat
 rw[Fs.uq] at e
 by_cases z:nm∈ss
 . rw[if_pos z] at e
   refine⟨dz g odd v nm,by rw[gQ,if_pos z],hk,λhne=>?_,λhe=>?_⟩
   . unfold dz;rw[if_neg hne];exact hg _ _ e
   . unfold dz;rw[if_pos he];exact hJ
 . rw[if_neg z] at e;cases e
theorem aj_ {H:Hp}{p q:Addr}{x:Str}(hp:H p=some (.lst [.str x]))(hq:H q=some (.lst [.str x]))(n:Nat):Sm H (n+1) (.ref p) (.ref q):=by
 refine .inr (.inr (.inl ⟨p,q,_,_,rfl,rfl,hp,hq,rfl,(by show 1<=60;decide),λi x y e1 e2=>?_⟩))
 match i with
 |0=>cases e1;cases e2;exact Sm.zero (.inr ⟨_,rfl,rfl⟩) n
 |i+1=>cases e1
section
variable {P:Program}{w:World}{K:W.Frag}{mg:Str->Option Value}{base:Heap}
variable {C P2 CD:Addr}
theorem abb:bC ["_law_script","_law_at","_law_desk","_law_hooks","_law_fields_here","_law_source","_law_way","_law_m","_law_paper","_law_now","_law_spot","_law_odd","_law_faulty","_law_hook","_law_names_here","_law_mine","_law_due","_law_seen"] ["_law_script","_law_at","_law_desk","_law_hooks","_law_fields_here","_law_source","_law_way"] (aL (top 81)):=by refine⟨rfl,rfl,rfl,?_,rfl,?_,?_⟩ <;> decide +kernel
theorem akb (T:Tb mg)(vf:Dn K mg "_law_one" Bl (top 81) Ku Kv)(dh:Dn K mg "_law_next" cR (top 63) gO gP)(fX:aq P w K mg base aC (1) gO gP cR (nR K))(qe:Dn K mg "_law_sets" Bj (top 76) Kg Kh)(Kw:aq P w K mg base aC (4) Kg Kh Bj (aaT K))(oR:Dn K mg "_law_taken" uc (top 77) yG yH)(Ky:aq P w K mg base aC (1) yG yH uc (Km))(qg:Dn K mg "_law_pairs" Bk (top 78) Ko Kq)(Kz:aq P w K mg base aC (1) Ko Kq Bk (aa1))(su:Dn K mg "_law_change" Bf (top 79) J6 J7)(abd:aq P w K mg base aC (16) J6 J7 Bf (aaH K P2 C CD))(pZ:Dn K mg "_law_put_by" Bg (top 80) J9 J_)(KC:aq P w K mg base aC (16) J9 J_ Bg (aaJ P2 C CD))(dZ:Dn K mg "_law_same" jY (top 74) lJ lK)(jG:aq P w K mg base aC (7) lJ lK jY (sG 6)):aq P w K mg base aC (17) Ku Kv Bl (aa9 K P2 C CD):=by
 refine vf.F.ok abb (λvs H Q E h=>?_) (λcdv A outer s H vs Q E hr h=>?_)
 . obtain⟨e,src,so,f,pl,n,way,rfl,_⟩:=h
   rfl
 obtain⟨e,src,so,f,pl,n,way,rfl,hw0,hw7,S,hn,hpl,hh1,hf1,xG,q⟩:=h
 have nd:=abb.nd
 have hu:=eZ hr
 refine⟨_,(ao (bf (i:=7) nd rfl (Or.inl rfl) (aR fX (hr.mono (by decide)) dh (aj (pv 0) (aj (pv 1) ak))))
  (ao (aV (aW adB (pv 6) aH (aQ _)) (ao (sY (aR Kw (hr.mono (by decide)) qe (aj (pv 0) (aj (pv 1) (aj (pv 4) (aj (pv 5) (aj (aX jt (pv 6) (aX cG (pv 7) aH)) ak)))))) (gh rfl (cF (bH (i:=8) nd rfl (Or.inl rfl)) (cF (bH (i:=9) nd rfl (Or.inl rfl)) f9))))
  (aB (aN (cQ (aj (pv 9) (aj (aR jG (hr.mono (by decide)) dZ (aj (aR abd (hr.mono (by decide)) su (aj (pv 2) (aj (pv 8) ak))) (aj (cQ (aj bh (aj (aR Kz (hr.mono (by decide)) qg (aj (pv 3) (aj (pv 5) (aj (pv 9) ak)))) ak))) ak))) ak)))))) aU)
  (ao (aV (aW bA (pv 6) aH (aQ _)) (ao (bf (i:=8) nd rfl (Or.inl rfl) (aZ bF (aR Kw (hr.mono (by decide)) qe (aj (pv 0) (aj (pv 1) (aj (pv 4) (aj (pv 5) (aj (aX cG (pv 7) aH) ak)))))) aH (λ_ _=>rfl)))
  (ao (bf (i:=10) nd rfl (Or.inl rfl) (aX cG (aX ju (pv 7) aH) (aX jt (aY eY (by rfl) T.dU PySem.boot_len (aj (pv 8) ak)) aH)))
  (ao (bf (i:=11) nd rfl (Or.inl rfl) (aZ gY (dG (aj bh (aj (aZ bF (aZ bF (pv 4) aH (λ_ _=>rfl)) aH (λ_ _=>rfl)) ak))) (aX cG (pv 7) aH) (λ_ _=>rfl)))
  (ao (bf (i:=12) nd rfl (Or.inl rfl) (aX Ga (aX Ga (vX FN (pv 8) vV (vW (pv 10))) (dG (aj (cQ (aj bh (aj (cQ (aj (pv 11) ak)) (aj cD ak)))) ak))) (vX FN (pv 8) (vW (pv 10)) vV)))
  (aB (aN (cQ (aj (pv 5) (aj (aR jG (hr.mono (by decide)) dZ (aj (aR abd (hr.mono (by decide)) su (aj (pv 2) (aj (pv 12) ak))) (aj (cQ (aj bh (aj (pv 10) ak))) ak))) ak))))))))) aU)
  (ao (sY (aZ gY (pv 3) (aX cG (pv 7) (aY eY (by rfl) T.dU PySem.boot_len (aj (pv 3) ak))) (λ_ _=>rfl)) (gh rfl (cF (bH (i:=13) nd rfl (Or.inl rfl)) (cF (bH (i:=14) nd rfl (Or.inr rfl)) f9))))
  (ao (zV (i:=15) nd rfl (Or.inl rfl) (g:=(cL 0)) (tt:=(lX (bJ (FT K false) (bJ (m9 K) (bB 0) (tC (.int 0))) (bB 15)))) (te:=(bB 0)) (own:=["_law_pair"]) rfl (dw.of (N:=["_law_script","_law_at","_law_desk","_law_hooks","_law_fields_here","_law_source","_law_way","_law_m","_law_paper","_law_now","_law_spot","_law_odd","_law_faulty","_law_hook","_law_names_here","_law_mine","_law_due","_law_seen"]) (sc:=aL (top 81)) rfl rfl rfl (by decide +kernel)) (lg (pv 4)) (λ_ _ _ _ _=>(bH (i:=0) (show(["_law_pair","_law_script","_law_at","_law_desk","_law_hooks","_law_fields_here","_law_source","_law_way","_law_m","_law_paper","_law_now","_law_spot","_law_odd","_law_faulty","_law_hook","_law_names_here","_law_mine","_law_due","_law_seen"]:List Str).Nodup by decide +kernel) rfl (Or.inl rfl) (.inr rfl))) (λ_ _ _ _ _=>(zT (aW Wg (aZ bF (pv 0) aH (λ_ _=>rfl)) (pv 15) (by with_unfolding_all rfl)))) (λ_ _ _ _ _=>(pv 0)))
  (ao (aV (aW bA (aY eY (by rfl) T.dU PySem.boot_len (aj (pv 15) ak)) aH (aQ _)) (ao (bf (i:=16) nd rfl (Or.inl rfl) (cQ (aj bh (aj (aR Kz (hr.mono (by decide)) qg (aj (pv 3) (aj (pv 5) (aj (pv 5) ak)))) ak))))
  (aB (aN (cQ (aj (pv 5) (aj (aR jG (hr.mono (by decide)) dZ (aj (aR KC (hr.mono (by decide)) pZ (aj (pv 2) (aj (pv 13) (aj wj ak)))) (aj (pv 16) ak))) ak)))))) aU)
  (ao (bf (i:=9) nd rfl (Or.inl rfl) (aZ bF (aR Kw (hr.mono (by decide)) qe (aj (pv 0) (aj (pv 1) (aj (pv 15) (aj (pv 5) (aj (aX cG (aX ju (pv 7) aH) aH) ak)))))) aH (λ_ _=>rfl)))
  (ao (bf (i:=17) nd rfl (Or.inl rfl) (aR Ky (hr.mono (by decide)) oR (aj (pv 14) (aj (pv 9) ak))))
  (ao (aV (aW bA (pv 6) aH (aQ _)) (ao (bf (i:=11) nd rfl (Or.inl rfl) (aZ bF (aZ gY (pv 15) (aX cG (aX ju (pv 7) aH) (aY eY (by rfl) T.dU PySem.boot_len (aj (pv 15) ak))) (λ_ _=>rfl)) aH (λ_ _=>rfl)))
  (ao (qN hu (pv 17) (pv 11) (aZ gY (dG (aj cD (aj o7 (aj (dG ak) (aj wj ak))))) (aX cG (aX ju (pv 7) aH) aH) (λ_ _=>rfl)) rfl)
  (aB (aN (cQ (aj (pv 5) (aj (aR jG (hr.mono (by decide)) dZ (aj (aR KC (hr.mono (by decide)) pZ (aj (pv 2) (aj (pv 13) (aj (pv 17) ak)))) (aj (cQ (aj bh (aj (dG (aj (pv 11) ak)) ak))) ak))) ak))))))) aU)
  (aB (aN (cQ (aj (pv 9) (aj (aR jG (hr.mono (by decide)) dZ (aj (aR KC (hr.mono (by decide)) pZ (aj (pv 2) (aj (pv 13) (aj (pv 17) ak)))) (aj (cQ (aj bh (aj (aR Kz (hr.mono (by decide)) qg (aj (pv 3) (aj (pv 5) (aj (pv 9) ak)))) ak))) ak))) ak)))))))))))))),?_⟩
 refine⟨_,rfl,_,rfl,e.a,e.b,e.ns,n,rfl,S.g,by omega,λr H1 r0 r1 s1 h1=>?_⟩
 have S1:=S.sb s1 h1 (by omega)
 have bM:=S.dk.kd.bM
 have xJ:e.xs.length=e.fs.names.length:=FA.len e.fs S.dk.kd.fa
 clear s1 h1 S
 refine⟨_,rfl,_,_,rfl,rfl,_,rfl,eN (λc3=>?_) (λc3=>?_)⟩
 . have hw3:way<3:=of_decide_eq_true c3
   have hr0:0<=r % 2/\r % 2<2:=by omega
   obtain⟨m,hm⟩:∃m:Nat,way+r % 2=(m:Int):=⟨(way+r % 2).toNat,by omega⟩
   refine⟨_,rfl,_,rfl,_,rfl,_,rfl,_,rfl,_,rfl,_,_,rfl,rfl,(by show(0:Int)<2;decide),_,_,rfl,rfl,e.a,e.b,e.ns,n+1,e.t,so,e.xs,e.fs,e.fs.names,f,m,(by show [V.ref e.a,V.ref e.b,V.ref e.t,V.ref so,V.int (way+r % 2)]=_;rw[hm]),by omega,S1.g,by omega,.inl S1.dk.kd.tu,S1.dk.kd.fa,S1.dk.cu,S1.dk.kd.nd,hf1,bM,S1.so,(λx hx=>hx),bM,λrr pp nw ys ops n2 H2 s2 h2 z1 z2 hrr abe abf hpp hnw hP hO hol=>?_⟩
   have S2:=S1.sb s2 h2 z1
   refine⟨rr,_,rfl,aD.of hrr,rfl,_,_,rfl,_,_,rfl,rfl,?_⟩
   refine⟨_,rfl,_,rfl,_,rfl,.inl ⟨e.d,pp,e.dd,e.kk,e.t,src,e.vv,e.ps,e.xs,e.fs,e.hks,pl,ys,ops,f,rfl,S2.dk,S2.lam,by omega,hpp,hP,hO,λtq p cs src' H3 k3 mQ hD3 dD hp iR=>?_⟩⟩
   have S3:=S2.Ks k3 mQ hD3 hnw
   have ake:=S2.C_ (iw.kp k3)
   refine⟨_,rfl,_,rfl,_,rfl,e.hl,so,nw,e.cs,e.hks,e.fs,f,cM f ops,rfl,S3.hl,S3.lk.at,S3.dk.bM,ake,S3.so,S2.dk.fk,S3.dk.fk,S3.dk.kd.nd,S3.dk.kd.so,S3.dk.inn,λp2 ds H4 s4 KH hp2 yL=>?_⟩
   refine⟨cX,λkh oV=>?_⟩
   have s5:=Same.new oV (o:=.tup [.str "told",.ref p2])
   have jJ:=s4.trans s5
   have sm:=Kr S3.dk.fk bM S3.dk.bM (jJ _ _ dD) (jJ _ _ hp) (iR.keep λc' o' _ e=>jJ _ _ e) aF (s5 _ _ hp2) (yL.at.keep λc' o' _ e=>s5 _ _ e)
   refine⟨.ref tq,.ref kh,rfl,sm,λH6 s6=>?_⟩
   refine⟨cX,λrt oW=>?_⟩
   have s7:=Same.new oW (o:=.tup [.ref nw,.bl true])
   exact q rt nw src' _ _ n2 _ (S3.same (jJ.trans (s6.trans s7))) (by omega) (by omega) (by rw[Q09];exact Q02 _) aF
 have hw3:3<=way:=Int.not_lt.mp λz=>c3 (decide_eq_true z)
 refine⟨_,rfl,rfl,_,rfl,eN (λc4=>?_) (λc4=>?_)⟩
 . obtain⟨m,hm⟩:∃m:Nat,r % 4=(m:Int):=⟨(r % 4).toNat,by omega⟩
   refine⟨_,rfl,_,rfl,_,rfl,_,rfl,_,rfl,_,_,rfl,rfl,(by show(0:Int)<4;decide),e.a,e.b,e.ns,n+1,e.t,so,e.xs,e.fs,e.fs.names,f,m,(by show [V.ref e.a,V.ref e.b,V.ref e.t,V.ref so,V.int (r % 4)]=_;rw[hm]),by omega,S1.g,by omega,.inl S1.dk.kd.tu,S1.dk.kd.fa,S1.dk.cu,S1.dk.kd.nd,hf1,bM,S1.so,(λx hx=>hx),bM,λrr pp nw ys ops n2 H2 s2 h2 z1 z2 hrr abe abf hpp hnw hP hO hol=>?_⟩
   have S2:=S1.sb s2 h2 z1
   refine⟨rr,_,_,_,rfl,rfl,aD.of hrr,rfl,?_⟩
   have hyl:ys.length=ops.length:=hP.1
   obtain⟨sp,hsp⟩:∃sp:Nat,r / 4 % ((ys.length:Int)+1)=(sp:Int):=⟨(r / 4 % ((ys.length:Int)+1)).toNat,by have:=Q0w (r / 4) (show(ys.length:Int)+1≠0 by omega);omega⟩
   have abg:sp<=ys.length:=by have:=Q0x (r / 4) (show(0:Int)<(ys.length:Int)+1 by omega);omega
   refine⟨_,rfl,_,_,rfl,rfl,⟨by decide,by decide⟩,_,rfl,pp,_,rfl,.inl (aG.of hpp),_,_,rfl,rfl,_,_,rfl,rfl,(by show(0:Int)<(ys.length:Int)+1;omega),?_⟩
   have h0:0<e.xs.length:=by omega
   obtain⟨c0,u0,x0,k0,ev0,akg,hc0,hk0⟩:=FA.get e.fs S2.dk.kd.fa (Q05 h0)
   obtain⟨odd,hodd,hbad⟩:=aj8 (m:=r) (Kc akg) S2.dk.cu xG
   have akh:dO e.xs (0:Int)=some (.ref c0):=jO (j:=0) (by rw[Q05 h0,ev0])
   refine⟨_,rfl,e.t,_,_,_,rfl,rfl,aD.of S2.dk.kd.tu,akh,c0,_,_,_,rfl,rfl,aD.of hc0,rfl,cX,λpq hpq=>?_⟩
   have s3:=Same.new hpq (o:=.lst [.str "qzqzqz",.str x0])
   refine⟨_,rfl,_,_,rfl,rfl,(by show(0:Int)<2;decide),pq,_,_,_,rfl,rfl,aG.of aF,hodd,?_⟩
   have S3:=S2.same s3
   have yE:=s3 _ _ hpp
   have hP3:=hP.mono (Tu.of s3)
   generalize upd H2 pq (.lst [.str "qzqzqz",.str x0])=H3 at s3 S3 yE hP3
   refine⟨_,rfl,_,rfl,_,rfl,pp,_,rfl,aG.of yE,λp4 Jy=>?_⟩
   rw[show eX ys none (some (r / 4 % ((ys.length:Int)+1)))=ys.take sp by rw[hsp];exact aj6 abg]
   have s4:=Same.new Jy (o:=.lst (ys.take sp))
   have e4:upd H3 p4 (.lst (ys.take sp)) p4=some (.lst (ys.take sp)):=aF
   generalize upd H3 p4 (.lst (ys.take sp))=H4 at s4 e4
   refine⟨_,rfl,gH,λpt hpt=>?_⟩
   have s5:=Same.new hpt (o:=.tup [.str odd])
   have e5:upd H4 pt (.tup [.str odd]) pt=some (.tup [.str odd]):=aF
   generalize upd H4 pt (.tup [.str odd])=H5 at s5 e5
   refine⟨yZ,λc6 hc6=>?_⟩
   have s6:=Same.new hc6 (o:=.tup [.str "set",.ref pt,.non])
   have e6:upd H5 c6 (.tup [.str "set",.ref pt,.non]) c6=some (.tup [.str "set",.ref pt,.non]):=aF
   generalize upd H5 c6 (.tup [.str "set",.ref pt,.non])=H6 at s6 e6
   refine⟨gH,λp7 hp7=>?_⟩
   have s7:=Same.new hp7 (o:=.lst [.ref c6])
   have e7:upd H6 p7 (.lst [.ref c6]) p7=some (.lst [.ref c6]):=aF
   generalize upd H6 p7 (.lst [.ref c6])=H7 at s7 e7
   refine⟨p4,p7,_,_,rfl,rfl,s7 _ _ (s6 _ _ (s5 _ _ e4)),e7,Q0s (cW (show(ys.take sp).length+1<=1000 by rw[Q0i];omega)),λp8 hp8=>?_⟩
   have s8:=Same.new hp8 (o:=.lst (ys.take sp++[.ref c6]))
   have e8:upd H7 p8 (.lst (ys.take sp++[.ref c6])) p8=some (.lst (ys.take sp++[.ref c6])):=aF
   generalize upd H7 p8 (.lst (ys.take sp++[.ref c6]))=H8 at s8 e8
   have s38:=s4.trans (s5.trans (s6.trans (s7.trans s8)))
   refine⟨_,rfl,_,rfl,_,rfl,pp,_,rfl,aG.of (s38 _ _ yE),λp9 hp9=>?_⟩
   rw[show eX ys (some (r / 4 % ((ys.length:Int)+1))) none=ys.drop sp by rw[hsp];exact aj7 abg]
   have s9:=Same.new hp9 (o:=.lst (ys.drop sp))
   have e9:upd H8 p9 (.lst (ys.drop sp)) p9=some (.lst (ys.drop sp)):=aF
   generalize upd H8 p9 (.lst (ys.drop sp))=H9 at s9 e9
   refine⟨p8,p9,_,_,rfl,rfl,s9 _ _ e8,e9,Q0s (cW (show(ys.take sp++[V.ref c6]).length+(ys.drop sp).length<=1000 by rw[Q09,Q0i,Q1p];show min sp ys.length+1+_<=1000;omega)),λpa hpa=>?_⟩
   have sA:=Same.new hpa (o:=.lst (ys.take sp++[.ref c6]++ys.drop sp))
   have eA:upd H9 pa (.lst (ys.take sp++[.ref c6]++ys.drop sp)) pa=some (.lst (ys.take sp++ .ref c6::ys.drop sp)):=by rw[aF,Q2v];rfl
   generalize upd H9 pa (.lst (ys.take sp++[.ref c6]++ys.drop sp))=HA at sA eA
   have KJ:=s9.trans sA
   have s3A:=s38.trans KJ
   have S9:=S3.same s3A
   refine⟨_,rfl,_,rfl,_,rfl,.inr ⟨e.d,pa,e.dd,e.kk,e.t,src,e.vv,e.ps,e.xs,e.fs,e.hks,pl,c6,pt,ys.take sp,ys.drop sp,ops.take sp,odd,f,rfl,S9.dk,eA,(hP3.mono (Tu.of s3A)).take sp,(λo ho=>hO o (Q36 ho)),KJ _ _ (s8 _ _ (s7 _ _ e6)),KJ _ _ (s8 _ _ (s7 _ _ (s6 _ _ e5))),hbad,λtq HB sB dD=>?_⟩⟩
   refine⟨_,rfl,cX,λkh oV=>?_⟩
   have sC:=Same.new oV (o:=.tup [.str "no paper",.int (r / 4 % ((ys.length:Int)+1))])
   have hlen:((ops.take sp).length:Int)=r / 4 % ((ys.length:Int)+1):=by rw[hsp,Q0i];omega
   rw[hlen] at dD
   refine⟨.ref tq,.ref kh,rfl,CZ (sC _ _ dD) aF (Sm.zero (.inl ⟨_,rfl,rfl⟩) 5),λHD sD=>?_⟩
   refine⟨cX,λrt oW=>?_⟩
   have sE:=Same.new oW (o:=.tup [.ref so,.bl true])
   exact q rt so src f pl n2 _ (S9.same (sB.trans (sC.trans (sD.trans sE)))) (by omega) (by omega) (by omega) aF
 have hw4:4<=way:=by
  have:way≠3:=λz=>c4 (decide_eq_true (show V.int way=V.int 3 by rw[z]))
  omega
 have hcl:e.cs.length=e.hks.length:=S1.lk.1
 obtain⟨i,hi⟩:∃i:Nat,r % (e.cs.length:Int)=(i:Int):=⟨(r % (e.cs.length:Int)).toNat,by have:=Q0w r (show(e.cs.length:Int)≠0 by omega);omega⟩
 have hil:i<e.hks.length:=by have:=Q0x r (show(0:Int)<(e.cs.length:Int) by omega);omega
 obtain⟨c,nn,mj,hc,hnn,hsn,lN,hnb,hnp⟩:=S1.lk.get hil
 refine⟨_,rfl,_,rfl,_,rfl,e.hl,_,rfl,.inl (aG.of S1.hl),_,_,rfl,rfl,(by show(0:Int)<(e.cs.length:Nat);omega),e.hl,_,_,.ref c,rfl,rfl,aG.of S1.hl,(by show dO e.cs (r % (e.cs.length:Int))=_;rw[hi];exact jO mj),?_⟩
 refine⟨c,_,rfl,aD.of hc,rfl,_,_,rfl,_,_,rfl,rfl,?_⟩
 have hmem:e.hks[i]∈e.hks:=Q0r hil
 generalize e.hks[i]=h at hc hnn hsn lN hmem ⊢
 have hss:=S1.dk.inn h hmem
 try dsimp only[cL]
 refine wY (A:=mV _ _) (λσ' H'=>∃mi,σ'=[some (.ref e.a),some (.ref e.b),some (.ref e.d),some (.ref e.hl),some (.ref e.t),some (.ref so),some (.int way),some (.int r),none,none,none,none,none,some (.str h.1),some (.ref nn),some (.ref mi),none,none]/\Same H1 H'/\H1 mi=none/\H' mi=some (.lst (fj h.2.2 e.xs e.fs.names))) ?_ (λhB=>?_)
 rotate_left
 . refine⟨_,rfl,e.t,rfl,⟨_,aD.of S1.dk.kd.tu⟩,λi m ys H'=>H'=H1/\m=e.xs.length - i/\i<=e.xs.length/\ys=(((e.xs.zip e.fs.names).take i).filter λq=>decide (q.2∈h.2.2)).map (·.1),⟨e.xs.length,rfl,by simp,Q0b _,rfl⟩,?_⟩
   rintro i m ys H' ⟨rfl,rfl,hi,rfl⟩
   by_cases hlt:i<e.xs.length
   . have hb:((((e.xs.zip e.fs.names).take i).filter λq=>decide (q.2∈h.2.2)).map (·.1)).length<=i:=by
      rw[Q06]
      exact Q0e (Q1f _ _) (by rw[Q0i];omega)
     refine .inr ⟨⟨e.xs,e.xs[i],aD.of S1.dk.kd.tu,by simp[hlt]⟩,cW (by omega),λx H' y=>?_⟩
     obtain⟨rfl,y⟩:=y
     have hv:=y e.xs (aD.of S1.dk.kd.tu)
     obtain⟨c,u,nm,k,rfl,hat,hc,hk⟩:=FA.get e.fs S1.dk.kd.fa hv
     have hnm:e.fs.names[i]? =some nm:=by rw[Fs.gZ,hat];rfl
     have hz:(e.xs.zip e.fs.names)[i]? =some (.ref c,nm):=by
      rw[Q2d]
      exact⟨hv,hnm⟩
     have step:(((e.xs.zip e.fs.names).take (i+1)).filter λq=>decide (q.2∈h.2.2)).map (·.1)=(((e.xs.zip e.fs.names).take i).filter λq=>decide (q.2∈h.2.2)).map (·.1)++(if nm∈h.2.2 then [V.ref c] else []):=by
      rw[Q0p,hz,Q2e,Q0k]
      congr 1
      show(List.filter _ [(V.ref c,nm)]).map _=_
      rw[Q1l]
      by_cases z:nm∈h.2.2
      . rw[if_pos (decide_eq_true z),if_pos z];rfl
      . rw[if_neg (by show ¬decide (nm∈h.2.2)=true;rw[decide_eq_false z];decide),if_neg z];rfl
     refine⟨rfl,_,rfl,c,_,_,_,rfl,rfl,aD.of hc,rfl,_,rfl,nn,_,rfl,.inl (aG.of hnn),rfl,Ie,_,rfl,?_⟩
     refine eN (λcc=>?_) (λcc=>?_)
     . have z:nm∈h.2.2:=of_decide_eq_true (Bw.symm.trans (show inV (V.str nm) (h.2.2.map V.str)=true from cc))
       refine⟨_,rfl,e.xs.length - (i+1),by omega,rfl,rfl,hlt,?_⟩
       rw[step,if_pos z]
     . have z:¬nm∈h.2.2:=λz=>cc (show inV (V.str nm) (h.2.2.map V.str)=true from Bw.trans (decide_eq_true z))
       refine⟨e.xs.length - (i+1),by omega,rfl,rfl,hlt,?_⟩
       rw[step,if_neg z,Q0z]
   . refine .inl ⟨⟨e.xs,aD.of S1.dk.kd.tu,Q11 hlt⟩,λpl hpl=>?_⟩
     rw[Q1b (by rw[Q3];omega)]
     exact hB _ _ ⟨pl,rfl,Same.new hpl,hpl,aF⟩
 rintro _ H2 ⟨mi,rfl,s2,KQ,hmi⟩
 have S2:=S1.same s2
 have abl:mi≠e.b:=λz=>by rw[z,S1.g.at_] at KQ;cases KQ
 have hfew:FA H2 (fj h.2.2 e.xs e.fs.names) (e.fs.bU h.2.2):=FA.few e.fs S2.dk.kd.fa
 have hfl:(fj h.2.2 e.xs e.fs.names).length=(e.fs.bU h.2.2).names.length:=FA.len _ hfew
 have hperm:=yI S2.dk.kd.nd hsn hss
 have akj:=s2 _ _ hnn
 have akk:(e.fs.bU h.2.2).names.length<=12:=by rw[Fs.fu,hperm.length_eq];exact lN
 clear s2 KQ hc mj hnn
 refine⟨_,rfl,mi,_,rfl,.inl (aG.of hmi),rfl,_,rfl,eN (λc0=>?_) (λc0=>?_)⟩
 . have abm:h.2.2=[]:=by
    have h0:(fj h.2.2 e.xs e.fs.names).length=0:=by
     have:=of_decide_eq_true c0
     injection this with this
     omega
    rw[hfl,Fs.fu,hperm.length_eq] at h0
    exact List.length_eq_zero_iff.mp h0
   refine⟨_,rfl,_,rfl,_,rfl,e.hl,so,so,e.cs,e.hks,e.fs,f,f,rfl,S2.hl,S2.lk.at,S2.dk.bM,S2.so,S2.so,S2.dk.fk,S2.dk.fk,S2.dk.kd.nd,S2.dk.kd.so,S2.dk.inn,λp2 ds H3 s3 KH hp2 yL=>?_⟩
   refine⟨cX,λkh oV=>?_⟩
   have s4:=Same.new oV (o:=.tup [.str "told",.ref p2])
   have e4:upd H3 kh (.tup [.str "told",.ref p2]) kh=some (.tup [.str "told",.ref p2]):=aF
   generalize upd H3 kh (.tup [.str "told",.ref p2])=H4 at s4 e4
   refine⟨_,rfl,_,rfl,_,rfl,λdn hdn=>?_⟩
   have s5:=Same.new hdn (o:=.dK [])
   have e5:upd H4 dn (.dK []) dn=some (.dK []):=aF
   generalize upd H4 dn (.dK [])=H5 at s5 e5
   have S5:=S2.same (s3.trans (s4.trans s5))
   have hmix:iJ f f h.2.2=f:=by
    rw[abm]
    funext x
    unfold iJ
    rw[if_neg (by simp)]
   refine .inl ⟨e.d,dn,e.dd,e.kk,e.t,src,e.vv,e.ps,e.xs,e.fs,e.hks,pl,h,f,f,rfl,S5.dk,hmem,S5.lam,by omega,(by rw[abm];exact e5),aa_ S5.dk.kd.nd hsn hss S5.dk.fk,λtq p cs src' H6 k6 rP vg dD hp iR=>?_⟩
   rw[hmix] at vg iR
   have S6:=S5.Ks k6 rP vg S5.so
   obtain⟨pt,hPt⟩:=S2.lam.tab
   have kk:∀c o,H2 c=none->H3 c=some o->H6 c=some o:=λc o hN ec=>k6 c o (λz=>by rw[z,hPt] at hN;cases hN) (λz=>by rw[z,S2.dk.ob] at hN;cases hN) (λz=>by rw[z,S2.dk.past] at hN;cases hN) (s5 _ _ (s4 _ _ ec))
   have tu6:=S5.tu (iw.kp k6)
   have akl:gR H6 ds e.hks (lG e.fs f f):=(yL.keep (λc o ho ec=>by
    rcases ho with⟨xs,rfl⟩|hN
    . exact tu6 _ _ (s5 _ _ (s4 _ _ ec))
    . exact kk c o hN ec)).at
   refine⟨_,rfl,.ref tq,.ref kh,rfl,Kr S5.dk.fk bM S5.dk.bM dD hp iR (tu6 _ _ (s5 _ _ e4)) (kk _ _ KH hp2) akl,λH7 s7=>?_⟩
   refine⟨cX,λrt oW=>?_⟩
   have s8:=Same.new oW (o:=.tup [.ref so,.bl true])
   exact q rt so src' f _ (n+1) _ (S6.same (s7.trans s8)) (by omega) (by omega) (by rw[Q09];exact Q02 _) aF
 have hpos:1<=(e.fs.bU h.2.2).names.length:=by
  rcases Nat.eq_zero_or_pos (e.fs.bU h.2.2).names.length with z|z
  . exact absurd (decide_eq_true (show V.int ((fj h.2.2 e.xs e.fs.names).length:Nat)=V.int 0 by rw[hfl,z];rfl)) c0
  . exact z
 obtain⟨m,hm⟩:∃m:Nat,r / 7 % 4=(m:Int):=⟨(r / 7 % 4).toNat,by omega⟩
 refine⟨_,rfl,_,rfl,_,rfl,_,rfl,_,rfl,_,_,rfl,rfl,⟨by decide,by decide⟩,_,_,rfl,rfl,(by show(0:Int)<4;decide),e.a,e.b,e.ns,n+1,mi,so,_,e.fs.bU h.2.2,e.fs.names,f,m,(by show [V.ref e.a,V.ref e.b,V.ref mi,V.ref so,V.int (r / 7 % 4)]=_;rw[hm]),by omega,S2.g,by omega,.inr ⟨hmi,abl⟩,hfew,Fs.yc _ S2.dk.cu,(by rw[Fs.fu];exact S2.dk.kd.nd.filter _),hpos,akk,S2.so,(by rw[Fs.fu];exact λx hx=>(List.mem_filter.mp hx).1),bM,λrr pp nw ys ops n3 H3 s3 h3 z1 z2 hrr abe abf hpp hnw hP hO hol=>?_⟩
 have S3:=S2.sb s3 h3 z1
 obtain⟨hO',hOs⟩:=hO.bU
 have CW:=s3 _ _ hnb akj
 have ako:=s3 _ _ abl hmi
 have akp:=FA.mono (s3.tu S2.g.at_) _ hfew
 refine⟨rr,_,_,_,rfl,rfl,aD.of hrr,rfl,?_⟩
 refine⟨_,rfl,_,rfl,nn,nw,_,h.2.2,cM f ops,rfl,CW,hsn,lN,hnw,(λx hx=>by rw[gQ,if_pos (hss x hx)]),λsn H4 s4 akq Dd=>?_⟩
 have S4:=S3.same s4
 have akr:=s4 _ _ hnw
 have hFn:=JC S3.dk.fk hO'
 refine⟨_,rfl,rfl,_,rfl,eN (λc5=>?_) (λc5=>?_)⟩
 . have abp:=s4 _ _ ako
   have aks:=FA.mono (Tu.of s4) _ akp
   obtain⟨j,hj⟩:∃j:Nat,r / 28 % ((fj h.2.2 e.xs e.fs.names).length:Int)=(j:Int):=⟨(r / 28 % ((fj h.2.2 e.xs e.fs.names).length:Int)).toNat,by have:=Q0w (r / 28) (show((fj h.2.2 e.xs e.fs.names).length:Int)≠0 by omega);omega⟩
   have hjl:j<(fj h.2.2 e.xs e.fs.names).length:=by have:=Q0x (r / 28) (show(0:Int)<((fj h.2.2 e.xs e.fs.names).length:Int) by omega);omega
   obtain⟨c1,u1,odd,k1,ev1,akt,hc1,hk1⟩:=FA.get (e.fs.bU h.2.2) aks (Q05 hjl)
   refine⟨_,rfl,_,rfl,_,_,rfl,rfl,⟨by decide,by decide⟩,_,rfl,mi,_,rfl,.inl (aG.of abp),_,_,rfl,rfl,(by show(0:Int)<((fj h.2.2 e.xs e.fs.names).length:Nat);omega),mi,_,_,.ref c1,rfl,rfl,aG.of abp,(by show dO (fj h.2.2 e.xs e.fs.names) (r / 28 % ((fj h.2.2 e.xs e.fs.names).length:Int))=_;rw[hj];exact jO (j:=j) (by rw[Q05 hjl,ev1])),c1,_,_,_,rfl,rfl,aD.of hc1,rfl,?_⟩
   have KR:odd∈(e.fs.bU h.2.2).names:=Kc akt
   have aku:odd∈h.2.2:=by rw[Fs.fu] at KR;exact of_decide_eq_true (List.mem_filter.mp KR).2
   refine⟨fM,λla hla=>?_⟩
   have s5:=Same.new hla (o:=.lst [])
   have e5:upd H4 la (.lst []) la=some (.lst []):=aF
   generalize upd H4 la (.lst [])=H5 at s5 e5
   refine λda hda=>?_
   have s6:=Same.new hda (o:=.dK [])
   have e6:upd H5 da (.dK []) da=some (.dK []):=aF
   generalize upd H5 da (.dK [])=H6 at s6 e6
   refine⟨acu,λlb hlb=>?_⟩
   have s7:=Same.new hlb (o:=.lst [.non,.bl true,.ref la,.ref da])
   have e7:upd H6 lb (.lst [.non,.bl true,.ref la,.ref da]) lb=some (.lst [.non,.bl true,.ref la,.ref da]):=aF
   generalize upd H6 lb (.lst [.non,.bl true,.ref la,.ref da])=H7 at s7 e7
   obtain⟨v,hv,hJ⟩:∃v,dO [V.non,.bl true,.ref la,.ref da] (r / 200 % 4)=some v/\(v=.non\/v=.bl true\/v=.ref la\/v=.ref da):=by
    have h4:r / 200 % 4=0\/r / 200 % 4=1\/r / 200 % 4=2\/r / 200 % 4=3:=by omega
    rcases h4 with z|z|z|z <;> rw[z]
    . exact⟨_,rfl,.inl rfl⟩
    . exact⟨_,rfl,.inr (.inl rfl)⟩
    . exact⟨_,rfl,.inr (.inr (.inl rfl))⟩
    . exact⟨_,rfl,.inr (.inr (.inr rfl))⟩
   have s47:=s5.trans (s6.trans s7)
   refine⟨_,rfl,_,_,rfl,rfl,⟨by decide,by decide⟩,_,_,rfl,rfl,(by show(0:Int)<4;decide),lb,_,_,_,rfl,rfl,aG.of e7,hv,_,rfl,_,rfl,sn,_,rfl,lY.k (k:=Sum.inr odd) (s47 _ _ Dd) (by rw[gD];exact cW (by omega)),?_⟩
   rw[Bq v aku]
   have e8:upd H7 sn (.dK (aK (dz (cM f ops) odd v) h.2.2)) sn=some (.dK (aK (dz (cM f ops) odd v) h.2.2)):=aF
   have s8:Same H3 (upd H7 sn (.dK (aK (dz (cM f ops) odd v) h.2.2))):=λc o ec=>by rw[au (aO ec akq)];exact s47 _ _ (s4 _ _ ec)
   have hl8:upd H7 sn (.dK (aK (dz (cM f ops) odd v) h.2.2)) la=some (.lst []):=by rw[au (λz=>by rw[z,Dd] at hla;cases hla)];exact s7 _ _ (s6 _ _ e5)
   have hd8:upd H7 sn (.dK (aK (dz (cM f ops) odd v) h.2.2)) da=some (.dK []):=by rw[au (λz=>by rw[z,s5 _ _ Dd] at hda;cases hda)];exact s7 _ _ e6
   generalize upd H7 sn (.dK (aK (dz (cM f ops) odd v) h.2.2))=H8 at e8 s8 hl8 hd8
   have hJ8:lH H8 v:=by
    rcases hJ with rfl|rfl|rfl|rfl
    . exact .non
    . exact .rY
    . exact .lst hl8
    . exact .rZ hd8
   have S8:=S3.same s8
   refine⟨_,rfl,_,rfl,_,rfl,_,rfl,.inr ⟨e.d,sn,e.dd,e.kk,e.t,src,e.vv,e.ps,e.xs,e.fs,e.hks,pl,h,_,odd,f,rfl,S8.dk,hmem,S8.lam,e8,aj9 S8.dk.kd.nd hsn hss S8.dk.cu hFn KR hJ8,λtq p H9 k9 hT9 dD hp=>?_⟩⟩
   have S9:=S8.kp k9 hT9
   refine⟨_,rfl,gH,λlc hlc=>?_⟩
   have sA:=Same.new hlc (o:=.lst [.str odd])
   have eA:upd H9 lc (.lst [.str odd]) lc=some (.lst [.str odd]):=aF
   generalize upd H9 lc (.lst [.str odd])=HA at sA eA
   refine⟨cX,λkh oV=>?_⟩
   have sB:=Same.new oV (o:=.tup [.str "no put",.ref lc])
   refine⟨.ref tq,.ref kh,rfl,CZ (sB _ _ (sA _ _ dD)) aF (aj_ (sB _ _ (sA _ _ hp)) (sB _ _ eA) 4),λHC sC=>?_⟩
   refine⟨cX,λrt oW=>?_⟩
   have sD:=Same.new oW (o:=.tup [.ref so,.bl true])
   exact q rt so src f pl n3 _ (S9.same (sA.trans (sB.trans (sC.trans sD)))) (by omega) (by omega) (by omega) aF
 . refine⟨_,rfl,_,rfl,_,rfl,_,rfl,.inl ⟨e.d,sn,e.dd,e.kk,e.t,src,e.vv,e.ps,e.xs,e.fs,e.hks,pl,h,f,cM f ops,rfl,S4.dk,hmem,S4.lam,by omega,Dd,aa_ S4.dk.kd.nd hsn hss hFn,λtq p cs src' H5 k5 hT5 hD5 dD hp iR=>?_⟩⟩
   rw[aj4 hOs] at hD5 iR
   have S5:=S4.Ks k5 hT5 hD5 akr
   have KY:=S4.C_ (iw.kp k5)
   refine⟨_,rfl,_,rfl,_,rfl,e.hl,so,nw,e.cs,e.hks,e.fs,f,cM f ops,rfl,S5.hl,S5.lk.at,S5.dk.bM,KY,S5.so,S4.dk.fk,S5.dk.fk,S5.dk.kd.nd,S5.dk.kd.so,S5.dk.inn,λp2 ds H6 s6 KH hp2 yL=>?_⟩
   refine⟨cX,λkh oV=>?_⟩
   have s7:=Same.new oV (o:=.tup [.str "told",.ref p2])
   have Df:=s6.trans s7
   have sm:=Kr S5.dk.fk bM S5.dk.bM (Df _ _ dD) (Df _ _ hp) (iR.keep λc' o' _ e=>Df _ _ e) aF (s7 _ _ hp2) (yL.at.keep λc' o' _ e=>s7 _ _ e)
   refine⟨.ref tq,.ref kh,rfl,sm,λH8 s8=>?_⟩
   refine⟨cX,λrt oW=>?_⟩
   have s9:=Same.new oW (o:=.tup [.ref nw,.bl true])
   exact q rt nw src' _ _ n3 _ (S5.same (Df.trans (s8.trans s9))) (by omega) (by omega) (by rw[Q09];exact Q02 _) aF
end
end Pb
namespace L2
open PySem PySem.Spec PyProof.Rows
noncomputable def yM (K:W.Frag) (a:Addr) (n:Nat):It:=
 ⟨λi H=>i<n/\∃xs,aG K H a xs/\xs.length=n,λi H x H'=>H'=H/\∀xs,aG K H a xs->xs.reverse[i]? =some x,λi H=>i=n⟩
theorem aky {P:Program}{w:World}{K:W.Frag}{tg:Expr}(a it:Addr)(n:Nat):Turn P w K tg (yM K a n) [it] it (λi h=>h.IsRevIter it a ((n:Int) - 1 - i)) where
 mem:=by simp
 obj:=λi h st b hb=>by
  have e:b=it:=by simpa using hb
  subst e
  obtain⟨o,e,c,d⟩:=st
  exact⟨o,e,λv z=>by rw[d] at z;cases z⟩
 keep:=λi h h' st k=>st.at λo e=>k it (by simp) o e
 item:=by
  intro X hP hw hK hc i pins s σ H E I hf st hg
  subst hP hw hK
  obtain⟨hi,xs,hq,hn⟩:=hg
  obtain⟨its,rv,p,hz⟩:=I.list hq
  obtain⟨x0,hx⟩:∃x0,xs[n - 1 - i]? =some x0:=⟨_,Q05 (by omega)⟩
  obtain⟨u,hu,ru⟩:=rv.get hx
  obtain⟨f0,f1,f2,f3,f4,f5⟩:=hf it (by simp)
  have ei:(n:Int) - 1 - i=((n - 1 - i:Nat):Int):=by omega
  rw[ei] at st
  refine wpAny_pyNext_rev_item st p.isList (x:=u) (by simpa using hu) λh' st' sb=>?_
  have I1:Inv X pins σ H { s with heap:=h' }:=I.turned (t':=s.toks) (λb o hb e=>(sb.2 b hb).trans e) f0 f1 f3 f4 f5
  obtain⟨o,e,c,d⟩:=id st'
  have hr:xs.reverse[i]? =some x0:=by rw[Q33 (by omega),hn];exact hx
  have e2:(n:Int) - 1 - ((i+1:Nat):Int)=((n - 1 - i:Nat):Int) - 1:=by omega
  exact⟨u,rfl,vP (s:={ s with heap:=h' }) e c d (by decide) ⟨_,H,I1,ru,⟨rfl,λys hy=>by rw[I.vN hy hq];exact hr⟩,by show h'.IsRevIter it a _;rw[e2];exact st',λb hb=>(hf b hb).1⟩⟩
 done:=by
  intro X hP hw hK hc i pins s σ H E I hf st hg
  subst hP hw hK
  obtain⟨f0,f1,f2,f3,f4,f5⟩:=hf it (by simp)
  have hg:i=n:=hg
  have e:(n:Int) - 1 - i= -1:=by omega
  rw[e] at st
  exact wpAny_pyNext_rev_end (I.ok.hd hc) st λh' eb=>⟨rfl,I.turned (t':=s.toks) (λb o hb e=>eb b o hb e) f0 f1 f3 f4 f5⟩
 self:=λ_ _ _ _ _ st h=>wpAny_pyIter_revIter st h
section
variable {X:Cx}{tg e:Expr}{te:TE}{p pos:Pos}
noncomputable def akz (K:W.Frag) (te:TE):TI:=λσ H R=>te σ H λx H1=>∃a xs,x=.ref a/\aG K H1 a xs/\R (yM K a xs.length) H1
theorem akA (hg:Gl X "reversed")(hm:X.mg "reversed"=none)(hb:bootBuiltins "reversed"=some (.type "reversed"))(he:PE X e te)
 (hs:starEach [e] X.env=(false,eval e X.env)::starEach [] X.env:=by rfl):PI X tg (.Call (.Name "reversed" p) [e] [] pos) (akz X.K te):=by
 intro pins s σ H R I h
 refine wpAny_Call_Name_kw (jM I hg hm hb ?_ (by decide) (by decide))
 refine PyProof.Rows.callWith_type1 ?_ hs rfl
 rw[hs]
 show wpAny _ _ (spliced ((false,eval e X.env)::[])) _ _ s
 refine Calls.spliced_cons (aP (he pins s σ H _ I h) λu s1 ⟨x,H1,I1,r1,q1⟩=>?_)
 refine Calls.spliced_nil ?_
 obtain⟨a,xs,rfl,hq,q⟩:=q1
 cases r1
 obtain⟨its,r',pl,hz⟩:=I1.list hq
 have hlen:=r'.length
 have hsz:its.toArray.size=its.length:=Q07
 refine call_reversed_list pl.isList ?_
 have hit:(s1.heap.push (revObj a ((its.toArray.size:Int) - 1))).IsRevIter s1.heap.objs.size a ((its.toArray.size:Int) - 1):=⟨_,Q0c _ rfl,rfl,rfl⟩
 refine wpAny_pyIter_revIter (s:={ s1 with heap:=s1.heap.push (revObj a ((its.toArray.size:Int) - 1)) }) hit ?_
 refine⟨_,[_],_,_,H1,rfl,I1.kept (t':=s1.toks) λb o e=>Q04 _ e,aky a s1.heap.objs.size xs.length,?_,λb hb=>?_,q⟩
 . have e:((xs.length:Int) - 1 - (0:Nat))=(its.toArray.size:Int) - 1:=by rw[hsz,<-hlen];omega
   show Heap.IsRevIter _ _ a ((xs.length:Int) - 1 - (0:Nat))
   rw[e]
   exact hit
 . have e:=List.mem_singleton.mp hb
   subst e
   exact I1.k_ (Q02 _) (I1.hok.fresh (Q02 _))
end
end L2
namespace Pb
open PySem L2
theorem akB {K:PySem.W.Frag}{a:Addr}{xs:List V}{g:TG}{tb:TS}{D:Ends}{σ:L2.St}{H:Hp}(Pv:Nat->L2.St->Hp->Prop)(h0:Pv 0 σ H)(hl:∀i σ H,i<=xs.length->Pv i σ H->aG K H a xs)
 (hs:∀i x σ H,xs.reverse[i]? =some x->Pv i σ H->g x σ H λσ2 H2=>tb { D with nx:=Pv (i+1),ct:=Pv (i+1),bk:=D.nx } σ2 H2) (hd:∀σ H,Pv xs.length σ H->D.nx σ H):
 ∃W:Nat->Nat->L2.St->Hp->Prop,(∃m,W 0 m σ H)/\∀i m σ H,W i m σ H->
  ((yM K a xs.length).stop i H/\D.nx σ H)\/((yM K a xs.length).go i H/\∃N:L2.St->Hp->Prop,(∀σ' H',N σ' H'->∃m',m'<m/\W (i+1) m' σ' H')/\∀x H',(yM K a xs.length).mW i H x H'->g x σ H' λσ2 H2=>tb { D with nx:=N,ct:=N,bk:=D.nx } σ2 H2):=by
 refine⟨λi m σ H=>m=xs.length - i/\i<=xs.length/\Pv i σ H,⟨xs.length,by simp,Q0b _,h0⟩,?_⟩
 rintro i m σ H ⟨rfl,hi,p⟩
 have q:=hl i σ H hi p
 by_cases hlt:i<xs.length
 . refine .inr ⟨⟨hlt,xs,q,rfl⟩,Pv (i+1),λσ' H' p'=>⟨xs.length - (i+1),by omega,rfl,hlt,p'⟩,λx H' y=>?_⟩
   obtain⟨e,y⟩:=y
   subst e
   exact hs i x σ _ (y xs q) p
 . have e:i=xs.length:=by omega
   subst e
   exact .inl ⟨rfl,hd σ H p⟩
end Pb
namespace Pb
open PySem L2 PyProof.Rows
theorem akC (xs:List V)(v:V):dO (xs++[v]) (-1)=some v:=by
 have h:lB (xs++[v]).length (-1)=some xs.length:=by
  unfold lB
  rw[Q09]
  rw[if_neg (by decide),if_pos (by show -((xs.length+1:Nat):Int)<= -1;omega)]
  congr 1
  show(-1+((xs.length+1:Nat):Int)).toNat=xs.length
  omega
 unfold dO
 rw[h]
 show(xs++[v])[xs.length]? =some v
 rw[Q0q (Q02 _),Q1x]
 rfl
structure Lp (K:W.Frag) (P2 C CD:Addr) (e:En) (src so:Addr) (f:Str->V) (n:Int) (H:Hp):Prop where
 S:bZ K P2 C CD e src so f [] n H
 vw:∀h∈e.hks,∃dx nl,dX H C h.2.1 dx nl h.2.2/\nl≠e.ps/\nl≠e.b/\nl≠e.hl
 lk:∀(i:Nat) v h,e.cs[i]? =some v->e.hks[i]? =some h->∃c m,v=.ref c/\H c=some (.tup [.str h.1,.ref m])/\H m=some (.lst (h.2.2.map V.str))/\h.2.2.Nodup/\h.2.2.length<=12/\m≠e.b/\m≠e.ps/\m≠e.hl
 hsl:e.sl≠e.hl
 sov:so≠e.vv
noncomputable def K5 (e:En) (H H':Hp):Prop:=∀c o,c≠e.b->c≠e.hl->H c=some o->H' c=some o
section
variable {K:W.Frag}{P2 C CD:Addr}{e:En}{src so:Addr}{f:Str->V}{n n':Int}{H H1 H2:Hp}
theorem Lp.keep (h:Lp K P2 C CD e src so f n H)(k:K5 e H H1){c:Addr}{o:HO}(ec:H c=some o)(h3:(∃l,o=.lst l)->c≠e.b/\c≠e.hl):H1 c=some o:=by
 refine k c o (λz=>?_) (λz=>?_) ec
 . rw[z,h.S.g.at_] at ec;cases ec;exact(h3 ⟨_,rfl⟩).1 z
 . rw[z,h.S.hl] at ec;cases ec;exact(h3 ⟨_,rfl⟩).2 z
theorem Lp.lam (h:Lp K P2 C CD e src so f n H)(k:K5 e H H1):bw P2 bK bL H1:=h.S.lam.keep λc o ho ec=>h.keep k ec λ⟨l,z⟩=>(ho l z).elim
theorem Lp.dk (h:Lp K P2 C CD e src so f n H)(k:K5 e H H1):cN H1 C CD e.d e.dd e.kk e.t src e.vv e.ps e.xs e.fs f e.hks []:=by
 have nl:∀{c:Addr} {o:HO},(∀l,o≠ .lst l)->H c=some o->H1 c=some o:=λ{c o} ho ec=>h.keep k ec λ⟨l,z⟩=>(ho l z).elim
 have D:=h.S.dk
 refine⟨nl (by intro l z;cases z) D.ob,D.jE,λx hx=>?_,D.bM,D.oH,D.kd.mono λc xs ec=>nl (by intro l z;cases z) ec,D.cu,D.inn,nl (by intro l z;cases z) D.sr,D.fk,nl (by intro l z;cases z) D.vs,h.keep k D.past λ_=>⟨h.S.u_,Ne.symm h.S.hlp⟩⟩
 obtain⟨dx,m,hV,h1,h2,h3⟩:=h.vw x hx
 exact⟨dx,m,⟨nl (by intro l z;cases z) hV.ob,h.keep k hV.nl λ_=>⟨h2,h3⟩,hV.nd,hV.bM⟩,h1⟩
theorem Lp.jy (h:Lp K P2 C CD e src so f n H)(k:K5 e H H1):jf K H1 e.a e.ns:=by
 rcases h.S.g.jy with⟨o,h1⟩|h1
 . exact .inl ⟨o,h.keep k h1 λ⟨l,z⟩=>by cases z⟩
 . exact .inr h1
theorem Lp.next (h:Lp K P2 C CD e src so f n H)(k:K5 e H H1)(hb:H1 e.b=some (.lst [.int n']))(hn:n<=n'){tq nl nv dx:Addr}{hk:Hk}(lM:H1 e.hl=some (.lst (e.cs++[.ref tq])))(dD:H1 tq=some (.tup [.str hk.1,.ref nl]))(hnl:H1 nl=some (.lst (hk.2.2.map V.str)))(qj:H nl=none)(hV:dX H1 C hk.2.1 dx nv hk.2.2)(KZ:H nv=none)
 (k2:∀c o,c≠P2->c≠e.vv->H1 c=some o->H2 c=some o) (hT2:bw P2 bK bL H2) (hD2:cN H2 C CD e.d e.dd e.kk e.t src e.vv e.ps e.xs e.fs f (e.hks++[hk]) []):Lp K P2 C CD { e with hks:=e.hks++[hk],cs:=e.cs++[.ref tq] } src so f n' H2:=by
 have D1:=h.dk k
 obtain⟨pt,hPt⟩:=(h.lam k).tab
 have k2':∀{c:Addr} {o:HO},(∀ps,o≠ .dF ps)->(∀kv,o≠ .dK kv)->H1 c=some o->H2 c=some o:=λ{c o} h1 h2 ec=>k2 c o (λz=>by rw[z,hPt] at ec;cases ec;exact h1 _ rfl) (λz=>by rw[z,D1.vs] at ec;cases ec;exact h2 _ rfl) ec
 have fr:∀{c a:Addr} {o:HO},H c=none->H a=some o->c≠a:=λ{c a o} h1 h2 z=>by rw[z,h2] at h1;cases h1
 have l2:∀{c:Addr} {l:List V},H1 c=some (.lst l)->H2 c=some (.lst l):=λ{c l} ec=>k2' (by intro ps z;cases z) (by intro kv z;cases z) ec
 have vw2:∀x∈e.hks++[hk],∃dx m,dX H2 C x.2.1 dx m x.2.2/\m≠e.ps/\m≠e.b/\m≠e.hl:=λx hx=>by
  rcases List.mem_append.mp hx with z|z
  . obtain⟨dx,m,hV,h1,h2,h3⟩:=h.vw x z
    exact⟨dx,m,⟨k2' (by intro ps z;cases z) (by intro kv z;cases z) (h.keep k hV.ob λ⟨l,z⟩=>by cases z),l2 (h.keep k hV.nl λ_=>⟨h2,h3⟩),hV.nd,hV.bM⟩,h1,h2,h3⟩
  . obtain rfl:=List.mem_singleton.mp z
    exact⟨dx,nv,⟨k2' (by intro ps z;cases z) (by intro kv z;cases z) hV.ob,l2 hV.nl,hV.nd,hV.bM⟩,fr KZ h.S.dk.past,fr KZ h.S.g.at_,fr KZ h.S.hl⟩
 have lk2:∀(i:Nat) v x,(e.cs++[V.ref tq])[i]? =some v->(e.hks++[hk])[i]? =some x->∃c m,v=.ref c/\H2 c=some (.tup [.str x.1,.ref m])/\H2 m=some (.lst (x.2.2.map V.str))/\x.2.2.Nodup/\x.2.2.length<=12/\m≠e.b/\m≠e.ps/\m≠e.hl:=λi v x e1 e2=>by
  have hcl:e.cs.length=e.hks.length:=h.S.lk.1
  by_cases hi:i<e.cs.length
  . rw[Q0t hi] at e1
    rw[Q0t (by rw[<-hcl];exact hi)] at e2
    obtain⟨c,m,a1,a2,a3,a4,a5,a6,a7,a8⟩:=h.lk i v x e1 e2
    exact⟨c,m,a1,k2' (by intro ps z;cases z) (by intro kv z;cases z) (h.keep k a2 λ⟨l,z⟩=>by cases z),l2 (h.keep k a3 λ_=>⟨a6,a8⟩),a4,a5,a6,a7,a8⟩
  . rw[Q0q (by omega)] at e1
    rw[Q0q (by omega),<-hcl] at e2
    cases hj:i - e.cs.length with
    |zero=>
     rw[hj] at e1 e2
     cases e1
     cases e2
     exact⟨tq,nl,rfl,k2' (by intro ps z;cases z) (by intro kv z;cases z) dD,l2 hnl,hV.nd,hV.bM,fr qj h.S.g.at_,fr qj h.S.dk.past,fr qj h.S.hl⟩
    |succ j=>rw[hj] at e1;cases e1
 have akD:jf K H2 e.a e.ns:=by
  rcases h.jy k with⟨o,h1⟩|h1
  . exact .inl ⟨o,k2' (by intro ps z;cases z) (by intro kv z;cases z) h1⟩
  . exact .inr h1
 have nJ:H2 so=some (.dK (aK f e.fs.names)):=by
  have h1:H1 so=some (.dK (aK f e.fs.names)):=h.keep k h.S.so λ⟨l,z⟩=>by cases z
  exact k2 so _ (λz=>by rw[z,hPt] at h1;cases h1) h.sov h1
 have sl2:H2 e.sl=some (.lst e.sx):=l2 (h.keep k h.S.sl λ_=>⟨h.S.vd,h.hsl⟩)
 refine⟨⟨⟨akD,h.S.g.len,l2 hb,Int.le_trans h.S.g.pos hn⟩,hT2,hD2,h.S.u_,λx hx=>?_,l2 lM,h.S.hlb,h.S.hlp,⟨?_,λi v x e1 e2=>?_⟩,nJ,sl2,h.S.vd,h.S.yK⟩,vw2,lk2,h.hsl,h.sov⟩
 . obtain⟨dx,m,hV,h1,h2,_⟩:=vw2 x hx
   exact⟨dx,m,hV,h1,h2⟩
 . show(e.cs++[_]).length=(e.hks++[_]).length
   rw[Q09,Q09,h.S.lk.1]
   rfl
 . obtain⟨c,m,a1,a2,a3,a4,a5,a6,a7,_⟩:=lk2 i v x e1 e2
   exact⟨c,m,a1,a2,a3,a4,a5,a6,a7⟩
theorem bZ.aside {pl:List V}(h:bZ K P2 C CD e src so f pl n H){sl:Addr}{sx:List V}(h1:H sl=some (.lst sx))(h2:sl≠e.b)(h3:sl≠e.ps):bZ K P2 C CD { e with sl:=sl,sx:=sx } src so f pl n H:=
 ⟨h.g,h.lam,h.dk,h.u_,h.vw,h.hl,h.hlb,h.hlp,h.lk,h.so,h1,h2,h3⟩
theorem akE {p q:Addr}{ss:List Str}{fs:Fs}{f:Str->V}(hp:H p=some (.dK (aK f (fs.names.filter λx=>decide (x∈ss)))))(hq:H q=some (.dK (aK f ss)))(hne:p≠q)(nd:fs.names.Nodup)(sI:ss.Nodup)(hin:∀x∈ss,x∈fs.names)(h12:ss.length<=12)(hf:FK fs f):Sm H 6 (.ref p) (.ref q):=by
 refine .inr (.inr (.inr ⟨p,q,ss,_,f,rfl,rfl,hne,hp,hq,h12,(yI nd sI hin).length_eq,λx hx=>⟨List.mem_filter.mpr ⟨hin x hx,decide_eq_true hx⟩,?_⟩⟩))
 obtain⟨k,hk⟩:=Fs.qY (hin x hx)
 exact(hf x k hk).sm
theorem akF {p q:Addr}{fs:Fs}{f:Str->V}(hp:H p=some (.dK (aK f fs.names)))(hq:H q=some (.dK (aK f fs.names)))(hne:p≠q)(h12:fs.names.length<=12)(hf:FK fs f):Sm H 6 (.ref p) (.ref q):=by
 refine .inr (.inr (.inr ⟨p,q,_,_,f,rfl,rfl,hne,hp,hq,h12,rfl,λx hx=>⟨hx,?_⟩⟩))
 obtain⟨k,hk⟩:=Fs.qY hx
 exact(hf x k hk).sm
end
noncomputable def K1 (K:W.Frag) (P2:Addr):Sp:=λvs H Q _=>∃(a:Addr) (ns:List Int),vs=[.ref a]/\jf K H a ns/\ns.length<=63/\bw P2 bK bL H/\∀H',Q (.bl true) H'
theorem G0.one {K:W.Frag}{H:Hp}{a b:Addr}{ns:List Int}{n:Int}(h:jf K H a ns)(hl:ns.length<=63)(hb:H b=none)(hn:0<=n):G0 K (upd H b (.lst [.int n])) a b ns n:=by
 refine⟨?_,hl,aF,hn⟩
 rcases h with⟨o,h⟩|h
 . exact .inl ⟨o,Same.new hb a _ h⟩
 . exact .inr h
theorem akG {ns:List Int}{lo hi:Option Int}{v:V}{i:Nat}(h:(eX (ns.map V.int) lo hi)[i]? =some v):∃z,v=.int z:=by
 have h1:=Q0v h
 unfold eX at h1
 obtain⟨z,_,e⟩:=List.mem_map.mp (List.mem_of_mem_drop (Q36 h1))
 exact⟨z,e.symm⟩
theorem akH {l:List Str}{i:Nat}{x:Str}(nd:l.Nodup)(h:l[i]? =some x):x ∉ l.take i:=λhx=>by
 have hd:x∈l.drop i:=Q0v (i:=0) (by rw[Q2m,Nat.add_zero];exact h)
 rw[<-Q37 i l] at nd
 exact(List.nodup_append.mp nd).2.2 x hx x hd rfl
section
variable {P:Program}{w:World}{K:W.Frag}{mg:Str->Option Value}{base:Heap}
variable {C P2 CD:Addr}
theorem aby:bC ["_law_script","_law_at","_law_fields_here","_law_kind_here","_law_source","_law_desk","_law_hooks","_law_hook","_law_cell","_law_way","_law_good","_law_names_here"] ["_law_script"] (aL (top 82)):=by refine⟨rfl,rfl,rfl,?_,rfl,?_,?_⟩ <;> decide +kernel
theorem akI (T:Tb mg)(TK:j4 K mg C jg eV jh gF)(DK:iu K CD)(akJ:Mk K CD Cy)(akK:mg "Desk"=some (.ref CD))(akL:Meth K CD "hang" Cw)(akM:Meth K CD "seen_by" Cp)(akN:Meth K CD "source_now" Cm)(Dg:Dn K mg "law" ["_law_script"] (top 82) akO akP)(uo:Dn K mg "_law_fields" Av (top 68) HF HN)(akQ:aq P w K mg base aC (5) HF HN Av (YQ K))(jz:Dn K mg "_law_value" nO (top 73) pU pW)(xH:aq P w K mg base aC (4) pU pW nO (YZ K))(dh:Dn K mg "_law_next" cR (top 63) gO gP)(fX:aq P w K mg base aC (1) gO gP cR (nR K))(nZ:Dn K mg "_law_names" tX (top 66) xr xu)(HS:aq P w K mg base aC (2) xr xu tX (Hu K))(u6:Dn K mg "_law_some" Bh (top 75) Ke Kf)(akR:aq P w K mg base aC (1) Ke Kf Bh (aaS))(vf:Dn K mg "_law_one" Bl (top 81) Ku Kv)(akS:aq P w K mg base aC (17) Ku Kv Bl (aa9 K P2 C CD))(oR:Dn K mg "_law_taken" uc (top 77) yG yH)(Ky:aq P w K mg base aC (1) yG yH uc (Km))(dZ:Dn K mg "_law_same" jY (top 74) lJ lK)(jG:aq P w K mg base aC (7) lJ lK jY (sG 6))(uU:JR K "__init__" "Desk.__init__" pK (aJ 52 0) Cy JX)(akT:aq P w K mg base aC (5) Cy JX pK (aak C CD))(uR:Dm K "hang" "Desk.hang" Bc (aJ 52 1) Cw JK)(akU:aq P w K mg base aC (11) Cw JK Bc (aai P2 C CD))(uO:Dm K "seen_by" "Desk.seen_by" jX (aJ 52 6) Cp JF)(akV:aq P w K mg base aC (12) Cp JF jX (aac P2 C CD))(uN:Dm K "source_now" "Desk.source_now" ["self"] (aJ 52 5) Cm JD)(akW:aq P w K mg base aC (4) Cm JD ["self"] (Z_ C CD))(uF:Dm K "__init__" "Take.__init__" Az (aJ 61 0) jg Iw)(akX:aq P w K mg base aC (1) jg Iw Az (Zh K C)):aq P w K mg base aC (18) akO akP ["_law_script"] (K1 K P2):=by
 have CT:=TK.ct
 have eF:=DK.ct
 have akY:=TK.mkk
 have akZ:=TK.m
 refine Dg.F.ok aby (λvs H Q E h=>?_) (λcdv A outer s H vs Q E hr h=>?_)
 . obtain⟨a,ns,rfl,_⟩:=h
   rfl
 obtain⟨a,ns,rfl,hS,h63,hT,done⟩:=h
 have nd:=aby.nd
 have hu:=eZ hr
 refine⟨_,(ao (bf (i:=1) nd rfl (Or.inl rfl) (dG (aj aH ak)))
  (ao (bf (i:=2) nd rfl (Or.inl rfl) (aR akQ (hr.mono (by decide)) uo (aj (pv 0) (aj (pv 1) (aj (aX jt aH (aX cG (aR fX (hr.mono (by decide)) dh (aj (pv 0) (aj (pv 1) ak))) aH)) (aj aH ak))))))
  (ao (bf (i:=3) nd rfl (Or.inl rfl) (cQ (aj bh (aj (pv 2) ak))))
  (ao (bf (i:=4) nd rfl (Or.inl rfl) (aR xH (hr.mono (by decide)) jz (aj (pv 0) (aj (pv 1) (aj (pv 3) (aj aH ak))))))
  (ao (bf (i:=5) nd rfl (Or.inl rfl) (V1 akJ akT (hr.mono (by decide)) rfl akK uU.b .nil eG (aj (pv 3) (aj (iZ tV (by rfl) T.g_ boot_dict (aj (pv 4) ak)) ak))))
  (ao (bf (i:=6) nd rfl (Or.inl rfl) (dG ak))
  (ao (iW PassesOwn.never rfl (akA rfl T.Yw boot_reversed (aR HS (hr.mono (by decide)) nZ (aj (pv 0) (aj (pv 1) (aj (aX jt aH (aX cG (aR fX (hr.mono (by decide)) dh (aj (pv 0) (aj (pv 1) ak))) aH)) ak))))) (bH (i:=7) nd rfl (Or.inl rfl)) (ao (iB (pF PySem.F.plainAttrs_list PySem.F.slot_list_append PySem.F.type_list_append zP (pv 6) (aj (cQ (aj (pv 7) (aj (aR akR (hr.mono (by decide)) u6 (aj (jc (g:=(cL 0)) (tt:=gn) (te:=(bJ (m9 K) (bB 0) (tC (.int 0)))) (own:=["_law_pair"]) rfl (dw.of (N:=["_law_script","_law_at","_law_fields_here","_law_kind_here","_law_source","_law_desk","_law_hooks","_law_hook","_law_cell","_law_way","_law_good","_law_names_here"]) (sc:=aL (top 82)) rfl rfl rfl (by decide +kernel)) (lg (pv 2)) (λ_ _ _ _ _=>(bH (i:=0) (show(["_law_pair","_law_script","_law_at","_law_fields_here","_law_kind_here","_law_source","_law_desk","_law_hooks","_law_hook","_law_cell","_law_way","_law_good","_law_names_here"]:List Str).Nodup by decide +kernel) rfl (Or.inl rfl) (.inr rfl))) (λ_ _ _ _ _=>i_) (λ_ _ _ _ _=>(aZ bF (pv 0) aH (λ_ _=>rfl)))) (aj (aR fX (hr.mono (by decide)) dh (aj (pv 0) (aj (pv 1) ak))) ak))) ak))) ak)))
  (aB (iB (fV (pv 5) eF akL akU (hr.mono (by decide)) uR.b .nil eG (aj (pv 7) (aj (V1 akY akX (hr.mono (by decide)) rfl akZ uF.b .nil eG (aj (iZ FW (by rfl) T.jV boot_list (aj (aZ bF (aZ gY (pv 6) (adx adz aH) (λ_ _=>rfl)) aH (λ_ _=>rfl)) ak)) ak)) ak)))))))
  (ao (iW PassesOwn.never rfl (o_ (vX FN (pv 0) vV (vW aH))) (bH (i:=8) nd rfl (Or.inl rfl)) (ao (bf (i:=9) nd rfl (Or.inl rfl) (aX cG (aX jt (aX cG (pv 8) aH) (aR fX (hr.mono (by decide)) dh (aj (pv 0) (aj (pv 1) ak)))) aH))
  (ao (sY (aR akS (hr.mono (by decide)) vf (aj (pv 0) (aj (pv 1) (aj (pv 5) (aj (pv 6) (aj (pv 2) (aj (pv 4) (aj (pv 9) ak)))))))) (gh rfl (cF (bH (i:=4) nd rfl (Or.inl rfl)) (cF (bH (i:=10) nd rfl (Or.inl rfl)) f9))))
  (ao (sY (aZ gY (pv 6) (aX cG (aR fX (hr.mono (by decide)) dh (aj (pv 0) (aj (pv 1) ak))) (aY eY (by rfl) T.dU PySem.boot_len (aj (pv 6) ak))) (λ_ _=>rfl)) (gh rfl (cF (bH (i:=7) nd rfl (Or.inl rfl)) (cF (bH (i:=11) nd rfl (Or.inl rfl)) f9))))
  (ao (aV (PW.pt (jq (iV (bY (pv 10))) (jo (iV (bY (aR jG (hr.mono (by decide)) dZ (aj (fV (pv 5) eF akM akV (hr.mono (by decide)) uO.b .nil eG (aj (pv 7) ak)) (aj (aR Ky (hr.mono (by decide)) oR (aj (pv 11) (aj (pv 4) ak))) ak)))))))) (aB (aN o7)) aU)
  (aB (aV (iV (bY (aR jG (hr.mono (by decide)) dZ (aj (adP (pv 5) eF akN akW (hr.mono (by decide)) uN.b .nil eG) (aj (pv 4) ak))))) (aB (aN o7)) aU)))))))
  (aB (aN o7)))))))))),?_⟩
 refine⟨gH,λb hb=>?_⟩
 have s0:Same H (upd H b (.lst [.int 0])):=Same.new hb
 have g0:G0 K (upd H b (.lst [.int 0])) a b ns 0:=G0.one hS h63 hb (by decide)
 have hT0:=hT.same s0
 generalize upd H b (.lst [.int 0])=H0 at s0 g0 hT0
 refine⟨_,rfl,_,rfl,_,rfl,_,rfl,a,b,ns,0,rfl,g0,by decide,λr H1 r0 r1 s1 h1=>?_⟩
 have g1:G0 K H1 a b ns (0+1):=g0.go s1 h1 (by decide)
 have hT1:=hT0.sb g0.at_ s1
 obtain⟨m,hm⟩:∃m:Nat,1+r % 6=(m:Int):=⟨(1+r % 6).toNat,by omega⟩
 refine⟨_,_,rfl,rfl,(by show(0:Int)<6;decide),_,_,rfl,rfl,a,b,ns,_,m,(by show [V.ref a,V.ref b,V.int (1+r % 6),V.int 0]=_;rw[hm]),by omega,g1,by decide,λt xs fs n2 H2 s2 h2 z1 z2 ht hfa hnd hlen K3 hso xG=>?_⟩
 have g2:G0 K H2 a b ns n2:=g1.go s2 h2 z1
 have hT2:=hT1.sb g1.at_ s2
 have xJ:xs.length=fs.names.length:=FA.len fs hfa
 have h8:fs.names.length<=8:=by omega
 have hf1:1<=fs.names.length:=by omega
 clear s1 s2 g1 g0 hT1 hT0 hT hS
 refine⟨_,rfl,cX,λkk hkk=>?_⟩
 have s3:Same H2 (upd H2 kk (.tup [.str "record",.ref t])):=Same.new hkk
 have K4:upd H2 kk (.tup [.str "record",.ref t]) kk=some (.tup [.str "record",.ref t]):=aF
 generalize upd H2 kk (.tup [.str "record",.ref t])=H3 at s3 K4
 have yN:dI H3 kk t xs fs:=⟨K4,s3 _ _ ht,FA.mono (Tu.of s3) fs hfa,hnd,by omega,K3.W,hso⟩
 have g3:G0 K H3 a b ns n2:=g2.go (SB.of s3) (s3 _ _ g2.at_) (Q14 _)
 have mQ:=hT2.same s3
 refine⟨_,rfl,_,rfl,_,rfl,a,b,ns,n2,kk,t,xs,fs,0,rfl,g3,by omega,yN.at_,yN.tu,yN.fa,K3,hnd,h8,λso f n4 H4 s4 h4 z3 z4 ak0 Dh abz=>?_⟩
 have hF:FK fs f:=λx k e=>by
  obtain⟨i,hi⟩:=Fs.Cr e
  exact abz i x k hi
 have g4:G0 K H4 a b ns n4:=g3.go s4 h4 z3
 have kd4:dI H4 kk t xs fs:=yN.mono (s4.tu g3.at_)
 have Cg:=mQ.sb g3.at_ s4
 clear s3 s4 g3 mQ hT2 hfa ht K4 hkk yN g2 h2 h1 abz
 refine⟨_,rfl,_,rfl,so,_,rfl,Dh,λds hds=>?_⟩
 have s5:=Same.new hds (o:=.dK (aK f fs.names))
 have e5:upd H4 ds (.dK (aK f fs.names)) ds=some (.dK (aK f fs.names)):=aF
 generalize upd H4 ds (.dK (aK f fs.names))=H5 at s5 e5
 intro d dd hd hdd hdv
 have k5:Same H5 (upd (upd H5 dd (.own d)) d (.ins CD dd [])):=λc o e=>by rw[au (aO e hd),au (aO e hdd)];exact e
 have x5:upd (upd H5 dd (.own d)) d (.ins CD dd []) d=some (.ins CD dd []):=aF
 generalize upd (upd H5 dd (.own d)) d (.ins CD dd [])=H5' at k5 x5
 have jJ:=s5.trans k5
 refine⟨d,dd,kk,t,ds,xs,fs,f,rfl,x5,kd4.mono (Tu.of jJ),K3,k5 _ _ e5,hF,λsrc vv ps H6 k6 ak1 K6 K7 vg=>⟨rfl,?_⟩⟩
 have yO:Same H4 H6:=λc o e=>k6 c o (aO (s5 _ _ e) hd) (jJ _ _ e)
 have abB:ps≠b:=λz=>by rw[z,jJ _ _ g4.at_] at K7;cases K7
 have ak2:so≠vv:=λz=>by rw[<-z,jJ _ _ Dh] at K6;cases K6
 have rP:=Cg.same yO
 have abC:=yO _ _ Dh
 have Di:=yO _ _ g4.at_
 have abD:G0 K H6 a b ns n4:=g4.go (SB.of yO) Di (Q14 _)
 clear yO jJ k6 k5 x5 s5 e5 K6 ak1 K7 Cg kd4 g4 Dh ak0 h4
 refine⟨fM,λhl lM=>?_⟩
 have s7:=Same.new lM (o:=.lst [])
 have e7:upd H6 hl (.lst []) hl=some (.lst []):=aF
 have hlb:hl≠b:=λz=>by rw[z,Di] at lM;cases lM
 have hlp:hl≠ps:=λz=>by rw[z,vg.past] at lM;cases lM
 generalize upd H6 hl (.lst [])=H7 at s7 e7
 have g7:G0 K H7 a b ns n4:=abD.go (SB.of s7) (s7 _ _ Di) (Q14 _)
 refine⟨_,rfl,_,rfl,_,rfl,_,rfl,a,b,ns,n4,rfl,g7,by omega,λr8 H8 r80 r81 s8 h8'=>?_⟩
 have g8:G0 K H8 a b ns (n4+1):=g7.go s8 h8' (by omega)
 obtain⟨m8,hm8⟩:∃m:Nat,1+r8 % 4=(m:Int):=⟨(1+r8 % 4).toNat,by omega⟩
 refine⟨_,_,rfl,rfl,(by show(0:Int)<4;decide),_,_,rfl,rfl,a,b,ns,_,m8,(by show [V.ref a,V.ref b,V.int (1+r8 % 4)]=_;rw[hm8]),by omega,g8,by omega,λDj nms H9 s9 h9 ak5 Dk am7 ak6 _ _=>?_⟩
 have K8:=vg.same s7
 have hT7:=rP.same s7
 have yP:=s7 _ _ abC
 clear s7 vg rP abC lM Di abD g8
 have hb7:=g7.at_
 have hm1:1<=nms.length:=by omega
 have Dl:=s8.trans s9
 have abF:H9 ps=some (.lst []):=Dl _ _ abB K8.past
 have abG:H9 hl=some (.lst []):=Dl _ _ hlb e7
 have abH:∀{c:Addr},H9 c=some (.lst [])->Dj≠c:=λ{c} hc z=>by
  rw[z,hc] at Dk
  have h1:([]:List V)=nms.map V.str:=by injection Dk with h1;injection h1
  have:=congrArg List.length h1
  rw[Q06] at this
  simp at this
  omega
 have S7:bZ K P2 C CD ⟨a,b,d,dd,kk,t,vv,ps,hl,ns,xs,fs,[],[],hl,[]⟩ src so f [] n4 H7:=⟨g7,hT7,K8,abB,(λh hh=>nomatch hh),e7,hlb,hlp,⟨rfl,λi v h e=>by cases e⟩,yP,e7,hlb,hlp⟩
 have S9:bZ K P2 C CD ⟨a,b,d,dd,kk,t,vv,ps,hl,ns,xs,fs,[],[],Dj,nms.map V.str⟩ src so f [] (n4+1+1) H9:=(S7.sb Dl h9 (by omega)).aside Dk ak5 (abH abF)
 have ak8:=abH abG
 clear S7 g7 hT7 K8 e7 yP Dl s8 s9 abF abG hb7
 refine⟨Dj,_,rfl,aG.of Dk,akB (xs:=nms.map V.str) (λi σ H'=>(∃x,σ=[some (.ref a),some (.ref b),some (.ref t),some (.ref kk),some (.ref so),some (.ref d),some (.ref hl),x,none,none,none,none])/\∃(hks:List Hk) (cs:List V) (n':Int),Lp K P2 C CD ⟨a,b,d,dd,kk,t,vv,ps,hl,ns,xs,fs,hks,cs,Dj,nms.map V.str⟩ src so f n' H'/\n4+2<=n'/\n'<=n4+2+i/\hks.length=i/\hks.map (·.1)=nms.reverse.take i)
  ⟨⟨_,rfl⟩,[],[],n4+1+1,⟨S9,(λh hh=>nomatch hh),(λi v h e=>by cases e),ak8,ak2⟩,by omega,by omega,rfl,rfl⟩ ?_ ?_ ?_⟩
 . rintro i σ H' _ ⟨_,hks,cs,n',L,_⟩
   exact aG.of L.S.sl
 . rintro i v σ H' hv ⟨⟨x,rfl⟩,hks,cs,n',L,z5,z6,hlk,hmap⟩
   obtain⟨nm,hnm,rfl⟩:∃nm,nms.reverse[i]? =some nm/\v=.str nm:=by
    rw[<-Q34,Q0g] at hv
    cases e:nms.reverse[i]? with
    |none=>rw[e] at hv;cases hv
    |some nm=>rw[e] at hv;exact⟨nm,rfl,(Option.some.inj hv).symm⟩
   have hi4:i<nms.length:=by have:=(List.getElem?_eq_some_iff.mp hnm).1;rw[Q1m] at this;exact this
   have g':G0 K H' a b ns n':=L.S.g
   have gB:=g'.at_
   have Dp:H' hl=some (.lst cs):=L.S.hl
   have yQ:dI H' kk t xs fs:=L.S.dk.kd
   have ak9:H' ps=some (.lst []):=L.S.dk.past
   have hcl:cs.length=hks.length:=L.S.lk.1
   refine⟨_,rfl,.inl ⟨rfl,_,aG.of Dp⟩,_,rfl,_,rfl,t,rfl,⟨_,aD.of yQ.tu⟩,λj k ys H2=>H2=H'/\k=xs.length - j/\j<=xs.length/\ys=(fs.names.take j).map V.str,⟨xs.length,rfl,by simp,Q0b _,rfl⟩,?_⟩
   rintro j k ys H2 ⟨rfl,rfl,hj,rfl⟩
   by_cases hlt:j<xs.length
   . refine .inr ⟨⟨xs,xs[j],aD.of yQ.tu,by simp[hlt]⟩,by rw[Q06,Q0i];exact cW (by omega),λx H2 y=>?_⟩
     obtain⟨rfl,y⟩:=y
     obtain⟨c,u,nm2,k,rfl,hat,hc,hk⟩:=FA.get fs yQ.fa (y xs (aD.of yQ.tu))
     have ala:fs.names[j]? =some nm2:=by rw[Fs.gZ,hat];rfl
     refine⟨rfl,yes (bR ?_)⟩
     refine⟨_,rfl,c,_,_,_,rfl,rfl,aD.of hc,rfl,xs.length - (j+1),by omega,rfl,rfl,hlt,?_⟩
     rw[Q0p,ala,Q0k]
     rfl
   . refine .inl ⟨⟨xs,aD.of yQ.tu,Q11 hlt⟩,λpl hpl=>?_⟩
     rw[show fs.names.take j=fs.names from Q1b (by omega)]
     have Dq:=Same.new hpl (o:=.lst (fs.names.map V.str))
     have e10:upd H2 pl (.lst (fs.names.map V.str)) pl=some (.lst (fs.names.map V.str)):=aF
     have alb:pl≠b:=λz=>by rw[z,gB] at hpl;cases hpl
     generalize upd H2 pl (.lst (fs.names.map V.str))=yR at Dq e10
     refine⟨_,rfl,_,rfl,a,b,ns,n',rfl,g'.go (SB.of Dq) (Dq _ _ gB) (Q14 _),by omega,λr11 K9 _ _ yS h11=>?_⟩
     refine⟨pl,r11,fs.names,rfl,yS _ _ alb e10,hnd,by omega,λnl ss K_ s12 hnl qj hsn alc lN=>?_⟩
     refine⟨cX,λtq dD=>?_⟩
     have oU:=Same.new dD (o:=.tup [.str nm,.ref nl])
     have Dr:upd K_ tq (.tup [.str nm,.ref nl]) tq=some (.tup [.str nm,.ref nl]):=aF
     generalize upd K_ tq (.tup [.str nm,.ref nl])=sO at oU Dr
     have kA0:SB b H2 K9:=(SB.of Dq).trans yS
     have kA1:SB b H2 K_:=kA0.trans (SB.of s12)
     have kA:SB b H2 sO:=kA1.trans (SB.of oU)
     have ald:sO b=some (.lst [.int (n'+1)]):=oU _ _ (s12 _ _ h11)
     have ale:sO hl=some (.lst cs):=kA _ _ hlb Dp
     have nlb:nl≠b:=λz=>by rw[z,h11] at qj;cases qj
     have La:H2 nl=none:=by
      cases e:H2 nl with
      |none=>rfl
      |some o=>rw[kA0 _ _ nlb e] at qj;cases qj
     have nlh:nl≠hl:=λz=>by rw[z,Dp] at La;cases La
     have tqh:tq≠hl:=λz=>by rw[z,kA1 _ _ hlb Dp] at dD;cases dD
     refine⟨hl,_,_,rfl,rfl,ale,cW (by omega),?_⟩
     have vh:upd sO hl (.lst (cs++[.ref tq])) hl=some (.lst (cs++[.ref tq])):=aF
     have k14:∀c o,c≠hl->sO c=some o->upd sO hl (.lst (cs++[.ref tq])) c=some o:=λc o hc e=>by rw[au hc];exact e
     generalize upd sO hl (.lst (cs++[.ref tq]))=vo at vh k14
     have ntq:=k14 _ _ tqh Dr
     have nnl:=k14 _ _ nlh (oU _ _ hnl)
     have abM:=k14 _ _ (Ne.symm hlb) ald
     have kB:∀c o,c≠b->c≠hl->H2 c=some o->vo c=some o:=λc o n1 n2 e=>k14 c o n2 (kA c o n1 e)
     have ali:vo d=some (jk CD dd kk src vv ps):=(L.dk kB).ob
     refine⟨_,rfl,d,dd,_,rfl,ali,rfl,_,rfl,_,rfl,_,rfl,hl,_,_,_,rfl,rfl,aG.of vh,akC _ _,tq,_,_,_,rfl,rfl,aD.of ntq,rfl,nl,_,rfl,.inl (aG.of nnl),λDs alj=>?_⟩
     have Dt:=Same.new alj (o:=.lst (ss.map V.str))
     have e15:upd vo Ds (.lst (ss.map V.str)) Ds=some (.lst (ss.map V.str)):=aF
     generalize upd vo Ds (.lst (ss.map V.str))=Du at Dt e15
     intro vw dx hvw hdx am9
     have Dv:Same Du (upd (upd Du dx (.own vw)) vw (.ins C dx [])):=λc o e=>by rw[au (aO e hvw),au (aO e hdx)];exact e
     have x16:upd (upd Du dx (.own vw)) vw (.ins C dx []) vw=some (.ins C dx []):=aF
     generalize upd (upd Du dx (.own vw)) vw (.ins C dx [])=H16 at Dv x16
     refine⟨vw,Ds,dx,ss,rfl,x16,aG.of (Dv _ _ e15),λnv Dw oK k17 aln alo=>⟨rfl,?_⟩⟩
     have yU:Same vo Dw:=λc o e=>k17 c o (aO (Dt _ _ e) hvw) (Dv _ _ (Dt _ _ e))
     have Lb:Same vo H16:=Dt.trans Dv
     have kC:∀c o,c≠b->c≠hl->H2 c=some o->Dw c=some o:=λc o n1 n2 e=>yU _ _ (kB c o n1 n2 e)
     have alp:cN Dw C CD d dd kk t src vv ps xs fs f hks []:=L.dk kC
     have nvb:nv≠b:=λz=>by rw[z,Lb _ _ abM] at oK;cases oK
     have nvh:nv≠hl:=λz=>by rw[z,Lb _ _ vh] at oK;cases oK
     have Ld:H2 nv=none:=by
      cases e:H2 nv with
      |none=>rfl
      |some o=>rw[Lb _ _ (kB _ _ nvb nvh e)] at oK;cases oK
     have als:nv≠ps:=λz=>by rw[z,ak9] at Ld;cases Ld
     have hnew:nm ∉ hks.map (·.1):=by
      rw[hmap]
      exact akH ((Q35 nms).nodup_iff.mpr ak6) hnm
     have abP:dX Dw C vw dx nv ss:=⟨aln,alo,hsn,lN⟩
     refine⟨d,dd,kk,t,src,vv,ps,xs,fs,hks,[],(nm,vw,ss),dx,nv,f,rfl,alp,hnew,by omega,abP,als,alc,L.lam kC,λH18 k18 alv alw=>?_⟩
     refine⟨⟨_,rfl⟩,hks++[(nm,vw,ss)],cs++[.ref tq],n'+1,L.next (hk:=(nm,vw,ss)) kC (yU _ _ abM) (by omega) (yU _ _ vh) (yU _ _ ntq) (yU _ _ nnl) La abP Ld k18 alv alw,by omega,by omega,by rw[Q09,hlk];rfl,?_⟩
     rw[Q0k,hmap,Q0p,hnm]
     rfl
 . rintro σ yR ⟨⟨x,rfl⟩,hks,cs,n',L,z5,z6,hlk,hmap⟩
   have hk1:1<=hks.length:=by rw[hlk,Q06];exact hm1
   have hk4:n'<=n4+10:=by rw[Q06] at z6;omega
   have S:=L.S
   have g10:G0 K yR a b ns n':=L.S.g
   have alx:=g10.at_
   have aly:yR ps=some (.lst []):=L.S.dk.past
   clear L S9 hmap hlk
   refine⟨_,rfl,_,rfl,a,_,rfl,g10.jy.sq,λsl hsl=>?_⟩
   have vd:sl≠b:=λz=>by rw[z,alx] at hsl;cases hsl
   have yK:sl≠ps:=λz=>by rw[z,aly] at hsl;cases hsl
   have alz:(eX (ns.map V.int) none (some 63)).length<=63:=Q0e (Fx _ _ _) (by rw[Q06];exact h63)
   have hint:∀(i:Nat) v,(eX (ns.map V.int) none (some 63))[i]? =some v->∃z,v=.int z:=λi v h=>akG h
   generalize eX (ns.map V.int) none (some 63)=cv at alz hint
   have yS:=Same.new hsl (o:=.lst cv)
   have vp:upd yR sl (.lst cv) sl=some (.lst cv):=aF
   generalize upd yR sl (.lst cv)=K9 at yS vp
   have S11:bZ K P2 C CD ⟨a,b,d,dd,kk,t,vv,ps,hl,ns,xs,fs,hks,cs,sl,cv⟩ src so f [] n' K9:=(S.same yS).aside vp vd yK
   refine⟨sl,rfl,⟨_,aG.of vp⟩,Ey (xs:=cv) (λi σ H'=>∃x7 x8 x9 x10 x11 so',σ=[some (.ref a),some (.ref b),some (.ref t),some (.ref kk),some (.ref so'),some (.ref d),some (.ref hl),x7,x8,x9,x10,x11]/\∃(src':Addr) (f':Str->V) (gU:List V) (n2:Int),bZ K P2 C CD ⟨a,b,d,dd,kk,t,vv,ps,hl,ns,xs,fs,hks,cs,sl,cv⟩ src' so' f' gU n2 H'/\gU.length<=i/\n2<=n'+30 * i)
    ⟨_,_,_,_,_,so,rfl,src,f,[],n',S11,Q02 _,by omega⟩ ?_ ?_ ?_⟩
   . rintro i σ H' _ ⟨x7,x8,x9,x10,x11,so',_,src',f',gU,n2,S,_⟩
     exact aG.of S.sl
   . rintro i v σ H' hv ⟨x7,x8,x9,x10,x11,so',rfl,src',f',gU,n2,S,hpl,hn2⟩
     have anb:i<63:=by have:=(List.getElem?_eq_some_iff.mp hv).1;omega
     obtain⟨z,rfl⟩:=hint i v hv
     have g':G0 K H' a b ns n2:=S.g
     refine⟨_,rfl,_,_,rfl,rfl,(by show(0:Int)<97;decide),_,rfl,_,rfl,a,b,ns,n2,rfl,g',by omega,λr2 H2 r20 r21 s2 h2=>?_⟩
     refine⟨_,_,rfl,rfl,_,_,rfl,rfl,(by show(0:Int)<7;decide),?_⟩
     have S2:=S.sb s2 h2 (by omega)
     refine⟨_,rfl,_,rfl,_,rfl,_,rfl,_,rfl,_,rfl,_,rfl,⟨a,b,d,dd,kk,t,vv,ps,hl,ns,xs,fs,hks,cs,sl,cv⟩,src',so',f',gU,n2+1,_,rfl,Q0w _ (by decide),Q0x _ (by decide),S2,by omega,by omega,hk1,hf1,xG,λrr nJ yV f2 sH n3 H3 S3 z7 z8 z9 hrr=>?_⟩
     refine⟨rr,_,rfl,aD.of hrr,rfl,_,_,rfl,_,_,rfl,rfl,?_⟩
     have g3:G0 K H3 a b ns n3:=S3.g
     refine⟨_,rfl,_,rfl,_,rfl,a,b,ns,n3,rfl,g3,by omega,λr4 H4 r40 r41 s4 h4=>?_⟩
     have S4:=S3.sb s4 h4 (by omega)
     have abR:H4 hl=some (.lst cs):=S4.hl
     have lk4:sJ b ps H4 cs hks:=S4.lk
     have hcl:cs.length=hks.length:=lk4.1
     obtain⟨j,hj⟩:∃j:Nat,r4 % (cs.length:Int)=(j:Int):=⟨(r4 % (cs.length:Int)).toNat,by have:=Q0w r4 (show(cs.length:Int)≠0 by omega);omega⟩
     have hjl:j<hks.length:=by have:=Q0x r4 (show(0:Int)<(cs.length:Int) by omega);omega
     obtain⟨c,nn,hcj,hc,hnn,hsn,lN,hnb,hnp⟩:=lk4.get hjl
     refine⟨_,rfl,hl,_,rfl,.inl (aG.of abR),_,_,rfl,rfl,(by show(0:Int)<(cs.length:Nat);omega),hl,_,_,.ref c,rfl,rfl,aG.of abR,(by show dO cs (r4 % (cs.length:Int))=_;rw[hj];exact jO hcj),c,_,rfl,aD.of hc,rfl,_,_,rfl,_,_,rfl,rfl,?_⟩
     have hmem:hks[j]∈hks:=Q0r hjl
     generalize hks[j]=h at hc hnn hsn lN hmem ⊢
     have Dy:cN H4 C CD d dd kk t yV vv ps xs fs f2 hks sH:=S4.dk
     have hss:=Dy.inn h hmem
     refine⟨_,rfl,true,rfl,bD ?_⟩
     refine⟨_,rfl,d,dd,_,rfl,Dy.ob,rfl,_,rfl,d,dd,kk,t,yV,vv,ps,xs,fs,hks,sH,h,f2,rfl,Dy,hmem,S4.lam,λp5 H5 k5 hT5 anc xO=>?_⟩
     have S5:=S4.kp k5 hT5
     have KY:H5 nJ=some (.dK (aK f2 fs.names)):=S5.so
     have alB:=k5.keep S4.lam hnn (by intro ps z;cases z)
     refine⟨_,rfl,_,rfl,nn,nJ,_,h.2.2,f2,rfl,alB,hsn,lN,KY,(λx hx=>by rw[gQ,if_pos (hss x hx)]),λp6 H6 s6 abT hp6=>?_⟩
     have S6:=S5.same s6
     have hne:p5≠p6:=λz=>by rw[<-z,xO] at abT;cases abT
     refine⟨.ref p5,.ref p6,rfl,akE (s6 _ _ xO) hp6 hne hnd hsn hss lN Dy.fk,λH7 s7=>⟨true,rfl,bD ?_⟩⟩
     have S7:=S6.same s7
     have Le:cN H7 C CD d dd kk t yV vv ps xs fs f2 hks sH:=S7.dk
     have yP:H7 nJ=some (.dK (aK f2 fs.names)):=S7.so
     refine⟨_,rfl,d,dd,_,rfl,Le.ob,rfl,d,dd,kk,t,yV,vv,ps,xs,fs,hks,sH,f2,rfl,Le,λp8 H8 s8 abU hp8=>?_⟩
     have S8:=S7.same s8
     refine⟨_,rfl,.ref p8,.ref nJ,rfl,akF hp8 (s8 _ _ yP) (λz=>by rw[z,yP] at abU;cases abU) (by omega) Le.fk,λH9 s9=>⟨true,rfl,bD ?_⟩⟩
     exact⟨_,_,_,_,_,nJ,rfl,yV,f2,sH,n3+1,S8.same s9,by omega,by omega⟩
   . rintro σ H' ⟨x7,x8,x9,x10,x11,so',rfl,_⟩
     exact done H'
end
end Pb
namespace Pb
open PySem L2
noncomputable abbrev abV (K:W.Frag) (x ql:Str) (st:Stmt) (f:Addr):Prop:=∃(oc:Value) (od:Option Addr) (kV doc pm:Value) (an:Option Addr) (cdv ct:Value) (osl:Array (Option Value)),K.lookup f=some ⟨oc,od,.func (W.fnOf x ql (fO st) (dW st) (aL st) .none kV doc pm an cdv ct),osl⟩/\W.codeIn K cdv ql=true/\W.keepIn K (.ref f)=true
noncomputable abbrev b_ (K:W.Frag) (x:Str) (st:Stmt):Prop:=∃f,W.nsIn K mainGlobals x=some (some (.ref f))/\abV K x x st f
noncomputable abbrev HB (x ql:Str) (ps:List Str) (st:Stmt):Prop:=∀(kV doc pm:Value) (an:Option Addr) (cdv ct:Value) (us:List Value),us.length=ps.length->bindArgs (W.fnOf x ql (fO st) (dW st) (aL st) .none kV doc pm an cdv ct) ⟨us,[]⟩=pure (ps.zip us)
theorem cA {K:W.Frag}{mg:Str->Option Value}{h:Heap}{x:Str}{ps:List Str}{st:Stmt}(X:K.In h)(G:h.Ns mainGlobals mg)(a:b_ K x st)(hb:HB x x ps st):∃f d,Dn K mg x ps st f d/\∀us:List Value,us.length=ps.length->bindArgs d ⟨us,[]⟩=pure (ps.zip us):=by
 obtain⟨f,a,oc,od,kV,doc,pm,an,cdv,ct,osl,l,c,k⟩:=a
 have F:=Wt (st:=st) l c k
 exact⟨f,_,⟨F,F.binds hb,W.mg_of X G a⟩,hb kV doc pm an cdv ct⟩
noncomputable abbrev dj (K:W.Frag) (C ns:Addr) (x ql:Str) (st:Stmt) (f:Addr):Prop:=W.nsIn K ns x=some (some (.ref f))/\abV K x ql st f/\W.isFn K (.ref f)=true/\W.findIn K (.ref C) x=some (some (.ref f))
theorem iU {K:W.Frag}{C ns:Addr}{x ql:Str}{ps:List Str}{st:Stmt}{f:Addr}(a:dj K C ns x ql st f)(hb:HB x ql ps st):∃d,Dm K x ql ps st f d:=by
 obtain⟨_,⟨oc,od,kV,doc,pm,an,cdv,ct,osl,l,c,k⟩,_,_⟩:=a
 have F:lC K x ql st f _:=⟨⟨oc,od,kV,doc,pm,an,cdv,ct,osl,rfl,l,c⟩,k⟩
 exact⟨_,F,F.binds hb⟩
theorem alD {K:W.Frag}{x:Str}{st:Stmt}{f:Addr}{oc:Value}{od an:Option Addr}{kV doc pm cdv ct:Value}{osl:Array (Option Value)}(a:W.nsIn K mainGlobals x=some (some (.ref f)))(l:K.lookup f=some ⟨oc,od,.func (W.fnOf x x (fO st) (dW st) (aL st) .none kV doc pm an cdv ct),osl⟩)(c:W.codeIn K cdv x=true)(k:W.keepIn K (.ref f)=true):b_ K x st:=⟨f,a,oc,od,kV,doc,pm,an,cdv,ct,osl,l,c,k⟩
theorem alE {K:W.Frag}{C ns:Addr}{x ql:Str}{st:Stmt}{f:Addr}{oc:Value}{od an:Option Addr}{kV doc pm cdv ct:Value}{osl:Array (Option Value)}(a:W.nsIn K ns x=some (some (.ref f)))(l:K.lookup f=some ⟨oc,od,.func (W.fnOf x ql (fO st) (dW st) (aL st) .none kV doc pm an cdv ct),osl⟩)(c:W.codeIn K cdv ql=true)(k:W.keepIn K (.ref f)=true)(h:W.isFn K (.ref f)=true)(g:W.findIn K (.ref C) x=some (some (.ref f))):dj K C ns x ql st f:=⟨a,⟨oc,od,kV,doc,pm,an,cdv,ct,osl,l,c,k⟩,h,g⟩
theorem dj.meth {K:W.Frag}{C ns:Addr}{x ql:Str}{st:Stmt}{f:Addr}(a:dj K C ns x ql st f):Meth K C x f:=by
 obtain⟨_,⟨_,_,_,_,_,_,_,_,_,_,_,k⟩,h1,h2⟩:=a
 exact⟨h2,h1,k⟩
noncomputable abbrev abW (K:W.Frag) (C:Addr):Prop:=W.plainGet K C Str.empty=true/\W.hasDictIn K C=true/\W.plainOver K C=true/\W.findIn K (.ref C) "__setattr__"=some (some (.builtin "object.__setattr__"))/\W.makesIn K C=true/\W.keepIn K (.ref C)=true
theorem len1 {α:Type}{l:List α}(h:l.length=1):∃a,l=[a]:=match l,h with|[a],_=>⟨a,rfl⟩
theorem len2 {α:Type}{l:List α}(h:l.length=2):∃a b,l=[a,b]:=match l,h with|[a,b],_=>⟨a,b,rfl⟩
theorem kj {α:Type}{l:List α}(h:l.length=3):∃a b c,l=[a,b,c]:=match l,h with|[a,b,c],_=>⟨a,b,c,rfl⟩
theorem sS {α:Type}{l:List α}(h:l.length=4):∃a b c d,l=[a,b,c,d]:=match l,h with|[a,b,c,d],_=>⟨a,b,c,d,rfl⟩
theorem alF {α:Type}{l:List α}(h:l.length=5):∃a b c d e,l=[a,b,c,d,e]:=match l,h with|[a,b,c,d,e],_=>⟨a,b,c,d,e,rfl⟩
theorem alG {α:Type}{l:List α}(h:l.length=7):∃a b c d e f g,l=[a,b,c,d,e,f,g]:=match l,h with|[a,b,c,d,e,f,g],_=>⟨a,b,c,d,e,f,g,rfl⟩
theorem alH {K:W.Frag}{h:Heap}{f:Addr}(X:K.In h)(e:W.isFn K (.ref f)=true):∃o,h.get? f=some o/\o.cls=.type "function":=by
 have e:W.typeIn K (.ref f)=some (.type "function"):=beq_iff_eq.mp e
 obtain⟨o,ho,hc⟩:=Option.map_eq_some_iff.mp (show(K.lookup f).map (·.cls)=_ from e)
 exact⟨o,X _ _ ho,hc⟩
open PySem.W in
theorem alI {K:Frag}{h:Heap}{N:Addr}{n:Str}{v:Value}(X:K.In h)(ok:nsOkIn K N=true)(e:nsIn K N n=some (some v)):h.nsMap N n=some v:=by
 obtain⟨o,es,ep,ho,hd,_,hf⟩:h.Ns N (h.nsMap N):=.of_isNs (isNs_of_in X ok)
 unfold nsIn at e
 split at e
 . rename_i c d es' n' sl q
   have:=X _ _ q
   rw[ho] at this
   cases this
   cases hd
   split at e
   . rename_i e' he
     cases e
     rw[<-hf]
     unfold nsFind findBy
     rw[<-Q2h,he]
     rfl
   . split at e <;> cases e
 . cases e
open PySem.W in
noncomputable def Lf (K:Frag) (C fI:Addr) (bmB:List Value) (newId:String):Bool:=match K.lookup C with
 |some ⟨.type "type",_,.cls cd,sl⟩=>(match cd.mro,sl.toList with
  | .ref C'::bm,[_,_,_,_,some (.builtin n),_]=>C' == C && n == newId && !cd.hasDel && tailIn K bmB bm && nsOkIn K cd.ns && nsIn K cd.ns "__init__" == some (some (.ref fI))
  |_,_=>false)
 |_=>false
theorem alJ {K:W.Frag}{h:Heap}{C fI:Addr}{iH:List Value}{nid:String}(X:K.In h)(q:Lf K C fI iH nid=true)(hf:W.isFn K (.ref fI)=true):pI h C fI iH nid:=by
 unfold Lf at q
 split at q
 next dct dat slo look=>
  split at q
  next D tl s0 s1 s2 s3 nm s5 hmro hsl=>
   obtain⟨q,Lg⟩:=Bool.and_eq_true_iff.mp q
   obtain⟨q,hNs⟩:=Bool.and_eq_true_iff.mp q
   obtain⟨q,hTail⟩:=Bool.and_eq_true_iff.mp q
   obtain⟨q,vq⟩:=Bool.and_eq_true_iff.mp q
   obtain⟨hC,hId⟩:=Bool.and_eq_true_iff.mp q
   have hC:=beq_iff_eq.mp hC
   have hId:=beq_iff_eq.mp hId
   have Lg:=beq_iff_eq.mp Lg
   have vq:dat.hasDel=false:=by
    cases e:dat.hasDel with
    |false=>rfl
    |true=>rw[e] at vq;cases vq
   subst hC
   subst hId
   obtain⟨c1,c2,c3,c4,c5,c6,c7,c8,c9,X8,X_⟩:=dat
   have hmro:c3=_:=hmro
   have vq:X_=false:=vq
   subst hmro
   subst vq
   obtain⟨sl⟩:=slo
   have hsl:sl=_:=hsl
   subst hsl
   obtain⟨oI,hI,G4⟩:=alH X hf
   exact⟨tl,c4,c1,c5,c2,c6,c7,c8,c9,X8,dct,s0,s1,s2,s3,s5,_,oI,X _ _ look,.of_isNs (W.isNs_of_in X hNs),alI X hNs Lg,W.tail_of_in X hTail,hI,G4⟩
  next=>cases q
 next=>cases q
theorem toD {P:Program}{w:World}{K:W.Frag}{mg:Str->Option Value}{base:Heap}{CX:iC}{k:Nat}{f:Addr}{fd:FuncData}{ps:List Str}{sp:Sp}(F:aq P w K mg base aC k f fd ps sp):aq P w K mg base CX k f fd ps sp:=
 ⟨F.len,λA outer s H args us vs Q E hr he hb hv hs=>codeAny_mono (F.run A outer s H args us vs Q E hr he hb hv hs) λr s' h=>by
   cases r with
   |error e=>exact False.elim h
   |ok fl=>cases fl <;> exact h⟩
noncomputable abbrev Lh (K:W.Frag) (C f:Addr) (fl:Str):Prop:=Lf K C f aao "ValueError.__new__"=true/\W.keepIn K (.ref C)=true/\W.findIn K (.ref C) "__setattr__"=some (some (.builtin "object.__setattr__"))/\W.findIn K (.ref C) fl=some none/\W.mroIn K C (.type "object")=some true/\((W.clsIn K C).any λcd=>Am cd.mro && cd.hasDict)=true/\W.findIn K (.ref C) "__getattribute__"=some (some (.builtin "BaseException.__getattribute__"))/\W.findIn K (.ref C) "__getattr__"=some none/\W.findIn K (.ref C) "__class__"=some (some (.builtin "object.__class__"))/\W.mroIn K C (.type "BaseException")=some true/\(W.clsIn K C).isSome=true/\W.typeIn K (.ref C)=some (.type "type")/\W.subIn K (.ref C) (.type "BaseException")=some true/\W.subIn K (.ref C) (.ref C)=some true
theorem abX {K:W.Frag}{mg:Str->Option Value}{h base:Heap}{x fl:Str}{C f:Addr}(X:K.In h)(G:h.Ns mainGlobals mg)(X1:K.In base)(a:W.nsIn K mainGlobals x=some (some (.ref C)))(hf:W.isFn K (.ref f)=true)(e:Lh K C f fl):rW K mg base x fl C f:=by
 obtain⟨e1,e2,e3,e4,e5,e6,e7,e8,e9,e10,vp,e12,Dr,vh⟩:=e
 exact⟨alJ X1 e1 hf,e2,W.mg_of X G a,⟨e3,e4,e5,e6⟩,⟨e7,e8,e9,e5,e10,vp⟩,e12,vp,Dr,vh⟩
theorem all_mk {l:W.OpenLaw}{w:World}{K:W.Frag}{h:Heap}{mg:Str->Option Value}{fa:Addr}(X:K.In h)(G:h.Ns mainGlobals mg)(hfa:mg "law"=some (.ref fa))
 (Li:b_ K "is_plain" (top 11))
 (Lj:b_ K "kind_at" (top 12))
 (Lk:b_ K "record_of" (top 14))
 (Ln:b_ K "misfit" (top 16))
 (Lq:b_ K "record_misfit" (top 17))
 (Lr:b_ K "has_just" (top 18))
 (Ls:b_ K "copied" (top 25))
 (Lw:b_ K "copied_record" (top 26))
 (Lx:b_ K "done" (top 31))
 (Ly:b_ K "between" (top 32))
 (Lz:b_ K "stepped" (top 33))
 (LK:b_ K "stepped_in_record" (top 34))
 (LQ:b_ K "acted" (top 42))
 (LR:b_ K "paper_at" (top 45))
 (L_:b_ K "record_paper" (top 46))
 (Ma:b_ K "first_source" (top 50))
 (Mf:b_ K "shown" (top 51))
 (Mg:b_ K "ask_fit" (top 54))
 (Mh:b_ K "ask_stands" (top 55))
 (Mi:b_ K "has_each_once" (top 58))
 (Mj:b_ K "fields_among" (top 59))
 (Ml:b_ K "part_of" (top 60))
 (Mp:b_ K "_law_next" (top 63))
 (Mq:b_ K "_law_number" (top 64))
 (Mr:b_ K "_law_word" (top 65))
 (Ms:b_ K "_law_names" (top 66))
 (Mt:b_ K "_law_plain" (top 67))
 (Mu:b_ K "_law_fields" (top 68))
 (Mv:b_ K "_law_kind" (top 70))
 (Mw:b_ K "_law_value" (top 73))
 (Mx:b_ K "_law_same" (top 74))
 (Mz:b_ K "_law_some" (top 75))
 (MF:b_ K "_law_sets" (top 76))
 (MK:b_ K "_law_taken" (top 77))
 (MP:b_ K "_law_pairs" (top 78))
 (M4:b_ K "_law_change" (top 79))
 (M5:b_ K "_law_put_by" (top 80))
 (M6:b_ K "_law_one" (top 81))
 (M7:b_ K "law" (top 82))
 {fS:Addr} {oc:Value} {od an:Option Addr} {kV dc pm cd ct:Value} {sl:Array (Option Value)} (aS:W.nsIn K mainGlobals "sorted_fields"=some (some (.ref fS))) (lS:K.lookup fS=some ⟨oc,od,.func (W.fnOf "sorted_fields" "sorted_fields" (fO (top 13)) (dW (top 13)) (aL (top 13)) .none kV dc pm an cd ct),sl⟩) (M8:W.codeIn K cd "sorted_fields"=true) (kS:W.keepIn K (.ref fS)=true)
 (zz:∀x∈(["len","isinstance","sorted","all","range","enumerate","zip","int","bool","str","list","tuple","dict","set","reversed"]:List Str),W.nsIn K mainGlobals x=some none)
 {vA:Addr} (M9:W.nsIn K mainGlobals "NoName"=some (some (.ref vA)))
 {jK yW:Addr} {alM:Value} {alN:Option Addr} {alO:Array (Option Value)} {abY:ClassData}
 (M_:W.nsIn K mainGlobals "Take"=some (some (.ref jK))) (abZ:K.lookup jK=some ⟨alM,alN,.cls abY,alO⟩) (ab0:abY.ns=yW)
 {fL lO:Addr} {alP:Value} {alQ:Option Addr} {alR:Array (Option Value)} {ab1:ClassData}
 (Nb:W.nsIn K mainGlobals "Desk"=some (some (.ref fL))) (ab2:K.lookup fL=some ⟨alP,alQ,.cls ab1,alR⟩) (ab3:ab1.ns=lO)
 {DG ab4:Addr} {alS:Value} {alT:Option Addr} {alU:Array (Option Value)} {ab5:ClassData}
 (Nf:W.nsIn K mainGlobals "NoPaper"=some (some (.ref DG))) (ab6:K.lookup DG=some ⟨alS,alT,.cls ab5,alU⟩) (ab7:ab5.ns=ab4)
 {vB ab8:Addr} {alV:Value} {alW:Option Addr} {alX:Array (Option Value)} {ab9:ClassData}
 (Ng:W.nsIn K mainGlobals "CantPut"=some (some (.ref vB))) (ab_:K.lookup vB=some ⟨alV,alW,.cls ab9,alX⟩) (acd:ab9.ns=ab8)
 {ace:Addr} (yX:dj K jK yW "__init__" "Take.__init__" (aJ 61 0) ace)
 {acf:Addr} (DN:dj K jK yW "behind" "Take.behind" (aJ 61 1) acf)
 {acg:Addr} (DP:dj K jK yW "see" "Take.see" (aJ 61 2) acg)
 {ach:Addr} (DQ:dj K jK yW "put" "Take.put" (aJ 61 3) ach)
 {alY:Addr} (DR:dj K fL lO "hang" "Desk.hang" (aJ 52 1) alY)
 {alZ:Addr} (DW:dj K fL lO "ask_hung" "Desk.ask_hung" (aJ 52 3) alZ)
 {al0:Addr} (DY:dj K fL lO "source_now" "Desk.source_now" (aJ 52 5) al0)
 {al1:Addr} (D_:dj K fL lO "seen_by" "Desk.seen_by" (aJ 52 6) al1)
 {al2:Addr} (Ea:dj K fL lO "put_by" "Desk.put_by" (aJ 52 7) al2)
 {al3:Addr} (Eb:dj K fL lO "change" "Desk.change" (aJ 52 8) al3)
 {al4:Addr} (Ec:dj K fL lO "did" "Desk.did" (aJ 52 10) al4)
 {al5:Addr} (Ed:dj K fL lO "moved_to" "Desk.moved_to" (aJ 52 11) al5)
 {al6:Addr} (Ef:dj K fL lO "paper_for" "Desk.paper_for" (aJ 52 12) al6)
 {aci:Addr} (Eh:dj K DG ab4 "__init__" "NoPaper.__init__" (aJ 9 0) aci)
 {acj:Addr} (Ei:dj K vB ab8 "__init__" "CantPut.__init__" (aJ 7 0) acj)
 {fI Tdf nT:Addr} {JT ocI kVI dcI pmI cdI ctI:Value} {JV odI anI:Option Addr} {JW slI:Array (Option Value)} (aI:W.nsIn K lO "__init__"=some (some (.ref fI))) (lI:K.lookup fI=some ⟨ocI,odI,.func (W.fnOf "__init__" "Desk.__init__" (fO (aJ 52 0)) (dW (aJ 52 0)) (aL (aJ 52 0)) (.ref Tdf) kVI dcI pmI anI cdI ctI),slI⟩) (cI:W.codeIn K cdI "Desk.__init__"=true) (kI:W.keepIn K (.ref fI)=true) (lT:K.lookup Tdf=some ⟨JT,JV,.seq #[.none] nT,JW⟩)
 (Nh:W.isFn K (.ref fI)=true)
 (Ni:W.findIn K (.ref fL) "__init__"=some (some (.ref fI)))
 (Nj:W.findIn K (.ref jK) "names"=some none)
 (Nk:W.findIn K (.ref fL) "kind"=some none)
 (Np:W.findIn K (.ref fL) "source"=some none)
 (Nq:W.findIn K (.ref fL) "views"=some none)
 (Nr:W.findIn K (.ref fL) "past"=some none)
 (Nt:W.typeIn K (.ref vA)=some (.type "type"))
 (Nv:(W.clsIn K vA).isSome=true)
 (Nx:W.subIn K (.ref vA) (.type "BaseException")=some true)
 (Ny:W.subIn K (.ref vB) (.ref vA)=some false)
 (Nz:abW K jK) (NK:abW K fL) (NP:Lh K vB acj "way") (NQ:Lh K DG aci "at")
 {cS PS:Addr} {ame:Value} {amf:Option Addr} {acp:Array Value} {amg:Array (Option Value)} (NT:cd=.ref cS) (lcS:K.lookup cS=some ⟨ame,amf,.fields acp,amg⟩) (hPS:acp[11]? =some (.ref PS)) (NZ:W.codeHdIn K cS PS=true)
 :∃fd:FuncData,(∀(s:Shared) (v:Value),BindsTo s fd ⟨[v],[]⟩ [("_law_script",v)])/\∀base:Heap,K.In base->base.Ns mainGlobals mg->BM mg base->aq l.prog w K mg base aC 18 fa fd ["_law_script"] (K1 K PS):=by
 have zz:=λx hx=>W.mg_none_of X G (zz x hx)
 have T:Tb mg:=⟨zz _ (by simp),zz _ (by simp),zz _ (by simp),zz _ (by simp),zz _ (by simp),zz _ (by simp),zz _ (by simp),zz _ (by simp),zz _ (by simp),zz _ (by simp),zz _ (by simp),zz _ (by simp),zz _ (by simp),zz _ (by simp),zz _ (by simp)⟩
 obtain⟨_,_,oA,_⟩:=cA (ps:=["kind"]) X G Li (λ_ _ _ _ _ _ _ h=>by obtain⟨_,rfl⟩:=len1 h;rfl)
 obtain⟨_,_,iI,_⟩:=cA (ps:=["fields","name"]) X G Lj (λ_ _ _ _ _ _ _ h=>by obtain⟨_,_,rfl⟩:=len2 h;rfl)
 obtain⟨_,_,uw,_⟩:=cA (ps:=["pairs"]) X G Lk (λ_ _ _ _ _ _ _ h=>by obtain⟨_,rfl⟩:=len1 h;rfl)
 obtain⟨_,_,cH,_⟩:=cA (ps:=["kind","value"]) X G Ln (λ_ _ _ _ _ _ _ h=>by obtain⟨_,_,rfl⟩:=len2 h;rfl)
 obtain⟨_,_,j5,_⟩:=cA (ps:=["fields","record"]) X G Lq (λ_ _ _ _ _ _ _ h=>by obtain⟨_,_,rfl⟩:=len2 h;rfl)
 obtain⟨_,_,ou,_⟩:=cA (ps:=["fields","record"]) X G Lr (λ_ _ _ _ _ _ _ h=>by obtain⟨_,_,rfl⟩:=len2 h;rfl)
 obtain⟨_,_,fC,_⟩:=cA (ps:=["kind","value"]) X G Ls (λ_ _ _ _ _ _ _ h=>by obtain⟨_,_,rfl⟩:=len2 h;rfl)
 obtain⟨_,_,uJ,_⟩:=cA (ps:=["fields","record"]) X G Lw (λ_ _ _ _ _ _ _ h=>by obtain⟨_,_,rfl⟩:=len2 h;rfl)
 obtain⟨_,_,jj,_⟩:=cA (ps:=["kind","paper","value"]) X G Lx (λ_ _ _ _ _ _ _ h=>by obtain⟨_,_,_,rfl⟩:=kj h;rfl)
 obtain⟨_,_,uI,_⟩:=cA (ps:=["kind","old","new"]) X G Ly (λ_ _ _ _ _ _ _ h=>by obtain⟨_,_,_,rfl⟩:=kj h;rfl)
 obtain⟨_,_,dY,_⟩:=cA (ps:=["kind","step","path","value"]) X G Lz (λ_ _ _ _ _ _ _ h=>by obtain⟨_,_,_,_,rfl⟩:=sS h;rfl)
 obtain⟨_,_,j8,_⟩:=cA (ps:=["fields","step","path","record"]) X G LK (λ_ _ _ _ _ _ _ h=>by obtain⟨_,_,_,_,rfl⟩:=sS h;rfl)
 obtain⟨_,_,j7,_⟩:=cA (ps:=["kind","step","value"]) X G LQ (λ_ _ _ _ _ _ _ h=>by obtain⟨_,_,_,rfl⟩:=kj h;rfl)
 obtain⟨_,_,j9,_⟩:=cA (ps:=["path","kind","old","new"]) X G LR (λ_ _ _ _ _ _ _ h=>by obtain⟨_,_,_,_,rfl⟩:=sS h;rfl)
 obtain⟨_,_,uH,_⟩:=cA (ps:=["path","fields","old","new"]) X G L_ (λ_ _ _ _ _ _ _ h=>by obtain⟨_,_,_,_,rfl⟩:=sS h;rfl)
 obtain⟨_,_,uT,_⟩:=cA (ps:=["kind","source"]) X G Ma (λ_ _ _ _ _ _ _ h=>by obtain⟨_,_,rfl⟩:=len2 h;rfl)
 obtain⟨_,_,mL,_⟩:=cA (ps:=["view","kind","source"]) X G Mf (λ_ _ _ _ _ _ _ h=>by obtain⟨_,_,_,rfl⟩:=kj h;rfl)
 obtain⟨_,_,ji,_⟩:=cA (ps:=["kind","seen"]) X G Mg (λ_ _ _ _ _ _ _ h=>by obtain⟨_,_,rfl⟩:=len2 h;rfl)
 obtain⟨_,_,ux,_⟩:=cA (ps:=["stands"]) X G Mh (λ_ _ _ _ _ _ _ h=>by obtain⟨_,rfl⟩:=len1 h;rfl)
 obtain⟨_,_,uy,_⟩:=cA (ps:=["kind","names"]) X G Mi (λ_ _ _ _ _ _ _ h=>by obtain⟨_,_,rfl⟩:=len2 h;rfl)
 obtain⟨_,_,uz,_⟩:=cA (ps:=["fields","names"]) X G Mj (λ_ _ _ _ _ _ _ h=>by obtain⟨_,_,rfl⟩:=len2 h;rfl)
 obtain⟨_,_,uD,_⟩:=cA (ps:=["record","names"]) X G Ml (λ_ _ _ _ _ _ _ h=>by obtain⟨_,_,rfl⟩:=len2 h;rfl)
 obtain⟨_,_,dh,_⟩:=cA (ps:=["_law_script","_law_at"]) X G Mp (λ_ _ _ _ _ _ _ h=>by obtain⟨_,_,rfl⟩:=len2 h;rfl)
 obtain⟨_,_,nU,_⟩:=cA (ps:=["_law_script","_law_at"]) X G Mq (λ_ _ _ _ _ _ _ h=>by obtain⟨_,_,rfl⟩:=len2 h;rfl)
 obtain⟨_,_,nW,_⟩:=cA (ps:=["_law_script","_law_at"]) X G Mr (λ_ _ _ _ _ _ _ h=>by obtain⟨_,_,rfl⟩:=len2 h;rfl)
 obtain⟨_,_,nZ,_⟩:=cA (ps:=["_law_script","_law_at","_law_many"]) X G Ms (λ_ _ _ _ _ _ _ h=>by obtain⟨_,_,_,rfl⟩:=kj h;rfl)
 obtain⟨_,_,ud,_⟩:=cA (ps:=["_law_script","_law_at"]) X G Mt (λ_ _ _ _ _ _ _ h=>by obtain⟨_,_,rfl⟩:=len2 h;rfl)
 obtain⟨_,_,uo,_⟩:=cA (ps:=["_law_script","_law_at","_law_many","_law_deep"]) X G Mu (λ_ _ _ _ _ _ _ h=>by obtain⟨_,_,_,_,rfl⟩:=sS h;rfl)
 obtain⟨_,_,um,_⟩:=cA (ps:=["_law_script","_law_at","_law_deep"]) X G Mv (λ_ _ _ _ _ _ _ h=>by obtain⟨_,_,_,rfl⟩:=kj h;rfl)
 obtain⟨_,_,jz,_⟩:=cA (ps:=["_law_script","_law_at","_law_kind_here","_law_room"]) X G Mw (λ_ _ _ _ _ _ _ h=>by obtain⟨_,_,_,_,rfl⟩:=sS h;rfl)
 obtain⟨_,_,dZ,_⟩:=cA (ps:=["_law_found","_law_due"]) X G Mx (λ_ _ _ _ _ _ _ h=>by obtain⟨_,_,rfl⟩:=len2 h;rfl)
 obtain⟨_,_,u6,_⟩:=cA (ps:=["_law_row","_law_m"]) X G Mz (λ_ _ _ _ _ _ _ h=>by obtain⟨_,_,rfl⟩:=len2 h;rfl)
 obtain⟨_,_,qe,_⟩:=cA (ps:=["_law_script","_law_at","_law_fields_here","_law_value_here","_law_many"]) X G MF (λ_ _ _ _ _ _ _ h=>by obtain⟨_,_,_,_,_,rfl⟩:=alF h;rfl)
 obtain⟨_,_,oR,_⟩:=cA (ps:=["_law_names_here","_law_value_here"]) X G MK (λ_ _ _ _ _ _ _ h=>by obtain⟨_,_,rfl⟩:=len2 h;rfl)
 obtain⟨_,_,qg,_⟩:=cA (ps:=["_law_hooks","_law_old","_law_new"]) X G MP (λ_ _ _ _ _ _ _ h=>by obtain⟨_,_,_,rfl⟩:=kj h;rfl)
 obtain⟨_,_,su,_⟩:=cA (ps:=["_law_desk","_law_paper"]) X G M4 (λ_ _ _ _ _ _ _ h=>by obtain⟨_,_,rfl⟩:=len2 h;rfl)
 obtain⟨_,_,pZ,_⟩:=cA (ps:=["_law_desk","_law_name","_law_seen"]) X G M5 (λ_ _ _ _ _ _ _ h=>by obtain⟨_,_,_,rfl⟩:=kj h;rfl)
 obtain⟨_,_,vf,_⟩:=cA (ps:=["_law_script","_law_at","_law_desk","_law_hooks","_law_fields_here","_law_source","_law_way"]) X G M6 (λ_ _ _ _ _ _ _ h=>by obtain⟨_,_,_,_,_,_,_,rfl⟩:=alG h;rfl)
 obtain⟨_,_,Dg,hB⟩:=cA (ps:=["_law_script"]) X G M7 (λ_ _ _ _ _ _ _ h=>by obtain⟨_,rfl⟩:=len1 h;rfl)
 subst NT
 have ur:Dn K mg "sorted_fields" nQ (top 13) fS (W.fnOf "sorted_fields" "sorted_fields" (fO (top 13)) (dW (top 13)) (aL (top 13)) .none kV dc pm an (.ref cS) ct):=by
  have F:=Wt (st:=(top 13)) lS M8 kS
  exact⟨F,F.binds (λ_ _ _ _ _ _ _ h=>by obtain⟨_,rfl⟩:=len1 h;rfl),W.mg_of X G aS⟩
 obtain⟨_,uF⟩:=iU (ps:=["self","names"]) yX (λ_ _ _ _ _ _ _ h=>by obtain⟨_,_,rfl⟩:=len2 h;rfl)
 obtain⟨_,gG⟩:=iU (ps:=["self","kind"]) DN (λ_ _ _ _ _ _ _ h=>by obtain⟨_,_,rfl⟩:=len2 h;rfl)
 obtain⟨_,uG⟩:=iU (ps:=["self","kind","source"]) DP (λ_ _ _ _ _ _ _ h=>by obtain⟨_,_,_,rfl⟩:=kj h;rfl)
 obtain⟨_,j6⟩:=iU (ps:=["self","kind","source","seen"]) DQ (λ_ _ _ _ _ _ _ h=>by obtain⟨_,_,_,_,rfl⟩:=sS h;rfl)
 obtain⟨_,uR⟩:=iU (ps:=["self","name","view"]) DR (λ_ _ _ _ _ _ _ h=>by obtain⟨_,_,_,rfl⟩:=kj h;rfl)
 obtain⟨_,j_⟩:=iU (ps:=["self","name"]) DW (λ_ _ _ _ _ _ _ h=>by obtain⟨_,_,rfl⟩:=len2 h;rfl)
 obtain⟨_,uN⟩:=iU (ps:=["self"]) DY (λ_ _ _ _ _ _ _ h=>by obtain⟨_,rfl⟩:=len1 h;rfl)
 obtain⟨_,uO⟩:=iU (ps:=["self","name"]) D_ (λ_ _ _ _ _ _ _ h=>by obtain⟨_,_,rfl⟩:=len2 h;rfl)
 obtain⟨_,oN⟩:=iU (ps:=["self","name","seen"]) Ea (λ_ _ _ _ _ _ _ h=>by obtain⟨_,_,_,rfl⟩:=kj h;rfl)
 obtain⟨_,oM⟩:=iU (ps:=["self","paper"]) Eb (λ_ _ _ _ _ _ _ h=>by obtain⟨_,_,rfl⟩:=len2 h;rfl)
 obtain⟨_,iQ⟩:=iU (ps:=["self","new"]) Ec (λ_ _ _ _ _ _ _ h=>by obtain⟨_,_,rfl⟩:=len2 h;rfl)
 obtain⟨_,uL⟩:=iU (ps:=["self","new"]) Ed (λ_ _ _ _ _ _ _ h=>by obtain⟨_,_,rfl⟩:=len2 h;rfl)
 obtain⟨_,uK⟩:=iU (ps:=["self","view","old"]) Ef (λ_ _ _ _ _ _ _ h=>by obtain⟨_,_,_,rfl⟩:=kj h;rfl)
 obtain⟨_,uX⟩:=iU (ps:=["self","at"]) Eh (λ_ _ _ _ _ _ _ h=>by obtain⟨_,_,rfl⟩:=len2 h;rfl)
 obtain⟨_,uZ⟩:=iU (ps:=["self","way"]) Ei (λ_ _ _ _ _ _ _ h=>by obtain⟨_,_,rfl⟩:=len2 h;rfl)
 have uU:=aiU (st:=(aJ 52 0)) (p1:="self") (p2:="kind") (p3:="source") lI cI kI lT λ_ _ _ _ _ _ _ _ _=>⟨_,rfl,rfl⟩
 have e:=hfa.symm.trans Dg.m
 cases e
 refine⟨_,λs v=>.of_eq (hB [v] rfl),λbase X1 _ wJ=>?_⟩
 have amh:=W.codeHd_of_K X1 NZ
 obtain⟨t1,t2,t3,t4,t5,t6⟩:=Nz
 obtain⟨d1,d2,d3,d4,d5,d6⟩:=NK
 have TK:j4 K mg jK ace acf acg ach:=⟨⟨t1,t2,t3,t4⟩,Nj,⟨t5,yX.2.2.2,yX.2.2.1,t6⟩,W.mg_of X G M_,dj.meth DN,dj.meth DP,dj.meth DQ⟩
 have DK:iu K fL:=⟨⟨d1,d2,d3,d4⟩,Nk,Np,Nq,Nr⟩
 have MKD:Mk K fL fI:=⟨d5,Ni,Nh,d6⟩
 have mD:mg "Desk"=some (.ref fL):=W.mg_of X G Nb
 have amj:=dj.meth DR
 have N5:=dj.meth DW
 have amk:=dj.meth DY
 have aml:=dj.meth D_
 have amm:=dj.meth Ea
 have amn:=dj.meth Eb
 have Ej:=dj.meth Ec
 have amo:=dj.meth Ed
 have amq:=dj.meth Ef
 have XC:=abX X G X1 Ng Ei.2.2.1 NP
 have XN:=abX X G X1 Nf Eh.2.2.1 NQ
 have sy:XNo K mg "NoName" vA vB:=⟨W.mg_of X G M9,Nt,Nv,Nx,Ny⟩
 have N:=agI (P:=l.prog) (w:=w) (base:=base) T dh
 have Pl:=agJ T ud dh N
 have Nu:=agN T nU dh N
 have Wo:=agQ T nW dh N
 have Nm:=agY T nZ dh N
 have Kd_:=ag5 T um dh N ud Pl
 have Fd:=ag7 T uo nZ Nm um Kd_
 have VP:=ahd T jz nU Nu nW Wo
 have VR:=ahe T jz VP nU Nu nW Wo
 have Ka:=ahg (P:=l.prog) (w:=w) (base:=base) T iI
 have SF:=ahl (P:=l.prog) (w:=w) T ur rfl amh wJ
 have RO:=aho T uw ur SF
 have AS:=aht (P:=l.prog) (w:=w) (base:=base) T ux
 have HO_:=ahu T uy iI Ka
 have FAm:=ahx (P:=l.prog) (w:=w) (base:=base) T uz
 have PO:=ahy (P:=l.prog) (w:=w) (base:=base) T uD
 have INI:=ahB (P:=l.prog) (w:=w) (base:=base) T TK uF
 have BE:=ahC T TK gG ux AS uy HO_ uz FAm uw RO
 have SE:=ahH T TK uG uD PO
 have HJ:=ahK (P:=l.prog) (w:=w) (base:=base) T ou
 have MQ:=ahL (P:=l.prog) (w:=w) (base:=base) T cH
 have RQ:=ahM T j5 ou HJ cH MQ
 have MR:=ahN T cH j5 RQ
 have AF:=ahO T ji cH MR
 have IP:=ahP (P:=l.prog) (w:=w) (base:=base) T oA
 have PU:=ahQ T TK j6 ji AF gG BE
 have AC:=ahW T j7 cH MQ oA IP
 have SP:=ahX T dY j7 AC
 have SI:=ahY T j8 dY SP iI Ka
 have SR:=ahZ T dY j8 SI
 have DO:=ah0 T jj dY SR
 have PP:=ah1 (P:=l.prog) (w:=w) (base:=base) T j9
 have RP:=ah2 T uH j9 PP
 have PR:=ah4 T j9 uH RP
 have BT:=ah6 T uI j9 PR
 have CP:=ah7 (P:=l.prog) (w:=w) (base:=base) T fC
 have CI:=ah8 T uJ fC CP
 have CO:=aia T fC uJ CI
 have SH:=aic T TK mL fC CO gG BE uG SE
 have PF:=aio T TK DK uK uI BT mL SH gG BE
 have MV:=aiu T DK amq uL uK PF
 have DI:=aiC T DK amo iQ uL MV fC CO
 have AH:=aiH (P:=l.prog) (w:=w) (base:=base) (C:=jK) T DK j_
 have SN:=aiI (C:=jK) T DK uN fC CO
 have SY:=aiJ T DK N5 uO j_ AH mL SH
 have CH:=aiK T DK Ej oM iQ DI jj DO
 have PB:=aiN T TK DK N5 Ej oN j_ AH iQ DI j6 PU
 have HA:=aiR T TK DK uR gG BE
 have FS:=aiT T uT cH MR fC CO
 have DN_:=aiV (C:=jK) T DK uU uT FS
 have NPI:=aiY (P:=l.prog) (w:=w) T XN uX
 have KN:=aiZ (P:=l.prog) (w:=w) (base:=base) T iI
 have MN:=ai0 (P:=l.prog) (w:=w) (base:=base) T cH
 have AB:=ai1 T j7 cH MN oA IP
 have SB_:=ai2 T dY j7 AB
 have SIB:=ai3 T j8 dY SB_ iI (yD Ka KN)
 have SRB:=ai4 T dY j8 SIB
 have DX:=ai6 T XN jj dY (yD SR SRB) uX NPI
 have CX_:=ai_ (C:=jK) T DK Ej oM iQ DI jj DX
 have MJ:=ajb (P:=l.prog) (w:=w) (base:=base) T cH
 have RJ:=ajc T j5 ou HJ cH (yD MQ MJ)
 have CPI:=ajf (P:=l.prog) (w:=w) T XC uZ
 have MRJ:=ajg T cH j5 RJ
 have AX:=ajh T XC ji cH MRJ uZ CPI
 have PX:=ajj T TK j6 ji AX gG BE
 have PBX:=ajl T TK DK N5 Ej oN j_ AH iQ DI j6 PX
 have LC:=ajq T DK XN amn su oM (yD (toD CH) CX_)
 have LP:=ajt T DK XC sy amm pZ oN (yD (toD PB) PBX)
 have SM:=aaO (P:=l.prog) (w:=w) (base:=base) T dZ 6
 have SO:=ajP (P:=l.prog) (w:=w) (base:=base) T u6
 have SS:=ajS T qe dh N jz VP
 have TA:=ajW (P:=l.prog) (w:=w) (base:=base) T oR
 have PS_:=ajY (P:=l.prog) (w:=w) (base:=base) T qg
 have ON:=akb T vf dh N qe SS oR TA qg PS_ su LC pZ LP dZ SM
 exact akI T TK DK MKD mD amj aml amk Dg uo Fd jz VR dh N nZ Nm u6 SO vf ON oR TA dZ SM uU DN_ uR HA uO SY uN SN uF INI
theorem amE {K:W.Frag}{x:Str}{f c P:Addr}{oc occ:Value}{od odc:Option Addr}{fd:FuncData}{sl slc:Array (Option Value)}{vsC:Array Value}(a:W.nsIn K mainGlobals x=some (some (.ref f)))(l:K.lookup f=some ⟨oc,od,.func fd,sl⟩)(hc:fd.code=.ref c)
 (lc:K.lookup c=some ⟨occ,odc,.fields vsC,slc⟩) (hP:vsC[11]? =some (.ref P)):W.tabIn K x=some (c,P):=by
 unfold W.tabIn
 rw[a]
 dsimp only
 rw[l]
 dsimp only
 rw[hc]
 dsimp only
 rw[lc]
 dsimp only
 rw[hP]
noncomputable def amH (K:W.Frag) (tabs:List (Addr × Addr)):Sp:=λvs H Q _=>∃(a:Addr) (ns:List Int),vs=[.ref a]/\jf K H a ns/\ns.length<=63/\(∀q∈tabs,H q.2=some (.dF #[]))/\∀H',Q (.bl true) H'
theorem jf.ofT {K:W.Frag}{H:Hp}{a:Addr}{ns:List Int}{tabs:List Addr}(o:Ae tabs H)(h:aG K H a (ns.map V.int)):jf K H a ns:=by
 rcases h with(h|h)|h
 . rcases o a with z|⟨ob,xs,z⟩|⟨_,z⟩ <;> rw[h] at z <;> cases z
 . exact .inl h
 . exact .inr h
theorem walk {l:W.OpenLaw}{q:Program}{loose:List Str}{XP:(Str->Option Value)->Heap->Prop}{YP:World->Heap->Prop}{d:DefRec}{K:Params->W.Frag}(hn:l.most=some 63)(hdf:d.params.defaults=[])
 (hY:∀(w:World) (h:Heap),YP w h->(K w.params).In h) (wI:∀w:World,W.noTabs (K w.params)=true) (amI:∃d',(PyProof.Rows.recsOf q).find? (λe=>e.name == ("sorted_fields":Str))=some d')
 (F:∀w:World,∃c2 P2:Addr,W.tabIn (K w.params) "sorted_fields"=some (c2,P2)/\∀(mg:Str->Option Value) (fa:Addr) (h:Heap),(K w.params).In h->h.Ns mainGlobals mg->mg d.name=some (.ref fa)->
   ∃fd:FuncData,(∀(s:Shared) (u:Value),BindsTo s fd ⟨[u],[]⟩ [("_law_script",u)])/\∀base:Heap,(K w.params).In base->base.Ns mainGlobals mg->BM mg base->aq l.prog w (K w.params) mg base aC 18 fa fd ["_law_script"] (K1 (K w.params) P2)):
 W.WalkO q loose XP YP l.row.toRowW d [] (λf vs=>PySem.call f vs):=
 L2.afJ (n:=63) (k:=18) (x:="_law_script") (names:=["sorted_fields"]) (sp:=λw tabs=>amH (K w.params) tabs) hn (by decide) hdf ⟨rfl,by decide,by decide⟩ hY wI (λw=>by
   obtain⟨c2,P2,jZ,F⟩:=F w
   refine⟨[(c2,P2)],λq' hq=>?_,λmg fa h X G hm=>?_⟩
   . exact⟨"sorted_fields",by simp,by rw[List.mem_singleton.mp hq];exact jZ⟩
   obtain⟨fd,hb,hF⟩:=F mg fa h X G hm
   exact⟨fd,hb,λbase X1 G1 B=>(hF base X1 G1 B).imp λvs H Q E ⟨a,ns,e,hS,hl,hT,q⟩=>⟨a,ns,e,hS,hl,.inl (hT _ (List.mem_singleton.mpr rfl)),q⟩⟩)
   (λy hy=>by rw[List.mem_singleton.mp hy];exact amI) λw tabs H a ns hl hO hPt hSq=>⟨a,ns,rfl,jf.ofT hO hSq,hl,hPt,λ_=>rfl⟩
end Pb
open PySem PySem.W PyProof.Rows
set_option maxRecDepth 100000 in
set_option maxHeartbeats 0 in
theorem PySem.Challenge.cw_putback_k84_desk_deeds_holds : PySem.Challenge.rw_putback_k84_desk_deeds.Holds := by
 w_on
 refine holds_law Pb.said λsaid=>?_
 refine holds_open (q:=Pb.qv) (loose:=[]) (Xt:=λs=>xlAt Pb.qv [] s && recOk (RowW.records (PySem.W.OpenRow.toRowW (PySem.W.OpenLaw.row PySem.Challenge.rw_putback_k84_desk_deeds))) s) (XP:=XL Pb.qv []) (Yf:=Hook.obs (PySem.W.kmHook Pb.KK Pb.oX Pb.qt [162,256,703])) (Ya:=Hook.val (PySem.W.kmHook Pb.KK Pb.oX Pb.qt [162,256,703])) (YP:=Hook.says (PySem.W.kmHook Pb.KK Pb.oX Pb.qt [162,256,703])) (N:=11013) ?hl (Hook.of (PySem.W.kmHook Pb.KK Pb.oX Pb.qt [162,256,703])) (Hook.keeps (PySem.W.kmHook Pb.KK Pb.oX Pb.qt [162,256,703])) (λs e=>xl_of s (Bool.and_eq_true_iff.mp e).1) XL.keeps (by rfl) (by rfl) (by rfl) (λs e=>recFacts_of (Bool.and_eq_true_iff.mp e).2) (by rfl) (by first|assumption|decide +kernel) (by decide +kernel) ⟨rfl,rfl,rfl,rfl,rfl,by decide +kernel⟩ ?hw ?hc
 case hl=>exact Pb.acy (by rfl) (by rfl) (λs=>rfl) (by rfl) (Q37 40 Pb.Eo).symm (λP=>by kernel_rfl) Pb.acJ (Pb.acC Pb.acK (Pb.acD Pb.acL Pb.acM Pb.acN))
 (case hw=>w_witness2)
 k_fill
 refine Pb.walk (l:=PySem.Challenge.rw_putback_k84_desk_deeds) rfl rfl (λw h Y=>PySem.W.km_in_of Y) (λw=>by kernel_rfl) ⟨_,rfl⟩ ?F
 case F=>
  intro w
  refine' ⟨_,_,?jZ,?GG⟩
  case jZ=>
   refine' Pb.amE ?ta ?tl ?tc ?tlc ?tP
   (case ta=>k_is);(case tl=>k_is);(case tc=>rfl);(case tlc=>k_is);(case tP=>rfl)
  case GG=>
   intro mg fa h KX G hmg
   refine' Pb.all_mk KX G hmg ?Li ?Lj ?Lk ?Ln ?Lq ?Lr ?Ls ?Lw ?Lx ?Ly ?Lz ?LK ?LQ ?LR ?L_ ?Ma ?Mf ?Mg ?Mh ?Mi ?Mj ?Ml ?Mp ?Mq ?Mr ?Ms ?Mt ?Mu ?Mv ?Mw ?Mx ?Mz ?MF ?MK ?MP ?M4 ?M5 ?M6 ?M7 ?aS ?lS ?M8 ?kS ?zz ?M9 ?M_ ?abZ ?ab0 ?Nb ?ab2 ?ab3 ?Nf ?ab6 ?ab7 ?Ng ?ab_ ?acd ?yX ?DN ?DP ?DQ ?DR ?DW ?DY ?D_ ?Ea ?Eb ?Ec ?Ed ?Ef ?Eh ?Ei ?aI ?lI ?cI ?kI ?lT ?Nh ?Ni ?Nj ?Nk ?Np ?Nq ?Nr ?Nt ?Nv ?Nx ?Ny ?Nz ?NK ?NP ?NQ ?NT ?lcS ?hPS ?NZ
   case Li|Lj|Lk|Ln|Lq|Lr|Ls|Lw|Lx|Ly|Lz|LK|LQ|LR|L_|Ma|Mf|Mg|Mh|Mi|Mj|Ml|Mp|Mq|Mr|Ms|Mt|Mu|Mv|Mw|Mx|Mz|MF|MK|MP|M4|M5|M6|M7=>
    refine' Pb.alD ?a ?l ?c ?k
    (case a=>k_is);(case l=>k_is);(case c=>k_is);(case k=>k_is)
   (case aS=>k_is);(case lS=>k_is);(case M8=>k_is);(case kS=>k_is)
   case zz=>intro x hx;simp only[Q1v,Q2b,or_false] at hx;rcases hx with rfl|rfl|rfl|rfl|rfl|rfl|rfl|rfl|rfl|rfl|rfl|rfl|rfl|rfl|rfl <;> k_is
   (case M9=>k_is)
   (case M_=>k_is);(case abZ=>k_is);(case ab0=>rfl)
   (case Nb=>k_is);(case ab2=>k_is);(case ab3=>rfl)
   (case Nf=>k_is);(case ab6=>k_is);(case ab7=>rfl)
   (case Ng=>k_is);(case ab_=>k_is);(case acd=>rfl)
   case yX|DN|DP|DQ|DR|DW|DY|D_|Ea|Eb|Ec|Ed|Ef|Eh|Ei=>
    refine' Pb.alE ?a ?l ?c ?k ?f ?g
    (case a=>k_is);(case l=>k_is);(case c=>k_is);(case k=>k_is);(case f=>kernel_rfl);(case g=>kernel_rfl)
   (case aI=>k_is);(case lI=>k_is);(case cI=>k_is);(case kI=>k_is);(case lT=>k_is)
   case Nh|Ni|Nj|Nk|Np|Nq|Nr|Nt|Nv|Nx|Ny=>kernel_rfl
   case Nz|NK=>refine⟨?_,?_,?_,?_,?_,?_⟩ <;> kernel_rfl
   case NP|NQ=>refine⟨?_,?_,?_,?_,?_,?_,?_,?_,?_,?_,?_,?_,?_,?_⟩ <;> kernel_rfl
   (case NT=>rfl);(case lcS=>k_is);(case hPS=>rfl);(case NZ=>kernel_rfl)
