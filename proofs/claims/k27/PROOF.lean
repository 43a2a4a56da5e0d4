import PyProof.Rows.All
import Wide.All
import OpenK.AllK
import Wide.FinOn
import Lean
import PyProof.EqAt
import PyProof.EqKinds
import PyProof.TupleCall
import KE.KSortAsk
import PyProof.NeKinds
import PyProof.StationsW
import PyProof.ExcClass3
import PyProof.Rows.Own
import PyProof.NsDelKeeps
import KE.KIsAll
import PyProof.ExcAttrAll.ValueError
import PyProof.IsiH_list
import PyProof.Rows.FStr
import PyProof.FString4
import PyProof.StrLawsRepr
import PyProof.Rows.StrMeet
import PyProof.ExcInit
import PyProof.InstStoreFacts
import PyProof.Rows.SetFrom
import PyProof.Draws
import KE.KDictOf
import PyProof.DictUpdate
import PyProof.DictWalks
import PyProof.ExcBaseAll.ValueError
import KE.KEqDict
import PySem.Challenge.RW_putback_k27_rename_and_nest
theorem zzx {α:Sort _}{β:α->Sort _}{γ:∀a,β a->Sort _}{δ:∀a b,γ a b->Sort _}{p:∀a b c,δ a b c->Prop}{G:Prop}(h:∃a b c d,p a b c d)(k:∀a b c d,p a b c d->G):G:=let⟨a,b,c,d,e⟩:=h;k a b c d e
theorem zza {A B C D E G:Prop}(h:A/\B/\C/\D/\E)(k:A->B->C->D->E->G):G:=k h.1 h.2.1 h.2.2.1 h.2.2.2.1 h.2.2.2.2
local macro_rules|`(tactic|obtain⟨$s,*⟩:=$t)=>do
 let a:=s.getElems;if a.size<6 then Lean.Macro.throwUnsupported
 let b:=a.extract 4 a.size;let q←(a.extract 0 4).mapM λp=>`(rintroPat|($p:rcasesPatLo));let c←match t with|`($x:ident)=>`(tactic|try clear $x)|_=>`(tactic|skip)
 `(tactic|((first|refine zzx $t ?_|refine zza $t ?_);$c;rintro $q* e;obtain⟨$b,*⟩:=e))
open PySem renaming wpAny_bind→Q0,wpAny_pure→Q0a,wpAny_mono→Q0m
open Nat renaming le_refl→Q00,le_trans→Q05,ne_of_lt→Q08,zero_le→Q0b,lt_of_lt_of_le→Q0d,lt_irrefl→Q0r,le_of_lt→Q0s,le_of_not_lt→Q0v,ne_of_gt→Q0x,lt_succ_self→Q10,le_succ→Q14,mul_le_mul_right→Q1d,le_of_eq→Q1o,lt_of_le_of_lt→Q1q,add_le_add_left→Q1r,le_add_right→Q1t,le_max_left→Q1v,le_max_right→Q1w,succ_mul→Q1x,lt_succ_of_lt→Q2k,sub_lt_sub_left→Q2o,le_succ_of_le→Q2t,mul_left_comm→Q39,add_le_add_right→Q3f,mul_le_mul_left→Q3h,le_mul_of_pos_right→Q3j,le_antisymm→Q3m
open PySem.Heap renaming lt_size→Q01,get?_push_of_some→Q07,get?_push_size→Q0n,size_push→Q17,get?_update_other→Q18,get?_update_self→Q1p,get?_none_of_le→Q2a,size_update→Q2j,get?_update_ne→Q2l,get?_push_at→Q2r,get?_push_ne→Q33
open List renaming length_map→Q02,getElem?_eq_getElem→Q03,mem_cons_self→Q04,mem_append_right→Q06,size_toArray→Q09,length_append→Q0c,mem_cons_of_mem→Q0e,getD_eq_getElem?_getD→Q0f,getElem?_map→Q0g,map_append→Q0h,length_filter_le→Q0i,length_cons→Q0j,length_take→Q0k,take_succ→Q0p,mem_append_left→Q0q,map_cons→Q0t,mem_of_getElem?→Q0u,take_of_length_le→Q0w,append_nil→Q0y,filter_cons→Q0z,getElem_of_mem→Q1,length_replicate→Q11,mem_cons→Q12,map_map→Q13,nodup_nil→Q15,length_singleton→Q19,lookup_cons→Q1a,all_eq_true→Q1b,pairwise_map→Q1c,mem_singleton→Q1e,any_cons→Q1f,find?_cons→Q1g,map_congr_left→Q1h,getElem_mem→Q1i,append_assoc→Q1j,take_length→Q1k,getElem_take→Q1l,filter_append→Q1m,length_range→Q1u,mem_append→Q1y,getElem?_zip_eq_some→Q1z,length_zip→Q2,of_mem_zip→Q20,pairwise_singleton→Q22,foldl_cons→Q23,mem_nil_iff→Q24,not_mem_nil→Q26,mem_filter→Q27,filterMap_cons→Q29,getElem_inj→Q2b,getElem?_set_self→Q2c,getElem?_set_ne→Q2d,getElem?_append_right→Q2e,all_cons→Q2f,getElem_map→Q2h,ext_getElem→Q2i,zip_cons_cons→Q2m,any_map→Q2q,mem_erase_of_ne→Q2s,getElem?_replicate→Q2w,getElem?_append_left→Q2x,length_drop→Q2y,length_nil→Q3,forIn_cons→Q30,lt_irrefl→Q35,drop_of_length_le→Q36,mem_map_of_mem→Q37,perm_cons→Q38,replicate_succ→Q3a,nodup_range→Q3b,range_succ→Q3e,flatten_append→Q3i,eq_of_mem_replicate→Q3k,length_erase_of_mem→Q3l,filter_congr→Q3n,perm_append_singleton→Q3o,take_append_drop→Q3p
open Int renaming emod_nonneg→Q0l,emod_lt_of_pos→Q0o,le_refl→Q16,mul_le_mul_of_nonneg_right→Q25,add_mul→Q2n,toNat_of_nonneg→Q2p,toNat_natCast→Q3c,lt_of_lt_of_le→Q3d,natCast_add→Q3g
open Array renaming length_toList→Q1n,getD_eq_getD_getElem?→Q1s,append_empty→Q28,empty_append→Q2u,find?_toList→Q2v,getElem?_eq_getElem→Q32,forIn_toList→Q34
open Option renaming map_some→Q21,isSome_map→Q2g,getD_none→Q2z,getD_some→Q31
set_option genSizeOf false
set_option Elab.async false
set_option linter.all false
set_option maxRecDepth 100000
set_option maxHeartbeats 4000000
open PySem
theorem xt:2<=PySem.sizeLine:=by decide
namespace L2
open Spec PyProof.Rows
noncomputable def i6 (s:Stmt):Arguments:=match s with
 | .FunctionDef _ a _ _ _ _ _ _ _ _=>a
 |_=>{ posonlyargs:=[],args:=[],vararg:=none,kwonlyargs:=[],kw_defaults:=[],kwarg:=none,defaults:=[] }
noncomputable def iA (s:Stmt):List Stmt:=match s with
 | .FunctionDef _ _ b _ _ _ _ _ _ _=>b
 |_=>[]
noncomputable def eR (s:Stmt):Scope:=match s with
 | .FunctionDef _ _ _ _ _ _ sc _ _ _=>sc
 |_=>{ kind:=.function,names:=[],isGenerator:=false,isCoroutine:=false }
end L2
namespace Pb
open L2
noncomputable def top (i:Nat):Stmt:=PySem.Challenge.pw_putback_k27_rename_and_nest.main.body.getD i (.Pass ⟨0,0,0,0⟩)
noncomputable def eW (i j:Nat):Stmt:=match top i with
 | .ClassDef _ _ _ body _ _ _ _ _ _ _=>body.getD j (.Pass ⟨0,0,0,0⟩)
 |_=>.Pass ⟨0,0,0,0⟩
end Pb
namespace Pb
open W
noncomputable def treeOf:List Obj->Nat->BT->Option BT
 |[],_,t=>some t
 |o::l,n,t=>match((t.ins n o).get n).isSome with
  |true=>treeOf l (n+1) (t.ins n o)
  |false=>none
theorem xu {life:Life}:∀(l:List Obj) (n:Nat) (t t':BT),treeOf l n t=some t'->absHeap t' (n+l.length) life=⟨(absHeap t n life).objs++l.toArray,life⟩
 |[],n,t,t',h=>by
  cases h;show absHeap t n life=_;have:(absHeap t n life).objs++#[]=(absHeap t n life).objs:=Q28;rw[this];rfl
 |o::l,n,t,t',h=>by
  unfold treeOf at h
  cases e:((t.ins n o).get n).isSome with
  |false=>rw[e] at h;cases h
  |true=>
   rw[e] at h;have:=xu (life:=life) l (n+1) _ t' h;rw[absHeap_ins e] at this;have z:n+(o::l).length=n+1+l.length:=by rw[Q0j];omega
   rw[z,this];show Heap.mk ((absHeap t n life).objs.push o++l.toArray) life=_;congr 1;apply Array.ext';simp
noncomputable def o_ (tb:String->Option Builtin) (p:Program) (w:World) (z:Nat) (J:Option Value):Nat->SharedT->Thread->Option SharedT
 |0,_,_=>none
 |n+1,s,t=>match through t with
  |true=>some s
  |false=>match stepOk z J t with
   |false=>none
   |true=>match stepT (denote tb) p w s t with
    |some (s',t')=>o_ tb p w z J n s' t'
    |none=>none
theorem xv {tb:String->Option Builtin}{p:Program}{w:World}{z:Nat}{J:Option Value}:∀{n:Nat}{s s':SharedT}{t:Thread},o_ tb p w z J n s t=some s'->topRun tb p w z J n s.abs t=some s'.abs
 |0,_,_,_,h=>by cases h
 |n+1,s,s',t,h=>by
  unfold o_ at h;unfold topRun
  cases U:through t with
  |true=>rw[U] at h;cases h;rfl
  |false=>
   rw[U] at h
   cases hk:stepOk z J t with
   |false=>rw[hk] at h;cases h
   |true=>
    rw[hk] at h
    cases L:stepT (denote tb) p w s t with
    |none=>rw[L] at h;cases h
    |some r=>obtain⟨Y,aa⟩:=r;rw[L] at h;rw[stepT_spec L];exact xv h
noncomputable abbrev mI:=@W.Fast.tw10156331382660048174
noncomputable abbrev kg:=@W.Fast.tw11892475500146522536
noncomputable abbrev kh:=@W.Fast.tw14364793385576792824
noncomputable abbrev pd:=@W.Fast.tw6613529449190102663
noncomputable abbrev seenQ:=@W.Fast.tw4187177175401517315
noncomputable def mJ (p:Program) (w:World) (z:Nat) (J:Option Value):Nat->SharedT->Thread->Option SharedT
 |0,_,_=>none
 |n+1,s,t=>match through t with
  |true=>some s
  |false=>match pd z J t with
   |false=>none
   |true=>match mI (kg kh) p w s t with
    |some (s',t')=>mJ p w z J n s' t'
    |none=>none
theorem xw {p:Program}{w:World}{z:Nat}{J:Option Value}:∀(n:Nat) (s:SharedT) (t:Thread),mJ p w z J n s t=o_ treeTable p w z J n s t
 |0,_,_=>rfl
 |n+1,s,t=>by
  unfold mJ o_;have L:pd z J t=stepOk z J t:=congrFun (congrFun (congrFun W.Fast.te6613529449190102663.symm _) _) _;have U:mI (kg kh) p w s t=stepT (denote treeTable) p w s t:=by rw[show @mI=@stepT from W.Fast.te10156331382660048174.symm,show @kg=@denote from W.Fast.te11892475500146522536.symm,show @kh=@treeTable from W.Fast.te14364793385576792824.symm]
  rw[L,U];simp only[xw n]
noncomputable def looksAt (p q:Program) (loose:List Str) (Xt:Shared->Bool) {α:Type}(Yf:Shared->α) (g0:Bool) (h₀:Heap) (s:Shared):=
 ((staticsOk (importedModules p.main.body) h₀ s.heap && namesBound p s.heap && gensDone s && laidKept h₀ s.heap),seenQ q loose (importedModules p.main.body) Xt g0 s,Yf s)
noncomputable def xx:List (Nat × Obj)->BT->BT
 |[],t=>t
 |(a,o)::l,t=>xx l (t.ins a o)
noncomputable def sX:Nat->List Obj->BT->BT
 |_,[],t=>t
 |n,o::l,t=>sX (n+1) l (t.ins n o)
noncomputable def pf (p:Program) (w:World) (z:Nat) (J:Option Value):Nat->SharedT->Thread->Option (Flow × SharedT × Code × Pos)
 |0,_,_=>none
 |n+1,s,t=>match endAt 1 t with
  |some f=>some (f,s,t.code,t.pos)
  |none=>match pd z J t with
   |false=>none
   |true=>match mI (kg kh) p w s t with
    |some (s',t')=>pf p w z J n s' t'
    |none=>none
theorem xy (z:Nat)(J:Option Value)(t:Thread):pd z J t=stepOk z J t:=congrFun (congrFun (congrFun W.Fast.te6613529449190102663.symm _) _) _
theorem xA:@kg kh=denote treeTable:=by rw[show @kg=@denote from W.Fast.te11892475500146522536.symm,show @kh=@treeTable from W.Fast.te14364793385576792824.symm]
theorem xB (p:Program)(w:World)(s:SharedT)(t:Thread):mI (kg kh) p w s t=stepT (denote treeTable) p w s t:=by rw[show @mI=@stepT from W.Fast.te10156331382660048174.symm,xA]
theorem xC {p:Program}{w:World}{z:Nat}{J:Option Value}:∀(n:Nat) (s:SharedT) (t:Thread),pf p w z J n s t=segRunT treeTable p w z J 1 n s t
 |0,_,_=>rfl
 |n+1,s,t=>by
  unfold pf segRunT;rw[xy,xB]
  cases endAt 1 t with
  |some f=>rfl
  |none=>
   cases stepOk z J t with
   |false=>rfl
   |true=>
    cases stepT (denote treeTable) p w s t with
    |none=>rfl
    |some r=>obtain⟨s',t'⟩:=r;exact xC n s' t'
noncomputable def ph (tb:String->Option Builtin) (p:Program) (w:World) (z:Nat) (J:Option Value):Nat->SharedT->Thread->Option (SharedT × Thread)
 |0,s,t=>some (s,t)
 |n+1,s,t=>match through t with
  |true=>none
  |false=>match stepOk z J t with
   |false=>none
   |true=>match stepT (denote tb) p w s t with
    |some (s',t')=>ph tb p w z J n s' t'
    |none=>none
theorem xD {tb:String->Option Builtin}{p:Program}{w:World}{z:Nat}{J:Option Value}:∀{n:Nat}{s s':SharedT}{t t':Thread},ph tb p w z J n s t=some (s',t')->topGo tb p w z J n s.abs t=some (s'.abs,t')
 |0,s,s',t,t',h=>by
  have h:some (s,t)=some (s',t'):=h
  cases h;rfl
 |n+1,s,s',t,t',h=>by
  unfold ph at h;unfold topGo
  cases U:through t with
  |true=>rw[U] at h;cases h
  |false=>
   rw[U] at h
   cases hk:stepOk z J t with
   |false=>rw[hk] at h;cases h
   |true=>
    rw[hk] at h
    cases L:stepT (denote tb) p w s t with
    |none=>rw[L] at h;cases h
    |some r=>obtain⟨Y,aa⟩:=r;rw[L] at h;rw[stepT_spec L];exact xD h
noncomputable def qz (p:Program) (w:World) (z:Nat) (J:Option Value):Nat->SharedT->Thread->Option (SharedT × Thread)
 |0,s,t=>some (s,t)
 |n+1,s,t=>match through t with
  |true=>none
  |false=>match pd z J t with
   |false=>none
   |true=>match mI (kg kh) p w s t with
    |some (s',t')=>qz p w z J n s' t'
    |none=>none
theorem xE {p:Program}{w:World}{z:Nat}{J:Option Value}:∀(n:Nat) (s:SharedT) (t:Thread),qz p w z J n s t=ph treeTable p w z J n s t
 |0,_,_=>rfl
 |n+1,s,t=>by
  unfold qz ph;rw[xy,xB];simp only[xE n]
noncomputable def qA (p:Program) (w:World) (z:Nat) (J:Option Value) (env:Env) (c:Code) (q0:Pos) (l:List Stmt) (U Y k3:Nat) (s:SharedT):Option (Thread × Code × Code × SharedT × Pos):=
 match qz p w z J U s (topStub p) with
 |none=>none
 |some (s1,L)=>match pf p w z J Y s1 (blockOf (behindTheImports p) env c L.pos [topFrame q0]) with
  |some (.next,s2,c2,p2)=>(match pf p w z J k3 s2 (piecesOf l env c p2 [topFrame q0]) with
   |some (.next,s3,c3,p3)=>some (L,c2,c3,s3,p3)
   |_=>none)
  |_=>none
theorem EJ {p:Program}{w:World}{z:Nat}{J:Option Value}{env:Env}{c:Code}{q0 L U:Pos}{l rest:List Stmt}{Y k2 k3 N:Nat}{s s3:SharedT}{r:Shared}(hb:behindTheImports p=l++rest)
 (h:qA p w z J env c q0 l Y k2 k3 s=some (⟨kg kh (.body (behindTheImports p) env),c,L,[topFrame q0]⟩,c,c,s3,U))
 (k:topRun treeTable p w z J N s3.abs (restOf rest env c U [topFrame q0])=some r):topRun treeTable p w z J (Y+(k2+(k3+N))) s.abs (topStub p)=some r:=by
 unfold qA at h;split at h
 . cases h
 next s1 t1 e1=>
  split at h
  next s2 c2 p2 e2=>
   split at h
   next aa c3 ab e3=>
    cases h;rw[xE] at e1;rw[xC] at e2 e3;have g1:=xD e1;rw[xA] at g1;have g3:=piece_app (rest:=rest) (segRun_of e3) k;rw[<-hb] at g3;exact go_top g1 (piece_block (segRun_of e2) g3)
   . cases h
  . cases h
noncomputable def sY (P:Params):BT:=(treeOf (boot_heap P).objs.toList 0 .nil).getD .nil
noncomputable def qB (w:World) (os:OsState):SharedT:=⟨sY w.params,(boot_heap w.params).objs.size,(boot_heap w.params).life,#[],boot_drawn,boot_toks,os⟩
theorem EK {p q:Program}{loose:List Str}{Xt:Shared->Bool}{α:Type}{Yf:Shared->α}{Ya:World->α}{N:Nat}{g0:Bool}{env:Env}{c:Code}{q0 U p3:Pos}{l rest:List Stmt}{k1 k2 k3 N4 J:Nat}{L:Option Value}{S3:World->OsState->SharedT}
 (e:opening p=plainProg p.main.scope.names) (hN:Nat.ble 600 N=true) (f:∀s,fenceModules? p s=some s) (ab:N=k1+(k2+(k3+N4))) (hb:behindTheImports p=l++rest)
 (b0:∀P:Params,((boot_heap P).isNs mainGlobals,(treeOf (boot_heap P).objs.toList 0 .nil).isSome,(boot_heap P).objs.size,(boot_heap P).nsMap mainGlobals "__annotations__")=(true,true,J,L))
 (Y:∀w os,qA p w J L env c q0 l k1 k2 k3 (qB w os)=some (⟨kg kh (.body (behindTheImports p) env),c,U,[topFrame q0]⟩,c,c,S3 w os,p3))
 (aa:∀w os,((mJ p w J L N4 (S3 w os) (restOf rest env c p3 [topFrame q0])).map λ(s:SharedT)=>looksAt p q loose Xt Yf g0 (boot_heap w.params) s.abs)=some (true,openGood q loose,Ya w)):LeftO p q loose Xt Yf Ya N g0:=λw=>by
 obtain⟨⟨h,gs,d,k,os⟩,e1,e'⟩:=Option.map_eq_some_iff.mp (boot_open e hN f w);obtain⟨rfl,rfl,rfl,rfl⟩:h=boot_heap w.params/\gs=Array.mk []/\d=boot_drawn/\k=boot_toks:=by simpa using e'
 have ac:=b0 w.params;obtain⟨z,y0,hsz,ae⟩:_/\_/\_/\_:=by simpa only[Prod.mk.injEq] using ac
 obtain⟨T,y⟩:=Option.isSome_iff_exists.mp y0;obtain⟨s,r1,r2⟩:=Option.map_eq_some_iff.mp (aa w os);rw[xw] at r1;have r3:=EJ hb (Y w os) (xv r1);rw[<-ab] at r3;have hT:=xu (life:=(boot_heap w.params).life) _ _ _ _ y
 have hS:SharedT.abs (qB w os)=⟨boot_heap w.params,#[],boot_drawn,boot_toks,os⟩:=by
  unfold SharedT.abs qB sY;dsimp only;rw[y];dsimp only[Option.getD];rw[Nat.zero_add,Q1n] at hT;rw[hT];have e0:(absHeap BT.nil 0 (boot_heap w.params).life).objs=#[]:=rfl;rw[e0,Q2u,Array.toArray_toList]
 rw[hS] at r3
 have t:topFrom treeTable p w N ⟨boot_heap w.params,#[],boot_drawn,boot_toks,os⟩=some s.abs:=by
  unfold topFrom;dsimp only;rw[z,hsz,ae,r3];have l1:=congrArg (λz=>z.1) r2;dsimp only[looksAt] at l1;show(match staticsOk (importedModules p.main.body) (boot_heap w.params) s.abs.heap && namesBound p s.abs.heap && gensDone s.abs && laidKept (boot_heap w.params) s.abs.heap with|true=>_|false=>_)=_;rw[l1]
 unfold openEnds;rw[e1];show(topFrom treeTable p w N _).map _=_;rw[t];have l2:=congrArg (λz=>z.2) r2;dsimp only[looksAt] at l2;rw[show @seenQ=@openSeen from W.Fast.te4187177175401517315.symm] at l2;exact congrArg some l2
theorem EL {p q:Program}{loose:List Str}{Xt:Shared->Bool}{α:Type}{Yf:Shared->α}{Ya:World->α}{g0:Bool}{L z:Nat}{J:Option Value}{U Y:World->OsState->SharedT}{t:Thread}
 (b:∀w os,mJ p w z J L (U w os) t=some (Y w os)) (l:∀w os,looksAt p q loose Xt Yf g0 (boot_heap w.params) (Y w os).abs=(true,openGood q loose,Ya w)):
 ∀w os,((mJ p w z J L (U w os) t).map λ(s:SharedT)=>looksAt p q loose Xt Yf g0 (boot_heap w.params) s.abs)=some (true,openGood q loose,Ya w):=λw os=>by
 rw[b];exact congrArg some (l w os)
theorem EM {p q:Program}{loose:List Str}{Xt:Shared->Bool}{α:Type}{Yf:Shared->α}{Ya:World->α}{g0:Bool}{z:World->OsState->SharedT}
 (J:∀w os,(staticsOk (importedModules p.main.body) (boot_heap w.params) (z w os).abs.heap && namesBound p (z w os).abs.heap && gensDone (z w os).abs && laidKept (boot_heap w.params) (z w os).abs.heap)=true)
 (L:∀w os,seenQ q loose (importedModules p.main.body) Xt g0 (z w os).abs=openGood q loose) (U:∀w os,Yf (z w os).abs=Ya w):
 ∀w os,looksAt p q loose Xt Yf g0 (boot_heap w.params) (z w os).abs=(true,openGood q loose,Ya w):=λw os=>Prod.ext (J w os) (Prod.ext (L w os) (U w os))
end Pb
namespace Pb
open L2
noncomputable section
noncomputable def hF (x q:Str) (s:Stmt) (m:Str) (n c:Nat):Obj:=.mk (.type "function") none (.func (.mk x q (i6 s) (.stmts (iA s)) (eR s) 3 [] .none .none .none (.str m n) none (.ref c) .none 0)) #[]
noncomputable def hR (x q:Str) (s:Stmt):Obj:=.mk .none none (.func (.mk x q (i6 s) (.stmts (iA s)) (eR s) 0 [] .none .none .none .none none .none .none 0)) #[]
noncomputable def hC (x q:Str) (a l n k r e:Nat):Obj:=.mk (.type "code") none (.fields #[.str x a,.str q (a+1),.str (.ofString "/claim/cut.py") (a+2),.int l 0,.int n 0,.int 0 0,.int 0 0,.int k 0,.ref r,.bool true,.int 181 0,.ref (r+1),.none,.ref (r+2),.ref (r+3),.ref (r+4),.int e 0,.int l 0,.str (.ofString "/claim/cut.py") (e+1)]) #[]
noncomputable def EO (x q:Str) (a l n k r e:Nat):Obj:=.mk (.type "code") none (.fields #[.str x a,.str q (a+1),.str (.ofString "/claim/cut.py") (a+2),.int l 0,.int n 0,.int 0 0,.int 0 0,.int k 0,.ref r,.bool true,.int 181 0,.ref (r+1),.none,.none,.none,.ref (r+2),.int e 0,.int l 0,.str (.ofString "/claim/cut.py") (e+1)]) #[]
noncomputable def hK (x:Str) (a l r e:Nat):Obj:=.mk (.type "code") none (.fields #[.str x a,.str x (a+1),.str (.ofString "/claim/cut.py") (a+2),.int l 0,.int 0 0,.int 0 0,.int 0 0,.int 0 0,.ref r,.bool false,.int 181 0,.ref (r+1),.none,.none,.none,.none,.int e 0,.int l 0,.str (.ofString "/claim/cut.py") (e+1)]) #[]
noncomputable def f7 (x:Str) (s:Stmt) (m:Str) (n c:Nat):Obj:=hF x x s m n c
noncomputable def fH (x:Str) (s:Stmt):Obj:=hR x x s
noncomputable def gG (x:Str) (a l n k r e:Nat):Obj:=hC x x a l n k r e
noncomputable def kK (x:Str) (a l n k r e:Nat):Obj:=EO x x a l n k r e
noncomputable def tS:Nat->List Str->List Value
 |_,[]=>[]
 |n,x::r=>.str x n::tS (n+1) r
noncomputable def hT (n:Nat) (l:List Str):Obj:=.mk (.type "tuple") none (.seq (tS n l).toArray) #[]
noncomputable def tI:List (Nat × Nat × Nat)->List Value
 |[]=>[]
 |(a,b,c)::r=>.int a 0:: .int b 0:: .ref c::tI r
noncomputable def hI (l:List (Nat × Nat × Nat)):Obj:=.mk .none none (.fields (tI l).toArray) #[]
noncomputable def hE (P:Params) (x:Str) (a:Nat) (v:Value):DictEntry:=.mk (PyData.keyHash P x) (.str x a) v
def hT0:Obj:=hT 0 []
noncomputable def fj:Obj:=.mk .none none (.fields #[]) #[]
noncomputable def l9 (a b:Nat) (m:String) (n:Nat):Obj:=.mk (.type "frame") none .plain #[some (.ref a),some (.ref 3),some (.ref b),none,some (.str (.ofString m) n),none,some (.ref 0)]
noncomputable def mK (r:Nat):Obj:=.mk (.type "super") none (.fields #[.ref r,.ref r,.ref r]) #[]
noncomputable def hIs (r:Nat):Obj:=.mk (.type "builtin_function_or_method") none (.fields #[.builtin "object.__init_subclass__",.ref r]) #[]
noncomputable def ll:Obj:=.mk (.type "builtin_function_or_method") none (.fields #[.builtin "type.__prepare__",.type "type"]) #[]
noncomputable def mL (r:Nat):Obj:=.mk (.type "tuple") none (.seq #[.ref r]) #[]
noncomputable def xF:Str:="putback.errors"
noncomputable def sZ:Str:="putback.kinds"
noncomputable def l_:Str:="putback.values"
noncomputable def mM:Str:="putback.views"
noncomputable def iO:Str:="putback.fields"
noncomputable def iM:Str:="law_putback_k27_rename_and_nest"
noncomputable def Mr (x q:Str) (s:Stmt) (m:Value) (c:Nat):Obj:=.mk (.type "function") none (.func (.mk x q (i6 s) (.stmts (iA s)) (eR s) 3 [] .none .none .none m none (.ref c) .none 0)) #[]
noncomputable def Ms (x q:Str) (a l n k r f b e:Nat):Obj:=.mk (.type "code") none (.fields #[.str x a,.str q (a+1),.str (.ofString "/claim/cut.py") (a+2),.int l 0,.int n 0,.int 0 0,.int 0 0,.int k 0,.ref r,.bool true,.int f 0,.ref (r+1),.none,.ref (r+2),.ref (r+3),.ref (r+4),.int b 0,.int l 0,.str (.ofString "/claim/cut.py") e]) #[]
noncomputable def Mt (P:Params) (x:Str) (a:Nat) (v:Value):DictEntry:=.mk (PyData.keyHash P x) (.str x a) v
noncomputable def ER:Obj:=.mk .none none (.dict #[]) #[]
noncomputable def xG (P:Params):Obj:=.mk (.type "dict") none (.dict #[hE P "__name__" 165 (.str (.ofString "law_putback_k27_rename_and_nest") 666),hE P "__doc__" 166 .none,hE P "__package__" 167 .none,hE P "__loader__" 168 (.builtin "__main__.__loader__#opaque"),hE P "__spec__" 169 .none,hE P "__annotations__" 170 (.ref 6),hE P "__builtins__" 171 (.ref 4),hE P "__file__" 173 (.str (.ofString "/claim/cut.py") 172),hE P "__cached__" 174 .none,hE P "ViewError" 206 (.ref 24),hE P "NoKind" 222 (.ref 37),hE P "NoView" 247 (.ref 56),hE P "CantPut" 272 (.ref 75),hE P "kind_at" 283 (.ref 84),hE P "sorted_fields" 293 (.ref 91),hE P "record_of" 300 (.ref 98),hE P "misfit" 311 (.ref 105),hE P "record_misfit" 322 (.ref 112),hE P "has_just" 328 (.ref 117),hE P "rows_misfit" 340 (.ref 124),hE P "is_pair" 347 (.ref 131),hE P "tree_misfit" 358 (.ref 138),hE P "either_misfit" 368 (.ref 145),hE P "rank" 378 (.ref 152),hE P "ask_fit" 389 (.ref 159),hE P "ask_stands" 396 (.ref 166),hE P "View" 458 (.ref 211),hE P "field_kind" 468 (.ref 222),hE P "has_each_once" 474 (.ref 227),hE P "fields_among" 480 (.ref 232),hE P "fields_but" 486 (.ref 237),hE P "part_of" 496 (.ref 244),hE P "rest_of" 502 (.ref 249),hE P "with_field" 512 (.ref 256),hE P "renamed" 521 (.ref 263),hE P "nested" 530 (.ref 270),hE P "unnested" 539 (.ref 277),hE P "Rename" 602 (.ref 322),hE P "Nest" 665 (.ref 369),hE P "_law_next" 677 (.ref 378),hE P "_law_number" 687 (.ref 385),hE P "_law_word" 701 (.ref 392),hE P "_law_names" 718 (.ref 399),hE P "_law_plain" 726 (.ref 406),hE P "_law_fields" 732 (.ref 411),hE P "_law_rows_kind" 750 (.ref 418),hE P "_law_kind" 760 (.ref 425),hE P "_law_rank" 768 (.ref 432),hE P "_law_rows" 783 (.ref 439),hE P "_law_value" 789 (.ref 444),hE P "_law_alike" 795 (.ref 449),hE P "_law_put" 807 (.ref 456),hE P "_law_fresh" 818 (.ref 463),hE P "_law_some" 830 (.ref 470),hE P "_law_place" 840 (.ref 477),hE P "_law_sorted" 847 (.ref 484),hE P "_law_both" 863 (.ref 491),hE P "_law_renamed" 869 (.ref 496),hE P "_law_nested" 875 (.ref 501),hE P "law" 890 (.ref 508)] 60) #[]
noncomputable def xH (P:Params):Obj:=.mk (.type "dict") none (.dict #[hE P "__module__" 196 (.str (.ofString "putback.errors") 187),hE P "__firstlineno__" 200 (.int 2 199),hE P "__static_attributes__" 201 (.ref 22),hE P "__weakref__" 203 (.ref 25),hE P "__doc__" 204 .none] 3) #[]
noncomputable def xI:Obj:=.mk (.type "type") none (.cls (.mk (.ofString "ViewError") [.type "ValueError"] [.ref 24,.type "ValueError",.type "Exception",.type "BaseException",.type "object"] 23 (.ofString "ViewError") true [] [.ref 37,.ref 56,.ref 75] false none false)) #[some (.ref 15),none,some (.str (.ofString "ViewError") 189),some (.str (.ofString "ViewError") 197),some (.builtin "ValueError.__new__"),some (.bool true)]
noncomputable def xJ:Obj:=.mk (.type "getset_descriptor") none (.fields #[.str (.ofString "__weakref__") 202,.ref 24,.builtin "ExceptionGroup.__weakref__",.none]) #[]
noncomputable def xK (P:Params):Obj:=.mk (.type "dict") none (.dict #[hE P "__module__" 214 (.str (.ofString "putback.errors") 187),hE P "__firstlineno__" 218 (.int 4 217),hE P "__static_attributes__" 219 (.ref 35),hE P "__doc__" 220 .none] 2) #[]
noncomputable def xM:Obj:=.mk (.type "type") none (.cls (.mk (.ofString "NoKind") [.ref 24] [.ref 37,.ref 24,.type "ValueError",.type "Exception",.type "BaseException",.type "object"] 36 (.ofString "NoKind") true [] [] false none false)) #[some (.ref 28),none,some (.str (.ofString "NoKind") 207),some (.str (.ofString "NoKind") 215),some (.builtin "ValueError.__new__"),some (.bool true)]
def xN:Obj:=hC "__init__" "NoView.__init__" 235 8 2 3 47 240
def xO:Obj:=hF "__init__" "NoView.__init__" (eW 3 0) xF 187 52
noncomputable def xP (P:Params):Obj:=.mk (.type "dict") none (.dict #[hE P "__module__" 230 (.str (.ofString "putback.errors") 187),hE P "__firstlineno__" 234 (.int 6 233),hE P "__init__" 242 (.ref 53),hE P "__static_attributes__" 244 (.ref 54),hE P "__doc__" 245 .none] 2) #[]
noncomputable def xQ:Obj:=.mk (.type "type") none (.cls (.mk (.ofString "NoView") [.ref 24] [.ref 56,.ref 24,.type "ValueError",.type "Exception",.type "BaseException",.type "object"] 55 (.ofString "NoView") true [] [] false none false)) #[some (.ref 40),none,some (.str (.ofString "NoView") 223),some (.str (.ofString "NoView") 231),some (.builtin "ValueError.__new__"),some (.bool true)]
def xR:Obj:=hC "__init__" "CantPut.__init__" 260 12 2 3 66 265
def xS:Obj:=hF "__init__" "CantPut.__init__" (eW 4 0) xF 187 71
noncomputable def xT (P:Params):Obj:=.mk (.type "dict") none (.dict #[hE P "__module__" 255 (.str (.ofString "putback.errors") 187),hE P "__firstlineno__" 259 (.int 10 258),hE P "__init__" 267 (.ref 72),hE P "__static_attributes__" 269 (.ref 73),hE P "__doc__" 270 .none] 2) #[]
noncomputable def xU:Obj:=.mk (.type "type") none (.cls (.mk (.ofString "CantPut") [.ref 24] [.ref 75,.ref 24,.type "ValueError",.type "Exception",.type "BaseException",.type "object"] 74 (.ofString "CantPut") true [] [] false none false)) #[some (.ref 59),none,some (.str (.ofString "CantPut") 248),some (.str (.ofString "CantPut") 256),some (.builtin "ValueError.__new__"),some (.bool true)]
def xV:Obj:=gG "kind_at" 275 15 2 3 78 281
def xW:Obj:=f7 "kind_at" (top 6) sZ 273 83
def xX:Obj:=gG "sorted_fields" 284 20 1 3 85 291
def xY:Obj:=f7 "sorted_fields" (top 7) sZ 273 90
def xZ:Obj:=gG "record_of" 294 27 1 3 92 298
def x9:Obj:=f7 "record_of" (top 8) sZ 273 97
def x_:Obj:=gG "misfit" 303 30 2 3 99 309
def ya:Obj:=f7 "misfit" (top 10) l_ 301 104
def yb:Obj:=gG "record_misfit" 312 43 2 3 106 320
def yc:Obj:=f7 "record_misfit" (top 11) l_ 301 111
def yd:Obj:=kK "has_just" 323 51 2 3 113 326
def ye:Obj:=f7 "has_just" (top 12) l_ 301 116
def yf:Obj:=gG "rows_misfit" 329 53 2 3 118 338
def yg:Obj:=f7 "rows_misfit" (top 13) l_ 301 123
def yh:Obj:=gG "is_pair" 341 67 1 3 125 345
def yi:Obj:=f7 "is_pair" (top 14) l_ 301 130
def yj:Obj:=gG "tree_misfit" 348 69 2 3 132 356
def yk:Obj:=f7 "tree_misfit" (top 15) l_ 301 137
def yl:Obj:=gG "either_misfit" 359 80 2 3 139 366
def ym:Obj:=f7 "either_misfit" (top 16) l_ 301 144
def yn:Obj:=gG "rank" 369 90 2 3 146 376
def yo:Obj:=f7 "rank" (top 17) l_ 301 151
def yp:Obj:=gG "ask_fit" 381 97 2 3 153 387
def yq:Obj:=f7 "ask_fit" (top 19) mM 379 158
def yr:Obj:=gG "ask_stands" 390 101 1 3 160 394
def yt:Obj:=f7 "ask_stands" (top 20) mM 379 165
def yu:Obj:=hC "behind" "View.behind" 409 106 2 3 174 414
def yw:Obj:=hF "behind" "View.behind" (eW 21 0) mM 379 179
def yx:Obj:=hC "see" "View.see" 417 109 3 3 181 423
def yz:Obj:=hF "see" "View.see" (eW 21 1) mM 379 186
def yA:Obj:=hC "put" "View.put" 426 112 4 3 188 433
def yB:Obj:=hF "put" "View.put" (eW 21 2) mM 379 193
def yC:Obj:=hC "grade" "View.grade" 436 116 1 3 195 440
def yD:Obj:=hF "grade" "View.grade" (eW 21 3) mM 379 200
def yE:Obj:=hC "keeps" "View.keeps" 443 119 2 3 202 448
def yF:Obj:=hF "keeps" "View.keeps" (eW 21 4) mM 379 207
noncomputable def yG (P:Params):Obj:=.mk (.type "dict") none (.dict #[hE P "__module__" 404 (.str (.ofString "putback.views") 379),hE P "__firstlineno__" 408 (.int 104 407),hE P "behind" 416 (.ref 180),hE P "see" 425 (.ref 187),hE P "put" 435 (.ref 194),hE P "grade" 442 (.ref 201),hE P "keeps" 450 (.ref 208),hE P "__static_attributes__" 451 (.ref 209),hE P "__dict__" 453 (.ref 212),hE P "__weakref__" 455 (.ref 213),hE P "__doc__" 456 .none] 4) #[]
noncomputable def yH:Obj:=.mk (.type "type") none (.cls (.mk (.ofString "View") [.type "object"] [.ref 211,.type "object"] 210 (.ofString "View") true [] [.ref 322,.ref 369] false none false)) #[none,none,some (.str (.ofString "View") 397),some (.str (.ofString "View") 405),some (.builtin "object.__new__"),some (.bool true)]
noncomputable def yI:Obj:=.mk (.type "getset_descriptor") none (.fields #[.str (.ofString "__dict__") 452,.ref 211,.builtin "function.__dict__",.builtin "function.__dict__#set"]) #[]
noncomputable def yJ:Obj:=.mk (.type "getset_descriptor") none (.fields #[.str (.ofString "__weakref__") 454,.ref 211,.builtin "ExceptionGroup.__weakref__",.none]) #[]
def yK:Obj:=gG "field_kind" 461 122 2 3 216 466
def yL:Obj:=f7 "field_kind" (top 23) iO 459 221
def yM:Obj:=kK "has_each_once" 469 124 2 3 223 472
def yN:Obj:=f7 "has_each_once" (top 24) iO 459 226
def yO:Obj:=kK "fields_among" 475 128 2 3 228 478
def yP:Obj:=f7 "fields_among" (top 25) iO 459 231
def yQ:Obj:=kK "fields_but" 481 130 2 3 233 484
def yR:Obj:=f7 "fields_but" (top 26) iO 459 236
def yS:Obj:=gG "part_of" 487 132 2 3 238 494
def yT:Obj:=f7 "part_of" (top 27) iO 459 243
def yU:Obj:=kK "rest_of" 497 137 2 3 245 500
def yV:Obj:=f7 "rest_of" (top 28) iO 459 248
def yW:Obj:=gG "with_field" 503 139 3 3 250 510
def yX:Obj:=f7 "with_field" (top 29) iO 459 255
def yY:Obj:=gG "renamed" 513 143 3 3 257 519
def yZ:Obj:=f7 "renamed" (top 30) iO 459 262
def y7:Obj:=gG "nested" 522 145 3 3 264 528
def y8:Obj:=f7 "nested" (top 31) iO 459 269
def y9:Obj:=gG "unnested" 531 147 2 3 271 537
def y_:Obj:=f7 "unnested" (top 32) iO 459 276
def za:Obj:=hC "__init__" "Rename.__init__" 552 153 3 3 285 558
def zb:Obj:=hF "__init__" "Rename.__init__" (eW 33 0) iO 459 290
def zc:Obj:=hC "behind" "Rename.behind" 561 157 2 3 292 567
def zd:Obj:=hF "behind" "Rename.behind" (eW 33 1) iO 459 297
def ze:Obj:=hC "see" "Rename.see" 570 162 3 3 299 576
def zf:Obj:=hF "see" "Rename.see" (eW 33 2) iO 459 304
def zh:Obj:=hC "put" "Rename.put" 579 165 4 3 306 586
def zi:Obj:=hF "put" "Rename.put" (eW 33 3) iO 459 311
def zj:Obj:=hC "keeps" "Rename.keeps" 589 169 2 3 313 594
def zk:Obj:=hF "keeps" "Rename.keeps" (eW 33 4) iO 459 318
noncomputable def zl (P:Params):Obj:=.mk (.type "dict") none (.dict #[hE P "__module__" 547 (.str (.ofString "putback.fields") 459),hE P "__firstlineno__" 551 (.int 151 550),hE P "__init__" 560 (.ref 291),hE P "behind" 569 (.ref 298),hE P "see" 578 (.ref 305),hE P "put" 588 (.ref 312),hE P "keeps" 596 (.ref 319),hE P "__static_attributes__" 599 (.ref 320),hE P "__doc__" 600 .none] 2) #[]
noncomputable def zm:Obj:=.mk (.type "type") none (.cls (.mk (.ofString "Rename") [.ref 211] [.ref 322,.ref 211,.type "object"] 321 (.ofString "Rename") true [] [] false none false)) #[some (.ref 278),none,some (.str (.ofString "Rename") 540),some (.str (.ofString "Rename") 548),some (.builtin "object.__new__"),some (.bool true)]
def zo:Obj:=hC "__init__" "Nest.__init__" 615 173 3 3 332 621
def zp:Obj:=hF "__init__" "Nest.__init__" (eW 34 0) iO 459 337
def zq:Obj:=hC "behind" "Nest.behind" 624 177 2 3 339 630
def zr:Obj:=hF "behind" "Nest.behind" (eW 34 1) iO 459 344
def zt:Obj:=hC "see" "Nest.see" 633 183 3 3 346 639
def zu:Obj:=hF "see" "Nest.see" (eW 34 2) iO 459 351
def zv:Obj:=hC "put" "Nest.put" 642 186 4 3 353 649
def zw:Obj:=hF "put" "Nest.put" (eW 34 3) iO 459 358
def zx:Obj:=hC "keeps" "Nest.keeps" 652 190 2 3 360 657
def zy:Obj:=hF "keeps" "Nest.keeps" (eW 34 4) iO 459 365
noncomputable def zA (P:Params):Obj:=.mk (.type "dict") none (.dict #[hE P "__module__" 610 (.str (.ofString "putback.fields") 459),hE P "__firstlineno__" 614 (.int 171 613),hE P "__init__" 623 (.ref 338),hE P "behind" 632 (.ref 345),hE P "see" 641 (.ref 352),hE P "put" 651 (.ref 359),hE P "keeps" 659 (.ref 366),hE P "__static_attributes__" 662 (.ref 367),hE P "__doc__" 663 .none] 2) #[]
noncomputable def zB:Obj:=.mk (.type "type") none (.cls (.mk (.ofString "Nest") [.ref 211] [.ref 369,.ref 211,.type "object"] 368 (.ofString "Nest") true [] [] false none false)) #[some (.ref 325),none,some (.str (.ofString "Nest") 603),some (.str (.ofString "Nest") 611),some (.builtin "object.__new__"),some (.bool true)]
def zC:Obj:=gG "_law_next" 668 193 2 3 372 675
def zD:Obj:=f7 "_law_next" (top 36) iM 666 377
def zE:Obj:=gG "_law_number" 678 200 2 3 379 685
def zF:Obj:=f7 "_law_number" (top 37) iM 666 384
def zG:Obj:=gG "_law_word" 688 208 2 3 386 699
def zH:Obj:=f7 "_law_word" (top 38) iM 666 391
def zI:Obj:=gG "_law_names" 702 220 3 3 393 716
def zJ:Obj:=f7 "_law_names" (top 39) iM 666 398
def zK:Obj:=gG "_law_plain" 719 234 2 3 400 724
def zL:Obj:=f7 "_law_plain" (top 40) iM 666 405
def zM:Obj:=kK "_law_fields" 727 238 4 3 407 730
def zN:Obj:=f7 "_law_fields" (top 41) iM 666 410
def zO:Obj:=gG "_law_rows_kind" 733 241 4 3 412 748
def zP:Obj:=f7 "_law_rows_kind" (top 42) iM 666 417
def zQ:Obj:=gG "_law_kind" 751 256 3 3 419 758
def zR:Obj:=f7 "_law_kind" (top 43) iM 666 424
def zS:Obj:=gG "_law_rank" 761 267 2 3 426 766
def zT:Obj:=f7 "_law_rank" (top 44) iM 666 431
def zU:Obj:=gG "_law_rows" 769 271 4 3 433 781
def zV:Obj:=f7 "_law_rows" (top 45) iM 666 438
def zW:Obj:=kK "_law_value" 784 280 4 3 440 787
def zX:Obj:=f7 "_law_value" (top 46) iM 666 443
def zY:Obj:=kK "_law_alike" 790 298 3 3 445 793
def zZ:Obj:=f7 "_law_alike" (top 47) iM 666 448
def z0:Obj:=gG "_law_put" 796 326 4 3 450 805
def z7:Obj:=f7 "_law_put" (top 48) iM 666 455
def z8:Obj:=gG "_law_fresh" 808 333 2 3 457 816
def z9:Obj:=f7 "_law_fresh" (top 49) iM 666 462
def z_:Obj:=gG "_law_some" 819 340 3 3 464 828
def Aa:Obj:=f7 "_law_some" (top 50) iM 666 469
def Ab:Obj:=gG "_law_place" 831 347 2 3 471 838
def Ac:Obj:=f7 "_law_place" (top 51) iM 666 476
def Ad:Obj:=gG "_law_sorted" 841 354 1 3 478 845
def Ae:Obj:=f7 "_law_sorted" (top 52) iM 666 483
def Af:Obj:=gG "_law_both" 848 356 6 3 485 861
def Ag:Obj:=f7 "_law_both" (top 53) iM 666 490
def Ah:Obj:=kK "_law_renamed" 864 378 5 3 492 867
def Ai:Obj:=f7 "_law_renamed" (top 54) iM 666 495
def Aj:Obj:=kK "_law_nested" 870 392 5 3 497 873
def Ak:Obj:=f7 "_law_nested" (top 55) iM 666 500
def Al:Obj:=gG "law" 876 415 1 3 502 888
def Am:Obj:=f7 "law" (top 56) iM 666 507
noncomputable def ES (P:Params):Obj:=.mk (.type "dict") none (.dict #[hE P "__name__" 165 (.str (.ofString "putback.fields") 459),hE P "__doc__" 166 .none,hE P "__package__" 167 .none,hE P "__loader__" 168 (.builtin "__main__.__loader__#opaque"),hE P "__spec__" 169 .none,hE P "__annotations__" 170 (.ref 6),hE P "__builtins__" 171 (.ref 4),hE P "__file__" 173 (.str (.ofString "/claim/cut.py") 172),hE P "__cached__" 174 .none,hE P "ViewError" 206 (.ref 24),hE P "NoKind" 222 (.ref 37),hE P "NoView" 247 (.ref 56),hE P "CantPut" 272 (.ref 75),hE P "kind_at" 283 (.ref 84),hE P "sorted_fields" 293 (.ref 91),hE P "record_of" 300 (.ref 98),hE P "misfit" 311 (.ref 105),hE P "record_misfit" 322 (.ref 112),hE P "has_just" 328 (.ref 117),hE P "rows_misfit" 340 (.ref 124),hE P "is_pair" 347 (.ref 131),hE P "tree_misfit" 358 (.ref 138),hE P "either_misfit" 368 (.ref 145),hE P "rank" 378 (.ref 152),hE P "ask_fit" 389 (.ref 159),hE P "ask_stands" 396 (.ref 166),hE P "View" 458 (.ref 211),hE P "field_kind" 468 (.ref 222)] 28) #[]
noncomputable def ET (P:Params):List Obj:=hT0::hI [(2,0,20),(4,0,33),(6,0,45),(10,0,64),(15,0,83),(20,0,90),(27,0,97),(30,0,104),(43,0,111),(51,0,116),(53,0,123),(67,0,130),(69,0,137),(80,0,144),(90,0,151),(97,0,158),(101,0,165),(104,0,172),(122,0,221)]::hK "<module>" 182 1 11 185::l9 13 3 "__main__" 164:: .mk (.type "tuple") none (.seq #[.type "ValueError"]) #[]::ll:: .mk (.type "dict") none (.dict #[hE P "__module__" 196 (.str (.ofString "putback.errors") 187),hE P "__qualname__" 198 (.str (.ofString "ViewError") 197),hE P "__firstlineno__" 200 (.int 2 199),hE P "__static_attributes__" 201 (.ref 22)] 4) #[]::hT0::fj::hK "ViewError" 191 2 18 194::l9 20 17 "putback.errors" 187::hT0::xH P::xI::xJ::mK 24::hIs 24::mL 24::ll:: .mk (.type "dict") none (.dict #[hE P "__module__" 214 (.str (.ofString "putback.errors") 187),hE P "__qualname__" 216 (.str (.ofString "NoKind") 215),hE P "__firstlineno__" 218 (.int 4 217),hE P "__static_attributes__" 219 (.ref 35)] 4) #[]::hT0::fj::hK "NoKind" 209 4 31 212::l9 33 30 "putback.errors" 187::hT0::xK P::xM::mK 37::hIs 37::mL 24::ll:: .mk (.type "dict") none (.dict #[hE P "__module__" 230 (.str (.ofString "putback.errors") 187),hE P "__qualname__" 232 (.str (.ofString "NoView") 231),hE P "__firstlineno__" 234 (.int 6 233),hE P "__init__" 242 (.ref 53),hE P "__static_attributes__" 244 (.ref 54)] 5) #[]::hT0::hI [(8,4,52)]::hK "NoView" 225 6 43 228::l9 45 42 "putback.errors" 187::hT0::fj::hT 238 ["self","way"]::hT0::hR "__init__" "NoView.__init__" (eW 3 0)::xN::xO::hT 243 ["way"]::xP P::xQ::mK 56::hIs 56::mL 24::ll:: .mk (.type "dict") none (.dict #[hE P "__module__" 255 (.str (.ofString "putback.errors") 187),hE P "__qualname__" 257 (.str (.ofString "CantPut") 256),hE P "__firstlineno__" 259 (.int 10 258),hE P "__init__" 267 (.ref 72),hE P "__static_attributes__" 269 (.ref 73)] 5) #[]::hT0::hI [(12,4,71)]::hK "CantPut" 250 10 62 253::l9 64 61 "putback.errors" 187::hT0::fj::hT 263 ["self","way"]::hT0::hR "__init__" "CantPut.__init__" (eW 4 0)::xR::xS::hT 268 ["way"]::xT P::xU::mK 75::hIs 75::hT0::fj::hT 278 ["fields","name","pair"]::hT0::fH "kind_at" (top 6)::xV::xW::hT0::fj::hT 287 ["pairs","fields","number","name"]::hT0::fH "sorted_fields" (top 7)::xX::xY::hT0::fj::hT 297 ["pairs"]::hT0::fH "record_of" (top 8)::xZ::x9::hT0::fj::hT 306 ["kind","value","form"]::hT0::fH "misfit" (top 10)::x_::ya::hT0::fj::hT 315 ["fields","record","name","inner","place"]::hT0::fH "record_misfit" (top 11)::yb::yc::hT0::fj::fH "has_just" (top 12)::yd::ye::hT0::fj::hT 332 ["kind","rows","earlier","number","row","place"]::hT0::fH "rows_misfit" (top 13)::yf::yg::hT0::fj::hT 344 ["value"]::hT0::fH "is_pair" (top 14)::yh::yi::hT0::fj::hT 351 ["kind","tree","place","number","arm"]::hT0::fH "tree_misfit" (top 15)::yj::yk::hT0::fj::hT 362 ["fields","value","inner","place"]::hT0::fH "either_misfit" (top 16)::yl::ym::hT0::fj::hT 372 ["kind","row","key","by"]::hT0::fH "rank" (top 17)::yn::yo::hT0::fj::hT 384 ["kind","seen","place"]::hT0::fH "ask_fit" (top 19)::yp::yq::hT0::fj::hT 393 ["stands"]::hT0::fH "ask_stands" (top 20)::yr::yt::hT0::ll:: .mk (.type "dict") none (.dict #[hE P "__module__" 404 (.str (.ofString "putback.views") 379),hE P "__qualname__" 406 (.str (.ofString "View") 405),hE P "__firstlineno__" 408 (.int 104 407),hE P "behind" 416 (.ref 180),hE P "see" 425 (.ref 187),hE P "put" 435 (.ref 194),hE P "grade" 442 (.ref 201),hE P "keeps" 450 (.ref 208),hE P "__static_attributes__" 451 (.ref 209)] 9) #[]::hT0::hI [(106,4,179),(109,4,186),(112,4,193),(116,4,200),(119,4,207)]::hK "View" 399 104 170 402::l9 172 169 "putback.views" 379::hT0::fj::hT 412 ["self","kind"]::hT0::hR "behind" "View.behind" (eW 21 0)::yu::yw::hT0::fj::hT 420 ["self","kind","source"]::hT0::hR "see" "View.see" (eW 21 1)::yx::yz::hT0::fj::hT 429 ["self","kind","source","seen"]::hT0::hR "put" "View.put" (eW 21 2)::yA::yB::hT0::fj::hT 439 ["self"]::hT0::hR "grade" "View.grade" (eW 21 3)::yC::yD::hT0::fj::hT 446 ["self","name"]::hT0::hR "keeps" "View.keeps" (eW 21 4)::yE::yF::hT0::yG P:: .mk (.type "type") none (.cls (.mk (.ofString "View") [.type "object"] [.ref 211,.type "object"] 210 (.ofString "View") true [] [] false none false)) #[none,none,some (.str (.ofString "View") 397),some (.str (.ofString "View") 405),some (.builtin "object.__new__"),some (.bool true)]::yI::yJ::mK 211::hIs 211::hT0::fj::hT 464 ["kind","name"]::hT0::fH "field_kind" (top 23)::yK::yL::[]
noncomputable def endL (P:Params):List Obj:=hT0::fj::fH "has_each_once" (top 24)::yM::yN::hT0::fj::fH "fields_among" (top 25)::yO::yP::hT0::fj::fH "fields_but" (top 26)::yQ::yR::hT0::fj::hT 490 ["record","names","part","name"]::hT0::fH "part_of" (top 27)::yS::yT::hT0::fj::fH "rest_of" (top 28)::yU::yV::hT0::fj::hT 506 ["record","name","value","fresh"]::hT0::fH "with_field" (top 29)::yW::yX::hT0::fj::hT 516 ["record","old","new"]::hT0::fH "renamed" (top 30)::yY::yZ::hT0::fj::hT 525 ["record","names","into"]::hT0::fH "nested" (top 31)::y7::y8::hT0::fj::hT 534 ["record","field","fresh"]::hT0::fH "unnested" (top 32)::y9::y_::mL 211::ll:: .mk (.type "dict") none (.dict #[hE P "__module__" 547 (.str (.ofString "putback.fields") 459),hE P "__qualname__" 549 (.str (.ofString "Rename") 548),hE P "__firstlineno__" 551 (.int 151 550),hE P "__init__" 560 (.ref 291),hE P "behind" 569 (.ref 298),hE P "see" 578 (.ref 305),hE P "put" 588 (.ref 312),hE P "keeps" 596 (.ref 319),hE P "__static_attributes__" 599 (.ref 320)] 9) #[]::hT0::hI [(153,4,290),(157,4,297),(162,4,304),(165,4,311),(169,4,318)]::hK "Rename" 542 151 281 545::l9 283 280 "putback.fields" 459::hT0::fj::hT 555 ["self","old","new"]::hT0::hR "__init__" "Rename.__init__" (eW 33 0)::za::zb::hT0::fj::hT 564 ["self","kind","inner"]::hT0::hR "behind" "Rename.behind" (eW 33 1)::zc::zd::hT0::fj::hT 573 ["self","kind","source"]::hT0::hR "see" "Rename.see" (eW 33 2)::ze::zf::hT0::fj::hT 582 ["self","kind","source","seen"]::hT0::hR "put" "Rename.put" (eW 33 3)::zh::zi::hT0::fj::hT 592 ["self","name"]::hT0::hR "keeps" "Rename.keeps" (eW 33 4)::zj::zk::hT 597 ["new","old"]::zl P::zm::mK 322::hIs 322::mL 211::ll:: .mk (.type "dict") none (.dict #[hE P "__module__" 610 (.str (.ofString "putback.fields") 459),hE P "__qualname__" 612 (.str (.ofString "Nest") 611),hE P "__firstlineno__" 614 (.int 171 613),hE P "__init__" 623 (.ref 338),hE P "behind" 632 (.ref 345),hE P "see" 641 (.ref 352),hE P "put" 651 (.ref 359),hE P "keeps" 659 (.ref 366),hE P "__static_attributes__" 662 (.ref 367)] 9) #[]::hT0::hI [(173,4,337),(177,4,344),(183,4,351),(186,4,358),(190,4,365)]::hK "Nest" 605 171 328 608::l9 330 327 "putback.fields" 459::hT0::fj::hT 618 ["self","names","into"]::hT0::hR "__init__" "Nest.__init__" (eW 34 0)::zo::zp::hT0::fj::hT 627 ["self","kind","rest"]::hT0::hR "behind" "Nest.behind" (eW 34 1)::zq::zr::hT0::fj::hT 636 ["self","kind","source"]::hT0::hR "see" "Nest.see" (eW 34 2)::zt::zu::hT0::fj::hT 645 ["self","kind","source","seen"]::hT0::hR "put" "Nest.put" (eW 34 3)::zv::zw::hT0::fj::hT 655 ["self","name"]::hT0::hR "keeps" "Nest.keeps" (eW 34 4)::zx::zy::hT 660 ["into","names"]::zA P::zB::mK 369::hIs 369::hT0::fj::hT 671 ["_law_script","_law_at","_law_cell","_law_m"]::hT0::fH "_law_next" (top 36)::zC::zD::hT0::fj::hT 681 ["_law_script","_law_at","_law_m","_law_cell"]::hT0::fH "_law_number" (top 37)::zE::zF::hT0::fj::hT 691 ["_law_script","_law_at","_law_signs","_law_m","_law_many","_law_word_here","_law_k","_law_place_here"]::hT0::fH "_law_word" (top 38)::zG::zH::hT0::fj::hT 705 ["_law_script","_law_at","_law_many","_law_letters","_law_m","_law_step","_law_stem","_law_cut","_law_names_here","_law_k","_law_sign"]::hT0::fH "_law_names" (top 39)::zI::zJ::hT0::fj::hT 722 ["_law_script","_law_at"]::hT0::fH "_law_plain" (top 40)::zK::zL::hT0::fj::fH "_law_fields" (top 41)::zM::zN::hT0::fj::hT 736 ["_law_script","_law_at","_law_many","_law_deep","_law_names_here","_law_m","_law_lead","_law_by","_law_fields_here","_law_k","_law_kind_here","_law_name"]::hT0::fH "_law_rows_kind" (top 42)::zO::zP::hT0::fj::hT 754 ["_law_script","_law_at","_law_deep","_law_m"]::hT0::fH "_law_kind" (top 43)::zQ::zR::hT0::fj::hT 764 ["_law_kind_here","_law_row"]::hT0::fH "_law_rank" (top 44)::zS::zT::hT0::fj::hT 772 ["_law_script","_law_at","_law_kind_here","_law_room","_law_rows_here","_law_seen","_law_k","_law_row"]::hT 780 ["_law_kind_here"]::fH "_law_rows" (top 45)::zU::zV::hT0::fj::fH "_law_value" (top 46)::zW::zX::hT0::fj::fH "_law_alike" (top 47)::zY::zZ::hT0::fj::hT 799 ["_law_view","_law_kind_here","_law_source","_law_seen","_law_told","e"]::hT0::fH "_law_put" (top 48)::z0::z7::hT0::fj::hT 811 ["_law_names_here","_law_m","_law_letters","_law_k","_law_name"]::hT0::fH "_law_fresh" (top 49)::z8::z9::hT0::fj::hT 822 ["_law_script","_law_at","_law_names_here","_law_made","_law_name","_law_m"]::hT0::fH "_law_some" (top 50)::z_::Aa::hT0::fj::hT 834 ["_law_found","_law_due","_law_a","_law_b"]::hT0::fH "_law_place" (top 51)::Ab::Ac::hT0::fj::hT 844 ["_law_pairs"]::hT0::fH "_law_sorted" (top 52)::Ad::Ae::hT0::fj::hT 851 ["_law_view","_law_kind_here","_law_behind","_law_source","_law_other","_law_shown","_law_told","_law_more","_law_less","_law_name"]::hT0::fH "_law_both" (top 53)::Af::Ag::hT0::fj::fH "_law_renamed" (top 54)::Ah::Ai::hT0::fj::fH "_law_nested" (top 55)::Aj::Ak::hT0::fj::hT 879 ["_law_script","_law_at","_law_k","_law_m","_law_kind_here","_law_source","_law_begin","_law_other","_law_kept"]::hT0::fH "law" (top 56)::Al::Am::[]
noncomputable def EU (P:Params):List (Nat × Obj):=(nat_lit 3,xG P)::(nat_lit 12,hI [(2,0,20),(4,0,33),(6,0,45),(10,0,64),(15,0,83),(20,0,90),(27,0,97),(30,0,104),(43,0,111),(51,0,116),(53,0,123),(67,0,130),(69,0,137),(80,0,144),(90,0,151),(97,0,158),(101,0,165),(104,0,172),(122,0,221),(124,0,226),(128,0,231),(130,0,236),(132,0,243),(137,0,248),(139,0,255),(143,0,262),(145,0,269),(147,0,276),(151,0,283),(171,0,330),(193,0,377),(200,0,384),(208,0,391),(220,0,398),(234,0,405),(238,0,410),(241,0,417),(256,0,424),(267,0,431),(271,0,438),(280,0,443),(298,0,448),(326,0,455),(333,0,462),(340,0,469),(347,0,476),(354,0,483),(356,0,490),(378,0,495),(392,0,500),(415,0,507)])::(nat_lit 211,yH)::[]
end
noncomputable def KK:PySem.Params->W.Frag:=λP=>(nat_lit 2,ER)::(nat_lit 3,xG P)::(nat_lit 23,xH P)::(nat_lit 24,xI)::(nat_lit 25,xJ)::(nat_lit 36,xK P)::(nat_lit 37,xM)::(nat_lit 52,xN)::(nat_lit 53,xO)::(nat_lit 55,xP P)::(nat_lit 56,xQ)::(nat_lit 71,xR)::(nat_lit 72,xS)::(nat_lit 74,xT P)::(nat_lit 75,xU)::(nat_lit 83,xV)::(nat_lit 84,xW)::(nat_lit 90,xX)::(nat_lit 91,xY)::(nat_lit 97,xZ)::(nat_lit 98,x9)::(nat_lit 104,x_)::(nat_lit 105,ya)::(nat_lit 111,yb)::(nat_lit 112,yc)::(nat_lit 116,yd)::(nat_lit 117,ye)::(nat_lit 123,yf)::(nat_lit 124,yg)::(nat_lit 130,yh)::(nat_lit 131,yi)::(nat_lit 137,yj)::(nat_lit 138,yk)::(nat_lit 144,yl)::(nat_lit 145,ym)::(nat_lit 151,yn)::(nat_lit 152,yo)::(nat_lit 158,yp)::(nat_lit 159,yq)::(nat_lit 165,yr)::(nat_lit 166,yt)::(nat_lit 179,yu)::(nat_lit 180,yw)::(nat_lit 186,yx)::(nat_lit 187,yz)::(nat_lit 193,yA)::(nat_lit 194,yB)::(nat_lit 200,yC)::(nat_lit 201,yD)::(nat_lit 207,yE)::(nat_lit 208,yF)::(nat_lit 210,yG P)::(nat_lit 211,yH)::(nat_lit 212,yI)::(nat_lit 213,yJ)::(nat_lit 221,yK)::(nat_lit 222,yL)::(nat_lit 226,yM)::(nat_lit 227,yN)::(nat_lit 231,yO)::(nat_lit 232,yP)::(nat_lit 236,yQ)::(nat_lit 237,yR)::(nat_lit 243,yS)::(nat_lit 244,yT)::(nat_lit 248,yU)::(nat_lit 249,yV)::(nat_lit 255,yW)::(nat_lit 256,yX)::(nat_lit 262,yY)::(nat_lit 263,yZ)::(nat_lit 269,y7)::(nat_lit 270,y8)::(nat_lit 276,y9)::(nat_lit 277,y_)::(nat_lit 290,za)::(nat_lit 291,zb)::(nat_lit 297,zc)::(nat_lit 298,zd)::(nat_lit 304,ze)::(nat_lit 305,zf)::(nat_lit 311,zh)::(nat_lit 312,zi)::(nat_lit 318,zj)::(nat_lit 319,zk)::(nat_lit 321,zl P)::(nat_lit 322,zm)::(nat_lit 337,zo)::(nat_lit 338,zp)::(nat_lit 344,zq)::(nat_lit 345,zr)::(nat_lit 351,zt)::(nat_lit 352,zu)::(nat_lit 358,zv)::(nat_lit 359,zw)::(nat_lit 365,zx)::(nat_lit 366,zy)::(nat_lit 368,zA P)::(nat_lit 369,zB)::(nat_lit 377,zC)::(nat_lit 378,zD)::(nat_lit 384,zE)::(nat_lit 385,zF)::(nat_lit 391,zG)::(nat_lit 392,zH)::(nat_lit 398,zI)::(nat_lit 399,zJ)::(nat_lit 405,zK)::(nat_lit 406,zL)::(nat_lit 410,zM)::(nat_lit 411,zN)::(nat_lit 417,zO)::(nat_lit 418,zP)::(nat_lit 424,zQ)::(nat_lit 425,zR)::(nat_lit 431,zS)::(nat_lit 432,zT)::(nat_lit 438,zU)::(nat_lit 439,zV)::(nat_lit 443,zW)::(nat_lit 444,zX)::(nat_lit 448,zY)::(nat_lit 449,zZ)::(nat_lit 455,z0)::(nat_lit 456,z7)::(nat_lit 462,z8)::(nat_lit 463,z9)::(nat_lit 469,z_)::(nat_lit 470,Aa)::(nat_lit 476,Ab)::(nat_lit 477,Ac)::(nat_lit 483,Ad)::(nat_lit 484,Ae)::(nat_lit 490,Af)::(nat_lit 491,Ag)::(nat_lit 495,Ah)::(nat_lit 496,Ai)::(nat_lit 500,Aj)::(nat_lit 501,Ak)::(nat_lit 507,Al)::(nat_lit 508,Am)::[]
noncomputable def ma:List Nat:=nat_lit 2::nat_lit 3::nat_lit 23::nat_lit 24::nat_lit 25::nat_lit 36::nat_lit 37::nat_lit 52::nat_lit 53::nat_lit 55::nat_lit 56::nat_lit 71::nat_lit 72::nat_lit 74::nat_lit 75::nat_lit 83::nat_lit 84::nat_lit 90::nat_lit 91::nat_lit 97::nat_lit 98::nat_lit 104::nat_lit 105::nat_lit 111::nat_lit 112::nat_lit 116::nat_lit 117::nat_lit 123::nat_lit 124::nat_lit 130::nat_lit 131::nat_lit 137::nat_lit 138::nat_lit 144::nat_lit 145::nat_lit 151::nat_lit 152::nat_lit 158::nat_lit 159::nat_lit 165::nat_lit 166::nat_lit 179::nat_lit 180::nat_lit 186::nat_lit 187::nat_lit 193::nat_lit 194::nat_lit 200::nat_lit 201::nat_lit 207::nat_lit 208::nat_lit 210::nat_lit 211::nat_lit 212::nat_lit 213::nat_lit 221::nat_lit 222::nat_lit 226::nat_lit 227::nat_lit 231::nat_lit 232::nat_lit 236::nat_lit 237::nat_lit 243::nat_lit 244::nat_lit 248::nat_lit 249::nat_lit 255::nat_lit 256::nat_lit 262::nat_lit 263::nat_lit 269::nat_lit 270::nat_lit 276::nat_lit 277::nat_lit 290::nat_lit 291::nat_lit 297::nat_lit 298::nat_lit 304::nat_lit 305::nat_lit 311::nat_lit 312::nat_lit 318::nat_lit 319::nat_lit 321::nat_lit 322::nat_lit 337::nat_lit 338::nat_lit 344::nat_lit 345::nat_lit 351::nat_lit 352::nat_lit 358::nat_lit 359::nat_lit 365::nat_lit 366::nat_lit 368::nat_lit 369::nat_lit 377::nat_lit 378::nat_lit 384::nat_lit 385::nat_lit 391::nat_lit 392::nat_lit 398::nat_lit 399::nat_lit 405::nat_lit 406::nat_lit 410::nat_lit 411::nat_lit 417::nat_lit 418::nat_lit 424::nat_lit 425::nat_lit 431::nat_lit 432::nat_lit 438::nat_lit 439::nat_lit 443::nat_lit 444::nat_lit 448::nat_lit 449::nat_lit 455::nat_lit 456::nat_lit 462::nat_lit 463::nat_lit 469::nat_lit 470::nat_lit 476::nat_lit 477::nat_lit 483::nat_lit 484::nat_lit 490::nat_lit 491::nat_lit 495::nat_lit 496::nat_lit 500::nat_lit 501::nat_lit 507::nat_lit 508::[]
noncomputable def An (P:PySem.Params):W.BT:=sX 11 (ET P) ((sY P).ins 3 (ES P))
noncomputable def EV (P:PySem.Params):W.BT:=xx (EU P) (sX 223 (endL P) (An P))
noncomputable def qv:PySem.Program:={ PySem.Challenge.pw_putback_k27_rename_and_nest with main:={ (PySem.Challenge.pw_putback_k27_rename_and_nest).main with body:=top 1::top 2::top 3::top 4::top 6::top 7::top 8::top 10::top 11::top 12::top 13::top 14::top 15::top 16::top 17::top 19::top 20::top 21::top 23::top 24::top 25::top 26::top 27::top 28::top 29::top 30::top 31::top 32::top 33::top 34::top 36::top 37::top 38::top 39::top 40::top 41::top 42::top 43::top 44::top 45::top 46::top 47::top 48::top 49::top 50::top 51::top 52::top 53::top 54::top 55::top 56::[] } }
theorem mO (P:PySem.Params):ma=(KK P).map (·.1):=by kernel_rfl
noncomputable def Ao (w:PySem.World) (os:PySem.OsState):W.SharedT:=⟨An w.params,223,(W.boot_heap w.params).life,#[],W.boot_drawn,469,os⟩
noncomputable def mP (w:PySem.World) (os:PySem.OsState):W.SharedT:=⟨EV w.params,509,(W.boot_heap w.params).life,#[],W.boot_drawn,891,os⟩
noncomputable def s_:List PySem.Stmt:=W.behindTheImports (W.OpenLaw.row PySem.Challenge.rw_putback_k27_rename_and_nest).prog
noncomputable def qC:PySem.Env:={ scope:=((W.OpenLaw.row PySem.Challenge.rw_putback_k27_rename_and_nest).prog).main.scope,locals:=PySem.mainNs,globals:=PySem.mainNs,cells:=[],code:=.ref 13,frame:=some 14 }
noncomputable def pj:PySem.Code:=.body (W.behindTheImports (W.OpenLaw.row PySem.Challenge.rw_putback_k27_rename_and_nest).prog) qC
open W PyProof.Rows in
theorem EW:∀w os,qA (W.OpenLaw.row PySem.Challenge.rw_putback_k27_rename_and_nest).prog w 11 (some (.ref 6)) qC pj ⟨0,0,0,0⟩ (s_.take 24) 12 1 5000 (qB w os)=some (⟨kg kh (.body (behindTheImports (W.OpenLaw.row PySem.Challenge.rw_putback_k27_rename_and_nest).prog) qC),pj,⟨0,0,0,0⟩,[topFrame ⟨0,0,0,0⟩]⟩,pj,pj,Ao w os,⟨122,0,123,66⟩):=by
 intro w os
 kernel_rfl
open W PyProof.Rows in
theorem EX:∀w os,mJ (W.OpenLaw.row PySem.Challenge.rw_putback_k27_rename_and_nest).prog w 11 (some (.ref 6)) 6000 (Ao w os) (restOf (s_.drop 24) qC pj ⟨122,0,123,66⟩ [topFrame ⟨0,0,0,0⟩])=some (mP w os):=by
 intro w os
 kernel_rfl
open W PyProof.Rows in
theorem EY:∀w os,(staticsOk (importedModules ((W.OpenLaw.row PySem.Challenge.rw_putback_k27_rename_and_nest).prog).main.body) (boot_heap w.params) (mP w os).abs.heap && namesBound (W.OpenLaw.row PySem.Challenge.rw_putback_k27_rename_and_nest).prog (mP w os).abs.heap && gensDone (mP w os).abs && laidKept (boot_heap w.params) (mP w os).abs.heap)=true:=by
 intro w os
 kernel_rfl
open W PyProof.Rows in
theorem EZ:∀w os,seenQ qv [] (importedModules ((W.OpenLaw.row PySem.Challenge.rw_putback_k27_rename_and_nest).prog).main.body) (λs=>xlAt qv [] s && recOk (RowW.records (W.OpenRow.toRowW (W.OpenLaw.row PySem.Challenge.rw_putback_k27_rename_and_nest))) s) true (mP w os).abs=openGood qv []:=by
 intro w os
 kernel_rfl
open W PyProof.Rows in
theorem E1:∀w os,Hook.obs (W.kmHook Pb.KK Pb.ma Pb.mO [86,434,479]) (mP w os).abs=Hook.val (W.kmHook Pb.KK Pb.ma Pb.mO [86,434,479]) w:=by
 intro w os
 kernel_rfl
open W PyProof.Rows in
theorem said:PySem.Challenge.rw_putback_k27_rename_and_nest.wellSaid=true:=by
 delta OpenLaw.wellSaid OpenRow.wellSaid OpenRow.partSaid looksOpen
 repeat' (with_reducible refine look_both ?_ ?_)
 all_goals kernel_rfl
end Pb
namespace L2
open Spec PyProof.Rows
noncomputable abbrev Key:=Sum Int Str
noncomputable def mQ:Key->Value->Bool
 | .inl k,v=>Value.isInt k v
 | .inr x,v=>Value.isStrOf x v
noncomputable def E2 (w:World):Key->Int
 | .inl k=>hashInt k
 | .inr x=>hashStr w x
theorem kL:∀{k:Key}{v:Value},mQ k v=true->(∃i t,k=Sum.inl i/\v=Value.int i t)\/(∃x t,k=Sum.inr x/\v=Value.str x t)
 | .inl i,v,h=>by
   obtain⟨t,e⟩:=Value.isInt_shape (k:=i) (v:=v) h;exact .inl ⟨i,t,rfl,e⟩
 | .inr x,v,h=>by
   obtain⟨t,e⟩:=Value.isStrOf_shape (x:=x) (v:=v) h;exact .inr ⟨x,t,rfl,e⟩
theorem E3 (i:Int)(t:Tok):mQ (.inl i) (.int i t)=true:=by simp[mQ,Value.isInt]
theorem Ap (x:Str)(t:Tok):mQ (.inr x) (.str x t)=true:=by simp[mQ,Value.isStrOf]
theorem E4 (a b:Int):decide ((Sum.inl a:Key)=Sum.inl b)=(a == b):=by
 by_cases e:a=b
 . subst e;simp
 . have h:¬(Sum.inl a:Key)=Sum.inl b:=λq=>e (Sum.inl.inj q);rw[decide_eq_false h];exact(beq_eq_false_iff_ne.mpr e).symm
theorem E5 (a b:Str):decide ((Sum.inr a:Key)=Sum.inr b)=decide (a=b):=by
 by_cases e:a=b
 . subst e;simp
 . have h:¬(Sum.inr a:Key)=Sum.inr b:=λq=>e (Sum.inr.inj q);rw[decide_eq_false h,decide_eq_false e]
theorem E6 (a:Int)(b:Str):decide ((Sum.inl a:Key)=Sum.inr b)=false:=decide_eq_false (λq=>nomatch q)
theorem E7 (a:Str)(b:Int):decide ((Sum.inr a:Key)=Sum.inl b)=false:=decide_eq_false (λq=>nomatch q)
noncomputable def gL (prog:Program) (w:World):PySem.KeyKind prog w Key where
 is:=mQ
 hash:=E2 w
 inj:=λv a b U L=>by
  rcases kL U with⟨i,t,rfl,rfl⟩|⟨x,t,rfl,rfl⟩
  . rcases kL L with⟨j,u,rfl,e⟩|⟨y,u,rfl,e⟩
    . injection e with z _;rw[z]
    . exact nomatch e
  . rcases kL L with⟨j,u,rfl,e⟩|⟨y,u,rfl,e⟩
    . exact nomatch e
    . injection e with z _;rw[z]
 byValue:=λk v h=>by
  rcases kL h with⟨i,t,rfl,rfl⟩|⟨x,t,rfl,rfl⟩ <;> rfl
 pyHash:=λJ h=>by
  rcases kL J with⟨i,t,rfl,rfl⟩|⟨x,t,rfl,rfl⟩
  . exact wpAny_pyHash_int h
  . exact wpAny_pyHash_str h
 eqBool:=λY J h=>by
  rcases kL Y with⟨i,t,rfl,rfl⟩|⟨x,t,rfl,rfl⟩
  . rcases kL J with⟨j,u,rfl,rfl⟩|⟨y,u,rfl,rfl⟩
    . rw[E4] at h;exact wpAny_eqBool_int h
    . rw[E6] at h;exact SeqAt.EqAt.int_str i t y u _ _ _ _ h
  . rcases kL J with⟨j,u,rfl,rfl⟩|⟨y,u,rfl,rfl⟩
    . rw[E7] at h;exact SeqAt.EqAt.str_int x t j u _ _ _ _ h
    . rw[E5] at h;exact wpAny_eqBool_str h
 «strs»:=λk x t v h=>by
  rcases kL h with⟨i,u,rfl,e⟩|⟨y,u,rfl,e⟩
  . exact nomatch e
  . injection e with z _
    subst z
    cases v <;> rfl
theorem E8 (prog:Program)(w:World)(i:Int)(t:Tok):(gL prog w).is (.inl i) (.int i t)=true:=E3 i t
theorem E9 (prog:Program)(w:World)(x:Str)(t:Tok):(gL prog w).is (.inr x) (.str x t)=true:=Ap x t
inductive V where
 |non|bl (b:Bool)|int (i:Int)|str (x:Str)|jW (b:Array UInt8)|flt (b:UInt64)|ref (a:Addr)|ty (n:String)
 deriving DecidableEq
def RelV:V->Value->Prop
 | .non,u=>u=Value.none
 | .bl b,u=>u=Value.bool b
 | .int i,u=>∃t,u=Value.int i t
 | .str x,u=>∃t,u=Value.str x t
 | .jW b,u=>∃t,u=Value.bytes b t
 | .flt b,u=>∃t,u=Value.float b t
 | .ref a,u=>u=Value.ref a
 | .ty n,u=>u=Value.type n
abbrev Vals:List V->List Value->Prop:=Paired RelV
theorem Vals.length {xs:List V}{us:List Value}(r:Vals xs us):xs.length=us.length:=Paired.length r
theorem Vals.get:∀{xs:List V}{us:List Value}{i:Nat}{x:V},Vals xs us->xs[i]? =some x->∃u,us[i]? =some u/\RelV x u
 |_,_,_,_,.nil,e=>by simp at e
 |_,_,0,_,.cons r _,e=>by simp at e;subst e;exact⟨_,rfl,r⟩
 |_,_,i+1,x,.cons _ t,e=>by
  obtain⟨u,h1,h2⟩:=Vals.get (i:=i) (x:=x) t (by simpa using e);exact⟨u,by simpa using h1,h2⟩
theorem Vals.set {x:V}{u:Value}(r:RelV x u):∀{xs:List V}{us:List Value}(i:Nat),Vals xs us->Vals (xs.set i x) (us.set i u)
 |_,_,_,.nil=>.nil
 |_,_,0,.cons _ t=>.cons r t
 |_,_,i+1,.cons q t=>.cons q (Vals.set r i t)
theorem Vals.append:∀{xs ys:List V}{us z:List Value},Vals xs us->Vals ys z->Vals (xs++ys) (us++z)
 |_,_,_,_,.nil,s=>s
 |_,_,_,_,.cons r t,s=>.cons r (Vals.append t s)
theorem Vals.take:∀{xs:List V}{us:List Value}(n:Nat),Vals xs us->Vals (xs.take n) (us.take n)
 |_,_,0,_=>.nil
 |_,_,_+1,.nil=>.nil
 |_,_,n+1,.cons r t=>.cons r (Vals.take n t)
theorem Vals.drop:∀{xs:List V}{us:List Value}(n:Nat),Vals xs us->Vals (xs.drop n) (us.drop n)
 |_,_,0,r=>r
 |_,_,_+1,.nil=>.nil
 |_,_,n+1,.cons _ t=>Vals.drop n t
theorem Vals.none_of:∀{xs:List V}{us:List Value}{i:Nat},Vals xs us->xs[i]? =none->us[i]? =none:=λ{xs us i} r e=>by
 have h1:=r.length;have h2:xs.length<=i:=List.getElem?_eq_none_iff.mp e;exact List.getElem?_eq_none_iff.mpr (by omega)
def i2:Option V->Option Value->Prop
 |some v,some u=>RelV v u
 |none,none=>True
 |_,_=>False
def KV {κ:Type}:List (κ × V)->List (κ × Value)->Prop:=Paired λ(p:κ × V) (q:κ × Value)=>p.1=q.1/\RelV p.2 q.2
noncomputable def kV:Key->V
 | .inl i=>.int i
 | .inr x=>.str x
inductive HO where
 |lst (xs:List V)
 |tup (xs:List V)
 |dK (kvs:List (Key × V))|dT (kvs:List (List Key × V))
 |set (S:Int->Bool) (n:Nat)
 |ins (C dx:Addr) (fs:List (Str × V))
 |own (x:Addr)
 |xd (fs:List (Str × V))
 |met (f x:Addr)
 |rng (lo hi:Int)
 |gT (o:Obj) (u:HO)
 |fO (ps:Array Value)
 |ext (φ:Heap->Prop)
noncomputable abbrev Hp:=Addr->Option HO
noncomputable def upd (H:Hp) (a:Addr) (o:HO):Hp:=λb=>if b=a then some o else H b
theorem eI {H:Hp}{a:Addr}{o:HO}:upd H a o a=some o:=by unfold upd;rw[if_pos rfl]
theorem eA {H:Hp}{a b:Addr}{o:HO}(h:b≠a):upd H a o b=H b:=by unfold upd;rw[if_neg h]
theorem iB {H:Hp}{a b:Addr}{o u:HO}(h:H a=some o)(h':H b=some u)(d:o≠u):a≠b:=by
 intro e;subst e;rw[h] at h';exact d (Option.some.inj h')
theorem eM {H:Hp}{a b:Addr}{o:HO}(h:H a=some o)(h':H b=none):a≠b:=by
 intro e;subst e;rw[h] at h';cases h'
section
variable (P:Program)(w:World)
def gJ (H:Hp) (h:Heap) (a:Addr):HO->Prop
 | .lst xs=>xs.length<=sizeLine/\∃(z:List Value) (n:Nat),Vals xs z/\h.get? a=some { cls:=.type "list",data:=.seq z.toArray n }
 | .tup xs=>xs.length<=sizeLine/\∃z:List Value,Vals xs z/\IsTup h a z.toArray
 | .dK kvs=>kvs.length<=sizeLine/\(a == sysModules)=false/\∃vs,KV kvs vs/\h.DictOf (gL P w) a vs
 | .dT kvs=>kvs.length<=sizeLine/\(a == sysModules)=false/\∃xs:List (List Key × Addr × Value),
    Paired (λ(p:List Key × V) (q:List Key × Addr × Value)=>p.1=q.1/\H q.2.1=some (.tup (p.1.map kV))/\RelV p.2 q.2.2) kvs xs/\
    ∃o es L,h.get? a=some o/\o.ExactDict/\o.data=.dict es L/\es.toList=xs.map (entryOfKey (tupleKind (gL P w)))/\(xs.map (·.1)).Nodup
 | .set S n=>h.SetOf (intKind P w) a S n
 | .ins C dx fs=>H dx=some (.own a)/\fs.length<=1000/\dx≠a/\h.get? a=some (W.instObj C dx)/\
    ∃mA,h.Ns1 dx mA/\(∀f,i2 (fs.lookup f) (mA f))/\PySem.Within mA (fs.map (·.1))
 | .own _=>∃o,h.get? a=some o
 | .xd fs=>∃mA,h.Ns1 a mA/\∀f,i2 (fs.lookup f) (mA f)
 | .rng lo hi=>∃t u v,h.get? a=some { cls:=.type "range",data:=.fields #[.int lo t,.int hi u,.int 1 v] }
 | .gT o u=>h.get? a=some o/\gJ H h a u
 | .fO ps=>h.get? a=some { cls:=.none,data:=.fields ps }
 | .met f x=>h.get? a=some (W.methodObj (.ref f) (.ref x))
 | .ext J=>J h/\(∃o,h.get? a=some o)/\∀h1 h2:Heap,J h1->(∀o,h1.get? a=some o->h2.get? a=some o)->J h2
def gD (H:Hp) (h:Heap):Prop:=∀a o,H a=some o->gJ P w H h a o
end
section
variable {P:Program}{w:World}{H H':Hp}{h h':Heap}{a:Addr}{o:HO}
theorem gJ.lt (x:gJ P w H h a o):a<h.objs.size:=by
 cases o with
 |lst xs=>obtain⟨_,_,_,_,e⟩:=x;exact Q01 e
 |tup xs=>obtain⟨_,_,_,p⟩:=x;exact p.lt
 |dK kvs=>obtain⟨_,_,_,_,o,_,_,e,_⟩:=x;exact Q01 e
 |dT kvs=>obtain⟨_,_,_,_,o,_,_,e,_⟩:=x;exact Q01 e
 |set S n=>obtain⟨o,_,_,_,e,_⟩:=x;exact Q01 e
 |ins C dx fs=>obtain⟨_,_,_,e,_⟩:=x;exact Q01 e
 |own y=>obtain⟨_,e⟩:=x;exact Q01 e
 |xd fs=>obtain⟨_,⟨_,_,_,e,_⟩,_⟩:=x;exact Q01 e
 |rng lo hi=>obtain⟨_,_,_,e⟩:=x;exact Q01 e
 |gT z u=>obtain⟨e,_⟩:=x;exact Q01 e
 |fO ps=>exact Q01 (show h.get? a=some _ from x)
 |met f y=>exact Q01 (show h.get? a=some _ from x)
 |ext J=>obtain⟨_,⟨_,e⟩,_⟩:=x;exact Q01 e
theorem Paired.qD {α L:Type}{F G:α->L->Prop}:∀{z:List α}{J:List L},Paired F z J->(∀a b,F a b->G a b)->Paired G z J
 |_,_,.nil,_=>.nil
 |_,_,.cons r t,f=>.cons (f _ _ r) (Paired.qD t f)
theorem gJ.stay (x:gJ P w H h a o)(k:∀b u,(b=a\/H b=some (.own a))->h.get? b=some u->h'.get? b=some u)
 (ho:∀b,H b=some (.own a)->H' b=some (.own a)) (ht:∀b xs,H b=some (.tup xs)->H' b=some (.tup xs)):gJ P w H' h' a o:=by
 induction o with
 |lst xs=>obtain⟨z,U,n,r,e⟩:=x;exact⟨z,U,n,r,k _ _ (.inl rfl) e⟩
 |tup xs=>obtain⟨z,U,r,J,e,c⟩:=x;exact⟨z,U,r,J,k _ _ (.inl rfl) e,c⟩
 |dK kvs=>obtain⟨z,y,vs,r,J,es,L,e,c⟩:=x;exact⟨z,y,vs,r,J,es,L,k _ _ (.inl rfl) e,c⟩
 |dT kvs=>
  obtain⟨z,y,xs,r,J,es,L,e,c⟩:=x;exact⟨z,y,xs,Paired.qD r λp q z=>⟨z.1,ht _ _ z.2.1,z.2.2⟩,J,es,L,k _ _ (.inl rfl) e,c⟩
 |set S n=>obtain⟨J,es,L,t,e,c⟩:=x;exact⟨J,es,L,t,k _ _ (.inl rfl) e,c⟩
 |ins C dx fs=>
  obtain⟨d,z,ne,e,mA,⟨Y,es,L,e2,c⟩,r⟩:=x;exact⟨ho _ d,z,ne,k _ _ (.inl rfl) e,mA,⟨Y,es,L,k _ _ (.inr d) e2,c⟩,r⟩
 |own y=>obtain⟨J,e⟩:=x;exact⟨J,k _ _ (.inl rfl) e⟩
 |xd fs=>obtain⟨mA,⟨Y,es,L,e,c⟩,r⟩:=x;exact⟨mA,⟨Y,es,L,k _ _ (.inl rfl) e,c⟩,r⟩
 |rng lo hi=>obtain⟨t,u,v,e⟩:=x;exact⟨t,u,v,k _ _ (.inl rfl) e⟩
 |gT J u ih=>obtain⟨e,q⟩:=x;exact⟨k _ _ (.inl rfl) e,ih q⟩
 |fO ps=>
  have e:h.get? a=some { cls:=.none,data:=.fields ps }:=x;show h'.get? a=some { cls:=.none,data:=.fields ps };exact k a _ (.inl rfl) e
 |met f y=>
  have e:h.get? a=some (W.methodObj (.ref f) (.ref y)):=x;show h'.get? a=some (W.methodObj (.ref f) (.ref y));exact k a _ (.inl rfl) e
 |ext φ=>obtain⟨p,⟨o,e⟩,st⟩:=x;exact⟨st _ _ p λo q=>k _ _ (.inl rfl) q,⟨o,k _ _ (.inl rfl) e⟩,st⟩
theorem gD.lt (x:gD P w H h)(e:H a=some o):a<h.objs.size:=(x a o e).lt
theorem gD.fresh (x:gD P w H h)(e:h.objs.size<=a):H a=none:=by
 cases q:H a with
 |none=>rfl
 |some u=>exact absurd (Q0d (x.lt q) e) (Q0r _)
theorem gD.kept (x:gD P w H h)(k:∀b u,h.get? b=some u->h'.get? b=some u):gD P w H h':=λa o e=>
 (x a o e).stay (λb u _ q=>k b u q) (λ_ q=>q) λ_ _ q=>q
theorem gD.laid (x:gD P w H h)(k:∀b u,h.get? b=some u->h'.get? b=some u)(hp:h.objs.size<=a)(new:gJ P w (upd H a o) h' a o):gD P w (upd H a o) h':=λb u e=>by
 have z:=x.fresh hp;by_cases J:b=a
 . subst J;rw[eI] at e;cases e;exact new
 . rw[eA J] at e;exact(x b u e).stay (λc v _ q=>k c v q) (λc q=>by rw[eA (eM q z)];exact q) λc xs q=>by rw[eA (eM q z)];exact q
end
def Rd (H:Hp) (a:Addr) (u:HO):Prop:=H a=some u\/∃o,H a=some (.gT o u)
theorem Rd.ok {P:Program}{w:World}{H:Hp}{h:Heap}{a:Addr}{u:HO}(r:Rd H a u)(x:gD P w H h):gJ P w H h a u:=by
 rcases r with r|⟨o,r⟩
 . exact x a u r
 . obtain⟨_,q⟩:=x a _ r;exact q
def pq:Option HO->Prop
 |some (.lst _)=>True
 |some (.dK _)=>True
 |some (.dT _)=>True
 |some (.set _ _)=>True
 |some (.ins _ _ _)=>True
 |some (.ext _)=>True
 |_=>False
section
variable {P:Program}{w:World}{H:Hp}{h h':Heap}{x e:Addr}{o':HO}
theorem gD.write (ok:gD P w H h)(mu:pq (H x))(he:e=x\/H e=some (.own x))(k:∀b u,b≠e->h.get? b=some u->h'.get? b=some u)(aa:∃u,h'.get? e=some u)
 (new:gJ P w (upd H x o') h' x o'):gD P w (upd H x o') h':=λb u q=>by
 have L:∀c y,H c=some (.own y)->c≠x:=λc y r z=>by subst z;rw[r] at mu;exact mu
 have U:∀c xs,H c=some (.tup xs)->c≠x:=λc xs r z=>by subst z;rw[r] at mu;exact mu
 by_cases Y:b=x
 . subst Y;rw[eI] at q;cases q;exact new
 . rw[eA Y] at q;by_cases J:b=e
   . have q':H b=some (.own x):=by
      rcases he with z|z
      . exact absurd (J.trans z) Y
      . rw[J];exact z
     rw[q] at q';cases q';obtain⟨v,hv⟩:=aa;exact⟨v,by rw[J];exact hv⟩
   . refine(ok b u q).stay (λc v hc r=>k c v ?_ r) (λc r=>by rw[eA (L c b r)];exact r) λc xs r=>by rw[eA (U c xs r)];exact r
     rcases hc with rfl|hc
     . exact J
     . rintro rfl;rcases he with z|z
       . exact L c b hc z
       . rw[hc] at z;cases z;exact Y rfl
end
structure Un (fs ex:List Addr) (H H':Hp) (h h':Heap):Prop where
 keep:∀b o,h.get? b=some o->H b=none->b ∉ fs->b ∉ ex->h'.get? b=some o
 slot:∀b o,h.get? b=some o->H b=none->b∈fs->b ∉ ex->∃sl,h'.get? b=some { o with slots:=sl }
 free:∀b o,h.get? b=some o->H b=none->b ∉ ex->H' b=none
 there:∀b o,h.get? b=some o->b ∉ ex->∃o',h'.get? b=some o'
 tups:∀b xs,H b=some (.tup xs)->H' b=some (.tup xs)
 jd:∀b o u,H b=some (.gT o u)->H' b=some (.gT o u)
 jr:∀b ps,H b=some (.fO ps)->∃more,H' b=some (.fO (ps++more))
section
variable {fs fs' ex ex':List Addr}{H H1 H2:Hp}{h h1 h2 h':Heap}{a x e:Addr}{o:HO}
theorem Un.any (u:Un fs ex H H1 h h1){b:Addr}{z:Obj}(q:h.get? b=some z)(n:H b=none)(J:b ∉ ex):∃U,h1.get? b=some { z with slots:=U }:=by
 by_cases L:b∈fs
 . exact u.slot b z q n L J
 . exact⟨z.slots,u.keep b z q n L J⟩
theorem Un.kept (k:∀b u,h.get? b=some u->h'.get? b=some u):Un fs ex H H h h':=
 ⟨λb z q _ _ _=>k b z q,λb z q _ _ _=>⟨z.slots,k b z q⟩,λ_ _ _ n _=>n,λb z q _=>⟨z,k b z q⟩,λ_ _ q=>q,λ_ _ _ q=>q,λ_ ps q=>⟨#[],by rw[q];simp⟩⟩
theorem Un.refl:Un fs ex H H h h:=Un.kept λ_ _ q=>q
theorem Un.laid (k:∀b u,h.get? b=some u->h'.get? b=some u)(hp:h.objs.size<=a)(z:H a=none):Un fs ex H (upd H a o) h h' where
 keep:=λb u q _ _ _=>k b u q
 slot:=λb u q _ _ _=>⟨u.slots,k b u q⟩
 free:=λb u q n _=>by rw[eA (Q08 (Q0d (Q01 q) hp))];exact n
 there:=λb u q _=>⟨u,k b u q⟩
 tups:=λb xs q=>by rw[eA (eM q z)];exact q
 jd:=λb u xs q=>by rw[eA (eM q z)];exact q
 jr:=λb ps q=>⟨#[],by rw[eA (eM q z),q];simp⟩
theorem Un.write (mu:pq (H x))(he:e=x\/H e=some (.own x))(k:∀b u,b≠e->h.get? b=some u->h'.get? b=some u)(U:∃u,h'.get? e=some u):Un fs ex H (upd H x o) h h':=by
 have Y:∀b,H b=none->b≠x:=λb n z=>by subst z;rw[n] at mu;exact mu
 have hb:∀b,H b=none->b≠e:=λb n z=>by
  subst z;rcases he with r|r
  . exact Y b n r
  . rw[n] at r;cases r
 have L:∀b u,H b=some u->¬pq (some u)->b≠x:=λb u q nm z=>by subst z;rw[q] at mu;exact nm mu
 refine⟨λb u q n _ _=>k b u (hb b n) q,λb u q n _ _=>⟨u.slots,k b u (hb b n) q⟩,λb u q n _=>by rw[eA (Y b n)];exact n,λb u q _=>?_,
  λb xs q=>by rw[eA (L b _ q λz=>z)];exact q,λb u xs q=>by rw[eA (L b _ q λz=>z)];exact q,λb ps q=>⟨#[],by rw[eA (L b _ q λz=>z),q];simp⟩⟩
 by_cases J:b=e
 . subst J;exact U
 . exact⟨u,k b u J q⟩
end
noncomputable def qE (h:Heap) (H:Hp):List Addr:=(List.range h.objs.size).filter λa=>(H a).isSome
noncomputable def kM (h:Heap) (H:Hp):Heap:=W.hideAll h (qE h H)
theorem E_ (h:Heap)(H:Hp):(kM h H).objs.size=h.objs.size:=W.hideAll_size _ _
theorem Fb {h:Heap}{H:Hp}{b:Addr}{o:Obj}(e:h.get? b=some o)(n:H b=none):(kM h H).get? b=some o:=
 W.hideAll_get _ e λz=>by
   have q:(H b).isSome=true:=(List.mem_filter.mp z).2;rw[n] at q;simp at q
theorem Fe {h:Heap}{H:Hp}{b:Addr}{o:Obj}(e:(kM h H).get? b=some o):h.get? b=some o/\H b=none:=by
 have J:h.get? b=some o:=W.of_hideAll (qE h H) e;refine⟨J,?_⟩
 cases q:H b with
 |none=>rfl
 |some x=>
  have L:b∈qE h H:=List.mem_filter.mpr ⟨List.mem_range.mpr (Q01 J),by simp[q]⟩;have z:(kM h H).get? b=none:=W.hideAll_none (qE h H) L;rw[z] at e;cases e
noncomputable def Ff (g h:Heap) (L:Addr):List (Addr × Obj):=(List.range h.objs.size).filterMap λa=>if a=L\/(g.get? a).isSome=true then none else(h.get? a).map λo=>(a,o)
noncomputable def rest (g h:Heap) (L d:Addr):List (Addr × Obj):=(Ff g h L).filter λp=>decide (p.1≠d)
structure Mod (K:W.Frag) (mg:Str->Option Value) (base:Heap):Prop where
 mR:K.In base
 glob:base.Ns mainGlobals mg
 blt:∃mb,base.Ns builtinsNs mb/\∀x:Str,x≠"__name__"->mb x=bootBuiltins x
 nolimit:base.NoLimit
structure Cx where
 prog:Program
 w:World
 K:W.Frag
 mg:Str->Option Value
 base:Heap
 A:Around
 N:List Str
 s₀:Shared
 H₀:Hp
 env:Env
 outer:List Env
 stack:List Env
 ex:List Addr
 fn:Str->Bool
 calm:Bool
 pn:List (Addr × Obj)
 xe:Value->Shared->Prop
noncomputable def frs (l:List Env):List Addr:=l.filterMap (·.frame)
noncomputable abbrev Cx.fs (X:Cx):List Addr:=frs X.outer
def tf (sc:Scope) (x:Str):Prop:=sc.names.lookup x=some .local\/sc.names.lookup x=some .cell\/sc.names.lookup x=some .free
def Loc (sc:Scope) (x:Str):Prop:=sc.names.lookup x=some .local\/sc.names.lookup x=some .cell
def Look (env:Env) (h:Heap) (m:Str->Option Value) (x:Str) (u:Value):Prop:=
 (env.kindOf x=some .local/\m x=some u)\/((env.kindOf x=some .cell\/env.kindOf x=some .free)/\∃c,env.cells.lookup x=some c/\h.IsCell c (some u))
structure Cx.Ok (X:Cx):Prop where
 mod:Mod X.K X.mg X.base
 kind:X.env.scope.kind=.function
 glob:X.env.globals=mainGlobals
 blt:X.env.builtins=builtinsNs
 above:X.s₀.heap.objs.size<=X.env.locals
 inj:∀x y c,X.env.cells.lookup x=some c->X.env.cells.lookup y=some c->x=y
 has:∀x,(X.env.kindOf x=some .cell\/X.env.kindOf x=some .free)->∃c,X.env.cells.lookup x=some c
 cab:∀x c,X.fn x=true->X.env.cells.lookup x=some c->X.s₀.heap.objs.size<=c
 hd:X.calm=true->X.A.handled=none
 frames:X.A.frames=some X.stack
 stk:X.stack=X.outer\/(X.stack=X.env::X.outer/\X.env.frame=some X.env.locals)
 ti:∀b∈X.ex,b≠X.env.locals/\∀x c,X.env.cells.lookup x=some c->c≠b
 bs:∀b o,X.base.get? b=some o->X.s₀.heap.get? b=some o/\X.H₀ b=none
 ki:X.base.objs.size<=X.s₀.heap.objs.size
 nZ:∀b o,X.base.get? b=some o->b ∉ X.ex
 px:∀b∈X.ex,b ∉ X.fs
 jM:X.s₀.heap.FunFrames X.base X.outer
 md:∀b∈X.fs,X.H₀ b=none
structure Inv (X:Cx) (pins:List (Addr × Obj)) (σ:List (Option V)) (H:Hp) (s:Shared):Prop where
 ok:X.Ok
 os:s.os=X.s₀.os
 bare:AllBare s.gens
 base:Un X.fs X.ex X.H₀ H X.s₀.heap s.heap
 loc:∃m,s.heap.Ns X.env.locals m/\∀(i:Nat) (x:Str) (v:V),X.N[i]? =some x->σ[i]? =some (some v)->tf X.env.scope x->∃u,RelV v u/\Look X.env s.heap m x u
 cell:∀x c,X.env.cells.lookup x=some c->∃v,s.heap.IsCell c v
 free:H X.env.locals=none
 i7:∀x c,X.env.cells.lookup x=some c->H c=none
 pin:∀p∈X.pn++pins,s.heap.get? p.1=some p.2/\H p.1=none/\p.1≠X.env.locals/\p.1 ∉ X.fs/\∀v,p.2.data≠ .cell v
 hok:gD X.prog X.w H s.heap
 len:σ.length=X.N.length
section
variable {X:Cx}{pins:List (Addr × Obj)}{σ:List (Option V)}{H H':Hp}{s:Shared}{h':Heap}
theorem Cx.Ok.Fg (ok:X.Ok){b:Addr}{o:Obj}(e:X.base.get? b=some o):b ∉ X.fs:=λz=>by
 have:=(ok.jM.mem z).1;rw[e] at this;cases this
theorem Inv.bs (I:Inv X pins σ H s):∀b o,X.base.get? b=some o->s.heap.get? b=some o/\H b=none:=λb o e=>
 ⟨I.base.keep b o (I.ok.bs b o e).1 (I.ok.bs b o e).2 (I.ok.Fg e) (I.ok.nZ b o e),I.base.free b o (I.ok.bs b o e).1 (I.ok.bs b o e).2 (I.ok.nZ b o e)⟩
theorem Inv.bk (I:Inv X pins σ H s):∀b o,X.base.get? b=some o->s.heap.get? b=some o:=λb o e=>(I.bs b o e).1
theorem Inv.mod (I:Inv X pins σ H s):Mod X.K X.mg X.base:=I.ok.mod
theorem Inv.gM (I:Inv X pins σ H s):X.K.In s.heap:=I.ok.mod.mR.keeps I.bk
theorem Inv.nolimit (I:Inv X pins σ H s):s.heap.NoLimit:=I.ok.mod.nolimit.keeps I.bk
theorem Inv.lt (I:Inv X pins σ H s):X.env.locals<s.heap.objs.size:=let⟨_,z,_⟩:=I.loc;z.lt
theorem Inv.sz (I:Inv X pins σ H s):X.s₀.heap.objs.size<=s.heap.objs.size:=Q05 I.ok.above (Q0s I.lt)
theorem Inv.n0 (I:Inv X pins σ H s){a:Addr}(h:s.heap.objs.size<=a):a ∉ X.fs:=λz=>by
 obtain⟨_,o,J,_⟩:=I.ok.jM.mem z;exact absurd (Q0d (Q01 J) (Q05 I.sz h)) (Q0r _)
theorem Inv.kj (I:Inv X pins σ H s):∀x c,X.env.cells.lookup x=some c->c≠X.env.locals:=λx c e z=>by
 obtain⟨v,o,U,Y⟩:=I.cell x c e;obtain⟨m,⟨o',es,ep,J,L,_⟩,_⟩:=I.loc;rw[z,J] at U;cases U;rw[L] at Y;cases Y
theorem Inv.jM (I:Inv X pins σ H s):s.heap.FunFrames X.base X.outer:=by
 have all:∀(l:List Env),(∀b∈frs l,b∈X.fs)->X.s₀.heap.FunFrames X.base l->s.heap.FunFrames X.base l:=by
  intro l
  induction l with
  |nil=>intro _ _;trivial
  |cons env r ih=>
   intro hs hl;obtain⟨hk,⟨L,o,J,hn,ho,hd⟩,hr⟩:=hl;have U:L∈X.fs:=hs L (by unfold frs;rw[Q29,J];exact Q04);obtain⟨sl,e⟩:=I.base.slot L o ho (I.ok.md L U) U λz=>I.ok.px L z U;exact⟨hk,⟨L,_,J,hn,e,hd⟩,ih (λb Y=>hs b (by unfold frs;rw[Q29,J];exact Q0e _ Y)) hr⟩
 exact all X.outer (λ_ Y=>Y) I.ok.jM
theorem Inv.stack (I:Inv X pins σ H s):s.heap.FunFrames X.base X.stack:=by
 rcases I.ok.stk with e|⟨e,z⟩
 . rw[e];exact I.jM
 . rw[e];obtain⟨m,J,_⟩:=I.loc;refine .cons (by rw[I.ok.kind];decide) z J ?_ I.jM;exact Q2a (Q05 I.ok.ki I.ok.above)
theorem Inv.n6 (I:Inv X pins σ H s):∀b∈frs X.stack,b∈X.env.locals::X.fs:=λb z=>by
 rcases I.ok.stk with e|⟨e,J⟩
 . rw[e] at z;exact Q0e _ z
 . rw[e] at z;unfold frs at z;rw[Q29,J] at z;exact z
theorem Inv.pz (I:Inv X pins σ H s):∀b∈frs X.stack,H b=none:=λb J=>by
 rcases List.mem_cons.mp (I.n6 b J) with e|J
 . rw[e];exact I.free
 . obtain⟨_,o,L,_⟩:=I.ok.jM.mem J;exact I.base.free b o L (I.ok.md b J) λz=>I.ok.px b z J
theorem Inv.step {g':Array GenState}{t':Nat}{d':Drawn}{ch:List Addr}(I:Inv X pins σ H s)
 (L:∀b∈ch,(b∈X.ex\/X.s₀.heap.objs.size<=b)/\b≠X.env.locals/\(∀x c,X.env.cells.lookup x=some c->c≠b)/\∀p∈X.pn++pins,p.1≠b)
 (keep:∀b o,b≠X.env.locals->b ∉ X.fs->b ∉ ch->s.heap.get? b=some o->H b=none->h'.get? b=some o)
 (slot:∀b o,b≠X.env.locals->b∈X.fs->b ∉ ch->s.heap.get? b=some o->H b=none->∃sl,h'.get? b=some { o with slots:=sl }) (free:∀b o,b ∉ ch->s.heap.get? b=some o->H b=none->H' b=none)
 (there:∀b o,b ∉ ch->s.heap.get? b=some o->∃o',h'.get? b=some o')
 (tups:∀b xs,H b=some (.tup xs)->H' b=some (.tup xs)) (jd:∀b o u,H b=some (.gT o u)->H' b=some (.gT o u)) (jr:∀b ps,H b=some (.fO ps)->∃ac,H' b=some (.fO (ps++ac)))
 (ns:∀m,s.heap.Ns X.env.locals m->h'.Ns X.env.locals m) (ae:gD X.prog X.w H' h') (hg:AllBare g'):
 Inv X pins σ H' { s with heap:=h',gens:=g',drawn:=d',toks:=t' }:=by
 have ab:∀b o,X.s₀.heap.get? b=some o->b≠X.env.locals:=λb o e=>Q08 (Q0d (Q01 e) I.ok.above)
 have aa:∀b o,X.s₀.heap.get? b=some o->b ∉ X.ex->b ∉ ch:=λb o e J hb=>by
  rcases(L b hb).1 with z|z
  . exact J z
  . exact absurd (Q0d (Q01 e) z) (Q0r _)
 have Y:∀x c,X.env.cells.lookup x=some c->∀v,s.heap.IsCell c v->h'.IsCell c v:=λx c e v ⟨o,ho,hd⟩=>by
  have U:c ∉ ch:=λz=>(L c z).2.2.1 x c e rfl;by_cases hc:c∈X.fs
  . obtain⟨sl,q⟩:=slot c o (I.kj x c e) hc U ho (I.i7 x c e);exact⟨_,q,hd⟩
  . exact⟨o,keep c o (I.kj x c e) hc U ho (I.i7 x c e),hd⟩
 refine⟨I.ok,I.os,hg,⟨λb o e n hb J=>?_,λb o e n hb J=>?_,λb o e n J=>?_,λb o e J=>?_,λb xs e=>tups b xs (I.base.tups b xs e),λb o xs e=>jd b o xs (I.base.jd b o xs e),λb ps e=>?_⟩,?_,λx c e=>?_,?_,λx c e=>?_,λp hp=>?_,ae,I.len⟩
 . exact keep b o (ab b o e) hb (aa b o e J) (I.base.keep b o e n hb J) (I.base.free b o e n J)
 . obtain⟨sl,e1⟩:=I.base.slot b o e n hb J;obtain⟨af,e2⟩:=slot b _ (ab b o e) hb (aa b o e J) e1 (I.base.free b o e n J);exact⟨af,e2⟩
 . obtain⟨o',e1⟩:=I.base.there b o e J;exact free b o' (aa b o e J) e1 (I.base.free b o e n J)
 . obtain⟨o',e1⟩:=I.base.there b o e J;exact there b o' (aa b o e J) e1
 . obtain⟨m1,e1⟩:=I.base.jr b ps e;obtain⟨m2,e2⟩:=jr b _ e1;exact⟨m1++m2,by rw[e2,Array.append_assoc]⟩
 . obtain⟨m,hn,hl⟩:=I.loc;refine⟨m,ns m hn,λi x v e1 e2 e3=>?_⟩;obtain⟨u,r,l⟩:=hl i x v e1 e2 e3;refine⟨u,r,?_⟩;rcases l with l|⟨k,c,e,z⟩
   . exact .inl l
   . exact .inr ⟨k,c,e,Y x c e _ z⟩
 . obtain⟨v,z⟩:=I.cell x c e;exact⟨v,Y x c e v z⟩
 . obtain⟨m,⟨o,_,_,ho,_⟩,_⟩:=I.loc;exact free _ o (λz=>(L _ z).2.1 rfl) ho I.free
 . obtain⟨v,o,ho,hd⟩:=I.cell x c e;exact free c o (λz=>(L c z).2.2.1 x c e rfl) ho (I.i7 x c e)
 . obtain⟨e,n,ne,nf,d⟩:=I.pin p hp;have U:p.1 ∉ ch:=λz=>(L p.1 z).2.2.2 p hp rfl;exact⟨keep p.1 p.2 ne nf U e n,free p.1 p.2 U e n,ne,nf,d⟩
theorem Inv.un {t':Nat}(I:Inv X pins σ H s)(u:Un X.fs [] H H' s.heap h')(U:gD X.prog X.w H' h'):Inv X pins σ H' { s with heap:=h',toks:=t' }:=by
 obtain⟨m,⟨o,es,ep,ho,r⟩,_⟩:=id I.loc;obtain⟨sl,hL⟩:=u.any ho I.free (by simp)
 exact I.step (g':=s.gens) (d':=s.drawn) (ch:=[]) (λ_ z=>nomatch z) (λb o _ L _ e n=>u.keep b o e n L (by simp)) (λb o _ L _ e n=>u.slot b o e n L (by simp)) (λb o _ e n=>u.free b o e n (by simp)) (λb o _ e=>u.there b o e (by simp)) u.tups u.jd u.jr (λm' hm=>by
  obtain⟨o',Y,aa,J,r'⟩:=hm;rw[ho] at J;cases J;exact⟨_,Y,aa,hL,r'⟩) U I.bare
theorem Inv.call {g':Array GenState}{t':Nat}{d':Drawn}{ch:List Addr}(I:Inv X pins σ H s)(u:Un (frs X.stack) ch H H' s.heap h')(Y:gD X.prog X.w H' h')(hg:AllBare g')
 (J:∀b∈ch,(b∈X.ex\/X.s₀.heap.objs.size<=b)/\b≠X.env.locals/\(∀x c,X.env.cells.lookup x=some c->c≠b)/\∀p∈X.pn++pins,p.1≠b):
 Inv X pins σ H' { s with heap:=h',gens:=g',drawn:=d',toks:=t' }:=by
 obtain⟨m,⟨o,es,ep,ho,r⟩,_⟩:=id I.loc;obtain⟨sl,U⟩:=u.any ho I.free λz=>(J _ z).2.1 rfl
 exact I.step (ch:=ch) J (λb o U hb hc e n=>u.keep b o e n (λz=>(List.mem_cons.mp (I.n6 b z)).elim U hb) hc) (λb o _ _ hc e n=>u.any e n hc) (λb o hc e n=>u.free b o e n hc) (λb o hc e=>u.there b o e hc) u.tups u.jd u.jr (λm' hm=>by
  obtain⟨o',aa,ab,L,r'⟩:=hm;rw[ho] at L;cases L;exact⟨_,aa,ab,U,r'⟩) Y hg
theorem Inv.turned {t':Nat}{it:Addr}(I:Inv X pins σ H s)(k:∀b o,b≠it->s.heap.get? b=some o->h'.get? b=some o)(U:H it=none)(L:it≠X.env.locals)
 (h1:it∈X.ex\/X.s₀.heap.objs.size<=it) (h2:∀x c,X.env.cells.lookup x=some c->c≠it) (Y:∀p∈X.pn++pins,p.1≠it):Inv X pins σ H { s with heap:=h',toks:=t' }:=by
 have J:∀b u,H b=some u->b≠it:=λb u e z=>by rw[z,U] at e;cases e
 refine I.step (g':=s.gens) (d':=s.drawn) (ch:=[it]) (λb hb=>?_) (λb o _ _ hc e _=>k b o (λz=>hc (by simp[z])) e) (λb o _ _ hc e _=>⟨o.slots,k b o (λz=>hc (by simp[z])) e⟩) (λ_ _ _ _ n=>n)
  (λb o hc e=>⟨o,k b o (λz=>hc (by simp[z])) e⟩) (λ_ _ e=>e) (λ_ _ _ e=>e) (λb ps e=>⟨#[],by rw[e];simp⟩) (λm hm=>?_) (λb u e=>?_) I.bare
 . have e:b=it:=by simpa using hb
   subst e;exact⟨h1,L,h2,Y⟩
 . obtain⟨o,es,ep,ho,r⟩:=hm;exact⟨o,es,ep,k _ o (Ne.symm L) ho,r⟩
 . refine(I.hok b u e).stay (λc v hc q=>k c v ?_ q) (λ_ q=>q) λ_ _ q=>q;rcases hc with z|z
   . rw[z];exact J b u e
   . exact J c _ z
theorem Inv.tok (I:Inv X pins σ H s)(t:Nat):Inv X pins σ H { s with toks:=t }:=I.un (h':=s.heap) (t':=t) Un.refl I.hok
theorem Inv.kept {t':Nat}(I:Inv X pins σ H s)(k:∀b u,s.heap.get? b=some u->h'.get? b=some u):Inv X pins σ H { s with heap:=h',toks:=t' }:=I.un (Un.kept k) (I.hok.kept k)
theorem Inv.laid {a:Addr}{o:HO}{t':Nat}(I:Inv X pins σ H s)(k:∀b u,s.heap.get? b=some u->h'.get? b=some u)(hp:s.heap.objs.size<=a)(new:gJ X.prog X.w (upd H a o) h' a o):
 Inv X pins σ (upd H a o) { s with heap:=h',toks:=t' }:=I.un (Un.laid k hp (I.hok.fresh hp)) (I.hok.laid k hp new)
theorem Inv.write {x e:Addr}{o:HO}{t':Nat}(I:Inv X pins σ H s)(mu:pq (H x))(J:e=x\/H e=some (.own x))(k:∀b u,b≠e->s.heap.get? b=some u->h'.get? b=some u)(z:∃u,h'.get? e=some u)
 (new:gJ X.prog X.w (upd H x o) h' x o):Inv X pins σ (upd H x o) { s with heap:=h',toks:=t' }:=I.un (Un.write mu J k z) (I.hok.write mu J k z new)
theorem Inv.weak {z:List (Option V)}(I:Inv X pins σ H s)(hl:z.length=σ.length)(w:∀(i:Nat) v,z[i]? =some (some v)->σ[i]? =some (some v)):Inv X pins z H s:=
 ⟨I.ok,I.os,I.bare,I.base,let⟨m,L,J⟩:=I.loc;⟨m,L,λi x v U Y e3=>J i x v U (w i v Y) e3⟩,I.cell,I.free,I.i7,I.pin,I.hok,hl.trans I.len⟩
theorem Inv.mS {J:List (Addr × Obj)}(I:Inv X pins σ H s)(h:∀p∈J,s.heap.get? p.1=some p.2/\H p.1=none/\p.1≠X.env.locals/\p.1 ∉ X.fs/\∀v,p.2.data≠ .cell v):Inv X J σ H s:=
 ⟨I.ok,I.os,I.bare,I.base,I.loc,I.cell,I.free,I.i7,λp hp=>(List.mem_append.mp hp).elim (λz=>I.pin p (Q0q _ z)) (h p),I.hok,I.len⟩
theorem tm {N:List Str}(z:N.Nodup){i j:Nat}{x:Str}(a:N[i]? =some x)(b:N[j]? =some x):i=j:=by
 obtain⟨h1,J⟩:=List.getElem?_eq_some_iff.mp a;obtain⟨h2,L⟩:=List.getElem?_eq_some_iff.mp b;exact(Q2b z).mp (J.trans L.symm)
theorem Fh {M:Model}{A:Around}{E:Value->Shared->Prop}{i:Nat}{x:Str}{v:V}{u:Value}{Q:Unit->Shared->Prop}(I:Inv X pins σ H s)(hN:X.N.Nodup)(hi:X.N[i]? =some x)(Y:Loc X.env.scope x)(r:RelV v u)
 (h:∀s',Inv X pins (σ.set i (some v)) H s'->(∃a,Heap.SameBut a s.heap s'.heap/\(a=X.env.locals\/X.env.cells.lookup x=some a))->Q () s') (hf:X.fn x=true\/X.env.scope.names.lookup x=some .local:=by first|exact .inl rfl|exact .inr rfl|assumption):wpAny M A (storeName X.env x u) Q E s:=by
 obtain⟨m,hn,hl⟩:=id I.loc;have ah:(X.env.scope.kind == .class || (X.env.scope.kind == .module && X.env.locals != X.env.globals))=false:=by rw[I.ok.kind];rfl
 have ab:i<σ.length:=by rw[I.len];exact(List.getElem?_eq_some_iff.mp hi).1
 have kj:=I.kj
 have U:∀{a:Addr} {h':Heap},(∃o,s.heap.get? a=some o/\H a=none)->Heap.SameBut a s.heap h'->gD X.prog X.w H h':=λ{a h'} ha J b ob e=>by
  obtain⟨_,_,aa⟩:=ha;refine(I.hok b ob e).stay (λc w' hc q=>(J.2 c ?_).trans q) (λ_ q=>q) λ_ _ q=>q;rintro rfl;rcases hc with rfl|hc
  . rw[aa] at e;cases e
  . rw[aa] at hc;cases hc
 rcases Y with hk|hk
 . refine wpAny_storeName_local hk hn (λh' aj J=>?_) ah;obtain⟨oL,_,_,ak,_⟩:=id hn;refine h _ ⟨I.ok,I.os,I.bare,⟨λb o e n hb Y=>?_,λb o e n hb Y=>?_,I.base.free,λb o e Y=>?_,I.base.tups,I.base.jd,I.base.jr⟩,⟨_,aj,λj y v' L e2 e3=>?_⟩,λy c e=>?_,I.free,I.i7,λp hp=>?_,U ⟨oL,ak,I.free⟩ J,by simpa using I.len⟩ ⟨_,J,.inl rfl⟩
   . exact(J.2 b (Q08 (Q0d (Q01 e) I.ok.above))).trans (I.base.keep b o e n hb Y)
   . obtain⟨sl,L⟩:=I.base.slot b o e n hb Y;exact⟨sl,(J.2 b (Q08 (Q0d (Q01 e) I.ok.above))).trans L⟩
   . obtain⟨o',L⟩:=I.base.there b o e Y;exact⟨o',(J.2 b (Q08 (Q0d (Q01 e) I.ok.above))).trans L⟩
   . by_cases hj:j=i
     . subst hj;rw[hi] at L;cases L;rw[Q2c ab] at e2
       cases e2;exact⟨u,r,.inl ⟨hk,by simp⟩⟩
     . rw[Q2d (Ne.symm hj)] at e2;obtain⟨u',r',q⟩:=hl j y v' L e2 e3;refine⟨u',r',?_⟩;rcases q with⟨k,e⟩|⟨k,c,e,z⟩
       . refine .inl ⟨k,?_⟩;have:y≠x:=λe=>hj (tm hN L (e ▸ hi));simp[this,e]
       . exact .inr ⟨k,c,e,z.sameBut J (kj y c e)⟩
   . obtain⟨w',z⟩:=I.cell y c e;exact⟨w',z.sameBut J (kj y c e)⟩
   . obtain⟨e,n,ne,nf,d⟩:=I.pin p hp;exact⟨(J.2 p.1 ne).trans e,n,ne,nf,d⟩
 . have ac:X.fn x=true:=by
    rcases hf with z|z
    . exact z
    . rw[z] at hk;cases hk
   obtain⟨c,hc⟩:=I.ok.has x (.inl hk);obtain⟨w',z⟩:=I.cell x c hc;refine wpAny_storeName_cell I.ok.kind hk hc z (λh' ae J=>?_);obtain⟨oc,af,ai⟩:=id z;refine h { s with heap:=h' } ⟨I.ok,I.os,I.bare,⟨λb o e n hb Y=>?_,λb o e n hb Y=>?_,I.base.free,λb o e Y=>?_,I.base.tups,I.base.jd,I.base.jr⟩,⟨m,hn.sameBut J (Ne.symm (kj x c hc)),λj y v' L e2 e3=>?_⟩,λy c' e=>?_,I.free,I.i7,λp hp=>?_,U ⟨oc,af,I.i7 x c hc⟩ J,by simpa using I.len⟩ ⟨c,J,.inr hc⟩
   . exact(J.2 b (Q08 (Q0d (Q01 e) (I.ok.cab x c ac hc)))).trans (I.base.keep b o e n hb Y)
   . obtain⟨sl,L⟩:=I.base.slot b o e n hb Y;exact⟨sl,(J.2 b (Q08 (Q0d (Q01 e) (I.ok.cab x c ac hc)))).trans L⟩
   . obtain⟨o',L⟩:=I.base.there b o e Y;exact⟨o',(J.2 b (Q08 (Q0d (Q01 e) (I.ok.cab x c ac hc)))).trans L⟩
   . by_cases hj:j=i
     . subst hj;rw[hi] at L;cases L;rw[Q2c ab] at e2
       cases e2;exact⟨u,r,.inr ⟨.inl hk,c,hc,ae⟩⟩
     . rw[Q2d (Ne.symm hj)] at e2;obtain⟨u',r',q⟩:=hl j y v' L e2 e3;refine⟨u',r',?_⟩;rcases q with q|⟨k,c',e,z'⟩
       . exact .inl q
       . refine .inr ⟨k,c',e,z'.sameBut J ?_⟩;rintro rfl;exact hj (tm hN L (I.ok.inj _ _ _ e hc ▸ hi))
   . by_cases ag:c'=c
     . subst ag;exact⟨_,ae⟩
     . obtain⟨w2,z2⟩:=I.cell y c' e;exact⟨w2,z2.sameBut J ag⟩
   . obtain⟨e,n,ne,nf,d⟩:=I.pin p hp;refine⟨(J.2 p.1 ?_).trans e,n,ne,nf,d⟩;intro q;rw[q,af] at e;have q':oc=p.2:=Option.some.inj e;exact d w' (by rw[<-q'];exact ai)
theorem pA {M:Model}{A:Around}{E:Value->Shared->Prop}{i:Nat}{x:Str}{v:V}{u:Value}{Q:Unit->Shared->Prop}(I:Inv X pins σ H s)(z:X.N.Nodup)(hi:X.N[i]? =some x)(J:Loc X.env.scope x)(r:RelV v u)
 (h:∀s',Inv X pins (σ.set i (some v)) H s'->Q () s') (L:X.fn x=true\/X.env.scope.names.lookup x=some .local:=by first|exact .inl rfl|exact .inr rfl|assumption):wpAny M A (storeName X.env x u) Q E s:=
 Fh I z hi J r (λs' U _=>h s' U) L
theorem Inv.call' {s':Shared}{ch:List Addr}(I:Inv X pins σ H s)(L:s'.os=s.os)(u:Un (frs X.stack) ch H H' s.heap s'.heap)(z:gD X.prog X.w H' s'.heap)(U:AllBare s'.gens)
 (J:∀b∈ch,(b∈X.ex\/X.s₀.heap.objs.size<=b)/\b≠X.env.locals/\(∀x c,X.env.cells.lookup x=some c->c≠b)/\∀p∈X.pn++pins,p.1≠b):Inv X pins σ H' s':=by
 obtain⟨h',g',d',t',o'⟩:=s';have e:o'=s.os:=L;subst e;exact I.call (g':=g') (t':=t') (d':=d') u z U J
end
noncomputable abbrev XK:=Value->Option Addr->Hp->Prop
noncomputable abbrev St:=List (Option V)
noncomputable abbrev VK:=V->Hp->Prop
noncomputable abbrev TE:=St->Hp->VK->Prop
noncomputable abbrev TT:=St->Hp->(Bool->Hp->Prop)->Prop
noncomputable abbrev TA:=St->Hp->(List V->Hp->Prop)->Prop
structure Ends where
 nx:St->Hp->Prop
 rt:VK
 bk:St->Hp->Prop:=λ_ _=>False
 ct:St->Hp->Prop:=λ_ _=>False
noncomputable abbrev TS:=Ends->St->Hp->Prop
def EP (X:Cx) (pins:List (Addr × Obj)) (σ:St) (Q:VK) (u:Value) (s':Shared):Prop:=∃v H',Inv X pins σ H' s'/\RelV v u/\Q v H'
def TP (X:Cx) (pins:List (Addr × Obj)) (σ:St) (Q:Bool->Hp->Prop) (b:Bool) (s':Shared):Prop:=∃H',Inv X pins σ H' s'/\Q b H'
def AP (X:Cx) (pins:List (Addr × Obj)) (σ:St) (Q:List V->Hp->Prop) (us:List Value) (s':Shared):Prop:=∃vs H',Inv X pins σ H' s'/\Vals vs us/\Q vs H'
def SP (X:Cx) (pins:List (Addr × Obj)) (D:Ends) (f:Flow) (s':Shared):Prop:=
 match f with
 | .next=>∃z H',Inv X pins z H' s'/\D.nx z H'
 | .brk=>∃z H',Inv X pins z H' s'/\D.bk z H'
 | .cont=>∃z H',Inv X pins z H' s'/\D.ct z H'
 | .ret u=>∃v z H',Inv X pins z H' s'/\RelV v u/\D.rt v H'
def PE (X:Cx) (e:Expr) (t:TE):Prop:=
 ∀(pins:List (Addr × Obj)) (s:Shared) (σ:St) (H:Hp) (Q:VK),Inv X pins σ H s->t σ H Q->wpAny (model X.prog X.w) X.A (eval e X.env) (EP X pins σ Q) X.xe s
def PT (X:Cx) (e:Expr) (t:TT):Prop:=
 ∀(pins:List (Addr × Obj)) (s:Shared) (σ:St) (H:Hp) (Q:Bool->Hp->Prop),Inv X pins σ H s->t σ H Q->wpAny (model X.prog X.w) X.A (isTrue e X.env (eval e X.env)) (TP X pins σ Q) X.xe s
def PW (X:Cx) (e:Expr) (t:TT):Prop:=
 ∀(z:Sem Value) (pins:List (Addr × Obj)) (s:Shared) (σ:St) (H:Hp) (Q:Bool->Hp->Prop),Inv X pins σ H s->t σ H Q->wpAny (model X.prog X.w) X.A (isTrue e X.env z) (TP X pins σ Q) X.xe s
theorem PW.pt {X:Cx}{e:Expr}{t:TT}(h:PW X e t):PT X e t:=h _
def PA (X:Cx) (es:List Expr) (t:TA):Prop:=
 ∀(pos:Pos) (pins:List (Addr × Obj)) (s:Shared) (σ:St) (H:Hp) (Q:List V->Hp->Prop),Inv X pins σ H s->t σ H Q->wpAny (model X.prog X.w) X.A (spliced (backTo pos (starEach es X.env))) (AP X pins σ Q) X.xe s
def PS (X:Cx) (st:Stmt) (t:TS):Prop:=
 ∀(pins:List (Addr × Obj)) (s:Shared) (σ:St) (H:Hp) (D:Ends),Inv X pins σ H s->t D σ H->wpAny (model X.prog X.w) X.A (exec st X.env) (SP X pins D) X.xe s
def je (X:Cx) (st:List Stmt) (t:TS):Prop:=
 ∀(pins:List (Addr × Obj)) (s:Shared) (σ:St) (H:Hp) (D:Ends),Inv X pins σ H s->t D σ H->wpAny (model X.prog X.w) X.A (execs st X.env) (SP X pins D) X.xe s
theorem eU {α:Type}{t:Sem α}{Q z:α->Shared->Prop}{M:Model}{A:Around}{E:Value->Shared->Prop}{s:Shared}(h:wpAny M A t Q E s)(J:∀a s,Q a s->z a s):wpAny M A t z E s:=Q0m h J λ_ _ x=>x
section
variable {X:Cx}
def fv (i:Nat):TE:=λσ H Q=>∃v,σ[i]? =some (some v)/\Q v H
def tC (v:V):TE:=λ_ H Q=>Q v H
theorem Fi {i:Nat}{x:Str}{pos:Pos}(U:X.N[i]? =some x)(Y:tf X.env.scope x)(J:(x == ("__debug__":Str))=false:=by decide)(L:(x == ("__classdict__":Str))=false:=by decide):PE X (.Name x pos) (fv i):=by
 intro pins s σ H Q I h;obtain⟨v,e,h⟩:=h;obtain⟨m,hn,hl⟩:=I.loc;obtain⟨u,r,l⟩:=hl i x v U e Y;have fin:EP X pins σ Q u s:=⟨v,H,I,r,h⟩;rcases l with⟨hk,hm⟩|⟨hk,c,hc,z⟩
 . exact wpAny_Name (wpAny_loadName_local I.ok.kind hk hn hm fin) J
 . rcases hk with hk|hk
   . exact wpAny_Name (wpAny_loadName_cell I.ok.kind hk hc z fin) J
   . exact wpAny_Name (wpAny_loadName_free I.ok.kind hk hc z fin L) J
theorem d_ {i j pos}:PE X (.Constant (.int i) j pos) (tC (.int i)):=λ_ _ _ H _ I h=>wpAny_Constant_int ⟨.int i,H,I.tok _,⟨_,rfl⟩,h⟩
theorem gH {b j pos}:PE X (.Constant (.bool b) j pos) (tC (.bl b)):=λ_ _ _ H _ I h=>Constant_bool ⟨.bl b,H,I,rfl,h⟩
theorem gn {j pos}:PE X (.Constant .none j pos) (tC .non):=λ_ _ _ H _ I h=>Constant_none ⟨.non,H,I,rfl,h⟩
theorem fh {x j pos}:PE X (.Constant (.str x) j pos) (tC (.str x)):=λ_ _ _ H _ I h=>Calls.Constant_str ⟨.str x,H,I.tok _,⟨_,rfl⟩,h⟩
def Gl (X:Cx) (x:Str):Prop:=X.env.kindOf x=some .globalImplicit
theorem qF {E:Value->Shared->Prop}{pins:List (Addr × Obj)}{s:Shared}{σ:St}{H:Hp}{x:Str}{u:Value}{pos:Pos}{Q:Value->Shared->Prop}(I:Inv X pins σ H s)(z:Gl X x)(J:X.mg x=some u)(h:Q u s)
 (L:(x == ("__debug__":Str))=false:=by decide):wpAny (model X.prog X.w) X.A (eval (.Name x pos) X.env) Q E s:=
 Calls.Name_function_global I.ok.kind z (Calls.loadGlobal_global (by rw[I.ok.glob];exact I.mod.glob.keeps I.bk) J h) L
theorem lu {E:Value->Shared->Prop}{pins:List (Addr × Obj)}{s:Shared}{σ:St}{H:Hp}{x:Str}{u:Value}{pos:Pos}{Q:Value->Shared->Prop}(I:Inv X pins σ H s)(z:Gl X x)(J:X.mg x=none)(L:bootBuiltins x=some u)(h:Q u s)
 (U:x≠"__name__":=by decide) (Y:(x == ("__debug__":Str))=false:=by decide):wpAny (model X.prog X.w) X.A (eval (.Name x pos) X.env) Q E s:=by
 obtain⟨mb,h1,h2⟩:=I.mod.blt;exact Calls.Name_function_global I.ok.kind z (Calls.loadGlobal_builtin (by rw[I.ok.glob];exact I.mod.glob.keeps I.bk) J (by rw[I.ok.blt];exact h1.keeps I.bk) ((h2 x U).trans L) h) Y
theorem gw {x:Str}{v:V}{u:Value}{pos:Pos}(z:Gl X x)(J:X.mg x=none)(L:bootBuiltins x=some u)(r:RelV v u)(U:x≠"__name__":=by decide)(Y:(x == ("__debug__":Str))=false:=by decide):PE X (.Name x pos) (tC v):=
 λ_ _ _ H _ I h=>lu I z J L ⟨v,H,I,r,h⟩ U Y
variable {a b:Expr}{ta tb:TE}{pos:Pos}
def PC (X:Cx) (op:CmpOp) (a b:Expr) (t:TE):Prop:=
 ∀(pins:List (Addr × Obj)) (s:Shared) (σ:St) (H:Hp) (Q:VK),Inv X pins σ H s->t σ H Q->
  wpAny (model X.prog X.w) X.A (eval a X.env) (λv z=>wpAny (model X.prog X.w) X.A (eval b X.env) (λu J=>wpAny (model X.prog X.w) X.A (compareOp op v u) (EP X pins σ Q) X.xe J) X.xe z) X.xe s
def tB (t:TE):TT:=λσ H Q=>t σ H λx H1=>∃c,x=.bl c/\Q c H1
theorem Aq {op:CmpOp}{t:TE}(h:PC X op a b t)(h1:behindInMarks op b=false:=by first|exact z _ (by decide) (by decide)|rfl):PE X (.Compare a [op] [b] pos) t:=λpins s σ H Q I hw=>wpAny_Compare1 (h pins s σ H Q I hw) h1
theorem pB {op:CmpOp}{t:TE}(h:PC X op a b t)(h1:behindInMarks op b=false:=by first|exact z _ (by decide) (by decide)|rfl):PT X (.Compare a [op] [b] pos) (tB t):=by
 intro pins s σ H Q I hw;refine wpAny_isTrue_Compare1 (eU (h pins s σ H _ I hw) λv Y h1=>eU h1 λu s2 h2=>eU h2 λc s3 zq=>?_) h1;obtain⟨x,H1,J,L,U⟩:=zq;obtain⟨d,rfl,q⟩:=U
 cases L;exact wpAny_truthy_bool ⟨H1,J,q⟩
theorem fU {e:Expr}{t:TE}(h:PE X e t)(J:∀z,isTrue e X.env z=(do let v <-z;standAt e.pos;holding [v] (truthy v)):=by intro _;rfl):PT X e (tB t):=by
 intro pins s σ H Q I hw;refine isTrue_plain (eU (h pins s σ H _ I hw) λv s1 zq=>?_) (J _);obtain⟨x,H1,L,U,Y⟩:=zq;obtain⟨d,rfl,q⟩:=Y
 cases U;exact wpAny_truthy_bool ⟨H1,L,q⟩
variable {tA qG:TT}{rest:List Expr}
def Fj (t u:TT):TT:=λσ H Q=>t σ H λc H1=>if c=true then u σ H1 Q else Q false H1
def Fk (t u:TT):TT:=λσ H Q=>t σ H λc H1=>if c=true then Q true H1 else u σ H1 Q
def Fl (t:TT):TT:=λσ H Q=>t σ H λc H1=>Q (!c) H1
theorem mT (z:PT X a tA):PW X (.BoolOp .And [a] pos) tA:=by
 intro J pins s σ H Q I h;refine isTrue_and (eU (z pins s σ H Q I h) λc L e=>?_)
 cases c with
 |true=>exact isTrue_and_nil e
 |false=>exact e
theorem ig (z:PT X a tA):PW X (.BoolOp .Or [a] pos) tA:=by
 intro J pins s σ H Q I h;refine isTrue_or (eU (z pins s σ H Q I h) λc L e=>?_)
 cases c with
 |false=>exact isTrue_or_nil e
 |true=>exact e
theorem mU (L:PT X a tA)(U:PW X (.BoolOp .And (b::rest) pos) qG):PW X (.BoolOp .And (a::b::rest) pos) (Fj tA qG):=by
 intro Y pins s σ H Q I h;refine isTrue_and (eU (L pins s σ H _ I h) λc s1 ⟨H1,z,J⟩=>?_)
 cases c with
 |true=>exact U Y pins s1 σ H1 Q z J
 |false=>exact⟨H1,z,J⟩
theorem ib (L:PT X a tA)(U:PW X (.BoolOp .Or (b::rest) pos) qG):PW X (.BoolOp .Or (a::b::rest) pos) (Fk tA qG):=by
 intro Y pins s σ H Q I h;refine isTrue_or (eU (L pins s σ H _ I h) λc s1 ⟨H1,z,J⟩=>?_)
 cases c with
 |true=>exact⟨H1,z,J⟩
 |false=>exact U Y pins s1 σ H1 Q z J
theorem gp (z:PT X a tA):PT X (.UnaryOp .Not a pos) (Fl tA):=by
 intro pins s σ H Q I h;exact isTrue_not (z pins s σ H (λc H1=>Q (!c) H1) I h)
def Fm (ta tb:TE):TE:=λσ H Q=>ta σ H λx H1=>∃c,x=.bl c/\if c=true then tb σ H1 Q else Q (.bl false) H1
def Fn (ta:TE):TE:=λσ H Q=>ta σ H λx H1=>∃c,x=.bl c/\Q (.bl (!c)) H1
theorem js {op}{t:TE}(h:PE X a t):PE X (.BoolOp op [a] pos) t:=λpins s σ H Q I hw=>BoolOp_one (h pins s σ H Q I hw)
theorem i8 (L:PE X a ta)(U:PE X (.BoolOp .And (b::rest) pos) tb):PE X (.BoolOp .And (a::b::rest) pos) (Fm ta tb):=by
 intro pins s σ H Q I h;refine BoolOp_and (eU (L pins s σ H _ I h) λv Y zq=>?_);obtain⟨x,H1,J,r1,z⟩:=zq;obtain⟨c,rfl,z⟩:=z
 cases r1;refine wpAny_truthy_bool ?_
 cases c with
 |true=>exact U pins Y σ H1 Q J z
 |false=>exact⟨.bl false,H1,J,rfl,z⟩
theorem Ar (J:PE X a ta):PE X (.UnaryOp .Not a pos) (Fn ta):=by
 intro pins s σ H Q I h;refine UnaryOp_ (eU (J pins s σ H _ I h) λv Y zq=>?_);obtain⟨x,H1,L,U,z⟩:=zq;obtain⟨c,rfl,z⟩:=z
 cases U;exact not_of (wpAny_truthy_bool ⟨.bl (!c),H1,L,rfl,z⟩)
def Fo (t:TT) (ta tb:TE):TE:=λσ H Q=>t σ H λc H1=>if c=true then ta σ H1 Q else tb σ H1 Q
theorem mV {c:Expr}(hc:PT X c tA)(U:PE X a ta)(Y:PE X b tb):PE X (.IfExp c a b pos) (Fo tA ta tb):=by
 intro pins s σ H Q I h;refine wpAny_IfExp (eU (hc pins s σ H _ I h) λd z ⟨H1,J,L⟩=>?_)
 cases d with
 |true=>exact U pins z σ H1 Q J L
 |false=>exact Y pins z σ H1 Q J L
end
def eF (K:W.Frag) (H:Hp) (a:Addr) (xs:List V):Prop:=
 Rd H a (.lst xs)\/
  ∃(o:Obj) (z:Array Value) (n:Nat),K.lookup a=some o/\o.cls=.type "list"/\o.dict=none/\o.data=.seq z n/\z.size<=sizeLine/\Vals xs z.toList
def eu (K:W.Frag) (H:Hp) (a:Addr) (xs:List V):Prop:=
 Rd H a (.tup xs)\/
  ∃(o:Obj) (z:Array Value) (n:Nat),K.lookup a=some o/\o.cls=.type "tuple"/\o.data=.seq z n/\z.size<=sizeLine/\Vals xs z.toList
noncomputable def Fp:Value->Option V
 | .none=>some .non
 | .bool b=>some (.bl b)
 | .int i _=>some (.int i)
 | .str x _=>some (.str x)
 | .bytes b _=>some (.jW b)
 | .float b _=>some (.flt b)
 | .ref a=>some (.ref a)
 | .type n=>some (.ty n)
 |_=>none
theorem RelV.abs {x:V}{u:Value}(r:RelV x u):Fp u=some x:=by
 cases x with
 |non=>cases r;rfl
 |bl _=>cases r;rfl
 |int _=>obtain⟨t,rfl⟩:=r;rfl
 |str _=>obtain⟨t,rfl⟩:=r;rfl
 |jW _=>obtain⟨t,rfl⟩:=r;rfl
 |flt _=>obtain⟨t,rfl⟩:=r;rfl
 |ref _=>cases r;rfl
 |ty _=>cases r;rfl
theorem RelV.inj {x y:V}{u:Value}(r:RelV x u)(q:RelV y u):x=y:=Option.some.inj (r.abs.symm.trans q.abs)
theorem Vals.inj:∀{xs ys:List V}{us:List Value},Vals xs us->Vals ys us->xs=ys
 |_,_,_,.nil,.nil=>rfl
 |_,_,_,.cons r t,.cons z t'=>by rw[r.inj z,Vals.inj t t']
section
variable {X:Cx}{pins:List (Addr × Obj)}{σ:St}{H:Hp}{s:Shared}{a:Addr}{xs ys:List V}
theorem eF.of {K:W.Frag}(h:H a=some (.lst xs)):eF K H a xs:=.inl (.inl h)
theorem eu.of {K:W.Frag}(h:H a=some (.tup xs)):eu K H a xs:=.inl (.inl h)
theorem Inv.list (I:Inv X pins σ H s)(h:eF X.K H a xs):∃J:List Value,Vals xs J/\PlainL s.heap a J.toArray/\xs.length<=sizeLine:=by
 rcases h with h|⟨o,J,n,hk,hc,L,U,Y,r⟩
 . obtain⟨z,J,n,r,e⟩:=h.ok I.hok;exact⟨J,r,⟨_,n,e,rfl,rfl,rfl⟩,z⟩
 . refine⟨J.toList,r,⟨o,n,I.gM a o hk,hc,L,by simpa using U⟩,?_⟩;have e:=r.length;simp only[Q1n] at e;omega
theorem Inv.tuple (I:Inv X pins σ H s)(h:eu X.K H a xs):∃J:List Value,Vals xs J/\IsTup s.heap a J.toArray/\xs.length<=sizeLine:=by
 rcases h with h|⟨o,J,n,hk,hc,L,U,r⟩
 . obtain⟨z,J,r,p⟩:=h.ok I.hok;exact⟨J,r,p,z⟩
 . refine⟨J.toList,r,⟨o,I.gM a o hk,hc,n,by simpa using L⟩,?_⟩;have e:=r.length;simp only[Q1n] at e;omega
theorem Inv.qH (I:Inv X pins σ H s)(h:eF X.K H a xs)(h':eF X.K H a ys):xs=ys:=by
 obtain⟨z,r,⟨o,n,e,_,_,d⟩,_⟩:=I.list h;obtain⟨its',L,⟨o',Y,J,_,_,d'⟩,_⟩:=I.list h';rw[e] at J;cases J;rw[d] at d';injection d' with U _
 have:z=its':=by simpa using congrArg Array.toList U
 subst this;exact r.inj L
theorem Inv.Fq (I:Inv X pins σ H s)(h:eu X.K H a xs)(h':eu X.K H a ys):xs=ys:=by
 obtain⟨z,r,⟨o,e,_,n,d⟩,_⟩:=I.tuple h;obtain⟨its',L,⟨o',J,_,Y,d'⟩,_⟩:=I.tuple h';rw[e] at J;cases J;rw[d] at d';injection d' with U _
 have:z=its':=by simpa using congrArg Array.toList U
 subst this;exact r.inj L
end
noncomputable abbrev Cx.wish (X:Cx) (E:Value->Shared->Prop):Cx:={ X with xe:=E }
noncomputable abbrev Cx.e_ (X:Cx):Cx:=X.wish λ_ _=>False
theorem Cx.Ok.wish {X:Cx}(ok:X.Ok)(E:Value->Shared->Prop):(X.wish E).Ok:=
 ⟨ok.mod,ok.kind,ok.glob,ok.blt,ok.above,ok.inj,ok.has,ok.cab,ok.hd,ok.frames,ok.stk,ok.ti,ok.bs,ok.ki,ok.nZ,ok.px,ok.jM,ok.md⟩
theorem Cx.Ok.jX {X:Cx}{E:Value->Shared->Prop}(ok:(X.wish E).Ok):X.Ok:=
 ⟨ok.mod,ok.kind,ok.glob,ok.blt,ok.above,ok.inj,ok.has,ok.cab,ok.hd,ok.frames,ok.stk,ok.ti,ok.bs,ok.ki,ok.nZ,ok.px,ok.jM,ok.md⟩
section
variable {X:Cx}{pins:List (Addr × Obj)}{σ:St}{H:Hp}{s:Shared}{E:Value->Shared->Prop}
theorem Inv.wish (I:Inv X pins σ H s)(E:Value->Shared->Prop):Inv (X.wish E) pins σ H s:=⟨I.ok.wish E,I.os,I.bare,I.base,I.loc,I.cell,I.free,I.i7,I.pin,I.hok,I.len⟩
theorem Inv.jX (I:Inv (X.wish E) pins σ H s):Inv X pins σ H s:=⟨I.ok.jX,I.os,I.bare,I.base,I.loc,I.cell,I.free,I.i7,I.pin,I.hok,I.len⟩
theorem SP.jX {D:Ends}{f:Flow}{s':Shared}(h:SP (X.wish E) pins D f s'):SP X pins D f s':=by
 cases f with
 |next=>obtain⟨z,H',I,q⟩:=h;exact⟨z,H',I.jX,q⟩
 |brk=>obtain⟨z,H',I,q⟩:=h;exact⟨z,H',I.jX,q⟩
 |cont=>obtain⟨z,H',I,q⟩:=h;exact⟨z,H',I.jX,q⟩
 |ret u=>obtain⟨v,z,H',I,r,q⟩:=h;exact⟨v,z,H',I.jX,r,q⟩
theorem je.e_ {st:List Stmt}{t:TS}(h:je X.e_ st t):je X st t:=λpins s σ H D I hw=>
 Q0m (h pins s σ H D (I.wish _) hw) (λ_ _ q=>q.jX) λ_ _ z=>False.elim z
end
section
variable {X:Cx}{st:Stmt}{rest:List Stmt}{t u:TS}{e:Expr}{te:TE}{pos:Pos}
def Ft:TS:=λD σ H=>D.nx σ H
def tw (t u:TS):TS:=λD σ H=>t { D with nx:=u D } σ H
theorem eQ:je X [] Ft:=λ_ _ σ H _ I h=>wpAny_execs_nil ⟨σ,H,I,h⟩
theorem en (h1:PS X st t)(h2:je X rest u):je X (st::rest) (tw t u):=by
 intro pins s σ H D I h;refine wpAny_execs_cons (eU (h1 pins s σ H { D with nx:=u D } I h) λf J q=>?_)
 cases f with
 |next=>
  obtain⟨z,H',L,q⟩:=q;exact h2 pins J z H' D L q
 |ret v=>exact q
 |brk=>exact q
 |cont=>exact q
theorem eB (h1:PS X st t):je X [st] t:=by
 intro pins s σ H D I h;refine wpAny_execs_cons (eU (h1 pins s σ H D I h) λf z q=>?_)
 cases f with
 |next=>exact wpAny_execs_nil q
 |ret v=>exact q
 |brk=>exact q
 |cont=>exact q
theorem Inv.quiet {pins:List (Addr × Obj)}{σ:St}{H:Hp}{s:Shared}(I:Inv X pins σ H s):interactive X.env=false:=by simp[interactive,I.ok.kind]
def Fu (te:TE):TS:=λD σ H=>te σ H λ_ H1=>D.nx σ H1
theorem jt (z:PE X e te)(J:swapsWith e none pos.line X.env=pure false:=by rfl):PS X (.Expr e pos) (Fu te):=by
 intro pins s σ H D I h;exact wpAny_Expr_any (eU (z pins s σ H _ I h) λv Y ⟨x,H1,L,r1,U⟩=>⟨σ,H1,L,U⟩) I.quiet J
def Fv (te:TE):TS:=λD σ H=>te σ H D.rt
theorem eJ (z:PE X e te):PS X (.Return (some e) pos) (Fv te):=by
 intro pins s σ H D I h;exact wpAny_Return_some (eU (z pins s σ H _ I h) λv Y ⟨x,H1,J,L,U⟩=>⟨x,σ,H1,J,L,U⟩)
def n8 (c:TT) (t u:TS):TS:=λD σ H=>c σ H λb H1=>if b=true then t D σ H1 else u D σ H1
theorem eP {c:Expr}{a b:List Stmt}{tc:TT}(hc:PT X c tc)(U:je X a t)(Y:je X b u):PS X (.If c a b pos) (n8 tc t u):=by
 intro pins s σ H D I h;refine wpAny_If (eU (hc pins s σ H _ I h) λd z ⟨H1,J,L⟩=>?_)
 cases d with
 |true=>exact U pins z σ H1 D J L
 |false=>exact Y pins z σ H1 D J L
def As:TS:=λ_ _ _=>False
theorem tz:PS X st As:=λ_ _ _ _ _ _ h=>h.elim
theorem Fw {z:List Stmt}:je X z As:=λ_ _ _ _ _ _ h=>h.elim
end
noncomputable abbrev TG:=V->St->Hp->(St->Hp->Prop)->Prop
noncomputable abbrev mW:=List V->St->Hp->(St->Hp->Prop)->Prop
def PG (X:Cx) (z:Expr) (t:TG):Prop:=
 ∀(pins:List (Addr × Obj)) (s:Shared) (σ:St) (H:Hp) (v:V) (u:Value) (Q:St->Hp->Prop),Inv X pins σ H s->RelV v u->t v σ H Q->
  wpAny (model X.prog X.w) X.A (assign z X.env u) (λ_ s'=>∃J H',Inv X pins J H' s'/\Q J H') X.xe s
def qI (X:Cx) (J:List Expr) (t:mW):Prop:=
 ∀(pins:List (Addr × Obj)) (s:Shared) (σ:St) (H:Hp) (vs:List V) (us:List Value) (Q:St->Hp->Prop),Inv X pins σ H s->Vals vs us->t vs σ H Q->
  wpAny (model X.prog X.w) X.A (assignInOrder ((assignEach J X.env).map (·.2)) us) (λ_ s'=>∃z H',Inv X pins z H' s'/\Q z H') X.xe s
noncomputable abbrev tD:=V->V->V->Hp->(Hp->Prop)->Prop
def Au (X:Cx) (t:tD):Prop:=
 ∀(pins:List (Addr × Obj)) (s:Shared) (σ:St) (H:Hp) (o i v:V) (z J u:Value) (Q:Hp->Prop),Inv X pins σ H s->RelV o z->RelV i J->RelV v u->t o i v H Q->
  wpAny (model X.prog X.w) X.A (setItem z J u) (λ_ s'=>∃H',Inv X pins σ H' s'/\Q H') X.xe s
section
variable {X:Cx}{pos:Pos}
def gK (i:Nat):TG:=λv σ H Q=>Q (σ.set i (some v)) H
theorem ff {i:Nat}{x:Str}(z:X.N.Nodup)(hi:X.N[i]? =some x)(J:Loc X.env.scope x)(L:X.fn x=true\/X.env.scope.names.lookup x=some .local:=by first|exact .inl rfl|exact .inr rfl|assumption):PG X (.Name x pos) (gK i):=by
 intro pins s σ H v u Q I r h;exact wpAny_assign_Name (pA I z hi J r (λs' U=>⟨_,H,U,h⟩) L)
def mY:mW:=λvs σ H Q=>vs=[]/\Q σ H
def jN (t:TG) (u:mW):mW:=λvs σ H Q=>∃v r,vs=v::r/\t v σ H λz H'=>u r z H' Q
theorem iP:qI X [] mY:=by
 intro pins s σ H vs us Q I r h;obtain⟨e,h⟩:=h;subst e
 cases r;exact assignInOrder_nil ⟨σ,H,I,h⟩
theorem gq {e:Expr}{es:List Expr}{t:TG}{u:mW}(h1:PG X e t)(h2:qI X es u)
 (J:(assignEach (e::es) X.env).map (·.2)=assign e X.env::(assignEach es X.env).map (·.2):=by rfl):qI X (e::es) (jN t u):=by
 intro pins s σ H vs us Q I r h;obtain⟨v,vr,L,h⟩:=h;subst L
 cases r with
 |cons r U=>
  rw[J];refine assignInOrder_cons (eU (h1 pins s σ H _ _ _ I r h) λ_ Y zq=>?_);obtain⟨z,H1,I1,q1⟩:=zq;exact h2 pins Y z H1 _ _ Q I1 U q1
def mZ (K:W.Frag) (n:Nat) (t:mW):TG:=λv σ H Q=>∃a xs,v=.ref a/\eu K H a xs/\xs.length=n/\t xs σ H Q
theorem iQ {es:List Expr}{k:Nat}{t:mW}{n:Nat}(hc:X.calm=true)(h:qI X es t)
 (L:(assignEach es X.env).length=n:=by rfl) (z:(assignEach es X.env).findIdx? (·.1)=none:=by rfl):PG X (.Tuple es k pos) (mZ X.K n t):=by
 intro pins s σ H v u Q I r hw;obtain⟨a,xs,U,Y,hl,hw⟩:=hw;subst U
 cases r;obtain⟨aa,J,ht,hz⟩:=I.tuple Y;refine assign_Tuple_tuple (I.ok.hd hc) ht (by simp[L,<-hl,J.length]) z λh' hx=>?_;have I1:Inv X pins σ H { s with heap:=h' }:=I.kept (t':=s.toks) λb o e=>hx b o (Q08 (Q01 e)) e;exact h pins _ σ H xs _ Q I1 (by simpa using J) hw
def Fx (to z:TE) (t:tD):TG:=λv σ H Q=>to σ H λo H1=>z σ H1 λi H2=>t o i v H2 λJ=>Q σ J
theorem Fy {o i:Expr}{to L:TE}{t:tD}(U:PE X o to)(hi:PE X i L)(Y:Au X t)
 (ha:∀v,assign (.Subscript o i pos) X.env v=(do
   let z <-holding [v] (eval o X.env);let J <-holding [v,z] (eval i X.env)
   standAt pos
   holding [v,z,J] (setItem z J v)
   release [v,z,J] []):=by intro _;rfl):PG X (.Subscript o i pos) (Fx to L t):=by
 intro pins s σ H v u Q I r h;rw[ha];refine Q0 (wpAny_holding (eU (U pins s σ H _ I h) λz s1 zq=>?_));obtain⟨x,H1,I1,r1,q1⟩:=zq;refine Q0 (wpAny_holding (eU (hi pins s1 σ H1 _ I1 q1) λJ s2 zq=>?_));obtain⟨y,H2,I2,r2,q2⟩:=zq;refine Q0 (wpAny_standAt (Q0 (wpAny_holding (eU (Y pins s2 σ H2 x y v z J u _ I2 r1 r2 r q2) λ_ s3 ⟨H3,I3,q3⟩=>?_))));exact wpAny_release ⟨σ,H3,I3,q3⟩
def n9 (te:TE) (g:TG):TS:=λD σ H=>te σ H λx H1=>g x σ H1 D.nx
theorem Av {tg e:Expr}{te:TE}{g:TG}(z:PE X e te)(J:PG X tg g)(L:swapsWithSole [tg] e pos.line X.env=pure false:=by rfl)(hw:swappedStores [tg] e X.env=pure none:=by rfl)
 (h1:(assignEach [tg] X.env).map (·.2)=[assign tg X.env]:=by rfl):PS X (.Assign [tg] e pos) (n9 te g):=by
 intro pins s σ H D I h;refine wpAny_Assign_stores (eU (z pins s σ H _ I h) λv U zq=>?_) L hw;obtain⟨x,H1,Y,r1,q1⟩:=zq;rw[h1];exact eU (J pins U σ H1 x v _ Y r1 q1) λ_ s2 q=>q
theorem Aw {i:Nat}{x:Str}{e:Expr}{te:TE}{pos':Pos}(z:X.N.Nodup)(hi:X.N[i]? =some x)(J:Loc X.env.scope x)(L:PE X e te)(U:swapsWith e (some (.Name x pos')) pos.line X.env=pure false:=by rfl)(Y:X.fn x=true\/X.env.scope.names.lookup x=some .local:=by first|exact .inl rfl|exact .inr rfl|assumption):
 PS X (.Assign [.Name x pos'] e pos) (n9 te (gK i)):=by
 intro pins s σ H D I h;refine wpAny_Assign_Name (eU (L pins s σ H _ I h) λv s1 zq=>?_) U;obtain⟨y,H1,I1,r1,q1⟩:=zq;exact pA I1 z hi J r1 (λs2 I2=>⟨_,H1,I2,q1⟩) Y
end
section
variable {X:Cx}{pos:Pos}
end
structure It where
 go:Nat->Hp->Prop
 lx:Nat->Hp->V->Hp->Prop
 stop:Nat->Hp->Prop
def iU (X:Cx) (pins:List (Addr × Obj)) (H:Hp) (b:Addr):Prop:=
 H b=none/\b≠X.env.locals/\b ∉ X.fs/\(b∈X.ex\/X.s₀.heap.objs.size<=b)/\(∀x c,X.env.cells.lookup x=some c->c≠b)/\∀p∈X.pn++pins,p.1≠b
theorem Inv.me {X:Cx}{pins:List (Addr × Obj)}{σ:St}{H H':Hp}{s:Shared}{b:Addr}(I:Inv X pins σ H s)(J:s.heap.objs.size<=b)(L:H' b=none):iU X pins H' b:=by
 refine⟨L,Q0x (Q0d I.lt J),I.n0 J,.inr (Q05 I.sz J),λx c e z=>?_,λp hp z=>?_⟩
 . obtain⟨v,q⟩:=I.cell x c e;exact absurd (Q0d q.lt (by rw[z];exact J)) (Q0r _)
 . exact absurd (Q0d (Q01 (I.pin p hp).1) (by rw[z];exact J)) (Q0r _)
structure Turn (P:Program) (w:World) (K:W.Frag) (tg:Expr) (J:It) (fp:List Addr) (it:Addr) (tn:Nat->Heap->Prop):Prop where
 mem:it∈fp
 obj:∀i h,tn i h->∀b∈fp,∃o,h.get? b=some o/\∀v,o.data≠ .cell v
 keep:∀i h h',tn i h->(∀b∈fp,∀o,h.get? b=some o->h'.get? b=some o)->tn i h'
 item:∀(X:Cx),X.prog=P->X.w=w->X.K=K->X.calm=true->∀(i:Nat) (pins:List (Addr × Obj)) (s:Shared) (σ:St) (H:Hp) (E:Value->Shared->Prop),Inv X pins σ H s->(∀b∈fp,iU X pins H b)->tn i s.heap->J.go i H->
  wpAny (model P w) X.A (pyNext (.ref it)) (λr s1=>∃u,r=some u/\
   wpAny (model P w) X.A (letOwnedTupleGo tg (.ref it) u) (λ_ s2=>∃x H',Inv X pins σ H' s2/\RelV x u/\J.lx i H x H'/\tn (i+1) s2.heap/\∀b∈fp,H' b=none) E s1) E s
 done:∀(X:Cx),X.prog=P->X.w=w->X.K=K->X.calm=true->∀(i:Nat) (pins:List (Addr × Obj)) (s:Shared) (σ:St) (H:Hp) (E:Value->Shared->Prop),Inv X pins σ H s->(∀b∈fp,iU X pins H b)->tn i s.heap->J.stop i H->
  wpAny (model P w) X.A (pyNext (.ref it)) (λr s1=>r=none/\Inv X pins σ H s1) E s
 self:∀(A:Around) (i:Nat) (s:Shared) (Q:Value->Shared->Prop) (E:Value->Shared->Prop),tn i s.heap->Q (.ref it) s->wpAny (model P w) A (pyIter (.ref it)) Q E s
noncomputable abbrev TI:=St->Hp->(It->Hp->Prop)->Prop
def PIE (X:Cx) (pins:List (Addr × Obj)) (σ:St) (tg:Expr) (R:It->Hp->Prop) (z:Value) (L:Shared):Prop:=
 ∃(it:Addr) (fp:List Addr) (U:Nat->Heap->Prop) (J:It) (H':Hp),z=.ref it/\Inv X pins σ H' L/\Turn X.prog X.w X.K tg J fp it U/\U 0 L.heap/\(∀b∈fp,iU X pins H' b)/\R J H'
def PI (X:Cx) (tg iter:Expr) (z:TI):Prop:=
 ∀(pins:List (Addr × Obj)) (s:Shared) (σ:St) (H:Hp) (R:It->Hp->Prop),Inv X pins σ H s->z σ H R->
  wpAny (model X.prog X.w) X.A (eval iter X.env) (λv J=>wpAny (model X.prog X.w) X.A (pyIter v) (PIE X pins σ tg R) X.xe J) X.xe s
theorem qJ {M:Model}{A:Around}{E:Value->Shared->Prop}{s:Shared}{tg:Expr}{it:Addr}{u:Value}{o:Obj}{n:String}{vs:Array Value}{Q:Unit->Shared->Prop}(J:s.heap.get? it=some o)(hc:o.cls=.type n)(L:o.data=.fields vs)
 (U:["enumerate","zip","dict_itemiterator","dict_reverseitemiterator","odict_iterator","itertools.zip_longest","itertools.pairwise"].contains n=false) (z:Q () s):wpAny M A (letOwnedTupleGo tg (.ref it) u) Q E s:=by
 unfold letOwnedTupleGo
 cases tg <;> first
  |exact Q0a z
  |(cases u <;> first
     |exact Q0a z
     |(refine Q0 (wpAny_load J ?_)
       rw[hc,L];show wpAny M A (if(["enumerate","zip","dict_itemiterator","dict_reverseitemiterator","odict_iterator","itertools.zip_longest","itertools.pairwise"].contains n && vs[0]? == some (rawInt _))=true then _ else _) Q E s;rw[if_neg (by intro h;rw[U,Bool.false_and] at h;cases h)];exact Q0a z))
noncomputable def pC (K:W.Frag) (a:Addr):It:=
 ⟨λi H=>∃xs x,eF K H a xs/\xs[i]? =some x,λi H x H'=>H'=H/\∀xs,eF K H a xs->xs[i]? =some x,λi H=>∃xs,eF K H a xs/\xs.length<=i⟩
noncomputable def pE (K:W.Frag) (a:Addr):It:=
 ⟨λi H=>∃xs x,eu K H a xs/\xs[i]? =some x,λi H x H'=>H'=H/\∀xs,eu K H a xs->xs[i]? =some x,λi H=>∃xs,eu K H a xs/\xs.length<=i⟩
noncomputable def m4 (lo:Int) (n:Nat):It:=⟨λi _=>i<n,λi H x H'=>H'=H/\x=.int (lo+i),λi _=>n<=i⟩
theorem Fz {P:Program}{w:World}{K:W.Frag}{tg:Expr}(a it:Addr):Turn P w K tg (pC K a) [it] it (λi h=>h.IsListIter it a i) where
 mem:=by simp
 obj:=λi h st b J=>by
  have e:b=it:=by simpa using J
  subst e;obtain⟨o,e,c,d⟩:=st;exact⟨o,e,λv z=>by rw[d] at z;cases z⟩
 keep:=λi h h' st k=>st.at λo e=>k it (by simp) o e
 item:=by
  intro X hP hw hK hc i pins s σ H E I U st hg;subst hP hw hK;obtain⟨xs,x,Y,hx⟩:=hg;obtain⟨aa,rv,p,hz⟩:=I.list Y;obtain⟨u,hu,ru⟩:=rv.get hx;obtain⟨f0,f1,f2,f3,f4,f5⟩:=U it (by simp);refine wpAny_pyNext_list_item st p.isList (x:=u) (by simpa using hu) λh' L sb=>?_;have I1:Inv X pins σ H { s with heap:=h' }:=I.turned (t':=s.toks) (λb o J e=>(sb.2 b J).trans e) f0 f1 f3 f4 f5;obtain⟨o,e,c,d⟩:=id L;exact⟨u,rfl,qJ (s:={ s with heap:=h' }) e c d (by decide) ⟨x,H,I1,ru,⟨rfl,λys hy=>by rw[I.qH hy Y];exact hx⟩,L,λb J=>(U b J).1⟩⟩
 done:=by
  intro X hP hw hK hc i pins s σ H E I U st hg;subst hP hw hK;obtain⟨xs,Y,hx⟩:=hg;obtain⟨aa,rv,p,hz⟩:=I.list Y;obtain⟨f0,f1,f2,f3,f4,f5⟩:=U it (by simp);have hl:=rv.length;exact wpAny_pyNext_list_end (I.ok.hd hc) st p.isList (by simp;omega) λh' eb=>⟨rfl,I.turned (t':=s.toks) (λb o J e=>eb b o J e) f0 f1 f3 f4 f5⟩
 self:=λ_ _ _ _ _ st h=>wpAny_pyIter_listiter st h
theorem FC {P:Program}{w:World}{K:W.Frag}{tg:Expr}(a it:Addr):Turn P w K tg (pE K a) [it] it (λi h=>h.IsTupleIter it a i) where
 mem:=by simp
 obj:=λi h st b J=>by
  have e:b=it:=by simpa using J
  subst e;obtain⟨o,e,c,d⟩:=st;exact⟨o,e,λv z=>by rw[d] at z;cases z⟩
 keep:=λi h h' st k=>st.at λo e=>k it (by simp) o e
 item:=by
  intro X hP hw hK hc i pins s σ H E I Y st hg;subst hP hw hK;obtain⟨xs,x,hq,hx⟩:=hg;obtain⟨L,rv,p,hz⟩:=I.tuple hq;obtain⟨u,hu,ru⟩:=rv.get hx;obtain⟨f0,f1,f2,f3,f4,f5⟩:=Y it (by simp);refine wpAny_pyNext_tuple_item st (show s.heap.IsTuple a L.toArray from p) (x:=u) (by simpa using hu) λh' U sb=>?_;have I1:Inv X pins σ H { s with heap:=h' }:=I.turned (t':=s.toks) (λb o J e=>(sb.2 b J).trans e) f0 f1 f3 f4 f5;obtain⟨o,e,c,d⟩:=id U;exact⟨u,rfl,qJ (s:={ s with heap:=h' }) e c d (by decide) ⟨x,H,I1,ru,⟨rfl,λys hy=>by rw[I.Fq hy hq];exact hx⟩,U,λb J=>(Y b J).1⟩⟩
 done:=by
  intro X hP hw hK hc i pins s σ H E I Y st hg;subst hP hw hK;obtain⟨xs,hq,hx⟩:=hg;obtain⟨L,rv,p,hz⟩:=I.tuple hq;obtain⟨f0,f1,f2,f3,f4,f5⟩:=Y it (by simp);have hl:=rv.length;exact wpAny_pyNext_tuple_end (I.ok.hd hc) st (show s.heap.IsTuple a L.toArray from p) (by simp;omega) λh' eb=>⟨rfl,I.turned (t':=s.toks) (λb o J e=>eb b o J e) f0 f1 f3 f4 f5⟩
 self:=λ_ _ _ _ _ st h=>wpAny_pyIter_tupleiter st h
theorem FD {P:Program}{w:World}{K:PySem.W.Frag}{tg:Expr}(it:Addr)(lo:Int)(n:Nat):Turn P w K tg (m4 lo n) [it] it (λi h=>IsRangeIter h it (lo+(i:Nat) * 1) ((n:Int) - (i:Nat)) 1) where
 mem:=by simp
 obj:=λi h st b J=>by
  have e:b=it:=by simpa using J
  subst e
  exact⟨_,st,λv z=>by
   have z':Data.fields _=Data.cell v:=z
   cases z'⟩
 keep:=λi h h' st k=>k it (by simp) _ st
 item:=by
  intro X Y hw hK hc i pins s σ H E I U st hg;subst Y hw hK;obtain⟨f0,f1,f2,f3,f4,f5⟩:=U it (by simp);have W:=Walks.range (prog:=X.prog) (w:=X.w) (I.ok.hd hc) it lo 1 n;refine W.item i s _ _ hg st λv h' tk hv L kk=>?_;obtain⟨t,rfl⟩:=hv;have I1:Inv X pins σ H { s with heap:=h',toks:=tk }:=I.turned (λb o J e=>kk b o (by simpa using J) e) f0 f1 f3 f4 f5;refine⟨_,rfl,qJ (s:={ s with heap:=h',toks:=tk }) (n:="range_iterator") L rfl rfl (by decide) ⟨.int (lo+i),H,I1,⟨t,?_⟩,⟨rfl,rfl⟩,L,λb J=>(U b J).1⟩⟩;rw[Int.mul_one]
 done:=by
  intro X Y hw hK hc i pins s σ H E I U st hg;subst Y hw hK;obtain⟨f0,f1,f2,f3,f4,f5⟩:=U it (by simp);exact wpAny_pyNext_range_end (I.ok.hd hc) st (by have:n<=i:=hg;omega) λh' eb=>⟨rfl,I.turned (t':=s.toks) (λb o J e=>eb b o J e) f0 f1 f3 f4 f5⟩
 self:=λ_ _ _ _ _ st h=>wpAny_pyIter_rangeiter st h
section
variable {X:Cx}{tg:Expr}
def FE (K:W.Frag) (tl:TE):TI:=λσ H R=>tl σ H λx H1=>∃a,x=.ref a/\(∃xs,eF K H1 a xs)/\R (pC K a) H1
def FF (K:W.Frag) (tl:TE):TI:=λσ H R=>tl σ H λx H1=>∃a,x=.ref a/\(∃xs,eu K H1 a xs)/\R (pE K a) H1
theorem mf {l:Expr}{tl:TE}(hl:PE X l tl):PI X tg l (FE X.K tl):=by
 intro pins s σ H R I h;refine eU (hl pins s σ H _ I h) λv z zq=>?_;obtain⟨x,H1,J,L,U⟩:=zq;obtain⟨a,e,⟨xs,Y⟩,q⟩:=U;subst e
 cases L;obtain⟨aa,rv,p,hz⟩:=J.list Y;refine wpAny_pyIter_list p.isList ?_;refine⟨z.heap.objs.size,[z.heap.objs.size],_,_,H1,rfl,J.kept (t':=z.toks) λb o e=>Q07 _ e,Fz a _,⟨_,Q0n _ rfl,rfl,rfl⟩,λb hb=>?_,q⟩;have e:b=z.heap.objs.size:=by simpa using hb
 subst e;exact J.me (Q00 _) (J.hok.fresh (Q00 _))
theorem iN {l:Expr}{tl:TE}(hl:PE X l tl):PI X tg l (FF X.K tl):=by
 intro pins s σ H R I h;refine eU (hl pins s σ H _ I h) λv z zq=>?_;obtain⟨x,H1,J,U,Y⟩:=zq;obtain⟨a,e,⟨xs,hq⟩,q⟩:=Y;subst e
 cases U;obtain⟨L,rv,p,hz⟩:=J.tuple hq;refine wpAny_pyIter_tuple (show z.heap.IsTuple a L.toArray from p) ?_;refine⟨z.heap.objs.size,[z.heap.objs.size],_,_,H1,rfl,J.kept (t':=z.toks) λb o e=>Q07 _ e,FC a _,⟨_,Q0n _ rfl,rfl,rfl⟩,λb hb=>?_,q⟩;have e:b=z.heap.objs.size:=by simpa using hb
 subst e;exact J.me (Q00 _) (J.hok.fresh (Q00 _))
theorem Ax {pins:List (Addr × Obj)}{σ:St}{H:Hp}{s:Shared}{R:It->Hp->Prop}{E:Value->Shared->Prop}{lo hi:Int}{t u v:Tok}{tk:Nat}(I:Inv X pins σ H s)(h1: -(2 ^ 62)<=lo)(h2:lo<2 ^ 62)(J: -(2 ^ 62)<=hi)(L:hi<2 ^ 62)
 (q:R (m4 lo (hi - lo).toNat) H):wpAny (model X.prog X.w) X.A (pyIter (.ref s.heap.objs.size)) (PIE X pins σ tg R) E { s with heap:=s.heap.push { cls:=.type "range",data:=.fields #[.int lo t,.int hi u,.int 1 v] },toks:=tk }:=by
 refine wpAny_pyIter_range (IsRange.new ..) (small_one h1 h2 J L) ?_;have z:Inv X pins σ H { s with heap:=s.heap.push { cls:=.type "range",data:=.fields #[.int lo t,.int hi u,.int 1 v] },toks:=tk }:=I.kept λb o e=>Q07 _ e
 refine⟨(s.heap.push { cls:=.type "range",data:=.fields #[.int lo t,.int hi u,.int 1 v] }).objs.size,[(s.heap.push { cls:=.type "range",data:=.fields #[.int lo t,.int hi u,.int 1 v] }).objs.size],_,_,H,rfl,
  z.kept (t':=tk) λb o e=>Q07 _ e,FD _ lo (hi - lo).toNat,?_,λb U=>?_,q⟩
 . have Y:lo+((0:Nat):Int) * 1=lo:=by simp
   have e2:(((hi - lo).toNat:Nat):Int) - ((0:Nat):Int)=Builtin.Range.rangeSize lo hi 1:=by rw[rangeSize_one];split <;> omega
   show IsRangeIter _ _ (lo+((0:Nat):Int) * 1) ((((hi - lo).toNat:Nat):Int) - ((0:Nat):Int)) 1;rw[Y,e2];exact Q0n _ rfl
 . have e:b=(s.heap.push { cls:=.type "range",data:=.fields #[.int lo t,.int hi u,.int 1 v] }).objs.size:=by simpa using U
   subst e;exact z.me (Q00 _) (z.hok.fresh (Q00 _))
def FG (ta:TA):TI:=λσ H R=>ta σ H λvs H1=>∃j:Int,vs=[.int j]/\ -(2 ^ 62)<=j/\j<2 ^ 62/\R (m4 0 j.toNat) H1
def FH (ta:TA):TI:=λσ H R=>ta σ H λvs H1=>∃i j:Int,vs=[.int i,.int j]/\(-(2 ^ 62)<=i/\i<2 ^ 62/\ -(2 ^ 62)<=j/\j<2 ^ 62)/\R (m4 i (j - i).toNat) H1
theorem m7 {a:Expr}{ta:TA}{p pos:Pos}(J:Gl X "range")(L:X.mg "range"=none)(U:PA X [a] ta)(Y:starEach [a] X.env=[(false,eval a X.env)]:=by rfl):PI X tg (.Call (.Name "range" p) [a] [] pos) (FG ta):=by
 intro pins s σ H R I h;refine Call_ (lu I J L boot_range (PyProof.Rows.callWith_type1 (eU (U pos pins s σ H _ I h) λus s1 zq=>?_) Y rfl));obtain⟨vs,H1,I1,r1,z⟩:=zq;obtain⟨j,e,z,q2,q⟩:=z;subst e
 cases r1 with
 |cons r rr=>
  cases rr;obtain⟨t,rfl⟩:=r;exact call_range_1 (Ax I1 (by omega) (by omega) z q2 (by simpa using q))
theorem FI {a b:Expr}{ta:TA}{p pos:Pos}(U:Gl X "range")(Y:X.mg "range"=none)(ha:PA X [a,b] ta)(hs:starEach [a,b] X.env=[(false,eval a X.env),(false,eval b X.env)]:=by rfl)(z:starEach [b] X.env=[(false,eval b X.env)]:=by rfl):
 PI X tg (.Call (.Name "range" p) [a,b] [] pos) (FH ta):=by
 intro pins s σ H R I h;refine Call_ (lu I U Y boot_range (PyProof.Rows.callWith_type1 (eU (ha pos pins s σ H _ I h) λus s1 zq=>?_) (by rw[hs,z]) (by rw[z];rfl)));obtain⟨vs,H1,I1,r1,J⟩:=zq;obtain⟨i,j,e,⟨J,q2,q3,q4⟩,q⟩:=J;subst e
 cases r1 with
 |cons r L=>
  cases L with
  |cons r' L=>
   cases L;obtain⟨t,rfl⟩:=r;obtain⟨t',rfl⟩:=r';exact call_range_2 (Ax I1 J q2 q3 q4 q)
def FJ (Y:TI) (g:TG) (tb:TS):TS:=λD σ H=>Y σ H λJ H1=>∃W:Nat->Nat->St->Hp->Prop,(∃m,W 0 m σ H1)/\∀i m σ H,W i m σ H->
 (J.stop i H/\D.nx σ H)\/(J.go i H/\∃N:St->Hp->Prop,(∀z H',N z H'->∃U,U<m/\W (i+1) U z H')/\∀x H',J.lx i H x H'->g x σ H' λL H2=>tb { D with nx:=N,ct:=N,bk:=D.nx } L H2)
noncomputable def qK (fp:List Addr) (h:Heap):List (Addr × Obj):=fp.filterMap λb=>(h.get? b).map λo=>(b,o)
theorem pF {fp:List Addr}{h:Heap}{b:Addr}{o:Obj}(z:b∈fp)(e:h.get? b=some o):(b,o)∈qK fp h:=List.mem_filterMap.mpr ⟨b,z,by rw[e];rfl⟩
theorem FL {fp:List Addr}{h:Heap}{p:Addr × Obj}(hp:p∈qK fp h):p.1∈fp/\h.get? p.1=some p.2:=by
 obtain⟨b,z,e⟩:=List.mem_filterMap.mp hp
 cases q:h.get? b with
 |none=>rw[q] at e;cases e
 |some o=>
  rw[q] at e;have J:(b,o)=p:=Option.some.inj e;subst J;exact⟨z,q⟩
theorem Inv.pinned {pins:List (Addr × Obj)}{σ:St}{H:Hp}{s:Shared}{fp:List Addr}(I:Inv X pins σ H s)(U:∀b∈fp,iU X pins H b)(Y:∀b∈fp,∃o,s.heap.get? b=some o/\∀v,o.data≠ .cell v):Inv X (pins++qK fp s.heap) σ H s:=
 I.mS λp hp=>(List.mem_append.mp hp).elim (λz=>I.pin p (Q06 _ z)) λz=>by
   obtain⟨J,e⟩:=FL z;obtain⟨f0,f1,f2,_⟩:=U p.1 J;obtain⟨o,L,d⟩:=Y p.1 J;rw[e] at L;cases L;exact⟨e,f0,f1,f2,d⟩
theorem Inv.ly {pins pl:List (Addr × Obj)}{σ:St}{H:Hp}{s:Shared}(I:Inv X (pins++pl) σ H s):Inv X pins σ H s:=I.mS λp hp=>I.pin p (Q06 _ (Q0q _ hp))
theorem ic {iter:Expr}{body:List Stmt}{wi:TI}{g:TG}{tb:TS}{pos:Pos}(hp:PassesOwn (model X.prog X.w) X.A X.env X.xe)(hc:X.calm=true)(hi:PI X tg iter wi)(hg:PG X tg g)(L:je X body tb)
 (hs:∀x,foldedSetIterable iter X.env x=pure x:=by intro _;rfl):PS X (.For tg iter body [] pos) (FJ wi g tb):=by
 intro pins s σ H D I h;refine wpAny_For (eU (hi pins s σ H _ I h) λv s1 h1=>eU h1 λal s2 h2=>?_) hs;obtain⟨it,fp,tn,J,H2,e,I2,T,ah,f2,W,⟨m0,w0⟩,turn⟩:=h2;subst e;have ac:∀{H':Hp},(∀b∈fp,H' b=none)->∀b∈fp,iU X pins H' b:=λhn b L=>⟨hn b L,(f2 b L).2⟩;refine codeAny_forLoop_any (λn s'=>∃i aa H',Inv X pins aa H' s'/\tn i s'.heap/\(∀b∈fp,H' b=none)/\W i n aa H') ?_ m0 ⟨0,σ,H2,I2,ah,λb L=>(f2 b L).1,w0⟩;rintro n s3 ⟨i,ab,H3,I3,af,ag,w3⟩;rcases turn i n ab H3 w3 with⟨stop,qn⟩|⟨go,N,hN,step⟩
 . refine wpAny_passesOwn hp (eU (T.done X rfl rfl rfl hc i pins s3 ab H3 X.xe I3 (ac ag) af stop) λr s4 ⟨hr,I4⟩=>?_);subst hr;exact wpAny_execs_nil ⟨ab,H3,I4,qn⟩
 . refine wpAny_passesOwn hp (eU (T.item X rfl rfl rfl hc i pins s3 ab H3 X.xe I3 (ac ag) af go) λr s4 ⟨u,hr,h4⟩=>?_);subst hr;refine wpAny_passesOwn hp (eU h4 λ_ s5 zq=>?_);obtain⟨x,H5,I5,r5,y5,ae,ai⟩:=zq;have aj:=I5.pinned (ac ai) (T.obj _ _ ae);refine wpAny_passesOwn hp (eU (hg _ s5 ab H5 x u _ aj r5 (step x H5 y5)) λ_ s6 zq=>?_);obtain⟨ak,H6,I6,q6⟩:=zq;refine wpAny_passesOwn hp (eU (L _ s6 ak H6 _ I6 q6) λf s7 q7=>?_)
   have again:∀{z:St} {U:Hp},Inv X (pins++qK fp s5.heap) z U s7->N z U->∃m,m<n/\∃i aa H',Inv X pins aa H' s7/\tn i s7.heap/\(∀b∈fp,H' b=none)/\W i m aa H':=λ{z U} Y n7=>by
    obtain⟨m',hm,w7⟩:=hN z U n7;refine⟨m',hm,i+1,z,U,Y.ly,T.keep _ _ _ ae λb L o e=>(Y.pin (b,o) (Q06 _ (Q06 _ (pF L e)))).1,λb L=>?_,w7⟩;obtain⟨o,e,d⟩:=T.obj _ _ ae b L;exact(Y.pin (b,o) (Q06 _ (Q06 _ (pF L e)))).2.1
   cases f with
   |next=>obtain⟨z,U,Y,n7⟩:=q7;exact again Y n7
   |cont=>obtain⟨z,U,Y,n7⟩:=q7;exact again Y n7
   |brk=>obtain⟨z,U,Y,q7⟩:=q7;exact⟨z,U,Y.ly,q7⟩
   |ret v=>obtain⟨x7,z,U,Y,r7,q7⟩:=q7;exact⟨x7,z,U,Y.ly,r7,q7⟩
end
theorem n_ {K:PySem.W.Frag}{a:Addr}{xs:List V}{g:TG}{tb:TS}{D:Ends}{σ:St}{H:Hp}(Pv:Nat->St->Hp->Prop)(Y:Pv 0 σ H)(hl:∀i σ H,i<=xs.length->Pv i σ H->eF K H a xs)
 (hs:∀i x σ H,xs[i]? =some x->Pv i σ H->g x σ H λz H2=>tb { D with nx:=Pv (i+1),ct:=Pv (i+1),bk:=D.nx } z H2) (hd:∀σ H,Pv xs.length σ H->D.nx σ H):
 ∃W:Nat->Nat->St->Hp->Prop,(∃m,W 0 m σ H)/\∀i m σ H,W i m σ H->
  ((pC K a).stop i H/\D.nx σ H)\/((pC K a).go i H/\∃N:St->Hp->Prop,(∀J H',N J H'->∃U,U<m/\W (i+1) U J H')/\∀x H',(pC K a).lx i H x H'->g x σ H' λz H2=>tb { D with nx:=N,ct:=N,bk:=D.nx } z H2):=by
 refine⟨λi m σ H=>m=xs.length - i/\i<=xs.length/\Pv i σ H,⟨xs.length,by simp,Q0b _,Y⟩,?_⟩;rintro i m σ H ⟨rfl,hi,p⟩;have q:=hl i σ H hi p;by_cases L:i<xs.length
 . refine .inr ⟨⟨xs,xs[i],q,by simp[L]⟩,Pv (i+1),λJ H' p'=>⟨xs.length - (i+1),by omega,rfl,L,p'⟩,λx H' y=>?_⟩;obtain⟨e,y⟩:=y;subst e;exact hs i x σ _ (y xs q) p
 . have e:i=xs.length:=by omega
   subst e;exact .inl ⟨⟨xs,q,Q00 _⟩,hd σ H p⟩
theorem mh {K:PySem.W.Frag}{a:Addr}{xs:List V}{g:TG}{tb:TS}{D:Ends}{σ:St}{H:Hp}(Pv:Nat->St->Hp->Prop)(Y:Pv 0 σ H)(hl:∀i σ H,i<=xs.length->Pv i σ H->eu K H a xs)
 (hs:∀i x σ H,xs[i]? =some x->Pv i σ H->g x σ H λz H2=>tb { D with nx:=Pv (i+1),ct:=Pv (i+1),bk:=D.nx } z H2) (hd:∀σ H,Pv xs.length σ H->D.nx σ H):
 ∃W:Nat->Nat->St->Hp->Prop,(∃m,W 0 m σ H)/\∀i m σ H,W i m σ H->
  ((pE K a).stop i H/\D.nx σ H)\/((pE K a).go i H/\∃N:St->Hp->Prop,(∀J H',N J H'->∃U,U<m/\W (i+1) U J H')/\∀x H',(pE K a).lx i H x H'->g x σ H' λz H2=>tb { D with nx:=N,ct:=N,bk:=D.nx } z H2):=by
 refine⟨λi m σ H=>m=xs.length - i/\i<=xs.length/\Pv i σ H,⟨xs.length,by simp,Q0b _,Y⟩,?_⟩;rintro i m σ H ⟨rfl,hi,p⟩;have q:=hl i σ H hi p;by_cases L:i<xs.length
 . refine .inr ⟨⟨xs,xs[i],q,by simp[L]⟩,Pv (i+1),λJ H' p'=>⟨xs.length - (i+1),by omega,rfl,L,p'⟩,λx H' y=>?_⟩;obtain⟨e,y⟩:=y;subst e;exact hs i x σ _ (y xs q) p
 . have e:i=xs.length:=by omega
   subst e;exact .inl ⟨⟨xs,q,Q00 _⟩,hd σ H p⟩
theorem mi {lo:Int}{n:Nat}{g:TG}{tb:TS}{D:Ends}{σ:St}{H:Hp}(Pv:Nat->St->Hp->Prop)(Y:Pv 0 σ H)
 (hs:∀i σ H,i<n->Pv i σ H->g (.int (lo+i)) σ H λz H2=>tb { D with nx:=Pv (i+1),ct:=Pv (i+1),bk:=D.nx } z H2) (hd:∀σ H,Pv n σ H->D.nx σ H):
 ∃W:Nat->Nat->St->Hp->Prop,(∃m,W 0 m σ H)/\∀i m σ H,W i m σ H->
  ((m4 lo n).stop i H/\D.nx σ H)\/((m4 lo n).go i H/\∃N:St->Hp->Prop,(∀J H',N J H'->∃U,U<m/\W (i+1) U J H')/\∀x H',(m4 lo n).lx i H x H'->g x σ H' λz H2=>tb { D with nx:=N,ct:=N,bk:=D.nx } z H2):=by
 refine⟨λi m σ H=>m=n - i/\i<=n/\Pv i σ H,⟨n,by simp,Q0b _,Y⟩,?_⟩;rintro i m σ H ⟨rfl,hi,p⟩;by_cases L:i<n
 . refine .inr ⟨L,Pv (i+1),λJ H' p'=>⟨n - (i+1),by omega,rfl,L,p'⟩,λx H' y=>?_⟩;obtain⟨e,y⟩:=y;subst e y;exact hs i σ _ L p
 . have e:i=n:=by omega
   subst e;exact .inl ⟨Q00 _,hd σ H p⟩
noncomputable abbrev R2:=V->V->Hp->VK->Prop
def ij (X:Cx) (f:Value->Value->Sem Value) (r:R2):Prop:=
 ∀(pins:List (Addr × Obj)) (s:Shared) (σ:St) (H:Hp) (x y:V) (v u:Value) (Q:VK),Inv X pins σ H s->RelV x v->RelV y u->r x y H Q->
  wpAny (model X.prog X.w) X.A (f v u) (EP X pins σ Q) X.xe s
def jB (X:Cx) (f:Value) (r:List V->Hp->VK->Prop):Prop:=
 ∀(pins:List (Addr × Obj)) (s:Shared) (σ:St) (H:Hp) (xs:List V) (us:List Value) (Q:VK),Inv X pins σ H s->Vals xs us->r xs H Q->
  wpAny (model X.prog X.w) X.A (call f us) (EP X pins σ Q) X.xe s
def f_ (r:R2) (ta tb:TE):TE:=λσ H Q=>ta σ H λx H1=>tb σ H1 λy H2=>r x y H2 Q
def rI (C:Int->Int->Prop) (g:Int->Int->V):R2:=λx y H Q=>∃i j,x=.int i/\y=.int j/\C i j/\Q (g i j) H
def m8 (g:Int->Int->V):R2:=λx y H Q=>∃i j,x=.int i/\y=.int j/\Q (g i j) H
section
variable {X:Cx}{a b c:Expr}{ta tb tc:TE}{pos:Pos}
theorem tE (U:PE X a ta)(Y:PE X b tb){pins:List (Addr × Obj)}{s:Shared}{σ:St}{H:Hp}{R:V->V->Hp->Prop}(I:Inv X pins σ H s)
 (h:ta σ H λx H1=>tb σ H1 λy H2=>R x y H2) {Q:Value->Shared->Prop} {f:Value->Value->Sem Value}
 (hf:∀v u L x y H2,Inv X pins σ H2 L->RelV x v->RelV y u->R x y H2->wpAny (model X.prog X.w) X.A (f v u) Q X.xe L):
 wpAny (model X.prog X.w) X.A (eval a X.env) (λv z=>wpAny (model X.prog X.w) X.A (eval b X.env) (λu J=>wpAny (model X.prog X.w) X.A (f v u) Q X.xe J) X.xe z) X.xe s:=by
 refine eU (U pins s σ H _ I h) λv s1 zq=>?_;obtain⟨x,H1,I1,r1,q1⟩:=zq;refine eU (Y pins s1 σ H1 _ I1 q1) λu L zq=>?_;obtain⟨y,H2,I2,r2,q2⟩:=zq;exact hf v u L x y H2 I2 r1 r2 q2
theorem eN {op:Operator}{r:R2}(z:ij X (binaryOp op) r)(J:PE X a ta)(L:PE X b tb):PE X (.BinOp a op b pos) (f_ r ta tb):=by
 intro pins s σ H Q I h;exact wpAny_BinOp (tE J L I h λv u U x y H2 Y rx ry q=>z pins U σ H2 x y v u Q Y rx ry q)
theorem qL {f:Value->Value->Sem Value}{C:Int->Int->Prop}{g:Int->Int->Int}
 (rule:∀(i j:Int) (t u:Tok) (s:Shared) (Q:Value->Shared->Prop) (E:Value->Shared->Prop),C i j->Q (.int (g i j) s.toks) { s with toks:=s.toks+1 }->wpAny (model X.prog X.w) X.A (f (.int i t) (.int j u)) Q E s):
 ij X f (rI C λi j=>.int (g i j)):=by
 intro pins s σ H x y v u Q I z J h;obtain⟨i,j,rfl,rfl,hc,q⟩:=h;obtain⟨t,rfl⟩:=z;obtain⟨t',rfl⟩:=J;exact rule i j t t' s _ _ hc ⟨.int (g i j),H,I.tok _,⟨_,rfl⟩,q⟩
theorem Ay {f:Value->Value->Sem Value}{g:Int->Int->Int}
 (rule:∀(i j:Int) (t u:Tok) (s:Shared) (Q:Value->Shared->Prop) (E:Value->Shared->Prop),Q (.int (g i j) s.toks) { s with toks:=s.toks+1 }->wpAny (model X.prog X.w) X.A (f (.int i t) (.int j u)) Q E s):
 ij X f (m8 λi j=>.int (g i j)):=by
 intro pins s σ H x y v u Q I z J h;obtain⟨i,j,rfl,rfl,q⟩:=h;obtain⟨t,rfl⟩:=z;obtain⟨t',rfl⟩:=J;exact rule i j t t' s _ _ ⟨.int (g i j),H,I.tok _,⟨_,rfl⟩,q⟩
theorem tF {f:Value->Value->Sem Value}{g:Int->Int->Bool}
 (rule:∀(i j:Int) (t u:Tok) (s:Shared) (Q:Value->Shared->Prop) (E:Value->Shared->Prop),Q (.bool (g i j)) s->wpAny (model X.prog X.w) X.A (f (.int i t) (.int j u)) Q E s):
 ij X f (m8 λi j=>.bl (g i j)):=by
 intro pins s σ H x y v u Q I z J h;obtain⟨i,j,rfl,rfl,q⟩:=h;obtain⟨t,rfl⟩:=z;obtain⟨t',rfl⟩:=J;exact rule i j t t' s _ _ ⟨.bl (g i j),H,I,rfl,q⟩
def FN (i j:Int):Prop:=0<j/\j<1073741824
def tG (i j:Int):Prop:=0<=j/\j<=1000000/\i.natAbs<2 ^ 64
def tH (i j:Int):Prop:=(-(2 ^ 64)<i/\i<2 ^ 64)\/(-(2 ^ 64)<j/\j<2 ^ 64)
theorem tH.ok {i j:Int}(h:tH i j):IntMulOk i j:=by
 rcases h with⟨h1,h2⟩|⟨h1,h2⟩
 . exact .of_left (intBits_le_64 h1 h2)
 . exact .of_right (intBits_le_64 h1 h2)
theorem jf:ij X (binaryOp .Add) (m8 λi j=>.int (i+j)):=Ay λ_ _ _ _ _ _ _ q=>add_int q
theorem kN:ij X (binaryOp .Sub) (m8 λi j=>.int (i - j)):=Ay λ_ _ _ _ _ _ _ q=>sub_int q
theorem lz:ij X (binaryOp .Mult) (rI tH λi j=>.int (i * j)):=qL λ_ _ _ _ _ _ _ hc q=>mul_int q hc.ok
theorem iC:ij X (binaryOp .FloorDiv) (rI FN λi j=>.int (i / j)):=qL λi j _ _ _ _ _ hc q=>by
 have h1:(0:Int)<j:=hc.1;have h2:j<1073741824:=hc.2;exact floordiv_int (by omega) (by rw[Int.fdiv_eq_ediv_of_nonneg i (by omega)];exact q) (.inl (PyProof.noPylong_small (by omega)))
theorem gg:ij X (binaryOp .Mod) (rI (λ_ j=>0<j) λi j=>.int (i % j)):=qL λi j _ _ _ _ _ hc q=>by
 have h1:(0:Int)<j:=hc;exact mod_int' (by omega) (by rw[Int.fmod_eq_emod_of_nonneg i (by omega)];exact q)
theorem qM:ij X (binaryOp .Pow) (rI tG λi j=>.int (i ^ j.toNat)):=qL λ_ _ _ _ _ _ _ hc q=>pow_int_small hc.1 hc.2.1 hc.2.2 q
end
noncomputable def Az:V->V->Bool
 | .non,.non=>true| .non,.int _=>true| .int _,.non=>true| .non,.bl _=>true| .bl _,.non=>true| .non,.str _=>true| .str _,.non=>true
 | .int _,.int _=>true| .bl _,.bl _=>true| .str _,.str _=>true| .jW _,.jW _=>true
 | .int _,.str _=>true| .str _,.int _=>true| .bl _,.str _=>true| .str _,.bl _=>true
 |_,_=>false
def mj:R2:=λx y H Q=>Az x y=true/\Q (.bl (decide (x=y))) H
def FO:R2:=λx y H Q=>Az x y=true/\Q (.bl (!decide (x=y))) H
theorem AB {i j:Int}:decide (V.int i=V.int j)=(i == j):=by
 rw[Bool.eq_iff_iff];simp
theorem AD {i j:Bool}:decide (V.bl i=V.bl j)=(i == j):=by
 rw[Bool.eq_iff_iff];simp
theorem AE {i j:Str}:decide (V.str i=V.str j)=(i == j):=by
 rw[Bool.eq_iff_iff];simp
theorem AG {i j:Array UInt8}:decide (V.jW i=V.jW j)=(i.toList == j.toList):=by
 rw[Bool.eq_iff_iff]
 cases i
 cases j;simp
section
variable {X:Cx}{a b c:Expr}{ta tb tc:TE}{pos:Pos}
theorem gN {pins:List (Addr × Obj)}{σ:St}{H:Hp}{s:Shared}{Q:VK}{k z:Bool}(I:Inv X pins σ H s)(q:Q (.bl k) H)(e:k=z):EP X pins σ Q (.bool z) s:=by
 subst e;exact⟨.bl k,H,I,rfl,q⟩
theorem fw:ij X (compareOp .Eq) mj:=by
 intro pins s σ H x y v u Q I L z h;obtain⟨J,q⟩:=h
 cases x with
 |non=>
  cases L
  cases y with
  |non=>cases z;exact PySem.EqNone.eq_none_none (gN I q (by simp))
  |bl j=>cases z;exact PySem.EqNone.eq_none_bool (gN I q (by simp))
  |int j=>obtain⟨t',rfl⟩:=z;exact PySem.EqNone.eq_none_int (gN I q (by simp))
  |str j=>obtain⟨t',rfl⟩:=z;exact PySem.EqNone.eq_none_str (gN I q (by simp))
  |_=>exact absurd (show false=true from J) Bool.false_ne_true
 |bl i=>
  cases L
  cases y with
  |non=>cases z;exact PySem.EqNone.eq_bool_none (gN I q (by simp))
  |bl j=>cases z;exact eq_bool (gN I q AD)
  |str j=>obtain⟨t',rfl⟩:=z;exact PySem.EqMixed.eq_bool_str (gN I q (by simp))
  |_=>exact absurd (show false=true from J) Bool.false_ne_true
 |int i=>
  obtain⟨t,rfl⟩:=L
  cases y with
  |non=>cases z;exact PySem.EqNone.eq_int_none (gN I q (by simp))
  |int j=>obtain⟨t',rfl⟩:=z;exact eq_int (gN I q AB)
  |str j=>obtain⟨t',rfl⟩:=z;exact PySem.EqMixed.eq_int_str (gN I q (by simp))
  |_=>exact absurd (show false=true from J) Bool.false_ne_true
 |str i=>
  obtain⟨t,rfl⟩:=L
  cases y with
  |non=>cases z;exact PySem.EqNone.eq_str_none (gN I q (by simp))
  |bl j=>cases z;exact PySem.EqMixed.eq_str_bool (gN I q (by simp))
  |int j=>obtain⟨t',rfl⟩:=z;exact PySem.EqMixed.eq_str_int (gN I q (by simp))
  |str j=>obtain⟨t',rfl⟩:=z;exact eq_str (gN I q AE)
  |_=>exact absurd (show false=true from J) Bool.false_ne_true
 |jW i=>
  obtain⟨t,rfl⟩:=L
  cases y with
  |jW j=>obtain⟨t',rfl⟩:=z;exact W.eq_bytes (gN I q AG)
  |_=>exact absurd (show false=true from J) Bool.false_ne_true
 |_=>cases y <;> exact absurd (show false=true from J) Bool.false_ne_true
theorem gZ:ij X (compareOp .NotEq) FO:=by
 intro pins s σ H x y v u Q I L z h;obtain⟨J,q⟩:=h
 cases x with
 |non=>
  cases L
  cases y with
  |non=>cases z;exact PySem.EqNone.ne_none_none (gN I q (by simp))
  |bl j=>cases z;exact PySem.EqNone.ne_none_bool (gN I q (by simp))
  |int j=>obtain⟨t',rfl⟩:=z;exact PySem.EqNone.ne_none_int (gN I q (by simp))
  |str j=>obtain⟨t',rfl⟩:=z;exact PySem.EqNone.ne_none_str (gN I q (by simp))
  |_=>exact absurd (show false=true from J) Bool.false_ne_true
 |bl i=>
  cases L
  cases y with
  |non=>cases z;exact PySem.EqNone.ne_bool_none (gN I q (by simp))
  |bl j=>cases z;exact ne_bool (gN I q (congrArg not AD))
  |str j=>obtain⟨t',rfl⟩:=z;exact PySem.EqMixed.ne_bool_str (gN I q (by simp))
  |_=>exact absurd (show false=true from J) Bool.false_ne_true
 |int i=>
  obtain⟨t,rfl⟩:=L
  cases y with
  |non=>cases z;exact PySem.EqNone.ne_int_none (gN I q (by simp))
  |int j=>obtain⟨t',rfl⟩:=z;exact ne_int (gN I q (congrArg not AB))
  |str j=>obtain⟨t',rfl⟩:=z;exact PySem.EqMixed.ne_int_str (gN I q (by simp))
  |_=>exact absurd (show false=true from J) Bool.false_ne_true
 |str i=>
  obtain⟨t,rfl⟩:=L
  cases y with
  |non=>cases z;exact PySem.EqNone.ne_str_none (gN I q (by simp))
  |bl j=>cases z;exact PySem.EqMixed.ne_str_bool (gN I q (by simp))
  |int j=>obtain⟨t',rfl⟩:=z;exact PySem.EqMixed.ne_str_int (gN I q (by simp))
  |str j=>obtain⟨t',rfl⟩:=z;exact ne_str (gN I q (congrArg not AE))
  |_=>exact absurd (show false=true from J) Bool.false_ne_true
 |jW i=>
  obtain⟨t,rfl⟩:=L
  cases y with
  |jW j=>obtain⟨t',rfl⟩:=z;exact W.ne_bytes (gN I q (congrArg not AG))
  |_=>exact absurd (show false=true from J) Bool.false_ne_true
 |_=>cases y <;> exact absurd (show false=true from J) Bool.false_ne_true
theorem qN:ij X (compareOp .Lt) (m8 λi j=>.bl (decide (i<j))):=tF λ_ _ _ _ _ _ _ q=>lt_int q
theorem AH:ij X (compareOp .LtE) (m8 λi j=>.bl (decide (i<=j))):=tF λ_ _ _ _ _ _ _ q=>le_int q
theorem og:ij X (compareOp .Gt) (m8 λi j=>.bl (decide (j<i))):=tF λ_ _ _ _ _ _ _ q=>gt_int q
theorem qO:ij X (compareOp .Is) (λx y H Q=>y=.non/\Q (.bl (decide (x=.non))) H):=by
 intro pins s σ H x y v u Q I z J h;obtain⟨rfl,q⟩:=h
 cases J;refine is_none_gen (gN I q ?_)
 cases x <;> first
  |(cases z;rfl)
  |(obtain⟨t,rfl⟩:=z;rfl)
theorem ju:ij X (compareOp .IsNot) (λx y H Q=>y=.non/\Q (.bl (!decide (x=.non))) H):=by
 intro pins s σ H x y v u Q I z J h;obtain⟨rfl,q⟩:=h
 cases J;refine isnot_none_gen (gN I q ?_)
 cases x <;> first
  |(cases z;rfl)
  |(obtain⟨t,rfl⟩:=z;rfl)
theorem eO (b:Expr){op:CmpOp}(h:op≠ .In:=by decide)(h2:op≠ .NotIn:=by decide):behindInMarks op b=false:=by
 have z:(op == CmpOp.In)=false:=by cases op <;> first|rfl|exact absurd rfl h
 have J:(op == CmpOp.NotIn)=false:=by cases op <;> first|rfl|exact absurd rfl h2
 cases b <;> simp[behindInMarks,z,J]
theorem iH {op:CmpOp}{r:R2}(z:ij X (compareOp op) r)(J:PE X a ta)(L:PE X b tb)(U:behindInMarks op b=false):PE X (.Compare a [op] [b] pos) (f_ r ta tb):=by
 intro pins s σ H Q I h;exact wpAny_Compare1 (tE J L I h λv u Y x y H2 I2 rx ry q=>z pins Y σ H2 x y v u Q I2 rx ry q) U
def jC (t:TE):TT:=λσ H Q=>t σ H λx H'=>∃k,x=.bl k/\Q k H'
theorem eS {op:CmpOp}{r:R2}(J:ij X (compareOp op) r)(L:PE X a ta)(U:PE X b tb)(Y:behindInMarks op b=false):PT X (.Compare a [op] [b] pos) (jC (f_ r ta tb)):=by
 intro pins s σ H Q I h
 refine wpAny_isTrue_Compare1 (eU (L pins s σ H _ I h) λv s1 ⟨x,H1,I1,r1,q1⟩=>eU (U pins s1 σ H1 _ I1 q1) λu s2 ⟨y,H2,I2,r2,q2⟩=>
  eU (J pins s2 σ H2 x y v u _ I2 r1 r2 q2) λc s3 ⟨z,H3,I3,r3,k,e,q3⟩=>?_) Y
 subst e
 cases r3;exact wpAny_truthy_bool ⟨H3,I3,q3⟩
theorem oh:(sizeLine:Nat)<2 ^ 63:=by rw[sizeLine_eq];decide
theorem ml:ij X (binaryOp .Add) (λx y H Q=>∃i j,x=.str i/\y=.str j/\i.length+j.length<=sizeLine/\Q (.str (i++j)) H):=by
 intro pins s σ H x y v u Q I z J h;obtain⟨i,j,rfl,rfl,L,q⟩:=h;obtain⟨t,rfl⟩:=z;obtain⟨t',rfl⟩:=J;exact add_str (λt' tk=>⟨.str (i++j),H,I.tok _,⟨_,rfl⟩,q⟩) L
theorem vals1 {x:V}{us:List Value}(r:Vals [x] us):∃u,us=[u]/\RelV x u:=by
 cases r with
 |cons z J=>cases J;exact⟨_,rfl,z⟩
theorem vals2 {x y:V}{us:List Value}(r:Vals [x,y] us):∃u z,us=[u,z]/\RelV x u/\RelV y z:=by
 cases r with
 |cons J L=>
  cases L with
  |cons U Y=>cases Y;exact⟨_,_,rfl,J,U⟩
end
structure m9 (h:Heap) (x dx C:Addr) (mA:Str->Option Value):Prop where
 obj:h.get? x=some (W.instObj C dx)
 ns:h.Ns1 dx mA
 ne:dx≠x
theorem FP {h:Heap}{dx:Addr}{mA:Str->Option Value}(n:h.Ns1 dx mA):∃L,h.get? dx=some L/\∀name,W.lookIn name L=some (mA name):=by
 obtain⟨o,es,ep,U,Y,hk,_,hm⟩:=n;refine⟨o,U,λname=>?_⟩;have e:=hm name;unfold nsFind findBy at e;rw[<-Q2v] at e;unfold W.lookIn;rw[Y];dsimp only;split
 . rename_i y q;rw[q] at e;exact congrArg some e
 . rename_i q;rw[q] at e
   have a:es.toList.any (·.refKey)=false:=by
    rw[List.any_eq_false];intro y hy;obtain⟨z,t,J⟩:=hk y (Array.mem_toList_iff.mp hy);simp[DictEntry.refKey,J]
   have a':¬es.toList.any (·.refKey)=true:=by rw[a];exact Bool.false_ne_true
   rw[if_neg a'];exact congrArg some e
theorem m9.look {h:Heap}{x dx C:Addr}{mA:Str->Option Value}(I:m9 h x dx C mA):∃z,W.InstAt h x (W.instObj C dx) C (some z)/\∀name,W.lookIn name z=some (mA name):=
 let⟨z,J,hl⟩:=FP I.ns
 ⟨z,⟨I.obj,rfl,rfl,J⟩,hl⟩
section
variable {prog:Program}{w:World}{A:Around}{E:Value->Shared->Prop}{s:Shared}{K:W.Frag}{x dx C f:Addr}{mA:Str->Option Value}{name:Str}{v:Value}
theorem get_map {z:Bool}{Q:Value->Shared->Prop}(X:K.In s.heap)(I:m9 s.heap x dx C mA)(U:W.plainGet K C name=true)(Y:W.hasDictIn K C=true)
 (ha:W.findIn K (.ref C) name=some none) (hv:mA name=some v) (L:W.handedIn v=true) (h:Q v { s with toks:=s.toks+1 }):
 wpAny (model prog w) A (getAttr (.ref x) name z) Q E s:=by
 obtain⟨od,J,hl⟩:=I.look;exact W.get_value X J (W.plainGet_of U).1 (W.findObj_own Y ha rfl (by rw[hl,hv])) L h
theorem FQ {pl:Sem Bool}{Q:Value × List Value->Shared->Prop}(X:K.In s.heap)(I:m9 s.heap x dx C mA)(z:W.plainGet K C name=true)
 (L:W.findIn K (.ref C) name=some (some (.ref f))) (ht:W.isFn K (.ref f)=true) (U:mA name=none) (h:Q (.ref f,[.ref x]) s):
 wpAny (model prog w) A (getMethod (.ref x) name pl) Q E s:=by
 obtain⟨Y,J,hl⟩:=I.look;exact W.method_fn X J (W.plainGet_of z).1 (W.plainGet_of z).2 L (beq_iff_eq.mp ht) (by show(W.lookIn name Y).map (·.isSome)=some false;rw[hl,U];rfl) h
theorem FT {ns:List Str}{Q:Unit->Shared->Prop}(X:K.In s.heap)(I:m9 s.heap x dx C mA)
 (hs:W.findIn K (.ref C) "__setattr__"=some (some (.builtin "object.__setattr__"))) (hp:W.plainOver K C=true) (ht:W.takerIn K C name=some none) (hh:W.hasDictIn K C=true)
 (hw:PySem.Within mA ns) (hsz:ns.length<=sizeLine)
 (h:∀h',m9 h' x dx C (λy=>if y=name then some v else mA y)->Heap.SameBut dx s.heap h'->Q () { s with heap:=h',toks:=s.toks+2 }):
 wpAny (model prog w) A (setAttr (.ref x) name v) Q E s:=by
 obtain⟨od,J,hl⟩:=I.look;refine W.set_plain X J hs (W.osa_open (s:={ s with toks:=s.toks+1 }) (r:=none) X J hp ht λb=>?_);obtain⟨cd,hc,U⟩:=W.any_some hh;have hx:s.heap.get? x=some ⟨.ref C,some dx,.plain,#[]⟩:=I.obj;refine Q0 (Q0a (Q0 (Q0 (wpAny_loadPart hx (Q0 (W.Looks.here (s:={ s with toks:=s.toks+1 }) (W.looks_clsIn X hc) ?_))))));rw[U];refine Q0a (a:=some dx) (Q0 (Q0a (Q0 ?_)));refine wpAny_nsSet1 (s:={ s with toks:=s.toks+1 }) I.ns λh' z L=>?_;obtain⟨oD,ac,ae,Y,aa,ab⟩:=z.count (PySem.Within.cons name v hw);refine Q0 (wpAny_lookBehind Y (by rw[aa];exact pastItsLine_dict (Q05 ab (by rw[Q0j];omega))) ?_);exact Q0a (h _ ⟨(L.2 _ (Ne.symm I.ne)).trans I.obj,z,I.ne⟩ L)
theorem FU {R:Result->Shared->Prop}{vs:List Value}{z:List (Str × Value)}(X:K.In s.heap)(J:W.makesIn K C=true)
 (hi:W.findIn K (.ref C) "__init__"=some (some (.ref f))) (L:W.typeIn K (.ref f)=some (.type "function"))
 (h:codeAny (model prog w) (A.under (.builtin "type.__call__" ⟨.ref C::vs,z⟩)) (.call (.ref f) ⟨.ref (s.heap.objs.size+1)::vs,z⟩) (W.InitBack (s.heap.objs.size+1) R)
   { s with heap:=(s.heap.push W.emptyDict).push (W.instObj C s.heap.objs.size) }):
 codeAny (model prog w) A (.call (.ref C) ⟨vs,z⟩) R s:=by
 obtain⟨U,g,d,t,os⟩:=s;exact W.make_core (W.makes_of X J) (W.looks_findIn X hi) (λself=>W.bind_fn X self L) (.inl rfl) h
end
noncomputable def jg (f:Str) (v:V):List (Str × V)->List (Str × V)
 |[]=>[(f,v)]
 |(g,x)::r=>if g=f then(g,v)::r else(g,x)::jg f v r
theorem AI (f g:Str)(v:V):∀fs:List (Str × V),(jg f v fs).lookup g=if g=f then some v else fs.lookup g
 |[]=>by
  show List.lookup g [(f,v)]=_;by_cases h:g=f
  . have z:(g == f)=true:=beq_iff_eq.mpr h;simp only[List.lookup,z,if_pos h]
  . have z:(g == f)=false:=beq_eq_false_iff_ne.mpr h;simp only[List.lookup,z,if_neg h]
 |(k,x)::r=>by
  have J:=AI f g v r;rw[show jg f v ((k,x)::r)=(if k=f then(k,v)::r else(k,x)::jg f v r) from rfl];by_cases hk:k=f
  . rw[if_pos hk];by_cases h:g=k
    . have z:(g == k)=true:=beq_iff_eq.mpr h;simp only[List.lookup,z,if_pos (h.trans hk)]
    . have z:(g == k)=false:=beq_eq_false_iff_ne.mpr h;simp only[List.lookup,z,if_neg (λe:g=f=>h (e.trans hk.symm))]
  . rw[if_neg hk];by_cases h:g=k
    . have z:(g == k)=true:=beq_iff_eq.mpr h;simp only[List.lookup,z,if_neg (λe:g=f=>hk (h.symm.trans e))]
    . have z:(g == k)=false:=beq_eq_false_iff_ne.mpr h;simp only[List.lookup,z];exact J
theorem tJ (f:Str)(v:V):∀fs:List (Str × V),f∈(jg f v fs).map (·.1)/\∀g,g∈fs.map (·.1)->g∈(jg f v fs).map (·.1)
 |[]=>⟨by simp[jg],λg h=>by simp at h⟩
 |(k,x)::r=>by
  obtain⟨z,J⟩:=tJ f v r;rw[show jg f v ((k,x)::r)=(if k=f then(k,v)::r else(k,x)::jg f v r) from rfl];by_cases hk:k=f
  . rw[if_pos hk];subst hk;exact⟨by simp,λg h=>by simpa using h⟩
  . rw[if_neg hk];refine⟨?_,λg h=>?_⟩
    . rw[Q0t];exact Q0e _ z
    . rw[Q0t] at h ⊢;rcases List.mem_cons.mp h with e|e
      . exact List.mem_cons.mpr (.inl e)
      . exact Q0e _ (J g e)
theorem AJ (f:Str)(v:V):∀fs:List (Str × V),(jg f v fs).length<=fs.length+1
 |[]=>by simp[jg]
 |(k,x)::r=>by
  have z:=AJ f v r;rw[show jg f v ((k,x)::r)=(if k=f then(k,v)::r else(k,x)::jg f v r) from rfl];by_cases hk:k=f
  . rw[if_pos hk,Q0j,Q0j];omega
  . rw[if_neg hk,Q0j,Q0j];omega
theorem i2.some_of {v:V}{o:Option Value}(r:i2 (some v) o):∃u,o=some u/\RelV v u:=by
 cases o with
 |none=>exact(show False from r).elim
 |some u=>exact⟨u,rfl,r⟩
theorem i2.none_of {o:Option Value}(r:i2 none o):o=none:=by
 cases o with
 |none=>rfl
 |some u=>exact(show False from r).elim
theorem AK {v:V}{u:Value}(r:RelV v u):W.handedIn u=true:=by
 cases v with
 |non=>cases(show u=Value.none from r);rfl
 |bl b=>cases(show u=Value.bool b from r);rfl
 |int i=>obtain⟨t,e⟩:=(show ∃t,u=Value.int i t from r);cases e;rfl
 |str x=>obtain⟨t,e⟩:=(show ∃t,u=Value.str x t from r);cases e;rfl
 |jW b=>obtain⟨t,e⟩:=(show ∃t,u=Value.bytes b t from r);cases e;rfl
 |flt b=>obtain⟨t,e⟩:=(show ∃t,u=Value.float b t from r);cases e;rfl
 |ref a=>cases(show u=Value.ref a from r);rfl
 |ty n=>cases(show u=Value.type n from r);rfl
section
variable {P:Program}{w:World}{H H':Hp}{h h':Heap}{a C dx:Addr}{fs fs':List (Str × V)}
theorem lA (J:gD P w H h)(e:H a=some (.ins C dx fs)):∃mA,m9 h a dx C mA/\(∀f,i2 (fs.lookup f) (mA f))/\PySem.Within mA (fs.map (·.1))/\fs.length<=1000/\H dx=some (.own a):=by
 obtain⟨d,z,L,U,mA,n,r,q⟩:=(show gJ P w H h a (.ins C dx fs) from J a _ e);exact⟨mA,⟨U,n,L⟩,r,q,z,d⟩
end
structure Cls (K:W.Frag) (C:Addr):Prop where
 pg:W.plainGet K C Str.empty=true
 hd:W.hasDictIn K C=true
 po:W.plainOver K C=true
 sa:W.findIn K (.ref C) "__setattr__"=some (some (.builtin "object.__setattr__"))
theorem Cls.get {K:W.Frag}{C:Addr}(c:Cls K C)(f:Str):W.plainGet K C f=true:=c.pg
def kO (K:W.Frag) (C:Addr) (f:Str):Prop:=W.findIn K (.ref C) f=some none
theorem kO.taker {K:W.Frag}{C:Addr}{f:Str}(n:kO K C f):W.takerIn K C f=some none:=by
 unfold W.takerIn;rw[show W.findIn K (.ref C) f=some none from n];rfl
structure Meth (K:W.Frag) (C:Addr) (m:Str) (f:Addr):Prop where
 at_:W.findIn K (.ref C) m=some (some (.ref f))
 fn:W.isFn K (.ref f)=true
 kp:W.keepIn K (.ref f)=true
section
variable {X:Cx}{pins:List (Addr × Obj)}{σ:St}{H:Hp}{s:Shared}{a C dx:Addr}{fs:List (Str × V)}{f:Str}{v:V}{A:Around}{E:Value->Shared->Prop}
theorem FV {b:Bool}{Q:Value->Shared->Prop}(I:Inv X pins σ H s)(e:H a=some (.ins C dx fs))(c:Cls X.K C)(n:kO X.K C f)(l:fs.lookup f=some v)
 (h:∀u s',Inv X pins σ H s'->RelV v u->Q u s'):wpAny (model X.prog X.w) A (getAttr (.ref a) f b) Q E s:=by
 obtain⟨mA,O,r,_,_,_⟩:=lA I.hok e;obtain⟨u,J,z⟩:=i2.some_of (v:=v) (o:=mA f) (by rw[<-l];exact r f);exact get_map I.gM O (c.get f) c.hd n J (AK z) (h u _ (I.tok _) z)
theorem tK {m:Str}{g:Addr}{pl:Sem Bool}{Q:Value × List Value->Shared->Prop}(I:Inv X pins σ H s)(e:H a=some (.ins C dx fs))(c:Cls X.K C)(k:Meth X.K C m g)(l:fs.lookup m=none)
 (h:Q (.ref g,[.ref a]) s):wpAny (model X.prog X.w) A (getMethod (.ref a) m pl) Q E s:=by
 obtain⟨mA,O,r,_,_,_⟩:=lA I.hok e;have z:mA m=none:=i2.none_of (by rw[<-l];exact r m);exact FQ I.gM O (c.get m) k.at_ k.fn z h
theorem FW {y:V}{u:Value}{Q:Unit->Shared->Prop}(I:Inv X pins σ H s)(e:H a=some (.ins C dx fs))(c:Cls X.K C)(n:kO X.K C f)(hl:fs.length<1000)(Y:RelV y u)
 (h:∀s',Inv X pins σ (upd H a (.ins C dx (jg f y fs))) s'->Q () s'):wpAny (model X.prog X.w) A (setAttr (.ref a) f u) Q E s:=by
 obtain⟨mA,O,r,L,_,U⟩:=lA I.hok e;have hz:(fs.map (·.1)).length<=sizeLine:=by rw[Q02,sizeLine_eq];omega
 refine FT I.gM O c.sa c.po n.taker c.hd L hz λh' J sb=>h _ ?_;have hd:∃o,h'.get? dx=some o:=let⟨o,_,_,e',_⟩:=J.ns;⟨o,e'⟩
 refine I.write (x:=a) (e:=dx) (by rw[e];exact True.intro) (.inr U) (λb q hb z=>(sb.2 b hb).trans z) hd ?_;refine⟨by rw[eA O.ne];exact U,?_,O.ne,J.obj,_,J.ns,λg=>?_,λg hg=>?_⟩
 . have:=AJ f y fs;omega
 . show i2 ((jg f y fs).lookup g) (if g=f then some u else mA g);rw[AI];by_cases q:g=f
   . rw[if_pos q,if_pos q];exact Y
   . rw[if_neg q,if_neg q];exact r g
 . by_cases q:g=f
   . rw[q];exact(tJ f y fs).1
   . refine(tJ f y fs).2 g (L g λz=>hg ?_);show(if g=f then some u else mA g)=none;rw[if_neg q];exact z
theorem Inv.made (I:Inv X pins σ H s):Inv X pins σ (upd (upd H s.heap.objs.size (.own (s.heap.objs.size+1))) (s.heap.objs.size+1) (.ins C s.heap.objs.size []))
 { s with heap:=(s.heap.push W.emptyDict).push (W.instObj C s.heap.objs.size) }:=by
 have z:(s.heap.push W.emptyDict).get? s.heap.objs.size=some W.emptyDict:=Q0n s.heap rfl
 have L:((s.heap.push W.emptyDict).push (W.instObj C s.heap.objs.size)).get? (s.heap.objs.size+1)=some (W.instObj C s.heap.objs.size):=by
  have:=Q0n (s.heap.push W.emptyDict) (o:=W.instObj C s.heap.objs.size) rfl
  rwa [Q17] at this
 have U:(s.heap.push W.emptyDict).Ns s.heap.objs.size (λ_=>none):=⟨W.emptyDict,#[],_,z,rfl,(λe Y=>absurd Y (by simp)),λ_=>rfl⟩;have I1:=I.laid (a:=s.heap.objs.size) (o:=.own (s.heap.objs.size+1)) (h':=s.heap.push W.emptyDict) (t':=s.toks) (λb u q=>Q07 _ q) (Q00 _) ⟨_,z⟩;refine I1.laid (a:=s.heap.objs.size+1) (o:=.ins C s.heap.objs.size []) (t':=s.toks) (λb u q=>Q07 _ q) (Q1o (Q17 _ _)) ?_;have J:s.heap.objs.size≠s.heap.objs.size+1:=Q08 (Q10 _);refine⟨by rw[eA J,eI],Q0b _,J,L,λ_=>none,(Heap.Ns1.of_empty U).at λo q=>Q07 _ q,λ_=>True.intro,λy hy=>absurd rfl hy⟩
theorem AM {prog:Program}{w:World}{env:Env}{e:Expr}{f:Str}{pos:Pos}{s:Shared}{Q:Value->Shared->Prop}(J:attributeBase e f env (eval e env)=eval e env)
 (h:wpAny (model prog w) A (eval e env) (λo z=>wpAny (model prog w) A (getAttr o f true) Q E z) E s):wpAny (model prog w) A (eval (.Attribute e f pos) env) Q E s:=
 Attribute_any_ h (by rw[arm_eval_Attribute,J])
end
def FX (K:W.Frag) (ta:TE) (f:Str):TE:=λσ H Q=>ta σ H λx H1=>∃a C dx fs v,x=.ref a/\H1 a=some (.ins C dx fs)/\Cls K C/\kO K C f/\fs.lookup f=some v/\Q v H1
def FY (K:W.Frag) (ta tv:TE) (f:Str):TS:=λD σ H=>tv σ H λy H1=>ta σ H1 λx H2=>∃a C dx fs,x=.ref a/\H2 a=some (.ins C dx fs)/\Cls K C/\kO K C f/\fs.length<1000/\
 D.nx σ (upd H2 a (.ins C dx (jg f y fs)))
section
variable {X:Cx}{o e value:Expr}{f:Str}{pos pos' tpos:Pos}{ta tv:TE}
theorem iD (z:PE X e ta)(J:attributeBase e f X.env (eval e X.env)=eval e X.env):PE X (.Attribute e f pos) (FX X.K ta f):=by
 intro pins s σ H Q I h;refine AM J (eU (z pins s σ H _ I h) λu s1 zq=>?_);obtain⟨x,H1,L,U,a,C,dx,fs,v,ex,Y,c,n,l,q⟩:=zq;subst ex;obtain rfl:u=Value.ref a:=U;exact FV L Y c n l λu' s2 I2 ru=>⟨v,H1,I2,ru,q⟩
theorem qP (z:PE X o ta)(J:PE X value tv)(L:swapsWith value (some (.Attribute o f pos')) pos.line X.env=pure false):PS X (.Assign [.Attribute o f pos'] value pos) (FY X.K ta tv f):=by
 intro pins s σ H D I h;refine plainObj_wpAny_Assign_Attribute (eU (J pins s σ H _ I h) λu U ⟨y,H1,Y,ry,q⟩=>eU (z pins U σ H1 _ Y q) λov s2 zq=>?_) L;obtain⟨x,H2,I2,rx,a,C,dx,fs,ex,ea,c,n,l,q2⟩:=zq;subst ex;obtain rfl:ov=Value.ref a:=rx;exact FW I2 ea c n l ry λs3 I3=>⟨σ,_,I3,q2⟩
end
section
variable {X:Cx}{pins:List (Addr × Obj)}{σ:St}{H:Hp}{s:Shared}{A:Around}{E:Value->Shared->Prop}{Q:Value->Shared->Prop}{c:Value}{b:Bool}
inductive jD (K:W.Frag) (H:Hp):V->Value->Prop where
 |non:jD K H .non (.type "NoneType")
 |bl (x:Bool):jD K H (.bl x) (.type "bool")
 |int (i:Int):jD K H (.int i) (.type "int")
 |str (x:Str):jD K H (.str x) (.type "str")
 |flt (x:UInt64):jD K H (.flt x) (.type "float")
 |lst {a:Addr} {xs:List V} (e:H a=some (.lst xs)):jD K H (.ref a) (.type "list")
 |gT {a:Addr} {o:Obj} {xs:List V} (e:H a=some (.gT o (.lst xs))):jD K H (.ref a) (.type "list")
 |tup {a:Addr} {xs:List V} (e:H a=some (.tup xs)):jD K H (.ref a) (.type "tuple")
 |dK {a:Addr} {kvs:List (Key × V)} (e:H a=some (.dK kvs)):jD K H (.ref a) (.type "dict")
 |dT {a:Addr} {kvs:List (List Key × V)} (e:H a=some (.dT kvs)):jD K H (.ref a) (.type "dict")
 |ins {a C dx:Addr} {fs:List (Str × V)} (e:H a=some (.ins C dx fs)) (cl:Cls K C) (ha:W.findIn K (.ref C) "__class__"=some (some (.builtin "object.__class__")))
   (hn:W.specialIn K (.builtin "object.__class__") "__get__"=some (some (.builtin "getset_descriptor.__get__"))) (htk:W.takesIn K (.builtin "object.__class__")=some true)
   (hm:W.mroIn K C (.type "object")=some true):jD K H (.ref a) (.ref C)
theorem FZ {x:V}{u t:Value}(I:Inv X pins σ H s)(L:RelV x u)(ty:jD X.K H x t)(e:W.kitOne X.K t c=some b)(h:∀tk,Q (.bool b) { s with toks:=tk }):
 wpAny (model X.prog X.w) A (call (.builtin "isinstance") [u,c]) Q E s:=by
 cases ty with
 |non=>cases(show u=Value.none from L);exact W.kia_one W.kitx_none I.gM True.intro e (λz=>nomatch z) h
 |bl y=>cases(show u=Value.bool y from L);exact W.kia_one W.kitx_bool I.gM True.intro e (λz=>nomatch z) h
 |int i=>obtain⟨t,q⟩:=(show ∃t,u=Value.int i t from L);cases q;exact W.kia_one W.kitx_int I.gM True.intro e (λz=>nomatch z) h
 |str y=>obtain⟨t,q⟩:=(show ∃t,u=Value.str y t from L);cases q;exact W.kia_one W.kitx_str I.gM True.intro e (λz=>nomatch z) h
 |flt y=>obtain⟨t,q⟩:=(show ∃t,u=Value.float y t from L);cases q;exact W.kia_one W.kitx_float I.gM True.intro e (λz=>nomatch z) h
 |@lst a xs U=>
  cases(show u=Value.ref a from L);obtain⟨_,_,n,_,h1⟩:=(show gJ X.prog X.w H s.heap a (.lst xs) from I.hok a _ U);exact W.kia_one W.kitx_list I.gM ⟨_,h1,rfl⟩ e (λz=>nomatch z) h
 |@gT a ob xs U=>
  cases(show u=Value.ref a from L);obtain⟨_,_,_,n,_,h1⟩:=(show gJ X.prog X.w H s.heap a (.gT ob (.lst xs)) from I.hok a _ U);exact W.kia_one W.kitx_list I.gM ⟨_,h1,rfl⟩ e (λz=>nomatch z) h
 |@tup a xs U=>
  cases(show u=Value.ref a from L);obtain⟨_,_,_,p⟩:=(show gJ X.prog X.w H s.heap a (.tup xs) from I.hok a _ U);obtain⟨o,h1,h2,_⟩:=p;exact W.kia_one W.kitx_tuple I.gM ⟨o,h1,h2⟩ e (λz=>nomatch z) h
 |@dK a kvs U=>
  cases(show u=Value.ref a from L);obtain⟨_,_,vs,_,p⟩:=(show gJ X.prog X.w H s.heap a (.dK kvs) from I.hok a _ U);obtain⟨o,es,ep,h1,h2,_⟩:=p;exact W.kia_one W.kitx_dict I.gM ⟨o,h1,h2.1⟩ e (λz=>nomatch z) h
 |@dT a kvs U=>
  cases(show u=Value.ref a from L);obtain⟨_,_,xs,_,o,es,ep,h1,h2,_⟩:=(show gJ X.prog X.w H s.heap a (.dT kvs) from I.hok a _ U);exact W.kia_one W.kitx_dict I.gM ⟨o,h1,h2.1⟩ e (λz=>nomatch z) h
 |@ins a C dx fs U cl ha hn Y hm=>
  cases(show u=Value.ref a from L);obtain⟨mA,O,_⟩:=lA I.hok U;obtain⟨od,J,_⟩:=O.look;exact W.kia_one (W.kitx_own (cl.get _) cl.hd ha hn Y hm) I.gM J e (λz=>nomatch z) h
end
structure gi (k:Nat) (A:Around):Prop where
 hd:A.handled=none
 dp:A.depth+3 * k+5<recursionLimit
 un:A.units+16 * k+200<cLine
theorem gi.mono {j k:Nat}{A:Around}(r:gi k A)(h:j<=k):gi j A:=⟨r.hd,by have:=r.dp;omega,by have:=r.un;omega⟩
theorem gi.deeper {k:Nat}{A:Around}(r:gi (k+1) A)(env:Env):gi k (A.deeper env):=
 ⟨r.hd,by have:=r.dp;show A.depth+1+3 * k+5<_;omega,by have:=r.un;show A.units+3+16 * k+200<_;omega⟩
theorem gi.in1 {k:Nat}{A:Around}(r:gi (k+1) A):gi k A.in1:=
 ⟨r.hd,by have:=r.dp;show A.depth+3 * k+5<_;omega,by have:=r.un;show A.units+1+16 * k+200<_;omega⟩
theorem F0 {A:Around}{C:Addr}{us:List Value}{z:List (Str × Value)}:(A.under (.builtin "type.__call__" ⟨.ref C::us,z⟩)).depth=A.depth+1:=by
 first|rfl|simp[Around.under,Code.weight,Code.isCreation,Code.isGuard,Code.isCaller,Code.frames,Code.isFrame,guardIds]
theorem F1 {A:Around}{C:Addr}{us:List Value}{z:List (Str × Value)}:(A.under (.builtin "type.__call__" ⟨.ref C::us,z⟩)).units=A.units+1:=by
 first|rfl|simp[Around.under,Code.cUnits,Code.frames,Code.isFrame]
theorem gi.make {k:Nat}{A:Around}(r:gi (k+1) A)(C:Addr)(us:List Value)(z:List (Str × Value)):gi k (A.under (.builtin "type.__call__" ⟨.ref C::us,z⟩)):=
 ⟨r.hd,by have:=r.dp;rw[F0];omega,by have:=r.un;rw[F1];omega⟩
theorem gi.depth {k:Nat}{A:Around}(r:gi k A):A.depth<recursionLimit:=by have:=r.dp;omega
theorem gi.units {k:Nat}{A:Around}(r:gi k A):A.units+64<cLine:=by have:=r.un;omega
theorem gi.tL {k:Nat}{A:Around}(r:gi k A):A.units<cLine:=by have:=r.un;omega
def jh:TA:=λ_ H Q=>Q [] H
def gR (ta:TE) (z:TA):TA:=λσ H Q=>ta σ H λx H1=>z σ H1 λxs H2=>Q (x::xs) H2
section
variable {X:Cx}{e:Expr}{es:List Expr}{te:TE}{t:TA}{pos:Pos}
theorem c_:PA X [] jh:=λ_ _ _ _ H Q I h=>Calls.spliced_nil ⟨[],H,I,.nil,h⟩
theorem a_ (z:PE X e te)(J:PA X es t)(L:starEach (e::es) X.env=(false,eval e X.env)::starEach es X.env:=by rfl):PA X (e::es) (gR te t):=by
 intro pos pins s σ H Q I h;rw[L];show wpAny _ _ (spliced ((false,eval e X.env)::backTo pos (starEach es X.env))) _ _ s;refine Calls.spliced_cons (eU (z pins s σ H _ I h) λu U zq=>?_);obtain⟨x,H1,Y,r1,q1⟩:=zq;exact eU (J pos pins U σ H1 _ Y q1) λus s2 ⟨xs,H2,I2,r2,q2⟩=>⟨x::xs,H2,I2,.cons r1 r2,q2⟩
def pG (t:TA):TE:=λσ H Q=>t σ H λxs H1=>xs.length<=sizeLine/\∀p,H1 p=none->Q (.ref p) (upd H1 p (.tup xs))
def F2 (t:TA):TE:=λσ H Q=>t σ H λxs H1=>xs.length<=sizeLine/\∀p,H1 p=none->Q (.ref p) (upd H1 p (.lst xs))
theorem ik {U}(h:PA X es t):PE X (.Tuple es U pos) (pG t):=by
 intro pins s σ H Q I Y;refine wpAny_Tuple_spliced (eU (h pos pins s σ H _ I Y) λus J ⟨xs,H1,L,r,z,q⟩=>⟨by rw[<-r.length];exact z,?_⟩);have hf:H1 J.heap.objs.size=none:=L.hok.fresh (Q00 _);refine⟨.ref J.heap.objs.size,upd H1 J.heap.objs.size (.tup xs),L.laid (t':=J.toks) (λb u e=>Q07 _ e) (Q00 _) ?_,rfl,q _ hf⟩;exact⟨z,us,r,⟨_,Q0n _ rfl,rfl,_,rfl⟩⟩
theorem gA (h:PA X es t):PE X (.List es pos) (F2 t):=by
 intro pins s σ H Q I U;refine wpAny_List_spliced (eU (h pos pins s σ H _ I U) λus J ⟨xs,H1,L,r,z,q⟩=>⟨by rw[<-r.length];exact z,?_⟩);have Y:H1 J.heap.objs.size=none:=L.hok.fresh (Q00 _);refine⟨.ref J.heap.objs.size,upd H1 J.heap.objs.size (.lst xs),L.laid (t':=J.toks) (λb u e=>Q07 _ e) (Q00 _) ?_,rfl,q _ Y⟩;exact⟨z,us,0,r,Q0n _ rfl⟩
end
noncomputable abbrev Sp:=List V->Hp->VK->XK->Prop
noncomputable abbrev iV:=List Env->Hp->Shared->XK->Value->Shared->Prop
structure m_ (P:Program) (w:World) (K:W.Frag) (mg:Str->Option Value) (base:Heap) (A:Around) (outer:List Env) (s:Shared) (H:Hp):Prop where
 frames:A.frames=some outer
 mod:Mod K mg base
 bs:∀b o,base.get? b=some o->s.heap.get? b=some o/\H b=none
 ki:base.objs.size<=s.heap.objs.size
 jM:s.heap.FunFrames base outer
 md:∀b∈frs outer,H b=none
 hok:gD P w H s.heap
 bare:AllBare s.gens
def CE (outer:List Env) (P:Program) (w:World) (H:Hp) (s:Shared) (Q:VK) (u:Value) (s':Shared):Prop:=
 ∃v H',s'.os=s.os/\AllBare s'.gens/\Un (frs outer) [] H H' s.heap s'.heap/\gD P w H' s'.heap/\RelV v u/\Q v H'
def CR (CX:iV) (outer:List Env) (P:Program) (w:World) (H:Hp) (s:Shared) (Q:VK) (E:XK) (r:Result) (s':Shared):Prop:=
 match r with
 | .ok (.ret u)=>CE outer P w H s Q u s'
 | .ok _=>False
 | .error e=>CX outer H s E e s'
structure eh (P:Program) (w:World) (K:W.Frag) (mg:Str->Option Value) (base:Heap) (CX:iV) (k:Nat) (f:Addr) (fd:FuncData) (ps:List Str) (sp:Sp):Prop where
 len:∀vs H Q E,sp vs H Q E->vs.length=ps.length
 run:∀(A:Around) (outer:List Env) (s:Shared) (H:Hp) (args:Args) (us:List Value) (vs:List V) (Q:VK) (E:XK),gi k A->m_ P w K mg base A outer s H->BindsTo s fd args (ps.zip us)->Vals vs us->sp vs H Q E->
  codeAny (model P w) A (.call (.ref f) args) (CR CX outer P w H s Q E) s
theorem eh.mono {P:Program}{w:World}{K:W.Frag}{mg:Str->Option Value}{base:Heap}{CX:iV}{j k:Nat}{f:Addr}{fd:FuncData}{ps:List Str}{sp:Sp}(F:eh P w K mg base CX j f fd ps sp)(h:j<=k):
 eh P w K mg base CX k f fd ps sp:=⟨F.len,λA outer s H args us vs Q E z=>F.run A outer s H args us vs Q E (z.mono h)⟩
theorem eh.imp {P:Program}{w:World}{K:W.Frag}{mg:Str->Option Value}{base:Heap}{CX:iV}{k:Nat}{f:Addr}{fd:FuncData}{ps:List Str}{sp z:Sp}(F:eh P w K mg base CX k f fd ps sp)
 (h:∀vs H Q E,z vs H Q E->sp vs H Q E):eh P w K mg base CX k f fd ps z:=
 ⟨λvs H Q E q=>F.len vs H Q E (h _ _ _ _ q),λA outer s H args us vs Q E J L U Y hs=>F.run A outer s H args us vs Q E J L U Y (h _ _ _ _ hs)⟩
theorem m_.make {P:Program}{w:World}{K:W.Frag}{mg:Str->Option Value}{base:Heap}{A:Around}{outer:List Env}{s:Shared}{H:Hp}(e:m_ P w K mg base A outer s H)(C:Addr)(us:List Value)(z:List (Str × Value)):
 m_ P w K mg base (A.under (.builtin "type.__call__" ⟨.ref C::us,z⟩)) outer s H:=⟨by first|exact e.frames|(simpa[Around.under,Code.envs,Code.isFrame,pushEnvs] using e.frames),e.mod,e.bs,e.ki,e.jM,e.md,e.hok,e.bare⟩
section
variable {X:Cx}{pins:List (Addr × Obj)}{σ:St}{H:Hp}{s s':Shared}
theorem Inv.env0 (I:Inv X pins σ H s):m_ X.prog X.w X.K X.mg X.base X.A X.stack s H:=
 ⟨I.ok.frames,I.ok.mod,I.bs,Q05 I.ok.ki I.sz,I.stack,I.pz,I.hok,I.bare⟩
theorem Inv.after {Q:VK}{u:Value}(I:Inv X pins σ H s)(h:CE X.stack X.prog X.w H s Q u s'):EP X pins σ Q u s':=by
 obtain⟨v,H',os,J,un,L,r,q⟩:=h;obtain⟨Y,g,d,t,U⟩:=s';obtain rfl:U=s.os:=os;exact⟨v,H',I.call (h':=Y) (g':=g) (d':=d) (t':=t) (ch:=[]) un L J (λb z=>absurd z (by simp)),r,q⟩
end
def lB (sp:Sp) (iE:List V) (E:XK) (t:TA):TE:=λσ H Q=>t σ H λvs H1=>sp (vs++iE) H1 Q E
def tM (C:Addr) (m:Str) (sp:Sp) (iE:List V) (E:XK) (ta:TE) (t:TA):TE:=λσ H Q=>ta σ H λx H1=>∃a dx fs,x=.ref a/\H1 a=some (.ins C dx fs)/\fs.lookup m=none/\
 t σ H1 λvs H2=>sp (x::(vs++iE)) H2 Q E
def F3 (C:Addr) (sp:Sp) (iE:List V) (E:XK) (t:TA):TE:=λσ H Q=>t σ H λvs H1=>∀x dx,H1 x=none->H1 dx=none->dx≠x->
 sp (.ref x::(vs++iE)) (upd (upd H1 dx (.own x)) x (.ins C dx [])) (λv H2=>v=.non/\Q (.ref x) H2) E
def Binds (K:W.Frag) (fd:FuncData) (ps:List Str) (ds:List Value):Prop:=
 ∀(s:Shared) (us:List Value),K.In s.heap->(us++ds).length=ps.length->BindsTo s fd ⟨us,[]⟩ (ps.zip (us++ds))
theorem Binds.all {K:W.Frag}{fd:FuncData}{ps:List Str}(h:∀us:List Value,us.length=ps.length->bindArgs fd ⟨us,[]⟩=pure (ps.zip us)):Binds K fd ps []:=λs us _ hl=>by
 rw[Q0y] at hl ⊢;exact .of_eq (h us hl)
def Passes (CX:iV) (X:Cx) (E:XK):Prop:=∀(pins:List (Addr × Obj)) (σ:St) (H:Hp) (s:Shared) (e:Value) (s':Shared),Inv X pins σ H s->CX X.stack H s E e s'->X.xe e s'
section
variable {X:Cx}{CX:iV}{k:Nat}{f C:Addr}{fd:FuncData}{ps:List Str}{sp:Sp}{iE:List V}{ds:List Value}{E:XK}{x m:Str}{p pos apos:Pos}{e o:Expr}{es:List Expr}{ta:TE}{t:TA}
theorem tN {pins:List (Addr × Obj)}{σ:St}{H:Hp}{s:Shared}{Q:VK}{us:List Value}{vs:List V}(F:eh X.prog X.w X.K X.mg X.base CX k f fd ps sp)(L:gi k X.A)(U:Binds X.K fd ps ds)(Y:Vals iE ds)(hx:Passes CX X E)
 (I:Inv X pins σ H s) (r:Vals vs us) (h:sp (vs++iE) H Q E):wpAny (model X.prog X.w) X.A (call (.ref f) us) (EP X pins σ Q) X.xe s:=by
 have J:Vals (vs++iE) (us++ds):=r.append Y;have hl:(us++ds).length=ps.length:=by rw[<-J.length];exact F.len _ _ _ _ h
 refine wpAny_call (codeAny_mono (F.run X.A X.stack s H ⟨us,[]⟩ (us++ds) (vs++iE) Q E L I.env0 (U s us I.gM hl) J h) λr s' z=>?_)
 cases r with
 |error e=>exact hx pins σ H s e s' I z
 |ok fl=>
  cases fl with
  |ret u=>exact I.after z
  |next=>exact False.elim z
  |brk=>exact False.elim z
  |cont=>exact False.elim z
theorem qQ (F:eh X.prog X.w X.K X.mg X.base CX k f fd ps sp)(U:gi k X.A)(Y:Gl X x)(hm:X.mg x=some (.ref f))(hk:W.keepIn X.K (.ref f)=true)(hb:Binds X.K fd ps ds)(hd:Vals iE ds)(hx:Passes CX X E)
 (ha:PA X (e::es) t) (z:(x == ("__debug__":Str))=false:=by decide) (he:starEach (e::es) X.env=(false,eval e X.env)::starEach es X.env:=by rfl) (J:(backTo pos (starEach es X.env)).any (·.1)=false:=by rfl):
 PE X (.Call (.Name x p) (e::es) [] pos) (lB sp iE E t):=by
 intro pins s σ H Q I h;refine wpAny_Call_Name_kw (qF I Y hm ?_ z);refine W.callWith_K (h₀:=X.base) I.ok.mod.mR hk (eU (ha pos pins s σ H _ I h) λus s1 ⟨vs,H1,L,r,q⟩=>⟨L.gM,?_⟩) he J;exact tN F U hb hd hx L r q
theorem mn {pl:Sem Bool}(he:PE X o ta)(c:Cls X.K C)(L:Meth X.K C m f)(F:eh X.prog X.w X.K X.mg X.base CX k f fd ps sp)(hr:gi k X.A)(hb:Binds X.K fd ps ds)(hd:Vals iE ds)(hx:Passes CX X E)(ha:PA X (e::es) t)
 (z:starEach (e::es) X.env=(false,eval e X.env)::starEach es X.env:=by rfl) (J:(backTo pos (starEach es X.env)).any (·.1)=false:=by rfl)
 (ht:eval (.Call (.Attribute o m apos) (e::es) [] pos) X.env=(do
   let U <-eval o X.env
   standAt apos.atName
   let(f,first) <-holding [U] (getMethod U m pl)
   callWith pos f first (backTo pos (starEach (e::es) X.env)) (backToKw pos (keywordEach [] X.env))):=by rfl):
 PE X (.Call (.Attribute o m apos) (e::es) [] pos) (tM C m sp iE E ta t):=by
 intro pins s σ H Q I h;refine W.methodCall_KW (pl:=pl) (eU (he pins s σ H _ I h) λu s1 zq=>?_) ht;obtain⟨x,H1,Y,rx,a,dx,fs,ex,ea,l,q⟩:=zq;subst ex;obtain rfl:u=Value.ref a:=rx;refine tK Y ea c L l ?_;refine W.callWith_K (first:=[.ref a]) (h₀:=X.base) I.ok.mod.mR L.kp (eU (ha pos pins s1 σ H1 _ Y q) λus s2 ⟨vs,H2,I2,r,q2⟩=>⟨I2.gM,?_⟩) z J;exact tN (us:=.ref a::us) (vs:=.ref a::vs) F hr hb hd hx I2 (.cons rfl r) q2
theorem F4 {pl:Sem Bool}(U:PE X o ta)(c:Cls X.K C)(J:Meth X.K C m f)(F:eh X.prog X.w X.K X.mg X.base CX k f fd ps sp)(Y:gi k X.A)(hb:Binds X.K fd ps ds)(hd:Vals iE ds)(hx:Passes CX X E)
 (ht:eval (.Call (.Attribute o m apos) [] [] pos) X.env=(do
   let L <-eval o X.env
   standAt apos.atName
   let(f,first) <-holding [L] (getMethod L m pl)
   callWith pos f first (backTo pos (starEach [] X.env)) (backToKw pos (keywordEach [] X.env))):=by rfl):
 PE X (.Call (.Attribute o m apos) [] [] pos) (tM C m sp iE E ta jh):=by
 intro pins s σ H Q I h;refine W.methodCall_KW (pl:=pl) (eU (U pins s σ H _ I h) λu s1 zq=>?_) ht;obtain⟨x,H1,z,rx,a,dx,fs,ex,ea,l,q⟩:=zq;subst ex;obtain rfl:u=Value.ref a:=rx;refine tK z ea c J l ?_;exact W.callWith_K0 (first:=[.ref a]) z.gM J.kp (tN (us:=[.ref a]) (vs:=[.ref a]) F Y hb hd hx z (.cons rfl .nil) q)
structure Mk (K:W.Frag) (C f:Addr):Prop where
 makes:W.makesIn K C=true
 init:W.findIn K (.ref C) "__init__"=some (some (.ref f))
 fn:W.isFn K (.ref f)=true
 kp:W.keepIn K (.ref C)=true
theorem F5 {pins:List (Addr × Obj)}{σ:St}{H:Hp}{s:Shared}{Q:VK}{us:List Value}{vs:List V}(M:Mk X.K C f)(F:eh X.prog X.w X.K X.mg X.base CX k f fd ps sp)(Y:gi (k+1) X.A)(hb:Binds X.K fd ps ds)(hd:Vals iE ds)
 (hx:Passes CX X E) (I:Inv X pins σ H s) (r:Vals vs us)
 (h:∀x dx,H x=none->H dx=none->dx≠x->sp (.ref x::(vs++iE)) (upd (upd H dx (.own x)) x (.ins C dx [])) (λv H2=>v=.non/\Q (.ref x) H2) E):
 wpAny (model X.prog X.w) X.A (call (.ref C) us) (EP X pins σ Q) X.xe s:=by
 have L:=h (s.heap.objs.size+1) s.heap.objs.size (I.hok.fresh (Q14 _)) (I.hok.fresh (Q00 _)) (Q08 (Q10 _));have J:=Inv.made (C:=C) I;have U:Vals (V.ref (s.heap.objs.size+1)::(vs++iE)) (Value.ref (s.heap.objs.size+1)::(us++ds)):=.cons rfl (r.append hd)
 have hl:(Value.ref (s.heap.objs.size+1)::us++ds).length=ps.length:=by
  have e:=U.length;rw[F.len _ _ _ _ L] at e;exact e.symm
 refine wpAny_call (FU (f:=f) I.gM M.makes M.init (beq_iff_eq.mp M.fn) (codeAny_mono (F.run _ X.stack _ _ ⟨Value.ref (s.heap.objs.size+1)::us,[]⟩ (Value.ref (s.heap.objs.size+1)::(us++ds)) _ _ E (Y.make C us [])
  (J.env0.make C us []) (hb _ (Value.ref (s.heap.objs.size+1)::us) J.gM hl) U L) λr s' z=>?_))
 cases r with
 |error e=>exact hx pins σ _ _ e s' J z
 |ok fl=>
  cases fl with
  |ret u=>
   obtain⟨v,H',I3,rv,ev,q3⟩:=J.after z;subst ev;exact⟨rv,⟨V.ref (s.heap.objs.size+1),H',I3,rfl,q3⟩⟩
  |next=>exact False.elim z
  |brk=>exact False.elim z
  |cont=>exact False.elim z
theorem AN (M:Mk X.K C f)(F:eh X.prog X.w X.K X.mg X.base CX k f fd ps sp)(U:gi (k+1) X.A)(Y:Gl X x)(hm:X.mg x=some (.ref C))(hb:Binds X.K fd ps ds)(hd:Vals iE ds)(hx:Passes CX X E)
 (ha:PA X (e::es) t) (z:(x == ("__debug__":Str))=false:=by decide) (he:starEach (e::es) X.env=(false,eval e X.env)::starEach es X.env:=by rfl) (J:(backTo pos (starEach es X.env)).any (·.1)=false:=by rfl):
 PE X (.Call (.Name x p) (e::es) [] pos) (F3 C sp iE E t):=by
 intro pins s σ H Q I h;refine wpAny_Call_Name_kw (qF I Y hm ?_ z);refine W.callWith_K (h₀:=X.base) I.ok.mod.mR M.kp (eU (ha pos pins s σ H _ I h) λus s1 ⟨vs,H1,L,r,q⟩=>⟨L.gM,?_⟩) he J;exact F5 M F U hb hd hx L r q
end
section
variable {X:Cx}{CX:iV}{k:Nat}{f C:Addr}{fd:FuncData}{ps ks:List Str}{sp:Sp}{E:XK}{x m:Str}{p pos apos kpos:Pos}{e o:Expr}{es:List Expr}{kws:List Keyword}{te ta:TE}{t tk:TA}{nm:Option Str}
variable {g:List Value->List Value->List Value}{gV:List V->List V->List V}
end
structure fk (N P:List Str) (sc:Scope):Prop where
 kind:sc.kind=.function
 co:sc.isCoroutine=false
 gen:sc.isGenerator=false
 nd:N.Nodup
 pre:N.take P.length=P
 par:∀x∈P,sc.names.lookup x=some .local\/sc.names.lookup x=some .cell
 F6:∀y∈sc.names,y.2≠ .free
theorem Mv {N Q:List Str}{sc:Scope}(h1:sc.kind=.function:=by rfl)(h2:sc.isCoroutine=false:=by rfl)(z:sc.isGenerator=false:=by rfl)(J:N.Nodup:=by decide +kernel)(L:N.take Q.length=Q:=by rfl)(U:∀x∈Q,sc.names.lookup x=some .local\/sc.names.lookup x=some .cell:=by decide +kernel)(Y:∀y∈sc.names,y.2≠ .free:=by decide +kernel):fk N Q sc:=⟨h1,h2,z,J,L,U,Y⟩
theorem AO {kindOf:Str->Option NameKind}{x:Str}:∀{binds:List (Str × Value)}{m:Str->Option Value},(∀v,(x,v) ∉ binds)->bindL kindOf binds m x=m x
 |[],_,_=>rfl
 |(n,v)::r,m,h=>by
  unfold bindL;rw[AO λw hw=>h w (Q0e _ hw)];split
  . have:x≠n:=by rintro rfl;exact h v Q04
    simp[this]
  . rfl
theorem AQ {kindOf:Str->Option NameKind}{x:Str}:∀{binds:List (Str × Value)}{m:Str->Option Value},(∀v,(x,v) ∉ binds)->bindC kindOf binds m x=m x
 |[],_,_=>rfl
 |(n,v)::r,m,h=>by
  unfold bindC;rw[AQ λw hw=>h w (Q0e _ hw)];split
  . rfl
  . have:x≠n:=by rintro rfl;exact h v Q04
    simp[this]
theorem AR {kindOf:Str->Option NameKind}{x:Str}{v:Value}:∀{P:List Str}{vs:List Value}{i:Nat}{m:Str->Option Value},P.Nodup->P[i]? =some x->vs[i]? =some v->kindOf x=some .local->
 bindL kindOf (P.zip vs) m x=some v
 |[],_,_,_,_,h,_,_=>by simp at h
 |_::_,[],_,_,_,_,h,_=>by simp at h
 |p::P,w::vs,0,m,z,h1,h2,hk=>by
  simp at h1 h2;subst h1;subst h2;show bindL kindOf ((p,w)::P.zip vs) m p=_;unfold bindL;rw[AO λv J=>(List.nodup_cons.mp z).1 (Q20 J).1,if_pos hk];simp
 |p::P,w::vs,i+1,m,z,h1,h2,hk=>by
  show bindL kindOf ((p,w)::P.zip vs) m x=_;unfold bindL;exact AR (i:=i) (List.nodup_cons.mp z).2 (by simpa using h1) (by simpa using h2) hk
theorem AU {kindOf:Str->Option NameKind}{x:Str}{v:Value}:∀{P:List Str}{vs:List Value}{i:Nat}{m:Str->Option Value},P.Nodup->P[i]? =some x->vs[i]? =some v->kindOf x≠some .local->
 bindC kindOf (P.zip vs) m x=some v
 |[],_,_,_,_,h,_,_=>by simp at h
 |_::_,[],_,_,_,_,h,_=>by simp at h
 |p::P,w::vs,0,m,z,h1,h2,hk=>by
  simp at h1 h2;subst h1;subst h2;show bindC kindOf ((p,w)::P.zip vs) m p=_;unfold bindC;rw[AQ λv J=>(List.nodup_cons.mp z).1 (Q20 J).1,if_neg hk];simp
 |p::P,w::vs,i+1,m,z,h1,h2,hk=>by
  show bindC kindOf ((p,w)::P.zip vs) m x=_;unfold bindC;exact AU (i:=i) (List.nodup_cons.mp z).2 (by simpa using h1) (by simpa using h2) hk
noncomputable def start (N:List Str) (vs:List V):St:=vs.map some++List.replicate (N.length - vs.length) none
noncomputable def eY (CX:iV) (P:Program) (w:World) (K:W.Frag) (mg:Str->Option Value) (base:Heap) (N:List Str) (qual:Str) (scope:Scope) (f:Addr) (J:Value) (A:Around) (outer:List Env) (s:Shared) (H:Hp) (E:XK):Cx where
 prog:=P
 w:=w
 K:=K
 mg:=mg
 base:=base
 A:=A.deeper (envOfC qual scope s.heap.objs.size f J)
 N:=N
 s₀:=s
 H₀:=H
 env:=envOfC qual scope s.heap.objs.size f J
 outer:=outer
 stack:=envOfC qual scope s.heap.objs.size f J::outer
 ex:=[]
 calm:=true
 fn:=λ_=>true
 pn:=[]
 xe:=λe s'=>wpAny (model P w) (A.deeper (envOfC qual scope s.heap.objs.size f J)) (leaving (envOfC qual scope s.heap.objs.size f J) e) (λ_ z=>CX outer H s E e z) (λL z=>CX outer H s E L z) s'
theorem AV {sc:Scope}{n:Nat}{x:Str}(h:sc.names.lookup x=some .cell):∃c,(cellsFrom n sc.names []).lookup x=some c:=by
 have q:=W.cellsFrom_some sc.names n [] (.inl h);exact Option.isSome_iff_exists.mp q
theorem F7 {CX:iV}{P:Program}{w:World}{K:W.Frag}{mg:Str->Option Value}{base:Heap}{N ps:List Str}{qual:Str}{scope:Scope}{f:Addr}{cd:Value}{A:Around}{outer:List Env}{s s1:Shared}{H:Hp}{E:XK}{us:List Value}{vs:List V}
 (S:fk N ps scope) (hd:A.handled=none) (J:m_ P w K mg base A outer s H) (hl:vs.length=ps.length) (r:Vals vs us)
 (x:InCallC s s.heap.objs.size (bindL (envOfC qual scope s.heap.objs.size f cd).kindOf (ps.zip us) λ_=>none) (cellsFrom (s.heap.objs.size+1) scope.names []) (bindC (envOfC qual scope s.heap.objs.size f cd).kindOf (ps.zip us) λ_=>none) s1):
 Inv (eY CX P w K mg base N qual scope f cd A outer s H E) [] (start N vs) H s1:=by
 have aa:ps.length<=N.length:=by have:=congrArg List.length S.pre;rw[Q0k] at this;omega
 obtain⟨h1,tk,rfl,hk⟩:=x.done;have U:∀b:Addr,b ∉ (eY CX P w K mg base N qual scope f cd A outer s H E).ex:=λb z=>absurd (show b∈([]:List Addr) from z) (by simp)
 refine⟨⟨J.mod,S.kind,rfl,rfl,Q00 _,λy z c h1 h2=>?_,λy L=>?_,λy c _ h=>?_,λ_=>hd,Around.frames_deeper J.frames,.inr ⟨rfl,rfl⟩,λb z=>absurd z (U b),J.bs,J.ki,λb _ _=>U b,λb z=>absurd z (U b),J.jM,J.md⟩,
  rfl,J.bare,Un.kept hk,⟨_,x.toInCall.ns,λi y v h1 h2 h3=>?_⟩,λy c h=>⟨_,x.cell y c h⟩,J.hok.fresh (Q00 _),λy c h=>?_,λp hp=>absurd (show p∈([]:List (Addr × Obj)) from hp) (by simp),J.hok.kept hk,?_⟩
 . exact name_of_addr x.apart (PySem.mem_of_lookup h1) (PySem.mem_of_lookup h2)
 . have L:scope.names.lookup y=some .cell\/scope.names.lookup y=some .free:=L;rcases L with L|L
   . exact AV L
   . exact absurd rfl (S.F6 _ (PySem.mem_of_lookup L))
 . exact Q0s (x.above y c (PySem.mem_of_lookup h))
 . have hi:i<vs.length:=by
    unfold start at h2;by_cases hi:i<vs.length
    . exact hi
    . rw[Q2e (by simpa using hi)] at h2;rw[Q2w] at h2;split at h2 <;> cases h2
   have ha:vs[i]? =some v:=by
    unfold start at h2;rw[Q2x (by simpa using hi),Q0g] at h2
    cases e:vs[i]? with
    |none=>rw[e] at h2;cases h2
    |some a=>rw[e] at h2;cases h2;rfl
   obtain⟨u,hu,rv⟩:=r.get ha
   have hp:ps[i]? =some y:=by
    rw[<-S.pre,List.getElem?_take_of_lt (by omega)];exact h1
   have Y:ps.Nodup:=by rw[<-S.pre];exact S.nd.sublist (List.take_sublist _ _)
   refine⟨u,rv,?_⟩;rcases S.par y (Q0u hp) with k|k
   . exact .inl ⟨k,AR Y hp hu k⟩
   . obtain⟨c,e⟩:=AV (n:=s.heap.objs.size+1) k;refine .inr ⟨.inl k,c,e,?_⟩;have q:=x.cell y c e;rw[AU Y hp hu (by show scope.names.lookup y≠_;rw[k];decide)] at q;exact q
 . exact J.hok.fresh (Q0s (x.above y c (PySem.mem_of_lookup h)))
 . unfold start;show _=N.length;rw[Q0c,Q02,Q11];omega
theorem tO {CX:iV}{P:Program}{w:World}{K:W.Frag}{mg:Str->Option Value}{base:Heap}{k:Nat}{f:Addr}{name qual:Str}{L:Arguments}{body:List Stmt}{scope:Scope}{dV kV ab pm z ct oc:Value}{an od:Option Addr}
 {ae:Array (Option Value)} {N ps:List Str} {sp:Sp} (lk:K.lookup f=some ⟨oc,od,.func (W.fnOf name qual L body scope dV kV ab pm an z ct),ae⟩) (af:W.codeIn K z qual=true) (S:fk N ps scope)
 (len:∀vs H Q E,sp vs H Q E->vs.length=ps.length)
 (Y:∀(A:Around) (outer:List Env) (s:Shared) (H:Hp) (vs:List V) (Q:VK) (E:XK),gi k (A.deeper (envOfC qual scope s.heap.objs.size f z))->sp vs H Q E->
   ∃t,je (eY CX P w K mg base N qual scope f z A outer s H E) body t/\t { nx:=λ_ H'=>Q .non H',rt:=Q } (start N vs) H):
 eh P w K mg base CX (k+1) f (W.fnOf name qual L body scope dV kV ab pm an z ct) ps sp:=by
 refine⟨len,λA outer s H args us vs Q E hr e0 hb r ac=>?_⟩;have hl:=len _ _ _ _ ac;have KX:K.In s.heap:=e0.mod.mR.keeps λb o e=>(e0.bs b o e).1;have ag:s.heap.NoLimit:=e0.mod.nolimit.keeps λb o e=>(e0.bs b o e).1
 have aa:∀y∈ps.zip us,scope.names.lookup y.1=some .local\/(scope.names.lookup y.1=some .cell/\((cellsFrom (s.heap.objs.size+1) scope.names []).lookup y.1).isSome=true):=λ⟨n,v⟩ hy=>by
  rcases S.par n (Q20 hy).1 with q|q
  . exact .inl q
  . exact .inr ⟨q,W.cellsFrom_some _ _ _ (.inl q)⟩
 refine codeAny_call_function hr.depth (KX _ _ lk) rfl S.co S.gen rfl (W.codeRec_of KX af) (hb _ _ _ _ ?_);refine wpAny_newFunctionEnv_cells S.kind aa λenv he s1 x=>?_;subst he;refine⟨ag.keeps x.toInCall.keep,codeAny_func ?_⟩;obtain⟨t,ht,hq⟩:=Y A outer s H vs Q E (hr.deeper _) ac;have I:Inv (eY CX P w K mg base N qual scope f z A outer s H E) [] (start N vs) H s1:=F7 S hr.hd e0 hl r x;refine Q0m (ht [] s1 (start N vs) H _ I hq) (λfl s' hs=>?_) λe s' hs=>hs
 have fin:∀{U:St} {H':Hp} {v:V} {u:Value},Inv (eY CX P w K mg base N qual scope f z A outer s H E) [] U H' s'->RelV v u->Q v H'->CE outer P w H s Q u s':=
  λ{U H' v u} J rv q=>⟨v,H',J.os,J.bare,J.base,J.hok,rv,q⟩
 cases fl with
 |ret u=>
  obtain⟨v,U,H',J,rv,q⟩:=hs;exact fin J rv q
 |next=>
  obtain⟨U,H',J,q⟩:=hs;exact fin (v:=V.non) (u:=Value.none) J rfl q
 |brk=>
  obtain⟨_,_,_,q⟩:=hs;exact False.elim q
 |cont=>
  obtain⟨_,_,_,q⟩:=hs;exact False.elim q
section
variable {X:Cx}{x:Str}{p pos:Pos}{e:Expr}{es:List Expr}{t:TA}{id T:String}{r:List V->Hp->VK->Prop}
def AW (r:List V->Hp->VK->Prop) (t:TA):TE:=λσ H Q=>t σ H λvs H1=>r vs H1 Q
theorem eX (hc:jB X (.builtin id) r)(L:Gl X x)(U:X.mg x=none)(Y:bootBuiltins x=some (.builtin id))(ha:PA X (e::es) t)(hn:x≠"__name__":=by decide)(z:(x == ("__debug__":Str))=false:=by decide)
 (he:starEach (e::es) X.env=(false,eval e X.env)::starEach es X.env:=by rfl) (J:(backTo pos (starEach es X.env)).any (·.1)=false:=by rfl):PE X (.Call (.Name x p) (e::es) [] pos) (AW r t):=by
 intro pins s σ H Q I h;refine wpAny_Call_Name_kw (lu I L U Y ?_ hn z);exact PyProof.Rows.callWith_builtin1 (eU (ha pos pins s σ H _ I h) λus s1 ⟨vs,H1,I1,r1,q1⟩=>hc pins s1 σ H1 vs us Q I1 r1 q1) he J
theorem jO (hc:jB X (.type T) r)(L:Gl X x)(U:X.mg x=none)(Y:bootBuiltins x=some (.type T))(ha:PA X (e::es) t)(hn:x≠"__name__":=by decide)(z:(x == ("__debug__":Str))=false:=by decide)
 (he:starEach (e::es) X.env=(false,eval e X.env)::starEach es X.env:=by rfl) (J:(backTo pos (starEach es X.env)).any (·.1)=false:=by rfl):PE X (.Call (.Name x p) (e::es) [] pos) (AW r t):=by
 intro pins s σ H Q I h;refine wpAny_Call_Name_kw (lu I L U Y ?_ hn z);exact PyProof.Rows.callWith_type1 (eU (ha pos pins s σ H _ I h) λus s1 ⟨vs,H1,I1,r1,q1⟩=>hc pins s1 σ H1 vs us Q I1 r1 q1) he J
end
end L2
local macro_rules|`(tactic|ac_rfl)=>`(tactic|try dsimp only[L2.eY,L2.Cx.e_])
namespace HT
open PyProof.Rows
section
open SeqAt
open PySem.AutoSeq1 (wpAny_loadPart')
open MeetsSeq MeetsSeq2 MeetsSeq3
end
section
variable {prog:Program}{w:World}{A:Around}{E:Value->Shared->Prop}{s:Shared}
noncomputable def jv (n d:Nat):Option Int->Nat
 |none=>d
 |some v=>if v<0 then(v+(n:Int)).toNat else min v.toNat n
end
end HT
namespace L2
open Spec PyProof.Rows
noncomputable abbrev TO:=St->Hp->(Option Int->Hp->Prop)->Prop
def PO (X:Cx) (e:Option Expr) (t:TO):Prop:=
 ∀(pins:List (Addr × Obj)) (s:Shared) (σ:St) (H:Hp) (Q:Option Int->Hp->Prop),Inv X pins σ H s->t σ H Q->
  wpAny (model X.prog X.w) X.A (evalPart e X.env) (λu s'=>∃o H',Inv X pins σ H' s'/\IsPart u o/\Q o H') X.xe s
def F8:TO:=λ_ H Q=>Q none H
def F9 (t:TE):TO:=λσ H Q=>t σ H λx H1=>∃i,x=.int i/\Q (some i) H1
section
variable {X:Cx}{e:Expr}{te:TE}{lo hi:Option Expr}{tl th:TO}{pos p2:Pos}
theorem tQ:PO X none F8:=by
 intro pins s σ H Q I h;rw[evalPart_none];exact Q0a ⟨none,H,I,.none,h⟩
theorem tR (h:PE X e te):PO X (some e) (F9 te):=by
 intro pins s σ H Q I hw;rw[evalPart_some];refine eU (h pins s σ H _ I hw) λu U zq=>?_;obtain⟨x,H1,z,J,L⟩:=zq;obtain⟨i,rfl,q⟩:=L;obtain⟨t,rfl⟩:=J;exact⟨some i,H1,z,.int i t,q⟩
def tT (X:Cx) (r:V->Option Int->Option Int->Hp->VK->Prop):Prop:=
 ∀(pins:List (Addr × Obj)) (s:Shared) (σ:St) (H:Hp) (x:V) (v z J:Value) (lo hi:Option Int) (L:Addr) (Q:VK),Inv X pins σ H s->RelV x v->s.heap.IsSliceOf L z J .none->IsPart z lo->IsPart J hi->r x lo hi H Q->
  ∃T id,typeLookup (.type T) "__getitem__"=pure (some (.builtin id))/\s.TypeIs v T/\wpAny (model X.prog X.w) X.A (getItem v (.ref L)) (EP X pins σ Q) X.xe s
def F_ (r:V->Option Int->Option Int->Hp->VK->Prop) (te:TE) (tl th:TO):TE:=λσ H Q=>te σ H λx H1=>tl σ H1 λl H2=>th σ H2 λu z=>r x l u z Q
theorem tU {r:V->Option Int->Option Int->Hp->VK->Prop}(Y:tT X r)(he:PE X e te)(hl:PO X lo tl)(hu:PO X hi th):PE X (.Subscript e (.Slice lo hi none p2) pos) (F_ r te tl th):=by
 intro pins s σ H Q I h;refine Subscript_ (eU (he pins s σ H _ I h) λv s1 zq=>?_);obtain⟨x,H1,I1,r1,q1⟩:=zq;refine wpAny_Slice (eU (hl pins s1 σ H1 _ I1 q1) λJ s2 ⟨l,H2,I2,pl,q2⟩=>eU (hu pins s2 σ H2 _ I2 q2) λL z zq=>?_);obtain⟨u,U,I3,pu,q3⟩:=zq;rw[evalPart_none];refine Q0a ?_;have I4:Inv X pins σ U { z with heap:=z.heap.push { cls:=.type "slice",data:=.fields #[J,L,.none] } }:=I3.kept (t':=z.toks) λb ob q=>Q07 _ q;obtain⟨T,id,hT,ht,hg⟩:=Y pins { z with heap:=z.heap.push { cls:=.type "slice",data:=.fields #[J,L,.none] } } σ U x v J L l u z.heap.objs.size Q I4 r1 (Heap.IsSliceOf.new ..) pl pu q3;show wpAny (model X.prog X.w) X.A (subscriptTail e (.Slice lo hi none p2) v (.ref z.heap.objs.size)) (EP X pins σ Q) X.xe { z with heap:=z.heap.push { cls:=.type "slice",data:=.fields #[J,L,.none] } };exact tail_any (ops:=[.ref z.heap.objs.size,v]) ht hT hg (by with_unfolding_all rfl)
noncomputable def oi (xs:List V) (lo hi:Option Int):List V:=(xs.drop (HT.jv xs.length 0 lo)).take (HT.jv xs.length xs.length hi - HT.jv xs.length 0 lo)
theorem AX (xs:List V)(lo hi:Option Int):(oi xs lo hi).length<=xs.length:=by
 unfold oi;rw[Q0k,Q2y];omega
end
noncomputable def lC (n:Nat) (i:Int):Option Nat:=if 0<=i then(if i<n then some i.toNat else none) else if -(n:Int)<=i then some (i+n).toNat else none
noncomputable def ir {α:Type}(xs:List α) (i:Int):Option α:=(lC xs.length i).bind λj=>xs[j]?
theorem AY {n:Nat}{i:Int}{j:Nat}(h:lC n i=some j):seqIndex? i n=some j/\j<n/\ -(n:Int)<=i/\i<n:=by
 unfold lC at h;by_cases z:0<=i
 . rw[if_pos z] at h;by_cases h1:i<n
   . rw[if_pos h1] at h;have e:i.toNat=j:=Option.some.inj h;exact⟨by rw[seqIndex_of z h1,e],by omega,by omega,h1⟩
   . rw[if_neg h1] at h;cases h
 . rw[if_neg z] at h;by_cases h1: -(n:Int)<=i
   . rw[if_pos h1] at h;have e:(i+n).toNat=j:=Option.some.inj h;exact⟨by rw[seqIndex_neg (by omega) h1,e],by omega,h1,by omega⟩
   . rw[if_neg h1] at h;cases h
theorem tV {α:Type}{xs:List α}{i:Int}{v:α}(h:ir xs i=some v):∃j,seqIndex? i xs.length=some j/\xs[j]? =some v/\j<xs.length/\ -(xs.length:Int)<=i/\i<xs.length:=by
 unfold ir at h
 cases e:lC xs.length i with
 |none=>rw[e] at h;cases h
 |some j=>
  rw[e] at h;obtain⟨h1,h2,z,J⟩:=AY e;exact⟨j,h1,h,h2,z,J⟩
theorem jY {α:Type}{xs:List α}{j:Nat}{v:α}(h:xs[j]? =some v):ir xs (j:Int)=some v:=by
 have z:j<xs.length:=(List.getElem?_eq_some_iff.mp h).1
 have e:lC xs.length (j:Int)=some j:=by
  unfold lC;rw[if_pos (by omega),if_pos (by omega)];simp
 unfold ir;rw[e];exact h
def tW (b:Expr):Prop:=∀o i,subscripted b false o i=operate [o,i] (getItem o i)
def qR (X:Cx) (r:R2):Prop:=
 ∀(value z:Expr) (pins:List (Addr × Obj)) (s:Shared) (σ:St) (H:Hp) (x y:V) (v u:Value) (Q:VK),Inv X pins σ H s->RelV x v->RelV y u->r x y H Q->
  subscripted z false v u=operate [v,u] (getItem v u)->wpAny (model X.prog X.w) X.A (subscriptTail value z v u) (EP X pins σ Q) X.xe s
def qS (X:Cx) (id:String) (r:V->List V->Hp->VK->Prop):Prop:=
 ∀(pins:List (Addr × Obj)) (s:Shared) (σ:St) (H:Hp) (x:V) (xs:List V) (v:Value) (us:List Value) (Q:VK),Inv X pins σ H s->RelV x v->Vals xs us->r x xs H Q->
  wpAny (model X.prog X.w) X.A (call (.builtin id) (v::us)) (EP X pins σ Q) X.xe s
section
variable {X:Cx}{a b:Expr}{ta tb:TE}{pos:Pos}
theorem lD {r:R2}(z:qR X r)(J:PE X a ta)(L:PE X b tb)(U:tW b):PE X (.Subscript a b pos) (f_ r ta tb):=by
 intro pins s σ H Q I h;exact Subscript_ (tE J L I h λv u Y x y H2 I2 rx ry q=>z a b pins Y σ H2 x y v u Q I2 rx ry q (U _ _))
def AZ (K:W.Frag):R2:=λx y H Q=>∃p xs i v,x=.ref p/\y=.int i/\eF K H p xs/\ir xs i=some v/\Q v H
def iu (K:W.Frag):R2:=λx y H Q=>∃p xs i v,x=.ref p/\y=.int i/\eu K H p xs/\ir xs i=some v/\Q v H
def Ga:R2:=λx y H Q=>∃z i c,x=.str z/\y=.int i/\z.length<=sizeLine/\ir z.cps.toList i=some c/\Q (.str ⟨#[c]⟩) H
theorem Gb:qR X (AZ X.K):=by
 intro value Y pins s σ H x y v u Q I rx ry h hs;obtain⟨p,xs,i,z,rfl,rfl,hq,he,q⟩:=h
 cases rx;obtain⟨t,rfl⟩:=ry;obtain⟨L,r,pl,hz⟩:=I.list hq;obtain⟨j,h1,h2,h3,h4,h5⟩:=tV he;obtain⟨w,ew,U⟩:=r.get h2;have hl:=r.length;have hn:=oh;have fin:EP X pins σ Q w s:=⟨z,H,I,U,q⟩;by_cases h0:0<=i
 . have J:i.toNat=j:=by
    rw[seqIndex_of h0 h5] at h1;exact Option.some.inj h1
   exact item_listR pl.isList h0 (by omega) (by rw[J];simpa using ew) fin hs
 . have J:(i+(L.toArray.size:Int)).toNat=j:=by
    rw[seqIndex_neg (by omega) h4] at h1;rw[Q09,<-hl];exact Option.some.inj h1
   exact subscriptTail_builtinR (x:=w) pl.isList.typeIs slot_list_getitem.lookup
    (wpAny_getItem_list_neg (Q:=λr s'=>r=w/\EP X pins σ Q r s') pl.isList (by omega) (by rw[Q09] <;> omega) (by omega) (by rw[J];simpa using ew) ⟨rfl,fin⟩) hs
theorem Gc:qR X (iu X.K):=by
 intro value L pins s σ H x y v u Q I U Y h hs;obtain⟨p,xs,i,z,rfl,rfl,hq,he,q⟩:=h
 cases U;obtain⟨t,rfl⟩:=Y;obtain⟨aa,r,pl,hz⟩:=I.tuple hq;obtain⟨j,h1,h2,h3,h4,h5⟩:=tV he;obtain⟨w,ew,J⟩:=r.get h2;have hl:=r.length;have hn:=oh;have fin:EP X pins σ Q w s:=⟨z,H,I,J,q⟩
 exact subscriptTail_builtinR (x:=w) pl.typeIs slot_tuple_getitem.lookup
  (getItem_tuple (j:=j) (Q:=λr s'=>r=w/\EP X pins σ Q r s') pl (by omega) (by omega) (by rw[Q09,<-hl];exact h1) (by simpa using ew) ⟨rfl,fin⟩) hs
theorem ng:qR X Ga:=by
 intro value J pins s σ H x y v u Q I L U h Y;obtain⟨z,i,c,rfl,rfl,hz,he,q⟩:=h;obtain⟨t,rfl⟩:=L;obtain⟨t',rfl⟩:=U;obtain⟨j,h1,h2,h3,h4,h5⟩:=tV he;have hl:z.cps.toList.length=z.length:=by simp[Str.length]
 rw[hl] at h1 h4 h5;have hn:=oh
 exact tail_any (typeIs_str s z t) slot_str_getitem.lookup (getItem_str (c:=c) (by
  have e1:decide (i< -(2 ^ 63:Int))=false:=decide_eq_false (by omega);have e2:decide (i ≥ 2 ^ 63)=false:=decide_eq_false (by omega);rw[e1,e2,Bool.or_false]) (by rw[h1];simpa using h2) ⟨.str ⟨#[c]⟩,H,I.tok _,⟨_,rfl⟩,q⟩) Y
theorem Gd (z:List Value)(n j:Nat)(u:Value):Obj.mapSeq (·.setIfInBounds j u) { cls:=.type "list",data:=.seq z.toArray n }={ cls:=.type "list",data:=.seq (z.set j u).toArray n }:=by
 simp[Obj.mapSeq]
theorem Inv.lst {pins:List (Addr × Obj)}{σ:St}{H:Hp}{s:Shared}{p:Addr}{xs:List V}(I:Inv X pins σ H s)(h:H p=some (.lst xs)):
 ∃(J:List Value) (n:Nat),Vals xs J/\s.heap.get? p=some { cls:=.type "list",data:=.seq J.toArray n }/\xs.length<=sizeLine:=by
 obtain⟨z,J,n,r,e⟩:=I.hok p _ h;exact⟨J,n,r,e,z⟩
theorem Inv.Ge {pins:List (Addr × Obj)}{σ:St}{H:Hp}{s:Shared}{p:Addr}{xs ys:List V}{z its':List Value}{n J:Nat}{f:Obj->Obj}(I:Inv X pins σ H s)(h:H p=some (.lst xs))
 (U:s.heap.get? p=some { cls:=.type "list",data:=.seq z.toArray n }) (L:f { cls:=.type "list",data:=.seq z.toArray n }={ cls:=.type "list",data:=.seq its'.toArray J }) (r:Vals ys its') (Y:ys.length<=sizeLine) (t:Nat):
 Inv X pins σ (upd H p (.lst ys)) { s with heap:=s.heap.update p f,toks:=t }:=by
 have e:(s.heap.update p f).get? p=some { cls:=.type "list",data:=.seq its'.toArray J }:=by
  rw[Q1p f U (by rw[L] <;> rfl),L]
 refine I.write (x:=p) (e:=p) (by rw[h];trivial) (.inl rfl) (λb u hb q=>(Q18 _ _ (Ne.symm hb)).trans q) ⟨_,e⟩ ?_;exact⟨Y,its',J,r,e⟩
def Gf:V->V->V->Hp->(Hp->Prop)->Prop:=λo i v H Q=>∃p xs k j,o=.ref p/\i=.int k/\H p=some (.lst xs)/\lC xs.length k=some j/\Q (upd H p (.lst (xs.set j v)))
theorem set_list:Au X Gf:=by
 intro pins s σ H o i v ov iv u Q I ro ri rv h;obtain⟨p,xs,k,j,rfl,rfl,hp,hj,q⟩:=h
 cases ro;obtain⟨t,rfl⟩:=ri;obtain⟨z,n,r,J,hz⟩:=I.lst hp;obtain⟨h1,h2,L,U⟩:=AY hj;have hl:=r.length;have hn:=oh
 have Y:Inv X pins σ (upd H p (.lst (xs.set j v))) { s with heap:=s.heap.update p (Obj.mapSeq (·.setIfInBounds j u)) }:=
  I.Ge hp J (Gd z n j u) (r.set rv j) (by rw[List.length_set];exact hz) s.toks
 by_cases h0:0<=k
 . have hk:k.toNat=j:=by
    rw[seqIndex_of h0 U] at h1;exact Option.some.inj h1
   exact W.ki_setAt J h0 (by omega) (by rw[Q09,<-hl];exact U) (by rw[hk];exact⟨_,Y,q⟩)
 . have hk:(k+(z.toArray.size:Int)).toNat=j:=by
    rw[seqIndex_neg (by omega) L] at h1;rw[Q09,<-hl];exact Option.some.inj h1
   exact W.ki_setBack J (by omega) (by rw[Q09,<-hl];exact L) (by omega) (by rw[hk];exact⟨_,Y,q⟩)
theorem Gg (lo hi:Option Int)(n:Nat):(sliceBounds lo hi none n).1=((HT.jv n 0 lo:Nat):Int)/\(sliceBounds lo hi none n).2.1=((HT.jv n n hi:Nat):Int)/\(sliceBounds lo hi none n).2.2=1:=by
 refine⟨?_,?_,rfl⟩
 . cases lo with
   |none=>simp[sliceBounds,HT.jv]
   |some i=>
    simp only[sliceBounds,HT.jv,Q2z,show(1:Int) > 0 by decide,if_true];by_cases h:i<0
    . simp only[h,if_true] <;> omega
    . simp only[h,if_false] <;> omega
 . cases hi with
   |none=>simp[sliceBounds,HT.jv]
   |some i=>
    simp only[sliceBounds,HT.jv,Q2z,show(1:Int) > 0 by decide,if_true];by_cases h:i<0
    . simp only[h,if_true] <;> omega
    . simp only[h,if_false] <;> omega
theorem Gh (z:List Value)(lo hi:Option Int):slicePick z.toArray lo hi none=((z.drop (HT.jv z.length 0 lo)).take (HT.jv z.length z.length hi - HT.jv z.length 0 lo)).toArray:=by
 obtain⟨h1,h2,J⟩:=Gg lo hi z.toArray.size;unfold slicePick;rw[h1,h2,J];simp only[sliceRange_one,pick_run,Q09] <;> rfl
def Gi (K:W.Frag):V->Option Int->Option Int->Hp->VK->Prop:=λx lo hi H Q=>∃a xs,x=.ref a/\eF K H a xs/\∀p,H p=none->Q (.ref p) (upd H p (.lst (oi xs lo hi)))
theorem Gj:tT X (Gi X.K):=by
 intro pins s σ H x v vl vu lo hi sl Q I J L pl U h;obtain⟨a,xs,rfl,Y,q⟩:=h
 cases J;obtain⟨aa,r,ht,hz⟩:=I.list Y;have z:=r.length;refine⟨"list",_,slot_list_getitem.lookup,ht.isList.typeIs,?_⟩;refine wpAny_getItem_list_slice ht.isList L pl U .none (by simp) ?_ (by rw[Q09] <;> omega);rw[Gh,<-z];refine⟨.ref s.heap.objs.size,_,I.laid (t':=s.toks) (o:=.lst (oi xs lo hi)) (λb ob q=>Q07 _ q) (Q00 _) ?_,rfl,q _ (I.hok.fresh (Q00 _))⟩;exact⟨Q05 (AX xs lo hi) hz,_,0,(r.drop (HT.jv xs.length 0 lo)).take (HT.jv xs.length xs.length hi - HT.jv xs.length 0 lo),Q0n _ rfl⟩
noncomputable def lE:V->Bool
 | .non=>true
 | .bl _=>true
 | .int _=>true
 | .str _=>true
 |_=>false
noncomputable def lF:V->V->Bool
 | .non,.non=>true
 | .bl a,.bl b=>a == b
 | .bl a,.int b=>(if a then 1 else 0) == b
 | .int a,.bl b=>a == (if b then 1 else 0)
 | .int a,.int b=>a == b
 | .str a,.str b=>a == b
 |_,_=>false
theorem Gk {A:Around}{s:Shared}{y x:V}{u v:Value}(J:RelV y u)(z:RelV x v)(U:lE y=true)(L:lE x=true):SeqAt.EqAt A s u v (lF y x):=by
 cases y with
 |non=>
  cases J
  cases x with
  |non=>cases z;exact SeqAt.EqAt.same _
  |bl b=>cases z;exact SeqAt.EqAt.none_bool b
  |int b=>obtain⟨t,rfl⟩:=z;exact SeqAt.EqAt.none_int b t
  |str b=>obtain⟨t,rfl⟩:=z;exact SeqAt.EqAt.none_str b t
  |_=>exact absurd (show false=true from L) Bool.false_ne_true
 |bl a=>
  cases J
  cases x with
  |non=>cases z;exact SeqAt.EqAt.bool_none a
  |bl b=>cases z;exact SeqAt.EqAt.bool_bool a b
  |int b=>obtain⟨t,rfl⟩:=z;exact SeqAt.EqAt.bool_int a b t
  |str b=>obtain⟨t,rfl⟩:=z;exact SeqAt.EqAt.bool_str a b t
  |_=>exact absurd (show false=true from L) Bool.false_ne_true
 |int a=>
  obtain⟨t',rfl⟩:=J
  cases x with
  |non=>cases z;exact SeqAt.EqAt.int_none a t'
  |bl b=>cases z;exact SeqAt.EqAt.int_bool a t' b
  |int b=>obtain⟨t,rfl⟩:=z;exact SeqAt.EqAt.int_int a t' b t
  |str b=>obtain⟨t,rfl⟩:=z;exact SeqAt.EqAt.int_str a t' b t
  |_=>exact absurd (show false=true from L) Bool.false_ne_true
 |str a=>
  obtain⟨t',rfl⟩:=J
  cases x with
  |non=>cases z;exact SeqAt.EqAt.str_none a t'
  |bl b=>cases z;exact SeqAt.EqAt.str_bool a t' b
  |int b=>obtain⟨t,rfl⟩:=z;exact SeqAt.EqAt.str_int a t' b t
  |str b=>obtain⟨t,rfl⟩:=z;exact SeqAt.EqAt.str_str a t' b t
  |_=>exact absurd (show false=true from L) Bool.false_ne_true
 |_=>exact absurd (show false=true from U) Bool.false_ne_true
noncomputable def jw (x:V) (u:Value):Bool:=match u with
 | .none=>lF .non x
 | .bool b=>lF (.bl b) x
 | .int i _=>lF (.int i) x
 | .str z _=>lF (.str z) x
 |_=>false
theorem A0 {x y:V}{u:Value}(r:RelV y u)(f:lE y=true):jw x u=lF y x:=by
 cases y with
 |non=>cases r;rfl
 |bl b=>cases r;rfl
 |int i=>obtain⟨t,rfl⟩:=r;rfl
 |str z=>obtain⟨t,rfl⟩:=r;rfl
 |_=>exact absurd (show false=true from f) Bool.false_ne_true
theorem pH {x:V}:∀{xs:List V}{us:List Value},Vals xs us->xs.all lE=true->us.any (jw x)=xs.any λy=>lF y x
 |_,_,.nil,_=>rfl
 |y::xs,u::us,.cons r t,f=>by
  rw[Q2f,Bool.and_eq_true] at f;rw[Q1f,Q1f,A0 r f.1,pH t f.2]
theorem pI {A:Around}{s:Shared}{x:V}{v:Value}(J:RelV x v)(L:lE x=true):∀{xs:List V}{us:List Value},Vals xs us->xs.all lE=true->∀u∈us,SeqAt.EqAt A s u v (jw x u)
 |_,_,.nil,_=>λu z=>by cases z
 |y::xs,u::us,.cons r t,f=>λU z=>by
  rw[Q2f,Bool.and_eq_true] at f;rcases List.mem_cons.mp z with rfl|z
  . rw[A0 r f.1];exact Gk r J f.1 L
  . exact pI J L t f.2 U z
noncomputable def inV (x:V) (xs:List V):Bool:=xs.any λy=>lF y x
def nh (K:W.Frag) (z:Bool):R2:=λx y H Q=>∃p xs,y=.ref p/\(eF K H p xs\/eu K H p xs)/\lE x=true/\xs.all lE=true/\Q (.bl (if z then !inV x xs else inV x xs)) H
theorem A1:ij X (compareOp .In) (nh X.K false):=by
 intro pins s σ H x y v u Q I L Y h;obtain⟨p,xs,rfl,J,U,fs,q⟩:=h
 cases Y;rcases J with J|J
 . obtain⟨z,r,pl,hz⟩:=I.list J;refine SeqAt.in_listAt (jw x) pl.isList (λw hw=>pI L U r fs w (by simpa using hw)) ⟨.bl _,H,I,rfl,?_⟩;rw[show z.toArray.any (jw x)=z.any (jw x) by simp,pH r fs];exact q
 . obtain⟨z,r,pl,hz⟩:=I.tuple J;refine SeqAt.in_tupleAt (jw x) pl (λw hw=>pI L U r fs w (by simpa using hw)) ⟨.bl _,H,I,rfl,?_⟩;rw[show z.toArray.any (jw x)=z.any (jw x) by simp,pH r fs];exact q
theorem oj:ij X (compareOp .NotIn) (nh X.K true):=by
 intro pins s σ H x y v u Q I L Y h;obtain⟨p,xs,rfl,J,U,fs,q⟩:=h
 cases Y;rcases J with J|J
 . obtain⟨z,r,pl,hz⟩:=I.list J;refine SeqAt.notIn_listAt (jw x) pl.isList (λw hw=>pI L U r fs w (by simpa using hw)) ⟨.bl _,H,I,rfl,?_⟩;rw[show z.toArray.any (jw x)=z.any (jw x) by simp,pH r fs];exact q
 . obtain⟨z,r,pl,hz⟩:=I.tuple J;refine SeqAt.notIn_tupleAt (jw x) pl (λw hw=>pI L U r fs w (by simpa using hw)) ⟨.bl _,H,I,rfl,?_⟩;rw[show z.toArray.any (jw x)=z.any (jw x) by simp,pH r fs];exact q
theorem g_:jB X (.builtin "len") (λxs H Q=>∃p ys,xs=[.ref p]/\(eF X.K H p ys\/eu X.K H p ys)/\Q (.int ys.length) H):=by
 intro pins s σ H xs us Q I r h;obtain⟨p,ys,rfl,J,q⟩:=h;obtain⟨u,rfl,Y⟩:=vals1 r
 cases Y;have hn:=oh;rcases J with J|J
 . obtain⟨U,L,pl,hz⟩:=I.list J;have z:=L.length;exact Calls.call_len_list pl.isList (by simp only[Q09] <;> omega) ⟨.int ys.length,H,I.tok _,⟨s.toks+1,by rw[Q09,z]⟩,q⟩
 . obtain⟨U,L,pl,hz⟩:=I.tuple J;have z:=L.length;exact len_tuple pl (by simp only[Q09] <;> omega) ⟨.int ys.length,H,I.tok _,⟨s.toks+1,by rw[Q09,z]⟩,q⟩
theorem Gm:jB X (.builtin "len") (λxs H Q=>∃z,xs=[.str z]/\z.length<=sizeLine/\Q (.int z.length) H):=by
 intro pins s σ H xs us Q I r h;obtain⟨z,rfl,J,q⟩:=h;obtain⟨u,rfl,t,rfl⟩:=vals1 r;have L:=oh;exact len_str (by omega) ⟨.int z.length,H,I.tok _,⟨_,rfl⟩,q⟩
theorem tX:jB X (.type "list") (λxs H Q=>∃p ys,xs=[.ref p]/\(eF X.K H p ys\/eu X.K H p ys)/\∀l,H l=none->Q (.ref l) (upd H l (.lst ys))):=by
 intro pins s σ H xs us Q I r h;obtain⟨p,ys,rfl,L,q⟩:=h;obtain⟨u,rfl,rx⟩:=vals1 r
 cases rx
 have fin:∀(z:List Value),Vals ys z->ys.length<=sizeLine->∀(h':Heap) (c':Nat),(∀b o',s.heap.get? b=some o'->h'.get? b=some o')->
  h'.get? s.heap.objs.size=some { cls:=.type "list",dict:=none,data:=.seq z.toArray c',slots:=#[] }->EP X pins σ Q (.ref s.heap.objs.size) { s with heap:=h' }:=λz J U h' c' Y e=>
  ⟨.ref s.heap.objs.size,_,I.laid (t':=s.toks) Y (Q00 _) (show gJ X.prog X.w _ h' _ (.lst ys) from⟨U,z,c',J,e⟩),rfl,q _ (I.hok.fresh (Q00 _))⟩
 rcases L with L|L
 . obtain⟨z,J,pl,U⟩:=I.list L;have aa:=J.length;obtain⟨o,ho,hc,n,hd⟩:=pl.isList;exact call_list_seq p (.inl rfl) ho hc hd (λh' c' Y e=>fin z J U h' c' Y e) (by simp only[Q09] <;> omega)
 . obtain⟨z,J,pl,U⟩:=I.tuple L;have aa:=J.length;obtain⟨o,ho,hc,n,hd⟩:=pl;exact call_list_seq p (.inr rfl) ho hc hd (λh' c' Y e=>fin z J U h' c' Y e) (by simp only[Q09] <;> omega)
theorem pJ:jB X (.type "tuple") (λxs H Q=>∃p ys,xs=[.ref p]/\((eF X.K H p ys/\∀l,H l=none->Q (.ref l) (upd H l (.tup ys)))\/(eu X.K H p ys/\Q (.ref p) H))):=by
 intro pins s σ H xs us Q I r h;obtain⟨p,ys,rfl,h⟩:=h;obtain⟨u,rfl,rx⟩:=vals1 r
 cases rx;rcases h with⟨J,q⟩|⟨J,q⟩
 . obtain⟨z,L,pl,U⟩:=I.list J;have aa:=L.length;refine call_tuple_list pl.isList (λh' kp=>?_) (by simp only[Q09] <;> omega);have Y:Inv X pins σ H { s with heap:=h' }:=I.kept (t':=s.toks) kp
   have I2:Inv X pins σ (upd H h'.objs.size (.tup ys)) { s with heap:=h'.push { cls:=.type "tuple",data:=.seq z.toArray } }:=
    Y.laid (t':=s.toks) (λb o e=>Q07 _ e) (Q00 _) (show gJ X.prog X.w _ _ _ (.tup ys) from⟨U,z,L,IsTup.new _ _⟩)
   exact⟨.ref h'.objs.size,_,I2,rfl,q _ (Y.hok.fresh (Q00 _))⟩
 . obtain⟨z,L,pl,U⟩:=I.tuple J;exact call_tuple_same pl ⟨.ref p,H,I,rfl,q⟩
def A2 (K:W.Frag) (T:String) (x:V) (H:Hp):Prop:=match x with
 | .str _=>T="str"
 | .int _=>T="int"
 | .ref p=>(T="list"/\∃xs,eF K H p xs)\/(T="tuple"/\∃o,K.lookup p=some o/\o.cls=.type "tuple"/\o.dict=none)\/
    (T="dict"/\((∃kvs,H p=some (.dK kvs))\/∃kvs,H p=some (.dT kvs)))\/(T="set"/\∃S n,H p=some (.set S n))
 |_=>False
theorem Gn {pins:List (Addr × Obj)}{σ:St}{H:Hp}{s:Shared}{T:String}{x:V}{v:Value}(I:Inv X pins σ H s)(r:RelV x v)(ty:A2 X.K T x H):
 s.TypeIs v T/\∀a,v=.ref a->∃U,s.heap.get? a=some U/\U.dict=none:=by
 cases x with
 |str z=>
  obtain⟨t,rfl⟩:=r
  cases(show T="str" from ty);exact⟨typeIs_str s z t,λ_ e=>nomatch e⟩
 |int i=>
  obtain⟨t,rfl⟩:=r
  cases(show T="int" from ty);exact⟨typeIs_int s i t,λ_ e=>nomatch e⟩
 |ref p=>
  cases r;rcases ty with⟨rfl,xs,Y⟩|⟨rfl,o,hk,hc,J⟩|⟨rfl,hk⟩|⟨rfl,S,n,hk⟩
  . obtain⟨aa,_,pl,_⟩:=I.list Y;refine⟨pl.isList.typeIs,λa e=>?_⟩
    cases e;obtain⟨o,n,e,c,J,_⟩:=pl;exact⟨o,e,J⟩
  . refine⟨⟨o,I.gM p o hk,hc⟩,λa e=>?_⟩
    cases e;exact⟨o,I.gM _ o hk,J⟩
  . have z:∃o,s.heap.get? p=some o/\o.ExactDict:=by
     rcases hk with⟨kvs,hk⟩|⟨kvs,hk⟩
     . obtain⟨_,_,_,_,o,_,_,e,ex,_⟩:=I.hok p _ hk;exact⟨o,e,ex⟩
     . obtain⟨_,_,_,_,o,_,_,e,ex,_⟩:=I.hok p _ hk;exact⟨o,e,ex⟩
    obtain⟨o,e,ex⟩:=z;refine⟨⟨o,e,ex.1⟩,λa L=>?_⟩
    cases L;exact⟨o,e,ex.2.1⟩
  . obtain⟨o,_,_,_,e,ex,_⟩:=I.hok p _ hk;refine⟨⟨o,e,ex.1⟩,λa L=>?_⟩
    cases L;exact⟨o,e,ex.2.1⟩
 |_=>exact False.elim ty
def Gp (K:W.Frag) (T:String) (r:V->List V->Hp->VK->Prop) (to:TE) (t:TA):TE:=λσ H Q=>to σ H λx H1=>A2 K T x H1/\t σ H1 λxs H2=>r x xs H2 Q
variable {o e:Expr}{es:List Expr}{to:TE}{t:TA}{name:Str}{apos cpos:Pos}{T id:String}{r:V->List V->Hp->VK->Prop}
theorem lG (pa:PlainAttrs T)(slot:Slot T name id)(aa:typeOf (.builtin id)=pure (.type "method_descriptor"))(hm:qS X id r)(ho:PE X o to)(ha:PA X (e::es) t)
 (J:attributeBase o name X.env (eval o X.env)=eval o X.env:=by rfl)
 (Y:((backTo cpos (starEach (e::es) X.env)).all (λx=> !x.1) && (backToKw cpos (keywordEach [] X.env)).all (λx=>x.1.isSome)
   && decide ((e::es).length+([]:List Keyword).length+(if([]:List Keyword).isEmpty then 0 else 1)<30))=true:=by rfl)
 (L:(apos.endLine == cpos.line)=true:=by rfl) (hs:starEach (e::es) X.env=(false,eval e X.env)::starEach es X.env:=by rfl) (z:(backTo cpos (starEach es X.env)).any (·.1)=false:=by rfl):
 PE X (.Call (.Attribute o name apos) (e::es) [] cpos) (Gp X.K T r to t):=by
 intro pins s σ H Q I h;refine wpAny_Call_method_late J Y L rfl (eU (ho pins s σ H _ I h) λv s1 zq=>?_);obtain⟨x,H1,I1,r1,ty,q1⟩:=zq;obtain⟨h1,h2⟩:=Gn I1 r1 ty;refine⟨T,id,pa,slot,aa,h1,h2,?_⟩;have hA:=ha cpos pins s1 σ H1 _ I1 q1;rw[hs] at hA ⊢;refine Calls.callWith_builtin (by show(false || (backTo cpos (starEach es X.env)).any (·.1))=false;rw[z] <;> rfl) (Calls.evalArgs_plain ?_);exact eU hA λus s2 ⟨vs,H2,I2,r2,q2⟩=>hm pins s2 σ H2 x vs v us Q I2 r1 r2 q2
/- xs.append(e),list.index on a U tuple .. ac qS ab of 06m -/
end
def A4 (X:Cx) (id:String) (r:V->List V->Hp->VK->Prop):Prop:=
 ∀(pins:List (Addr × Obj)) (s:Shared) (σ:St) (H:Hp) (x:V) (xs:List V) (v:Value) (us:List Value) (Q:VK),Inv X pins σ H s->RelV x v->Vals xs us->r x xs H Q->
  wpAny (model X.prog X.w) X.A (call (.builtin id) (v::us)) (EP X pins σ Q) X.xe s
theorem Vals.one:∀{x:V}{us:List Value},Vals [x] us->∃u,us=[u]/\RelV x u
 |_,_,.cons r .nil=>⟨_,rfl,r⟩
section
variable {X:Cx}{pins:List (Addr × Obj)}{σ:St}{H:Hp}{s:Shared}{l b:Addr}{xs ys zs:List V}
theorem Inv.A5 {z its':List Value}{n:Nat}{f:Array Value->Array Value}{t':Nat}(I:Inv X pins σ H s)(J:H l=some (.lst xs))
 (e:s.heap.get? l=some { cls:=.type "list",data:=.seq z.toArray n }) (L:f z.toArray=its'.toArray) (U:Vals ys its') (Y:ys.length<=sizeLine):
 Inv X pins σ (upd H l (.lst ys)) { s with heap:=s.heap.update l (Obj.mapSeq f),toks:=t' }:=by
 have q:=PySem.IsL.update e f;rw[L] at q;refine I.write (x:=l) (e:=l) (by rw[J];exact trivial) (.inl rfl) (λb' u hb hu=>(Q18 s.heap (Obj.mapSeq f) (Ne.symm hb)).trans hu) ⟨_,q⟩ ?_;exact⟨Y,its',_,U,q⟩
theorem Inv.Gq {z:List Value}{t':Nat}(I:Inv X pins σ H s)(J:Vals ys z)(L:ys.length<=sizeLine):
 Inv X pins σ (upd H s.heap.objs.size (.lst ys)) { s with heap:=s.heap.push { cls:=.type "list",data:=.seq z.toArray },toks:=t' }:=
 I.laid (λ_ _ q=>Q07 _ q) (Q00 _) ⟨L,z,0,J,Q0n _ rfl⟩
theorem Inv.fresh (I:Inv X pins σ H s):H s.heap.objs.size=none:=I.hok.fresh (Q00 _)
theorem Inv.qT (I:Inv X pins σ H s)(L:H l=some (.lst xs)):xs.length<=sizeLine/\∃(J:List Value) (n:Nat),Vals xs J/\xs.length=J.length/\s.heap.get? l=some { cls:=.type "list",data:=.seq J.toArray n }:=by
 obtain⟨z,J,n,r,e⟩:=I.hok l _ L;exact⟨z,J,n,r,r.length,e⟩
end
section
variable {X:Cx}
def Gr:V->List V->Hp->VK->Prop:=λx vs H Q=>∃l xs y,x=.ref l/\vs=[y]/\H l=some (.lst xs)/\xs.length<sizeLine/\Q .non (upd H l (.lst (xs++[y])))
theorem pK:A4 X "list.append" Gr:=by
 intro pins s σ H x vs v us Q I U Y h;obtain⟨l,xs,y,rfl,rfl,L,hz,q⟩:=h
 cases U;obtain⟨u,rfl,ru⟩:=Y.one;obtain⟨z,J,n,r,hl,e⟩:=I.qT L;refine call_meets F.slot_list_append ⟨_,e,rfl⟩ F.entry_list_append (F.args_list_append_2 _ _) (PySem.list_append l J.toArray n u (by rw[Q09];omega)) ⟨e,?_⟩;refine⟨.non,_,I.A5 (its':=J++[u]) L e (by simp) (r.append (.cons ru .nil)) ?_,rfl,q⟩;rw[Q0c,Q19];omega
def Gs:R2:=λx y H Q=>∃l b xs zs,x=.ref l/\y=.ref b/\H l=some (.lst xs)/\H b=some (.lst zs)/\xs.length+zs.length<=sizeLine/\∀p,H p=none->Q (.ref p) (upd H p (.lst (xs++zs)))
theorem nj:ij X (binaryOp .Add) Gs:=by
 intro pins s σ H x y v u Q I U Y h;obtain⟨l,b,xs,zs,rfl,rfl,hH,hB,hz,q⟩:=h
 cases U
 cases Y;obtain⟨z,L,n,r,hl,e⟩:=I.qT hH;obtain⟨z2,J,n2,r2,aa,e2⟩:=I.qT hB;refine PySem.P.add_list e e2 ?_ (by rw[Q09,Q09];omega);have ea:L.toArray++J.toArray=(L++J).toArray:=by simp
 rw[ea];exact⟨.ref _,_,I.Gq (t':=s.toks) (r.append r2) (by rw[Q0c];omega),rfl,q _ I.fresh⟩
end
section
variable {prog:Program}{w:World}{A:Around}{E:Value->Shared->Prop}{s:Shared}
end
section
variable {X:Cx}
end
section
variable {κ:Type} [DecidableEq κ]
noncomputable def ft (kvs:List (κ × V)) (k:κ):Option V:=(kvs.find? λz=>decide (z.1=k)).map (·.2)
noncomputable def putK (kvs:List (κ × V)) (k:κ) (v:V):List (κ × V):=
 if(kvs.any λz=>decide (z.1=k))=true then kvs.map (λz=>if z.1=k then(z.1,v) else z) else kvs++[(k,v)]
noncomputable def ji (kvs:List (κ × V)) (k:κ):List (κ × V):=kvs.filter λz=>decide (z.1≠k)
theorem jP {p:κ × V}{r:List (κ × V)}{k:κ}(e:p.1=k):ft (p::r) k=some p.2:=by simp[ft,Q1g,e]
theorem jQ {p:κ × V}{r:List (κ × V)}{k:κ}(e:¬p.1=k):ft (p::r) k=ft r k:=by simp[ft,Q1g,e]
theorem kP (k:κ):∀kvs:List (κ × V),(kvs.any λz=>decide (z.1=k))=(ft kvs k).isSome
 |[]=>rfl
 |p::r=>by
  rw[Q1f];by_cases e:p.1=k
  . simp only[jP e,decide_eq_true e,Bool.true_or,Option.isSome_some]
  . rw[jQ e,decide_eq_false e,Bool.false_or];exact kP k r
theorem A6 (k j:κ)(y:V):∀kvs:List (κ × V),ft (kvs.map λJ=>if J.1=k then(J.1,y) else J) j=(ft kvs j).map λx=>if j=k then y else x
 |[]=>rfl
 |p::r=>by
  have L:=A6 k j y r;rw[Q0t];by_cases h:p.1=k
  . rw[if_pos h];by_cases e:p.1=j
    . rw[jP (p:=(p.1,y)) e,jP e,Q21,if_pos (e.symm.trans h)]
    . rw[jQ (p:=(p.1,y)) e,jQ e,L]
  . rw[if_neg h];by_cases e:p.1=j
    . rw[jP (p:=p) e,jP e,Q21,if_neg (λz=>h (e.trans z))]
    . rw[jQ (p:=p) e,jQ e,L]
theorem A7 (k j:κ)(y:V):∀kvs:List (κ × V),ft kvs k=none->ft (kvs++[(k,y)]) j=if j=k then some y else ft kvs j
 |[],_=>by
  by_cases e:k=j
  . rw[if_pos e.symm];exact jP (p:=(k,y)) e
  . rw[if_neg (λz=>e z.symm)];exact jQ (p:=(k,y)) e
 |p::r,J=>by
  rw[List.cons_append];have hk:¬p.1=k:=λz=>by rw[jP z] at J;cases J
  rw[jQ hk] at J;have L:=A7 k j y r J;by_cases e:p.1=j
  . rw[jP e,jP e,if_neg (λz=>hk (e.trans z))]
  . rw[jQ e,jQ e,L]
theorem A8 (kvs:List (κ × V))(k j:κ)(y:V):ft (putK kvs k y) j=if j=k then some y else ft kvs j:=by
 unfold putK;by_cases a:(kvs.any λz=>decide (z.1=k))=true
 . rw[if_pos a,A6];rw[kP] at a;by_cases e:j=k
   . obtain⟨x,J⟩:=Option.isSome_iff_exists.mp a;rw[if_pos e,e,J,Q21,if_pos rfl]
   . rw[if_neg e]
     cases ft kvs j with
     |none=>rfl
     |some x=>rw[Q21,if_neg e]
 . rw[if_neg a];refine A7 k j y kvs ?_;rw[kP] at a
   cases q:ft kvs k with
   |none=>rfl
   |some x=>rw[q] at a;exact(a rfl).elim
theorem A9 (kvs:List (κ × V))(k:κ)(v:V):(putK kvs k v).length<=kvs.length+1:=by
 unfold putK;split
 . rw[Q02];omega
 . rw[Q0c,Q0j,Q3];omega
theorem i2.pL {o:Option V}{u:Option Value}(r:i2 o u):o.isSome=u.isSome:=by
 cases o with
 |none=>cases u with
  |none=>rfl
  |some _=>exact(show False from r).elim
 |some _=>cases u with
  |none=>exact(show False from r).elim
  |some _=>rfl
theorem KV.val {kvs:List (κ × V)}{vs:List (κ × Value)}(r:KV kvs vs)(k:κ):i2 (ft kvs k) (valueAt vs k):=by
 unfold KV at r
 induction r with
 |nil=>exact True.intro
 |@cons p q ps J h t U=>
  obtain⟨h1,h2⟩:=h;by_cases e:p.1=k
  . have L:q.1=k:=h1.symm.trans e;have b:valueAt (q::J) k=some q.2:=by simp[valueAt,Q1g,L]
    rw[jP e,b];exact h2
  . have L:¬q.1=k:=λz=>e (h1.trans z);have b:valueAt (q::J) k=valueAt J k:=by simp[valueAt,Q1g,L]
    rw[jQ e,b];exact U
theorem KV.any {kvs:List (κ × V)}{vs:List (κ × Value)}(r:KV kvs vs)(k:κ):(kvs.any λz=>decide (z.1=k))=vs.any λz=>decide (z.1=k):=by
 unfold KV at r
 induction r with
 |nil=>rfl
 |cons h t J=>rw[Q1f,Q1f,J,h.1]
theorem KV.repl {kvs:List (κ × V)}{vs:List (κ × Value)}(r:KV kvs vs)(k:κ){y:V}{u:Value}(L:RelV y u):
 KV (kvs.map λJ=>if J.1=k then(J.1,y) else J) (vs.map λJ=>if J.1=k then(J.1,u) else J):=by
 unfold KV at r ⊢
 induction r with
 |nil=>exact .nil
 |@cons p q ps Y h t U=>
  rw[Q0t,Q0t];refine .cons ?_ U;obtain⟨h1,h2⟩:=h;by_cases e:p.1=k
  . rw[if_pos e,if_pos (h1.symm.trans e)];exact⟨h1,L⟩
  . rw[if_neg e,if_neg (λz=>e (h1.trans z))];exact⟨h1,h2⟩
theorem KV.put {kvs:List (κ × V)}{vs:List (κ × Value)}(r:KV kvs vs)(k:κ){y:V}{u:Value}(z:RelV y u):KV (putK kvs k y) (stored vs k u):=by
 unfold putK stored;rw[r.any k];by_cases e:(vs.any λJ=>decide (J.1=k))=true
 . rw[if_pos e,if_pos e];exact r.repl k z
 . rw[if_neg e,if_neg e];exact Paired.snoc r ⟨rfl,z⟩
theorem KV.drop {kvs:List (κ × V)}{vs:List (κ × Value)}(r:KV kvs vs)(k:κ):KV (ji kvs k) (without vs k):=by
 unfold KV at r ⊢;unfold ji without
 induction r with
 |nil=>exact .nil
 |@cons p q ps U h t J=>
  obtain⟨h1,h2⟩:=h;rw[Q0z,Q0z];by_cases e:p.1=k
  . have a:¬decide (p.1≠k)=true:=by simp[e]
    have b:¬decide (q.1≠k)=true:=by simp[h1.symm.trans e]
    rw[if_neg a,if_neg b];exact J
  . have L:¬q.1=k:=λz=>e (h1.trans z);have a:decide (p.1≠k)=true:=by simp[e]
    have b:decide (q.1≠k)=true:=by simp[L]
    rw[if_pos a,if_pos b];exact .cons ⟨h1,h2⟩ J
theorem KV.length {kvs:List (κ × V)}{vs:List (κ × Value)}(r:KV kvs vs):kvs.length=vs.length:=Paired.length r
theorem Gu (kvs:List (κ × V))(k:κ):(ji kvs k).length<=kvs.length:=Q0i _ _
end
theorem om {P:Program}{w:World}{k:Key}{u:Value}(r:RelV (kV k) u):(gL P w).is k u=true:=by
 cases k with
 |inl i=>obtain⟨t,e⟩:=(show ∃t,u=Value.int i t from r);subst e;exact E8 P w i t
 |inr x=>obtain⟨t,e⟩:=(show ∃t,u=Value.str x t from r);subst e;exact E9 P w x t
theorem A_ {P:Program}{w:World}:∀{ks:List Key}{us:List Value},Vals (ks.map kV) us->ItemsAre (gL P w) ks us
 |[],_,r=>by rw[List.map_nil] at r;cases r;exact .nil
 |k::ks,_,r=>by
  rw[Q0t] at r
  cases r with
  |cons h t=>exact .cons (om h) (A_ t)
abbrev KT (H:Hp):List (List Key × V)->List (List Key × Addr × Value)->Prop:=Paired λp q=>p.1=q.1/\H q.2.1=some (.tup (p.1.map kV))/\RelV p.2 q.2.2
theorem KT.val {H:Hp}{kvs:List (List Key × V)}{xs:List (List Key × Addr × Value)}(r:KT H kvs xs)(k:List Key):i2 (ft kvs k) ((atKey xs k).map (·.2)):=by
 induction r with
 |nil=>exact True.intro
 |@cons p q ps J h t U=>
  obtain⟨h1,_,h2⟩:=h;by_cases e:p.1=k
  . have L:q.1=k:=h1.symm.trans e;have b:atKey (q::J) k=some q.2:=by simp[atKey,Q1g,L]
    rw[jP e,b];exact h2
  . have L:¬q.1=k:=λz=>e (h1.trans z);have b:atKey (q::J) k=atKey J k:=by simp[atKey,Q1g,L]
    rw[jQ e,b];exact U
theorem KT.repl {H:Hp}{kvs:List (List Key × V)}{xs:List (List Key × Addr × Value)}(r:KT H kvs xs)(k:List Key){y:V}{u:Value}(L:RelV y u):
 KT H (kvs.map λJ=>if J.1=k then(J.1,y) else J) (xs.map (putAt k u)):=by
 induction r with
 |nil=>exact .nil
 |@cons p q ps qs h t U=>
  rw[Q0t,Q0t];refine .cons ?_ U;obtain⟨h1,h2,Y⟩:=h;unfold putAt;by_cases e:p.1=k
  . rw[if_pos e,if_pos (h1.symm.trans e)];exact⟨h1,h2,L⟩
  . rw[if_neg e,if_neg (λz=>e (h1.trans z))];exact⟨h1,h2,Y⟩
theorem KT.put {H:Hp}{kvs:List (List Key × V)}{xs:List (List Key × Addr × Value)}(r:KT H kvs xs)(k:List Key){b:Addr}{y:V}{u:Value}(J:H b=some (.tup (k.map kV)))(z:RelV y u):
 KT H (putK kvs k y) (storedH xs k b u):=by
 have e:(kvs.any λL=>decide (L.1=k))=(atKey xs k).isSome:=by
  rw[kP,(r.val k).pL,Q2g]
 unfold putK storedH;rw[e];by_cases q:(atKey xs k).isSome=true
 . rw[if_pos q,if_pos q];exact r.repl k z
 . rw[if_neg q,if_neg q];exact Paired.snoc r ⟨rfl,J,z⟩
theorem KT.keeps {H H':Hp}{kvs:List (List Key × V)}{xs:List (List Key × Addr × Value)}(r:KT H kvs xs)(ht:∀b ys,H b=some (.tup ys)->H' b=some (.tup ys)):KT H' kvs xs:=
 Paired.qD r λ_ _ z=>⟨z.1,ht _ _ z.2.1,z.2.2⟩
section
variable {P:Program}{w:World}{H:Hp}{h:Heap}{a:Addr}
theorem Ba {u:HO}(ok:gD P w H h)(e:Rd H a u):gJ P w H h a u:=e.ok ok
theorem oo {kvs:List (Key × V)}(ok:gD P w H h)(e:Rd H a (.dK kvs)):kvs.length<=sizeLine/\(a == sysModules)=false/\∃vs,KV kvs vs/\h.DictOf (gL P w) a vs:=
 show gJ P w H h a (.dK kvs) from Ba ok e
theorem pM {kvs:List (Key × V)}(ok:gD P w H h)(e:H a=some (.dK kvs)):kvs.length<=sizeLine/\(a == sysModules)=false/\∃vs,KV kvs vs/\h.DictOf (gL P w) a vs:=oo ok (.inl e)
theorem pN {ks:List Key}(ok:gD P w H h)(e:H a=some (.tup (ks.map kV))):(tupleKind (gL P w)).is h ks a:=by
 obtain⟨_,z,r,o,h1,h2,n,J⟩:=(show gJ P w H h a (.tup (ks.map kV)) from ok a _ e);exact⟨o,z.toArray,n,h1,h2,J,by simpa using A_ r⟩
theorem pO {kvs:List (List Key × V)}(ok:gD P w H h)(e:Rd H a (.dT kvs)):kvs.length<=sizeLine/\(a == sysModules)=false/\
 ∃xs,KT H kvs xs/\h.DictOfH (tupleKind (gL P w)) a xs:=by
 obtain⟨z,y,xs,r,o,es,U,h1,h2,Y,h4,h5⟩:=(show gJ P w H h a (.dT kvs) from Ba ok e);refine⟨z,y,xs,r,o,es,U,h1,h2,Y,h4,λx J=>?_,h5⟩
 have all:∀{l:List (List Key × V)} {m:List (List Key × Addr × Value)},KT H l m->∀x∈m,(tupleKind (gL P w)).is h x.1 x.2.1:=by
  intro l m q
  induction q with
  |nil=>intro x J;exact nomatch J
  |@cons p q ps qs L t ih=>
   intro x J;rcases List.mem_cons.mp J with e|J
   . subst e;exact pN ok (by rw[<-L.1];exact L.2.1)
   . exact ih x J
 exact all r x J
theorem Gv {kvs:List (List Key × V)}(ok:gD P w H h)(e:H a=some (.dT kvs)):kvs.length<=sizeLine/\(a == sysModules)=false/\
 ∃xs,KT H kvs xs/\h.DictOfH (tupleKind (gL P w)) a xs:=pO ok (.inl e)
end
def gc (H:Hp) (a:Addr) (y:V) (r:Option V):Prop:=
 (∃kvs k,Rd H a (.dK kvs)/\y=kV k/\r=ft kvs k)\/∃kvs k b,Rd H a (.dT kvs)/\y=.ref b/\H b=some (.tup (k.map kV))/\r=ft kvs k
def jj (H:Hp) (a:Addr) (y v:V) (H':Hp):Prop:=
 (∃kvs k,H a=some (.dK kvs)/\y=kV k/\kvs.length<sizeLine/\H'=upd H a (.dK (putK kvs k v)))\/
 ∃kvs k b,H a=some (.dT kvs)/\y=.ref b/\H b=some (.tup (k.map kV))/\kvs.length<sizeLine/\H'=upd H a (.dT (putK kvs k v))
theorem gc.k {H:Hp}{a:Addr}{kvs:List (Key × V)}{k:Key}(e:H a=some (.dK kvs)):gc H a (kV k) (ft kvs k):=.inl ⟨kvs,k,.inl e,rfl,rfl⟩
theorem jj.k {H:Hp}{a:Addr}{kvs:List (Key × V)}{k:Key}{v:V}(e:H a=some (.dK kvs))(hl:kvs.length<sizeLine):jj H a (kV k) v (upd H a (.dK (putK kvs k v))):=.inl ⟨kvs,k,e,rfl,hl,rfl⟩
section
variable {X:Cx}{pins:List (Addr × Obj)}{σ:St}{H:Hp}{s:Shared}{a:Addr}{y v:V}{u r:Value}{o:Option V}{A:Around}{E:Value->Shared->Prop}
theorem Inv.big (I:Inv X pins σ H s):sysModules<s.heap.objs.size:=by
 have h:mainGlobals<s.heap.objs.size:=(I.mod.glob.keeps I.bk).lt;exact Nat.lt_trans (by decide) h
theorem Gw {Q:Value->Shared->Prop}(hu:A.units+1<cLine)(I:Inv X pins σ H s)(g:gc H a y (some v))(ry:RelV y u)(h:∀U s',Inv X pins σ H s'->RelV v U->Q U s'):
 wpAny (model X.prog X.w) A (getItem (.ref a) u) Q E s:=by
 rcases g with⟨kvs,k,e,Y,l⟩|⟨kvs,k,b,e,Y,eb,l⟩
 . subst Y;obtain⟨z,hd,vs,J,dd⟩:=oo I.hok e;obtain⟨U,hw,L⟩:=i2.some_of (v:=v) (o:=valueAt vs k) (by rw[l];exact J.val k);exact wpAny_getItem_of (om ry) dd.mapOf hw (h U _ (I.tok _) L)
 . subst Y
   cases(show u=Value.ref b from ry);obtain⟨z,hd,xs,J,dd⟩:=pO I.hok e;obtain⟨U,hw,L⟩:=i2.some_of (v:=v) (o:=(atKey xs k).map (·.2)) (by rw[l];exact J.val k);obtain⟨p,hp,aa⟩:=Option.map_eq_some_iff.mp hw;refine wpAny_getItem_heap (tupleKind_room_in1 hu) (pN I.hok eb) dd hp ?_;rw[aa];exact h U _ (I.tok _) L
theorem Gx {Q:Value->Shared->Prop}(hu:A.units+1<cLine)(I:Inv X pins σ H s)(g:gc H a y o)(ry:RelV y u)(h:∀s',Inv X pins σ H s'->Q (.bool o.isSome) s'):
 wpAny (model X.prog X.w) A (compareOp .In u (.ref a)) Q E s:=by
 rcases g with⟨kvs,k,e,L,l⟩|⟨kvs,k,b,e,L,eb,l⟩
 . subst L;obtain⟨z,U,vs,J,Y⟩:=oo I.hok e;refine wpAny_in_of (om ry) U Y.mapOf ?_;rw[<-(J.val k).pL,<-l];exact h _ (I.tok _)
 . subst L
   cases(show u=Value.ref b from ry);obtain⟨z,U,xs,J,Y⟩:=pO I.hok e;refine wpAny_in_heap (tupleKind_room_in1 hu) (pN I.hok eb) U Y ?_;have q:=(J.val k).pL;rw[Q2g] at q;rw[<-q,<-l];exact h _ (I.tok _)
theorem Gy {Q:Value->Shared->Prop}(hu:A.units+1<cLine)(I:Inv X pins σ H s)(g:gc H a y o)(ry:RelV y u)(h:∀s',Inv X pins σ H s'->Q (.bool (!o.isSome)) s'):
 wpAny (model X.prog X.w) A (compareOp .NotIn u (.ref a)) Q E s:=by
 rcases g with⟨kvs,k,e,L,l⟩|⟨kvs,k,b,e,L,eb,l⟩
 . subst L;obtain⟨z,U,vs,J,Y⟩:=oo I.hok e;refine wpAny_notIn_of (om ry) U Y.mapOf ?_;rw[<-(J.val k).pL,<-l];exact h _ (I.tok _)
 . subst L
   cases(show u=Value.ref b from ry);obtain⟨z,U,xs,J,Y⟩:=pO I.hok e;refine wpAny_notIn_heap (tupleKind_room_in1 hu) (pN I.hok eb) U Y ?_;have q:=(J.val k).pL;rw[Q2g] at q;rw[<-q,<-l];exact h _ (I.tok _)
theorem qU {h':Heap}{t':Nat}{J:HO}(I:Inv X pins σ H s)(mu:pq (H a))(L:Heap.SameBut a s.heap h')(U:∃q,h'.get? a=some q)(new:gJ X.prog X.w (upd H a J) h' a J):
 Inv X pins σ (upd H a J) { s with heap:=h',toks:=t' }:=
 I.write (x:=a) (e:=a) mu (.inl rfl) (λb q Y z=>(L.2 b Y).trans z) U new
theorem tY {P:Program}{w:World}{H':Hp}{h':Heap}{kvs:List (Key × V)}{vs:List (Key × Value)}(z:kvs.length<=sizeLine)(L:(a == sysModules)=false)(J:KV kvs vs)(U:h'.DictOf (gL P w) a vs):
 gJ P w H' h' a (.dK kvs):=⟨z,L,vs,J,U⟩
theorem Gz {H':Hp}{Q:Unit->Shared->Prop}(hu:A.units+1<cLine)(I:Inv X pins σ H s)(g:jj H a y v H')(ry:RelV y u)(rv:RelV v r)(h:∀s',Inv X pins σ H' s'->Q () s'):
 wpAny (model X.prog X.w) A (setItem (.ref a) u r) Q E s:=by
 rcases g with⟨kvs,k,e,Y,l,eH⟩|⟨kvs,k,b,e,Y,eb,l,eH⟩
 . subst Y eH;obtain⟨z,hd,vs,J,dd⟩:=pM I.hok e;have hz:vs.length<=sizeLine:=by rw[<-J.length];exact z
   have hl:(putK kvs k v).length<=sizeLine:=by have:=A9 kvs k v;omega
   refine wpAny_setItem_pairs (hsz:=hz) (om ry) dd λh' L hs=>h _ ?_;have he:∃q,h'.get? a=some q:=let⟨q,_,_,U,_⟩:=L;⟨q,U⟩
   exact qU I (by rw[e];exact True.intro) hs he (tY hl hd (J.put k rv) L)
 . subst Y eH
   cases(show u=Value.ref b from ry);obtain⟨z,hd,xs,J,dd⟩:=Gv I.hok e;have hz:xs.length<=sizeLine:=by rw[<-Paired.length J];exact z
   have hl:(putK kvs k v).length<=sizeLine:=by have:=A9 kvs k v;omega
   refine wpAny_setItem_heap (hsz:=hz) (tupleKind_room_in1 hu) (pN I.hok eb) dd λh' L hs=>h _ ?_;obtain⟨q,es,ep,U,h2,h3,h4,_,h5⟩:=L;refine qU I (by rw[e];exact True.intro) hs ⟨q,U⟩ ⟨hl,hd,_,(J.put k eb rv).keeps λc ys ec=>?_,q,es,ep,U,h2,h3,h4,h5⟩;rw[eA (iB ec e (λz=>nomatch z))];exact ec
end
section
variable {X:Cx}{pins:List (Addr × Obj)}{σ:St}{H:Hp}{s:Shared}{a:Addr}{kvs:List (Key × V)}{k:Key}{u:Value}{A:Around}{E:Value->Shared->Prop}
theorem GA {v:V}{J:List Value}{Q:Value->Shared->Prop}(I:Inv X pins σ H s)(e:H a=some (.dK kvs))(ry:RelV (kV k) u)(l:ft kvs k=some v)(hm:J=[]\/∃x,J=[x])
 (h:∀U s',Inv X pins σ (upd H a (.dK (ji kvs k))) s'->RelV v U->Q U s'):wpAny (model X.prog X.w) A (call (.builtin "dict.pop") (.ref a::u::J)) Q E s:=by
 obtain⟨z,hd,vs,L,dd⟩:=pM I.hok e;obtain⟨U,hw,aa⟩:=i2.some_of (v:=v) (o:=valueAt vs k) (by rw[<-l];exact L.val k)
 have hp:(keyPart u).isSome=true:=by
  cases k with
  |inl i=>obtain⟨t,q⟩:=(show ∃t,u=Value.int i t from ry);subst q;rfl
  |inr x=>obtain⟨t,q⟩:=(show ∃t,u=Value.str x t from ry);subst q;rfl
 have ha:argsOk "dict.pop" ⟨.ref a::u::J,[]⟩:=by
  rcases hm with q|⟨x,q⟩
  . subst q;exact PySem.F.args_dict_pop_2 _ _
  . subst q;exact PySem.F.args_dict_pop_3 _ _ _
 refine call_meetsIn PySem.F.slot_dict_pop dd.typeIs PySem.F.entry_dict_pop ha (meets_dict_pop_there (gL X.prog X.w) a (om ry) J hm hp)
  ⟨vs,U,dd,by rw[<-L.length];exact z,hw,λh' Y hs=>h U _ ?_ aa⟩
 have he:∃q,h'.get? a=some q:=let⟨q,_,_,hq,_⟩:=Y;⟨q,hq⟩
 exact qU I (by rw[e];exact True.intro) hs he (tY (Q05 (Gu kvs k) z) hd (L.drop k) Y)
theorem GB {Q:Value->Shared->Prop}(I:Inv X pins σ H s)(e:Rd H a (.dK kvs))(h:∀t s',Inv X pins σ H s'->Q (.int kvs.length t) s'):wpAny (model X.prog X.w) A (call (.builtin "len") [.ref a]) Q E s:=by
 obtain⟨z,L,vs,J,U⟩:=oo I.hok e;refine call_len_dict L U (by rw[<-J.length];rw[sizeLine_eq] at z;omega) ?_;rw[<-J.length];exact h _ _ (I.tok _)
end
def Bb (i:Expr):Prop:=∀z J,subscripted i false z J=operate [z,J] (getItem z J)
theorem GC {prog:Program}{w:World}{A:Around}{E:Value->Shared->Prop}{s:Shared}{env:Env}{value z:Expr}{pos:Pos}{T id:String}{Q:Value->Shared->Prop}
 (hl:typeLookup (.type T) "__getitem__"=pure (some (.builtin id))) (hs:Bb z)
 (h:wpAny (model prog w) A (eval value env) (λo U=>wpAny (model prog w) A (eval z env) (λi J=>J.TypeIs o T/\wpAny (model prog w) A (getItem o i) Q E J) E U) E s):
 wpAny (model prog w) A (eval (.Subscript value z pos) env) Q E s:=by
 refine Subscript_ (Q0m h (λo U aa=>Q0m aa (λi J L=>?_) λ_ _ x=>x) λ_ _ x=>x);obtain⟨hT,L⟩:=L;unfold subscriptTail;refine Q0 ?_;rw[getitemInPython_of_ne hT.not_modules];refine Q0 (wpAny_specialOf hT hl ?_)
 have fin:wpAny (model prog w) A (subscripted z false o i) (λr Y=>wpAny (model prog w) A (letTemporaryGo value o r >>= λ_=>pure r) Q E Y) E J:=by
  rw[hs o i];exact wpAny_operating (Q0m L (λr Y ab=>Q0 (wpAny_letTemporaryGo (Q0a ab))) λ_ _ x=>x)
 first
  |exact Q0a (Q0 fin)
  |exact Q0 (Q0a (Q0 fin))
  |exact Q0 fin
theorem GD {X:Cx}{pins:List (Addr × Obj)}{σ:St}{H:Hp}{s:Shared}{a:Addr}{y:V}{o:Option V}(I:Inv X pins σ H s)(g:gc H a y o):s.TypeIs (.ref a) "dict":=by
 rcases g with⟨kvs,k,e,_,_⟩|⟨kvs,k,b,e,_,_,_⟩
 . obtain⟨_,_,vs,_,z⟩:=oo I.hok e;exact z.typeIs
 . obtain⟨_,_,xs,_,z⟩:=pO I.hok e;exact z.typeIs
def GF (td ty:TE):TE:=λσ H Q=>td σ H λx H1=>ty σ H1 λy H2=>∃a v,x=.ref a/\gc H2 a y (some v)/\Q v H2
def GH (ty td:TE):TE:=λσ H Q=>ty σ H λy H1=>td σ H1 λx H2=>∃a o,x=.ref a/\gc H2 a y o/\Q (.bl o.isSome) H2
def GI (ty td:TE):TE:=λσ H Q=>ty σ H λy H1=>td σ H1 λx H2=>∃a o,x=.ref a/\gc H2 a y o/\Q (.bl (!o.isSome)) H2
def GJ (td ty tv:TE):TS:=λD σ H=>tv σ H λv H1=>td σ H1 λx H2=>ty σ H2 λy J=>∃a z,x=.ref a/\jj J a y v z/\D.nx σ z
section
variable {X:Cx}{o i e value:Expr}{pos pos' tpos:Pos}{td ty tv:TE}
theorem iw (L:X.A.units+1<cLine)(U:PE X o td)(hi:PE X i ty)(Y:Bb i):PE X (.Subscript o i pos) (GF td ty):=by
 intro pins s σ H Q I h;refine GC PySem.F.slot_dict_getitem.lookup Y (eU (U pins s σ H _ I h) λu s1 ⟨x,H1,I1,rx,q1⟩=>eU (hi pins s1 σ H1 _ I1 q1) λiv s2 zq=>?_);obtain⟨y,H2,J,ry,a,v,ex,g,q2⟩:=zq;subst ex;obtain rfl:u=Value.ref a:=rx;exact⟨GD J g,Gw L J g ry λw' s3 I3 z=>⟨v,H2,I3,z,q2⟩⟩
theorem qV (z:X.A.units+1<cLine)(hi:PE X i ty)(J:PE X o td):PC X .In i o (GH ty td):=by
 intro pins s σ H Q I h;refine eU (hi pins s σ H _ I h) λiv L ⟨y,H1,U,Y,q1⟩=>eU (J pins L σ H1 _ U q1) λu s2 zq=>?_;obtain⟨x,H2,I2,rx,a,ov,ex,g,q2⟩:=zq;subst ex;obtain rfl:u=Value.ref a:=rx;exact Gx z I2 g Y λs3 I3=>⟨.bl ov.isSome,H2,I3,rfl,q2⟩
theorem tZ (z:X.A.units+1<cLine)(hi:PE X i ty)(J:PE X o td):PC X .NotIn i o (GI ty td):=by
 intro pins s σ H Q I h;refine eU (hi pins s σ H _ I h) λiv L ⟨y,H1,U,Y,q1⟩=>eU (J pins L σ H1 _ U q1) λu s2 zq=>?_;obtain⟨x,H2,I2,rx,a,ov,ex,g,q2⟩:=zq;subst ex;obtain rfl:u=Value.ref a:=rx;exact Gy z I2 g Y λs3 I3=>⟨.bl (!ov.isSome),H2,I3,rfl,q2⟩
theorem jZ (z:X.A.units+1<cLine)(J:PE X o td)(hi:PE X i ty)(L:PE X value tv)(U:swapsWith value (some (.Subscript o i pos')) pos.line X.env=pure false):
 PS X (.Assign [.Subscript o i pos'] value pos) (GJ td ty tv):=by
 intro pins s σ H D I h;refine wpAny_Assign_Subscript (eU (L pins s σ H _ I h) λr Y ⟨v,H1,I1,rv,q1⟩=>eU (J pins Y σ H1 _ I1 q1) λu s2 ⟨x,H2,I2,rx,q2⟩=>eU (hi pins s2 σ H2 _ I2 q2) λiv s3 zq=>?_) U;obtain⟨y,H3,I3,ry,a,H4,ex,g,q3⟩:=zq;subst ex;obtain rfl:u=Value.ref a:=rx;exact Gz z I3 g ry rv λs4 I4=>⟨σ,H4,I4,q3⟩
end
theorem GK {P:Program}{w:World}{H:Hp}(h:Heap)(z:sysModules<h.objs.size):gJ P w H (h.push { cls:=.type "dict",data:=.dict #[] }) h.objs.size (.dK []):=
 ⟨Q0b _,beq_eq_false_iff_ne.mpr (Ne.symm (Q08 z)),[],.nil,Heap.DictOf.new h⟩
def GL:TE:=λ_ H Q=>∀p,H p=none->Q (.ref p) (upd H p (.dK []))
section
variable {X:Cx}{pos:Pos}
theorem nq:PE X (.Dict [] [] pos) GL:=λpins s σ H Q I h=>
 wpAny_Dict_empty ⟨.ref s.heap.objs.size,_,I.laid (a:=s.heap.objs.size) (o:=.dK []) (t':=s.toks) (λ_ _ q=>Q07 _ q) (Q00 _) (GK s.heap I.big),rfl,h _ (I.hok.fresh (Q00 _))⟩
end
section
variable {X:Cx}{pins:List (Addr × Obj)}{σ:St}{H:Hp}{s:Shared}{a:Addr}{y d:V}{u r:Value}{o:Option V}{A:Around}{E:Value->Shared->Prop}
end
section
variable {X:Cx}{o e f:Expr}{apos cpos:Pos}{td ty tx:TE}
end
section
variable {X:Cx}{pins:List (Addr × Obj)}{σ:St}{H:Hp}{s:Shared}{a:Addr}{kvs:List (Key × V)}{A:Around}{E:Value->Shared->Prop}
end
section
variable {X:Cx}{pins:List (Addr × Obj)}{σ:St}{H:Hp}{s:Shared}{a:Addr}{y:V}{u:Value}{A:Around}{E:Value->Shared->Prop}
end
end L2
namespace Bc
open W Calls PyProof.Rows
theorem GN {P:Params}{h:Heap}:∀(ns:List Int) (vs:List Value),WellAll P h vs (ns.map WData.int)->IntsAre vs ns:=by
 intro ns
 induction ns with
 |nil=>
  intro vs w;rw[List.map_nil] at w
  cases w;exact .nil
 |cons n ns z=>
  intro vs w;rw[Q0t] at w
  cases w with
  |cons a b=>
   cases a;exact .cons _ _ (z _ b)
theorem GO {l:OpenLaw}{n:Nat}(hn:l.most=some n){P:Params}{h:Heap}{args:List WData}{z:List Value}
 (J:l.row.toRowW.claim.pre args=true) (aa:WellAll P h z args):
 ∃a vs ns,z=[Value.ref a]/\args=[WData.list (ns.map WData.int)]/\h.get? a=some { cls:=.type "list",data:=.seq vs.toArray }/\IntsAre vs ns/\ns.length<=n:=by
 have ab:WShape.hasAll [] args [.list .int]=true:=(pre_splitW J).1;have hc:l.pre.holds [] { args:=args }=true:=(pre_splitW J).2;obtain⟨d,r,rfl,h1,h2⟩:=hasAllW_cons ab;obtain rfl:=hasAllW_nil h2;obtain⟨xs,rfl,h3⟩:=hasW_list h1;obtain⟨ns,rfl⟩:=items_int h3
 have L:ns.length<=n:=by
  unfold OpenLaw.pre at hc
  have Y:(WTm.not (.lt (.lit (.int (n:Int))) (.len (.arg 0)))).holds [] { args:=[.list (ns.map .int)] }=true:=by
   have Y:=(holds_andW hc).1;rw[hn] at Y;exact Y
  have h5:=condW_of Y (w_not (w_lt w_lit (w_len_list (w_arg rfl))));rw[Q02] at h5;refine Q0v λq=>?_;have q':(n:Int)<((ns.length:Nat):Int):=by omega
  first
   |(rw[decide_eq_true q'] at h5;exact absurd h5 (by decide))
   |(simp at h5;omega)
 cases aa with
 |cons w1 w2=>
  cases w2
  cases w1 with
  |list ho U=>exact⟨_,_,ns,rfl,rfl,ho,GN ns _ U,L⟩
theorem GP (l:OpenLaw)(args:List WData):l.row.toRowW.claim.post args (.bool true) args=true:=
 postW_of (r:=l.row.toRowW) (X:=(true == true))
  (show WShape.has [] (.bool true) .bool=true by first|rfl|decide|simp[WShape.has,WShape.arms,WShape.armsAll])
  (show(WTm.eq .res (.lit (.bool true))).value [] { args:=args,res:=some (.bool true),after:=args }=some (.bool (true == true)) from w_eq_bool (w_res rfl) w_lit) rfl
theorem GQ {l:OpenLaw}{n:Nat}{q:Program}{loose:List Str}{XP:(Str->Option Value)->Heap->Prop}{YP:World->Heap->Prop}{d:DefRec}
 (hn:l.most=some n) (ae:d.params.defaults=[])
 (call:∀(w:World) (s₀ z:Shared) (mg mb:Str->Option Value) (U:Addr) (o:Obj) (pm cd J:Value) (a:Addr) (vs:List Value) (ns:List Int),
   Ground q loose [] XP w s₀ mg mb z.heap->YP w z.heap->
   z.heap.get? U=some o->o.data=.func (docDef d.name d.params d.body d.scope pm cd J)->z.heap.CodeRec cd d.name->mg d.name=some (.ref U)->
   z.heap.get? a=some { cls:=.type "list",data:=.seq vs.toArray }->IntsAre vs ns->ns.length<=n->z.gens=#[]->
   codeAny (model l.prog w) callerA (.call (.ref U) ⟨[.ref a],[]⟩) (λr s'=>r=.ok (.ret (.bool true))/\OldK z.heap s'.heap/\s'.os=z.os/\AllBare s'.gens) z):
 WalkO q loose XP YP l.row.toRowW d [] (λf vs=>PySem.call f vs):=by
 intro w s₀ z mg mb G Y U o pm cd J dV kV ho hd af hD ag hg args ai as aa aj ak ah al;obtain rfl:dV=.none:=Dflts.none hD ae;obtain rfl:kV=.none:=Dflts.noKw hD;obtain⟨a,vs,ns,rfl,rfl,ab,L,ac⟩:=GO hn aa ah;refine enter_call (codeAny_mono (call w s₀ z mg mb U o pm cd J a vs ns G Y ho (fd_plain hd) af ag ab L ac hg) λr s' hq=>?_);obtain⟨rfl,h2,h3,h4⟩:=hq;exact⟨.inl ⟨.bool true,.bool true,[],rfl,λ_=>rfl,.bool true,GP l _,λ_=>⟨List.Pairwise.nil,λ_ hm=>(nomatch hm)⟩⟩,h2,h3,h4⟩
section
variable {prog:Program}{w:World}{A:Around}{E:Value->Shared->Prop}{s:Shared}{K:Frag}
end
end Bc
namespace L2
open Spec PyProof.Rows
theorem Bd:∀{vs:List Value}{ns:List Int},IntsAre vs ns->Vals (ns.map V.int) vs
 |_,_,.nil=>.nil
 |_,_,.cons n t h=>.cons ⟨t,rfl⟩ (Bd h)
abbrev er:iV:=λ_ _ _ _ _ _=>False
abbrev E0:XK:=λ_ _ _=>False
theorem jR {X:Cx}:Passes er X E0:=λ_ _ _ _ _ _ _ h=>h.elim
structure km (K:W.Frag) (x qual:Str) (st:Stmt) (f:Addr) (fd:FuncData):Prop where
 ex:∃(oc:Value) (od:Option Addr) (kV doc pm:Value) (an:Option Addr) (cdv ct:Value) (osl:Array (Option Value)),
  fd=W.fnOf x qual (i6 st) (iA st) (eR st) .none kV doc pm an cdv ct/\K.lookup f=some ⟨oc,od,.func fd,osl⟩/\W.codeIn K cdv qual=true
 kp:W.keepIn K (.ref f)=true
variable {P:Program}{w:World}{K:W.Frag}{mg:Str->Option Value}{base:Heap}
def FnBody (P:Program) (w:World) (K:W.Frag) (mg:Str->Option Value) (base:Heap) (N ps:List Str) (qual:Str) (st:Stmt) (f:Addr) (k:Nat) (vs:List V) (H:Hp) (Q:VK) (E:XK):Prop:=vs.length=ps.length/\∀(z:Value) (A:Around) (outer:List Env) (s:Shared),N.Nodup->gi k (A.deeper (envOfC qual (eR st) s.heap.objs.size f z))->(A.deeper (envOfC qual (eR st) s.heap.objs.size f z)).units+1<cLine->∃t,je (eY er P w K mg base N qual (eR st) f z A outer s H E).e_ (iA st) t/\t { nx:=λ_ H'=>Q .non H',rt:=Q } (start N vs) H
theorem km.ok {x qual:Str}{st:Stmt}{f:Addr}{fd:FuncData}{N ps:List Str}{k:Nat}{sp:Sp}(F:km K x qual st f fd)(S:fk N ps (eR st))
 (z:∀(vs:List V) (H:Hp) (Q:VK) (E:XK),sp vs H Q E->FnBody P w K mg base N ps qual st f k vs H Q E):eh P w K mg base er (k+1) f fd ps sp:=by
 obtain⟨oc,od,kV,aa,pm,an,J,ct,ab,rfl,lk,L⟩:=F.ex;refine tO lk L S (λvs H Q E h=>(z vs H Q E h).1) λA outer s H vs Q E Y U=>?_;obtain⟨t,h,q⟩:=(z vs H Q E U).2 J A outer s S.nd Y (Q1q (Q1r (by decide:1<=64) _) Y.units);exact⟨t,h.e_,q⟩
theorem km.binds {x qual:Str}{st:Stmt}{f:Addr}{fd:FuncData}{ps:List Str}(F:km K x qual st f fd)
 (h:∀(kV z L:Value) (U:Option Addr) (J ct:Value) (us:List Value),us.length=ps.length->bindArgs (W.fnOf x qual (i6 st) (iA st) (eR st) .none kV z L U J ct) ⟨us,[]⟩=pure (ps.zip us)):Binds K fd ps []:=by
 obtain⟨oc,od,kV,z,L,U,J,ct,Y,rfl,lk,aa⟩:=F.ex;exact .all (h kV z L U J ct)
theorem qW {x qual:Str}{st:Stmt}{f:Addr}{oc:Value}{od U:Option Addr}{L:Array (Option Value)}{kV J Y z ct:Value}(l:K.lookup f=some ⟨oc,od,.func (W.fnOf x qual (i6 st) (iA st) (eR st) .none kV J Y U z ct),L⟩)
 (c:W.codeIn K z qual=true) (k:W.keepIn K (.ref f)=true):km K x qual st f (W.fnOf x qual (i6 st) (iA st) (eR st) .none kV J Y U z ct):=⟨⟨oc,od,kV,J,Y,U,z,ct,L,rfl,l,c⟩,k⟩
theorem t7 {A:Around}{k:Nat}(z:gi k A):A.units+1<cLine:=Q1q (Q1r (by decide:1<=64) _) z.units
theorem fX {n:Nat}(h:n<=1000):n<sizeLine:=Q1q h (by decide)
section
variable {X:Cx}
theorem pv (i:Nat){x:Str}{pos:Pos}(J:X.N[i]? =some x:=by rfl)(L:tf X.env.scope x:=by first|exact Or.inl rfl|exact Or.inr (Or.inl rfl)|exact Or.inr (Or.inr rfl))(U:(x == ("__debug__":Str))=false:=by decide)
 (z:(x == ("__classdict__":Str))=false:=by decide):PE X (.Name x pos) (fv i):=Fi J L U z
end
theorem fE {A B:Prop}(h:B):if false=true then A else B:=by
 rw[if_neg Bool.false_ne_true];exact h
theorem gB {A B:Prop}(h:A):if true=true then A else B:=by
 rw[if_pos rfl];exact h
theorem gu {c A B:Prop} [Decidable c](h1:c->A)(h2:¬c->B):if c then A else B:=by
 by_cases h:c
 . rw[if_pos h];exact h1 h
 . rw[if_neg h];exact h2 h
theorem iR {c A B:Prop} [Decidable c](hc:c)(h:B):if(!decide c)=true then A else B:=by
 rw[decide_eq_true hc];exact fE h
def Same (H H':Hp):Prop:=∀b o,H b=some o->H' b=some o
theorem Same.refl (H:Hp):Same H H:=λ_ _ h=>h
theorem Same.trans {H H1 H2:Hp}(a:Same H H1)(b:Same H1 H2):Same H H2:=λc o h=>b c o (a c o h)
theorem Same.free {H H':Hp}(e:Same H H'){l:Addr}(h:H' l=Option.none):H l=Option.none:=by
 cases q:H l with
 |none=>rfl
 |some o=>
  rw[e l o q] at h
  cases h
section
variable {X:Cx}
theorem t8:jB X (.builtin "len") (λxs H Q=>∃a kvs,xs=[V.ref a]/\H a=some (.dK kvs)/\Q (.int kvs.length) H):=by
 intro pins s σ H xs us Q I r h;obtain⟨a,kvs,rfl,z,q⟩:=h;obtain⟨u,rfl,J⟩:=vals1 r
 cases J;exact GB I (.inl z) λt s' L=>⟨.int kvs.length,H,L,⟨t,rfl⟩,q⟩
end
section
variable {κ:Type} [DecidableEq κ]
theorem t9 {kvs:List (κ × V)}{k:κ}{v:V}(h:ft kvs k=some v):k∈kvs.map (·.1):=by
 have q:(kvs.any λz=>decide (z.1=k))=true:=by
  rw[kP,h]
  all_goals rfl
 obtain⟨p,hp,e⟩:=List.any_eq_true.mp q;exact List.mem_map.mpr ⟨p,hp,of_decide_eq_true e⟩
end
theorem Be {g:Str->NameKind->NameKind}{x:Str}:∀names:List (Str × NameKind),
 (names.map λy=>(y.1,g y.1 y.2)).lookup x=(names.lookup x).map (g x)
 |[]=>rfl
 |(n,k)::r=>by
  show List.lookup x ((n,g n k)::_)=_;rw[Q1a,Q1a,Be r]
  cases z:x == n with
  |true=>rw[eq_of_beq z];rfl
  |false=>rfl
noncomputable def kT (env:Env) (n:Str) (k:NameKind):NameKind:=
 if(k == .free && env.scope.kind == .function && env.kindOf n == some .cell)=true then .cell else k
theorem Bf (scope:Scope)(env:Env)(x:Str):
 (relabel scope env).names.lookup x=(scope.names.lookup x).map (kT env x):=by
 rw[<-Be (g:=kT env) scope.names];show List.lookup x (scope.names.map _)=_;congr 1;apply Q1h;rintro⟨n,k⟩ _;show(if _ then _ else _)=(n,kT env n k);unfold kT;split <;> rfl
theorem GS {env:Env}{x:Str}{k:NameKind}(h:kT env x k=.local):k=.local:=by
 unfold kT at h;split at h
 . cases h
 . exact h
theorem GU {env:Env}{x:Str}{k:NameKind}(h:kT env x k=.cell):k=.free\/k=.cell:=by
 unfold kT at h;split at h
 . rename_i c;left;simp only[Bool.and_eq_true] at c;exact eq_of_beq c.1.1
 . exact .inr h
theorem GV {env:Env}{x:Str}{k:NameKind}(h:kT env x k=.free):k=.free:=by
 unfold kT at h;split at h
 . cases h
 . exact h
theorem t_ {env:Env}:∀(names:List (Str × NameKind)) (J:List (Str × Addr)),(∀y∈names,y.2=.free->∃c,env.cells.lookup y.1=some c)->
 (∀x c,J.lookup x=some c->env.cells.lookup x=some c)->
 ∃cl:List (Str × Addr),(forIn names J λy cs=>if(y.2 == NameKind.free)=true then(do let a <-cellOf env y.1;pure (ForInStep.yield ((y.1,a)::cs))) else pure (ForInStep.yield cs))=(pure cl:Sem _)/\
  (∀x c,cl.lookup x=some c->env.cells.lookup x=some c)/\(∀x,((x,NameKind.free)∈names\/(J.lookup x).isSome=true)->cl.lookup x=env.cells.lookup x)
 |[],J,_,L=>⟨J,rfl,L,λx z=>by
    rcases z with z|z
    . cases z
    . obtain⟨c,e⟩:=Option.isSome_iff_exists.mp z;rw[e,L x c e]⟩
 |(n,k)::r,J,U,L=>by
  by_cases hk:k=.free
  . subst hk;obtain⟨c,e⟩:=U (n,.free) Q04 rfl;have e:env.cells.lookup n=some c:=e
    have aa:∀x d,((n,c)::J).lookup x=some d->env.cells.lookup x=some d:=λx d h=>by
     rw[Q1a] at h
     cases z:x == n with
     |true=>
      rw[z] at h
      cases h;rw[eq_of_beq z];exact e
     |false=>
      rw[z] at h;exact L x d h
    obtain⟨cl,h1,h2,Y⟩:=t_ r ((n,c)::J) (λy hy=>U y (Q0e _ hy)) aa;refine⟨cl,?_,h2,λx z=>Y x ?_⟩
    . rw[Q30];have ec:cellOf env n=pure c:=by unfold cellOf;rw[e]
      simp only[beq_self_eq_true,if_true,ec,pure_bind];exact h1
    . rcases z with z|z
      . rcases List.mem_cons.mp z with q|q
        . right
          cases q;rw[Q1a,beq_self_eq_true];rfl
        . exact .inl q
      . right;rw[Q1a]
        cases x == n with
        |true=>rfl
        |false=>exact z
  . obtain⟨cl,h1,h2,Y⟩:=t_ r J (λy hy=>U y (Q0e _ hy)) L;refine⟨cl,?_,h2,λx z=>Y x ?_⟩
    . rw[Q30];have eb:(k == NameKind.free)=false:=by simpa using hk
      simp only[eb,Bool.false_eq_true,if_false,pure_bind];exact h1
    . rcases z with z|z
      . rcases List.mem_cons.mp z with q|q
        . cases q;exact absurd rfl hk
        . exact .inl q
      . exact .inr z
theorem qX {scope:Scope}{env:Env}(J:∀y∈scope.names,y.2=.free->∃c,env.cells.lookup y.1=some c):
 ∃cl:List (Str × Addr),closureFor scope env=pure cl/\(∀x c,cl.lookup x=some c->env.cells.lookup x=some c)/\(∀x,(x,NameKind.free)∈scope.names->cl.lookup x=env.cells.lookup x):=by
 obtain⟨cl,h1,h2,L⟩:=t_ scope.names [] J (λx c h=>by cases h);refine⟨cl,?_,h2,λx U=>L x (.inl U)⟩;unfold closureFor
 have e:(forIn scope.names ([]:List (Str × Addr)) λy z=>do
  let mut z:=z
  match y with
  |(name,kind)=>if(kind == NameKind.free)=true then z:=(name,<-cellOf env name)::z
  pure (ForInStep.yield z))=(pure cl:Sem _):=by
  rw[<-h1]
 first
  |exact(by simpa using e)
  |(show(forIn scope.names ([]:List (Str × Addr)) _ >>= λz=>pure z)=_;rw[bind_pure];exact e)
structure jE (X:Cx) (own:List Str) (scope:Scope):Prop where
 kind:scope.kind=.function
 cell:∀y∈scope.names,y.2≠ .cell
 names:∀y∈scope.names,y.2=.local->scope.names.lookup y.1=some .local
 free:∀y∈scope.names,y.2=.free->X.env.kindOf y.1=some .cell\/X.env.kindOf y.1=some .free
 nd:(own++X.N).Nodup
 outer:∀x∈X.N,scope.names.lookup x≠some .local
noncomputable def iS (X:Cx) (own:List Str) (scope:Scope) (cl:List (Str × Addr)) (C:Addr) (fp:List Addr) (z:Shared) (J:Hp):Cx:=
 { X with N:=own++X.N,s₀:=z,H₀:=J,env:=compEnvC scope cl C X.env,outer:=X.stack,ex:=fp,fn:=λ_=>false,pn:=[],xe:=λ_ _=>False }
def pP (X:Cx) (z:List Expr) (t:TT):Prop:=
 ∀(pins:List (Addr × Obj)) (s:Shared) (σ:St) (H:Hp) (Q:Bool->Hp->Prop),Inv X pins σ H s->t σ H Q->
  wpAny (model X.prog X.w) X.A (forIn z true λc r=>if r=true then do let ok <-isTrue c X.env (eval c X.env);pure (ForInStep.yield ok) else pure (ForInStep.yield r)) (TP X pins σ Q) X.xe s
def jS:TT:=λ_ H Q=>Q true H
theorem kq {X:Cx}:pP X [] jS:=λpins s σ H Q I h=>wpAny_tests_nil ⟨H,I,h⟩
theorem lH {X:Cx}{c:Expr}{t:TT}(h:PT X c t):pP X [c] t:=λpins s σ H Q I q=>wpAny_tests_one (h pins s σ H Q I q)
def Bg (k:Nat) (Y:TI) (g:TG) (tt:TT) (te:TE):TE:=λσ H Q=>Y σ H λJ H1=>
 ∃W:Nat->Nat->List V->Hp->Prop,(∃m,W 0 m [] H1)/\∀i m ys H,W i m ys H->
  (J.stop i H/\∀p,H p=none->Q (.ref p) (upd H p (.lst ys)))\/
  (J.go i H/\ys.length<sizeLine/\∀x H',J.lx i H x H'->g x (List.replicate k none++σ) H' λz H2=>z.drop k=σ/\
    tt z H2 λb U=>if b=true then te z U λy H4=>∃L,L<m/\W (i+1) L (ys++[y]) H4 else ∃L,L<m/\W (i+1) L ys U)
section
variable {prog:Program}{w:World}{A:Around}{R:Result->Shared->Prop}{s:Shared}
theorem GW {ah J iter:Expr}{ai:List Expr}{scope:Scope}{pos:Pos}{it ag:Value}{env:Env}(I:Nat->Shared->Prop)
 (turn:∀n s,I n s->wpAny (model prog w) A (pyNext it) (λr L=>
   match r with
   |none=>R (.ok .next) L
   |some v=>wpAny (model prog w) A (letOwnedTupleGo J it v) (λ_ Y=>wpAny (model prog w) A (assign J env v) (λ_ aa=>
     wpAny (model prog w) A (forIn ai true λc r=>if r=true then do let ok <-isTrue c env (eval c env);pure (ForInStep.yield ok) else pure (ForInStep.yield r)) (λok U=>
      if ok=true then wpAny (model prog w) A (eval ah env) (λx ab=>
       wpAny (model prog w) A (call (.builtin "list.append") [ag,x]) (λ_ ac=>∃m,m<n/\I m ac) (λ_ _=>False) ab) (λ_ _=>False) U
      else ∃m,m<n/\I m U) (λ_ _=>False) aa) (λ_ _=>False) Y) (λ_ _=>False) L) (λ_ _=>False) s)
 (n:Nat) (h:I n s):
 codeAny (model prog w) A (.compLoop (.ListComp ah [⟨J,iter,ai,0⟩] scope pos) 0 it ag env) R s:=by
 refine codeAny_loop rfl I (λn s hI=>?_) n h;show wpAny _ A ((compTurn _ 0 it ag env).onRaise _) _ _ s;refine wpAny_noted ?_;rw[compTurn_list]
 have no:∀{α:Type} {t:Sem α} {Q Q':α->Shared->Prop} {E:Value->Shared->Prop} {s:Shared},wpAny (model prog w) A t Q (λ_ _=>False) s->(∀a s,Q a s->Q' a s)->wpAny (model prog w) A t Q' E s:=
  λh k=>Q0m h k λ_ _ z=>z.elim
 refine Q0 (wpAny_standAt (Q0 (no (turn n s hI) λr L ae=>?_)))
 cases r with
 |none=>exact Q0a ae
 |some v=>
  refine Q0 (no ae λ_ Y aj=>?_);refine Q0 (no aj λ_ aa ak=>Q0 (no ak λok U af=>?_))
  cases ok with
  |false=>exact Q0a ⟨rfl,af⟩
  |true=>
   refine Q0 (Q0 (no af λx ab al=>?_));exact Q0 (no al λ_ ac am=>Q0a (Q0a ⟨rfl,am⟩))
end
noncomputable abbrev jx (us:List Value) (n:Nat):Obj:={ cls:=.type "list",data:=.seq us.toArray n }
section
variable {X:Cx}{own:List Str}{scope:Scope}
theorem jE.cells (S:jE X own scope){pins:List (Addr × Obj)}{σ:St}{H:Hp}{s:Shared}(I:Inv X pins σ H s):
 ∀y∈scope.names,y.2=.free->∃c,X.env.cells.lookup y.1=some c:=λy z J=>I.ok.has y.1 (S.free y z J)
theorem jE.freeOf (S:jE X own scope){x:Str}(h:(relabel scope X.env).names.lookup x=some .cell\/(relabel scope X.env).names.lookup x=some .free):(x,NameKind.free)∈scope.names:=by
 rw[Bf] at h
 cases e:scope.names.lookup x with
 |none=>rw[e] at h;rcases h with h|h <;> cases h
 |some k=>
  rw[e] at h;have z:(x,k)∈scope.names:=PySem.mem_of_lookup e
  have hk:k=.free:=by
   rcases h with h|h
   . rcases GU (Option.some.inj h) with q|q
     . exact q
     . exact absurd q (S.cell _ z)
   . exact GV (Option.some.inj h)
  rw[<-hk];exact z
theorem jE.GX (S:jE X own scope){x:Str}(z:x∈X.N):(relabel scope X.env).names.lookup x≠some .local:=λh=>by
 rw[Bf] at h
 cases e:scope.names.lookup x with
 |none=>rw[e] at h;cases h
 |some k=>
  rw[e] at h;have:=GS (Option.some.inj h);subst this;exact S.outer x z e
theorem Bh {k:Nat}{σ:St}{i:Nat}{v:V}(h:(List.replicate k none++σ)[i]? =some (some v)):k<=i/\σ[i - k]? =some (some v):=by
 by_cases hi:i<k
 . rw[Q2x (by simpa using hi),Q2w] at h;split at h <;> cases h
 . refine⟨Q0v hi,?_⟩;rw[Q2e (by simpa using hi)] at h;simpa using h
theorem Inv.block {pins:List (Addr × Obj)}{σ:St}{H:Hp}{s:Shared}{fp:List Addr}{cl:List (Str × Addr)}{C D:Addr}{L:Heap}{m:Str->Option Value}{t':Nat}{us:List Value}{n:Nat}(I:Inv X pins σ H s)(S:jE X own scope)
 (hf:∀b∈fp,iU X pins H b) (ag:∀b∈fp,b<s.heap.objs.size)
 (J:∀x c,cl.lookup x=some c->X.env.cells.lookup x=some c) (aa:∀x,(x,NameKind.free)∈scope.names->cl.lookup x=X.env.cells.lookup x)
 (hC:s.heap.objs.size<=C) (hD:s.heap.objs.size<=D) (ah:D≠C) (hn:L.Ns C m) (Y:∀b o,s.heap.get? b=some o->L.get? b=some o) (af:L.get? D=some (jx us n)):
 Inv (iS X own scope cl C fp s H) [(D,jx us n)] (List.replicate own.length none++σ) H { s with heap:=L,toks:=t' }:=by
 have ok:=I.ok
 have n0:∀b:Addr,s.heap.objs.size<=b->b ∉ frs X.stack:=λb U z=>by
  rcases List.mem_cons.mp (I.n6 b z) with e|e
  . exact absurd I.lt (by rw[<-e];exact Nat.not_lt.mpr U)
  . exact I.n0 U e
 have fresh:∀b:Addr,s.heap.objs.size<=b->H b=none:=λb U=>I.hok.fresh U
 have al:∀x c,cl.lookup x=some c->c<s.heap.objs.size:=λx c e=>by
  obtain⟨v,q⟩:=I.cell x c (J x c e);exact q.lt
 refine⟨⟨ok.mod,S.kind,ok.glob,ok.blt,hC,λx y c e1 e2=>ok.inj x y c (J x c e1) (J y c e2),λx hx=>?_,λx c hx _=>(nomatch hx),ok.hd,ok.frames,.inl rfl,λb U=>?_,I.bs,Q05 ok.ki I.sz,λb o e U=>?_,λb U z=>?_,I.stack,I.pz⟩,
  rfl,I.bare,Un.kept Y,⟨m,hn,λi x v e1 e2 e3=>?_⟩,λx c e=>?_,fresh C hC,λx c e=>?_,λp hp=>?_,I.hok.kept Y,?_⟩
 . have hm:=S.freeOf (x:=x) hx;obtain⟨c,e⟩:=ok.has x (S.free _ hm rfl);exact⟨c,by rw[show(iS X own scope cl C fp s H).env.cells=cl from rfl,aa x hm];exact e⟩
 . refine⟨Q08 (Q0d (ag b U) hC),λx c e z=>?_⟩;exact(hf b U).2.2.2.2.1 x c (J x c e) z
 . rcases(hf b U).2.2.2.1 with z|z
   . exact ok.nZ b o e z
   . exact absurd (Q0d (Q01 e) (Q05 ok.ki z)) (Q0r _)
 . rcases List.mem_cons.mp (I.n6 b z) with q|q
   . exact(hf b U).2.1 q
   . exact(hf b U).2.2.1 q
 . obtain⟨hk,ai⟩:=Bh e2
   have ab:X.N[i - own.length]? =some x:=by
    have e1:(own++X.N)[i]? =some x:=e1;rw[Q2e hk] at e1;exact e1
   have aj:x∈X.N:=Q0u ab
   have ac:(relabel scope X.env).names.lookup x=some .cell\/(relabel scope X.env).names.lookup x=some .free:=by
    rcases e3 with q|q
    . exact absurd q (S.GX aj)
    . exact q
   have hm:=S.freeOf ac;have ae:=S.free _ hm rfl;obtain⟨mX,am,ak⟩:=I.loc;obtain⟨u,r,lk⟩:=ak _ x v ab ai (.inr ae);refine⟨u,r,.inr ⟨ac,?_⟩⟩;rcases lk with⟨q,_⟩|⟨_,c,ec,hc⟩
   . rcases ae with z|z
     . rw[z] at q;cases q
     . rw[z] at q;cases q
   . obtain⟨o,ho,hd⟩:=hc;exact⟨c,(aa x hm).trans ec,o,Y _ _ ho,hd⟩
 . obtain⟨v,o,ho,hd⟩:=I.cell x c (J x c e);exact⟨v,o,Y _ _ ho,hd⟩
 . exact I.i7 x c (J x c e)
 . have e:p=(D,jx us n):=by
    have hp:p∈([]++[(D,jx us n)]:List (Addr × Obj)):=hp;simpa using hp
   subst e
   exact⟨af,fresh D hD,ah,n0 D hD,λv z=>by
    have z:Data.seq us.toArray n=Data.cell v:=z
    cases z⟩
 . show _=(own++X.N).length;rw[Q0c,Q0c,Q11,I.len]
theorem Inv.unblock {pins:List (Addr × Obj)}{σ aa:St}{H H3:Hp}{s s3:Shared}{fp:List Addr}{cl:List (Str × Addr)}{C D:Addr}{h':Heap}{us:List Value}{n:Nat}{ys:List V}{pl:List (Addr × Obj)}(I:Inv X pins σ H s)
 (hf:∀b∈fp,iU X pins H b) (J:Inv (iS X own scope cl C fp s H) pl aa H3 s3) (ab:(D,jx us n)∈pl) (hC:s.heap.objs.size<=C) (hD:s.heap.objs.size<=D) (ac:D≠C)
 (r:Vals ys us) (hz:ys.length<=sizeLine) (hs:Heap.SameBut C s3.heap h'):Inv X pins σ (upd H3 D (.lst ys)) { s3 with heap:=h' }/\H3 D=none:=by
 obtain⟨eD,Y,_,_,_⟩:=J.pin (D,jx us n) (Q06 _ ab);have nC:H3 C=none:=J.free;have kC:∀b o,b≠C->s3.heap.get? b=some o->h'.get? b=some o:=λb o L e=>(hs.2 b L).trans e;refine⟨I.call' (ch:=fp) J.os ⟨λb o e nb L U=>?_,λb o e nb L U=>?_,λb o e nb U=>?_,λb o e U=>?_,λb xs e=>?_,λb o u e=>?_,λb ps e=>?_⟩ (λb o e=>?_) J.bare (λb L=>?_),Y⟩
 . exact kC b o (Q08 (Q0d (Q01 e) hC)) (J.base.keep b o e nb L U)
 . obtain⟨sl,e1⟩:=J.base.slot b o e nb L U;exact⟨sl,kC b _ (Q08 (Q0d (Q01 e) hC)) e1⟩
 . rw[eA (Q08 (Q0d (Q01 e) hD))];exact J.base.free b o e nb U
 . obtain⟨o',e1⟩:=J.base.there b o e U;exact⟨o',kC b _ (Q08 (Q0d (Q01 e) hC)) e1⟩
 . have q:=J.base.tups b xs e;rw[eA (eM q Y)];exact q
 . have q:=J.base.jd b o u e;rw[eA (eM q Y)];exact q
 . obtain⟨mo,q⟩:=J.base.jr b ps e;exact⟨mo,by rw[eA (eM q Y)];exact q⟩
 . by_cases L:b=D
   . subst L;rw[eI] at e;cases e;exact⟨hz,us,n,r,kC b _ ac eD⟩
   . rw[eA L] at e;refine(J.hok b o e).stay (λc v hc q=>kC c v ?_ q) (λc q=>by rw[eA (eM q Y)];exact q) λc xs q=>by rw[eA (eM q Y)];exact q
     rcases hc with z|z
     . rw[z];exact eM e nC
     . exact eM z nC
 . obtain⟨_,f1,_,f3,f4,f5⟩:=hf b L;exact⟨f3,f1,f4,f5⟩
theorem Bi {tg iter ar:Expr}{au:List Expr}{pos:Pos}{g:TG}{tt:TT}{te:TE}{pins:List (Addr × Obj)}{σ:St}{H2:Hp}{L:Shared}{it:Addr}{fp:List Addr}{tn:Nat->Heap->Prop}{J:It}{cl:List (Str × Addr)}{Fin:List V->Hp->Prop}{W:Nat->Nat->List V->Hp->Prop}{m0:Nat}
 {RR:Value->Addr->Result->Shared->Prop} (hc:X.calm=true) (S:jE X own scope) (ai:∀x c,cl.lookup x=some c->X.env.cells.lookup x=some c) (aG:∀x,(x,NameKind.free)∈scope.names->cl.lookup x=X.env.cells.lookup x)
 (I2:Inv X pins σ H2 L) (T:Turn X.prog X.w X.K tg J fp it tn) (ay:tn 0 L.heap) (f2:∀b∈fp,iU X pins H2 b) (w0:W 0 m0 [] H2)
 (turn:∀i m ys H,W i m ys H->(J.stop i H/\Fin ys H)\/
   (J.go i H/\ys.length<sizeLine/\∀x H',J.lx i H x H'->g x (List.replicate own.length none++σ) H' λav H2=>av.drop own.length=σ/\
     tt av H2 λb H3=>if b=true then te av H3 λy H4=>∃m',m'<m/\W (i+1) m' (ys++[y]) H4 else ∃m',m'<m/\W (i+1) m' ys H3))
 (hg:∀cl C fp ac ae,PG (iS X own scope cl C fp ac ae) tg g) (ht:∀cl C fp ac ae,pP (iS X own scope cl C fp ac ae) au tt) (he:∀cl C fp ac ae,PE (iS X own scope cl C fp ac ae) ar te)
 (aK:∀(C D:Addr) (s5:Shared) (H5:Hp) (ys:List V) (us:List Value) (k:Nat),L.heap.objs.size<=C->L.heap.objs.size<=D->D≠C->Inv (iS X own scope cl C fp L H2) [(D,jx us k)] (List.replicate own.length none++σ) H5 s5->Vals ys us->ys.length<=sizeLine->Fin ys H5->RR (.ref D) C (.ok .next) s5):
 wpAny (model X.prog X.w) X.A (newList []) (λaz af=>wpAny (model X.prog X.w) X.A (newFunctionEnv scope X.env.globals cl [] X.env.qual none .none (some X.env)) (λal aH=>
  codeAny (model X.prog X.w) X.A (.compStart (.ListComp ar [⟨tg,iter,au,0⟩] scope pos) 0 (.ref it) az { al with scope:=relabel scope X.env }) (RR az al.locals) aH) X.xe af) X.xe L:=by
 have ak:∀b∈fp,b<L.heap.objs.size:=λb U=>by
  obtain⟨o,e,_⟩:=T.obj _ _ ay b U;exact Q01 e
 refine wpAny_newObj_type (wpAny_newFunctionEnv S.cell (by intro y hy;simp at hy) (λag aa Y=>?_) S.kind);dsimp only at aa Y ⊢;generalize hG:L.heap.push { cls:=.type "list",dict:=none,data:=.seq ([]:List Value).toArray }=G at aa Y ⊢;have aA:G.objs.size=L.heap.objs.size+1:=by rw[<-hG,Q17]
 have hC:L.heap.objs.size<=G.objs.size:=by rw[aA];exact Q14 _
 have aw:L.heap.objs.size≠G.objs.size:=by rw[aA];exact Q08 (Q10 _)
 have aB:∀b o,L.heap.get? b=some o->ag.get? b=some o:=λb o e=>
  Y.extBut b o (Q08 (Q0d (Q01 e) hC)) (Q07 _ (hG ▸ Q07 _ e))
 have aI:ag.get? L.heap.objs.size=some (jx [] 0):=Y.extBut _ _ aw (Q07 _ (hG ▸ Q0n _ rfl));have I3:=I2.block (cl:=cl) (t':=L.toks+([]:List (Str × Value)).length) S f2 ak ai aG hC (Q00 _) aw aa aB aI;have aC:tn 0 ag:=T.keep _ _ _ ay λb _ o e=>aB b o e;have aL:∀b∈fp,H2 b=none:=λb U=>(f2 b U).1
 have aj:∀{H':Hp} {us:List Value} {n:Nat},(∀b∈fp,H' b=none)->∀b∈fp,iU (iS X own scope cl G.objs.size fp L H2) [(L.heap.objs.size,jx us n)] H' b:=λ{H' us n} hn b U=>by
  refine⟨hn b U,Q08 (Q0d (ak b U) hC),λz=>?_,.inl U,λx c e=>(f2 b U).2.2.2.2.1 x c (ai x c e),λp hp=>?_⟩
  . rcases List.mem_cons.mp (I2.n6 b z) with q|q
    . exact(f2 b U).2.1 q
    . exact(f2 b U).2.2.1 q
  . have hp:p∈([]++[(L.heap.objs.size,jx us n)]:List (Addr × Obj)):=hp;have e:p=(L.heap.objs.size,jx us n):=by simpa using hp
    subst e;exact Q0x (ak b U)
 have am:∀af:Shared,af={ L with heap:=ag,toks:=L.toks+([]:List (Str × Value)).length }->
  codeAny (model X.prog X.w) X.A (.compLoop (.ListComp ar [⟨tg,iter,au,0⟩] scope pos) 0 (.ref it) (.ref L.heap.objs.size) (compEnvC scope cl G.objs.size X.env))
   (RR (.ref L.heap.objs.size) G.objs.size) af:=by
  rintro af rfl
  refine GW (λn s'=>∃i ys us k H',Inv (iS X own scope cl G.objs.size fp L H2) [(L.heap.objs.size,jx us k)] (List.replicate own.length none++σ) H' s'/\Vals ys us/\ys.length<=sizeLine/\tn i s'.heap/\(∀b∈fp,H' b=none)/\W i n ys H')
   ?_ m0 ⟨0,[],[],0,H2,I3,.nil,Q0b _,aC,aL,w0⟩
  rintro n s4 ⟨i,ys,us,k,H4,I4,r4,z4,aD,aE,w4⟩;rcases turn i n ys H4 w4 with⟨stop,qn⟩|⟨go,aM,step⟩
  . refine eU (T.done (iS X own scope cl G.objs.size fp L H2) rfl rfl rfl hc i _ s4 _ H4 (λ_ _=>False) I4 (aj aE) aD stop) λr s5 ⟨hr,I5⟩=>?_;subst hr;exact aK G.objs.size L.heap.objs.size s5 H4 ys us k hC (Q00 _) aw I5 r4 z4 qn
  . refine eU (T.item (iS X own scope cl G.objs.size fp L H2) rfl rfl rfl hc i _ s4 _ H4 (λ_ _=>False) I4 (aj aE) aD go) λr s5 ⟨u,hr,h5⟩=>?_;subst hr;refine eU h5 λ_ s6 zq=>?_;obtain⟨x,H6,I6,r6,y6,ah,aN⟩:=zq;have aO:=I6.pinned (aj aN) (T.obj _ _ ah);refine eU (hg cl G.objs.size fp L H2 _ s6 _ H6 x u _ aO r6 (step x H6 y6)) λ_ s7 zq=>?_;obtain⟨ab,H7,I7,d7,q7⟩:=zq;refine eU (ht cl G.objs.size fp L H2 _ s7 ab H7 _ I7 q7) λb s8 ⟨H8,I8,q8⟩=>?_;have an:(List.replicate own.length none++σ).length=ab.length:=by rw[I7.len,<-I6.len]
    have ao:∀(j:Nat) v,(List.replicate own.length none++σ)[j]? =some (some v)->ab[j]? =some (some v):=λj v e=>by
     obtain⟨hk,e'⟩:=Bh e;rw[<-d7,List.getElem?_drop] at e';rw[<-e'];congr 1;omega
    cases b with
    |false=>
     have q8:∃m',m'<n/\W (i+1) m' ys H8:=q8;obtain⟨m',hm,w8⟩:=q8;refine⟨m',hm,i+1,ys,us,k,H8,I8.ly.weak an ao,r4,z4,T.keep _ _ _ ah λb U o e=>?_,λb U=>?_,w8⟩
     . exact(I8.pin (b,o) (Q06 _ (Q06 _ (pF U e)))).1
     . obtain⟨o,e,d⟩:=T.obj _ _ ah b U;exact(I8.pin (b,o) (Q06 _ (Q06 _ (pF U e)))).2.1
    |true=>
     have q8:te ab H8 λy H9=>∃m',m'<n/\W (i+1) m' (ys++[y]) H9:=q8;show wpAny _ _ _ _ _ _;refine eU (he cl G.objs.size fp L H2 _ s8 ab H8 _ I8 q8) λyv s9 zq=>?_;obtain⟨y,H9,I9,r9,m',hm,w9⟩:=zq;obtain⟨eD,nD,aF,aP,_⟩:=I9.pin (L.heap.objs.size,jx us k) (Q06 _ (Q0q _ Q04));have hl:=r4.length;refine append_at (hsz:=by rw[Q09,<-hl];exact z4) eD λax ap aJ=>?_
     have aq:∀b∈fp,∀o,s6.heap.get? b=some o->s9.heap.get? b=some o/\H9 b=none:=λb U o e=>by
      have q:=I9.pin (b,o) (Q06 _ (Q06 _ (pF U e)));exact⟨q.1,q.2.1⟩
     have aT:∀b∈fp,b≠L.heap.objs.size:=λb U=>Q08 (ak b U);have aU:Inv (iS X own scope cl G.objs.size fp L H2) [] ab H9 s9:=I9.mS λp hp=>(nomatch hp)
     have aV:Inv (iS X own scope cl G.objs.size fp L H2) [] ab H9 { s9 with heap:=ax }:=
      aU.turned (t':=s9.toks) (λb o U e=>ap.extBut b o U e) nD aF (.inr (Q00 _)) (λx c e z=>by
        obtain⟨v,q⟩:=I2.cell x c (ai x c e);exact absurd q.lt (by rw[z];exact Q0r _)) λp hp=>(nomatch hp)
     have aW:Inv (iS X own scope cl G.objs.size fp L H2) [(L.heap.objs.size,jx (us++[yv]) (k+1))] ab H9 { s9 with heap:=ax }:=aV.mS λp hp=>by
      have e:p=(L.heap.objs.size,jx (us++[yv]) (k+1)):=by simpa using hp
      subst e
      refine⟨?_,nD,aF,aP,λv z=>by
       have z:Data.seq (us++[yv]).toArray (k+1)=Data.cell v:=z
       cases z⟩
      show ax.get? _=some { cls:=.type "list",data:=.seq (us++[yv]).toArray (k+1) };rw[<-List.push_toArray];exact aJ
     refine⟨m',hm,i+1,ys++[y],us++[yv],k+1,H9,aW.weak an ao,r4.append (.cons r9 .nil),by rw[Q0c,Q19];exact aM,T.keep _ _ _ ah λb U o e=>ap.extBut b o (aT b U) (aq b U o e).1,λb U=>?_,w9⟩;obtain⟨o,e,d⟩:=T.obj _ _ ah b U;exact(aq b U o e).2
 exact codeAny_compStart_list (am _ rfl) (T.self _ 0 _ _ _ aC (am _ rfl))
theorem jT {tg iter Y:Expr}{aa:List Expr}{pos:Pos}{wi:TI}{g:TG}{tt:TT}{te:TE}(hc:X.calm=true)(S:jE X own scope)(hi:PI X tg iter wi)
 (hg:∀cl C fp z L,PG (iS X own scope cl C fp z L) tg g) (ht:∀cl C fp z L,pP (iS X own scope cl C fp z L) aa tt)
 (he:∀cl C fp z L,PE (iS X own scope cl C fp z L) Y te) (hs:∀x,foldedSetIterable iter X.env x=pure x:=by intro _;rfl):
 PE X (.ListComp Y [⟨tg,iter,aa,0⟩] scope pos) (Bg own.length wi g tt te):=by
 intro pins s σ H Q I h;obtain⟨cl,U,ab,ac⟩:=qX (S.cells I);rw[eval_ListComp];refine wpAny_comprehension_free (use:=none) rfl hs U S.kind S.names ?_;refine eU (hi pins s σ H _ I h) λv s1 h1=>eU h1 λaj s2 h2=>?_;obtain⟨it,fp,tn,J,H2,ae,I2,T,af,f2,W,⟨m0,w0⟩,turn⟩:=h2;subst ae;refine Bi (RR:=λag C=>compPost (model X.prog X.w) X.A X.xe none (EP X pins σ Q) ag C) hc S ab ac I2 T af f2 w0 turn hg ht he ?_;intro C D s5 H5 ys us k hC hD ah I5 r5 z5 fin;obtain⟨m5,n5,_⟩:=id I5.loc;refine⟨m5,n5,λh' ai=>?_⟩;obtain⟨I6,nD⟩:=I2.unblock f2 I5 Q04 hC hD ah r5 z5 ai;exact⟨.ref D,_,I6,rfl,fin _ nD⟩
theorem nr {i:Nat}{y:Str}{py Y:Pos}{tg iter aa:Expr}{ab:List Expr}{pos:Pos}{wi:TI}{g:TG}{tt:TT}{te:TE}(hN:X.N.Nodup)(hy:X.N[i]? =some y)(hL:Loc X.env.scope y)(hc:X.calm=true)(S:jE X own scope)(hi:PI X tg iter wi)
 (hg:∀cl C fp L U,PG (iS X own scope cl C fp L U) tg g) (ht:∀cl C fp L U,pP (iS X own scope cl C fp L U) ab tt)
 (he:∀cl C fp L U,PE (iS X own scope cl C fp L U) aa te) (hf:X.fn y=true\/X.env.scope.names.lookup y=some .local:=by first|exact .inl rfl|exact .inr rfl|assumption)
 (ak:swapsWith (.ListComp aa [⟨tg,iter,ab,0⟩] scope pos) (some (.Name y py)) Y.line X.env=pure true:=by rfl) (hs:∀x,foldedSetIterable iter X.env x=pure x:=by intro _;rfl):
 PS X (.Assign [.Name y py] (.ListComp aa [⟨tg,iter,ab,0⟩] scope pos) Y) (n9 (Bg own.length wi g tt te) (gK i)):=by
 intro pins s σ H E I h;obtain⟨cl,ac,ah,ai⟩:=qX (S.cells I);rw[exec_Assign_Name_used _ _ _ _ ak];refine Q0 (wpAny_standAt (Q0 ?_));show wpAny _ _ (do let _ <-comprehension _ scope X.env _ (newList []) false (eval iter X.env) (some (assign (.Name y py) X.env))) _ _ s
 refine Q0 (eU (wpAny_comprehension_free (use:=some (assign (.Name y py) X.env)) (Q:=λ_ s'=>SP X pins E .next s') rfl hs ac S.kind S.names
  (eU (hi pins s σ H _ I h) λv s1 h1=>eU h1 λaq s2 h2=>?_)) λ_ s' hq=>Q0a (Q0a hq))
 obtain⟨it,fp,tn,J,H2,al,I2,T,am,f2,W,⟨m0,w0⟩,turn⟩:=h2;subst al;refine Bi (RR:=λan C=>compPost (model X.prog X.w) X.A X.xe (some (assign (.Name y py) X.env)) (λ_ s'=>SP X pins E .next s') an C) hc S ah ai I2 T am f2 w0 turn hg ht he ?_;intro C D s5 H5 ys us k hC hD af I5 r5 z5 fin;obtain⟨m5,n5,_⟩:=id I5.loc;obtain⟨I6,nD⟩:=I2.unblock f2 I5 Q04 hC hD af r5 z5 (Heap.SameBut.refl C s5.heap);obtain⟨oC,es,ep,eC,dC,rC⟩:=id n5;have nC:upd H5 D (.lst ys) C=none:=by rw[eA (Ne.symm af)];exact I5.free
 have ag:C≠X.env.locals:=Q0x (Q0d I2.lt hC)
 have ae:∀x c,X.env.cells.lookup x=some c->c≠C:=λx c e z=>by
  obtain⟨v,q⟩:=I2.cell x c e;exact absurd q.lt (by rw[z];exact Nat.not_lt.mpr hC)
 have aj:∀p∈X.pn++pins,p.1≠C:=λp hp z=>by
  have:=Q01 (I2.pin p hp).1;rw[z] at this;exact absurd this (Nat.not_lt.mpr hC)
 have I7:Inv X (pins++[(C,oC)]) σ (upd H5 D (.lst ys)) s5:=by
  refine I6.mS λp hp=>?_;rcases List.mem_append.mp hp with z|z
  . exact I6.pin p (Q06 _ z)
  . have e:p=(C,oC):=by simpa using z
    subst e
    exact⟨eC,nC,ag,I2.n0 hC,λv z=>by
     have z:oC.data=Data.cell v:=z;rw[dC] at z;cases z⟩
 show wpAny _ _ (assign (.Name y py) X.env (.ref D)) _ _ s5;refine wpAny_assign_Name (pA (v:=.ref D) I7 hN hy hL rfl (λs8 I8=>?_) hf);obtain⟨ao,ar,_⟩:=I8.pin (C,oC) (Q06 _ (Q06 _ Q04));refine⟨_,⟨oC,es,ep,ao,dC,rC⟩,λh' ap=>?_⟩
 have I9:Inv X pins (σ.set i (some (.ref D))) (upd H5 D (.lst ys)) { s8 with heap:=h' }:=
  I8.ly.turned (t':=s8.toks) (λb o hb e=>(ap.2 b hb).trans e) nC ag (.inr (Q05 I2.sz hC)) ae aj
 exact⟨_,_,I9,fin _ nD⟩
end
section
variable {X:Cx}
theorem jF {e:Expr}:PE X e (λ_ _ _=>False):=λ_ _ _ _ _ _ h=>h.elim
theorem GY {e:Expr}:PT X e (λ_ _ _=>False):=λ_ _ _ _ _ _ h=>h.elim
theorem gy:jB X (.builtin "isinstance") (λxs H Q=>∃x T t b,xs=[x,.ty T]/\jD X.K H x t/\W.kitOne X.K t (.type T)=some b/\Q (.bl b) H):=by
 intro pins s σ H xs us Q I r h;obtain⟨x,T,t,b,rfl,ty,e,q⟩:=h;obtain⟨u,c,rfl,z,J⟩:=vals2 r
 cases J;exact FZ I z ty e λtk=>⟨.bl b,H,I.tok tk,rfl,q⟩
theorem oq:jB X (.builtin "len") (λxs H Q=>(∃a kvs,xs=[V.ref a]/\H a=some (.dK kvs)/\Q (.int kvs.length) H)\/∃p ys,xs=[.ref p]/\(eF X.K H p ys\/eu X.K H p ys)/\Q (.int ys.length) H):=by
 intro pins s σ H xs us Q I r h;rcases h with h|h
 . exact t8 pins s σ H xs us Q I r h
 . exact g_ pins s σ H xs us Q I r h
theorem Bj:∀{ss:List Str}{vs:List Value},Vals (ss.map V.str) vs->StrsAre vs ss
 |[],_,r=>by cases r;exact .nil
 |y::r,_,h=>by
  cases h with
  |cons a b=>
   obtain⟨t,e⟩:=a;subst e;exact .cons y t (Bj b)
theorem Bk:∀{vs:List Value}{ss:List Str},StrsAre vs ss->Vals (ss.map V.str) vs
 |_,_,.nil=>.nil
 |_,_,.cons y t h=>.cons ⟨t,rfl⟩ (Bk h)
theorem GZ:jB X (.builtin "sorted") (λxs H Q=>∃a ss,xs=[.ref a]/\eF X.K H a (ss.map V.str)/\ss.length<64/\
 ∀p z,H p=none->z.Perm ss->sortedS z=true->Q (.ref p) (upd H p (.lst (z.map V.str)))):=by
 intro pins s σ H xs us Q I r h;obtain⟨a,ss,rfl,U,aa,q⟩:=h;obtain⟨u,rfl,Y⟩:=vals1 r
 cases Y;obtain⟨J,L,pl,hz⟩:=I.list U;have hl:J.length=ss.length:=by rw[<-L.length,Q02]
 refine sorted_strs pl.isList (Bj L) (by omega) λout z h1 h2 h3=>?_;obtain⟨e,he⟩:=sortedAll_at s.heap J out;refine⟨.ref (s.heap.objs.size+1),upd H (s.heap.objs.size+1) (.lst (z.map V.str)),I.laid (t':=s.toks) (λ_ _=>sortedAll_old) (Q14 _) ?_,rfl,q _ z (I.hok.fresh (Q14 _)) h2 h3⟩;refine⟨?_,out.toList,e,Bk h1,he⟩;rw[Q02,h2.length_eq];have:ss.length<=1000:=by omega
 exact Q0s (fX this)
noncomputable def nt (z:List Value) (i:Nat):Bool:=match z[i]? with
 |some (.bool b)=>b
 |_=>false
theorem G3:∀{bs:List Bool}{z:List Value},Vals (bs.map V.bl) z->(List.range z.length).all (nt z)=bs.all id:=by
 intro bs z r
 have key:∀i,i<bs.length->nt z i=bs.getD i false:=λi hi=>by
  have e:(bs.map V.bl)[i]? =some (.bl bs[i]):=by rw[Q0g,Q03 hi];rfl
  obtain⟨u,L,U⟩:=r.get e
  cases U;unfold nt;rw[L,Q0f,Q03 hi];rfl
 have hl:z.length=bs.length:=by rw[<-r.length,Q02]
 rw[hl,Bool.eq_iff_iff,Q1b,Q1b];constructor
 . intro h b Y;obtain⟨i,hi,e⟩:=Q1 Y;have q:=h i (List.mem_range.mpr hi);rw[key i hi,Q0f,Q03 hi,Q31,e] at q;exact q
 . intro h i hi;have J:=List.mem_range.mp hi;rw[key i J,Q0f,Q03 J,Q31];exact h _ (Q1i J)
theorem nu (hc:X.calm=true):jB X (.builtin "all") (λxs H Q=>∃(a:Addr) (bs:List Bool),xs=[.ref a]/\eF X.K H a (bs.map V.bl)/\Q (.bl (bs.all id)) H):=by
 intro pins s σ H xs us Q I r h;obtain⟨a,bs,rfl,hq,q⟩:=h;obtain⟨u,rfl,ru⟩:=vals1 r
 cases ru;obtain⟨z,U,pl,hz⟩:=I.list hq;have Y:a<s.heap.objs.size:=by obtain⟨_,e,_⟩:=pl.isList;exact Q01 e
 refine call_all_walk (wpAny_pyIter_list pl.isList ?_);refine⟨s.heap.objs.size,_,_,_,_,_,nt z,rfl,Walks.list (show X.A.in1.handled=none from I.ok.hd hc) s.heap.objs.size a (Q08 Y) z.toArray,⟨⟨_,Q0n _ rfl,rfl,rfl⟩,pl.isList.push _⟩,λi v s' Q' E' hP hQ=>?_,λh' tk hk=>?_⟩
 . have e:z[i]? =some v:=by simpa using hP
   have hi:i<z.length:=(List.getElem?_eq_some_iff.mp e).1;have hb:i<(bs.map V.bl).length:=by rw[U.length];exact hi
   obtain⟨w',ew,J⟩:=U.get (Q03 hb);rw[e] at ew;cases ew;rw[Q2h] at J
   cases J;refine wpAny_truthy_bool ?_;have L:nt z i=bs[i]'(by simpa using hb):=by unfold nt;rw[e]
   rw[L] at hQ;exact hQ
 . have e:(List.range z.toArray.size).all (nt z)=bs.all id:=by rw[Q09];exact G3 U
   rw[e];have ns:H s.heap.objs.size=none:=I.hok.fresh (Q00 _);refine⟨.bl (bs.all id),H,I.kept (h':=h') (t':=tk) λb o L=>hk b o ?_ (Q07 _ L),rfl,q⟩;intro hm;have:b=s.heap.objs.size:=by simpa using hm
   exact absurd (Q01 L) (by rw[this];exact Q0r _)
noncomputable def Ite (K:W.Frag) (a:Addr):It:=
 ⟨λi H=>∃xs x,eF K H a xs/\xs[i]? =some x,
  λi H x H'=>∃p y,H p=none/\x=.ref p/\(∀xs,eF K H a xs->xs[i]? =some y)/\H'=upd H p (.tup [.int i,y]),
  λi H=>∃xs,eF K H a xs/\xs.length<=i⟩
theorem G4 {P:Program}{w:World}{K:W.Frag}{ac:List Expr}{k:Nat}{tpos:Pos}{a e it:Addr}(aa:e≠it):
 Turn P w K (.Tuple ac k tpos) (Ite K a) [e,it] e (λi h=>∃L,IsEnum h e it (i:Int) L/\h.IsListIter it a i) where
 mem:=by simp
 obj:=λi h st b J=>by
  obtain⟨L,h1,h2⟩:=st;have J:b=e\/b=it:=by simpa using J
  rcases J with rfl|rfl
  . exact⟨_,h1,λv z=>by
     have z:Data.fields _=Data.cell v:=z
     cases z⟩
  . obtain⟨o,q,c,d⟩:=h2;exact⟨o,q,λv z=>by rw[d] at z;cases z⟩
 keep:=λi h h' st k=>by
  obtain⟨L,h1,h2⟩:=st;exact⟨L,k e (by simp) _ h1,h2.at λo q=>k it (by simp) o q⟩
 item:=by
  intro X hP hw hK hc i pins s σ H E I hf st hg;subst hP hw hK;obtain⟨L,h1,h2⟩:=st;obtain⟨xs,x,hq,hx⟩:=hg;obtain⟨ae,rv,p,hz⟩:=I.list hq;obtain⟨u,hu,ru⟩:=rv.get hx;obtain⟨e0,e1,e2,e3,e4,e5⟩:=hf e (by simp);obtain⟨f0,f1,f2,f3,f4,f5⟩:=hf it (by simp);have Y:H s.heap.objs.size=none:=I.hok.fresh (Q00 _);refine wpAny_pyNext_enum_item h1 h2 p.isList (x:=u) (by simpa using hu) aa λh' q1 q2 q3 q4 q5=>?_;refine⟨_,rfl,wpAny_letOwnedTupleGo_enum (s:={ s with heap:=h',toks:=s.toks+1 }) q1 λU g1 g2=>?_⟩;have af:∀b o,s.heap.get? b=some o->b≠s.heap.objs.size:=λb o q=>Q08 (Q01 q);have kk:∀b o,b≠e->b≠it->s.heap.get? b=some o->U.get? b=some o:=λb o n1 n2 q=>g2.extBut b o n1 (q5 b o n1 n2 q);have pe:s.heap.objs.size≠e:=Q0x (Q01 h1);have tup:U.get? s.heap.objs.size=some { cls:=.type "tuple",data:=.seq #[.int i s.toks,u] }:=g2.extBut _ _ pe q3
  have I1:Inv X pins σ (upd H s.heap.objs.size (.tup [.int i,x])) { s with heap:=U,toks:=s.toks+1 }:=by
   refine I.step (g':=s.gens) (d':=s.drawn) (ch:=[e,it]) (λb J=>?_) (λb o _ _ hc q _=>?_) (λb o _ _ hc q _=>?_) (λb o _ q n=>?_) (λb o hc q=>?_) (λb ys q=>?_) (λb o v q=>?_) (λb ps q=>?_) (λm hm=>?_) (λb o q=>?_) I.bare
   . have J:b=e\/b=it:=by simpa using J
     rcases J with rfl|rfl
     . exact⟨e3,e1,e4,e5⟩
     . exact⟨f3,f1,f4,f5⟩
   . exact kk b o (λz=>hc (by simp[z])) (λz=>hc (by simp[z])) q
   . exact⟨o.slots,kk b o (λz=>hc (by simp[z])) (λz=>hc (by simp[z])) q⟩
   . rw[eA (af b o q)];exact n
   . exact⟨o,kk b o (λz=>hc (by simp[z])) (λz=>hc (by simp[z])) q⟩
   . rw[eA (eM q Y)];exact q
   . rw[eA (eM q Y)];exact q
   . exact⟨#[],by rw[eA (eM q Y),q];simp⟩
   . obtain⟨o,es,ep,ho,r⟩:=hm;exact⟨o,es,ep,kk _ o (Ne.symm e1) (Ne.symm f1) ho,r⟩
   . by_cases J:b=s.heap.objs.size
     . subst J;rw[eI] at q;cases q;refine⟨xt,[.int i s.toks,u],.cons ⟨_,rfl⟩ (.cons ru .nil),?_⟩;exact⟨_,tup,rfl,_,rfl⟩
     . rw[eA J] at q;refine(I.hok b o q).stay (λc v ab z=>kk c v ?_ ?_ z) (λc z=>by rw[eA (eM z Y)];exact z) λc ys z=>by rw[eA (eM z Y)];exact z
       . rcases ab with z|z
         . rw[z];exact eM q e0
         . exact eM z e0
       . rcases ab with z|z
         . rw[z];exact eM q f0
         . exact eM z f0
  refine⟨.ref s.heap.objs.size,_,I1,rfl,⟨s.heap.objs.size,x,Y,rfl,λys hy=>by rw[I.qH hy hq];exact hx,rfl⟩,⟨u,?_,q2.extBut g2.extBut (Ne.symm aa)⟩,λb J=>?_⟩
  . have ei:((i+1:Nat):Int)=(i:Int)+1:=by omega
    show IsEnum U e it ((i+1:Nat):Int) u;rw[ei];exact g1
  . have ag:b=e\/b=it:=by simpa using J
    have ah:b<s.heap.objs.size:=by
     rcases ag with rfl|rfl
     . exact Q01 h1
     . obtain⟨o,q,_⟩:=h2;exact Q01 q
    rw[eA (Q08 ah)];exact(hf b J).1
 done:=by
  intro X hP hw hK hc i pins s σ H E I hf st hg;subst hP hw hK;obtain⟨L,h1,h2⟩:=st;obtain⟨xs,hq,hx⟩:=hg;obtain⟨ae,rv,p,hz⟩:=I.list hq;obtain⟨f0,f1,f2,f3,f4,f5⟩:=hf it (by simp);have hl:=rv.length;exact wpAny_pyNext_enum_end (I.ok.hd hc) h1 h2 p.isList (by simp;omega) λh' eb=>⟨rfl,I.turned (t':=s.toks) (λb o J q=>eb b o J q) f0 f1 f3 f4 f5⟩
 self:=λA i s Q E st q=>by
  obtain⟨L,h1,_⟩:=st;exact wpAny_pyIter_enum h1 q
def G5 (K:W.Frag) (ta:TA):TI:=λσ H R=>ta σ H λvs H1=>∃a,vs=[.ref a]/\(∃xs,eF K H1 a xs)/\R (Ite K a) H1
theorem G6:bootBuiltins "enumerate"=some (.type "enumerate"):=by decide +kernel
theorem qY {a:Expr}{ta:TA}{p pos tpos:Pos}{U:List Expr}{k:Nat}(hg:Gl X "enumerate")(hm:X.mg "enumerate"=none)(ha:PA X [a] ta)(hs:starEach [a] X.env=[(false,eval a X.env)]:=by rfl):
 PI X (.Tuple U k tpos) (.Call (.Name "enumerate" p) [a] [] pos) (G5 X.K ta):=by
 intro pins s σ H R I h;refine Call_ (lu I hg hm G6 (PyProof.Rows.callWith_type1 (eU (ha pos pins s σ H _ I h) λus J zq=>?_) hs rfl));obtain⟨vs,H1,Y,r1,q1⟩:=zq;obtain⟨l,e,⟨xs,hq⟩,q⟩:=q1;subst e;obtain⟨u,rfl,ru⟩:=vals1 r1
 cases ru;obtain⟨aa,rv,pl,hz⟩:=Y.list hq;refine call_enumerate_list pl.isList λh' q1 q2 q3 q4=>?_;refine wpAny_pyIter_enum q1 ?_;have I2:Inv X pins σ H1 { J with heap:=h' }:=Y.kept (t':=J.toks) q4;refine⟨J.heap.objs.size+1,[J.heap.objs.size+1,J.heap.objs.size],_,_,H1,rfl,I2,G4 (Q0x (Q10 _)),⟨.none,q1,q2⟩,λb L=>?_,q⟩
 have L:J.heap.objs.size<=b:=by
  have L:b=J.heap.objs.size+1\/b=J.heap.objs.size:=by simpa using L
  rcases L with z|z
  . rw[z];exact Q14 _
  . rw[z];exact Q00 _
 exact Y.me L (Y.hok.fresh L)
theorem boot_zip:bootBuiltins "zip"=some (.type "zip"):=by decide +kernel
theorem G7:ij X (binaryOp .Mult) (λx y H Q=>∃z i,x=.str z/\y=.int i/\MulOk z i/\Q (.str (Txt.mul z i)) H):=by
 intro pins s σ H x y v u Q I J L h;obtain⟨z,i,rfl,rfl,ok,q⟩:=h;obtain⟨t,rfl⟩:=J;obtain⟨t',rfl⟩:=L;exact SB.mul ok λU k=>⟨.str (Txt.mul z i),H,I.tok k,⟨_,rfl⟩,q⟩
theorem Bl {v:Value}{o:Option Int}(h:IsPart v o):(v=.none/\o=none)\/∃i t,v=.int i t/\o=some i:=by
 cases h with
 |none=>exact .inl ⟨rfl,rfl⟩
 |int i t=>exact .inr ⟨i,t,rfl,rfl⟩
theorem Bm:tT X (λx lo hi H Q=>∃z,x=.str z/\z.length<=sizeLine/\Q (.str (Txt.slice z lo hi)) H):=by
 intro pins s σ H x v vl vu lo hi sl Q I rx hs pl pu h;obtain⟨z,rfl,hz,q⟩:=h;obtain⟨t,rfl⟩:=rx
 have fin:∀{lo hi:Option Int} (q:Q (.str (Txt.slice z lo hi)) H),(Txt.slice z lo hi).length<=sizeLine/\∀t' k,EP X pins σ Q (.str (Txt.slice z lo hi) t') { s with toks:=k }:=
  λq=>⟨Q05 (Txt.slice_le z _ _) hz,λt' k=>⟨.str _,H,I.tok k,⟨t',rfl⟩,q⟩⟩
 refine⟨"str",_,F.slot_str_getitem.lookup,typeIs_str _ _ _,?_⟩;obtain⟨o,J,hc,L⟩:=hs;rcases Bl pl with⟨U,rfl⟩|⟨i,Y,U,rfl⟩ <;> rcases Bl pu with⟨e2,rfl⟩|⟨j,tj,e2,rfl⟩ <;> subst U <;> subst e2
 . exact wpAny_getItem_str_slice (l:=none) (u:=none) (st:=none) ⟨o,J,hc,L⟩ rfl (post_val_or_str (fin q))
 . exact wpAny_getItem_str_slice (l:=none) (u:=some (j,tj)) (st:=none) ⟨o,J,hc,L⟩ rfl (post_val_or_str (fin q))
 . exact wpAny_getItem_str_slice (l:=some (i,Y)) (u:=none) (st:=none) ⟨o,J,hc,L⟩ rfl (post_val_or_str (fin q))
 . exact wpAny_getItem_str_slice (l:=some (i,Y)) (u:=some (j,tj)) (st:=none) ⟨o,J,hc,L⟩ rfl (post_val_or_str (fin q))
end
theorem yes {σ:St}{H:Hp}{Q:Bool->Hp->Prop}(h:Q true H):jS σ H Q:=h
section
variable {K:W.Frag}{σ:St}{H:Hp}{Q:VK}{D:Ends}
theorem kr {i:Nat}{a b:Str}{T U:TS}(h:σ[i]? =some (some (.str a)))(z:decide (V.str a=V.str b)=true)(q:T D σ H):n8 (jC (f_ mj (fv i) (tC (.str b)))) T U D σ H:=
 ⟨_,h,rfl,_,rfl,by rw[z];exact gB q⟩
theorem gO {i:Nat}{a b:Str}{T U:TS}(h:σ[i]? =some (some (.str a)))(z:decide (V.str a=V.str b)=false)(q:U D σ H):n8 (jC (f_ mj (fv i) (tC (.str b)))) T U D σ H:=
 ⟨_,h,rfl,_,rfl,by rw[z];exact fE q⟩
theorem ku {i:Nat}{p:Addr}{xs:List V}{a b:Str}{T U:TS}(h:σ[i]? =some (some (.ref p)))(h2:H p=some (.tup xs))(z:xs[0]? =some (.str a))(J:decide (V.str a=V.str b)=true)(q:T D σ H):
 n8 (jC (f_ mj (f_ (iu K) (fv i) (tC (.int 0))) (tC (.str b)))) T U D σ H:=
 ⟨_,h,p,xs,0,.str a,rfl,rfl,eu.of h2,jY (j:=0) z,rfl,_,rfl,by rw[J];exact gB q⟩
theorem gP {i:Nat}{p:Addr}{xs:List V}{a b:Str}{T U:TS}(h:σ[i]? =some (some (.ref p)))(h2:H p=some (.tup xs))(z:xs[0]? =some (.str a))(J:decide (V.str a=V.str b)=false)(q:U D σ H):
 n8 (jC (f_ mj (f_ (iu K) (fv i) (tC (.int 0))) (tC (.str b)))) T U D σ H:=
 ⟨_,h,p,xs,0,.str a,rfl,rfl,eu.of h2,jY (j:=0) z,rfl,_,rfl,by rw[J];exact fE q⟩
end
end L2
namespace L2
noncomputable def ua (own N:List Str) (scope sc:Scope):Bool:=
 scope.names.all (λy=>decide (y.2≠ .cell)) && scope.names.all (λy=>decide (y.2=.local->scope.names.lookup y.1=some .local)) &&
 scope.names.all (λy=>decide (y.2=.free->sc.names.lookup y.1=some .cell\/sc.names.lookup y.1=some .free)) && decide (own++N).Nodup && N.all λx=>decide (scope.names.lookup x≠some .local)
theorem jE.of {X:Cx}{own N:List Str}{scope sc:Scope}(z:X.env.scope=sc)(J:X.N=N)(k:scope.kind=.function)(c:ua own N scope sc=true):jE X own scope:=by
 unfold ua at c;simp only[Bool.and_eq_true,Q1b,decide_eq_true_eq] at c;obtain⟨⟨⟨⟨L,U⟩,Y⟩,c4⟩,c5⟩:=c;exact⟨k,L,U,λy hy hf=>by rw[show X.env.kindOf y.1=X.env.scope.names.lookup y.1 from rfl,z];exact Y y hy hf,by rw[J];exact c4,by rw[J];exact c5⟩
end L2
namespace lI
open W PyProof.Rows
noncomputable def fF {α:Type}(f:Nat->Nat->Bool):KasT α->α
 | .ret a=>a
 | .ask i j k=>fF f (k (f i j))
theorem ou {α z:Type}(f:Nat->Nat->Bool)(g:α->KasT z):∀t:KasT α,fF f (t.bind g)=fF f (g (fF f t))
 | .ret _=>rfl
 | .ask i j k=>ou f g (k (f i j))
def Bn {α:Type}(n:Nat) (R:α->Prop):KasT α->Prop
 | .ret a=>R a
 | .ask i j k=>i<n/\j<n/\∀b,Bn n R (k b)
theorem Bn.bind {α z:Type}{n:Nat}{R:α->Prop}{S:z->Prop}{g:α->KasT z}:∀{t:KasT α},Bn n R t->(∀a,R a->Bn n S (g a))->Bn n S (t.bind g)
 | .ret a,h,k=>k a h
 | .ask i j q,h,k=>⟨h.1,h.2.1,λb=>Bn.bind (h.2.2 b) k⟩
theorem Bo {α:Type}{n:Nat}{R:α->Prop}{f:Nat->Nat->Bool}{z:Nat->Nat->(Bool->Shared->Prop)->Shared->Prop}{Q:α->Shared->Prop}{s:Shared}
 (h:∀i j (C:Bool->Shared->Prop),i<n->j<n->C (f i j) s->z i j C s):∀{t:KasT α},Bn n R t->Q (fF f t) s->t.kasWp z Q s
 | .ret a,_,q=>q
 | .ask i j k,b,q=>h i j _ b.1 b.2.1 (Bo h (b.2.2 (f i j)) q)
def Lt (n:Nat) (p:Array Nat):Prop:=0<n/\∀x∈p,x<n
theorem Lt.at {n:Nat}{p:Array Nat}(h:Lt n p)(i:Nat):p.getD i 0<n:=by
 rw[Q1s]
 cases e:p[i]? with
 |none=>exact h.1
 |some x=>exact h.2 x (Array.mem_of_getElem? e)
theorem Lt.perm {n:Nat}{p q:Array Nat}(h:Lt n p)(hp:q.Perm p):Lt n q:=⟨h.1,λx z=>h.2 x (hp.mem_iff.mp z)⟩
theorem lJ (p:Array Nat)(i j:Nat):(kas_rev p i j).Perm p:=mirror_perm _ _ _ _
theorem G8 (p:Array Nat)(i j:Nat):(kas_rev p i j).size=p.size:=mirror_size _ _ _ _
theorem ub {n:Nat}{p:Array Nat}(h:Lt n p):∀f m,Bn n (λ_=>True) (kas_asc p f m)
 |0,_=>trivial
 |f+1,m=>⟨h.at _,h.at _,λb=>by
   cases b with
   |true=>exact trivial
   |false=>exact ub h f (m+1)⟩
theorem qZ {n:Nat}:∀f (p:Array Nat) m q,Lt n p->Bn n (λr:Array Nat × Nat × Nat=>Lt n r.1) (kas_desc f p m q)
 |0,_,_,_,h=>h
 |f+1,p,m,q,h=>⟨h.at _,h.at _,λb=>by
   cases b with
   |true=>
    show Bn n _ (if q > 0 then kas_desc f (kas_rev p (m - (q+1)) m) (m+1) 0 else kas_desc f p (m+1) 0);split
    . exact qZ f _ _ _ (h.perm (lJ _ _ _))
    . exact qZ f _ _ _ h
   |false=>
    refine⟨h.at _,h.at _,λd=>?_⟩
    cases d with
    |true=>exact h
    |false=>exact qZ f _ _ _ h⟩
theorem Bp {n m r:Nat}{p:Array Nat}(h:Lt n p):Bn n (λq:Nat × Array Nat=>Lt n q.2) (kas_tail3 m r p):=
 (ub (h.perm (lJ _ _ _)) _ _).bind λ_ _=>h.perm (lJ _ _ _)
theorem Bq {n m r:Nat}{p:Array Nat}(h:Lt n p):Bn n (λq:Nat × Array Nat=>Lt n q.2) (kas_descPart m r p):=by
 refine(qZ _ _ _ _ h).bind λa z=>?_;split
 . exact Bp (z.perm (lJ _ _ _))
 . exact Bp z
theorem G9 {n r:Nat}{p:Array Nat}(h:Lt n p):Bn n (λq:Nat × Array Nat=>Lt n q.2) (kas_count r p):=by
 refine(ub h _ _).bind λa _=>?_;split
 . exact h
 split
 . refine⟨h.at _,h.at _,λb=>?_⟩
   cases b with
   |true=>exact h
   |false=>exact Bq (h.perm (lJ _ _ _))
 . exact Bq h
theorem uc {n k:Nat}{p:Array Nat}(h:Lt n p):∀f l r,Bn n (λ_=>True) (kas_place p k f l r)
 |0,_,_=>trivial
 |f+1,l,r=>by
  unfold kas_place;split
  . exact trivial
  . refine⟨h.at _,h.at _,λb=>?_⟩
    cases b with
    |true=>exact uc h f _ _
    |false=>exact uc h f _ _
theorem Br {n:Nat}:∀f (p:Array Nat) k,Lt n p->Bn n (λ_=>True) (kas_bin f p k)
 |0,_,_,_=>trivial
 |f+1,p,k,h=>(uc h _ _ _).bind λl _=>Br f _ _ (h.perm (bubble_perm _ _ _))
theorem G_ {n:Nat}(z:0<n):Bn n (λ_=>True) (kas_sort n):=by
 have h:Lt n (List.toArray (List.range n)):=⟨z,λx J=>by simpa using J⟩;refine(G9 h).bind λr L=>?_;split
 . exact Br _ _ _ L
 . exact trivial
section
variable {O:KeyOrd}(key:Nat->O.α)
noncomputable def fW:Nat->Nat->Bool:=λi j=>O.blt (key i) (key j)
noncomputable def Kp (p:Array Nat) (i:Nat):O.α:=key (p.getD i 0)
def jG (p:Array Nat) (k:Nat):Prop:=∀i j,i<=j->j<k->O.kle (Kp key p i) (Kp key p j)
def j0 (p:Array Nat) (k:Nat):Prop:=∀i j,i<=j->j<k->O.kle (Kp key p j) (Kp key p i)
variable {key}
theorem jG.succ {p:Array Nat}{n:Nat}(h:jG key p n)(h1:1<=n)(e:O.kle (Kp key p (n - 1)) (Kp key p n)):jG key p (n+1):=by
 intro i j z L;by_cases J:j<n
 . exact h i j z J
 . have:j=n:=by omega
   subst this;by_cases hi:i=j
   . subst hi;exact KeyOrd.kle_refl _
   . exact KeyOrd.kle_trans (h i (j - 1) (by omega) (by omega)) e
theorem j0.succ {p:Array Nat}{n:Nat}(h:j0 key p n)(h1:1<=n)(e:O.kle (Kp key p n) (Kp key p (n - 1))):j0 key p (n+1):=by
 intro i j z L;by_cases J:j<n
 . exact h i j z J
 . have:j=n:=by omega
   subst this;by_cases hi:i=j
   . subst hi;exact KeyOrd.kle_refl _
   . exact KeyOrd.kle_trans e (h i (j - 1) (by omega) (by omega))
theorem pQ {p q:Array Nat}{i j:Nat}(h:p[i]? =q[j]?):Kp key p i=Kp key q j:=by
 unfold Kp;rw[Q1s,Q1s,h]
theorem ud {p:Array Nat}{i j:Nat}(z:j<=p.size)(k:Nat):Kp key (kas_rev p i j) k=if i<=k/\k<j then Kp key p (i+j - 1 - k) else Kp key p k:=by
 have e:=getElem?_mirror_all (i:=i) z k;by_cases h1:i<=k/\k<j
 . rw[if_pos h1] at e ⊢;exact pQ e
 . rw[if_neg h1] at e ⊢;exact pQ e
theorem ue {p:Array Nat}{i j:Nat}(J:j<=p.size)(z:∀k,i<=k->k<j->Kp key p k=Kp key p (j - 1))(k:Nat):Kp key (kas_rev p i j) k=Kp key p k:=by
 rw[ud J];split
 . rw[z _ (by omega) (by omega),z k (by omega) (by omega)]
 . rfl
theorem Hc {p:Array Nat}{src d:Nat}(z:src<p.size)(J:d<=src)(k:Nat):
 Kp key (bubble p src d) k=if k=src - d then Kp key p src else if src - d<k/\k<=src then Kp key p (k - 1) else Kp key p k:=by
 have e:=getElem?_bubble z d J k;by_cases h1:k=src - d
 . rw[if_pos h1] at e ⊢;exact pQ e
 . rw[if_neg h1] at e ⊢;by_cases h2:src - d<k/\k<=src
   . rw[if_pos h2] at e ⊢;exact pQ e
   . rw[if_neg h2] at e ⊢;exact pQ e
theorem j0.congr {p q:Array Nat}{n:Nat}(h:j0 key p n)(e:∀k,Kp key q k=Kp key p k):j0 key q n:=λi j a b=>by
 rw[e,e];exact h i j a b
theorem uf {p:Array Nat}:∀f n,1<=n->jG key p n->n<=fF (fW key) (kas_asc p f n)/\fF (fW key) (kas_asc p f n)<=n+f/\jG key p (fF (fW key) (kas_asc p f n))/\
 (fF (fW key) (kas_asc p f n)<n+f->O.klt (Kp key p (fF (fW key) (kas_asc p f n))) (Kp key p (fF (fW key) (kas_asc p f n) - 1)))
 |0,n,_,h=>⟨Q00 _,Q00 _,h,λz=>absurd z (Q0r _)⟩
 |f+1,n,h1,h=>by
  have e:fF (fW key) (kas_asc p (f+1) n)=fF (fW key) (if O.blt (Kp key p n) (Kp key p (n - 1))=true then .ret n else kas_asc p f (n+1)):=rfl;rw[e]
  cases c:O.blt (Kp key p n) (Kp key p (n - 1)) with
  |true=>
   rw[if_pos rfl];exact⟨Q00 _,Q1t _ _,h,λ_=>c⟩
  |false=>
   rw[if_neg (by simp)];obtain⟨U,Y,J,L⟩:=uf f (n+1) (by omega) (h.succ h1 c);exact⟨by omega,by omega,J,λz=>L (by omega)⟩
structure DI (O:KeyOrd) (key:Nat->O.α) (p₀:Array Nat) (p:Array Nat) (n q:Nat):Prop where
 perm:p.Perm p₀
 non:j0 key p n
 one:q+1<=n
 size:n<=p.size
 eq:∀k,n - (q+1)<=k->k<n->Kp key p k=Kp key p (n - 1)
theorem q9 {z:Array Nat}:∀f (p:Array Nat) n q,DI O key z p n q->n+f<=z.size->
 ∃L J U,fF (fW key) (kas_desc f p n q)=(L,J,U)/\DI O key z L J U/\J<=n+f
 |0,p,n,q,d,_=>⟨p,n,q,rfl,d,Q00 _⟩
 |f+1,p,n,q,d,hs=>by
  have hsz:p.size=z.size:=d.perm.size_eq
  have e:fF (fW key) (kas_desc (f+1) p n q)=fF (fW key) (if O.blt (Kp key p n) (Kp key p (n - 1))=true then(if q > 0 then kas_desc f (kas_rev p (n - (q+1)) n) (n+1) 0 else kas_desc f p (n+1) 0)
   else .ask (p.getD (n - 1) 0) (p.getD n 0) λd=>if d=true then .ret (p,n,q) else kas_desc f p (n+1) (q+1)):=rfl
  rw[e];have one:=d.one
  cases c:O.blt (Kp key p n) (Kp key p (n - 1)) with
  |true=>
   rw[if_pos rfl];have cl:O.kle (Kp key p n) (Kp key p (n - 1)):=KeyOrd.kle_of_klt c;by_cases hq:q > 0
   . rw[if_pos hq];have ek:∀k,Kp key (kas_rev p (n - (q+1)) n) k=Kp key p k:=ue d.size d.eq
     have d':DI O key z (kas_rev p (n - (q+1)) n) (n+1) 0:=⟨(lJ _ _ _).trans d.perm,(d.non.succ (by omega) cl).congr ek,by omega,by rw[G8];omega,λk h1 h2=>by
      have:k=n:=by omega
      subst this;rfl⟩
     obtain⟨L,J,U,Y,r2,r3⟩:=q9 f _ _ _ d' (by omega);exact⟨L,J,U,Y,r2,by omega⟩
   . rw[if_neg hq]
     have d':DI O key z p (n+1) 0:=⟨d.perm,d.non.succ (by omega) cl,by omega,by omega,λk h1 h2=>by
      have:k=n:=by omega
      subst this;rfl⟩
     obtain⟨L,J,U,Y,r2,r3⟩:=q9 f _ _ _ d' (by omega);exact⟨L,J,U,Y,r2,by omega⟩
  |false=>
   rw[if_neg (by simp)];have e2:fF (fW key) (.ask (p.getD (n - 1) 0) (p.getD n 0) λd=>if d=true then .ret (p,n,q) else kas_desc f p (n+1) (q+1))=fF (fW key) (if O.blt (Kp key p (n - 1)) (Kp key p n)=true then .ret (p,n,q) else kas_desc f p (n+1) (q+1)):=rfl;rw[e2]
   cases c2:O.blt (Kp key p (n - 1)) (Kp key p n) with
   |true=>
    rw[if_pos rfl];exact⟨p,n,q,rfl,d,by omega⟩
   |false=>
    rw[if_neg (by simp)];have ee:Kp key p n=Kp key p (n - 1):=O.total _ _ c c2
    have d':DI O key z p (n+1) (q+1):=⟨d.perm,d.non.succ (by omega) (by rw[ee];exact KeyOrd.kle_refl _),by omega,by omega,λk h1 h2=>by
     show Kp key p k=Kp key p n;by_cases hk:k=n
     . rw[hk]
     . rw[ee];exact d.eq k (by omega) (by omega)⟩
    obtain⟨L,J,U,Y,r2,r3⟩:=q9 f _ _ _ d' (by omega);exact⟨L,J,U,Y,r2,by omega⟩
def pR (O:KeyOrd) (key:Nat->O.α) (z:Array Nat) (nrem:Nat) (r:Nat × Array Nat):Prop:=r.2.Perm z/\1<=r.1/\r.1<=nrem/\jG key r.2 r.1
theorem Bs {z p:Array Nat}{n nrem:Nat}(hp:p.Perm z)(h1:1<=n)(Y:n<=nrem)(hs:nrem<=z.size)(h:j0 key p n):pR O key z nrem (fF (fW key) (kas_tail3 n nrem p)):=by
 have hsz:p.size=z.size:=hp.size_eq;unfold kas_tail3;rw[ou]
 have J:jG key (kas_rev p 0 n) n:=λi j U hj=>by
  rw[ud (by omega),ud (by omega),if_pos (by omega),if_pos (by omega)];exact h _ _ (by omega) (by omega)
 obtain⟨a1,a2,L,_⟩:=uf (key:=key) (p:=kas_rev p 0 n) (nrem - n) n h1 J;exact⟨(lJ _ _ _).trans hp,by show 1<=fF _ _;omega,by show fF _ _<=nrem;omega,L⟩
theorem Bt {z p:Array Nat}{n nrem:Nat}(hp:p.Perm z)(h1:1<=n)(hn:n+1<=nrem)(hs:nrem<=z.size)(h:j0 key p (n+1)):pR O key z nrem (fF (fW key) (kas_descPart n nrem p)):=by
 have hsz:p.size=z.size:=hp.size_eq;unfold kas_descPart;rw[ou]
 have d:DI O key z p (n+1) 0:=⟨hp,h,by omega,by omega,λk h1 h2=>by
  have:k=n:=by omega
  subst this;rfl⟩
 obtain⟨U,L,Y,r1,J,r3⟩:=q9 (key:=key) (nrem - (n+1)) p (n+1) 0 d (by omega);rw[r1];have o:=J.one;have sz:=J.size;have aa:U.size=z.size:=J.perm.size_eq;by_cases hq:Y > 0
 . show pR O key z nrem (fF (fW key) (if Y > 0 then kas_tail3 L nrem (kas_rev U (L - (Y+1)) L) else kas_tail3 L nrem U));rw[if_pos hq];exact Bs ((lJ _ _ _).trans J.perm) (by omega) (by omega) hs (J.non.congr (ue J.size J.eq))
 . show pR O key z nrem (fF (fW key) (if Y > 0 then kas_tail3 L nrem (kas_rev U (L - (Y+1)) L) else kas_tail3 L nrem U));rw[if_neg hq];exact Bs J.perm (by omega) (by omega) hs J.non
theorem Hd {p:Array Nat}{nrem:Nat}(h1:1<=nrem)(hs:nrem<=p.size):pR O key p nrem (fF (fW key) (kas_count nrem p)):=by
 unfold kas_count;rw[ou]
 obtain⟨z,a2,L,a4⟩:=uf (key:=key) (p:=p) (nrem - 1) 1 (Q00 _) (λi j J hj=>by
  have U:i=0:=by omega
  have Y:j=0:=by omega
  subst U;subst Y;exact KeyOrd.kle_refl _)
 generalize fF (fW key) (kas_asc p (nrem - 1) 1)=n at *;by_cases hn:n=nrem
 . rw[if_pos (by simpa using hn)];exact⟨Array.Perm.refl _,z,by show n<=nrem;omega,L⟩
 . rw[if_neg (by simpa using hn)];have cl:O.klt (Kp key p n) (Kp key p (n - 1)):=a4 (by omega);by_cases hg:n > 1
   . rw[if_pos hg]
     have e:fF (fW key) (.ask (p.getD 0 0) (p.getD (n - 1) 0) λc=>if c=true then .ret (n,p) else kas_descPart n nrem (kas_rev p 0 n))=
      fF (fW key) (if O.blt (Kp key p 0) (Kp key p (n - 1))=true then .ret (n,p) else kas_descPart n nrem (kas_rev p 0 n)):=rfl
     rw[e]
     cases c:O.blt (Kp key p 0) (Kp key p (n - 1)) with
     |true=>
      rw[if_pos rfl];exact⟨Array.Perm.refl _,z,by show n<=nrem;omega,L⟩
     |false=>
      rw[if_neg (by simp)]
      have all:∀k,0<=k->k<n->Kp key p k=Kp key p (n - 1):=λk _ hk=>by
       have c':O.kle (Kp key p (n - 1)) (Kp key p 0):=c;exact KeyOrd.kle_antisymm (L k (n - 1) (by omega) (by omega)) (KeyOrd.kle_trans c' (L 0 k (by omega) hk))
      have ek:∀k,Kp key (kas_rev p 0 n) k=Kp key p k:=ue (by omega) all;refine Bt (lJ _ _ _) z (by omega) hs (j0.congr (j0.succ (n:=n) (λi j J hj=>?_) z (KeyOrd.kle_of_klt cl)) ek);rw[all i (by omega) (by omega),all j (by omega) (by omega)];exact KeyOrd.kle_refl _
   . rw[if_neg hg];have:n=1:=by omega
     subst this;refine Bt (Array.Perm.refl _) z (by omega) hs (j0.succ (n:=1) (λi j J hj=>?_) z (KeyOrd.kle_of_klt cl));have U:i=0:=by omega
     have Y:j=0:=by omega
     subst U;subst Y;exact KeyOrd.kle_refl _
theorem ug {p:Array Nat}{k:Nat}(h:jG key p k):∀f l r,l<=r->r<=k->r - l<=f->(∀i,i<l->O.kle (Kp key p i) (Kp key p k))->(∀i,r<=i->i<k->O.klt (Kp key p k) (Kp key p i))->
 ∃m,fF (fW key) (kas_place p k f l r)=m/\m<=k/\(∀i,i<m->O.kle (Kp key p i) (Kp key p k))/\(∀i,m<=i->i<k->O.klt (Kp key p k) (Kp key p i))
 |0,l,r,h1,h2,U,z,J=>⟨l,rfl,by omega,z,λi a b=>J i (by omega) b⟩
 |f+1,l,r,h1,h2,U,z,J=>by
  by_cases L:l ≥ r
  . refine⟨l,?_,by omega,z,λi a b=>J i (by omega) b⟩;unfold kas_place;rw[if_pos L];rfl
  . have e:fF (fW key) (kas_place p k (f+1) l r)=fF (fW key) (if O.blt (Kp key p k) (Kp key p ((l+r) / 2))=true then kas_place p k f l ((l+r) / 2) else kas_place p k f ((l+r) / 2+1) r):=by
     show fF (fW key) (if l ≥ r then .ret l else _)=_;rw[if_neg L];rfl
    rw[e]
    cases c:O.blt (Kp key p k) (Kp key p ((l+r) / 2)) with
    |true=>
     rw[if_pos rfl];exact ug h f _ _ (by omega) (by omega) (by omega) z λi a b=>KeyOrd.klt_of_klt_of_kle (show O.klt _ _ from c) (h _ _ a b)
    |false=>
     rw[if_neg (by simp)];exact ug h f _ _ (by omega) h2 (by omega) (λi a=>KeyOrd.kle_trans (h i ((l+r) / 2) (by omega) (by omega)) (show O.kle _ _ from c)) J
theorem Bu:∀f (p:Array Nat) k,jG key p k->k+f<=p.size->(fF (fW key) (kas_bin f p k)).Perm p/\jG key (fF (fW key) (kas_bin f p k)) (k+f)
 |0,p,k,h,_=>⟨Array.Perm.refl _,h⟩
 |f+1,p,k,h,hs=>by
  have e:fF (fW key) (kas_bin (f+1) p k)=fF (fW key) (kas_bin f (bubble p k (k - fF (fW key) (kas_place p k k 0 k))) (k+1)):=by
   show fF (fW key) ((kas_place p k k 0 k).bind λl=>kas_bin f (bubble p k (k - l)) (k+1))=_;rw[ou]
  rw[e];obtain⟨m,em,m1,m2,m3⟩:=ug h k 0 k (Q0b _) (Q00 _) (Q00 _) (λi z=>absurd z (Nat.not_lt_zero _)) (λi a b=>absurd a (by omega));rw[em];have L:=λi=>Hc (key:=key) (p:=p) (src:=k) (d:=k - m) (by omega) (by omega) i;have hm:k - (k - m)=m:=by omega
  rw[hm] at L
  have hS:jG key (bubble p k (k - m)) (k+1):=by
   intro i j U hj;rw[L i,L j];by_cases Y:i=m
   . rw[if_pos Y];by_cases J:j=m
     . rw[if_pos J];exact KeyOrd.kle_refl _
     . rw[if_neg J,if_pos (by omega)];exact KeyOrd.kle_of_klt (m3 _ (by omega) (by omega))
   . rw[if_neg Y];by_cases li:m<i/\i<=k
     . rw[if_pos li,if_neg (by omega),if_pos (by omega)];exact h _ _ (by omega) (by omega)
     . rw[if_neg li];by_cases J:j=m
       . rw[if_pos J];exact m2 i (by omega)
       . rw[if_neg J];by_cases lj:m<j/\j<=k
         . rw[if_pos lj];exact h _ _ (by omega) (by omega)
         . rw[if_neg lj];exact h _ _ U (by omega)
  obtain⟨b1,b2⟩:=Bu f (bubble p k (k - m)) (k+1) hS (by rw[bubble_size];omega);exact⟨b1.trans (bubble_perm _ _ _),by rw[show k+(f+1)=k+1+f by omega];exact b2⟩
theorem He {n:Nat}(hn:1<=n):(fF (fW key) (kas_sort n)).toList.Perm (List.range n)/\((fF (fW key) (kas_sort n)).toList.map key).Pairwise O.kle:=by
 have Y:(List.toArray (List.range n)).size=n:=by simp
 obtain⟨z,c2,c3,c4⟩:=Hd (key:=key) (p:=List.toArray (List.range n)) (nrem:=n) hn (by omega)
 have main:(fF (fW key) (kas_sort n)).Perm (List.toArray (List.range n))/\jG key (fF (fW key) (kas_sort n)) n:=by
  unfold kas_sort;rw[ou];generalize fF (fW key) (kas_count n (List.toArray (List.range n)))=r at *;obtain⟨m,p⟩:=r;have hsz:p.size=n:=by rw[z.size_eq,Y]
  by_cases hm:m<n
  . show(fF (fW key) (if m<n then kas_bin (n - max m 1) p (max m 1) else .ret p)).Perm _/\jG key (fF (fW key) (if m<n then kas_bin (n - max m 1) p (max m 1) else .ret p)) n;rw[if_pos hm];have c2:1<=m:=c2;have em:max m 1=m:=by omega
    rw[em];obtain⟨b1,b2⟩:=Bu (key:=key) (n - m) p m c4 (by omega);exact⟨b1.trans z,by rw[show n=m+(n - m) by omega];rw[show m+(n - m) - m=n - m by omega];exact b2⟩
  . show(fF (fW key) (if m<n then kas_bin (n - max m 1) p (max m 1) else .ret p)).Perm _/\jG key (fF (fW key) (if m<n then kas_bin (n - max m 1) p (max m 1) else .ret p)) n;rw[if_neg hm];have c3:m<=n:=c3;have:m=n:=by omega
    subst this;exact⟨z,c4⟩
 refine⟨Array.perm_iff_toList_perm.mp main.1,?_⟩;have hsz:(fF (fW key) (kas_sort n)).size=n:=by rw[main.1.size_eq,Y]
 rw[Q1c,List.pairwise_iff_getElem];intro i j hi hj J;have L:i<(fF (fW key) (kas_sort n)).size:=by simpa using hi
 have U:j<(fF (fW key) (kas_sort n)).size:=by simpa using hj
 have q:=main.2 i j (Q0s J) (by omega);unfold Kp at q;rw[Q1s,Q1s,Q32 L,Q32 U] at q;simpa using q
end
end lI
namespace L2
open Spec PyProof.Rows
def q_ (c':Addr) (qual:Str):Heap->Prop:=λh=>h.CodeRec (.ref c') qual
def lK (P:Addr) (pos:Pos) (qual:Str) (c':Addr) (H:Hp):Prop:=H P=some (.fO #[rawInt pos.line,rawInt pos.col,.ref c'])/\H c'=some (.ext (q_ c' qual))
def eV (P:Addr) (pos:Pos) (qual:Str) (H:Hp):Prop:=H P=some (.fO #[])\/∃c',lK P pos qual c' H
theorem lK.mono {P:Addr}{pos:Pos}{qual:Str}{c':Addr}{H H':Hp}(h:lK P pos qual c' H)(k:∀b o,(b=P\/b=c')->H b=some o->H' b=some o):lK P pos qual c' H':=⟨k _ _ (.inl rfl) h.1,k _ _ (.inr rfl) h.2⟩
def BM (mg:Str->Option Value) (base:Heap):Prop:=
 ∃z o,mg "__builtins__"=some (.ref z)/\z≠builtinsNs/\z≠mainGlobals/\base.get? z=some o/\o.cls=.type "module"/\o.dict=some builtinsNs/\o.data=.plain
section
variable {X:Cx}{pins:List (Addr × Obj)}{σ:St}{H:Hp}{s:Shared}
theorem Inv.Bv (I:Inv X pins σ H s){P b:Addr}{o:HO}{u:Obj}(e:H P=some o)(J:X.base.get? b=some u):b≠P:=λz=>by
 have:=(I.bs b u J).2;rw[z,e] at this;cases this
theorem Inv.Bw (I:Inv X pins σ H s)(B:BM X.mg X.base){P:Addr}{o:HO}(e:H P=some o):s.heap.BuiltinsAt X.mg P:=by
 obtain⟨z,J,U,Y,b3,L,b5⟩:=B;exact⟨z,J,U,Y,b3,I.Bv e L,(I.bs z J L).1,b5⟩
theorem Inv.adopt {b:Addr}{o:HO}{h':Heap}{t':Nat}(I:Inv X pins σ H s)(f:iU X pins H b)(k:∀c u,c≠b->s.heap.get? c=some u->h'.get? c=some u)(new:gJ X.prog X.w (upd H b o) h' b o):
 Inv X pins σ (upd H b o) { s with heap:=h',toks:=t' }:=by
 obtain⟨Y,U,f2,f3,f4,f5⟩:=f;have J:∀c u,H c=some u->c≠b:=λc u e=>eM e Y
 refine I.step (g':=s.gens) (d':=s.drawn) (ch:=[b]) (λc hc=>?_) (λc u _ _ hc e _=>k c u (λz=>hc (by simp[z])) e) (λc u _ _ hc e _=>⟨u.slots,k c u (λz=>hc (by simp[z])) e⟩) (λc u hc e n=>?_)
  (λc u hc e=>⟨u,k c u (λz=>hc (by simp[z])) e⟩) (λc xs e=>?_) (λc L u e=>?_) (λc ps e=>⟨#[],?_⟩) (λm hm=>?_) (λc u e=>?_) I.bare
 . have e:c=b:=by simpa using hc
   subst e;exact⟨f3,U,f4,f5⟩
 . rw[eA (λz=>hc (by simp[z]))];exact n
 . rw[eA (J _ _ e)];exact e
 . rw[eA (J _ _ e)];exact e
 . rw[eA (J _ _ e),e];simp
 . obtain⟨L,es,ep,ho,r⟩:=hm;exact⟨L,es,ep,k _ L (Ne.symm U) ho,r⟩
 . by_cases hc:c=b
   . subst hc;rw[eI] at e;cases e;exact new
   . rw[eA hc] at e;refine(I.hok c u e).stay (λd v hd q=>k d v ?_ q) (λd q=>by rw[eA (J _ _ q)];exact q) λd xs q=>by rw[eA (J _ _ q)];exact q
     rcases hd with z|z
     . rw[z];exact hc
     . exact J _ _ z
theorem Inv.own {b:Addr}{h':Heap}{t':Nat}(I:Inv X pins σ H s)(f:iU X pins H b)(z:Heap.SameBut b s.heap h'):Inv X pins σ H { s with heap:=h',toks:=t' }:=
 I.turned (t':=t') (λc u hc e=>(z.2 c hc).trans e) f.1 f.2.1 f.2.2.2.1 f.2.2.2.2.1 f.2.2.2.2.2
theorem Bx {name qual:Str}{L:Arguments}{body:Expr}{scope:Scope}{pos:Pos}{U:Nat}{cl:List (Str × Addr)}{c P:Addr}{Q:Value->Shared->Prop}{E:Value->Shared->Prop}(I:Inv X pins σ H s)(aa:X.env.code=.ref c)(C:W.CodeHd X.base c P)
 (B:BM X.mg X.base) (T:eV P pos qual H) (ac:closureFor scope X.env=pure cl)
 (h:∀(f c':Addr) (pm Y:Value) (H':Hp) (s':Shared),Inv X (pins++[(f,W.kla_obj name qual L body scope cl pm c' Y)]) σ H' s'->lK P pos qual c' H'->(∀b o,b≠P->H b=some o->H' b=some o)->Q (.ref f) s'):
 wpAny (model X.prog X.w) X.A (makeFunction name qual L (.expr body) scope X.env [] [] [] pos U) Q E s:=by
 have hg:s.heap.Ns mainGlobals X.mg:=I.mod.glob.keeps I.bk;have C':=C.keeps I.bk
 have ae:∀{H':Hp} {s':Shared} {f:Addr} {o:Obj},Inv X pins σ H' s'->s'.heap.get? f=some o->H' f=none->s.heap.objs.size<=f->(∀v,o.data≠ .cell v)->Inv X (pins++[(f,o)]) σ H' s':=λ{H' s' f o} J e n hz d=>
  J.mS λp hp=>(List.mem_append.mp hp).elim (λz=>J.pin p (Q06 _ z)) λz=>by
    have:p=(f,o):=by simpa using z
    subst this;exact⟨e,n,Q0x (Q0d I.lt hz),I.n0 hz,d⟩
 rcases T with e|⟨c',e1,e2⟩
 . have hP:s.heap.get? P=some (W.tabObj #[]):=I.hok P _ e;have af:P<s.heap.objs.size:=Q01 hP
   have ak:mainGlobals≠P:=by
    obtain⟨o,es,ep,eo,_⟩:=I.mod.glob;exact I.Bv e eo
   refine W.kla_makeFunction (mg:=X.mg) ac I.ok.glob hg aa C' hP trivial rfl ak (I.Bw B e) λc' Y h' tk hx ab ag aj ah=>?_;have ai:c'≠P:=Q0x (Q0d af ab);have al:H c'=none:=I.hok.fresh ab
   have nP:∀b u,H b=some u->u≠ .fO #[]->b≠P:=λb u q d z=>by
    rw[z,e] at q;exact d (Option.some.inj q).symm
   have nC:∀b u,H b=some u->b≠c':=λb u q=>eM q al;have kk:∀(ob:Obj) b u,b≠P->s.heap.get? b=some u->(h'.push ob).get? b=some u:=λob b u hb q=>Q07 _ (hx b u hb q)
   have I1:Inv X pins σ (upd (upd H P (.fO (#[]++#[rawInt pos.line,rawInt pos.col,.ref c']))) c' (.ext (q_ c' qual))) { s with heap:=h'.push (W.kla_obj name qual L body scope cl ((X.mg "__name__").getD .none) c' Y),toks:=tk }:=by
    refine I.step (g':=s.gens) (d':=s.drawn) (ch:=[]) (λ_ z=>nomatch z) (λb o _ _ _ q n=>kk _ b o (λz=>by rw[z,e] at n;cases n) q) (λb o _ _ _ q n=>⟨o.slots,kk _ b o (λz=>by rw[z,e] at n;cases n) q⟩)
     (λb o _ q n=>?_) (λb o _ q=>?_) (λb xs q=>?_) (λb o u q=>?_) (λb ps q=>?_) (λm hm=>?_) (λb o q=>?_) I.bare
    . have b1:b≠P:=λz=>by rw[z,e] at n;cases n
      have b2:b≠c':=Q08 (Q0d (Q01 q) ab);rw[eA b2,eA b1];exact n
    . by_cases hb:b=P
      . subst hb;exact⟨_,Q07 _ ah⟩
      . exact⟨o,kk _ b o hb q⟩
    . rw[eA (nC _ _ q),eA (nP _ _ q (by intro z;cases z))];exact q
    . rw[eA (nC _ _ q),eA (nP _ _ q (by intro z;cases z))];exact q
    . by_cases hb:b=P
      . subst hb;rw[e] at q;cases q;exact⟨_,by rw[eA (Ne.symm ai),eI]⟩
      . exact⟨#[],by rw[eA (nC _ _ q),eA hb,q];simp⟩
    . obtain⟨o,es,ep,ho,r⟩:=hm;exact⟨o,es,ep,kk _ _ o (λz=>by have:=I.free;rw[z,e] at this;cases this) ho,r⟩
    . by_cases hb:b=c'
      . subst hb;rw[eI] at q;cases q;obtain⟨ao,oc,vs,t,z1,z2,z3,z4⟩:=aj
        cases z1;refine⟨⟨_,oc,vs,t,rfl,Q07 _ z2,z3,z4⟩,⟨oc,Q07 _ z2⟩,λh1 h2 y hy=>?_⟩;obtain⟨ap,am,an,t',y1,y2,y3,y4⟩:=y
        cases y1;exact⟨_,am,an,t',rfl,hy _ y2,y3,y4⟩
      . rw[eA hb] at q;by_cases hp:b=P
        . subst hp;rw[eI] at q;cases q;show(h'.push _).get? b=some { cls:=.none,data:=.fields _ };exact Q07 _ ah
        . rw[eA hp] at q;refine(I.hok b o q).stay (λd v hd y=>kk _ d v ?_ y) (λd y=>by rw[eA (nC _ _ y),eA (nP _ _ y (by intro z;cases z))];exact y) λd xs y=>by rw[eA (nC _ _ y),eA (nP _ _ y (by intro z;cases z))];exact y
          rcases hd with z|z
          . rw[z];exact hp
          . exact nP _ _ z (by intro z;cases z)
   have fz:s.heap.objs.size<=h'.objs.size:=Q0s (Q1q ab ag)
   have fn:upd (upd H P (.fO (#[]++#[rawInt pos.line,rawInt pos.col,.ref c']))) c' (.ext (q_ c' qual)) h'.objs.size=none:=by
    rw[eA (Q0x ag),eA (Q0x (Q0d af fz))];exact I.hok.fresh fz
   refine h h'.objs.size c' ((X.mg "__name__").getD .none) Y _ _ (ae I1 (Q0n _ rfl) fn fz (by intro v z;cases z)) ⟨by rw[eA (Ne.symm ai),eI];rfl,eI⟩ λb o hb q=>?_;rw[eA (nC _ _ q),eA hb];exact q
 . have hP:s.heap.get? P=some (W.tabObj #[rawInt pos.line,rawInt pos.col,.ref c']):=I.hok P _ e1;refine W.kla_makeFunctionHit (mg:=X.mg) (cv:=.ref c') ac I.ok.glob hg aa C' hP (by simp[TriplesOk,rawInt]) (by simp[codeAmong,rawInt]) (I.Bw B e1) λY h' tk hk hsz=>?_;exact h h'.objs.size c' ((X.mg "__name__").getD .none) Y H _ (ae (I.kept λb u q=>Q07 _ (hk b u q)) (Q0n _ rfl) (I.hok.fresh hsz) hsz (by intro v z;cases z)) ⟨e1,e2⟩ λb o _ q=>q
structure lL (X:Cx) (x:Str) (N':List Str) (scope:Scope):Prop where
 kind:scope.kind=.function
 co:scope.isCoroutine=false
 gen:scope.isGenerator=false
 cell:∀y∈scope.names,y.2≠ .cell
 loc:scope.names.lookup x=some .local
 free:∀y∈scope.names,y.2=.free->X.env.kindOf y.1=some .cell\/X.env.kindOf y.1=some .free
 len:N'.length=X.N.length
 outer:∀(i:Nat) (y:Str),N'[i]? =some y->scope.names.lookup y=none\/(X.N[i]? =some y/\scope.names.lookup y≠some .local)
noncomputable def nv (scope:Scope):List Str->List Str->Bool
 |[],[]=>true
 |y::r,z::q=>(decide (scope.names.lookup y=none) || (decide (z=y) && decide (scope.names.lookup y≠some .local))) && nv scope r q
 |_,_=>false
theorem By {scope:Scope}:∀{N' N:List Str},nv scope N' N=true->N'.length=N.length
 |[],[],_=>rfl
 |y::r,z::q,h=>by
  simp only[nv,Bool.and_eq_true] at h;rw[Q0j,Q0j,By h.2]
theorem Bz {scope:Scope}:∀{N' N:List Str},nv scope N' N=true->∀(i:Nat) (y:Str),N'[i]? =some y->scope.names.lookup y=none\/(N[i]? =some y/\scope.names.lookup y≠some .local)
 |[],[],_,i,y,e=>by simp at e
 |w::r,z::q,h,0,y,e=>by
  simp only[nv,Bool.and_eq_true,Bool.or_eq_true,decide_eq_true_eq] at h;have e:some w=some y:=e
  cases e;rcases h.1 with h1|⟨h1,h2⟩
  . exact .inl h1
  . subst h1;exact .inr ⟨rfl,h2⟩
 |w::r,z::q,h,i+1,y,e=>by
  simp only[nv,Bool.and_eq_true] at h;have:=Bz h.2 i y (by simpa using e);simpa using this
noncomputable def BA (x:Str) (N' N:List Str) (scope sc:Scope):Bool:=
 scope.names.all (λy=>decide (y.2≠ .cell)) && decide (scope.names.lookup x=some .local) && scope.names.all (λy=>decide (y.2=.free->sc.names.lookup y.1=some .cell\/sc.names.lookup y.1=some .free)) && nv scope N' N
theorem lL.of {x:Str}{N' N:List Str}{scope sc:Scope}(z:X.env.scope=sc)(J:X.N=N)(k:scope.kind=.function)(U:scope.isCoroutine=false)(Y:scope.isGenerator=false)(c:BA x N' N scope sc=true):lL X x N' scope:=by
 unfold BA at c;simp only[Bool.and_eq_true,Q1b,decide_eq_true_eq] at c;obtain⟨⟨⟨a1,a2⟩,a3⟩,L⟩:=c;exact⟨k,U,Y,a1,a2,λy hy hf=>by rw[show X.env.kindOf y.1=X.env.scope.names.lookup y.1 from rfl,z];exact a3 y hy hf,by rw[J];exact By L,by rw[J];exact Bz L⟩
noncomputable abbrev ra (qual:Str) (scope:Scope) (cl:List (Str × Addr)) (f c':Addr) (s:Shared):Env:=W.envX qual scope s.heap.objs.size f (.ref c') cl
noncomputable def pS (X:Cx) (x:Str) (N':List Str) (scope:Scope) (cl:List (Str × Addr)) (qual:Str) (f c':Addr) (s:Shared) (H:Hp):Cx:=
 { X with A:=X.A.in1.in1.deeper (ra qual scope cl f c' s),N:=x::N',s₀:=s,H₀:=H,env:=ra qual scope cl f c' s,outer:=X.stack,stack:=ra qual scope cl f c' s::X.stack,ex:=[],fn:=λ_=>false,pn:=[],calm:=true,xe:=λ_ _=>False }
theorem Inv.lam {x:Str}{N':List Str}{scope:Scope}{cl:List (Str × Addr)}{qual:Str}{f c':Addr}{v:V}{u:Value}{L:Heap}{t':Nat}(I:Inv X pins σ H s)(S:lL X x N' scope)(hd:X.A.handled=none)
 (J:∀y c,cl.lookup y=some c->X.env.cells.lookup y=some c) (ab:∀y,(y,NameKind.free)∈scope.names->cl.lookup y=X.env.cells.lookup y) (r:RelV v u)
 (hn:L.Ns s.heap.objs.size (λy=>([(x,u)]:List (Str × Value)).reverse.lookup y)) (aa:∀b o,s.heap.get? b=some o->L.get? b=some o):
 Inv (pS X x N' scope cl qual f c' s H) [] (some v::σ) H { s with heap:=L,toks:=t' }:=by
 have ok:=I.ok
 have U:∀y,(scope.names.lookup y=some .cell\/scope.names.lookup y=some .free)->(y,NameKind.free)∈scope.names:=λy hy=>by
  rcases hy with hy|hy
  . exact absurd rfl (S.cell _ (PySem.mem_of_lookup hy))
  . exact PySem.mem_of_lookup hy
 refine⟨⟨ok.mod,S.kind,rfl,rfl,Q00 _,λy z c Y e2=>ok.inj y z c (J y c Y) (J z c e2),λy hy=>?_,λy c hy _=>(nomatch hy),λ_=>hd,Around.frames_deeper (show X.A.in1.in1.frames=some X.stack from ok.frames),.inr ⟨rfl,rfl⟩,λb hb=>absurd (show b∈([]:List Addr) from hb) (by simp),I.bs,Q05 ok.ki I.sz,
  λb o _ hb=>absurd (show b∈([]:List Addr) from hb) (by simp),λb hb=>absurd (show b∈([]:List Addr) from hb) (by simp),I.stack,I.pz⟩,
  rfl,I.bare,Un.kept aa,⟨_,hn,λi y v' Y e2 e3=>?_⟩,λy c e=>?_,I.hok.fresh (Q00 _),λy c e=>I.i7 y c (J y c e),λp hp=>absurd (show p∈([]:List (Addr × Obj)) from hp) (by simp),I.hok.kept aa,?_⟩
 . have hm:=U y hy;obtain⟨c,e⟩:=ok.has y (S.free _ hm rfl);exact⟨c,by rw[show(pS X x N' scope cl qual f c' s H).env.cells=cl from rfl,ab y hm];exact e⟩
 . cases i with
   |zero=>
    have Y:some x=some y:=Y
    cases Y;have e2:some (some v)=some (some v'):=e2
    cases e2;exact⟨u,r,.inl ⟨S.loc,by simp⟩⟩
   |succ i=>
    have Y:N'[i]? =some y:=by
     have Y:(x::N')[i+1]? =some y:=Y;simpa using Y
    have e2:σ[i]? =some (some v'):=by simpa using e2
    have ho:X.N[i]? =some y/\scope.names.lookup y≠some .local:=by
     have e3:scope.names.lookup y=some .local\/scope.names.lookup y=some .cell\/scope.names.lookup y=some .free:=e3;rcases S.outer i y Y with q|q
     . rw[q] at e3;rcases e3 with z|z|z <;> cases z
     . exact q
    have ae:scope.names.lookup y=some .cell\/scope.names.lookup y=some .free:=by
     rcases e3 with q|q
     . exact absurd q ho.2
     . exact q
    have hm:=U y ae;have af:=S.free _ hm rfl;obtain⟨mX,ah,ag⟩:=I.loc;obtain⟨u',r',lk⟩:=ag i y v' ho.1 e2 (.inr af);refine⟨u',r',.inr ⟨ae,?_⟩⟩;rcases lk with⟨q,_⟩|⟨_,c,ec,hc⟩
    . rcases af with z|z
      . rw[z] at q;cases q
      . rw[z] at q;cases q
    . obtain⟨o,ho,ac⟩:=hc;exact⟨c,(ab y hm).trans ec,o,aa _ _ ho,ac⟩
 . obtain⟨w',o,ho,ac⟩:=I.cell y c (J y c e);exact⟨w',o,aa _ _ ho,ac⟩
 . show _=(x::N').length;rw[Q0j,Q0j,I.len,S.len]
theorem BB {x:Str}{N':List Str}{name qual:Str}{z:Arguments}{body:Expr}{scope:Scope}{cl:List (Str × Addr)}{f c':Addr}{pm L:Value}{v:V}{u:Value}{te:TE}{Q:VK}{E:Value->Shared->Prop}(I:Inv X pins σ H s)(S:lL X x N' scope)(hd:X.A.handled=none)(Y:X.A.depth<recursionLimit)
 (aa:∀y c,cl.lookup y=some c->X.env.cells.lookup y=some c) (ab:∀y,(y,NameKind.free)∈scope.names->cl.lookup y=X.env.cells.lookup y) (hf:(f,W.kla_obj name qual z body scope cl pm c' L)∈pins) (hc:H c'=some (.ext (q_ c' qual)))
 (hb:∀u:Value,bindArgs (W.kla_fn name qual z body scope cl pm (.ref c') L) ⟨[u],[]⟩=pure [(x,u)]) (r:RelV v u) (he:∀(s:Shared) (H:Hp),PE (pS X x N' scope cl qual f c' s H) body te) (h:te (some v::σ) H Q):
 wpAny (model X.prog X.w) X.A.in1.in1 (call (.ref f) [u]) (EP X pins σ Q) E s:=by
 obtain⟨p1,p2,p3,p4,p5⟩:=I.pin _ (Q06 _ hf);refine wpAny_call (W.kla_callFunE Y p1 rfl S.co S.gen rfl (I.hok c' _ hc).1 ?_);rw[hb];refine Q0a (wpAny_newFunctionEnv S.cell (λy hy=>?_) (λac ae af=>?_) S.kind)
 . have e:y=(x,u):=by simpa using hy
   subst e;exact S.loc
 have U:∀b o,s.heap.get? b=some o->ac.get? b=some o:=λb o e=>af.extBut b o (Q08 (Q01 e)) (Q07 _ e);refine⟨I.nolimit.keeps U,?_⟩;show codeAny _ _ (.expr body (ra qual scope cl f c' s)) _ _;have J:=I.lam (t':=s.toks+([(x,u)]:List (Str × Value)).length) (qual:=qual) (f:=f) (c':=c') S hd aa ab r ae U;refine W.kla_codeExpr (Q0m (he s H [] _ _ H Q J h) (λu' s' hq=>?_) λe s' hF=>hF.elim);obtain⟨v',H',J',rv,q⟩:=hq;exact I.after ⟨v',H',J'.os,J'.bare,J'.base,J'.hok,rv,q⟩
end
section
variable {X:Cx}{pins:List (Addr × Obj)}{σ:St}{H:Hp}{s:Shared}
def Asks (prog:Program) (w:World) (A:Around) (s:Shared) (us:List Value) {O:KeyOrd}(key:Nat->O.α):Prop:=
 2<=us.length->wpAny (model prog w) A (keyKind' us.toArray) (λκ s'=>s'=s/\∀(i j:Nat) (C:Bool->Shared->Prop),i<us.length->j<us.length->C (O.blt (key i) (key j)) s->W.kas_ask prog w A κ us i j C s) (λ_ _=>False) s
theorem BC {xs:List V}{vs:List Value}(r:Vals xs vs):∀p:List Nat,Vals (p.map λi=>xs.getD i .non) (p.map λi=>vs.getD i Value.none)
 |[]=>.nil
 |i::p=>by
  refine .cons ?_ (BC r p);show RelV (xs.getD i .non) (vs.getD i Value.none);rw[Q0f,Q0f]
  cases e:xs[i]? with
  |none=>
   rw[r.none_of e];exact rfl
  |some x=>
   obtain⟨u,z,J⟩:=r.get e;rw[z];exact J
theorem BD {α:Type}(a0:α)(l:List α):((List.range l.length).map λi=>l.getD i a0)=l:=by
 apply Q2i
 . simp
 . intro i h1 h2;simp[h2]
theorem Hf {us vs:List Value}(hl:us.length=vs.length):((List.toArray us).zip (List.toArray vs)).map (·.2)=List.toArray vs:=by
 apply Array.toList_inj.mp;rw[Array.toList_map,ksk_zip];show List.map Prod.snd (us.zip vs)=vs;exact List.map_snd_zip (by omega)
theorem Hg {α:Type}{R:α->α->Prop}(key:Nat->α){n:Nat}(h:n<2):((List.range n).map key).Pairwise R:=by
 have:n=0\/n=1:=by omega
 rcases this with rfl|rfl
 . exact List.Pairwise.nil
 . exact Q22 _ _
noncomputable abbrev lo (xs:List Value) (n:Nat):Obj:=seqObj "list" (List.toArray xs) n
theorem BE {E:Value->Shared->Prop}{kS D:Addr}{us:List Value}{e L:Nat}{st:SortSt}{out:List Value}{outV:List V}{P:PySem.Fin->Shared->Prop}{A:Around}(I:Inv X (pins++[(kS,lo us e),(D,lo [] L)]) σ H s)(fK:iU X pins H kS)(fD:iU X pins H D)(Y:kS≠D)(ab:us.length<64)(ho:out.length<64)
 (J:(arrOf st).map (·.2)=List.toArray out) (hf:failedOf st=none) (rv:Vals outV out)
 (h:∀s',Inv X pins σ (upd H D (.lst outV)) s'->P (.done (.ret .none)) s'):wpAny (model X.prog X.w) A (ksk_tail D false L (.ref kS) st) P E s:=by
 have nk:=(I.pin (kS,lo us e) (Q06 _ (Q06 _ (Q04)))).1;have nD:=(I.pin (D,lo [] L) (Q06 _ (Q06 _ (Q0e _ Q04)))).1;have s1:=Heap.SameBut.update s.heap kS (Obj.mapSeq λ_=>(#[]:Array Value));have z:(s.heap.update kS (Obj.mapSeq λ_=>(#[]:Array Value))).get? D=some (lo [] L):=(s1.2 D Y.symm).trans nD;have s2:=Heap.SameBut.update (s.heap.update kS (Obj.mapSeq λ_=>(#[]:Array Value))) D (Obj.mapSeq λ_=>List.toArray out);obtain⟨U,aa⟩:∃U,((s.heap.update kS (Obj.mapSeq λ_=>(#[]:Array Value))).update D (Obj.mapSeq λ_=>List.toArray out)).get? D=some (lo out U):=⟨_,get?_update_seq z λ_=>List.toArray out⟩;have I1:Inv X pins σ H { s with heap:=s.heap.update kS (Obj.mapSeq λ_=>(#[]:Array Value)) }:=I.ly.own (t':=s.toks) fK s1
 have I2:Inv X pins σ (upd H D (.lst outV)) { s with heap:=(s.heap.update kS (Obj.mapSeq λ_=>(#[]:Array Value))).update D (Obj.mapSeq λ_=>List.toArray out) }:=
  I1.adopt (t':=s.toks) fD (λc u hc q=>(s2.2 c hc).trans q) ⟨by rw[rv.length];exact Q0s (fX (by omega)),out,U,rv,aa⟩
 unfold ksk_tail
 try dsimp only
 rw[J];refine Q0 (listUpdate_at nk rfl ?_ (by rw[Q09,sizeLine_eq];omega) (Q0b _));refine Q0 (wpAny_letGo ?_);refine Q0 (seqEpoch_at z rfl ?_);refine Q0 (listUpdate_at z rfl ?_ (Q0b _) (by show(List.toArray out).size<=_;rw[Q09,sizeLine_eq];omega));rw[hf];simp only[bne_self_eq_false,Bool.false_eq_true,if_false];exact Q0a (h _ I2)
theorem Hh {E:Value->Shared->Prop}{kS D:Addr}{us vs:List Value}{xs:List V}{e e1:Nat}{P:PySem.Fin->Shared->Prop}{A:Around}{O:KeyOrd}{key:Nat->O.α}(I:Inv X (pins++[(kS,lo us e),(D,lo [] e1)]) σ H s)(fK:iU X pins H kS)(fD:iU X pins H D)(aa:kS≠D)
 (hl:us.length=vs.length) (U:vs.length<64) (rv:Vals xs vs) (ask:Asks X.prog X.w A s us key)
 (h:∀(p:List Nat),p.Perm (List.range vs.length)->(p.map key).Pairwise O.kle->∀s',Inv X pins σ (upd H D (.lst (p.map λi=>xs.getD i .non))) s'->P (.done (.ret .none)) s'):
 wpAny (model X.prog X.w) A (ksk_end D false (List.toArray vs) e1 (.ref kS) (List.toArray us)) P E s:=by
 unfold ksk_end
 try dsimp only
 simp only[Bool.false_eq_true,if_false];by_cases h2:vs.toArray.size<2
 . rw[if_pos h2,if_pos h2];have Y:vs.length<2:=by simpa using h2
   refine Q0 (Q0a ?_);rw[StateT.run_pure];refine Q0 (Q0a ?_)
   try dsimp only
   have ab:xs.length=vs.length:=rv.length
   have ez:((List.range vs.length).map λi=>xs.getD i .non)=xs:=by
    rw[<-ab];exact BD _ xs
   refine BE (out:=vs) (outV:=xs) (st:=SortSt.mk' general' ((List.toArray us).zip (List.toArray vs)) #[] 7 none) I fK fD aa (by omega) U (Hf hl) rfl rv λs' J=>?_;have q:=h (List.range vs.length) (List.Perm.refl _) (Hg key Y) s';rw[ez] at q;exact q J
 . rw[if_neg h2,if_neg h2];have Y:2<=vs.length:=by simpa using h2
   refine Q0 (Q0m (ask (by omega)) (λκ s' hk=>?_) λ_ _ hF=>hF.elim);obtain⟨rfl,hk⟩:=hk;obtain⟨k1,k2⟩:=lI.He (key:=key) (n:=vs.length) (by omega)
   refine Q0 (Q0m (W.kat_run (κ:=κ) (ks:=us) (vs:=vs) (Q:=λL z=>z=s'/\arrOf L=(lI.fF (lI.fW key) (W.kas_sort vs.length)).map (W.kas_item ((List.toArray us).zip vs.toArray))/\failedOf L=none)
    (G:=λp z=>z=s'/\p=lI.fF (lI.fW key) (W.kas_sort vs.length)) hl Y U (λp L z _ a2 a3 a4=>⟨a4.1,by rw[a2,a4.2],a3⟩)
    (lI.Bo (f:=lI.fW key) (λi j C hi hj q=>hk i j C (by omega) (by omega) q) (lI.G_ (by omega)) ⟨rfl,rfl⟩)) ?_ λ_ _ x=>x)
   rintro⟨⟨⟩,L⟩ z ⟨rfl,ac,ae⟩
   try dsimp only
   refine BE I fK fD aa (by omega) (by rw[Q02,k1.length_eq,Q1u];exact U) (W.kat_snds hl ac) ae (BC rv _) λs' J=>h _ k1 k2 s' J
theorem BF {E:Value->Shared->Prop}{f a:Addr}{xs:List V}{Q:VK}{W:List V->Hp->Prop}(I:Inv X pins σ H s)(hq:eF X.K H a xs)(aq:xs.length<64)(w0:W [] H)
 (turn:∀(pl:List (Addr × Obj)) (s':Shared) (H':Hp) (ks:List V) (y:V) (u:Value),Inv X (pins++pl) σ H' s'->W ks H'->xs[ks.length]? =some y->RelV y u->
   wpAny (model X.prog X.w) X.A.in1.in1 (call (.ref f) [u]) (EP X (pins++pl) σ λk aa=>W (ks++[k]) aa) (λ_ _=>False) s')
 (fin:∀(pl:List (Addr × Obj)) (s':Shared) (H':Hp) (ks:List V) (us:List Value),Inv X (pins++pl) σ H' s'->W ks H'->ks.length=xs.length->Vals ks us->∃(O:KeyOrd) (key:Nat->O.α),Asks X.prog X.w X.A.in1.in1 s' us key/\
   ∀p:List Nat,p.Perm (List.range xs.length)->(p.map key).Pairwise O.kle->∀D,H' D=none->Q (.ref D) (upd H' D (.lst (p.map λi=>xs.getD i .non)))):
 wpAny (model X.prog X.w) X.A (call (.builtin "sorted") [.ref a] [(Str.ofString "key",.ref f)]) (EP X pins σ Q) E s:=by
 obtain⟨vs,rv,pl,hz⟩:=I.list hq;have hl:xs.length=vs.length:=rv.length;refine call_function_entry_kw kind_sorted plain_sorted entry_sorted (ksk_s1 _ _) ?_;unfold Builtin.«sorted»;refine Q0 (m:=checkCount "sorted" 1 1 _) (Q0a ?_);refine Q0 (collect_list pl.isList ?_ (by rw[sizeLine_eq];omega));refine Q0 (wpAny_newList ?_ (by rw[sizeLine_eq];omega))
 have hsz:((s.heap.push (seqObj "list" #[] 0)).update s.heap.objs.size (Obj.mapSeq (· ++vs.toArray))).objs.size=s.heap.objs.size+1:=by
  rw[Q2j,size_push']
 have U:(((s.heap.push (seqObj "list" #[] 0)).update s.heap.objs.size (Obj.mapSeq (· ++vs.toArray))).push (seqObj "list" vs.toArray 0)).get? (s.heap.objs.size+1)=some (seqObj "list" vs.toArray 0):=by
  rw[<-hsz];exact Q0n _ rfl
 have keep:∀b o,s.heap.get? b=some o->(((s.heap.push (seqObj "list" #[] 0)).update s.heap.objs.size (Obj.mapSeq (· ++vs.toArray))).push (seqObj "list" vs.toArray 0)).get? b=some o:=λb o q=>by
  have ac:b<s.heap.objs.size:=Q01 q;rw[Q33 _ _ _ (by rw[hsz];exact Q08 (Q2k ac)),Q2l _ _ _ _ (Q08 ac),Q33 _ _ _ (Q08 ac)];exact q
 show wpAny _ _ _ _ _ { s with heap:=((s.heap.push (seqObj "list" #[] 0)).update s.heap.objs.size (Obj.mapSeq (· ++vs.toArray))).push (seqObj "list" vs.toArray 0) };rw[hsz];generalize hG:((s.heap.push (seqObj "list" #[] 0)).update s.heap.objs.size (Obj.mapSeq (· ++vs.toArray))).push (seqObj "list" vs.toArray 0)=G at U keep ⊢;have al:G.objs.size=s.heap.objs.size+2:=by rw[<-hG,size_push',hsz]
 have I1:Inv X pins σ H { s with heap:=G }:=I.kept (t':=s.toks) keep;refine Q0 (wpAny_holding (wpAny_call_entry_kw slot_list_sort ⟨_,U,rfl⟩ entry_list_sort ?body (ksk_l1 _ _)))
 case body=>
  show wpAny (model X.prog X.w) X.A.in1.in1 (Builtin.«list.sort» ⟨[.ref (s.heap.objs.size+1)],[(Str.ofString "key",.ref f)]⟩) _ _ _;rw[ksk_t1];unfold ksk_tree;generalize hD:s.heap.objs.size+1=D at U ⊢;have af:s.heap.objs.size<=D:=by omega
  have s1:=Heap.SameBut.update G D (Obj.mapSeq λ_=>(#[]:Array Value));obtain⟨e1,ag⟩:∃e1,(G.update D (Obj.mapSeq λ_=>(#[]:Array Value))).get? D=some (lo [] e1):=⟨_,get?_update_seq U λ_=>#[]⟩;refine Q0 (listItems_at U rfl ?_);refine Q0 (listUpdate_at U rfl ?_ (by rw[Q09,sizeLine_eq];omega) (Q0b _));refine Q0 (seqEpoch_at ag rfl ?_);refine Q0 (wpAny_newTuple ?_ (by show vs.length<=_;rw[sizeLine_eq];omega));refine Q0 (wpAny_newList ?_ (Q0b _));refine wpAny_holding ?_;show wpAny (model X.prog X.w) X.A.in1.in1 _ _ _ { s with heap:=((G.update D (Obj.mapSeq λ_=>(#[]:Array Value))).push (seqObj "tuple" vs.toArray 0)).push (seqObj "list" #[] 0) };generalize ah:((G.update D (Obj.mapSeq λ_=>(#[]:Array Value))).push (seqObj "tuple" vs.toArray 0)).objs.size=kS;have ap:kS=s.heap.objs.size+3:=by rw[<-ah,size_push',Q2j,al]
  have ai:kS≠D:=by omega
  have L:iU X pins H D:=I.me af (I.hok.fresh af);have ab:iU X pins H kS:=I.me (by omega) (I.hok.fresh (by omega))
  have ae:∀b o,b≠D->G.get? b=some o->(((G.update D (Obj.mapSeq λ_=>(#[]:Array Value))).push (seqObj "tuple" vs.toArray 0)).push (seqObj "list" #[] 0)).get? b=some o:=λb o hb q=>
   Q07 _ (Q07 _ ((s1.2 b hb).trans q))
  have I2:Inv X pins σ H { s with heap:=((G.update D (Obj.mapSeq λ_=>(#[]:Array Value))).push (seqObj "tuple" vs.toArray 0)).push (seqObj "list" #[] 0) }:=
   Inv.turned (s:={ s with heap:=G }) (t':=s.toks) (it:=D) I1 ae L.1 L.2.1 L.2.2.2.1 L.2.2.2.2.1 L.2.2.2.2.2
  have hK:(((G.update D (Obj.mapSeq λ_=>(#[]:Array Value))).push (seqObj "tuple" vs.toArray 0)).push (seqObj "list" #[] 0)).get? kS=some (lo [] 0):=by rw[<-ah];exact Q0n _ rfl
  have aj:(((G.update D (Obj.mapSeq λ_=>(#[]:Array Value))).push (seqObj "tuple" vs.toArray 0)).push (seqObj "list" #[] 0)).get? D=some (lo [] e1):=Q07 _ (Q07 _ ag);generalize ((G.update D (Obj.mapSeq λ_=>(#[]:Array Value))).push (seqObj "tuple" vs.toArray 0)).push (seqObj "list" #[] 0)=G2 at I2 hK aj ⊢
  have pinned:∀{H':Hp} {s':Shared} {us:List Value} {e:Nat},Inv X pins σ H' s'->s'.heap.get? kS=some (lo us e)->s'.heap.get? D=some (lo [] e1)->H' kS=none->H' D=none->Inv X (pins++[(kS,lo us e),(D,lo [] e1)]) σ H' s':=λ{H' s' us e} J k1 k2 n1 n2=>
   J.mS λp hp=>(List.mem_append.mp hp).elim (λz=>J.pin p (Q06 _ z)) λz=>by
     have z:p=(kS,lo us e)\/p=(D,lo [] e1):=by simpa using z
     rcases z with rfl|rfl
     . exact⟨k1,n1,ab.2.1,ab.2.2.1,by intro v z;cases z⟩
     . exact⟨k2,n2,L.2.1,L.2.2.1,by intro v z;cases z⟩
  have own:∀{H':Hp} {b:Addr},(b=kS\/b=D)->H' b=none->iU X pins H' b:=λ{H' b} hb n=>by
   rcases hb with rfl|rfl
   . exact⟨n,ab.2⟩
   . exact⟨n,L.2⟩
  unfold ksk_rest;refine Q0 (wpAny_rule ?_)
  first
   |rw[List.forIn_toArray]
   |(rw[<-Q34];simp only[List.toList_toArray])
   |rw[<-Q34]
  refine Q0 (ksk_fold (λi s'=>∃ks us e H',Inv X (pins++[(kS,lo us e),(D,lo [] e1)]) σ H' s'/\Vals ks us/\ks.length=i/\i<=vs.length/\W ks H') vs 0 _
   ⟨[],[],0,H,pinned I2 hK aj ab.1 L.1,.nil,rfl,Q0b _,w0⟩ (λj x s' hx hJ=>?_) λs' hJ=>?_)
  . obtain⟨ks,us,e,H',J,rk,hi,am,wk⟩:=hJ;have hi:ks.length=j:=by omega
    have hj:j<vs.length:=(List.getElem?_eq_some_iff.mp hx).1;have ak:j<xs.length:=by omega
    obtain⟨u,hu,ru⟩:=rv.get (Q03 ak);rw[hx] at hu;cases hu;refine Q0 (wpAny_attempt (Q0m (turn _ s' H' ks (xs[j]) x J wk (by rw[hi];exact Q03 ak) ru) (λk Y hk=>?_) λ_ _ hF=>hF.elim));obtain⟨kv,aa,J',an,w'⟩:=hk;have pk:=J'.pin (kS,lo us e) (Q06 _ (Q06 _ (Q04)));have pD:=J'.pin (D,lo [] e1) (Q06 _ (Q06 _ (Q0e _ Q04)));have ar:us.length=ks.length:=rk.length.symm;have s2:=Heap.SameBut.update Y.heap kS (Obj.mapSeq (·.push k));have ea:(List.toArray us).push k=List.toArray (us++[k]):=by simp
    obtain⟨c2,ao⟩:∃c2,(Y.heap.update kS (Obj.mapSeq (·.push k))).get? kS=some (lo (us++[k]) c2):=⟨_,by show _=some (seqObj "list" (List.toArray (us++[k])) _);rw[<-ea];exact get?_update_seq pk.1 (·.push k)⟩
    try dsimp only
    refine Q0 (listUpdate_at pk.1 rfl ?_ (by rw[Q09,sizeLine_eq];omega) (Q05 (Q1o (Array.size_push ..)) (by rw[Q09,sizeLine_eq];omega)));have J2:Inv X pins σ aa { Y with heap:=Y.heap.update kS (Obj.mapSeq (·.push k)) }:=J'.ly.own (t':=Y.toks) (own (.inl rfl) pk.2.1) s2;refine Q0a ⟨rfl,ks++[kv],us++[k],c2,aa,pinned J2 ao ((s2.2 D ai.symm).trans pD.1) pk.2.1 pD.2.1,rk.append (.cons an .nil),by rw[Q0c,Q19];omega,by omega,w'⟩
  . obtain⟨ks,us,e,H',J,rk,hi,am,wk⟩:=hJ;have hi:ks.length=vs.length:=by omega
    have pk:=J.pin (kS,lo us e) (Q06 _ (Q06 _ (Q04)));have pD:=J.pin (D,lo [] e1) (Q06 _ (Q06 _ (Q0e _ Q04)))
    try dsimp only
    refine Q0 (listItems_at pk.1 rfl ?_);obtain⟨O,key,ask,q⟩:=fin _ s' H' ks us J wk (by omega) rk;refine Hh J (own (.inl rfl) pk.2.1) (own (.inr rfl) pD.2.1) ai (by rw[<-rk.length];exact hi) (by omega) rv ask λp p1 p2 Y J'=>?_;exact⟨_,rfl,Q0a ⟨_,rfl,.ref D,_,J',rfl,q p (by rw[hl];exact p1) p2 D pD.2.1⟩⟩
end
noncomputable def i9:Key->Key->Bool
 | .inl i,.inl j=>decide (i<j)
 | .inl _,.inr _=>true
 | .inr _,.inl _=>false
 | .inr x,.inr y=>decide (x.cps.toList<y.cps.toList)
theorem Hj (a:Key):i9 a a=false:=by
 cases a with
 |inl i=>simp[i9]
 |inr x=>simpa[i9] using Q35 x.cps.toList
theorem Hk {a b c:Key}(h1:i9 a b=true)(h2:i9 b c=true):i9 a c=true:=by
 cases a <;> cases b <;> cases c <;> simp only[i9,decide_eq_true_eq,Bool.false_eq_true] at * <;> first|omega|exact List.lt_trans h1 h2
theorem Hl {x y:Str}(h:x.cps.toList=y.cps.toList):x=y:=by
 cases x;cases y;simp only[Str.mk.injEq];exact Array.toList_inj.mp h
theorem Hm (a b:Key):i9 a b=true\/a=b\/i9 b a=true:=by
 cases a with
 |inl i=>
  cases b with
  |inl j=>
   simp only[i9,decide_eq_true_eq];rcases Int.lt_trichotomy i j with h|h|h
   . exact .inl h
   . exact .inr (.inl (by rw[h]))
   . exact .inr (.inr h)
  |inr y=>exact .inl rfl
 |inr x=>
  cases b with
  |inl j=>exact .inr (.inr rfl)
  |inr y=>
   simp only[i9,decide_eq_true_eq];by_cases h1:x.cps.toList<y.cps.toList
   . exact .inl h1
   . by_cases h2:y.cps.toList<x.cps.toList
     . exact .inr (.inr h2)
     . exact .inr (.inl (by rw[Hl (List.le_antisymm (List.not_lt.mp h2) (List.not_lt.mp h1))]))
theorem Hn {a b:Key}(h:i9 a b=true):a≠b:=λe=>by
 rw[e,Hj] at h;cases h
noncomputable def fY:List Key->List Key->Bool
 |[],[]=>false
 |[],_::_=>true
 |_::_,[]=>false
 |x::xs,y::ys=>if x=y then fY xs ys else i9 x y
theorem rb:∀a:List Key,fY a a=false
 |[]=>rfl
 |x::xs=>by
  show(if x=x then fY xs xs else i9 x x)=false;rw[if_pos rfl];exact rb xs
theorem ow (x y:Key)(xs ys:List Key):fY (x::xs) (y::ys)=if x=y then fY xs ys else i9 x y:=rfl
theorem oz:∀(a b c:List Key),fY a b=true->fY b c=true->fY a c=true
 |[],[],_,h,_=>by cases h
 |[],_::_,[],_,h=>by cases h
 |[],_::_,_::_,_,_=>rfl
 |_::_,[],_,h,_=>by cases h
 |_::_,_::_,[],_,h=>by cases h
 |x::xs,y::ys,z::zs,h1,h2=>by
  rw[ow] at *;by_cases L:x=y
  . subst L;rw[if_pos rfl] at h1;by_cases J:x=z
    . rw[if_pos J] at h2 ⊢;exact oz xs ys zs h1 h2
    . rw[if_neg J] at h2 ⊢;exact h2
  . rw[if_neg L] at h1;by_cases J:y=z
    . subst J;rw[if_neg L];exact h1
    . rw[if_neg J] at h2;have q:=Hk h1 h2;rw[if_neg (Hn q)];exact q
theorem pT:∀a b:List Key,fY a b=true\/a=b\/fY b a=true
 |[],[]=>.inr (.inl rfl)
 |[],_::_=>.inl rfl
 |_::_,[]=>.inr (.inr rfl)
 |x::xs,y::ys=>by
  rw[ow,ow];by_cases e:x=y
  . subst e;rw[if_pos rfl,if_pos rfl];rcases pT xs ys with h|h|h
    . exact .inl h
    . exact .inr (.inl (by rw[h]))
    . exact .inr (.inr h)
  . rw[if_neg e,if_neg (λz=>e z.symm)];rcases Hm x y with h|h|h
    . exact .inl h
    . exact absurd h e
    . exact .inr (.inr h)
@[reducible] noncomputable def oA:KeyOrd where
  α:=List Key
  blt:=fY
  irrefl:=rb
  trans:=oz
  negTrans a b c h:=by
   rcases pT a b with q|q|q
   . exact .inl q
   . exact .inr (by rw[<-q];exact h)
   . exact .inr (oz b a c q h)
  total a b h1 h2:=by
   rcases pT a b with q|q|q
   . rw[h1] at q;cases q
   . exact q
   . rw[h2] at q;cases q
def j1 (a b:List Key):Prop:=fY b a=false
noncomputable def hU:Key->Bool
 | .inl _=>true
 | .inr _=>false
def BG (z:List (List Key)):Prop:=∃J:List Bool,J≠[]/\∀L∈z,L.map hU=J
def oB (H:Hp):List V->List (List Key)->Prop:=Paired λk z=>∃p,k=.ref p/\H p=some (.tup (z.map kV))
section
variable {X:Cx}{pins:List (Addr × Obj)}{σ:St}{H:Hp}{s:Shared}
theorem ny {k:Key}{u:Value}(r:RelV (kV k) u):(∃i t,k=.inl i/\u=.int i t)\/∃x t,k=.inr x/\u=.str x t:=by
 cases k with
 |inl i=>
  obtain⟨t,rfl⟩:=r;exact .inl ⟨i,t,rfl,rfl⟩
 |inr x=>
  obtain⟨t,rfl⟩:=r;exact .inr ⟨x,t,rfl,rfl⟩
theorem uh {prog:Program}{w:World}{A:Around}{C:Bool->Shared->Prop}:∀(U Y:List Key) (J L:List Value) (i:Nat),Vals (U.map kV) J->Vals (Y.map kV) L->U.map hU=Y.map hU->C (fY U Y) s->
 W.KatLex prog w A true false C (J.zip L) i s
 |[],[],J,L,i,r1,r2,_,q=>by
  cases r1;cases r2;exact W.kat_nil q
 |[],_::_,_,_,_,_,_,h,_=>by cases h
 |_::_,[],_,_,_,_,_,h,_=>by cases h
 |x::xs,y::ys,J,L,i,r1,r2,h,q=>by
  cases r1 with
  |cons a1 b1=>
  cases r2 with
  |cons a2 b2=>
  have h1:hU x=hU y:=(List.cons.inj h).1;have h2:xs.map hU=ys.map hU:=(List.cons.inj h).2;rw[ow] at q;rcases ny a1 with⟨m,t,rfl,rfl⟩|⟨m,t,rfl,rfl⟩ <;> rcases ny a2 with⟨n,t',rfl,rfl⟩|⟨n,t',rfl,rfl⟩
  . refine W.kat_cons (wpAny_eqBool_int ?_);by_cases e:m=n
    . subst e;rw[if_pos rfl] at q;rw[beq_self_eq_true];exact W.kat_yes (uh xs ys _ _ (i+1) b1 b2 h2 q)
    . rw[if_neg (λz=>e (Sum.inl.inj z))] at q;rw[beq_false_of_ne e];refine W.kat_no ?_
      cases hi:(i == 0) with
      |true=>exact oneLt_int q
      |false=>exact W.kat_one _ _ (lt_int q)
  . cases h1
  . cases h1
  . refine W.kat_cons (wpAny_eqBool_str ?_);by_cases e:m=n
    . subst e;rw[if_pos rfl] at q;rw[decide_eq_true rfl];exact W.kat_yes (uh xs ys _ _ (i+1) b1 b2 h2 q)
    . rw[if_neg (λz=>e (Sum.inr.inj z))] at q;rw[decide_eq_false e];refine W.kat_no ?_
      cases hi:(i == 0) with
      |true=>exact oneLt_str q
      |false=>exact W.kat_one _ _ (lt_str q)
theorem BH {ks:List V}{us:List Value}{z:List (List Key)}(I:Inv X pins σ H s)(r:Vals ks us)(hk:oB H ks z){i:Nat}(hi:i<us.length):
 ∃p J,us.getD i Value.none=.ref p/\IsTup s.heap p (List.toArray J)/\Vals ((z.getD i []).map kV) J/\z.getD i []∈z:=by
 have hl:=r.length;have aa:ks.length=z.length:=Paired.length hk;have Y:ks[i]? =some (ks[i]'(by omega)):=Q03 (by omega);obtain⟨u,hu,L⟩:=r.get Y;have U:z.getD i []=z[i]'(by omega):=by rw[Q0f,Q03 (by omega)];rfl
 have key:∀(ks:List V) (z:List (List Key)),oB H ks z->∀i (h1:i<ks.length) (h2:i<z.length),∃p,ks[i]=.ref p/\H p=some (.tup (z[i].map kV)):=by
  intro ks z hk
  induction hk with
  |nil=>intro i h1;simp at h1
  |cons a b ih=>
   intro i h1 h2
   cases i with
   |zero=>exact a
   |succ i=>simpa using ih i (by simpa using h1) (by simpa using h2)
 obtain⟨p,hp,hH⟩:=key ks z hk i (by omega) (by omega);rw[hp] at L
 cases L;obtain⟨J,rv,tp,_⟩:=I.tuple (eu.of hH);refine⟨p,J,by rw[Q0f,hu];rfl,tp,by rw[U];exact rv,by rw[U];exact Q1i _⟩
theorem BI (I:Inv X pins σ H s){t:Bool}:∀{ks:List V}{us:List Value}{z:List (List Key)},Vals ks us->oB H ks z->(∀J∈z,∃k r,J=k::r/\hU k=t)->
 ∃fs,W.KatTups s.heap us fs/\fs.length=us.length/\∀v∈fs,(t=true/\∃i tk,v=.int i tk)\/(t=false/\∃x tk,v=.str x tk)
 |_,_,_,.nil,.nil,_=>⟨[],W.KatTups.nil,rfl,λv L=>nomatch L⟩
 |_,_,_,.cons a r,.cons b q,h=>by
  obtain⟨p,rfl,hp⟩:=b
  cases a;obtain⟨fs,U,Y,f3⟩:=BI I r q λJ hm=>h J (Q0e _ hm);obtain⟨k,rr,rfl,hk⟩:=h _ Q04;obtain⟨aa,rv,⟨o,ho,hc,n,hd⟩,_⟩:=I.tuple (eu.of hp)
  cases rv with
  |cons a1 b1=>
   refine⟨_::fs,W.KatTups.cons ho hc hd (by simp;rfl) U,by rw[Q0j,Q0j,Y],λv L=>?_⟩;rcases List.mem_cons.mp L with e|e
   . subst e;rcases ny a1 with⟨i,tk,rfl,rfl⟩|⟨x,tk,rfl,rfl⟩
     . exact .inl ⟨hk.symm,i,tk,rfl⟩
     . exact .inr ⟨hk.symm,x,tk,rfl⟩
   . exact f3 v e
theorem Ho {A:Around}{ks:List V}{us:List Value}{J:List (List Key)}(I:Inv X pins σ H s)(r:Vals ks us)(hk:oB H ks J)(aa:BG J):Asks X.prog X.w A s us (O:=oA) (λi=>J.getD i []):=by
 intro h2;obtain⟨ts,ab,L⟩:=aa
 obtain⟨t,tr,rfl⟩:∃t tr,ts=t::tr:=by
  cases ts with
  |nil=>exact absurd rfl ab
  |cons t tr=>exact⟨t,tr,rfl⟩
 have hh:∀kl∈J,∃k r,kl=k::r/\hU k=t:=λkl hm=>by
  have e:=L kl hm
  cases kl with
  |nil=>cases e
  |cons k r=>exact⟨k,r,rfl,(List.cons.inj e).1⟩
 obtain⟨fs,f1,f2,f3⟩:=BI I r hk hh
 have fin:∀(i j:Nat) (C:Bool->Shared->Prop),i<us.length->j<us.length->C (fY (J.getD i []) (J.getD j [])) s->W.kas_ask X.prog X.w A (tuples' true) us i j C s:=by
  intro i j C hi hj q;unfold W.kas_ask;obtain⟨p,U,e1,⟨o,ho,hc,n,hd⟩,rv,m1⟩:=BH I r hk hi;obtain⟨p',its',ac,⟨o',ae,ag,n',af⟩,Y,m2⟩:=BH I r hk hj;rw[e1,ac];have ht:(J.getD i []).map hU=(J.getD j []).map hU:=(L _ m1).trans (L _ m2).symm
  have hl:U.length=its'.length:=by
   have:=congrArg List.length ht;rw[Q02,Q02] at this;rw[<-rv.length,<-Y.length,Q02,Q02,this]
  refine W.kat_lt ho hd ae af ?_;have ef:decide ((List.toArray U).size<(List.toArray its').size)=false:=by rw[Q09,Q09,hl];simp
  rw[ef];exact uh _ _ _ _ 0 rv Y ht q
 cases t with
 |true=>
  refine W.kat_kind (T:=.type "int") f1 (by omega) (λv hv=>?_) rfl ⟨rfl,fin⟩;rcases f3 v hv with⟨_,i,tk,rfl⟩|⟨z,_⟩
  . exact W.Looks.of_pure rfl
  . cases z
 |false=>
  refine W.kat_kind (T:=.type "str") f1 (by omega) (λv hv=>?_) rfl ⟨rfl,fin⟩;rcases f3 v hv with⟨z,_⟩|⟨_,x,tk,rfl⟩
  . cases z
  . exact W.Looks.of_pure rfl
end
def ui (K:PySem.W.Frag) (P:Addr) (L:Pos) (qual:Str) (te:TE) (σ:St) (Q:VK):VK:=λx H1=>∃a xs,x=.ref a/\eF K H1 a xs/\xs.length<64/\eV P L qual H1/\
 ∀c' H2,lK P L qual c' H2->(∀b o,b≠P->H1 b=some o->H2 b=some o)->
 ∃W:List V->Hp->Prop,W [] H2/\(∀ks z,W ks z->lK P L qual c' z)/\(∀ks z y,W ks z->xs[ks.length]? =some y->te (some y::σ) z λk U=>W (ks++[k]) U)/\
 ∀ks z,W ks z->ks.length=xs.length->∃J,oB z ks J/\BG J/\∀p:List Nat,p.Perm (List.range xs.length)->(p.map λi=>J.getD i []).Pairwise j1->∀D,z D=none->Q (.ref D) (upd z D (.lst (p.map λi=>xs.getD i .non)))
def Hq (K:W.Frag) (P:Addr) (z:Pos) (qual:Str) (tl te:TE):TE:=λσ H Q=>tl σ H (ui K P z qual te σ Q)
section
variable {X:Cx}
theorem Hr {x:Str}{N':List Str}{l body:Expr}{L:Arguments}{scope:Scope}{lp kp p pos:Pos}{qual:Str}{c P:Addr}{tl te:TE}{k:Nat}(hg:Gl X "sorted")(hm:X.mg "sorted"=none)(hv:bootBuiltins "sorted"=some (.builtin "sorted"))(hr:gi k X.A)(hq:X.env.qual++"<lambda>"=qual)(Y:X.env.code=.ref c)(C:PySem.W.CodeHd X.base c P)
 (B:BM X.mg X.base) (S:lL X x N' scope) (ab:defaultsOf L X.env=([],[])) (hb:∀(cl:List (Str × Addr)) (pm:Value) (c':Addr) (U u:Value),bindArgs (PySem.W.kla_fn "<lambda>" qual L body scope cl pm (.ref c') U) ⟨[u],[]⟩=pure [(x,u)])
 (hl:PE X l tl) (he:∀(cl:List (Str × Addr)) (f c':Addr) (s:Shared) (H:Hp),PE (pS X x N' scope cl qual f c' s H) body te) (hs:starEach [l] X.env=[(false,eval l X.env)]:=by rfl):
 PE X (.Call (.Name "sorted" p) [l] [⟨some "key",.Lambda L body scope lp,kp⟩] pos) (Hq X.K P lp qual tl te):=by
 intro pins s σ H Q I h;refine wpAny_Call_Name_kw (lu I hg hm hv ?_);have ha:PA X [l] (gR tl jh):=a_ hl c_ (by rw[hs];rfl);refine callWith_kw (eU (ha pos pins s σ H (λvs H1=>match vs with|[x]=>ui X.K P lp qual te σ Q x H1|_=>False) I h) λus s1 zq=>?_) (by rw[hs];rfl) (by rw[hs];rfl);obtain⟨vs,H1,I1,r1,q1⟩:=zq
 obtain⟨x',rfl⟩:∃x',vs=[x']:=by
  match vs,q1 with
  |[x'],_=>exact⟨x',rfl⟩
 have q1:ui X.K P lp qual te σ Q x' H1:=q1;obtain⟨a,xs,rfl,ag,ah,T,cont⟩:=q1;obtain⟨u,rfl,ru⟩:=vals1 r1
 cases ru;show wpAny _ _ (evalAll [do let v <-eval (.Lambda L body scope lp) X.env;standAt pos;pure v]) _ _ s1;obtain⟨cl,aa,ac,ae⟩:=qX (scope:=scope) (env:=X.env) λy hy hf=>I1.ok.has y.1 (S.free y hy hf);refine wpAny_evalAll_cons (Q0 (PySem.W.kla_eval ab ?_));rw[hq];refine Bx I1 Y C B T aa λf c' pm U H2 s2 I2 ai mono=>?_;refine Q0 (wpAny_standAt (Q0a (wpAny_evalAll_nil ?_)));show wpAny _ _ (call (.builtin "sorted") [.ref a] [(Str.ofString "key",.ref f)]) _ _ s2;obtain⟨W,w0,wL,wt,wf⟩:=cont c' H2 ai mono
 have aj:∃ps,H1 P=some (.fO ps):=by
  rcases T with e|⟨al,e,_⟩
  . exact⟨_,e⟩
  . exact⟨_,e⟩
 have ak:eF X.K H2 a xs:=by
  obtain⟨ps,hP⟩:=aj;rcases ag with(z|⟨o,z⟩)|z
  . exact .inl (.inl (mono a _ (iB z hP (by intro z;cases z)) z))
  . exact .inl (.inr ⟨o,mono a _ (iB z hP (by intro z;cases z)) z⟩)
  . exact .inr z
 refine eU (BF (Q:=Q) (W:=W) I2 ak ah w0 (λpl s' H' ks y u J wk hy ry=>?_) λpl s' H' ks us J wk af rk=>?_) λr s' ⟨v,H',J,rv,q⟩=>⟨v,H',J.ly,rv,q⟩
 . exact BB J S hr.hd hr.depth ac ae (Q0q _ (Q06 _ Q04)) (wL ks H' wk).2 (hb cl pm c' U) ry (he cl f c') (wt ks H' y wk hy)
 . obtain⟨am,k1,k2,k3⟩:=wf ks H' wk af;exact⟨oA,_,Ho J rk k1 k2,λp p1 p2 D hD=>k3 p p1 p2 D hD⟩
end
noncomputable def pU (K:W.Frag) (a b:Addr):It:=
 ⟨λi H=>∃xs ys x y,eF K H a xs/\eF K H b ys/\xs[i]? =some x/\ys[i]? =some y,
  λi H v H'=>∃p x y,H p=none/\v=.ref p/\(∀xs,eF K H a xs->xs[i]? =some x)/\(∀ys,eF K H b ys->ys[i]? =some y)/\H'=upd H p (.tup [x,y]),
  λi H=>∃xs ys,eF K H a xs/\eF K H b ys/\(xs.length<=i\/ys.length<=i)⟩
theorem Hs {P:Program}{w:World}{K:W.Frag}{ai:List Expr}{k:Nat}{tpos:Pos}{z TI TO J L l1 l2:Addr}(D:ZipApart z TI TO J L l1 l2):
 Turn P w K (.Tuple ai k tpos) (pU K l1 l2) [z,TI,TO,J,L] z (λi h=>∃oa ob,IsZip h z TI TO .none/\IsPair h TI (.ref J) (.ref L)/\IsPair h TO oa ob/\h.IsListIter J l1 i/\h.IsListIter L l2 i) where
 mem:=by simp
 obj:=λi h st b U=>by
  obtain⟨oa,ob,h1,h2,h3,h4,h5⟩:=st;have U:b=z\/b=TI\/b=TO\/b=J\/b=L:=by simpa using U
  rcases U with rfl|rfl|rfl|rfl|rfl
  . exact⟨_,h1,λv y=>by
     have y:Data.fields _=Data.cell v:=y
     cases y⟩
  . exact⟨_,h2,λv y=>by
     have y:Data.seq _ _=Data.cell v:=y
     cases y⟩
  . exact⟨_,h3,λv y=>by
     have y:Data.seq _ _=Data.cell v:=y
     cases y⟩
  . obtain⟨o,q,c,d⟩:=h4;exact⟨o,q,λv y=>by rw[d] at y;cases y⟩
  . obtain⟨o,q,c,d⟩:=h5;exact⟨o,q,λv y=>by rw[d] at y;cases y⟩
 keep:=λi h h' st k=>by
  obtain⟨oa,ob,h1,h2,h3,h4,h5⟩:=st;exact⟨oa,ob,k z (by simp) _ h1,k TI (by simp) _ h2,k TO (by simp) _ h3,h4.at λo q=>k J (by simp) o q,h5.at λo q=>k L (by simp) o q⟩
 item:=by
  intro X hP hw hK hc i pins s σ H E I Y st hg;subst hP hw hK;obtain⟨oa,ob,h1,h2,h3,h4,h5⟩:=st;obtain⟨xs,ys,x,y,aa,ab,hx,hy⟩:=hg;obtain⟨aj,ae,p1,am⟩:=I.list aa;obtain⟨ak,af,p2,an⟩:=I.list ab;obtain⟨u1,ao,ap⟩:=ae.get hx;obtain⟨u2,aq,ar⟩:=af.get hy;have fr:H s.heap.objs.size=none:=I.hok.fresh (Q00 _);refine wpAny_pyNext_zip_item D h1 h2 h3 h4 h5 p1.isList p2.isList (x:=u1) (y:=u2) (by simpa using ao) (by simpa using aq) λh' q1 q2 q3 q4 q5 q6 q7=>?_;refine⟨_,rfl,wpAny_letOwnedTupleGo_zip (s:={ s with heap:=h' }) q1 λac g1 g2=>?_⟩
  have au:∀b∈[z,TI,TO,J,L],b<s.heap.objs.size:=λb U=>by
   have U:b=z\/b=TI\/b=TO\/b=J\/b=L:=by simpa using U
   rcases U with rfl|rfl|rfl|rfl|rfl
   . exact Q01 h1
   . exact Q01 h2
   . exact Q01 h3
   . obtain⟨o,q,_⟩:=h4;exact Q01 q
   . obtain⟨o,q,_⟩:=h5;exact Q01 q
  have av:∀b o,s.heap.get? b=some o->b≠s.heap.objs.size:=λb o q=>Q08 (Q01 q);have kk:∀b o,b≠z->b≠TO->b≠J->b≠L->s.heap.get? b=some o->ac.get? b=some o:=λb o n1 n2 n3 n4 q=>g2.extBut b o n1 (q7 b o n1 n2 n3 n4 q);have kn:∀b o,b ∉ [z,TO,J,L]->s.heap.get? b=some o->ac.get? b=some o:=λb o n q=>kk b o (λy=>n (by simp[y])) (λy=>n (by simp[y])) (λy=>n (by simp[y])) (λy=>n (by simp[y])) q;have tup:ac.get? s.heap.objs.size=some { cls:=.type "tuple",data:=.seq #[u1,u2] }:=g2.extBut _ _ (Q0x (Q01 h1)) q5
  have I1:Inv X pins σ (upd H s.heap.objs.size (.tup [x,y])) { s with heap:=ac }:=by
   refine I.step (g':=s.gens) (d':=s.drawn) (t':=s.toks) (ch:=[z,TO,J,L]) (λb U=>?_) (λb o _ _ hc q _=>kn b o hc q) (λb o _ _ hc q _=>⟨o.slots,kn b o hc q⟩) (λb o _ q n=>?_) (λb o hc q=>⟨o,kn b o hc q⟩) (λb ws q=>?_) (λb o v q=>?_) (λb ps q=>?_) (λm hm=>?_) (λb o q=>?_) I.bare
   . have ag:b∈[z,TI,TO,J,L]:=by
      have U:b=z\/b=TO\/b=J\/b=L:=by simpa using U
      rcases U with rfl|rfl|rfl|rfl <;> simp
     obtain⟨f0,f1,f2,f3,f4,f5⟩:=Y b ag;exact⟨f3,f1,f4,f5⟩
   . rw[eA (av b o q)];exact n
   . rw[eA (eM q fr)];exact q
   . rw[eA (eM q fr)];exact q
   . exact⟨#[],by rw[eA (eM q fr),q];simp⟩
   . obtain⟨o,es,ep,ho,r⟩:=hm;exact⟨o,es,ep,kk _ o (Ne.symm (Y z (by simp)).2.1) (Ne.symm (Y TO (by simp)).2.1) (Ne.symm (Y J (by simp)).2.1) (Ne.symm (Y L (by simp)).2.1) ho,r⟩
   . by_cases U:b=s.heap.objs.size
     . subst U;rw[eI] at q;cases q;exact⟨xt,[u1,u2],.cons ap (.cons ar .nil),⟨_,tup,rfl,_,rfl⟩⟩
     . rw[eA U] at q
       have nn:∀c v,H c=some v->c ∉ [z,TO,J,L]:=λc v e hm=>by
        have aw:c∈[z,TI,TO,J,L]:=by
         have hm:c=z\/c=TO\/c=J\/c=L:=by simpa using hm
         rcases hm with rfl|rfl|rfl|rfl <;> simp
        have:=(Y c aw).1;rw[e] at this;cases this
       refine(I.hok b o q).stay (λc v ah y=>kn c v ?_ y) (λc y=>by rw[eA (eM y fr)];exact y) λc ws y=>by rw[eA (eM y fr)];exact y
       rcases ah with y|y
       . rw[y];exact nn b o q
       . exact nn c _ y
  refine⟨.ref s.heap.objs.size,_,I1,rfl,⟨s.heap.objs.size,x,y,fr,rfl,λws hw=>by rw[I.qH hw aa];exact hx,λws hw=>by rw[I.qH hw ab];exact hy,rfl⟩,⟨u1,u2,g1,?_,?_,?_,?_⟩,λb U=>?_⟩
  . exact kk TI _ D.TIz D.TITO D.TIi1 D.TIi2 h2
  . exact g2.extBut _ _ D.TOz q2
  . exact q3.at λo q=>g2.extBut _ _ D.i1z q
  . exact q4.at λo q=>g2.extBut _ _ D.i2z q
  . rw[eA (Q08 (au b U))];exact(Y b U).1
 done:=by
  intro X hP hw hK hc i pins s σ H E I Y st hg;subst hP hw hK;obtain⟨oa,ob,h1,h2,h3,h4,h5⟩:=st;obtain⟨xs,ys,aa,ab,al⟩:=hg;obtain⟨aj,ae,p1,am⟩:=I.list aa;obtain⟨ak,af,p2,an⟩:=I.list ab;have e1:=ae.length;have e2:=af.length
  refine wpAny_pyNext_zip_end (I.ok.hd hc) D h1 h2 h3 h4 h5 p1.isList p2.isList (by
   rcases al with q|q
   . exact .inl (by simp;omega)
   . exact .inr (by simp;omega)) λh' hk=>⟨rfl,?_⟩
  refine I.step (g':=s.gens) (d':=s.drawn) (t':=s.toks) (ch:=[z,TO,J,L]) (λb U=>?_) (λb o _ _ hc q _=>?_) (λb o _ _ hc q _=>?_) (λb o _ q n=>n) (λb o hc q=>?_) (λb ys q=>q) (λb o v q=>q) (λb ps q=>⟨#[],by rw[q];simp⟩) (λm hm=>?_) (λb o q=>?_) I.bare
  . have ag:b∈[z,TI,TO,J,L]:=by
     have U:b=z\/b=TO\/b=J\/b=L:=by simpa using U
     rcases U with rfl|rfl|rfl|rfl <;> simp
    obtain⟨f0,f1,f2,f3,f4,f5⟩:=Y b ag;exact⟨f3,f1,f4,f5⟩
  . exact hk b o (λy=>hc (by simp[y])) (λy=>hc (by simp[y])) (λy=>hc (by simp[y])) (λy=>hc (by simp[y])) q
  . exact⟨o.slots,hk b o (λy=>hc (by simp[y])) (λy=>hc (by simp[y])) (λy=>hc (by simp[y])) (λy=>hc (by simp[y])) q⟩
  . exact⟨o,hk b o (λy=>hc (by simp[y])) (λy=>hc (by simp[y])) (λy=>hc (by simp[y])) (λy=>hc (by simp[y])) q⟩
  . obtain⟨o,es,ep,ho,r⟩:=hm;exact⟨o,es,ep,hk _ o (Ne.symm (Y z (by simp)).2.1) (Ne.symm (Y TO (by simp)).2.1) (Ne.symm (Y J (by simp)).2.1) (Ne.symm (Y L (by simp)).2.1) ho,r⟩
  . have nn:∀c v,H c=some v->∀y∈[z,TI,TO,J,L],c≠y:=λc v e y hy=>eM e (Y y hy).1;refine(I.hok b o q).stay (λc v ah y=>hk c v ?_ ?_ ?_ ?_ y) (λ_ y=>y) λ_ _ y=>y <;> (rcases ah with y|y)
    all_goals first
     |(rw[y];exact nn b o q _ (by simp))
     |exact nn c _ y _ (by simp)
 self:=λA i s Q E st q=>by
  obtain⟨oa,ob,h1,_⟩:=st;exact wpAny_pyIter_zip h1 q
def Hu (K:W.Frag) (ta:TA):TI:=λσ H R=>ta σ H λvs H1=>∃a b,vs=[.ref a,.ref b]/\(∃xs,eF K H1 a xs)/\(∃ys,eF K H1 b ys)/\R (pU K a b) H1
section
variable {X:Cx}
theorem pV {aa:List Expr}{k:Nat}{tpos:Pos}{a b:Expr}{ta:TA}{p pos:Pos}(hg:Gl X "zip")(hm:X.mg "zip"=none)(ha:PA X [a,b] ta)(hs:starEach [a,b] X.env=[(false,eval a X.env),(false,eval b X.env)]:=by rfl)
 (Y:starEach [b] X.env=[(false,eval b X.env)]:=by rfl):PI X (.Tuple aa k tpos) (.Call (.Name "zip" p) [a,b] [] pos) (Hu X.K ta):=by
 intro pins s σ H R I h;refine Call_ (lu I hg hm boot_zip (PyProof.Rows.callWith_type1 (eU (ha pos pins s σ H _ I h) λus J zq=>?_) (by rw[hs,Y]) (by rw[Y];rfl)));obtain⟨vs,H1,U,r1,q1⟩:=zq;obtain⟨l1,l2,e,⟨xs,ab⟩,⟨ys,ac⟩,q⟩:=q1;subst e;obtain⟨u1,u2,rfl,ae,af⟩:=vals2 r1
 cases ae
 cases af;obtain⟨ag,ai,p1,aj⟩:=U.list ab;obtain⟨ah,ak,p2,al⟩:=U.list ac;have a1:l1<J.heap.objs.size:=by obtain⟨_,e,_⟩:=p1.isList;exact Q01 e
 have a2:l2<J.heap.objs.size:=by obtain⟨_,e,_⟩:=p2.isList;exact Q01 e
 refine call_zip_2 p1.isList p2.isList λh' q1 q2 q3 q4 q5 q6 q7=>?_;refine wpAny_pyIter_zip q1 ?_;have I2:Inv X pins σ H1 { J with heap:=h' }:=U.kept (t':=J.toks) q7
 have Dz:ZipApart (J.heap.objs.size+4) (J.heap.objs.size+2) (J.heap.objs.size+3) J.heap.objs.size (J.heap.objs.size+1) l1 l2:=by
  have b1:@LT.lt Nat _ l1 J.heap.objs.size:=a1;have b2:@LT.lt Nat _ l2 J.heap.objs.size:=a2;constructor <;> (intro z;have z':(_:Nat)=_:=z;omega)
 refine⟨J.heap.objs.size+4,[J.heap.objs.size+4,J.heap.objs.size+2,J.heap.objs.size+3,J.heap.objs.size,J.heap.objs.size+1],_,_,H1,rfl,I2,Hs Dz,⟨.none,.none,q1,q2,q3,q4,q5⟩,λb L=>?_,q⟩
 have L:J.heap.objs.size<=b:=by
  have L:b=J.heap.objs.size+4\/b=J.heap.objs.size+2\/b=J.heap.objs.size+3\/b=J.heap.objs.size\/b=J.heap.objs.size+1:=by simpa using L
  rcases L with z|z|z|z|z <;> rw[z]
  . exact Q1t _ _
  . exact Q1t _ _
  . exact Q1t _ _
  . exact Q00 _
  . exact Q1t _ _
 exact U.me L (U.hok.fresh L)
end
end L2
namespace HT
open PyProof.Rows L2
section
open SeqAt
open PySem.AutoSeq1 (wpAny_loadPart')
open MeetsSeq MeetsSeq2 MeetsSeq3
inductive KeysAre:List Value->List Key->Prop
 |nil:KeysAre [] []
 |cons {u:Value} {k:Key} {us:List Value} {ks:List Key}:RelV (kV k) u->KeysAre us ks->KeysAre (u::us) (k::ks)
theorem KeysAre.of:∀{ks:List Key}{us:List Value},Vals (ks.map kV) us->KeysAre us ks
 |[],_,r=>by cases r;exact .nil
 |k::ks,_,r=>by
  cases r with
  |cons a b=>exact .cons a (KeysAre.of b)
theorem KeysAre.length:∀{us:List Value}{ks:List Key},KeysAre us ks->us.length=ks.length
 |_,_,.nil=>rfl
 |_,_,.cons _ h=>by rw[Q0j,Q0j,h.length]
theorem Hv (A:Around)(s:Shared){k j:Key}{u v:Value}(r:RelV (kV k) u)(q:RelV (kV j) v)(ht:hU k=hU j):∃e,SeqAt.EqAt A s u v e/\(e=true↔k=j):=by
 rcases ny r with⟨m,t,rfl,rfl⟩|⟨m,t,rfl,rfl⟩ <;> rcases ny q with⟨n,t',rfl,rfl⟩|⟨n,t',rfl,rfl⟩
 . exact⟨m == n,SeqAt.EqAt.int_int m t n t',by simp⟩
 . cases ht
 . cases ht
 . exact⟨m == n,SeqAt.EqAt.str_str m t n t',by simp⟩
theorem Hw (A:Around)(s:Shared){k j:Key}{u v:Value}(r:RelV (kV k) u)(q:RelV (kV j) v)(ht:hU k=hU j)(prog:Program)(w:World)(E:Value->Shared->Prop)(Q:Value->Shared->Prop)(h:Q (.bool (!i9 j k)) s):
 wpAny (model prog w) A (richCompare .LtE u v) Q E s:=by
 rcases ny r with⟨m,t,rfl,rfl⟩|⟨m,t,rfl,rfl⟩ <;> rcases ny q with⟨n,t',rfl,rfl⟩|⟨n,t',rfl,rfl⟩
 . have e:(!i9 (.inl n) (.inl m))=decide (m<=n):=by
    show(!decide (n<m))=decide (m<=n);rw[<-decide_not];exact decide_eq_decide.mpr Int.not_lt
   rw[e] at h;exact(PyProof.Rows.le_int h:wpAny (model prog w) A (compareOp .LtE (.int m t) (.int n t')) Q E s)
 . cases ht
 . cases ht
 . exact(PySem.P.le_str h:wpAny (model prog w) A (compareOp .LtE (.str m t) (.str n t')) Q E s)
theorem Hx (l b:Addr)(J z:Array Value)(n n2:Nat)(dd ai:Option Addr)(sl aj:Array (Option Value))(ns ms:List Key)(hi:KeysAre J.toList ns)(hj:KeysAre z.toList ms)(ht:ns.map hU=ms.map hU):
 Meets (Builtin.«tuple.__le__» ⟨[.ref l,.ref b],[]⟩)
  (λ_ R s=>s.heap.get? l=some { cls:=.type "tuple",dict:=dd,data:=.seq J n,slots:=sl }/\s.heap.get? b=some { cls:=.type "tuple",dict:=ai,data:=.seq z n2,slots:=aj }/\
    R (.ok (.ret (.bool (!fY ms ns)))) s):=
 .of_wp λprog w A R s h=>by
   obtain⟨hp,g,d,tk,os⟩:=s;obtain⟨hl,hb,h⟩:=h;have f2:=AutoSeq1.sub_tuple_tuple;have z1:J.size=ns.length:=by rw[<-hi.length];simp
   have z2:z.size=ms.length:=by rw[<-hj.length];simp
   have z3:ns.length=ms.length:=by have:=congrArg List.length ht;simpa using this
   wp_walk using wpAny_loadPart' hl,wpAny_loadPart' hb,wpAny_forIn_list _ (λrest b s'=>b.1=none/\s'=⟨hp,g,d,tk,os⟩/\∃(vs ws:List Value) (U Y:List Key),rest=vs.zip ws/\
    KeysAre vs U/\KeysAre ws Y/\U.map hU=Y.map hU/\R (.ok (.ret (.bool (!fY Y U)))) ⟨hp,g,d,tk,os⟩) _
   case turn=>
    rintro⟨y,x⟩ rest b s' ⟨ac,rfl,vs,ws,U,Y,hz,ae,aa,L,hR⟩
    cases ae with
    |nil=>rw[List.zip_nil_left] at hz;cases hz
    |cons a ag=>
     cases aa with
     |nil=>rw[List.zip_nil_right] at hz;cases hz
     |cons c ah=>
      rw[Q2m] at hz;injection hz with ak af
      injection ak with hy hx
      subst hy hx;rw[ow] at hR;have t1:=(List.cons.inj L).1;have t2:=(List.cons.inj L).2;obtain⟨e,he,ab⟩:=Hv A.in1 ⟨hp,g,d,tk,os⟩ a c t1;refine Q0 (he prog w _ _ ?_)
      cases e with
      |true=>
       rw[if_pos (ab.mp rfl).symm] at hR
       wp_walk
       exact⟨rfl,rfl,_,_,_,_,af,ag,ah,t2,hR⟩
      |false=>
       rw[if_neg (λq=>absurd (ab.mpr q.symm) Bool.false_ne_true)] at hR;have al:=Hw A.in1 ⟨hp,g,d,tk,os⟩ a c t1 prog w
       wp_walk using al
       exact⟨_,rfl,by simpa using hR⟩
   case fin=>
    rintro⟨b1,b2⟩ s' ⟨ac,rfl,vs,ws,U,Y,hz,ae,aa,L,hR⟩;simp only at ac;subst ac
    have hv:(!fY Y U)=decide (J.size<=z.size):=by
     cases ae with
     |nil=>
      cases aa with
      |nil=>exact(decide_eq_true (by omega)).symm
      |cons c hw=>cases L
     |cons a hv=>
      cases aa with
      |nil=>cases L
      |cons c hw=>
       rw[Q2m] at hz
       cases hz
    rw[hv] at hR
    wp_walk
    exact⟨_,rfl,by simpa[Builtin.Tuple.tupleCompareSizes] using hR⟩
   case h=>
    exact⟨rfl,rfl,J.toList,z.toList,ns,ms,rfl,hi,hj,ht,h⟩
end
section
variable {prog:Program}{w:World}{A:Around}{E:Value->Shared->Prop}{s:Shared}
theorem Hy {l b:Addr}{J z:Array Value}{ns L:List Key}{Q:Value->Shared->Prop}(hl:IsTup s.heap l J)(hb:IsTup s.heap b z)(hi:KeysAre J.toList ns)(hj:KeysAre z.toList L)(ht:ns.map hU=L.map hU)
 (hu:A.units<cLine) (h:Q (.bool (!fY L ns)) s):wpAny (model prog w) A (compareOp .LtE (.ref l) (.ref b)) Q E s:=by
 obtain⟨⟨cls,dd,data,sl⟩,ho,hc,n,hd⟩:=id hl;obtain⟨⟨ae,ab,data2,ac⟩,U,Y,n2,aa⟩:=id hb;simp only at hc hd Y aa;subst hc hd Y aa
 exact richCompare_meets_room (op:=.LtE) ⟨_,ho,rfl⟩ ⟨_,U,rfl⟩ PySem.F.slot_tuple_le PySem.F.entry_tuple_le (PySem.F.args_tuple_le_2 _ _) (Hx l b J z n n2 dd ab sl ac ns L hi hj ht)
  ⟨ho,U,show Value.bool (!fY L ns)≠Value.notImplemented/\Q (.bool (!fY L ns)) s from⟨(λx=>nomatch x),h⟩⟩ hu
end
end HT
namespace L2
open Spec PyProof.Rows
section
variable {X:Cx}
def Hz (K:W.Frag):R2:=λx y H Q=>∃a b ns z,x=.ref a/\y=.ref b/\eu K H a (ns.map kV)/\eu K H b (z.map kV)/\ns.map hU=z.map hU/\Q (.bl (!fY z ns)) H
theorem BJ (J:X.A.units<cLine):ij X (compareOp .LtE) (Hz X.K):=by
 intro pins s σ H x y v u Q I L U h;obtain⟨a,b,ns,Y,rfl,rfl,ha,hb,ht,q⟩:=h
 cases L
 cases U;obtain⟨aa,r1,p1,_⟩:=I.tuple ha;obtain⟨z,r2,p2,_⟩:=I.tuple hb;exact HT.Hy p1 p2 (by simpa using HT.KeysAre.of r1) (by simpa using HT.KeysAre.of r2) ht J ⟨.bl (!fY Y ns),H,I,rfl,q⟩
end
inductive iF (K:W.Frag) (H:Hp):Nat->V->V->Bool->Prop
 |ref {n:Nat} (a:Addr):iF K H n (.ref a) (.ref a) true
 |int {n:Nat} (a b:Int):iF K H n (.int a) (.int b) (decide (a=b))
 |str {n:Nat} (a b:Str):iF K H n (.str a) (.str b) (decide (a=b))
 |is {n:Nat} (a:Int) (b:Str):iF K H n (.int a) (.str b) false
 |si {n:Nat} (a:Str) (b:Int):iF K H n (.str a) (.int b) false
 |lst {n:Nat} {a b:Addr} {xs ys:List V} {e:Nat->Bool} (ne:a≠b) (ha:eF K H a xs) (hb:eF K H b ys) (hl:xs.length=ys.length) (he:∀(j:Nat) (x y:V),xs[j]? =some x->ys[j]? =some y->iF K H n x y (e j)):
   iF K H (n+1) (.ref a) (.ref b) ((List.range xs.length).all e)
 |tup {n:Nat} {a b:Addr} {xs ys:List V} {e:Nat->Bool} (ne:a≠b) (ha:eu K H a xs) (hb:eu K H b ys) (he:∀(j:Nat) (x y:V),xs[j]? =some x->ys[j]? =some y->iF K H n x y (e j)):
   iF K H (n+1) (.ref a) (.ref b) ((List.range (min xs.length ys.length)).all e && xs.length == ys.length)
section
variable {X:Cx}{pins:List (Addr × Obj)}{σ:St}{H:Hp}{s:Shared}
theorem Vals.at:∀{xs:List V}{us:List Value},Vals xs us->∀(j:Nat) (h:j<us.length),∃x,xs[j]? =some x/\RelV x us[j]
 |_,_,.nil,j,h=>absurd h (by simp)
 |_,_,.cons a r,0,h=>⟨_,rfl,a⟩
 |_,_,.cons a r,j+1,h=>by
  obtain⟨x,h1,h2⟩:=Vals.at r j (by simpa using h);exact⟨x,by simpa using h1,h2⟩
theorem iF.BK (I:Inv X pins σ H s){n:Nat}{x y:V}{b:Bool}(h:iF X.K H n x y b):∀(A:Around) (u v:Value),RelV x u->RelV y v->A.units+n<cLine->SeqAt.EqAt A s u v b:=by
 induction h with
 |ref a=>
  intro A u v J L hu
  cases J
  cases L;exact SeqAt.EqAt.same _
 |int a b=>
  intro A u v J L hu;obtain⟨t,rfl⟩:=J;obtain⟨t',rfl⟩:=L;exact SeqAt.EqAt.int_int a t b t'
 |str a b=>
  intro A u v J L hu;obtain⟨t,rfl⟩:=J;obtain⟨t',rfl⟩:=L
  have e:decide (a=b)=(a == b):=by
   by_cases z:a=b
   . rw[decide_eq_true z,z];simp
   . rw[decide_eq_false z];exact(beq_eq_false_iff_ne.mpr z).symm
  rw[e];exact SeqAt.EqAt.str_str a t b t'
 |is a b=>
  intro A u v J L hu;obtain⟨t,rfl⟩:=J;obtain⟨t',rfl⟩:=L;exact SeqAt.EqAt.int_str a t b t'
 |si a b=>
  intro A u v J L hu;obtain⟨t,rfl⟩:=J;obtain⟨t',rfl⟩:=L;exact SeqAt.EqAt.str_int a t b t'
 |@lst n a b xs ys e ne ha hb hl he ih=>
  intro A u v J L hu
  cases J
  cases L;obtain⟨Y,r1,p1,_⟩:=I.list ha;obtain⟨U,r2,p2,_⟩:=I.list hb;have l1:=r1.length;have l2:=r2.length;refine .of_refs ne ?_;have q:xs.length=Y.toArray.size:=by rw[Q09];exact l1
  rw[q];refine SeqAt.RcAt.lists p1.isList p2.isList (by rw[Q09,Q09];omega) (by omega) λj h1 h2=>?_;obtain⟨x',e1,q1⟩:=Vals.at r1 j (by simpa using h1);obtain⟨y',e2,q2⟩:=Vals.at r2 j (by simpa using h2);refine ih j x' y' e1 e2 _ _ _ (by simpa using q1) (by simpa using q2) ?_;show A.units+1+n<cLine;omega
 |@tup n a b xs ys e ne ha hb he ih=>
  intro A u v J L hu
  cases J
  cases L;obtain⟨Y,r1,p1,_⟩:=I.tuple ha;obtain⟨U,r2,p2,_⟩:=I.tuple hb;have l1:=r1.length;have l2:=r2.length;refine .of_refs ne ?_;have q:xs.length=Y.toArray.size:=by rw[Q09];exact l1
  have q':ys.length=U.toArray.size:=by rw[Q09];exact l2
  rw[q,q'];refine SeqAt.RcAt.tuples p1 p2 (by omega) λj h1 h2=>?_;obtain⟨x',e1,q1⟩:=Vals.at r1 j (by simpa using h1);obtain⟨y',e2,q2⟩:=Vals.at r2 j (by simpa using h2);refine ih j x' y' e1 e2 _ _ _ (by simpa using q1) (by simpa using q2) ?_;show A.units+1+n<cLine;omega
def HA (K:W.Frag) (H:Hp) (n:Nat) (xs ys:List V) (e:Nat->Bool):Prop:=∀(j:Nat) (x y:V),xs[j]? =some x->ys[j]? =some y->iF K H n x y (e j)
def HF (K:W.Frag) (n:Nat):R2:=λx y H Q=>∃a b xs ys e,x=.ref a/\y=.ref b/\HA K H n xs ys e/\
 ((eF K H a xs/\eF K H b ys/\((xs.length=ys.length/\Q (.bl (!(List.range xs.length).all e)) H)\/(xs.length≠ys.length/\Q (.bl true) H)))\/
  (eu K H a xs/\eu K H b ys/\Q (.bl (!((List.range (min xs.length ys.length)).all e && xs.length == ys.length))) H))
theorem HG {n:Nat}(hu:X.A.units+1+n<cLine):ij X (compareOp .NotEq) (HF X.K n):=by
 intro pins s σ H x y v u Q I rx ry h;obtain⟨a,b,xs,ys,e,rfl,rfl,hd,h⟩:=h
 cases rx
 cases ry;rcases h with⟨ha,hb,h⟩|⟨ha,hb,q⟩
 . obtain⟨L,U,p1,_⟩:=I.list ha;obtain⟨J,Y,p2,_⟩:=I.list hb;have l1:=U.length;have l2:=Y.length;rcases h with⟨hl,q⟩|⟨hl,q⟩
   . have z:xs.length=L.toArray.size:=by rw[Q09];exact l1
     rw[z] at q;refine(SeqAt.RcNeAt.lists (e:=e) p1.isList p2.isList (by rw[Q09,Q09];omega) (by omega) (λj h1 h2=>?_)) X.prog X.w _ _ ⟨.bl _,H,I,rfl,q⟩;obtain⟨x',e1,q1⟩:=Vals.at U j (by simpa using h1);obtain⟨y',e2,q2⟩:=Vals.at Y j (by simpa using h2);refine(hd j x' y' e1 e2).BK I _ _ _ (by simpa using q1) (by simpa using q2) ?_;show X.A.units+1+n<cLine;omega
   . refine(SeqAt.RcNeAt.lists_lengths p1.isList p2.isList ?_ (by omega)) X.prog X.w _ _ ⟨.bl true,H,I,rfl,q⟩;rw[Q09,Q09];simp;omega
 . obtain⟨L,U,p1,_⟩:=I.tuple ha;obtain⟨J,Y,p2,_⟩:=I.tuple hb;have l1:=U.length;have l2:=Y.length;have z:xs.length=L.toArray.size:=by rw[Q09];exact l1
   have z':ys.length=J.toArray.size:=by rw[Q09];exact l2
   rw[z,z'] at q;refine(SeqAt.RcNeAt.tuples (e:=e) p1 p2 (by omega) (λj h1 h2=>?_)) X.prog X.w _ _ ⟨.bl _,H,I,rfl,q⟩;obtain⟨x',e1,q1⟩:=Vals.at U j (by simpa using h1);obtain⟨y',e2,q2⟩:=Vals.at Y j (by simpa using h2);refine(hd j x' y' e1 e2).BK I _ _ _ (by simpa using q1) (by simpa using q2) ?_;show X.A.units+1+n<cLine;omega
def HH:V->List V->Hp->VK->Prop:=λx vs H Q=>∃l xs y,∃i:Int,x=.ref l/\vs=[.int i,y]/\H l=some (.lst xs)/\0<=i/\i<=1000000/\xs.length<sizeLine/\Q .non (upd H l (.lst (xs.take i.toNat++y::xs.drop i.toNat)))
theorem HI:A4 X "list.insert" HH:=by
 intro pins s σ H x vs v us Q I Y rv h;obtain⟨l,xs,y,i,rfl,rfl,U,h0,hi,hz,q⟩:=h
 cases Y;obtain⟨u1,L,rfl,r1,r2⟩:=vals2 rv;obtain⟨t,rfl⟩:=r1;obtain⟨z,J,n,r,hl,e⟩:=I.qT U
 have hf:Builtin.List.listFitsIndex i=true:=by
  unfold Builtin.List.listFitsIndex;rw[Bool.and_eq_true];exact⟨decide_eq_true (Int.le_trans (by decide) h0),decide_eq_true (Int.lt_of_le_of_lt hi (by decide))⟩
 have lr:=r.length;have hs:J.toArray.size<=sizeLine:=by rw[Q09];omega
 have hc:¬(!Builtin.List.listFitsIndex i)=true:=by rw[hf];exact Bool.false_ne_true
 refine call_meets F.slot_list_insert ⟨_,e,rfl⟩ F.entry_list_insert (F.args_list_insert_3 _ _ _) (PySem.AutoSeq1.list_insert_list_int_val_1 l J.toArray n i t L hc hs) ⟨e,?_⟩;refine⟨.non,_,I.A5 (its':=J.take i.toNat++L::J.drop i.toNat) U e ?_ ?_ ?_,rfl,q⟩
 . have hk:(if i<0 then(i+(J.toArray.size:Int)).toNat else min i.toNat J.toArray.size)=min i.toNat J.length:=by
    rw[if_neg (by omega),Q09]
   show(J.toArray.extract 0 (if i<0 then(i+(J.toArray.size:Int)).toNat else min i.toNat J.toArray.size)).push L++J.toArray.extract (if i<0 then(i+(J.toArray.size:Int)).toNat else min i.toNat J.toArray.size)=_;rw[hk,W.kl_ins_eq];rcases Nat.le_total i.toNat J.length with h|h
   . rw[Nat.min_eq_left h]
   . rw[Nat.min_eq_right h,Q0w (Q00 _),Q36 (Q00 _),Q0w h,Q36 h]
 . exact(r.take i.toNat).append (.cons r2 (r.drop i.toNat))
 . rw[Q0c,Q0j,Q0k,Q2y];omega
end
def HJ (e:Addr) (l:List Env) (h h':Heap):Prop:=
 (∀b o,b ∉ frs l->b≠e->h.get? b=some o->h'.get? b=some o)/\∀b o,b≠e->h.get? b=some o->∃z,h'.get? b=some { o with slots:=z }
theorem uj {f:Array Value->Array Value}{o:Obj}{vs:Array Value}(h:o.data=.fields vs):Obj.mapFields f o={ o with data:=.fields (f vs) }:=by
 obtain⟨c,d,z,J⟩:=o;have h:z=.fields vs:=h;subst h;rfl
section
variable {M:Model}{A:Around}{E:Value->Shared->Prop}{s:Shared}
theorem BL {base:Heap}{env:Env}{outer:List Env}{L e:Addr}{J:Obj}{vs:Array Value}{U:Value}{ae:Bool}{Q:Unit->Shared->Prop}
 (af:A.frames=some (env::outer)) (hl:s.heap.FunFrames base (env::outer)) (hf:env.frame=some L) (he:s.heap.get? e=some J) (hd:J.data=.fields vs) (hsz:1<vs.size)
 (h:∀(h':Heap) (T:Addr),s.heap.objs.size<=T->HJ e (env::outer) s.heap h'->h'.get? e=some { J with data:=.fields (vs.setIfInBounds 1 (.ref T)) }->(∃oT ts,h'.get? T=some oT/\oT.data=.fields ts/\ts[3]? =some (rawInt L))->Q () { s with heap:=h' }):
 wpAny M A (do let a <-frameOf env;let pl <-entryPlaceOf L ae;let b <-EntryCells.newEntry U a .none (rawInt L) .none pl;setField (.ref e) 1 b) Q E s:=by
 have ag:e ∉ (env::outer).filterMap (·.frame):=λz=>by
  obtain⟨_,o,ho,hn⟩:=hl.mem z;rw[he] at ho
  cases ho;exact hn vs hd
 refine Q0 (wpAny_frameOf_fun af hl hf λh1 x1=>?_);refine Q0 (wpAny_entryPlaceOf λpl ab=>?_);unfold EntryCells.newEntry newFields;refine Q0 (wpAny_newObj_type ?_ (ab.sizeOk5 _ _ _ _ _));have e1:h1.get? e=some J:=(x1.2.1 e ag).trans he;generalize ac:({ cls:=.type "traceback",dict:=none,data:=.fields ([U,.ref L,.none,rawInt L,.none]++(if pl.isEmpty then List.replicate 6 Value.none else pl)).toArray }:Obj)=ob;have e2:(h1.push ob).get? e=some J:=Q07 ob e1;have ah:h1.objs.size≠e:=Q0x (Q01 e1);have aa:({ J with data:=.fields (vs.setIfInBounds 1 (.ref h1.objs.size)) }:Obj).isFreed=false:=Obj.isFreed_of_fields rfl;have em:Obj.mapFields (·.setIfInBounds 1 (Value.ref h1.objs.size)) J={ J with data:=.fields (vs.setIfInBounds 1 (.ref h1.objs.size)) }:=uj hd;refine wpAny_setField e2 hd hsz (h _ h1.objs.size (Q1o x1.1.symm) ⟨λb o hb Y ho=>?_,λb o Y ho=>?_⟩ ?_ ?_)
 . rw[Q18 _ _ (Ne.symm Y)];exact Q07 ob ((x1.2.1 b hb).trans ho)
 . obtain⟨sl,hs⟩:=x1.2.2 b o ho;refine⟨sl,?_⟩;rw[Q18 _ _ (Ne.symm Y)];exact Q07 ob hs
 . have:=Q1p (Obj.mapFields (·.setIfInBounds 1 (Value.ref h1.objs.size))) e2 (by rw[em];exact aa);rw[em] at this;exact this
 . refine⟨ob,_,?_,by rw[<-ac],?_⟩
   . rw[Q18 _ _ (Ne.symm ah)];exact Q0n h1 (by rw[<-ac];rfl)
   . first|(simp;done)|(rcases ab with rfl|⟨_,_,_,_,_,_,_,rfl⟩ <;> simp)
structure Tr (h:Heap) (e T:Addr) (cls fl:Value):Prop where
 ex:∃oe vs,h.get? e=some oe/\oe.cls=cls/\oe.dict=none/\oe.data=.fields vs/\vs[1]? =some (.ref T)
 tb:∃oT ts,h.get? T=some oT/\oT.data=.fields ts/\ts[3]? =some fl
 ne:T≠e
end
theorem gJ.ex {P:Program}{w:World}{H:Hp}{h:Heap}{a:Addr}{o:HO}(x:gJ P w H h a o):∃z,h.get? a=some z:=by
 cases o with
 |lst xs=>obtain⟨_,_,_,_,e⟩:=x;exact⟨_,e⟩
 |tup xs=>obtain⟨_,_,_,z,e,_⟩:=x;exact⟨z,e⟩
 |dK kvs=>obtain⟨_,_,_,_,z,_,_,e,_⟩:=x;exact⟨z,e⟩
 |dT kvs=>obtain⟨_,_,_,_,z,_,_,e,_⟩:=x;exact⟨z,e⟩
 |set S n=>obtain⟨z,_,_,_,e,_⟩:=x;exact⟨z,e⟩
 |ins C dx fs=>obtain⟨_,_,_,e,_⟩:=x;exact⟨_,e⟩
 |own y=>exact x
 |xd fs=>obtain⟨_,⟨z,_,_,e,_⟩,_⟩:=x;exact⟨z,e⟩
 |rng lo hi=>obtain⟨_,_,_,e⟩:=x;exact⟨_,e⟩
 |gT z u=>obtain⟨e,_⟩:=x;exact⟨_,e⟩
 |fO ps=>exact⟨_,show h.get? a=some _ from x⟩
 |met f y=>exact⟨_,show h.get? a=some _ from x⟩
 |ext J=>obtain⟨_,⟨z,e⟩,_⟩:=x;exact⟨z,e⟩
section
variable {X:Cx}{pins:List (Addr × Obj)}{σ:St}{H:Hp}{s:Shared}
theorem Heap.BO {h:Heap}{a:Addr}(e:h.objs.size<=a):h.get? a=none:=by
 cases q:h.get? a with
 |none=>rfl
 |some o=>exact absurd (Q0d (Q01 q) e) (Q0r _)
theorem Inv.oE (I:Inv X pins σ H s)(hex:X.ex=[]){a:Addr}(e:s.heap.get? a=none):X.s₀.heap.get? a=none:=by
 cases q:X.s₀.heap.get? a with
 |none=>rfl
 |some o=>
  obtain⟨o',z⟩:=I.base.there a o q (by rw[hex];simp);rw[e] at z;cases z
theorem Inv.BP (I:Inv X pins σ H s)(hex:X.ex=[]){a T:Addr}{h':Heap}(ha:X.s₀.heap.get? a=none)(hT:X.s₀.heap.get? T=none)(na:H a=none)(nT:H T=none)
 (k1:∀b o,b ∉ frs X.stack->b≠a->b≠T->s.heap.get? b=some o->h'.get? b=some o) (k2:∀b o,b≠a->b≠T->s.heap.get? b=some o->∃sl,h'.get? b=some { o with slots:=sl }):
 Un (frs X.outer) [] X.H₀ H X.s₀.heap h'/\gD X.prog X.w H h':=by
 have B:=I.base;rw[hex] at B
 have J:∀b o,X.s₀.heap.get? b=some o->b≠a/\b≠T/\b≠X.env.locals:=λb o e=>by
  have hb:=Q01 e;exact⟨(λz=>by rw[z,ha] at e;cases e),(λz=>by rw[z,hT] at e;cases e),λz=>Q0r _ (Q0d (z ▸ hb) I.ok.above)⟩
 refine⟨⟨λb o e n hf _=>?_,λb o e n hf _=>?_,λb o e n _=>B.free b o e n (by simp),λb o e _=>?_,B.tups,B.jd,B.jr⟩,λb o e=>(I.hok b o e).stay (λc u hc r=>?_) (λ_ r=>r) λ_ _ r=>r⟩
 . obtain⟨U,Y,o3⟩:=J b o e;refine k1 b o (λz=>?_) U Y (B.keep b o e n hf (by simp));rcases List.mem_cons.mp (I.n6 b z) with z|z
   . exact o3 z
   . exact hf z
 . obtain⟨U,Y,o3⟩:=J b o e;obtain⟨sl,e1⟩:=B.slot b o e n hf (by simp);obtain⟨aa,e2⟩:=k2 b _ U Y e1;exact⟨aa,e2⟩
 . obtain⟨U,Y,o3⟩:=J b o e;obtain⟨o',e1⟩:=B.there b o e (by simp);obtain⟨sl,e2⟩:=k2 b o' U Y e1;exact⟨_,e2⟩
 . have ab:∃v,H c=some v:=by
    rcases hc with z|z
    . exact⟨o,by rw[z];exact e⟩
    . exact⟨_,z⟩
   obtain⟨v,L⟩:=ab;refine k1 c u (λz=>?_) (λz=>?_) (λz=>?_) r
   . rw[I.pz c z] at L;cases L
   . rw[z,na] at L;cases L
   . rw[z,nT] at L;cases L
end
section
variable {M:Model}{A:Around}{E:Value->Shared->Prop}{s:Shared}
end
section
variable {X:Cx}{pins:List (Addr × Obj)}{σ:St}{H:Hp}{s:Shared}
end
section
variable {X:Cx}{k:Nat}{f:Addr}{fd:FuncData}{ps:List Str}{sp:Sp}{iE:List V}{ds:List Value}{Ek:XK}{x:Str}{p pos:Pos}{e:Expr}{es:List Expr}{t:TA}{te:TE}
end
end L2
namespace L2
open Spec PyProof.Rows W
theorem HK {M:Model}{A:Around}{E:Value->Shared->Prop}{K:Frag}{s:Shared}{a C D:Addr}{J:Obj}{b:Bool}{Q:Bool->Shared->Prop}(X:K.In s.heap)(h1:typeIn K (.ref D)=some (.type "type"))(h2:(clsIn K D).isSome=true)(Y:subIn K (.ref D) (.type "BaseException")=some true)
 (h4:subIn K (.ref C) (.ref D)=some b) (he:s.heap.get? a=some J) (hc:J.cls=.ref C) (hq:Q b s):wpAny M A (excMatches (.ref a) (.ref D)) Q E s:=by
 obtain⟨h,g,d,t,os⟩:=s;have L1:=looks_typeIn (M:=M) X h1;have L2:Looks M h (isSubtype (.type "type") (.type "tuple")) false:=Looks.of_pure tc_notTuple;have L3:=looks_subIn (M:=M) X Y;have L4:=looks_subIn (M:=M) X h4
 have L5:Looks M h (isType (.ref D)) true:=by
  unfold clsIn at h2;split at h2
  . rename_i c' d' aa ab ho;intro L Q' U s' k q;unfold isType loadHead;exact Q0 (wpAny_loadPart (k _ _ (X _ _ ho)) (Q0a q))
  . cases h2
 have L6:Looks M h (typeOf (.ref a)) (.ref C):=by
  have z:Looks M h (typeOf (.ref a)) J.cls:=(Looks.ld (show h.get? a=some J from he)).andThen .now;rw[hc] at z;exact z
 have L7:Looks M h (isInstance (.ref D) (.type "tuple")) false:=L1.andThen L2
 have L8:Looks M h (isExcClass (.ref D)) true:=λL Q' U s' k q=>by
  unfold isExcClass;exact Q0 (L5 L _ U s' k (L3 L _ U s' k q))
 unfold excMatches;refine Q0 (L7.at ?_)
 repeat (any_goals (first|assumption|with_reducible refine L8.at ?_|with_reducible refine L6.at ?_|with_reducible refine L4.at ?_|wp_step))
 cases b <;> (repeat (any_goals (first|assumption|wp_step)))
end L2
namespace L2
open Spec PyProof.Rows
section
variable {X:Cx}{pins:List (Addr × Obj)}{σ:St}{H:Hp}{s:Shared}
theorem Inv.unbind {M:Model}{A:Around}{E:Value->Shared->Prop}{i:Nat}{x:Str}{pos:Pos}{Q:Unit->Shared->Prop}(I:Inv X pins σ H s)(hN:X.N.Nodup)(hi:X.N[i]? =some x)(hk:X.env.kindOf x=some .local)
 (h:∀s',Inv X pins (σ.set i none) H s'->Q () s'):wpAny M A (do bindName X.env x .none;unbindBehindTheSuite X.env x pos) Q E s:=by
 obtain⟨m,hn,hl⟩:=id I.loc;have aa:(X.env.scope.kind == .class || (X.env.scope.kind == .module && X.env.locals != X.env.globals))=false:=by rw[I.ok.kind];rfl
 have ab:i<σ.length:=by rw[I.len];exact(List.getElem?_eq_some_iff.mp hi).1
 have kj:=I.kj;refine wpAny_nameGoes_keeps hk hn aa λh' v ac L=>?_;obtain⟨oL,_,_,ae,_⟩:=id hn
 have J:gD X.prog X.w H h':=λb ob e=>by
  refine(I.hok b ob e).stay (λc w' hc q=>(L.2 c ?_).trans q) (λ_ q=>q) λ_ _ q=>q;rintro rfl;rcases hc with rfl|hc
  . rw[I.free] at e;cases e
  . rw[I.free] at hc;cases hc
 refine h _ ⟨I.ok,I.os,I.bare,⟨λb o e n hb Y=>?_,λb o e n hb Y=>?_,I.base.free,λb o e Y=>?_,I.base.tups,I.base.jd,I.base.jr⟩,⟨_,ac,λj y v' U e2 e3=>?_⟩,λy c e=>?_,I.free,I.i7,λp hp=>?_,J,by simpa using I.len⟩
 . exact(L.2 b (Q08 (Q0d (Q01 e) I.ok.above))).trans (I.base.keep b o e n hb Y)
 . obtain⟨sl,U⟩:=I.base.slot b o e n hb Y;exact⟨sl,(L.2 b (Q08 (Q0d (Q01 e) I.ok.above))).trans U⟩
 . obtain⟨o',U⟩:=I.base.there b o e Y;exact⟨o',(L.2 b (Q08 (Q0d (Q01 e) I.ok.above))).trans U⟩
 . by_cases hj:j=i
   . subst hj;rw[Q2c ab] at e2
     cases e2
   . rw[Q2d (Ne.symm hj)] at e2;obtain⟨u',r',q⟩:=hl j y v' U e2 e3;refine⟨u',r',?_⟩;rcases q with⟨k,e⟩|⟨k,c,e,z⟩
     . refine .inl ⟨k,?_⟩;have:y≠x:=λe=>hj (tm hN U (e ▸ hi));simp[this,e]
     . exact .inr ⟨k,c,e,z.sameBut L (kj y c e)⟩
 . obtain⟨w',z⟩:=I.cell y c e;exact⟨w',z.sameBut L (kj y c e)⟩
 . obtain⟨e,n,ne,nf,d⟩:=I.pin p hp;exact⟨(L.2 p.1 ne).trans e,n,ne,nf,d⟩
noncomputable abbrev Cx.marked (X:Cx) (a:Addr):Cx:={ X with A:=X.A.mark (some (.ref a)),calm:=false,xe:=λ_ _=>False }
theorem Inv.marked (I:Inv X pins σ H s)(a:Addr):Inv (X.marked a) pins σ H s:=
 ⟨⟨I.ok.mod,I.ok.kind,I.ok.glob,I.ok.blt,I.ok.above,I.ok.inj,I.ok.has,I.ok.cab,(λz=>by cases z),I.ok.frames,I.ok.stk,I.ok.ti,I.ok.bs,I.ok.ki,I.ok.nZ,I.ok.px,I.ok.jM,I.ok.md⟩,I.os,I.bare,I.base,I.loc,I.cell,I.free,I.i7,I.pin,I.hok,I.len⟩
theorem Inv.unmarked {a:Addr}(I:Inv (X.marked a) pins σ H s)(ok:X.Ok):Inv X pins σ H s:=⟨ok,I.os,I.bare,I.base,I.loc,I.cell,I.free,I.i7,I.pin,I.hok,I.len⟩
end
def Ends.un (D:Ends) (i:Nat):Ends:={ nx:=λσ H=>D.nx (σ.set i none) H,rt:=D.rt,bk:=λσ H=>D.bk (σ.set i none) H,ct:=λσ H=>D.ct (σ.set i none) H }
end L2
namespace L2
open Spec Calls PyProof.Rows W Builtin Builtin.ObjectAttr Builtin.Getset_descriptor
structure oF (K:Frag) (C:Addr):Prop where
 ga:findIn K (.ref C) "__getattribute__"=some (some (.builtin "BaseException.__getattribute__"))
 gt:findIn K (.ref C) "__getattr__"=some none
 cl:findIn K (.ref C) "__class__"=some (some (.builtin "object.__class__"))
 ob:mroIn K C (.type "object")=some true
 bx:mroIn K C (.type "BaseException")=some true
 is:(clsIn K C).isSome=true
section
variable {prog:Program}{w:World}{A:Around}{E:Value->Shared->Prop}{K:Frag}{h:Heap}{g:Array GenState}{d:Drawn}{t:Nat}{os:OsState}{a C:Addr}{o:Obj}
theorem HL {z:Value}{M:Model}{Q:Unit->Shared->Prop}(X:K.In h)(Z:oF K C)(L:h.get? a=some o)(hc:o.cls=.ref C)(U:Q () ⟨h,g,d,t,os⟩):
 wpAny M A (checkBuiltinCall "BaseException.__getattribute__" ⟨[.ref a,z],[]⟩) Q E ⟨h,g,d,t,os⟩:=by
 have hk:builtinKind "BaseException.__getattribute__"=some .slot:=by decide +kernel
 have J:splitId "BaseException.__getattribute__"=some ("BaseException","__getattribute__"):=by decide +kernel
 have ha:=F.args_bexc_ga (.ref a) z;have Y:=looks_mroIn (M:=M) X Z.bx;simp only[checkBuiltinCall,hk,J];refine Q0 ?_
 . unfold isInstance
   repeat (first|(with_reducible refine wpAny_loadPart_at L ?_;rw[hc])|with_reducible refine Y.at ?_|wp_step)
   exact U
end
end L2
namespace L2
open Spec PyProof.Rows
section
variable {X:Cx}{es:List Expr}{n k:Nat}{t:St->Hp->Prop}{pos:Pos}
end
noncomputable def fJ (x:Str):List Key:=[Sum.inr x]
theorem BQ (x y:Str):fY (fJ x) (fJ y)=decide (x.cps.toList<y.cps.toList):=by
 unfold fJ;rw[ow];by_cases e:(Sum.inr x:Key)=Sum.inr y
 . rw[if_pos e];have e:=Sum.inr.inj e;subst e;have h:¬x.cps.toList<x.cps.toList:=Q35 _;rw[decide_eq_false h];rfl
 . rw[if_neg e];rfl
theorem uk {ss:List Str}{us:List Value}(r:Vals (ss.map V.str) us){i:Nat}(hi:i<us.length):∃x t,us.getD i Value.none=.str x t/\(ss.map fJ).getD i []=fJ x:=by
 have hl:=r.length;rw[Q02] at hl;have h1:(ss.map V.str)[i]? =some (V.str (ss[i]'(by omega))):=by rw[Q0g,Q03 (by omega)];rfl
 obtain⟨u,z,t,J⟩:=r.get h1;subst J;refine⟨ss[i]'(by omega),t,by rw[Q0f,z];rfl,?_⟩;rw[Q0f,Q0g,Q03 (by omega)];rfl
theorem HM {prog:Program}{w:World}{s:Shared}{A:Around}{ss:List Str}{us:List Value}(r:Vals (ss.map V.str) us):Asks prog w A s us (O:=oA) (λi=>(ss.map fJ).getD i []):=by
 intro h2;refine W.kas_kind (T:=.type "str") h2 (λv J=>?_) rfl rfl ⟨rfl,λi j C hi L q=>?_⟩
 . obtain⟨i,hi,e⟩:=Q1 J;obtain⟨x,t,z,_⟩:=uk r hi;rw[Q0f,Q03 hi] at z;have z:us[i]=.str x t:=z;rw[<-e,z];exact W.Looks.of_pure rfl
 . unfold W.kas_ask;obtain⟨x,t,z,U⟩:=uk r hi;obtain⟨y,u,Y,e4⟩:=uk r L;rw[z,Y];refine W.kas_lt_str ?_;have q:C (fY ((ss.map fJ).getD i []) ((ss.map fJ).getD j [])) s:=q;rw[U,e4,BQ] at q;exact q
def um (K:PySem.W.Frag) (P:Addr) (J:Pos) (qual:Str) (te:TE) (σ:St) (Q:VK):VK:=λx H1=>∃a xs,x=.ref a/\eF K H1 a xs/\xs.length<64/\eV P J qual H1/\
 ∀c' H2,lK P J qual c' H2->(∀b o,b≠P->H1 b=some o->H2 b=some o)->
 ∃W:List V->Hp->Prop,W [] H2/\(∀ks z,W ks z->lK P J qual c' z)/\(∀ks z y,W ks z->xs[ks.length]? =some y->te (some y::σ) z λk L=>W (ks++[k]) L)/\
 ∀ks z,W ks z->ks.length=xs.length->∃ss:List Str,ks=ss.map V.str/\∀p:List Nat,p.Perm (List.range xs.length)->(p.map λi=>(ss.map fJ).getD i []).Pairwise j1->∀D,z D=none->Q (.ref D) (upd z D (.lst (p.map λi=>xs.getD i .non)))
def HN (K:W.Frag) (P:Addr) (z:Pos) (qual:Str) (tl te:TE):TE:=λσ H Q=>tl σ H (um K P z qual te σ Q)
section
variable {X:Cx}
theorem BS {x:Str}{N':List Str}{l body:Expr}{L:Arguments}{scope:Scope}{lp kp p pos:Pos}{qual:Str}{c P:Addr}{tl te:TE}{k:Nat}(hg:Gl X "sorted")(hm:X.mg "sorted"=none)(hv:bootBuiltins "sorted"=some (.builtin "sorted"))(hr:gi k X.A)(hq:X.env.qual++"<lambda>"=qual)(Y:X.env.code=.ref c)(C:PySem.W.CodeHd X.base c P)
 (B:BM X.mg X.base) (S:lL X x N' scope) (ab:defaultsOf L X.env=([],[])) (hb:∀(cl:List (Str × Addr)) (pm:Value) (c':Addr) (U u:Value),bindArgs (PySem.W.kla_fn "<lambda>" qual L body scope cl pm (.ref c') U) ⟨[u],[]⟩=pure [(x,u)])
 (hl:PE X l tl) (he:∀(cl:List (Str × Addr)) (f c':Addr) (s:Shared) (H:Hp),PE (pS X x N' scope cl qual f c' s H) body te) (hs:starEach [l] X.env=[(false,eval l X.env)]:=by rfl):
 PE X (.Call (.Name "sorted" p) [l] [⟨some "key",.Lambda L body scope lp,kp⟩] pos) (HN X.K P lp qual tl te):=by
 intro pins s σ H Q I h;refine wpAny_Call_Name_kw (lu I hg hm hv ?_);have ha:PA X [l] (gR tl jh):=a_ hl c_ (by rw[hs];rfl);refine callWith_kw (eU (ha pos pins s σ H (λvs H1=>match vs with|[x]=>um X.K P lp qual te σ Q x H1|_=>False) I h) λus s1 zq=>?_) (by rw[hs];rfl) (by rw[hs];rfl);obtain⟨vs,H1,I1,r1,q1⟩:=zq
 obtain⟨x',rfl⟩:∃x',vs=[x']:=by
  match vs,q1 with
  |[x'],_=>exact⟨x',rfl⟩
 have q1:um X.K P lp qual te σ Q x' H1:=q1;obtain⟨a,xs,rfl,ag,ah,T,cont⟩:=q1;obtain⟨u,rfl,ru⟩:=vals1 r1
 cases ru;show wpAny _ _ (evalAll [do let v <-eval (.Lambda L body scope lp) X.env;standAt pos;pure v]) _ _ s1;obtain⟨cl,aa,ac,ae⟩:=qX (scope:=scope) (env:=X.env) λy hy hf=>I1.ok.has y.1 (S.free y hy hf);refine wpAny_evalAll_cons (Q0 (PySem.W.kla_eval ab ?_));rw[hq];refine Bx I1 Y C B T aa λf c' pm U H2 s2 I2 ai mono=>?_;refine Q0 (wpAny_standAt (Q0a (wpAny_evalAll_nil ?_)));show wpAny _ _ (call (.builtin "sorted") [.ref a] [(Str.ofString "key",.ref f)]) _ _ s2;obtain⟨W,w0,wL,wt,wf⟩:=cont c' H2 ai mono
 have aj:∃ps,H1 P=some (.fO ps):=by
  rcases T with e|⟨al,e,_⟩
  . exact⟨_,e⟩
  . exact⟨_,e⟩
 have ak:eF X.K H2 a xs:=by
  obtain⟨ps,hP⟩:=aj;rcases ag with(z|⟨o,z⟩)|z
  . exact .inl (.inl (mono a _ (iB z hP (by intro z;cases z)) z))
  . exact .inl (.inr ⟨o,mono a _ (iB z hP (by intro z;cases z)) z⟩)
  . exact .inr z
 refine eU (BF (Q:=Q) (W:=W) I2 ak ah w0 (λpl s' H' ks y u J wk hy ry=>?_) λpl s' H' ks us J wk af rk=>?_) λr s' ⟨v,H',J,rv,q⟩=>⟨v,H',J.ly,rv,q⟩
 . exact BB J S hr.hd hr.depth ac ae (Q0q _ (Q06 _ Q04)) (wL ks H' wk).2 (hb cl pm c' U) ry (he cl f c') (wt ks H' y wk hy)
 . obtain⟨ss,k1,k3⟩:=wf ks H' wk af;subst k1;exact⟨oA,_,HM rk,λp p1 p2 D hD=>k3 p p1 p2 D hD⟩
end
variable {P:Program}{w:World}{K:W.Frag}{mg:Str->Option Value}{base:Heap}
section
variable {X:Cx}
end
theorem km.uo {x qual:Str}{st:Stmt}{f c:Addr}{fd:FuncData}{N ps:List Str}{k:Nat}{sp:Sp}(F:km K x qual st f fd)(hc:fd.code=.ref c)(S:fk N ps (eR st))(len:∀vs H Q E,sp vs H Q E->vs.length=ps.length)
 (z:∀(A:Around) (outer:List Env) (s:Shared) (H:Hp) (vs:List V) (Q:VK) (E:XK),gi k (A.deeper (envOfC qual (eR st) s.heap.objs.size f (.ref c)))->sp vs H Q E->
   ∃t,je (eY er P w K mg base N qual (eR st) f (.ref c) A outer s H E).e_ (iA st) t/\t { nx:=λ_ H'=>Q .non H',rt:=Q } (start N vs) H):eh P w K mg base er (k+1) f fd ps sp:=by
 obtain⟨oc,od,kV,aa,pm,an,J,ct,ab,rfl,Y,L⟩:=F.ex;have hc:J=.ref c:=hc;subst hc;refine tO Y L S len λA outer s H vs Q E hr U=>?_;obtain⟨t,h,q⟩:=z A outer s H vs Q E hr U;exact⟨t,h.e_,q⟩
def rd (z:List Addr) (H:Hp):Prop:=∀b,H b=none\/(∃o xs,H b=some (.gT o (.lst xs)))\/(b∈z/\H b=some (.fO #[]))
theorem HP {P:Program}{w:World}{K:W.Frag}{mg mb:Str->Option Value}{CX:iV}{k:Nat}{fa a:Addr}{fd:FuncData}{x:Str}{sp:Sp}{J:Shared}{vs:List Value}{ns:List Int}{L:List (Addr × Addr)}
 (KX:K.In J.heap) (hT:W.TabsAt L J.heap) (ar:W.noTabs K=true) (au:BM mg J.heap) (aj:J.heap.Ns mainGlobals mg) (U:J.heap.Ns builtinsNs mb) (av:∀x:Str,x≠"__name__"->mb x=bootBuiltins x) (ao:J.heap.NoLimit) (hg:J.gens=#[])
 (ha:J.heap.get? a=some { cls:=.type "list",data:=.seq vs.toArray }) (hi:IntsAre vs ns) (hl:ns.length<=sizeLine) (hr:gi k callerA)
 (F:∀base:Heap,K.In base->base.Ns mainGlobals mg->BM mg base->eh P w K mg base CX k fa fd [x] sp) (ai:∀(s:Shared) (u:Value),BindsTo s fd ⟨[u],[]⟩ [(x,u)])
 (aw:∀H:Hp,rd (L.map (·.2)) H->(∀q∈L,H q.2=some (.fO #[]))->eF K H a (ns.map V.int)->sp [.ref a] H (λv _=>v=.bl true) λ_ _ _=>False)
 (ax:∀H e s',CX [] H J (λ_ _ _=>False) e s'->False):
 codeAny (model P w) callerA (.call (.ref fa) ⟨[.ref a],[]⟩) (λr s'=>r=.ok (.ret (.bool true))/\OldK J.heap s'.heap/\s'.os=J.os/\AllBare s'.gens) J:=by
 have rv:=Bd hi;have ap:=hi.length
 have aa:∀b,b∈L.map (·.2)->J.heap.get? b=some (W.tabObj #[]):=λb hm=>by
  obtain⟨q,hq,rfl⟩:=List.mem_map.mp hm;exact(hT q hq).2
 have ak:a ∉ L.map (·.2):=λhm=>by
  have:=aa a hm;rw[ha] at this;cases this
 have ag:∀H:Hp,rd (L.map (·.2)) H->(∀q∈L,H q.2=some (.fO #[]))->eF K H a (ns.map V.int)->gD P w H J.heap->(∀b,H b≠none->b=a\/b∈L.map (·.2))->(H a≠none->K.lookup a=none)->
  codeAny (model P w) callerA (.call (.ref fa) ⟨[.ref a],[]⟩) (λr s'=>r=.ok (.ret (.bool true))/\OldK J.heap s'.heap/\s'.os=J.os/\AllBare s'.gens) J:=by
  intro H hO al hS am hA hK;have Y:∀{b:Addr} {o:Obj},J.heap.get? b=some o->H b=none->(kM J.heap H).get? b=some o:=λe n=>Fb e n
  have ac:∀{b:Addr} {o:Obj},J.heap.get? b=some o->(∀us n,o.data≠ .seq us n)->(∀us,o.data≠ .fields us)->H b=none:=λ{b o} e d1 d2=>by
   cases q:H b with
   |none=>rfl
   |some u=>
    rcases hA b (by rw[q];simp) with e'|e'
    . subst e';rw[ha] at e;cases e;exact absurd rfl (d1 _ _)
    . rw[aa b e'] at e;cases e;exact absurd rfl (d2 _)
  have af:∀{b:Addr} {m:Str->Option Value},J.heap.Ns b m->(kM J.heap H).Ns b m:=λ{b m} ⟨o,es,ep,e,d,r⟩=>⟨o,es,ep,Y e (ac e (by rw[d];intro us n z;cases z) (by rw[d];intro us z;cases z)),d,r⟩
  have an:K.In (kM J.heap H):=λb o e=>Y (KX b o e) (by
   cases q:H b with
   |none=>rfl
   |some u=>
    rcases hA b (by rw[q];simp) with e'|e'
    . subst e';rw[hK (by rw[q];simp)] at e;cases e
    . have e2:=KX b o e;rw[aa b e'] at e2;cases e2;have:=List.all_eq_true.mp ar _ (W.mem_of_lookupK e);simp at this)
  have hM:Mod K mg (kM J.heap H):=⟨an,af aj,⟨mb,af U,av⟩,let⟨mc,h1,h2⟩:=ao;⟨mc,af h1,h2⟩⟩
  have ay:BM mg (kM J.heap H):=by
   obtain⟨bm,o,b1,b2,b3,b4,b5,b6,b7⟩:=au;exact⟨bm,o,b1,b2,b3,Y b4 (ac b4 (by rw[b7];intro us n z;cases z) (by rw[b7];intro us z;cases z)),b5,b6,b7⟩
  have e0:m_ P w K mg (kM J.heap H) callerA [] J H:=⟨rfl,hM,λb o e=>Fe e,Q1o (E_ _ _),trivial,λb U=>absurd (show b∈([]:List Addr) from U) (by simp),am,.of_eq hg⟩;refine codeAny_mono ((F _ an (af aj) ay).run callerA [] J H ⟨[.ref a],[]⟩ [.ref a] [.ref a] _ _ hr e0 (ai J (.ref a)) (.cons rfl .nil) (aw H hO al hS)) λr s' h=>?_
  cases r with
  |error e=>exact(ax H e s' h).elim
  |ok fl=>
   cases fl with
   |next=>exact False.elim h
   |brk=>exact False.elim h
   |cont=>exact False.elim h
   |ret u=>
    obtain⟨v,H',os,aq,un,ah,r',q⟩:=h;have q':v=.bl true:=q;subst q';obtain rfl:u=Value.bool true:=r'
    have ae:∀b,b∈L.map (·.2)->∃ps,s'.heap.get? b=some (W.tabObj ps):=λb hm=>by
     obtain⟨q,hq,rfl⟩:=List.mem_map.mp hm;obtain⟨az,e⟩:=un.jr _ _ (al q hq);exact⟨_,ah _ _ e⟩
    have keep:∀b o,b ∉ L.map (·.2)->J.heap.get? b=some o->s'.heap.get? b=some o:=λb o U e=>by
     cases q:H b with
     |none=>exact un.keep b o e q (by intro z;exact absurd (show b∈([]:List Addr) from z) (by simp)) (by simp)
     |some u=>
      rcases hO b with z|⟨ob,xs,z⟩|⟨z,_⟩
      . rw[q] at z;cases z
      . have z2:=un.jd b ob _ z;obtain⟨e1,_⟩:=am b _ z;obtain⟨e2,_⟩:=ah b _ z2;rw[e] at e1;cases e1;exact e2
      . exact absurd z U
    refine⟨rfl,⟨λb o e=>?_,λb o e=>?_⟩,os,aq⟩
    . by_cases U:b∈L.map (·.2)
      . obtain⟨ps,hP⟩:=ae b U;have e2:=aa b U;rw[e] at e2;cases e2;obtain⟨q,hq,rfl⟩:=List.mem_map.mp U;exact .inr (.inl ⟨((hT q hq).1.tab (hT q hq).2).isCodeTable,rfl,#[],ps,rfl,by rw[Q2u];exact hP⟩)
      . exact .inl (keep b o U e)
    . by_cases U:b∈L.map (·.2)
      . obtain⟨ps,hP⟩:=ae b U;exact⟨_,hP⟩
      . exact⟨o,keep b o U e⟩
 cases hk:K.lookup a with
 |some o=>
  have e:=KX a o hk;rw[ha] at e
  cases e;refine ag (λb=>if b∈L.map (·.2) then some (.fO #[]) else none) (λb=>?_) (λq hq=>if_pos (Q37 hq)) (.inr ⟨_,vs.toArray,_,hk,rfl,rfl,rfl,by rw[Q09,ap];exact hl,by simpa using rv⟩) (λb u z=>?_) (λb z=>?_) λz=>absurd (if_neg ak) z
  . by_cases U:b∈L.map (·.2)
    . exact .inr (.inr ⟨U,if_pos U⟩)
    . exact .inl (if_neg U)
  . by_cases U:b∈L.map (·.2)
    . have z':=(if_pos U).symm.trans z
      cases z';exact aa b U
    . have z':=(if_neg U).symm.trans z
      cases z'
  . by_cases U:b∈L.map (·.2)
    . exact .inr U
    . exact absurd (if_neg U) z
 |none=>
  refine ag (λb=>if b∈L.map (·.2) then some (.fO #[]) else if b=a then some (.gT { cls:=.type "list",data:=.seq vs.toArray } (.lst (ns.map V.int))) else none) (λb=>?_) (λq hq=>if_pos (Q37 hq))
   (.inl (.inr ⟨{ cls:=.type "list",data:=.seq vs.toArray },(if_neg ak).trans (if_pos rfl)⟩)) (λb u z=>?_) (λb z=>?_) λ_=>hk
  . by_cases U:b∈L.map (·.2)
    . exact .inr (.inr ⟨U,if_pos U⟩)
    . by_cases ab:b=a
      . exact .inr (.inl ⟨_,_,(if_neg U).trans (if_pos ab)⟩)
      . exact .inl ((if_neg U).trans (if_neg ab))
  . by_cases U:b∈L.map (·.2)
    . have z':=(if_pos U).symm.trans z
      cases z';exact aa b U
    . have z:=(if_neg U).symm.trans z;by_cases ab:b=a
      . have z':=(if_pos ab).symm.trans z
        cases z';subst ab;exact⟨ha,by rw[Q02];exact hl,vs,_,rv,ha⟩
      . have z':=(if_neg ab).symm.trans z
        cases z'
  . by_cases U:b∈L.map (·.2)
    . exact .inr U
    . by_cases ab:b=a
      . exact .inl ab
      . exact absurd ((if_neg U).trans (if_neg ab)) z
theorem HQ {l:W.OpenLaw}{n k:Nat}{q:Program}{loose:List Str}{XP:(Str->Option Value)->Heap->Prop}{YP:World->Heap->Prop}{d:DefRec}{K:Params->W.Frag}{sp:World->List (Addr × Addr)->Sp}{x:Str}{names:List Str}
 (hn:l.most=some n) (ae:n<=sizeLine) (af:d.params.defaults=[]) (hr:gi k callerA)
 (hY:∀(w:World) (h:Heap),YP w h->(K w.params).In h) (ag:∀w:World,W.noTabs (K w.params)=true)
 (tb:∀w:World,∃J:List (Addr × Addr),(∀q'∈J,∃y∈names,W.tabIn (K w.params) y=some q')/\
   (∀(mg:Str->Option Value) (fa:Addr) (h:Heap),(K w.params).In h->h.Ns mainGlobals mg->mg d.name=some (.ref fa)->
   ∃fd:FuncData,(∀(s:Shared) (u:Value),BindsTo s fd ⟨[u],[]⟩ [(x,u)])/\
    ∀base:Heap,(K w.params).In base->base.Ns mainGlobals mg->BM mg base->eh l.prog w (K w.params) mg base er k fa fd [x] (sp w J)))
 (ab:∀y∈names,∃d',(recsOf q).find? (λe=>e.name == y)=some d')
 (ah:∀(w:World) (J:List (Addr × Addr)) (H:Hp) (a:Addr) (ns:List Int),ns.length<=n->rd (J.map (·.2)) H->(∀q∈J,H q.2=some (.fO #[]))->eF (K w.params) H a (ns.map V.int)->sp w J [.ref a] H (λv _=>v=.bl true) λ_ _ _=>False):
 W.WalkO q loose XP YP l.row.toRowW d [] (λf vs=>PySem.call f vs):=by
 refine Bc.GQ hn af λw s₀ L mg mb fa o pm cd am a vs ns G Y ho hd an ai ac aa U hg=>?_;have KX:=hY w _ Y;obtain⟨J,ht,F⟩:=tb w;obtain⟨fd,hb,hF⟩:=F mg fa _ KX G.T.g ai
 have hT:W.TabsAt J L.heap:=λq' hq=>by
  obtain⟨y,hy,aj⟩:=ht q' hq;obtain⟨d',ak⟩:=ab y hy;exact W.tab_of G.T KX ak aj
 have al:BM mg L.heap:=by
  obtain⟨bm,ob,b1,b2,b3,b4,b5,b6⟩:=G.T.bmain;refine⟨bm,ob,b1,b2,λz=>?_,b3,b4,b5,b6⟩;obtain⟨o',es,ep,e,hd,_⟩:=G.T.g;rw[z,e] at b3;cases b3;rw[hd] at b6;cases b6
 exact HP KX hT (ag w) al G.T.g G.T.b G.T.builtins G.T.nolimit hg ac aa (Q05 U ae) hr hF hb (λH hO hP hS=>ah w J H a ns U hO hP hS) λH e s' h=>h.elim
end L2
namespace Pb
open L2 PyProof.Rows
mutual
inductive Kd where
 |num
 |gQ
 |fx (fs:Fs)
 |rows (key by_:Str) (fs:Fs)
 |tree (k:Kd)
 |ip (fs:Fs)
inductive Fs where
 |nil
 |cons (x:Str) (k:Kd) (r:Fs)
end
mutual
inductive D where
 |int (z:Int)
 |str (x:Str)
 |tup (xs:Ds)
 |lst (xs:Ds)
 |dct (m:Ds)
inductive Ds where
 |nil
 |cons (x:Str) (d:D) (r:Ds)
end
mutual
noncomputable def Kd.dep:Kd->Nat
 | .num=>1
 | .gQ=>1
 | .fx fs=>fs.dep+1
 | .rows _ _ fs=>fs.dep+1
 | .tree k=>k.dep+1
 | .ip fs=>fs.dep+1
noncomputable def Fs.dep:Fs->Nat
 | .nil=>0
 | .cons _ k r=>max k.dep r.dep
end
mutual
noncomputable def D.dep:D->Nat
 | .int _=>1
 | .str _=>1
 | .tup xs=>xs.dep+1
 | .lst xs=>xs.dep+1
 | .dct m=>m.dep+1
noncomputable def Ds.dep:Ds->Nat
 | .nil=>0
 | .cons _ d r=>max d.dep r.dep
end
theorem Kd.lM (k:Kd):1<=k.dep:=by cases k <;> simp[Kd.dep]
theorem D.lM (d:D):1<=d.dep:=by cases d <;> simp[D.dep]
noncomputable def Fs.names:Fs->List Str
 | .nil=>[]
 | .cons x _ r=>x::r.names
noncomputable def Fs.get:Fs->Str->Option Kd
 | .nil,_=>none
 | .cons y k r,x=>if x=y then some k else r.get x
noncomputable def Fs.at:Fs->Nat->Option (Str × Kd)
 | .nil,_=>none
 | .cons x k _,0=>some (x,k)
 | .cons _ _ r,i+1=>r.at i
noncomputable def Fs.snoc:Fs->Str->Kd->Fs
 | .nil,x,k=>.cons x k .nil
 | .cons y q r,x,k=>.cons y q (r.snoc x k)
noncomputable def Fs.take:Fs->Nat->Fs
 | .nil,_=>.nil
 | .cons _ _ _,0=>.nil
 | .cons x k r,i+1=>.cons x k (r.take i)
theorem Fs.uq:∀(fs:Fs) (x:Str) (k:Kd),(fs.snoc x k).names=fs.names++[x]
 | .nil,_,_=>rfl
 | .cons y q r,x,k=>by
   show y::(r.snoc x k).names=_;rw[Fs.uq r x k];rfl
theorem Fs.ur:∀(fs:Fs) (x:Str) (k:Kd),(fs.snoc x k).dep=max fs.dep k.dep
 | .nil,_,k=>by simp[Fs.snoc,Fs.dep]
 | .cons y q r,x,k=>by
   show max q.dep (r.snoc x k).dep=max (max q.dep r.dep) k.dep;rw[Fs.ur r x k,Nat.max_assoc]
theorem Fs.iI:∀(fs:Fs) (i:Nat),fs.names[i]? =(fs.at i).map (·.1)
 | .nil,i=>by simp[Fs.names,Fs.at]
 | .cons x k r,0=>by simp[Fs.names,Fs.at]
 | .cons x k r,i+1=>by
   show(x::r.names)[i+1]? =_;rw[List.getElem?_cons_succ,Fs.iI r i];rfl
theorem Fs.BU:∀{fs:Fs}{i:Nat},i<fs.names.length->∃x k,fs.at i=some (x,k)
 | .nil,i,h=>by simp[Fs.names] at h
 | .cons x k r,0,h=>⟨x,k,rfl⟩
 | .cons x k r,i+1,h=>Fs.BU (fs:=r) (i:=i) (by simpa[Fs.names] using h)
theorem Fs.nz:∀{fs:Fs}{i:Nat}{x:Str}{k:Kd},fs.at i=some (x,k)->k.dep<=fs.dep
 | .nil,_,_,_,h=>by cases h
 | .cons x k r,0,_,_,h=>by
   cases h;exact Q1v _ _
 | .cons x k r,i+1,_,_,h=>Q05 (Fs.nz (fs:=r) (i:=i) h) (Q1w _ _)
theorem Fs.kU:∀{fs:Fs}{i:Nat}{x:Str}{k:Kd},fs.names.Nodup->fs.at i=some (x,k)->fs.get x=some k
 | .nil,_,_,_,_,h=>by cases h
 | .cons y q r,0,x,k,_,h=>by
   cases h;simp[Fs.get]
 | .cons y q r,i+1,x,k,z,h=>by
   have z:(y::r.names).Nodup:=z;obtain⟨J,L⟩:=List.nodup_cons.mp z;have h:r.at i=some (x,k):=h;have U:x∈r.names:=Q0u (i:=i) (by rw[Fs.iI,h];rfl);show(if x=y then some q else r.get x)=some k;rw[if_neg (λe=>J (by rw[<-e];exact U))];exact Fs.kU L h
theorem Fs.take_succ:∀{fs:Fs}{i:Nat}{x:Str}{k:Kd},fs.at i=some (x,k)->fs.take (i+1)=(fs.take i).snoc x k
 | .nil,_,_,_,h=>by cases h
 | .cons y q r,0,x,k,h=>by
   cases h
   cases r <;> rfl
 | .cons y q r,i+1,x,k,h=>by
   show Fs.cons y q (r.take (i+1))=Fs.cons y q ((r.take i).snoc x k);rw[Fs.take_succ (fs:=r) (i:=i) h]
theorem Fs.take_zero (fs:Fs):fs.take 0=.nil:=by cases fs <;> rfl
theorem Fs.take_all:∀(fs:Fs),fs.take fs.names.length=fs
 | .nil=>rfl
 | .cons x k r=>by
   show Fs.cons x k (r.take r.names.length)=_;rw[Fs.take_all r]
def oG:Kd->Prop
 | .num=>True
 | .gQ=>True
 |_=>False
def Fs.pl (fs:Fs) (x:Str):Prop:=∃k,fs.get x=some k/\oG k
mutual
def Kd.W:Kd->Prop
 | .num=>True
 | .gQ=>True
 | .fx fs=>fs.names.Nodup/\fs.names.length<=12/\fs.W
 | .rows key z fs=>fs.names.Nodup/\fs.names.length<=12/\fs.W/\fs.pl key/\(z=""\/fs.pl z)
 | .tree k=>k.W
 | .ip fs=>fs.names.Nodup/\fs.names.length<=12/\1<=fs.names.length/\fs.W
def Fs.W:Fs->Prop
 | .nil=>True
 | .cons _ k r=>k.W/\r.W
end
theorem Fs.nE:∀{fs:Fs}{i:Nat}{x:Str}{k:Kd},fs.W->fs.at i=some (x,k)->k.W
 | .nil,_,_,_,_,h=>by cases h
 | .cons x k r,0,_,_,w,h=>by
   unfold Fs.W at w
   cases h;exact w.1
 | .cons x k r,i+1,_,_,w,h=>by
   unfold Fs.W at w;exact Fs.nE (fs:=r) (i:=i) w.2 h
theorem Fs.uu {x:Str}{k:Kd}(hk:k.W):∀{fs:Fs},fs.W->(fs.snoc x k).W
 | .nil,_=>by
   show(Fs.cons x k .nil).W;unfold Fs.W;exact⟨hk,by unfold Fs.W;trivial⟩
 | .cons y q r,h=>by
   unfold Fs.W at h;show(Fs.cons y q (r.snoc x k)).W;unfold Fs.W;exact⟨h.1,Fs.uu hk h.2⟩
noncomputable def Ds.get:Ds->Str->Option D
 | .nil,_=>none
 | .cons y d r,x=>if x=y then some d else r.get x
noncomputable def keyOf (m:Ds) (x:Str):Key:=match m.get x with
 |some (.int z)=>.inl z
 |some (.str s)=>.inr s
 |_=>.inl 0
noncomputable def rankOf (key z:Str) (m:Ds):List Key:=if z="" then [keyOf m key] else [keyOf m z,keyOf m key]
theorem HS {key z:Str}{a b:Ds}(h:rankOf key z a=rankOf key z b):keyOf a key=keyOf b key:=by
 unfold rankOf at h;split at h
 . exact(List.cons.inj h).1
 . exact(List.cons.inj (List.cons.inj h).2).1
def pW (key z:Str) (a b:Ds):Prop:=fY (rankOf key z a) (rankOf key z b)=true
def nF (key z:Str) (a b:Ds):Prop:=j1 (rankOf key z a) (rankOf key z b)
noncomputable def ins (key z:Str) (m:Ds):List Ds->List Ds
 |[]=>[m]
 |y::q=>if fY (rankOf key z y) (rankOf key z m)=true then y::ins key z m q else m::y::q
noncomputable def mq (key z:Str):List Ds->List Ds
 |[]=>[]
 |m::r=>ins key z m (mq key z r)
theorem uv (key z:Str)(m:Ds):∀l:List Ds,(ins key z m l).Perm (m::l)
 |[]=>List.Perm.refl _
 |y::q=>by
  unfold ins;split
  . exact((uv key z m q).cons y).trans (List.Perm.swap m y q)
  . exact List.Perm.refl _
theorem lN (key z:Str):∀l:List Ds,(mq key z l).Perm l
 |[]=>List.Perm.refl _
 |m::r=>(uv key z m _).trans ((lN key z r).cons m)
theorem HU {a b:List Key}(h:fY a b=true):j1 a b:=KeyOrd.kle_of_klt (O:=oA) h
theorem HV {a b c:List Key}(h1:j1 a b)(h2:j1 b c):j1 a c:=KeyOrd.kle_trans (O:=oA) h1 h2
theorem BV (key J:Str)(m:Ds):∀{l:List Ds},l.Pairwise (nF key J)->(ins key J m l).Pairwise (nF key J)
 |[],_=>Q22 _ _
 |y::q,h=>by
  obtain⟨h1,h2⟩:=List.pairwise_cons.mp h;unfold ins;by_cases c:fY (rankOf key J y) (rankOf key J m)=true
  . rw[if_pos c];refine List.pairwise_cons.mpr ⟨λz L=>?_,BV key J m h2⟩;rcases List.mem_cons.mp ((uv key J m q).mem_iff.mp L) with e|e
    . rw[e];exact HU c
    . exact h1 z e
  . rw[if_neg c];have c':nF key J m y:=by unfold nF j1;simpa using c
    refine List.pairwise_cons.mpr ⟨λz L=>?_,h⟩;rcases List.mem_cons.mp L with e|e
    . rw[e];exact c'
    . exact HV c' (h1 z e)
theorem uw (key z:Str):∀l:List Ds,(mq key z l).Pairwise (nF key z)
 |[]=>List.Pairwise.nil
 |m::r=>BV key z m (uw key z r)
theorem ux {key z:Str}{l:List Ds}(h:l.Pairwise (nF key z))(L:(l.map λm=>keyOf m key).Nodup):l.Pairwise (pW key z):=by
 have J:l.Pairwise λa b=>keyOf a key≠keyOf b key:=List.pairwise_map.mp L;refine(h.and J).imp λ{a b} ⟨h1,h2⟩=>?_;rcases pT (rankOf key z a) (rankOf key z b) with q|q|q
 . exact q
 . exact absurd (HS q) h2
 . have h1:fY (rankOf key z b) (rankOf key z a)=false:=h1;rw[h1] at q;cases q
theorem BW {key J:Str}:∀{U L:List Ds},U.Perm L->U.Pairwise (pW key J)->L.Pairwise (pW key J)->U=L
 |[],L,p,_,_=>by rw[p.nil_eq]
 |a::r,[],p,_,_=>absurd p.length_eq (by simp)
 |a::r,b::q,p,h1,h2=>by
  obtain⟨a1,a2⟩:=List.pairwise_cons.mp h1;obtain⟨b1,b2⟩:=List.pairwise_cons.mp h2
  have e:a=b:=by
   have ha:a∈b::q:=p.mem_iff.mp Q04;have hb:b∈a::r:=p.mem_iff.mpr Q04;rcases List.mem_cons.mp ha with e|e
   . exact e
   . rcases List.mem_cons.mp hb with Y|Y
     . exact Y.symm
     . have z:=oz _ _ _ (a1 b Y) (b1 a e);rw[rb] at z;cases z
  subst e;rw[BW ((Q38 a).mp p) a2 b2]
theorem HW {key J:Str}{l z:List Ds}(p:z.Perm l)(h:z.Pairwise (nF key J))(L:(l.map λm=>keyOf m key).Nodup):z=mq key J l:=
 BW (p.trans (lN key J l).symm) (ux h ((p.map _).nodup_iff.mpr L)) (ux (uw key J l) (((lN key J l).map _).nodup_iff.mpr L))
noncomputable def iq:List Ds->Ds
 |[]=>.nil
 |m::r=>.cons "" (.dct m) (iq r)
noncomputable abbrev pairD (a b:D):D:=.tup (.cons "" a (.cons "" b .nil))
mutual
def Tree (P:D->Prop):D->Prop
 | .tup xs=>kx P xs
 |_=>False
def kx (P:D->Prop):Ds->Prop
 | .cons _ t (.cons _ (.lst as) .nil)=>P t/\jH P as
 |_=>False
def jH (P:D->Prop):Ds->Prop
 | .nil=>True
 | .cons _ d r=>Tree P d/\jH P r
end
mutual
def fZ:Kd->D->Prop
 | .num,d=>∃z,d=.int z
 | .gQ,d=>∃x,d=.str x
 | .fx fs,d=>∃m,d=.dct m/\gI fs m
 | .rows key L fs,d=>∃J:List Ds,d=.lst (iq J)/\(∀m∈J,gI fs m)/\J.Pairwise (pW key L)/\(J.map λm=>keyOf m key).Nodup
 | .tree k,d=>Tree (fZ k) d
 | .ip fs,d=>∃x v,d=pairD (.str x) v/\j2 fs x v
def gI:Fs->Ds->Prop
 | .nil,m=>m=.nil
 | .cons x k r,m=>∃d q,m=.cons x d q/\fZ k d/\gI r q
def j2:Fs->Str->D->Prop
 | .nil,_,_=>False
 | .cons y k r,x,v=>(x=y/\fZ k v)\/(x≠y/\j2 r x v)
end
theorem Tree.shape {P:D->Prop}:∀{d:D},Tree P d->∃x y t as,d=.tup (.cons x t (.cons y (.lst as) .nil))/\P t/\jH P as
 | .tup (.cons x t (.cons y (.lst as) .nil)),h=>by
   unfold Tree kx at h;exact⟨x,y,t,as,rfl,h.1,h.2⟩
 | .tup .nil,h=>by unfold Tree kx at h;exact h.elim
 | .tup (.cons _ _ .nil),h=>by unfold Tree kx at h;exact h.elim
 | .tup (.cons _ _ (.cons _ (.int _) _)),h=>by unfold Tree kx at h;exact h.elim
 | .tup (.cons _ _ (.cons _ (.str _) _)),h=>by unfold Tree kx at h;exact h.elim
 | .tup (.cons _ _ (.cons _ (.tup _) _)),h=>by unfold Tree kx at h;exact h.elim
 | .tup (.cons _ _ (.cons _ (.dct _) _)),h=>by unfold Tree kx at h;exact h.elim
 | .tup (.cons _ _ (.cons _ (.lst _) (.cons _ _ _))),h=>by unfold Tree kx at h;exact h.elim
 | .int _,h=>by unfold Tree at h;exact h.elim
 | .str _,h=>by unfold Tree at h;exact h.elim
 | .lst _,h=>by unfold Tree at h;exact h.elim
 | .dct _,h=>by unfold Tree at h;exact h.elim
theorem gI.get:∀{fs:Fs}{m:Ds}{x:Str}{k:Kd},gI fs m->fs.get x=some k->∃d,m.get x=some d/\fZ k d
 | .nil,_,_,_,_,h=>by cases h
 | .cons y q r,m,x,k,f,h=>by
   unfold gI at f;obtain⟨d,t,rfl,z,J⟩:=f;have h:(if x=y then some q else r.get x)=some k:=h;by_cases e:x=y
   . rw[if_pos e] at h
     cases h;exact⟨d,by show(if x=y then some d else t.get x)=_;rw[if_pos e],z⟩
   . rw[if_neg e] at h;obtain⟨d',L,U⟩:=gI.get J h;exact⟨d',by show(if x=y then some d else t.get x)=_;rw[if_neg e];exact L,U⟩
theorem gI.plain {fs:Fs}{m:Ds}{x:Str}(f:gI fs m)(h:fs.pl x):(m.get x=some (.int 0)\/True)/\((∃z,m.get x=some (.int z)/\keyOf m x=.inl z/\fs.get x=some .num)\/∃s,m.get x=some (.str s)/\keyOf m x=.inr s/\fs.get x=some .gQ):=by
 refine⟨.inr trivial,?_⟩;obtain⟨k,h1,h2⟩:=h;obtain⟨d,J,L⟩:=f.get h1
 cases k with
 |num=>
  unfold fZ at L;obtain⟨z,rfl⟩:=L;exact .inl ⟨z,J,by unfold keyOf;rw[J],h1⟩
 |gQ=>
  unfold fZ at L;obtain⟨s,rfl⟩:=L;exact .inr ⟨s,J,by unfold keyOf;rw[J],h1⟩
 |fx _=>exact h2.elim
 |rows _ _ _=>exact h2.elim
 |tree _=>exact h2.elim
 |ip _=>exact h2.elim
theorem BX:∀{fs:Fs}{x:Str}{v:D},j2 fs x v->x∈fs.names
 | .nil,_,_,h=>by unfold j2 at h;exact h.elim
 | .cons y k r,x,v,h=>by
   unfold j2 at h;rcases h with⟨e,_⟩|⟨_,h⟩
   . rw[e];exact Q04
   . exact Q0e _ (BX h)
noncomputable def nG:Option Kd->Bool
 |some .num=>true
 |_=>false
theorem gI.tag {fs:Fs}{m:Ds}{x:Str}(f:gI fs m)(h:fs.pl x):hU (keyOf m x)=nG (fs.get x):=by
 rcases(f.plain h).2 with⟨z,_,e,g⟩|⟨s,_,e,g⟩ <;> rw[e,g] <;> rfl
theorem uy {fs:Fs}{key J:Str}{m:Ds}(f:gI fs m)(h1:fs.pl key)(h2:J=""\/fs.pl J):(rankOf key J m).map hU=if J="" then [nG (fs.get key)] else [nG (fs.get J),nG (fs.get key)]:=by
 unfold rankOf;split
 . show [hU (keyOf m key)]=_;rw[f.tag h1]
 . rename_i e;rcases h2 with z|z
   . exact absurd z e
   . show [hU (keyOf m J),hU (keyOf m key)]=_;rw[f.tag h1,f.tag z]
noncomputable def cellAt (ns:List Int) (n:Int):Int:=if 0<ns.length then ns.getD (n % (ns.length:Int)).toNat 0 else 0
noncomputable def nx (ns:List Int) (n:Int):Int:=
 ((cellAt ns n % 2147483647+n * n * 7919+11) * 48271 % 2147483647) * ((cellAt ns n % 2147483647+n * n * 7919+11) * 48271 % 2147483647) % 1999999973
theorem uz (ns:List Int)(n:Int):0<=nx ns n:=Q0l _ (by decide)
theorem uA (ns:List Int)(n:Int):nx ns n<1999999973:=Q0o _ (by decide)
noncomputable def num (ns:List Int) (n:Int):Int:=
 if nx ns n % 3=0 then nx ns n / 3 % 7 - 3 else(cellAt ns n % 10 ^ 40+nx ns n * 10 ^ 29) % (2 * 10 ^ 40) - 10 ^ 40
noncomputable def j3:Str:=" !#$&'()*+,-./0123456789:;<=>?@ABCDEFGHIJKLMNOPQRSTUVWXYZ"++"[\\]^_`abcdefghijklmnopqrstuvwxyz{|}~"
noncomputable def oH (m:Int):Nat->Str
 |0=>""
 |k+1=>oH m k++⟨#[(j3.cps.toList.getD ((m / 145+(k:Int) * (k:Int) * (m / 7 % 3)) % 93).toNat 0)]⟩
noncomputable def gQ (ns:List Int) (n:Int):Str:=oH (nx ns n) (if nx ns n / 5 % 29=0 then 40 else(nx ns n % 5).toNat)
noncomputable def times (g:Int->D × Int):Nat->Int->Ds × Int
 |0,n=>(.nil,n)
 |m+1,n=>(.cons "" (g n).1 (times g m (g n).2).1,(times g m (g n).2).2)
noncomputable def gW (ns:List Int) (f:Nat->Int->D × Int):Nat->Nat->Int->D × Int
 |0,_,n=>(.int 0,n)
 |fu+1,z,n=>
  (pairD (f (z / 2) n).1 (.lst (times (gW ns f fu (z / 2)) (nx ns ((f (z / 2) n).2+1) % ((z:Int)+1)).toNat ((f (z / 2) n).2+1)).1),
    (times (gW ns f fu (z / 2)) (nx ns ((f (z / 2) n).2+1) % ((z:Int)+1)).toNat ((f (z / 2) n).2+1)).2)
noncomputable def mr (key:Str) (l:List Ds) (k:Key):Bool:=l.any λr=>decide (keyOf r key=k)
noncomputable def gh (g:Int->Ds × Int) (key:Str):Nat->List Ds->Int->List Ds × Int
 |0,z,n=>(z,n)
 |m+1,z,n=>if mr key z (keyOf (g n).1 key)=true then gh g key m z (g n).2 else gh g key m (z++[(g n).1]) (g n).2
mutual
noncomputable def val (ns:List Int):Kd->Nat->Int->D × Int
 | .num,_,n=>(.int (num ns (n+1)),n+1)
 | .gQ,_,n=>(.str (gQ ns (n+1)),n+1)
 | .fx fs,z,n=>(.dct (fm ns fs z n).1,(fm ns fs z n).2)
 | .rows key J fs,z,n=>
   (.lst (iq (mq key J (gh (fm ns fs (z / 2)) key (nx ns (n+1) % ((z:Int)+1)).toNat [] (n+1)).1)),(gh (fm ns fs (z / 2)) key (nx ns (n+1) % ((z:Int)+1)).toNat [] (n+1)).2)
 | .tree k,z,n=>gW ns (val ns k) 4 z n
 | .ip fs,z,n=>iJ ns fs (nx ns (n+1) % (fs.names.length:Int)).toNat z (n+1)
noncomputable def fm (ns:List Int):Fs->Nat->Int->Ds × Int
 | .nil,_,n=>(.nil,n)
 | .cons x k r,z,n=>(.cons x (val ns k z n).1 (fm ns r z (val ns k z n).2).1,(fm ns r z (val ns k z n).2).2)
noncomputable def iJ (ns:List Int):Fs->Nat->Nat->Int->D × Int
 | .nil,_,_,n=>(.int 0,n)
 | .cons x k _,0,z,n=>(pairD (.str x) (val ns k z n).1,(val ns k z n).2)
 | .cons _ _ r,i+1,z,n=>iJ ns r i z n
end
theorem rf {g:Int->Ds × Int}{key:Str}:∀(m:Nat) (z:List Ds) (n:Int),(z.map λr=>keyOf r key).Nodup->((gh g key m z n).1.map λr=>keyOf r key).Nodup
 |0,_,_,h=>h
 |m+1,z,n,h=>by
  unfold gh;split
  . exact rf m z _ h
  . rename_i c;refine rf m _ _ ?_;rw[Q0h];refine List.nodup_append.mpr ⟨h,by simp,λa J b L=>?_⟩;have:b=keyOf (g n).1 key:=by simpa using L
    rw[this];obtain⟨r,U,e⟩:=List.mem_map.mp J;exact λY=>c (List.any_eq_true.mpr ⟨r,U,decide_eq_true (e.trans Y)⟩)
theorem oJ {g:Int->Ds × Int}{key:Str}{R:Ds->Prop}(J:∀n,R (g n).1):∀(m:Nat) (z:List Ds) (n:Int),(∀r∈z,R r)->∀r∈(gh g key m z n).1,R r
 |0,_,_,h=>h
 |m+1,z,n,h=>by
  unfold gh;split
  . exact oJ J m z _ h
  . refine oJ J m _ _ λr L=>?_;rcases List.mem_append.mp L with q|q
    . exact h r q
    . have:r=(g n).1:=by simpa using q
      rw[this];exact J n
theorem BY {P:D->Prop}{g:Int->D × Int}(z:∀n,Tree P (g n).1):∀(m:Nat) (n:Int),jH P (times g m n).1
 |0,_=>by unfold times jH;trivial
 |m+1,n=>by
  unfold times jH;exact⟨z n,BY z m _⟩
theorem BZ {ns:List Int}{P:D->Prop}{f:Nat->Int->D × Int}(J:∀z n,z<8->P (f z n).1):∀(fu z:Nat) (n:Int),z<8->z<2 ^ fu->Tree P (gW ns f (fu+1) z n).1
 |0,z,n,_,h=>by
  have e:z=0:=by simpa using h
  subst e;unfold gW
  have L:(nx ns ((f (0 / 2) n).2+1) % (((0:Nat):Int)+1)).toNat=0:=by
   have:nx ns ((f (0 / 2) n).2+1) % (((0:Nat):Int)+1)=0:=by
    show _ % (1:Int)=0;exact Int.emod_one _
   rw[this];rfl
  rw[L];unfold Tree kx;exact⟨J _ _ (by decide),by unfold times jH;trivial⟩
 |fu+1,z,n,Y,h=>by
  have U:=λm=>BZ (ns:=ns) J fu (z / 2) m (by omega) (by rw[Nat.pow_succ] at h;omega);unfold gW;unfold Tree kx;exact⟨J _ _ (by omega),BY U _ _⟩
mutual
theorem pX (ns:List Int):∀(k:Kd),k.W->∀(z:Nat) (n:Int),z<8->fZ k (val ns k z n).1
 | .num,_,z,n,_=>by unfold val fZ;exact⟨_,rfl⟩
 | .gQ,_,z,n,_=>by unfold val fZ;exact⟨_,rfl⟩
 | .fx fs,w,z,n,h=>by
   unfold Kd.W at w;unfold val fZ;exact⟨_,rfl,pY ns fs w.2.2 z n h⟩
 | .rows key J fs,w,z,n,h=>by
   unfold Kd.W at w;unfold val fZ;have L:=rf (g:=fm ns fs (z / 2)) (key:=key) (nx ns (n+1) % ((z:Int)+1)).toNat [] (n+1) Q15;refine⟨_,rfl,λm U=>?_,?_,?_⟩
   . exact oJ (R:=gI fs) (λn=>pY ns fs w.2.2.1 (z / 2) n (by omega)) _ _ _ (λr Y=>absurd Y (by simp)) m ((lN key J _).mem_iff.mp U)
   . exact ux (uw key J _) (((lN key J _).map _).nodup_iff.mpr L)
   . exact((lN key J _).map _).nodup_iff.mpr L
 | .tree k,w,z,n,h=>by
   unfold Kd.W at w;unfold val fZ;exact BZ (λz n h=>pX ns k w z n h) 3 z n h (by simpa using h)
 | .ip fs,w,z,n,h=>by
   unfold Kd.W at w;unfold val fZ
   have hl:(nx ns (n+1) % (fs.names.length:Int)).toNat<fs.names.length:=by
    have:=Q0o (nx ns (n+1)) (show(0:Int)<fs.names.length by omega);have:=Q0l (nx ns (n+1)) (show(fs.names.length:Int)≠0 by omega);omega
   exact B0 ns fs w.2.2.2 w.1 _ z _ h hl
theorem pY (ns:List Int):∀(fs:Fs),fs.W->∀(z:Nat) (n:Int),z<8->gI fs (fm ns fs z n).1
 | .nil,_,_,_,_=>by unfold fm gI;rfl
 | .cons x k r,w,z,n,h=>by
   unfold Fs.W at w;unfold fm gI;exact⟨_,_,rfl,pX ns k w.1 z n h,pY ns r w.2 z _ h⟩
theorem B0 (ns:List Int):∀(fs:Fs),fs.W->fs.names.Nodup->∀(i J:Nat) (n:Int),J<8->i<fs.names.length->∃x v,(iJ ns fs i J n).1=pairD (.str x) v/\j2 fs x v
 | .nil,_,_,i,_,_,_,hi=>by simp[Fs.names] at hi
 | .cons x k r,w,L,0,J,n,h,hi=>by
   unfold Fs.W at w;unfold iJ;exact⟨x,_,rfl,by unfold j2;exact .inl ⟨rfl,pX ns k w.1 J n h⟩⟩
 | .cons x k r,w,L,i+1,J,n,h,hi=>by
   unfold Fs.W at w;unfold iJ;have L:(x::r.names).Nodup:=L;obtain⟨U,Y⟩:=List.nodup_cons.mp L;obtain⟨y,v,e,f⟩:=B0 ns r w.2 Y i J n h (by simpa[Fs.names] using hi);refine⟨y,v,e,?_⟩;unfold j2;exact .inr ⟨λz=>U (by rw[<-z];exact BX f),f⟩
end
mutual
noncomputable def Kd.dB:Kd->Nat
 | .num=>1
 | .gQ=>1
 | .fx fs=>fs.dB+1
 | .rows _ _ fs=>fs.dB+2
 | .tree k=>k.dB+10
 | .ip fs=>fs.dB+2
noncomputable def Fs.dB:Fs->Nat
 | .nil=>0
 | .cons _ k r=>max k.dB r.dB
end
mutual
noncomputable def Kd.cB:Kd->Nat
 | .num=>1
 | .gQ=>1
 | .fx fs=>fs.cB
 | .rows _ _ fs=>8 * fs.cB+1
 | .tree k=>(k.cB+1) * 585
 | .ip fs=>fs.cB+1
noncomputable def Fs.cB:Fs->Nat
 | .nil=>0
 | .cons _ k r=>k.cB+r.cB
end
theorem B1:∀{l:List Ds}{n:Nat},(∀m∈l,m.dep<=n)->(iq l).dep<=n+1
 |[],n,_=>by simp[iq,Ds.dep]
 |m::r,n,h=>by
  have h1:=h m Q04;have h2:=B1 (l:=r) (n:=n) λx z=>h x (Q0e _ z);simp only[iq,Ds.dep,D.dep];omega
theorem B2 {g:Int->D × Int}{N:Nat}(z:∀n,(g n).1.dep<=N):∀(m:Nat) (n:Int),(times g m n).1.dep<=N
 |0,_=>by simp[times,Ds.dep]
 |m+1,n=>by
  have h1:=z n;have h2:=B2 z m (g n).2;simp only[times,Ds.dep];omega
theorem B3 {ns:List Int}{f:Nat->Int->D × Int}{N:Nat}(h1:1<=N)(J:∀z n,(f z n).1.dep<=N):∀(fu z:Nat) (n:Int),(gW ns f fu z n).1.dep<=N+2 * fu
 |0,_,_=>by simp[gW,D.dep];omega
 |fu+1,z,n=>by
  have a:=J (z / 2) n;have b:=B2 (g:=gW ns f fu (z / 2)) (N:=N+2 * fu) (λn=>B3 h1 J fu (z / 2) n) (nx ns ((f (z / 2) n).2+1) % ((z:Int)+1)).toNat ((f (z / 2) n).2+1);simp only[gW,D.dep,Ds.dep];omega
theorem Kd.HX (k:Kd):1<=k.dB:=by cases k <;> simp[Kd.dB]
mutual
theorem rg (ns:List Int):∀(k:Kd) (z:Nat) (n:Int),(val ns k z n).1.dep<=k.dB
 | .num,_,_=>by simp[val,D.dep,Kd.dB]
 | .gQ,_,_=>by simp[val,D.dep,Kd.dB]
 | .fx fs,z,n=>by
   have:=uB ns fs z n;simp only[val,D.dep,Kd.dB];omega
 | .rows key J fs,z,n=>by
   have:=B1 (l:=mq key J (gh (fm ns fs (z / 2)) key (nx ns (n+1) % ((z:Int)+1)).toNat [] (n+1)).1) (n:=fs.dB) λm L=>
    oJ (R:=λm=>m.dep<=fs.dB) (λn=>uB ns fs (z / 2) n) _ _ _ (λr U=>absurd U (by simp)) m ((lN key J _).mem_iff.mp L)
   simp only[val,D.dep,Kd.dB];omega
 | .tree k,z,n=>by
   have:=B3 (ns:=ns) (f:=val ns k) k.HX (λz n=>rg ns k z n) 4 z n;simp only[val,Kd.dB];omega
 | .ip fs,z,n=>by
   have:=B4 ns fs (nx ns (n+1) % (fs.names.length:Int)).toNat z (n+1);simp only[val,Kd.dB];omega
theorem uB (ns:List Int):∀(fs:Fs) (z:Nat) (n:Int),(fm ns fs z n).1.dep<=fs.dB
 | .nil,_,_=>by simp[fm,Ds.dep]
 | .cons x k r,z,n=>by
   have a:=rg ns k z n;have b:=uB ns r z (val ns k z n).2;simp only[fm,Ds.dep,Fs.dB];omega
theorem B4 (ns:List Int):∀(fs:Fs) (i z:Nat) (n:Int),(iJ ns fs i z n).1.dep<=fs.dB+2
 | .nil,_,_,_=>by simp[iJ,D.dep]
 | .cons x k r,0,z,n=>by
   have a:=rg ns k z n;simp only[iJ,D.dep,Ds.dep,Fs.dB];omega
 | .cons x k r,i+1,z,n=>by
   have a:=B4 ns r i z n;simp only[iJ,Fs.dB];omega
end
theorem mod_le {a:Int}{z:Nat}(h:z<8):(a % ((z:Int)+1)).toNat<=z:=by
 have:=Q0o a (show(0:Int)<(z:Int)+1 by omega);have:=Q0l a (show((z:Int)+1)≠0 by omega);omega
theorem uC {g:Int->D × Int}{N:Nat}(z:∀n,n<=(g n).2/\(g n).2<=n+N):∀(m:Nat) (n:Int),n<=(times g m n).2/\(times g m n).2<=n+(m * N:Nat)
 |0,n=>by simp[times]
 |m+1,n=>by
  obtain⟨J,L⟩:=z n;obtain⟨U,Y⟩:=uC z m (g n).2;have e:(m+1) * N=m * N+N:=Q1x m N;simp only[times];rw[e];omega
noncomputable def kX:Nat->Nat
 |0=>0
 |n+1=>8 * kX n+1
theorem oK {ns:List Int}{f:Nat->Int->D × Int}{N:Nat}(J:∀z n,z<8->n<=(f z n).2/\(f z n).2<=n+N):∀(fu z:Nat) (n:Int),z<8->n<=(gW ns f fu z n).2/\(gW ns f fu z n).2<=n+((N+1) * kX fu:Nat)
 |0,_,n,_=>by simp[gW,kX]
 |fu+1,z,n,h=>by
  obtain⟨L,U⟩:=J (z / 2) n (by omega);obtain⟨Y,b2⟩:=uC (g:=gW ns f fu (z / 2)) (N:=(N+1) * kX fu) (λn=>oK J fu (z / 2) n (by omega)) (nx ns ((f (z / 2) n).2+1) % ((z:Int)+1)).toNat ((f (z / 2) n).2+1);have c:=mod_le (a:=nx ns ((f (z / 2) n).2+1)) h;have d:(nx ns ((f (z / 2) n).2+1) % ((z:Int)+1)).toNat * ((N+1) * kX fu)<=8 * ((N+1) * kX fu):=Q1d _ (by omega)
  have e:(N+1) * kX (fu+1)=8 * ((N+1) * kX fu)+(N+1):=by
   show(N+1) * (8 * kX fu+1)=_;rw[Nat.mul_add,Q39,Nat.mul_one]
  simp only[gW];rw[e];omega
theorem rh {g:Int->Ds × Int}{key:Str}{N:Nat}(J:∀n,n<=(g n).2/\(g n).2<=n+N):∀(m:Nat) (z:List Ds) (n:Int),n<=(gh g key m z n).2/\(gh g key m z n).2<=n+(m * N:Nat)
 |0,_,n=>by simp[gh]
 |m+1,z,n=>by
  obtain⟨Y,a2⟩:=J n;have e:(m+1) * N=m * N+N:=Q1x m N;unfold gh;rw[e];split
  . obtain⟨L,U⟩:=rh (key:=key) J m z (g n).2;omega
  . obtain⟨L,U⟩:=rh (key:=key) J m (z++[(g n).1]) (g n).2;omega
mutual
theorem nH (ns:List Int):∀(k:Kd) (z:Nat) (n:Int),z<8->n<=(val ns k z n).2/\(val ns k z n).2<=n+k.cB
 | .num,_,_,_=>by simp only[val,Kd.cB];omega
 | .gQ,_,_,_=>by simp only[val,Kd.cB];omega
 | .fx fs,z,n,h=>by
   have:=pZ ns fs z n h;simp only[val,Kd.cB];omega
 | .rows key J fs,z,n,h=>by
   obtain⟨L,U⟩:=rh (g:=fm ns fs (z / 2)) (key:=key) (N:=fs.cB) (λn=>pZ ns fs (z / 2) n (by omega)) (nx ns (n+1) % ((z:Int)+1)).toNat [] (n+1);have c:=mod_le (a:=nx ns (n+1)) h;have d:(nx ns (n+1) % ((z:Int)+1)).toNat * fs.cB<=8 * fs.cB:=Q1d _ (by omega);simp only[val,Kd.cB];omega
 | .tree k,z,n,h=>by
   have:=oK (ns:=ns) (f:=val ns k) (N:=k.cB) (λz n h=>nH ns k z n h) 4 z n h;have e:kX 4=585:=rfl;rw[e] at this;simp only[val,Kd.cB];omega
 | .ip fs,z,n,h=>by
   have:=B5 ns fs (nx ns (n+1) % (fs.names.length:Int)).toNat z (n+1) h;simp only[val,Kd.cB];omega
theorem pZ (ns:List Int):∀(fs:Fs) (z:Nat) (n:Int),z<8->n<=(fm ns fs z n).2/\(fm ns fs z n).2<=n+fs.cB
 | .nil,_,_,_=>by simp[fm,Fs.cB]
 | .cons x k r,z,n,h=>by
   have a:=nH ns k z n h;have b:=pZ ns r z (val ns k z n).2 h;simp only[fm,Fs.cB];omega
theorem B5 (ns:List Int):∀(fs:Fs) (i z:Nat) (n:Int),z<8->n<=(iJ ns fs i z n).2/\(iJ ns fs i z n).2<=n+fs.cB
 | .nil,_,_,_,_=>by simp[iJ,Fs.cB]
 | .cons x k r,0,z,n,h=>by
   have a:=nH ns k z n h;simp only[iJ,Fs.cB];omega
 | .cons x k r,i+1,z,n,h=>by
   have a:=B5 ns r i z n h;simp only[iJ,Fs.cB];omega
end
noncomputable def CB:Nat->Nat
 |0=>1
 |d+1=>1200 * CB d
theorem oM:∀d,1<=CB d
 |0=>Q00 _
 |d+1=>by have:=oM d;show 1<=1200 * CB d;omega
mutual
theorem uD:∀(k:Kd) (d:Nat),k.W->k.dep<=d+1->k.cB<=CB d
 | .num,d,_,_=>oM d
 | .gQ,d,_,_=>oM d
 | .fx fs,0,_,h=>by
   simp only[Kd.dep] at h
   cases fs with
   |nil=>simp[Kd.cB,Fs.cB]
   |cons x k r=>have:=k.lM;simp only[Fs.dep] at h;omega
 | .fx fs,d+1,w,h=>by
   unfold Kd.W at w;simp only[Kd.dep] at h;have:=rj fs d w.2.2 (by omega);have e:fs.names.length * CB d<=12 * CB d:=Q1d _ w.2.1;show fs.cB<=1200 * CB d;omega
 | .rows key z fs,0,w,h=>by
   simp only[Kd.dep] at h
   cases fs with
   |nil=>simp[Kd.cB,Fs.cB,CB]
   |cons x k r=>have:=k.lM;simp only[Fs.dep] at h;omega
 | .rows key z fs,d+1,w,h=>by
   unfold Kd.W at w;simp only[Kd.dep] at h;have:=rj fs d w.2.2.1 (by omega);have e:fs.names.length * CB d<=12 * CB d:=Q1d _ w.2.1;have p:=oM d;show 8 * fs.cB+1<=1200 * CB d;omega
 | .tree k,0,w,h=>by
   have:=k.lM;simp only[Kd.dep] at h;omega
 | .tree k,d+1,w,h=>by
   unfold Kd.W at w;simp only[Kd.dep] at h;have:=uD k d w (by omega);have p:=oM d;show(k.cB+1) * 585<=1200 * CB d;omega
 | .ip fs,0,w,h=>by
   simp only[Kd.dep] at h
   cases fs with
   |nil=>simp[Kd.cB,Fs.cB,CB]
   |cons x k r=>have:=k.lM;simp only[Fs.dep] at h;omega
 | .ip fs,d+1,w,h=>by
   unfold Kd.W at w;simp only[Kd.dep] at h;have:=rj fs d w.2.2.2 (by omega);have e:fs.names.length * CB d<=12 * CB d:=Q1d _ w.2.1;have p:=oM d;show fs.cB+1<=1200 * CB d;omega
theorem rj:∀(fs:Fs) (d:Nat),fs.W->fs.dep<=d+1->fs.cB<=fs.names.length * CB d
 | .nil,d,_,_=>by simp[Fs.cB]
 | .cons x k r,d,w,h=>by
   unfold Fs.W at w;simp only[Fs.dep] at h;have a:=uD k d w.1 (by omega);have b:=rj r d w.2 (by omega);show k.cB+r.cB<=(r.names.length+1) * CB d;rw[Q1x];omega
end
mutual
theorem B6:∀(k:Kd),k.dB+8<=10 * k.dep
 | .num=>by simp[Kd.dB,Kd.dep]
 | .gQ=>by simp[Kd.dB,Kd.dep]
 | .fx fs=>by have:=p6 fs;simp only[Kd.dB,Kd.dep];omega
 | .rows _ _ fs=>by have:=p6 fs;simp only[Kd.dB,Kd.dep];omega
 | .tree k=>by have:=B6 k;simp only[Kd.dB,Kd.dep];omega
 | .ip fs=>by have:=p6 fs;simp only[Kd.dB,Kd.dep];omega
theorem p6:∀(fs:Fs),fs.dB<=10 * fs.dep - 8
 | .nil=>by simp[Fs.dB]
 | .cons x k r=>by
   have a:=B6 k;have b:=p6 r;simp only[Fs.dB,Fs.dep];omega
end
end Pb
namespace Pb
open L2
mutual
def KA (H:Hp):V->Kd->Prop
 |v,.num=>∃a,v=.ref a/\H a=some (.tup [.str "number"])
 |v,.gQ=>∃a,v=.ref a/\H a=some (.tup [.str "word"])
 |v,.fx fs=>∃a b vs,v=.ref a/\H a=some (.tup [.str "record",.ref b])/\H b=some (.tup vs)/\FA H vs fs
 |v,.rows key z fs=>∃a b vs,v=.ref a/\H a=some (.tup [.str "rows",.str key,.str z,.ref b])/\H b=some (.tup vs)/\FA H vs fs
 |v,.tree k=>∃a u,v=.ref a/\H a=some (.tup [.str "tree",u])/\KA H u k
 |v,.ip fs=>∃a b vs,v=.ref a/\H a=some (.tup [.str "either",.ref b])/\H b=some (.tup vs)/\FA H vs fs
def FA (H:Hp):List V->Fs->Prop
 |vs,.nil=>vs=[]
 |vs,.cons x k r=>∃c u z,vs=.ref c::z/\H c=some (.tup [.str x,u])/\KA H u k/\FA H z r
end
def Tu (H H':Hp):Prop:=∀a xs,H a=some (.tup xs)->H' a=some (.tup xs)
theorem Tu.trans {H H1 H2:Hp}(a:Tu H H1)(b:Tu H1 H2):Tu H H2:=λc xs h=>b c xs (a c xs h)
theorem Tu.of {H H':Hp}(s:Same H H'):Tu H H':=λa xs h=>s a _ h
theorem Tu.wr {H:Hp}{p:Addr}{o:HO}(h:∀xs,H p≠some (.tup xs)):Tu H (upd H p o):=λa xs e=>by
 rw[eA (λz=>h xs (by rw[<-z];exact e))];exact e
mutual
theorem KA.mono {H H':Hp}(t:Tu H H'):∀{v:V}(k:Kd),KA H v k->KA H' v k
 |v,.num,h=>by
  unfold KA at h ⊢;obtain⟨a,e,q⟩:=h;exact⟨a,e,t _ _ q⟩
 |v,.gQ,h=>by
  unfold KA at h ⊢;obtain⟨a,e,q⟩:=h;exact⟨a,e,t _ _ q⟩
 |v,.fx fs,h=>by
  unfold KA at h ⊢;obtain⟨a,b,vs,e,z,J,f⟩:=h;exact⟨a,b,vs,e,t _ _ z,t _ _ J,FA.mono t fs f⟩
 |v,.rows key L fs,h=>by
  unfold KA at h ⊢;obtain⟨a,b,vs,e,z,J,f⟩:=h;exact⟨a,b,vs,e,t _ _ z,t _ _ J,FA.mono t fs f⟩
 |v,.tree k,h=>by
  unfold KA at h ⊢;obtain⟨a,u,e,q,f⟩:=h;exact⟨a,u,e,t _ _ q,KA.mono t k f⟩
 |v,.ip fs,h=>by
  unfold KA at h ⊢;obtain⟨a,b,vs,e,z,J,f⟩:=h;exact⟨a,b,vs,e,t _ _ z,t _ _ J,FA.mono t fs f⟩
theorem FA.mono {H H':Hp}(t:Tu H H'):∀{vs:List V}(fs:Fs),FA H vs fs->FA H' vs fs
 |vs,.nil,h=>by
  unfold FA at h ⊢;exact h
 |vs,.cons x k r,h=>by
  unfold FA at h ⊢;obtain⟨c,u,z,e,q,f,g⟩:=h;exact⟨c,u,z,e,t _ _ q,KA.mono t k f,FA.mono t r g⟩
end
theorem FA.len {H:Hp}:∀{vs:List V}(fs:Fs),FA H vs fs->vs.length=fs.names.length
 |vs,.nil,h=>by
  unfold FA at h;rw[h];rfl
 |vs,.cons x k r,h=>by
  unfold FA at h;obtain⟨c,u,z,e,_,_,g⟩:=h;rw[e];show z.length+1=r.names.length+1;rw[FA.len r g]
theorem FA.get {H:Hp}:∀{vs:List V}(fs:Fs) {i:Nat}{v:V},FA H vs fs->vs[i]? =some v->∃c u x k,v=.ref c/\fs.at i=some (x,k)/\H c=some (.tup [.str x,u])/\KA H u k
 |vs,.nil,i,v,h,e=>by
  unfold FA at h;rw[h] at e;simp at e
 |vs,.cons x k r,0,v,h,e=>by
  unfold FA at h;obtain⟨c,u,J,z,q,f,_⟩:=h;rw[z] at e;have e:some (V.ref c)=some v:=e
  cases e;exact⟨c,u,x,k,rfl,rfl,q,f⟩
 |vs,.cons x k r,i+1,v,h,e=>by
  unfold FA at h;obtain⟨c,u,J,z,_,_,g⟩:=h;rw[z] at e;exact FA.get r (i:=i) g (by simpa using e)
theorem FA.at {H:Hp}{vs:List V}{fs:Fs}{i:Nat}{x:Str}{k:Kd}(h:FA H vs fs)(e:fs.at i=some (x,k)):∃c u,vs[i]? =some (.ref c)/\H c=some (.tup [.str x,u])/\KA H u k:=by
 have hl:=FA.len fs h
 have hi:i<fs.names.length:=by
  have:fs.names[i]? =some x:=by rw[Fs.iI,e];rfl
  exact(List.getElem?_eq_some_iff.mp this).1
 have z:vs[i]? =some (vs[i]'(by omega)):=Q03 (by omega);obtain⟨c,u,U,Y,h1,h2,J,L⟩:=FA.get fs h z;rw[e] at h2;cases h2;exact⟨c,u,by rw[z,h1],J,L⟩
theorem FA.snoc {H:Hp}{c:Addr}{u:V}{x:Str}{k:Kd}(hc:H c=some (.tup [.str x,u]))(hk:KA H u k):∀{vs:List V}(fs:Fs),FA H vs fs->FA H (vs++[.ref c]) (fs.snoc x k)
 |vs,.nil,h=>by
  unfold FA at h;subst h;show FA H [.ref c] (.cons x k .nil);unfold FA;exact⟨c,u,[],rfl,hc,hk,by unfold FA;rfl⟩
 |vs,.cons y q r,h=>by
  unfold FA at h;obtain⟨d,w,z,e,h1,h2,J⟩:=h;subst e;show FA H (.ref d::(z++[.ref c])) (.cons y q (r.snoc x k));unfold FA;exact⟨d,w,z++[.ref c],rfl,h1,h2,FA.snoc hc hk r J⟩
mutual
def Own (H:Hp):V->D->List Addr->Prop
 |v,.int z,fp=>v=.int z/\fp=[]
 |v,.str x,fp=>v=.str x/\fp=[]
 |v,.tup xs,fp=>∃a vs,v=.ref a/\H a=some (.tup vs)/\eZ H vs xs fp
 |v,.lst xs,fp=>∃a vs J,v=.ref a/\H a=some (.lst vs)/\fp=a::J/\eZ H vs xs J
 |v,.dct m,fp=>∃a kvs J,v=.ref a/\H a=some (.dK kvs)/\fp=a::J/\fc H kvs m J
def eZ (H:Hp):List V->Ds->List Addr->Prop
 |vs,.nil,fp=>vs=[]/\fp=[]
 |vs,.cons _ d r,fp=>∃v q z J,vs=v::q/\fp=z++J/\Own H v d z/\eZ H q r J
def fc (H:Hp):List (Key × V)->Ds->List Addr->Prop
 |kvs,.nil,fp=>kvs=[]/\fp=[]
 |kvs,.cons x d r,fp=>∃v q z J,kvs=(Sum.inr x,v)::q/\fp=z++J/\Own H v d z/\fc H q r J
end
mutual
theorem Own.keep {H H':Hp}(t:Tu H H'):∀{v:V}(d:D) {fp:List Addr},(∀a∈fp,∀o,H a=some o->H' a=some o)->Own H v d fp->Own H' v d fp
 |v,.int z,fp,k,h=>by unfold Own at h ⊢;exact h
 |v,.str x,fp,k,h=>by unfold Own at h ⊢;exact h
 |v,.tup xs,fp,k,h=>by
  unfold Own at h ⊢;obtain⟨a,vs,e,q,f⟩:=h;exact⟨a,vs,e,t _ _ q,eZ.keep t xs k f⟩
 |v,.lst xs,fp,k,h=>by
  unfold Own at h ⊢;obtain⟨a,vs,J,e,q,rfl,f⟩:=h;exact⟨a,vs,J,e,k a Q04 _ q,rfl,eZ.keep t xs (λb L=>k b (Q0e _ L)) f⟩
 |v,.dct m,fp,k,h=>by
  unfold Own at h ⊢;obtain⟨a,vs,J,e,q,rfl,f⟩:=h;exact⟨a,vs,J,e,k a Q04 _ q,rfl,fc.keep t m (λb L=>k b (Q0e _ L)) f⟩
theorem eZ.keep {H H':Hp}(t:Tu H H'):∀{vs:List V}(xs:Ds) {fp:List Addr},(∀a∈fp,∀o,H a=some o->H' a=some o)->eZ H vs xs fp->eZ H' vs xs fp
 |vs,.nil,fp,k,h=>by unfold eZ at h ⊢;exact h
 |vs,.cons x d r,fp,k,h=>by
  unfold eZ at h ⊢;obtain⟨v,q,J,L,e,rfl,U,Y⟩:=h;exact⟨v,q,J,L,e,rfl,Own.keep t d (λb z=>k b (Q0q _ z)) U,eZ.keep t r (λb z=>k b (Q06 _ z)) Y⟩
theorem fc.keep {H H':Hp}(t:Tu H H'):∀{kvs:List (Key × V)}(m:Ds) {fp:List Addr},(∀a∈fp,∀o,H a=some o->H' a=some o)->fc H kvs m fp->fc H' kvs m fp
 |kvs,.nil,fp,k,h=>by unfold fc at h ⊢;exact h
 |kvs,.cons x d r,fp,k,h=>by
  unfold fc at h ⊢;obtain⟨v,q,J,L,e,rfl,U,Y⟩:=h;exact⟨v,q,J,L,e,rfl,Own.keep t d (λb z=>k b (Q0q _ z)) U,fc.keep t r (λb z=>k b (Q06 _ z)) Y⟩
end
theorem Own.same {H H':Hp}{v:V}{d:D}{fp:List Addr}(s:Same H H')(h:Own H v d fp):Own H' v d fp:=h.keep (Tu.of s) d λa _ o e=>s a o e
theorem eZ.same {H H':Hp}{v:List V}{d:Ds}{fp:List Addr}(s:Same H H')(h:eZ H v d fp):eZ H' v d fp:=h.keep (Tu.of s) d λa _ o e=>s a o e
theorem fc.same {H H':Hp}{v:List (Key × V)}{d:Ds}{fp:List Addr}(s:Same H H')(h:fc H v d fp):fc H' v d fp:=h.keep (Tu.of s) d λa _ o e=>s a o e
def Mu (H:Hp) (a:Addr):Prop:=(∃xs,H a=some (.lst xs))\/∃kvs,H a=some (.dK kvs)
mutual
theorem Own.alive {H:Hp}:∀{v:V}(d:D) {fp:List Addr},Own H v d fp->∀a∈fp,Mu H a
 |v,.int z,fp,h=>by unfold Own at h;rw[h.2];intro a J;exact absurd J (by simp)
 |v,.str x,fp,h=>by unfold Own at h;rw[h.2];intro a J;exact absurd J (by simp)
 |v,.tup xs,fp,h=>by
  unfold Own at h;obtain⟨a,vs,e,q,f⟩:=h;exact eZ.alive xs f
 |v,.lst xs,fp,h=>by
  unfold Own at h;obtain⟨a,vs,U,e,q,rfl,f⟩:=h;intro b L;rcases List.mem_cons.mp L with z|z
  . rw[z];exact .inl ⟨_,q⟩
  . exact eZ.alive xs f b z
 |v,.dct m,fp,h=>by
  unfold Own at h;obtain⟨a,vs,U,e,q,rfl,f⟩:=h;intro b L;rcases List.mem_cons.mp L with z|z
  . rw[z];exact .inr ⟨_,q⟩
  . exact fc.alive m f b z
theorem eZ.alive {H:Hp}:∀{vs:List V}(xs:Ds) {fp:List Addr},eZ H vs xs fp->∀a∈fp,Mu H a
 |vs,.nil,fp,h=>by unfold eZ at h;rw[h.2];intro a J;exact absurd J (by simp)
 |vs,.cons x d r,fp,h=>by
  unfold eZ at h;obtain⟨v,q,f1,f2,e,rfl,L,U⟩:=h;intro b Y;rcases List.mem_append.mp Y with z|z
  . exact Own.alive d L b z
  . exact eZ.alive r U b z
theorem fc.alive {H:Hp}:∀{kvs:List (Key × V)}(m:Ds) {fp:List Addr},fc H kvs m fp->∀a∈fp,Mu H a
 |kvs,.nil,fp,h=>by unfold fc at h;rw[h.2];intro a J;exact absurd J (by simp)
 |kvs,.cons x d r,fp,h=>by
  unfold fc at h;obtain⟨v,q,f1,f2,e,rfl,L,U⟩:=h;intro b Y;rcases List.mem_append.mp Y with z|z
  . exact Own.alive d L b z
  . exact fc.alive r U b z
end
theorem Mu.ex {H:Hp}{a:Addr}(h:Mu H a):∃o,H a=some o:=by
 rcases h with⟨_,h⟩|⟨_,h⟩ <;> exact⟨_,h⟩
theorem Mu.uE {H:Hp}{a:Addr}(h:Mu H a)(xs:List V):H a≠some (.tup xs):=λz=>by
 rcases h with⟨_,h⟩|⟨_,h⟩ <;> rw[h] at z <;> cases z
noncomputable def Ds.len:Ds->Nat
 | .nil=>0
 | .cons _ _ r=>r.len+1
noncomputable def Ds.names:Ds->List Str
 | .nil=>[]
 | .cons x _ r=>x::r.names
noncomputable def Ds.at:Ds->Nat->Option D
 | .nil,_=>none
 | .cons _ d _,0=>some d
 | .cons _ _ r,i+1=>r.at i
noncomputable def Ds.snoc:Ds->Str->D->Ds
 | .nil,x,d=>.cons x d .nil
 | .cons y e r,x,d=>.cons y e (r.snoc x d)
theorem Ds.nz:∀{xs:Ds}{i:Nat}{d:D},xs.at i=some d->d.dep<=xs.dep
 | .nil,_,_,h=>by cases h
 | .cons _ d r,0,_,h=>by cases h;exact Q1v _ _
 | .cons _ d r,i+1,_,h=>Q05 (Ds.nz (xs:=r) (i:=i) h) (Q1w _ _)
theorem Ds.nI:∀{xs:Ds}{x:Str}{d:D},xs.get x=some d->d.dep<=xs.dep
 | .nil,_,_,h=>by cases h
 | .cons y e r,x,d,h=>by
   have h:(if x=y then some e else r.get x)=some d:=h;by_cases c:x=y
   . rw[if_pos c] at h;cases h;exact Q1v _ _
   . rw[if_neg c] at h;exact Q05 (Ds.nI h) (Q1w _ _)
theorem eZ.len {H:Hp}:∀{vs:List V}(xs:Ds) {fp:List Addr},eZ H vs xs fp->vs.length=xs.len
 |vs,.nil,fp,h=>by unfold eZ at h;rw[h.1];rfl
 |vs,.cons x d r,fp,h=>by
  unfold eZ at h;obtain⟨v,q,J,L,rfl,rfl,U,z⟩:=h;show q.length+1=r.len+1;rw[eZ.len r z]
theorem eZ.get {H:Hp}:∀{vs:List V}(xs:Ds) {fp:List Addr}{i:Nat}{v:V},eZ H vs xs fp->vs[i]? =some v->∃d f,xs.at i=some d/\Own H v d f/\∀a∈f,a∈fp
 |vs,.nil,fp,i,v,h,e=>by
  unfold eZ at h;rw[h.1] at e;simp at e
 |vs,.cons x d r,fp,0,v,h,e=>by
  unfold eZ at h;obtain⟨w,q,J,Y,rfl,rfl,L,U⟩:=h;have e:some w=some v:=e
  cases e;exact⟨d,J,rfl,L,λa z=>Q0q _ z⟩
 |vs,.cons x d r,fp,i+1,v,h,e=>by
  unfold eZ at h;obtain⟨w,q,J,Y,rfl,rfl,L,U⟩:=h;obtain⟨d',f,h1,h2,h3⟩:=eZ.get r (i:=i) U (by simpa using e);exact⟨d',f,h1,h2,λa z=>Q06 _ (h3 a z)⟩
theorem eZ.snoc {H:Hp}{v:V}{d:D}{g:List Addr}{y:Str}(z:Own H v d g):∀{vs:List V}(xs:Ds) {fp:List Addr},eZ H vs xs fp->eZ H (vs++[v]) (xs.snoc y d) (fp++g)
 |vs,.nil,fp,h=>by
  unfold eZ at h;obtain⟨rfl,rfl⟩:=h;show eZ H [v] (.cons y d .nil) g;unfold eZ;exact⟨v,[],g,[],rfl,by simp,z,by unfold eZ;exact⟨rfl,rfl⟩⟩
 |vs,.cons x e r,fp,h=>by
  unfold eZ at h;obtain⟨w,q,J,L,rfl,rfl,U,Y⟩:=h;show eZ H (w::(q++[v])) (.cons x e (r.snoc y d)) (J++L++g);unfold eZ;exact⟨w,q++[v],J,L++g,rfl,by rw[Q1j],U,eZ.snoc z r Y⟩
theorem fc.snoc {H:Hp}{v:V}{d:D}{g:List Addr}{y:Str}(z:Own H v d g):∀{kvs:List (Key × V)}(xs:Ds) {fp:List Addr},fc H kvs xs fp->fc H (kvs++[(Sum.inr y,v)]) (xs.snoc y d) (fp++g)
 |kvs,.nil,fp,h=>by
  unfold fc at h;obtain⟨rfl,rfl⟩:=h;show fc H [(Sum.inr y,v)] (.cons y d .nil) g;unfold fc;exact⟨v,[],g,[],rfl,by simp,z,by unfold fc;exact⟨rfl,rfl⟩⟩
 |kvs,.cons x e r,fp,h=>by
  unfold fc at h;obtain⟨w,q,J,L,rfl,rfl,U,Y⟩:=h;show fc H ((Sum.inr x,w)::(q++[(Sum.inr y,v)])) (.cons x e (r.snoc y d)) (J++L++g);unfold fc;exact⟨w,q++[(Sum.inr y,v)],J,L++g,rfl,by rw[Q1j],U,fc.snoc z r Y⟩
theorem fc.keys {H:Hp}:∀{kvs:List (Key × V)}(m:Ds) {fp:List Addr},fc H kvs m fp->kvs.map (·.1)=m.names.map Sum.inr
 |kvs,.nil,fp,h=>by unfold fc at h;rw[h.1];rfl
 |kvs,.cons x d r,fp,h=>by
  unfold fc at h;obtain⟨v,q,J,L,rfl,rfl,U,z⟩:=h;show Sum.inr x::q.map (·.1)=Sum.inr x::r.names.map Sum.inr;rw[fc.keys r z]
theorem fc.len {H:Hp}{kvs:List (Key × V)}{m:Ds}{fp:List Addr}(h:fc H kvs m fp):kvs.length=m.names.length:=by
 have:=congrArg List.length (fc.keys m h);simpa using this
theorem fc.val {H:Hp}:∀{kvs:List (Key × V)}(m:Ds) {fp:List Addr}{x:Str}{d:D},fc H kvs m fp->m.get x=some d->∃v f,ft kvs (Sum.inr x)=some v/\Own H v d f/\∀a∈f,a∈fp
 |kvs,.nil,fp,x,d,h,e=>by cases e
 |kvs,.cons y e r,fp,x,d,h,J=>by
  unfold fc at h;obtain⟨v,q,U,f2,rfl,rfl,Y,g2⟩:=h;have J:(if x=y then some e else r.get x)=some d:=J;by_cases c:x=y
  . rw[if_pos c] at J
    cases J;exact⟨v,U,jP (by rw[c]),Y,λa L=>Q0q _ L⟩
  . rw[if_neg c] at J;obtain⟨w,f,h1,h2,h3⟩:=fc.val r g2 J;exact⟨w,f,by rw[jQ (λz=>c (Sum.inr.inj z).symm)];exact h1,h2,λa L=>Q06 _ (h3 a L)⟩
theorem gI.names:∀{fs:Fs}{m:Ds},gI fs m->m.names=fs.names
 | .nil,m,h=>by unfold gI at h;rw[h];rfl
 | .cons x k r,m,h=>by
   unfold gI at h;obtain⟨d,q,rfl,_,g⟩:=h;show x::q.names=x::r.names;rw[gI.names g]
theorem fc.HY {H:Hp}{kvs:List (Key × V)}{m:Ds}{fp:List Addr}{x:Str}(h:fc H kvs m fp)(z:x ∉ m.names):ft kvs (Sum.inr x)=none:=by
 cases e:ft kvs (Sum.inr x) with
 |none=>rfl
 |some v=>
  have:=t9 e;rw[fc.keys m h] at this;obtain⟨y,J,L⟩:=List.mem_map.mp this
  cases L;exact absurd J z
theorem rl {kvs:List (Key × V)}{k:Key}{v:V}(h:ft kvs k=none):putK kvs k v=kvs++[(k,v)]:=by
 unfold putK;rw[if_neg];rw[kP,h];simp
def Kp (S:Addr->Prop) (H H':Hp):Prop:=∀c o,¬S c->H c=some o->H' c=some o
theorem Kp.refl (S:Addr->Prop)(H:Hp):Kp S H H:=λ_ _ _ h=>h
theorem Kp.trans {S:Addr->Prop}{H H1 H2:Hp}(x:Kp S H H1)(y:Kp S H1 H2):Kp S H H2:=λc o n h=>y c o n (x c o n h)
theorem Kp.of {S:Addr->Prop}{H H':Hp}(s:Same H H'):Kp S H H':=λc o _ h=>s c o h
theorem Kp.uF {S:Addr->Prop}{H H':Hp}{a:Addr}(x:Kp S H H')(z:¬S a)(h:H' a=none):H a=none:=by
 cases e:H a with
 |none=>rfl
 |some o=>rw[x a o z e] at h;cases h
inductive A3 {α β γ:Type} (R:α->β->γ->Prop):List α->List β->List γ->Prop
 |nil:A3 R [] [] []
 |cons {a:α} {b:β} {c:γ} {as:List α} {bs:List β} {cs:List γ}:R a b c->A3 R as bs cs->A3 R (a::as) (b::bs) (c::cs)
theorem A3.snoc {α z J:Type}{R:α->z->J->Prop}{a:α}{b:z}{c:J}(h:R a b c):∀{as:List α}{bs:List z}{L:List J},A3 R as bs L->A3 R (as++[a]) (bs++[b]) (L++[c])
 |_,_,_,.nil=>.cons h .nil
 |_,_,_,.cons x r=>.cons x (A3.snoc h r)
theorem A3.len {α J L:Type}{R:α->J->L->Prop}:∀{as:List α}{bs:List J}{z:List L},A3 R as bs z->as.length=bs.length/\as.length=z.length
 |_,_,_,.nil=>⟨rfl,rfl⟩
 |_,_,_,.cons x r=>by
  obtain⟨h1,h2⟩:=A3.len r;simp only[Q0j];omega
theorem A3.at {α z J:Type}{R:α->z->J->Prop}{a0:α}{b0:z}{c0:J}:∀{as:List α}{bs:List z}{L:List J},A3 R as bs L->∀i,i<as.length->R (as.getD i a0) (bs.getD i b0) (L.getD i c0)
 |_,_,_,.nil,i,h=>absurd h (by simp)
 |_,_,_,.cons x r,0,h=>x
 |_,_,_,.cons x r,i+1,h=>by
  have:=A3.at (a0:=a0) (b0:=b0) (c0:=c0) r i (by simpa using h);simpa using this
theorem A3.pick {α z J:Type}{R:α->z->J->Prop}{a0:α}{b0:z}{c0:J}{as:List α}{bs:List z}{L:List J}(h:A3 R as bs L):∀p:List Nat,(∀i∈p,i<as.length)->A3 R (p.map λi=>as.getD i a0) (p.map λi=>bs.getD i b0) (p.map λi=>L.getD i c0)
 |[],_=>.nil
 |i::p,hp=>.cons (h.at i (hp i Q04)) (A3.pick h p λj U=>hp j (Q0e _ U))
theorem HZ {α:Type}(a0:α):∀l:List α,((List.range l.length).map λi=>l.getD i a0)=l:=λl=>by
 apply Q2i
 . simp
 . intro i h1 h2;simp[h2]
theorem B7 {α:Type}(a0:α){l:List α}{p:List Nat}(h:p.Perm (List.range l.length)):(p.map λi=>l.getD i a0).Perm l:=by
 have:=h.map (λi=>l.getD i a0)
 rwa [HZ] at this
theorem H_ {α:Type}{z J:List (List α)}(h:z.Perm J):z.flatten.Perm J.flatten:=by
 induction h with
 |nil=>exact List.Perm.refl _
 |cons x _ L=>exact L.append_left x
 |swap x y l=>
  show(y++(x++l.flatten)).Perm (x++(y++l.flatten));rw[<-Q1j,<-Q1j];exact List.perm_append_comm.append_right _
 |trans _ _ a b=>exact a.trans b
abbrev gX (H:Hp):List V->List Ds->List (List Addr)->Prop:=A3 λv m f=>Own H v (.dct m) f
theorem gX.own {H:Hp}:∀{vs:List V}{z:List Ds}{fs:List (List Addr)},gX H vs z fs->eZ H vs (iq z) fs.flatten
 |_,_,_,.nil=>by unfold iq eZ;exact⟨rfl,rfl⟩
 |_,_,_,.cons h r=>by
  unfold iq eZ;exact⟨_,_,_,_,rfl,rfl,h,gX.own r⟩
theorem eZ.rows {H:Hp}:∀{z:List Ds}{vs:List V}{fp:List Addr},eZ H vs (iq z) fp->∃fs,gX H vs z fs/\fp=fs.flatten
 |[],vs,fp,h=>by
  unfold iq eZ at h;obtain⟨rfl,rfl⟩:=h;exact⟨[],.nil,rfl⟩
 |m::z,vs,fp,h=>by
  unfold iq eZ at h;obtain⟨v,q,J,Y,rfl,rfl,L,U⟩:=h;obtain⟨fs,h1,rfl⟩:=eZ.rows U;exact⟨J::fs,.cons L h1,rfl⟩
noncomputable def lt (z:Int):Str:=⟨#[97+z.toNat]⟩
theorem rm (z:Int):(lt z).length=1:=rfl
theorem Ia:∀j:Nat,j<26->(("abcdefghijklmnopqrstuvwxyz":Str)).cps.toList[j]? =some (97+j):=by decide +kernel
theorem Ib:(("abcdefghijklmnopqrstuvwxyz":Str)).cps.toList.length=26:=by decide +kernel
theorem oN {z:Int}(J:0<=z)(h1:z<26):ir (("abcdefghijklmnopqrstuvwxyz":Str)).cps.toList z=some (97+z.toNat):=by
 unfold ir lC;rw[Ib,if_pos J,if_pos (show z<((26:Nat):Int) by omega)];exact Ia z.toNat (by omega)
theorem Ic {z:Int}(J:0<=z)(h1:z<6):ir [V.int 1,.int 3,.int 5,.int 7,.int 9,.int 11] z=some (.int (2 * z+1)):=by
 obtain⟨n,rfl⟩:=Int.eq_ofNat_of_zero_le J;have h:=Int.ofNat_lt.mp h1;clear J h1;revert n
 decide
noncomputable def nameAt (m:Int) (k:Nat):Str:=
 if m / 12168 % 4=0 then Txt.mul (lt (m / 6 % 26)) ((k:Int)+1)
 else Txt.slice (lt (m / 6 % 26)++lt (m / 156 % 26)) none (some (m / 4056 % 3))++lt ((m / 156+(k:Int) * (2 * (m % 6)+1)) % 26)++Txt.slice (lt (m / 6 % 26)++lt (m / 156 % 26)) (some (m / 4056 % 3)) none
theorem foldl_size (a:Array Nat):∀(n:Nat) (b:Array Nat),((List.replicate n a).foldl (· ++ ·) b).size=b.size+n * a.size
 |0,b=>by simp
 |n+1,b=>by
  rw[Q3a,Q23,foldl_size a n,Array.size_append,Q1x];omega
theorem B8 {x:Str}(z:x.length=1)(k:Nat):(Txt.mul x ((k:Int)+1)).length=k+1:=by
 have J:x.cps.size=1:=z;unfold Txt.mul;rw[if_neg (by omega)];by_cases h:k=0
 . subst h;rw[if_pos (by simp)];exact z
 . rw[if_neg]
   . show((List.replicate ((k:Int)+1).toNat x.cps).foldl (· ++ ·) #[]).size=k+1;rw[foldl_size,J,show((k:Int)+1).toNat=k+1 by omega];simp
   . rw[z];simp;omega
theorem uG (x y:Str):(x++y).cps.toList=x.cps.toList++y.cps.toList:=by
 show(x.cps++y.cps).toList=_;simp
theorem B9 (x y:Str):(x++y).length=x.length+y.length:=by
 show(x.cps++y.cps).size=x.cps.size+y.cps.size;simp
theorem Ie {p q:Str}{z w:Int}(h:p++lt z++q=p++lt w++q):z.toNat=w.toNat:=by
 have e:=congrArg (λs:Str=>s.cps.toList) h;simp only[uG] at e;have e:=List.append_cancel_left (List.append_cancel_right e);have e:[97+z.toNat]=[97+w.toNat]:=e;have e:=List.cons.inj e |>.1;omega
theorem Ig:∀s:Nat,s<6->∀i,i<12->∀j,j<12->(i * (2 * s+1)) % 26=(j * (2 * s+1)) % 26->i=j:=by decide +kernel
theorem Ih {m:Int}{i j:Nat}(U:0<=m)(hi:i<12)(J:j<12)(h:nameAt m i=nameAt m j):i=j:=by
 unfold nameAt at h;by_cases z:m / 12168 % 4=0
 . rw[if_pos z,if_pos z] at h;have e:=congrArg Str.length h;rw[B8 (rm _),B8 (rm _)] at e;omega
 . rw[if_neg z,if_neg z] at h;have e:=Ie h;obtain⟨s,L⟩:∃s:Nat,m % 6=s:=⟨(m % 6).toNat,by omega⟩;rw[L] at e;have e:((m / 156+(i * (2 * s+1):Nat)) % 26).toNat=((m / 156+(j * (2 * s+1):Nat)) % 26).toNat:=e;generalize m / 156=a at e;exact Ig s (by omega) i hi j J (by omega)
theorem Ii {f:Nat->Str}:∀{n:Nat},(∀i j,i<n->j<n->f i=f j->i=j)->((List.range n).map f).Nodup:=by
 intro n h;refine List.pairwise_map.mpr (List.Pairwise.imp_of_mem (λ{a b} J L z=>?_) (Q3b (n:=n)));intro e;exact z (h a b (List.mem_range.mp J) (List.mem_range.mp L) e)
theorem names_nodup {m:Int}{n:Nat}(z:0<=m)(J:n<=12):((List.range n).map (nameAt m)).Nodup:=
 Ii λi j hi L e=>Ih z (by omega) (by omega) e
theorem Ij {x:Str}(J:x.length=1){k:Nat}(hk:k<12)(hl:∀n,n<=1000->Builtin.Str.tooLong n=false):MulOk x ((k:Int)+1):=by
 refine⟨?_,λ_ z=>?_,λ_ _=>?_⟩
 . have L:decide (((k:Int)+1)< -(2 ^ 63:Int))=false:=decide_eq_false (by omega);have U:decide (((k:Int)+1) ≥ 2 ^ 63)=false:=decide_eq_false (by omega);rw[L,U];rfl
 . rw[J];clear hl J z;revert k
   decide
 . rw[J];exact hl _ (by omega)
end Pb
namespace Pb
open L2 PyProof.Rows Spec StrLaws Builtin Builtin.Str
def kY (H:Hp) (u:V) (pl:Bool):Prop:=∃a f rest,u=.ref a/\H a=some (.tup (.str f::rest))/\(pl=true->rest=[]/\(f="number"\/f="word"))/\(pl=false->f≠"number"/\f≠"word")/\∀v∈rest,(∃s,v=.str s)\/∃c,v=.ref c
theorem kY.mono {H H':Hp}(t:Tu H H'){u:V}{pl:Bool}(h:kY H u pl):kY H' u pl:=by
 obtain⟨a,f,rest,e,h1,h2⟩:=h;exact⟨a,f,rest,e,t _ _ h1,h2⟩
theorem kY.of {H:Hp}{u:V}:∀{k:Kd},KA H u k->∃pl,kY H u pl
 | .num,h=>by
   unfold KA at h;obtain⟨a,e,q⟩:=h;exact⟨true,a,_,_,e,q,λ_=>⟨rfl,.inl rfl⟩,(λz=>by cases z),λv J=>nomatch J⟩
 | .gQ,h=>by
   unfold KA at h;obtain⟨a,e,q⟩:=h;exact⟨true,a,_,_,e,q,λ_=>⟨rfl,.inr rfl⟩,(λz=>by cases z),λv J=>nomatch J⟩
 | .fx fs,h=>by
   unfold KA at h;obtain⟨a,b,vs,e,q,_⟩:=h;exact⟨false,a,_,_,e,q,(λz=>by cases z),(λ_=>by decide),λv J=>by rw[List.mem_singleton.mp J];exact .inr ⟨_,rfl⟩⟩
 | .rows key U fs,h=>by
   unfold KA at h;obtain⟨a,b,vs,e,q,_⟩:=h;refine⟨false,a,_,_,e,q,(λz=>by cases z),(λ_=>by decide),λv J=>?_⟩;simp only[Q12,Q24,or_false] at J;rcases J with z|z|z <;> subst z
   . exact .inl ⟨_,rfl⟩
   . exact .inl ⟨_,rfl⟩
   . exact .inr ⟨_,rfl⟩
 | .tree k,h=>by
   unfold KA at h;obtain⟨a,b,e,q,hk⟩:=h;obtain⟨_,c,_,_,L,_⟩:=kY.of hk;exact⟨false,a,_,_,e,q,(λz=>by cases z),(λ_=>by decide),λv J=>by rw[List.mem_singleton.mp J];exact .inr ⟨c,L⟩⟩
 | .ip fs,h=>by
   unfold KA at h;obtain⟨a,b,vs,e,q,_⟩:=h;exact⟨false,a,_,_,e,q,(λz=>by cases z),(λ_=>by decide),λv J=>by rw[List.mem_singleton.mp J];exact .inr ⟨_,rfl⟩⟩
noncomputable abbrev Qd:=V × Str × Bool
def rn (H:Hp) (q:Qd):Prop:=∃c u,q.1=.ref c/\H c=some (.tup [.str q.2.1,u])/\kY H u q.2.2
def jk (H:Hp) (z:List Qd):Prop:=∀q∈z,rn H q
noncomputable def nms (z:List Qd):List Str:=z.map (·.2.1)
noncomputable def fT (z:List Qd):List V:=z.map (·.1)
theorem rn.mono {H H':Hp}(t:Tu H H'){q:Qd}(h:rn H q):rn H' q:=by
 obtain⟨c,u,e,h1,h2⟩:=h;exact⟨c,u,e,t _ _ h1,h2.mono t⟩
theorem jk.mono {H H':Hp}(t:Tu H H'){z:List Qd}(h:jk H z):jk H' z:=λq J=>(h q J).mono t
theorem jk.of {H:Hp}:∀{ys:List V}{fs:Fs},FA H ys fs->∃z,fT z=ys/\nms z=fs.names/\jk H z
 |ys,.nil,h=>by
  unfold FA at h;subst h;exact⟨[],rfl,rfl,λq J=>nomatch J⟩
 |ys,.cons x k r,h=>by
  unfold FA at h;obtain⟨c,u,vr,rfl,q,hk,L⟩:=h;obtain⟨z,U,Y,hp⟩:=jk.of L;obtain⟨pl,hs⟩:=kY.of hk;refine⟨(.ref c,x,pl)::z,by show _::fT z=_;rw[U],by show x::nms z=_;rw[Y];rfl,λq' J=>?_⟩;rcases List.mem_cons.mp J with e|e
  . subst e;exact⟨c,u,rfl,q,hs⟩
  . exact hp q' e
def sle (x y:Str):Prop:=j1 (fJ x) (fJ y)
def slt (x y:Str):Prop:=fY (fJ x) (fJ y)=true
theorem B_ (x y:Str)(h:slt x y):¬slt y x:=λh2=>by
 have z:=oz _ _ _ h h2;rw[rb] at z
 cases z
theorem Ik {x y:Str}(h:fJ x=fJ y):x=y:=Sum.inr.inj (List.cons.inj h).1
theorem uH {x y:Str}(h:sle x y):slt x y\/x=y:=by
 rcases pT (fJ x) (fJ y) with q|q|q
 . exact .inl q
 . exact .inr (Ik q)
 . have h:fY (fJ y) (fJ x)=false:=h;rw[h] at q;cases q
theorem Ca {x y:Str}(h:slt x y):sle x y:=by
 unfold sle j1
 cases e:fY (fJ y) (fJ x) with
 |false=>rfl
 |true=>exact absurd e (B_ _ _ h)
theorem Cb {x y z:Str}(h1:sle x y)(h2:sle y z):sle x z:=by
 rcases uH h1 with a|a
 . rcases uH h2 with b|b
   . exact Ca (oz _ _ _ a b)
   . rw[<-b];exact h1
 . rw[a];exact h2
theorem Il (x y:Str):ltCps x.cps.toList y.cps.toList=fY (fJ x) (fJ y):=by
 rw[BQ];exact ltCps_eq _ _
theorem Cc:∀{ss:List Str},sortedS ss=true->ss.Pairwise sle
 |[],_=>.nil
 |[x],_=>Q22 _ _
 |x::y::r,h=>by
  have h:(!ltCps y.cps.toList x.cps.toList && risingS y r)=true:=h;obtain⟨h1,h2⟩:=Bool.and_eq_true_iff.mp h;have L:(y::r).Pairwise sle:=Cc (ss:=y::r) h2
  have J:sle x y:=by
   rw[Il] at h1;unfold sle j1
   cases e:fY (fJ y) (fJ x) with
   |false=>rfl
   |true=>rw[e] at h1;cases h1
  refine .cons (λz U=>?_) L;rcases List.mem_cons.mp U with e|e
  . rw[e];exact J
  . exact Cb J ((List.pairwise_cons.mp L).1 z e)
theorem Cd {J:List Qd}(h:(nms J).Pairwise sle)(L:(nms J).Nodup):J.Pairwise λa b=>slt a.2.1 b.2.1:=by
 have h1:=List.pairwise_map.mp h;have h2:J.Pairwise λa b=>a.2.1≠b.2.1:=List.pairwise_map.mp L;refine(h1.and h2).imp λ{a b} ⟨x,y⟩=>?_;rcases uH x with z|z
 . exact z
 . exact absurd z y
theorem Ce {α:Type}{R:α->α->Prop}(as:∀a b,R a b->¬R b a):∀{J z:List α},J.Perm z->J.Pairwise R->z.Pairwise R->J=z
 |[],z,p,_,_=>by rw[p.nil_eq]
 |a::r,[],p,_,_=>absurd p.length_eq (by simp)
 |a::r,b::q,p,h1,h2=>by
  obtain⟨Y,a2⟩:=List.pairwise_cons.mp h1;obtain⟨b1,b2⟩:=List.pairwise_cons.mp h2
  have U:a=b:=by
   have ha:a∈b::q:=p.mem_iff.mp Q04;have hb:b∈a::r:=p.mem_iff.mpr Q04;rcases List.mem_cons.mp ha with e|e
   . exact e
   . rcases List.mem_cons.mp hb with L|L
     . exact L.symm
     . exact absurd (Y b L) (as b a (b1 a e))
  subst U;rw[Ce as ((Q38 a).mp p) a2 b2]
theorem Cf {J z:List Qd}(p:J.Perm z)(h1:(nms J).Pairwise sle)(h2:(nms z).Pairwise sle)(L:(nms z).Nodup):J=z:=
 Ce (λa b=>B_ _ _) p (Cd h1 ((p.map _).nodup_iff.mpr L)) (Cd h2 L)
def oO (x:Str):Prop:=x.length<=12/\(∀c∈x.cps.toList,c<128)/\x≠"yx"/\x≠""/\x≠"xyxyxy"
theorem foldl_rep (c:Nat):∀(n:Nat) (b:Array Nat),((List.replicate n #[c]).foldl (· ++ ·) b).toList=b.toList++List.replicate n c
 |0,b=>by simp
 |n+1,b=>by
  rw[Q3a,Q23,foldl_rep c n,Array.toList_append,Q1j];rfl
theorem p_ (z:Int)(k:Nat):(Txt.mul (lt z) ((k:Int)+1)).cps.toList=List.replicate (k+1) (97+z.toNat):=by
 unfold Txt.mul;rw[if_neg (by omega)];by_cases h:(((k:Int)+1 == 1) || (lt z).length == 0)=true
 . rw[if_pos h]
   have hk:k=0:=by
    rw[rm] at h;simp at h;omega
   subst hk;rfl
 . rw[if_neg h];have e:((k:Int)+1).toNat=k+1:=by omega
   rw[e];show((List.replicate (k+1) #[97+z.toNat]).foldl (· ++ ·) #[]).toList=_;rw[foldl_rep];rfl
theorem Im (a b:Int){c:Int}(U:0<=c)(h1:c<3):∃z J:List Nat,(Txt.slice (lt a++lt b) none (some c)).cps.toList=z/\(Txt.slice (lt a++lt b) (some c) none).cps.toList=J/\z++J=[97+a.toNat,97+b.toNat]:=by
 have L:(lt a++lt b)=⟨#[97+a.toNat,97+b.toNat]⟩:=rfl;rw[L];have:c=0\/c=1\/c=2:=by omega
 rcases this with rfl|rfl|rfl
 . refine⟨[],[97+a.toNat,97+b.toNat],rfl,?_,rfl⟩;have e:strSliceIndices (some 0) none 1 2=[0,1]:=by decide +kernel
   unfold Txt.slice;rw[show(⟨#[97+a.toNat,97+b.toNat]⟩:Str).length=2 from rfl,e];rfl
 . refine⟨[97+a.toNat],[97+b.toNat],rfl,?_,rfl⟩;have e:strSliceIndices (some 1) none 1 2=[1]:=by decide +kernel
   unfold Txt.slice;rw[show(⟨#[97+a.toNat,97+b.toNat]⟩:Str).length=2 from rfl,e];rfl
 . exact⟨[97+a.toNat,97+b.toNat],[],rfl,rfl,rfl⟩
theorem Cg:("yx":Str).cps.toList=[121,120]:=by decide +kernel
theorem uI:("xyxyxy":Str).cps.toList=[120,121,120,121,120,121]:=by decide +kernel
theorem Io {m:Int}{i:Nat}(hi:i<12):oO (nameAt m i):=by
 have l1:(m / 6 % 26).toNat<26:=by omega
 have l2:(m / 156 % 26).toNat<26:=by omega
 have l3:((m / 156+(i:Int) * (2 * (m % 6)+1)) % 26).toNat<26:=by
  have:=Q0o (m / 156+(i:Int) * (2 * (m % 6)+1)) (show(0:Int)<26 by decide);have:=Q0l (m / 156+(i:Int) * (2 * (m % 6)+1)) (show(26:Int)≠0 by decide);omega
 have len:∀x:Str,x.length=x.cps.toList.length:=λx=>by rw[Q1n];rfl
 unfold nameAt;by_cases h:m / 12168 % 4=0
 . rw[if_pos h];refine⟨?_,λc hc=>?_,λe=>?_,λe=>?_,λe=>?_⟩
   . rw[len,p_,Q11];omega
   . rw[p_] at hc;rw[(List.mem_replicate.mp hc).2];omega
   . have:=congrArg (λx:Str=>x.cps.toList) e;have this:(Txt.mul (lt (m / 6 % 26)) ((i:Int)+1)).cps.toList=("yx":Str).cps.toList:=this;rw[p_,Cg] at this
     have L:∀c∈([121,120]:List Nat),c=97+(m / 6 % 26).toNat:=λc hc=>by
      rw[<-this] at hc;exact(List.mem_replicate.mp hc).2
     have a:=L 121 (by simp);have b:=L 120 (by simp);omega
   . have:=congrArg (λx:Str=>x.cps.toList.length) e;have this:(Txt.mul (lt (m / 6 % 26)) ((i:Int)+1)).cps.toList.length=("":Str).cps.toList.length:=this;rw[p_,Q11] at this;have:i+1=0:=this;omega
   . have:=congrArg (λx:Str=>x.cps.toList) e;have this:(Txt.mul (lt (m / 6 % 26)) ((i:Int)+1)).cps.toList=("xyxyxy":Str).cps.toList:=this;rw[p_,uI] at this
     have L:∀c∈([120,121,120,121,120,121]:List Nat),c=97+(m / 6 % 26).toNat:=λc hc=>by
      rw[<-this] at hc;exact(List.mem_replicate.mp hc).2
     have a:=L 121 (by simp);have b:=L 120 (by simp);omega
 . rw[if_neg h];obtain⟨J,p2,Y,e2,U⟩:=Im (m / 6 % 26) (m / 156 % 26) (c:=m / 4056 % 3) (by omega) (by omega)
   have z:(Txt.slice (lt (m / 6 % 26)++lt (m / 156 % 26)) none (some (m / 4056 % 3))++lt ((m / 156+(i:Int) * (2 * (m % 6)+1)) % 26)++Txt.slice (lt (m / 6 % 26)++lt (m / 156 % 26)) (some (m / 4056 % 3)) none).cps.toList
    =J++[97+((m / 156+(i:Int) * (2 * (m % 6)+1)) % 26).toNat]++p2:=by
    rw[uG,uG,Y,e2];rfl
   have aa:J.length+p2.length=2:=by
    have:=congrArg List.length U;rw[Q0c] at this;exact this
   refine⟨?_,λc hc=>?_,λe=>?_,λe=>?_,λe=>?_⟩
   . rw[len,z,Q0c,Q0c,Q19];omega
   . rw[z] at hc
     have hc:c∈J++p2\/c=97+((m / 156+(i:Int) * (2 * (m % 6)+1)) % 26).toNat:=by
      simp only[Q1y,Q1e] at hc ⊢;rcases hc with(a|a)|a
      . exact .inl (.inl a)
      . exact .inr a
      . exact .inl (.inr a)
     rcases hc with a|a
     . rw[U] at a;simp only[Q12,Q24,or_false] at a;omega
     . omega
   . have:=congrArg (λx:Str=>x.cps.toList.length) e;have this:List.length _=List.length _:=this;rw[z,Cg,Q0c,Q0c,Q19] at this;have:J.length+1+p2.length=2:=this;omega
   . have:=congrArg (λx:Str=>x.cps.toList.length) e;have this:List.length _=List.length _:=this;rw[z,Q0c,Q0c,Q19] at this;have:J.length+1+p2.length=0:=this;omega
   . have:=congrArg (λx:Str=>x.cps.toList.length) e;have this:List.length _=List.length _:=this;rw[z,uI,Q0c,Q0c,Q19] at this;have:J.length+1+p2.length=6:=this;omega
end Pb
namespace Pb
open L2
theorem boot_isinstance:bootBuiltins "isinstance"=some (.builtin "isinstance"):=by decide +kernel
theorem boot_sorted:bootBuiltins "sorted"=some (.builtin "sorted"):=by decide +kernel
theorem boot_all:bootBuiltins "all"=some (.builtin "all"):=by decide +kernel
theorem boot_int:bootBuiltins "int"=some (.type "int"):=by decide +kernel
theorem boot_bool:bootBuiltins "bool"=some (.type "bool"):=by decide +kernel
theorem boot_str:bootBuiltins "str"=some (.type "str"):=by decide +kernel
theorem boot_list:bootBuiltins "list"=some (.type "list"):=by decide +kernel
theorem boot_tuple:bootBuiltins "tuple"=some (.type "tuple"):=by decide +kernel
theorem boot_set:bootBuiltins "set"=some (.type "set"):=by decide +kernel
theorem boot_dict:bootBuiltins "dict"=some (.type "dict"):=by decide +kernel
structure Tb (mg:Str->Option Value):Prop where
 gC:mg "len"=none
 gz:mg "isinstance"=none
 rq:mg "sorted"=none
 nJ:mg "all"=none
 mw:mg "range"=none
 rz:mg "enumerate"=none
 qa:mg "zip"=none
 qc:mg "int"=none
 oP:mg "bool"=none
 lO:mg "str"=none
 j4:mg "list"=none
 lP:mg "tuple"=none
 lU:mg "dict"=none
 Iq:mg "set"=none
structure Dn (K:W.Frag) (mg:Str->Option Value) (x:Str) (ps:List Str) (st:Stmt) (f:Addr) (fd:FuncData):Prop where
 F:km K x x st f fd
 b:Binds K fd ps []
 m:mg x=some (.ref f)
theorem eL {X:Cx}{k L:Nat}{f:Addr}{fd:FuncData}{ps:List Str}{sp:Sp}{x:Str}{p pos:Pos}{e:Expr}{es:List Expr}{t:TA}{st:Stmt}(F:eh X.prog X.w X.K X.mg X.base er k f fd ps sp)(U:gi L X.A)(D:Dn X.K X.mg x ps st f fd)(Y:PA X (e::es) t)(hg:Gl X x:=by rfl)(z:(x == ("__debug__":Str))=false:=by decide)(he:starEach (e::es) X.env=(false,eval e X.env)::starEach es X.env:=by rfl)(J:(backTo pos (starEach es X.env)).any (·.1)=false:=by rfl)(hk:k<=L:=by first|decide|omega):PE X (.Call (.Name x p) (e::es) [] pos) (lB sp [] E0 t):=qQ F (U.mono hk) hg D.m D.F.kp D.b .nil jR Y z he J
theorem eT {X:Cx}(i:Nat){x:Str}{e:Expr}{te:TE}{pos z:Pos}(J:X.N.Nodup)(L:PE X e te)(hi:X.N[i]? =some x:=by rfl)(U:Loc X.env.scope x:=by exact Or.inl rfl)(Y:swapsWith e (some (.Name x z)) pos.line X.env=pure false:=by rfl)(hf:X.fn x=true\/X.env.scope.names.lookup x=some .local:=by first|exact .inl rfl|exact .inr rfl|assumption):PS X (.Assign [.Name x z] e pos) (n9 te (gK i)):=Aw J hi U L Y hf
theorem Ci {X:Cx}(i:Nat){x:Str}{e:Expr}{te:TE}{pos z:Pos}(J:X.N.Nodup)(L:PE X e te)(hi:X.N[i]? =some x:=by rfl)(U:Loc X.env.scope x:=by exact Or.inr rfl)(Y:swapsWith e (some (.Name x z)) pos.line X.env=pure false:=by rfl)(hf:X.fn x=true\/X.env.scope.names.lookup x=some .local:=by first|exact .inl rfl|exact .inr rfl|assumption):PS X (.Assign [.Name x z] e pos) (n9 te (gK i)):=Aw J hi U L Y hf
theorem jI:0<=sizeLine:=by decide
theorem i_:1<=sizeLine:=by decide
theorem hX:2<=sizeLine:=by decide
theorem uJ:4<=sizeLine:=by decide
theorem Ir:6<=sizeLine:=by decide
theorem eK {X:Cx}{a b:Expr}{ta tb:TE}{pos:Pos}(z:PE X a ta)(J:PE X b tb)(L:tW b:=by exact λ_ _=>rfl):PE X (.Subscript a b pos) (f_ (iu X.K) ta tb):=lD Gc z J L
theorem iW {X:Cx}{a b:Expr}{ta tb:TE}{pos:Pos}(z:PE X a ta)(J:PE X b tb)(L:tW b:=by exact λ_ _=>rfl):PE X (.Subscript a b pos) (f_ (AZ X.K) ta tb):=lD Gb z J L
theorem iT {X:Cx}{own N:List Str}{scope sc:Scope}(z:X.env.scope=sc:=by rfl)(J:X.N=N:=by rfl)(k:scope.kind=.function:=by rfl)(c:ua own N scope sc=true:=by decide +kernel):jE X own scope:=jE.of z J k c
theorem fL {α:Type}{a:α}{p:Prop}:a=a\/p:=Or.inl rfl
theorem fA {N P:List Str}{sc:Scope}(h:(sc.kind == .function && !sc.isCoroutine && !sc.isGenerator && decide N.Nodup && N.take P.length == P && P.all (λx=>sc.names.lookup x == some .local || sc.names.lookup x == some .cell) && sc.names.all (λy=>y.2 != .free))=true:=by decide +kernel):fk N P sc:=by
 simp only[Bool.and_eq_true,Q1b,Bool.or_eq_true,beq_iff_eq,bne_iff_ne,decide_eq_true_eq,Bool.not_eq_true',ne_eq] at h;obtain⟨⟨⟨⟨⟨⟨h1,h2⟩,z⟩,J⟩,L⟩,U⟩,Y⟩:=h;exact⟨h1,h2,z,J,L,U,Y⟩
abbrev fM:List Str:=["_law_script","_law_at"]
abbrev hZ:List Str:=["fields","record"]
abbrev h_:List Str:=["kind","value"]
abbrev iK:List Str:=["_law_kind_here","_law_found","_law_due"]
abbrev iX:List Str:=["fields","name"]
abbrev iY:List Str:=["self","kind"]
abbrev ja:List Str:=["_law_script","_law_at","_law_kind_here","_law_room"]
abbrev jb:List Str:=["self","kind","source","seen"]
abbrev i3:List Str:=["kind","tree"]
abbrev jl:List Str:=["record","names"]
abbrev jU:List Str:=["value"]
abbrev j5:List Str:=["_law_script","_law_at","_law_many","_law_deep"]
abbrev j6:List Str:=["kind","seen"]
abbrev ky:List Str:=["_law_script","_law_at","_law_deep"]
abbrev kz:List Str:=["kind","rows"]
abbrev kB:List Str:=["fields","value"]
abbrev kD:List Str:=["pairs"]
abbrev kE:List Str:=["self","kind","source"]
abbrev kZ:List Str:=["fields","names"]
abbrev k8:List Str:=["_law_view","_law_kind_here","_law_behind","_law_source","_law_other","_law_shown"]
abbrev mx:List Str:=["record","old","new"]
abbrev my:List Str:=["self","name"]
abbrev mz:List Str:=["_law_found","_law_due"]
abbrev mB:List Str:=["_law_script","_law_at","_law_kind_here","_law_source","_law_other"]
abbrev nK:List Str:=["_law_script","_law_at","_law_many"]
abbrev nL:List Str:=["kind","row"]
abbrev nM:List Str:=["self"]
abbrev nN:List Str:=["_law_pairs"]
abbrev oQ:List Str:=["stands"]
abbrev oR:List Str:=["record","name","value"]
abbrev oS:List Str:=["record","field"]
abbrev oU:List Str:=["_law_view","_law_kind_here","_law_source","_law_seen"]
abbrev oV:List Str:=["_law_names_here","_law_m"]
abbrev qd:List Str:=["_law_kind_here","_law_row"]
abbrev rA:List Str:=["kind","names"]
abbrev rB:List Str:=["kind","name"]
abbrev rD:List Str:=["record","names","into"]
abbrev rE:List Str:=["self","old","new"]
abbrev rF:List Str:=["self","names","into"]
abbrev rG:List Str:=["self","way"]
abbrev rH:List Str:=["_law_script","_law_at","_law_names_here"]
def jm (K:W.Frag) (H:Hp) (a:Addr) (ns:List Int):Prop:=
 (∃o,H a=some (.gT o (.lst (ns.map V.int))))\/
   ∃(o:Obj) (z:Array Value) (n:Nat),K.lookup a=some o/\o.cls=.type "list"/\o.dict=none/\o.data=.seq z n/\z.size<=sizeLine/\Vals (ns.map V.int) z.toList
theorem jm.sq {K:W.Frag}{H:Hp}{a:Addr}{ns:List Int}(h:jm K H a ns):eF K H a (ns.map V.int):=by
 rcases h with⟨o,h⟩|h
 . exact .inl (.inr ⟨o,h⟩)
 . exact .inr h
def SB (b:Addr) (H H':Hp):Prop:=∀c o,c≠b->H c=some o->H' c=some o
theorem SB.trans {b:Addr}{H H1 H2:Hp}(x:SB b H H1)(y:SB b H1 H2):SB b H H2:=λc o n h=>y c o n (x c o n h)
theorem SB.of {b:Addr}{H H':Hp}(s:Same H H'):SB b H H':=λc o _ h=>s c o h
theorem SB.wr {b:Addr}{H:Hp}{o:HO}:SB b H (upd H b o):=λc u n h=>by rw[eA n];exact h
theorem SB.new {b p:Addr}{H:Hp}{o:HO}(h:H p=none):SB b H (upd H p o):=λc u n q=>by rw[eA (eM q h)];exact q
structure G0 (K:W.Frag) (H:Hp) (a b:Addr) (ns:List Int) (n:Int):Prop where
 jc:jm K H a ns
 len:ns.length<=63
 at_:H b=some (.lst [.int n])
 pos:0<=n
theorem SB.jc {K:W.Frag}{b:Addr}{H H':Hp}{a:Addr}{ns:List Int}{n:Int}(x:SB b H H')(J:H b=some (.lst [.int n]))(h:jm K H a ns):jm K H' a ns:=by
 rcases h with⟨o,h⟩|h
 . exact .inl ⟨o,x a _ (iB h J (by intro z;cases z)) h⟩
 . exact .inr h
theorem SB.tu {b:Addr}{H H':Hp}{n:Int}(x:SB b H H')(J:H b=some (.lst [.int n])):Tu H H':=λc xs h=>x c _ (iB h J (by intro z;cases z)) h
theorem G0.go {K:W.Frag}{H H':Hp}{a b:Addr}{ns:List Int}{n z:Int}(g:G0 K H a b ns n)(x:SB b H H')(h:H' b=some (.lst [.int z]))(J:n<=z):G0 K H' a b ns z:=
 ⟨x.jc g.at_ g.jc,g.len,h,by have:=g.pos;omega⟩
theorem Same.new {H:Hp}{p:Addr}{o:HO}(h:H p=none):Same H (upd H p o):=λc u q=>by rw[eA (eM q h)];exact q
theorem int_at {ns:List Int}{z:Int}(J:0<=z)(h1:z<ns.length):ir (ns.map V.int) z=some (.int (ns.getD z.toNat 0)):=by
 obtain⟨j,rfl⟩:∃j:Nat,z=(j:Int):=⟨z.toNat,by omega⟩;rw[Q3c];exact jY (by rw[Q0g,Q0f,Q03 (by omega)];rfl)
def oW (K:W.Frag):Sp:=λvs H Q _=>∃a b ns n,vs=[.ref a,.ref b]/\G0 K H a b ns n/\n<=1000000000000/\
 ∀(H':Hp),SB b H H'->H' b=some (.lst [.int (n+1)])->Q (.int (nx ns (n+1))) H'
def k9 (K:W.Frag):Sp:=λvs H Q _=>∃a b ns n,vs=[.ref a,.ref b]/\G0 K H a b ns n/\n<=1000000000000/\
 ∀(r:Int) (H':Hp),0<=r->r<1999999973->SB b H H'->H' b=some (.lst [.int (n+1)])->Q (.int r) H'
theorem rJ {P:Program}{w:World}{K:W.Frag}{mg:Str->Option Value}{base:Heap}{CX:iV}{k:Nat}{f:Addr}{fd:FuncData}{ps:List Str}(F:eh P w K mg base CX k f fd ps (oW K)):eh P w K mg base CX k f fd ps (k9 K):=
 F.imp λvs H Q E ⟨a,b,ns,n,e,g,z,q⟩=>⟨a,b,ns,n,e,g,z,λH' J h1=>q _ H' (uz _ _) (uA _ _) J h1⟩
def rK (K:W.Frag):Sp:=λvs H Q _=>∃a b ns n,vs=[.ref a,.ref b]/\G0 K H a b ns n/\n<=1000000000000/\
 ∀(v:V) (k:Kd) (H':Hp),SB b H H'->H' b=some (.lst [.int (n+1)])->KA H' v k->k.dep<=1->oG k->k.W->Q v H'
def Cj (K:W.Frag):Sp:=λvs H Q _=>∃a b ns n,∃m:Nat,vs=[.ref a,.ref b,.int m]/\m<=12/\G0 K H a b ns n/\n<=1000000000000/\
 ∀(p:Addr) (ss:List Str) (H':Hp),SB b H H'->H' b=some (.lst [.int (n+1)])->p≠b->H' p=some (.lst (ss.map V.str))->ss.length=m->ss.Nodup->Q (.ref p) H'
noncomputable def ck:Nat->Nat
 |0=>2
 |d+1=>3 * ck d+6
def oX (K:W.Frag) (d:Nat):Sp:=λvs H Q _=>∃a b ns n,vs=[.ref a,.ref b,.int d]/\G0 K H a b ns n/\n+ck d<=1000000000000/\
 ∀(v:V) (k:Kd) (z:Int) (H':Hp),SB b H H'->H' b=some (.lst [.int z])->n<=z->z<=n+ck d->KA H' v k->k.dep<=d+1->k.W->Q v H'
def Ck (K:W.Frag) (d:Nat):Sp:=λvs H Q _=>∃a b ns n,∃m:Nat,vs=[.ref a,.ref b,.int m,.int d]/\m<=3/\G0 K H a b ns n/\n+1+3 * ck d<=1000000000000/\
 ∀(t:Addr) (xs:List V) (fs:Fs) (z:Int) (H':Hp),SB b H H'->H' b=some (.lst [.int z])->n<=z->z<=n+1+3 * ck d->H' t=some (.tup xs)->FA H' xs fs->fs.names.Nodup->fs.names.length=m->fs.dep<=d+1->fs.W->Q (.ref t) H'
def Cm (K:W.Frag) (d:Nat):Sp:=λvs H Q _=>∃a b ns n,∃m:Nat,vs=[.ref a,.ref b,.int m,.int d]/\1<=m/\m<=3/\G0 K H a b ns n/\n+5+3 * ck d<=1000000000000/\
 ∀(v:V) (k:Kd) (z:Int) (H':Hp),SB b H H'->H' b=some (.lst [.int z])->n<=z->z<=n+5+3 * ck d->KA H' v k->k.dep<=d+2->k.W->(∃key J fs,k=.rows key J fs)->Q v H'
def Cn (K:W.Frag):Sp:=λvs H Q _=>∃a b ns n,vs=[.ref a,.ref b]/\G0 K H a b ns n/\n<=1000000000000/\
 ∀(H':Hp),SB b H H'->H' b=some (.lst [.int (n+1)])->Q (.int (num ns (n+1))) H'
def Co (K:W.Frag):Sp:=λvs H Q _=>∃a b ns n,vs=[.ref a,.ref b]/\G0 K H a b ns n/\n<=1000000000000/\
 ∀(H':Hp),SB b H H'->H' b=some (.lst [.int (n+1)])->Q (.str (gQ ns (n+1))) H'
def uK (K:W.Frag):Sp:=λvs H Q _=>∃a b ns n,∃m:Nat,vs=[.ref a,.ref b,.int m]/\m<=12/\G0 K H a b ns n/\n<=1000000000000/\
 ∀(p:Addr) (ss:List Str) (H':Hp),SB b H H'->H' b=some (.lst [.int (n+1)])->p≠b->H' p=some (.lst (ss.map V.str))->ss.length=m->ss.Nodup->ss.Pairwise sle->(∀x∈ss,oO x)->Q (.ref p) H'
theorem namesW {P:Program}{w:World}{K:W.Frag}{mg:Str->Option Value}{base:Heap}{CX:iV}{k:Nat}{f:Addr}{fd:FuncData}{ps:List Str}(F:eh P w K mg base CX k f fd ps (uK K)):eh P w K mg base CX k f fd ps (Cj K):=
 F.imp λvs H Q E ⟨a,b,ns,n,m,e,z,g,J,q⟩=>⟨a,b,ns,n,m,e,z,g,J,λp ss H' L h1 h2 U Y h5 _ _=>q p ss H' L h1 h2 U Y h5⟩
def rL (K:W.Frag) (d:Nat):Sp:=λvs H Q _=>∃a b ns n,∃m:Nat,vs=[.ref a,.ref b,.int m,.int d]/\m<=12/\G0 K H a b ns n/\n+1+m * ck d<=1000000000000/\
 ∀(t:Addr) (xs:List V) (fs:Fs) (z:Int) (H':Hp),SB b H H'->H' b=some (.lst [.int z])->n<=z->z<=n+1+m * ck d->H' t=some (.tup xs)->FA H' xs fs->fs.names.Nodup->fs.names.length=m->fs.dep<=d+1->fs.W->fs.names.Pairwise sle->(∀x∈fs.names,oO x)->Q (.ref t) H'
theorem Iu {P:Program}{w:World}{K:W.Frag}{mg:Str->Option Value}{base:Heap}{CX:iV}{k d:Nat}{f:Addr}{fd:FuncData}{ps:List Str}(F:eh P w K mg base CX k f fd ps (rL K d)):eh P w K mg base CX k f fd ps (Ck K d):=
 F.imp λvs H Q E ⟨a,b,ns,n,m,e,hm,g,hn,q⟩=>by
   have e3:(m:Int) * ck d<=3 * ck d:=Q25 (by omega) (by omega);exact⟨a,b,ns,n,m,e,by omega,g,by omega,λt xs fs J H' h1 h2 L h4 U Y h7 h8 h9 z _ _=>q t xs fs J H' h1 h2 L (by omega) U Y h7 h8 h9 z⟩
variable {P:Program}{w:World}{K:W.Frag}{mg:Str->Option Value}{base:Heap}
theorem Iv:fk ["_law_script","_law_at","_law_cell","_law_m"] ["_law_script","_law_at"] (eR (top 36)):=fA
theorem qe (T:Tb mg)(J:Dn K mg "_law_next" fM (top 36) L U):eh P w K mg base er (1) L U fM (oW K):=by
 refine J.F.ok Iv λvs H Q E h=>?_;obtain⟨a,b,ns,n,rfl,g,hn,q⟩:=h;refine⟨rfl,λaa A outer s nd hr hu=>?_⟩
 refine⟨_,(en (Av (eN jf (iW (pv 1) d_) d_) (Fy (pv 1) d_ set_list))
  (en (eT 2 nd d_)
  (en (eP (eS og (eX g_ (by rfl) T.gC PySem.boot_len (a_ (pv 0) c_)) d_ (eO _)) (eB (eT 2 nd (iW (pv 0) (eN gg (iW (pv 1) d_) (eX g_ (by rfl) T.gC PySem.boot_len (a_ (pv 0) c_)))))) eQ)
  (en (eT 3 nd (eN gg (eN lz (eN jf (eN jf (eN gg (pv 2) d_) (eN lz (eN lz (iW (pv 1) d_) (iW (pv 1) d_)) d_)) d_) d_) d_))
  (eB (eJ (eN gg (eN lz (pv 3) (pv 3)) d_))))))),?_⟩
 ac_rfl
 have hb:=g.at_;have hp:=g.pos;have hS:eF K (upd H b (.lst [.int (n+1)])) a (ns.map V.int):=(SB.wr.jc hb g.jc).sq;have Y:upd H b (.lst [.int (n+1)]) b=some (.lst [.int (n+1)]):=eI;refine⟨_,rfl,b,_,_,_,rfl,rfl,eF.of hb,rfl,_,_,rfl,rfl,_,rfl,b,_,_,0,rfl,rfl,hb,rfl,?_⟩;refine⟨_,rfl,a,_,rfl,.inl hS,_,_,rfl,rfl,_,rfl,?_⟩;have hl:(ns.map V.int).length=ns.length:=Q02 _;refine gu (λc=>?_) (λc=>?_)
 . have c':(0:Int)<((ns.map V.int).length:Nat):=of_decide_eq_true c;rw[hl] at c';have i0:=Q0l (n+1) (show(ns.length:Int)≠0 by omega);have i1:=Q0o (n+1) c'
   have hz:ir (ns.map V.int) ((n+1) % (((ns.map V.int).length:Nat):Int))=some (.int (cellAt ns (n+1))):=by
    rw[hl,int_at i0 i1];unfold cellAt;rw[if_pos (by omega)]
   refine⟨_,rfl,_,rfl,b,_,_,_,rfl,rfl,eF.of Y,rfl,_,rfl,a,_,rfl,.inl hS,_,_,rfl,rfl,by rw[hl];exact c',a,_,_,_,rfl,rfl,hS,hz,?_⟩
   refine⟨_,rfl,_,_,rfl,rfl,(by show(0:Int)<_;decide),_,rfl,b,_,_,_,rfl,rfl,eF.of Y,rfl,_,rfl,b,_,_,_,rfl,rfl,eF.of Y,rfl,_,_,rfl,rfl,.inl ⟨by omega,by omega⟩,_,_,rfl,rfl,.inr ⟨by decide,by decide⟩,
    _,_,rfl,rfl,_,_,rfl,rfl,_,_,rfl,rfl,.inr ⟨by decide,by decide⟩,_,_,rfl,rfl,(by show(0:Int)<_;decide),?_⟩
   refine⟨_,rfl,_,rfl,_,_,rfl,rfl,.inl ⟨?_,?_⟩,_,_,rfl,rfl,(by show(0:Int)<_;decide),q _ SB.wr Y⟩
   . exact Q3d (by decide) (Q0l _ (by decide))
   . exact Int.lt_trans (Q0o _ (by decide)) (by decide)
 . have c':¬(0:Int)<((ns.map V.int).length:Nat):=λz=>c (decide_eq_true z);rw[hl] at c'
   have hz:cellAt ns (n+1)=0:=by
    unfold cellAt;rw[if_neg (by omega)]
   have q':Q (.int (((0:Int) % 2147483647+(n+1) * (n+1) * 7919+11) * 48271 % 2147483647 * (((0:Int) % 2147483647+(n+1) * (n+1) * 7919+11) * 48271 % 2147483647) % 1999999973)) (upd H b (.lst [.int (n+1)])):=by
    have:=q _ SB.wr Y;unfold nx at this;rw[hz] at this;exact this
   refine⟨_,rfl,_,_,rfl,rfl,(by show(0:Int)<_;decide),_,rfl,b,_,_,_,rfl,rfl,eF.of Y,rfl,_,rfl,b,_,_,_,rfl,rfl,eF.of Y,rfl,_,_,rfl,rfl,.inl ⟨by omega,by omega⟩,_,_,rfl,rfl,.inr ⟨by decide,by decide⟩,
    _,_,rfl,rfl,_,_,rfl,rfl,_,_,rfl,rfl,.inr ⟨by decide,by decide⟩,_,_,rfl,rfl,(by show(0:Int)<_;decide),?_⟩
   refine⟨_,rfl,_,rfl,_,_,rfl,rfl,.inl ⟨?_,?_⟩,_,_,rfl,rfl,(by show(0:Int)<_;decide),q'⟩
   . exact Q3d (by decide) (Q0l _ (by decide))
   . exact Int.lt_trans (Q0o _ (by decide)) (by decide)
theorem Iw:fk ["_law_script","_law_at"] ["_law_script","_law_at"] (eR (top 40)):=fA
theorem Cp (T:Tb mg)(z:Dn K mg "_law_plain" fM (top 40) J L)(U:Dn K mg "_law_next" fM (top 36) Y aa)(ab:eh P w K mg base er (1) Y aa fM (k9 K)):eh P w K mg base er (2) J L fM (rK K):=by
 refine z.F.ok Iw λvs H Q E h=>?_;obtain⟨a,b,ns,n,rfl,g,hn,q⟩:=h;refine⟨rfl,λae A outer s nd hr hu=>?_⟩
 refine⟨_,(en (eP (eS fw (eN gg (eL ab hr U (a_ (pv 0) (a_ (pv 1) c_))) d_) d_ (eO _)) (eB (eJ (ik (a_ fh c_)))) eQ)
  (eB (eJ (ik (a_ fh c_))))),?_⟩
 ac_rfl
 refine⟨_,rfl,_,rfl,a,b,ns,n,rfl,g,hn,λr H1 r0 r1 s1 h1=>?_⟩;refine⟨_,_,rfl,rfl,(by show(0:Int)<_;decide),rfl,_,rfl,?_⟩
 have fin:∀(x:Str) (k:Kd),(∀(p:Addr) (H2:Hp),H2 p=some (.tup [.str x])->KA H2 (.ref p) k)->k.dep<=1->oG k->k.W->∀p,H1 p=none->Q (.ref p) (upd H1 p (.tup [.str x])):=λx k hk hd hp hw p ac=>
  q _ k _ (s1.trans (SB.new ac)) (by rw[eA (eM h1 ac)];exact h1) (hk p _ eI) hd hp hw
 refine gu (λc=>?_) (λc=>?_)
 . exact⟨i_,λp hp=>fin _ .num (λp H2 e=>by unfold KA;exact⟨p,rfl,e⟩) (Q00 _) trivial (by unfold Kd.W;trivial) p hp⟩
 . exact⟨i_,λp hp=>fin _ .gQ (λp H2 e=>by unfold KA;exact⟨p,rfl,e⟩) (Q00 _) trivial (by unfold Kd.W;trivial) p hp⟩
theorem Iy:fk ["_law_script","_law_at","_law_m","_law_cell"] ["_law_script","_law_at"] (eR (top 37)):=fA
theorem Iz (T:Tb mg)(J:Dn K mg "_law_number" fM (top 37) L U)(Y:Dn K mg "_law_next" fM (top 36) aa ab)(ac:eh P w K mg base er (1) aa ab fM (oW K)):eh P w K mg base er (2) L U fM (Cn K):=by
 refine J.F.ok Iy λvs H Q E h=>?_;obtain⟨a,b,ns,n,rfl,g,hn,q⟩:=h;refine⟨rfl,λaf A outer s nd hr hu=>?_⟩
 refine⟨_,(en (eT 2 nd (eL ac hr Y (a_ (pv 0) (a_ (pv 1) c_))))
  (en (eT 3 nd d_)
  (en (eP (eS og (eX g_ (by rfl) T.gC PySem.boot_len (a_ (pv 0) c_)) d_ (eO _)) (eB (eT 3 nd (iW (pv 0) (eN gg (iW (pv 1) d_) (eX g_ (by rfl) T.gC PySem.boot_len (a_ (pv 0) c_)))))) eQ)
  (en (eP (eS fw (eN gg (pv 2) d_) d_ (eO _)) (eB (eJ (eN kN (eN gg (eN iC (pv 2) d_) d_) d_))) eQ)
  (eB (eJ (eN kN (eN gg (eN jf (eN gg (pv 3) (eN qM d_ d_)) (eN lz (pv 2) (eN qM d_ d_))) (eN lz d_ (eN qM d_ d_))) (eN qM d_ d_)))))))),?_⟩
 ac_rfl
 refine⟨_,rfl,_,rfl,a,b,ns,n,rfl,g,hn,λH1 s1 h1=>?_⟩;have g1:=g.go s1 h1 (by omega);have hS:=g1.jc.sq;have r0:=uz ns (n+1);have r1:=uA ns (n+1);have hl:(ns.map V.int).length=ns.length:=Q02 _;have hq:∀e,num ns (n+1)=e->Q (.int e) H1:=λe he=>by rw[<-he];exact q _ s1 h1
 unfold num at hq;refine⟨_,rfl,a,_,rfl,.inl hS,_,_,rfl,rfl,_,rfl,?_⟩;have pw:tG 10 40:=⟨by decide,by decide,by decide⟩;have ae:tG 10 29:=⟨by decide,by decide,by decide⟩;refine gu (λc=>?_) (λc=>?_)
 . have c':(0:Int)<((ns.map V.int).length:Nat):=of_decide_eq_true c;rw[hl] at c';have i0:=Q0l (n+1) (show(ns.length:Int)≠0 by omega);have i1:=Q0o (n+1) c'
   have hz:ir (ns.map V.int) ((n+1) % (((ns.map V.int).length:Nat):Int))=some (.int (cellAt ns (n+1))):=by
    rw[hl,int_at i0 i1];unfold cellAt;rw[if_pos (by omega)]
   refine⟨_,rfl,_,rfl,b,_,_,_,rfl,rfl,eF.of h1,rfl,_,rfl,a,_,rfl,.inl hS,_,_,rfl,rfl,by rw[hl];exact c',a,_,_,_,rfl,rfl,hS,hz,?_⟩;refine⟨_,rfl,_,_,rfl,rfl,(by show(0:Int)<_;decide),rfl,_,rfl,gu (λc2=>?_) (λc2=>?_)⟩
   . have c3:nx ns (n+1) % 3=0:=by
      have:=of_decide_eq_true c2;injection this
     refine⟨_,rfl,_,_,rfl,rfl,⟨by decide,by decide⟩,_,_,rfl,rfl,(by show(0:Int)<_;decide),_,_,rfl,rfl,hq _ (by rw[if_pos c3])⟩
   . have c3:¬nx ns (n+1) % 3=0:=λz=>c2 (decide_eq_true (show V.int (nx ns (n+1) % 3)=V.int 0 by rw[z]));refine⟨_,rfl,_,_,rfl,rfl,pw,_,_,rfl,rfl,(by show(0:Int)<_;decide),_,rfl,_,_,rfl,rfl,ae,_,_,rfl,rfl,.inl ⟨by omega,by omega⟩,_,_,rfl,rfl,_,_,rfl,rfl,pw,_,_,rfl,rfl,.inl ⟨by decide,by decide⟩,_,_,rfl,rfl,(by show(0:Int)<_;decide),_,_,rfl,rfl,pw,_,_,rfl,rfl,hq _ (by rw[if_neg c3];rfl)⟩
 . have c':¬(0:Int)<((ns.map V.int).length:Nat):=λz=>c (decide_eq_true z);rw[hl] at c'
   have hz:cellAt ns (n+1)=0:=by
    unfold cellAt;rw[if_neg (by omega)]
   refine⟨_,rfl,_,_,rfl,rfl,(by show(0:Int)<_;decide),rfl,_,rfl,gu (λc2=>?_) (λc2=>?_)⟩
   . have c3:nx ns (n+1) % 3=0:=by
      have:=of_decide_eq_true c2;injection this
     refine⟨_,rfl,_,_,rfl,rfl,⟨by decide,by decide⟩,_,_,rfl,rfl,(by show(0:Int)<_;decide),_,_,rfl,rfl,hq _ (by rw[if_pos c3])⟩
   . have c3:¬nx ns (n+1) % 3=0:=λz=>c2 (decide_eq_true (show V.int (nx ns (n+1) % 3)=V.int 0 by rw[z]));refine⟨_,rfl,_,_,rfl,rfl,pw,_,_,rfl,rfl,(by show(0:Int)<_;decide),_,rfl,_,_,rfl,rfl,ae,_,_,rfl,rfl,.inl ⟨by omega,by omega⟩,_,_,rfl,rfl,_,_,rfl,rfl,pw,_,_,rfl,rfl,.inl ⟨by decide,by decide⟩,_,_,rfl,rfl,(by show(0:Int)<_;decide),_,_,rfl,rfl,pw,_,_,rfl,rfl,hq _ (by rw[if_neg c3,hz];rfl)⟩
theorem oY:j3.length=93:=by decide +kernel
theorem Cq {z:Int}(J:0<=z)(h1:z<93):ir j3.cps.toList z=some (j3.cps.toList.getD z.toNat 0):=by
 have hl:j3.cps.toList.length=93:=by
  have:=oY;rw[Q1n];exact this
 unfold ir lC;rw[hl,if_pos J,if_pos (show z<((93:Nat):Int) by omega)];show j3.cps.toList[z.toNat]? =_;rw[Q0f,Q03 (by omega)];rfl
theorem uL (m:Int):∀k,(oH m k).length=k
 |0=>rfl
 |k+1=>by
  show(oH m k++_).length=_;rw[B9,uL m k];rfl
noncomputable def σW (a b:Addr) (m:Int) (k:Int) (w:Str) (y z:Option V):St:=[some (.ref a),some (.ref b),some (.str j3),some (.int m),some (.int k),some (.str w),y,z]
theorem IA:fk ["_law_script","_law_at","_law_signs","_law_m","_law_many","_law_word_here","_law_k","_law_place_here"] ["_law_script","_law_at"] (eR (top 38)):=fA
theorem IB (T:Tb mg)(J:Dn K mg "_law_word" fM (top 38) L U)(Y:Dn K mg "_law_next" fM (top 36) aa ab)(ac:eh P w K mg base er (1) aa ab fM (oW K)):eh P w K mg base er (2) L U fM (Co K):=by
 refine J.F.ok IA λvs H Q E h=>?_;obtain⟨a,b,ns,n,rfl,g,hn,q⟩:=h;refine⟨rfl,λaf A outer s nd hr hu=>?_⟩
 refine⟨_,(en (eT 2 nd fh)
  (en (eT 2 nd (eN ml (pv 2) fh))
  (en (eT 3 nd (eL ac hr Y (a_ (pv 0) (a_ (pv 1) c_))))
  (en (eT 4 nd (eN gg (pv 3) d_))
  (en (eP (eS fw (eN gg (eN iC (pv 3) d_) d_) d_ (eO _)) (eB (eT 4 nd d_)) eQ)
  (en (eT 5 nd fh)
  (en (ic PassesOwn.never rfl (m7 rfl T.mw (a_ (pv 4) c_)) (ff (i:=6) nd rfl fL) (en (eT 7 nd (eN jf (eN iC (pv 3) d_) (eN lz (eN lz (pv 6) (pv 6)) (eN gg (eN iC (pv 3) d_) d_))))
  (eB (eT 5 nd (eN ml (pv 5) (lD ng (pv 2) (eN gg (pv 7) (eX Gm (by rfl) T.gC PySem.boot_len (a_ (pv 2) c_))) (λ_ _=>rfl)))))))
  (eB (eJ (pv 5)))))))))),?_⟩
 ac_rfl
 have ae:(j3).length<=sizeLine:=by rw[oY];decide
 refine⟨_,rfl,_,_,rfl,rfl,ae,?_⟩;refine⟨_,rfl,_,rfl,a,b,ns,n,rfl,g,hn,λH1 s1 h1=>?_⟩;have r0:=uz ns (n+1);have r1:=uA ns (n+1);have hq:∀e,gQ ns (n+1)=e->Q (.str e) H1:=λe he=>by rw[<-he];exact q _ s1 h1
 unfold gQ at hq;generalize nx ns (n+1)=m at *;refine⟨_,rfl,_,_,rfl,rfl,(by show(0:Int)<_;decide),?_⟩;refine⟨_,rfl,_,_,rfl,rfl,⟨by decide,by decide⟩,_,_,rfl,rfl,(by show(0:Int)<_;decide),rfl,_,rfl,gu (λc=>?_) (λc=>?_)⟩
 . have c3:m / 5 % 29=0:=by
    have:=of_decide_eq_true c;injection this
   rw[if_pos c3] at hq;refine⟨_,rfl,_,rfl,by decide,by decide,mi (n:=Int.toNat 40) (λi σ H'=>∃y z,σ=σW a b m 40 (oH m i) y z/\H'=H1) ⟨_,_,rfl,rfl⟩ ?_ ?_⟩
   . rintro i σ H' hi ⟨y,z,rfl,rfl⟩;have hi:i<40:=hi;have e0:(0:Int)+(i:Int)=(i:Int):=by omega
     have l3:0<=(m / 145+((0:Int)+(i:Int)) * ((0:Int)+(i:Int)) * (m / 7 % 3)) % 93/\(m / 145+((0:Int)+(i:Int)) * ((0:Int)+(i:Int)) * (m / 7 % 3)) % 93<93:=⟨Q0l _ (by decide),Q0o _ (by decide)⟩;refine⟨_,rfl,_,_,rfl,rfl,⟨by decide,by decide⟩,_,rfl,_,rfl,_,_,rfl,rfl,.inl ⟨by omega,by omega⟩,_,rfl,_,_,rfl,rfl,⟨by decide,by decide⟩,_,_,rfl,rfl,(by show(0:Int)<_;decide),_,_,rfl,rfl,.inr ⟨by omega,by omega⟩,_,_,rfl,rfl,?_⟩;refine⟨_,rfl,_,rfl,_,rfl,_,rfl,_,rfl,ae,_,_,rfl,rfl,(by show(0:Int)<((j3.length:Nat):Int);rw[oY];decide),j3,_,_,rfl,rfl,ae,(by rw[oY];exact Cq l3.1 l3.2),_,_,rfl,rfl,?_,?_⟩
     . rw[uL];show i+1<=sizeLine;exact Q0s (fX (by omega))
     . rw[e0];exact⟨_,_,rfl,rfl⟩
   . rintro σ H' ⟨y,z,rfl,rfl⟩;exact⟨_,rfl,hq _ rfl⟩
 . have c3:¬m / 5 % 29=0:=λz=>c (decide_eq_true (show V.int (m / 5 % 29)=V.int 0 by rw[z]));rw[if_neg c3] at hq;have h5:0<=m % 5/\m % 5<5:=by omega
   refine⟨_,rfl,_,rfl,by omega,by omega,mi (n:=Int.toNat (m % 5)) (λi σ H'=>∃y z,σ=σW a b m (m % 5) (oH m i) y z/\H'=H1) ⟨_,_,rfl,rfl⟩ ?_ ?_⟩
   . rintro i σ H' hi ⟨y,z,rfl,rfl⟩;have hi:i<40:=by omega
     have e0:(0:Int)+(i:Int)=(i:Int):=by omega
     have l3:0<=(m / 145+((0:Int)+(i:Int)) * ((0:Int)+(i:Int)) * (m / 7 % 3)) % 93/\(m / 145+((0:Int)+(i:Int)) * ((0:Int)+(i:Int)) * (m / 7 % 3)) % 93<93:=⟨Q0l _ (by decide),Q0o _ (by decide)⟩;refine⟨_,rfl,_,_,rfl,rfl,⟨by decide,by decide⟩,_,rfl,_,rfl,_,_,rfl,rfl,.inl ⟨by omega,by omega⟩,_,rfl,_,_,rfl,rfl,⟨by decide,by decide⟩,_,_,rfl,rfl,(by show(0:Int)<_;decide),_,_,rfl,rfl,.inr ⟨by omega,by omega⟩,_,_,rfl,rfl,?_⟩;refine⟨_,rfl,_,rfl,_,rfl,_,rfl,_,rfl,ae,_,_,rfl,rfl,(by show(0:Int)<((j3.length:Nat):Int);rw[oY];decide),j3,_,_,rfl,rfl,ae,(by rw[oY];exact Cq l3.1 l3.2),_,_,rfl,rfl,?_,?_⟩
     . rw[uL];show i+1<=sizeLine;exact Q0s (fX (by omega))
     . rw[e0];exact⟨_,_,rfl,rfl⟩
   . rintro σ H' ⟨y,z,rfl,rfl⟩;exact⟨_,rfl,hq _ rfl⟩
theorem IC (n:Nat)(h:n<=1000):Builtin.Str.tooLong n=false:=by
 have:n<=sizeLine:=Q0s (fX h);unfold Builtin.Str.tooLong;exact decide_eq_false (by omega)
theorem ID (f:Nat->Str)(i:Nat):((List.range (i+1)).map f).map V.str=((List.range i).map f).map V.str++[V.str (f i)]:=by
 rw[Q3e,Q0h,Q0h];rfl
noncomputable abbrev abc:Str:="abcdefghijklmnopqrstuvwxyz"
noncomputable abbrev stemOf (r:Int):Str:=lt (r / 6 % 26)++lt (r / 156 % 26)
noncomputable def σN (a b:Addr) (m:Nat) (r:Int) (p:Addr) (y z:Option V):St:=
 [some (.ref a),some (.ref b),some (.int m),some (.str abc),some (.int r),some (.int (2 * (r % 6)+1)),some (.str (stemOf r)),some (.int (r / 4056 % 3)),some (.ref p),y,z]
theorem IE:fk ["_law_script","_law_at","_law_many","_law_letters","_law_m","_law_step","_law_stem","_law_cut","_law_names_here","_law_k","_law_sign"] ["_law_script","_law_at","_law_many"] (eR (top 39)):=fA
theorem Cr (T:Tb mg)(J:Dn K mg "_law_names" nK (top 39) L U)(Y:Dn K mg "_law_next" fM (top 36) aa ab)(ac:eh P w K mg base er (1) aa ab fM (k9 K)):eh P w K mg base er (2) L U nK (uK K):=by
 refine J.F.ok IE λvs H Q E h=>?_;obtain⟨a,b,ns,n,m,rfl,hm,g,hn,q⟩:=h;refine⟨rfl,λan A outer s nd hr hu=>?_⟩
 refine⟨_,(en (eT 3 nd fh)
  (en (eT 4 nd (eL ac hr Y (a_ (pv 0) (a_ (pv 1) c_))))
  (en (eT 5 nd (iW (gA (a_ d_ (a_ d_ (a_ d_ (a_ d_ (a_ d_ (a_ d_ c_))))))) (eN gg (pv 4) d_)))
  (en (eT 6 nd (eN ml (lD ng (pv 3) (eN gg (eN iC (pv 4) d_) d_) (λ_ _=>rfl)) (lD ng (pv 3) (eN gg (eN iC (pv 4) d_) d_) (λ_ _=>rfl))))
  (en (eT 7 nd (eN gg (eN iC (pv 4) d_) d_))
  (en (eT 8 nd (gA c_))
  (en (ic PassesOwn.never rfl (m7 rfl T.mw (a_ (pv 2) c_)) (ff (i:=9) nd rfl fL) (eB (eP (eS fw (eN gg (eN iC (pv 4) d_) d_) d_ (eO _)) (eB (jt (lG PySem.F.plainAttrs_list PySem.F.slot_list_append PySem.F.type_list_append pK (pv 8) (a_ (eN G7 (lD ng (pv 3) (eN gg (eN iC (pv 4) d_) d_) (λ_ _=>rfl)) (eN jf (pv 9) d_)) c_)))) (en (eT 10 nd (lD ng (pv 3) (eN gg (eN jf (eN iC (pv 4) d_) (eN lz (pv 9) (pv 5))) d_) (λ_ _=>rfl)))
  (eB (jt (lG PySem.F.plainAttrs_list PySem.F.slot_list_append PySem.F.type_list_append pK (pv 8) (a_ (eN ml (eN ml (tU Bm (pv 6) tQ (tR (pv 7))) (pv 10)) (tU Bm (pv 6) (tR (pv 7)) tQ)) c_))))))))
  (eB (eJ (eX GZ (by rfl) T.rq boot_sorted (a_ (pv 8) c_))))))))))),?_⟩
 ac_rfl
 refine⟨_,rfl,_,rfl,a,b,ns,n,rfl,g,hn,λr H1 r0 r1 s1 h1=>?_⟩;have hz:(abc).length<=sizeLine:=by decide +kernel
 have m6:0<=r % 6/\r % 6<6:=by omega
 have l1:0<=r / 6 % 26/\r / 6 % 26<26:=by omega
 have l2:0<=r / 156 % 26/\r / 156 % 26<26:=by omega
 refine⟨Ir,λp1 aj=>?_⟩;refine⟨_,rfl,_,_,rfl,rfl,(by show(0:Int)<_;decide),p1,_,_,_,rfl,rfl,eF.of eI,Ic m6.1 m6.2,?_⟩;have s2:SB b H (upd H1 p1 (.lst [.int 1,.int 3,.int 5,.int 7,.int 9,.int 11])):=s1.trans (SB.new aj);have h2:upd H1 p1 (.lst [.int 1,.int 3,.int 5,.int 7,.int 9,.int 11]) b=some (.lst [.int (n+1)]):=by rw[eA (eM h1 aj)];exact h1
 generalize upd H1 p1 (.lst [.int 1,.int 3,.int 5,.int 7,.int 9,.int 11])=H2 at s2 h2
 refine⟨_,rfl,_,rfl,_,_,rfl,rfl,⟨by decide,by decide⟩,_,_,rfl,rfl,(by show(0:Int)<_;decide),_,_,_,rfl,rfl,hz,oN l1.1 l1.2,_,rfl,_,rfl,_,_,rfl,rfl,⟨by decide,by decide⟩,_,_,rfl,rfl,(by show(0:Int)<_;decide),_,_,_,rfl,rfl,hz,oN l2.1 l2.2,
  _,_,rfl,rfl,hX,?_⟩
 refine⟨_,rfl,_,_,rfl,rfl,⟨by decide,by decide⟩,_,_,rfl,rfl,(by show(0:Int)<_;decide),?_⟩;refine⟨jI,λp hp=>?_⟩;have al:p≠b:=λz=>by rw[z,h2] at hp;cases hp
 have em:Int.toNat (m:Int)=m:=by omega
 refine⟨_,rfl,_,rfl,by omega,by omega,mi (n:=Int.toNat (m:Int)) (λi σ H'=>∃y z,σ=σN a b m r p y z/\SB b H H'/\H' b=some (.lst [.int (n+1)])/\H' p=some (.lst (((List.range i).map (nameAt r)).map V.str))) ?_ ?_ ?_⟩
 . exact⟨_,_,rfl,s2.trans (SB.new hp),by rw[eA (eM h2 hp)];exact h2,eI⟩
 . rintro i σ H' hi ⟨y,z,rfl,sb,ah,af⟩;rw[em] at hi
   have ae:(((List.range i).map (nameAt r)).map V.str).length<sizeLine:=by
    rw[Q02,Q02,Q1u];exact fX (by omega)
   have next:∀(v:Str) (y' z':Option V),v=nameAt r i->∃y z,σN a b m r p y' z'=σN a b m r p y z/\SB b H (upd H' p (.lst (((List.range i).map (nameAt r)).map V.str++[V.str v])))/\
    upd H' p (.lst (((List.range i).map (nameAt r)).map V.str++[V.str v])) b=some (.lst [.int (n+1)])/\upd H' p (.lst (((List.range i).map (nameAt r)).map V.str++[V.str v])) p=some (.lst (((List.range (i+1)).map (nameAt r)).map V.str)):=by
    rintro v y' z' rfl;refine⟨y',z',rfl,λc o hc hh=>?_,by rw[eA (Ne.symm al)];exact ah,by rw[eI,ID]⟩;by_cases e:c=p
    . subst e;have:=s2 c o hc hh;rw[hp] at this;cases this
    . rw[eA e];exact sb c o hc hh
   have e0:(0:Int)+(i:Int)=(i:Int):=by omega
   refine⟨_,rfl,_,_,rfl,rfl,⟨by decide,by decide⟩,_,_,rfl,rfl,(by show(0:Int)<_;decide),rfl,_,rfl,?_⟩;refine gu (λc=>?_) (λc=>?_)
   . have c':r / 12168 % 4=0:=by
      have:=of_decide_eq_true c;injection this
     refine⟨_,rfl,.inl ⟨rfl,_,eF.of af⟩,_,rfl,_,rfl,_,_,rfl,rfl,⟨by decide,by decide⟩,_,_,rfl,rfl,(by show(0:Int)<_;decide),_,_,_,rfl,rfl,hz,oN l1.1 l1.2,_,rfl,_,_,rfl,rfl,_,_,rfl,rfl,?_,p,_,_,rfl,rfl,af,ae,?_⟩
     . rw[e0];exact Ij (rm _) (by omega) IC
     . refine next _ _ _ ?_;rw[e0];unfold nameAt;rw[if_pos c'];rfl
   . have c':¬r / 12168 % 4=0:=λz=>c (decide_eq_true (show V.int (r / 12168 % 4)=V.int 0 by rw[z]));have l3:0<=(r / 156+((0:Int)+(i:Int)) * (2 * (r % 6)+1)) % 26/\(r / 156+((0:Int)+(i:Int)) * (2 * (r % 6)+1)) % 26<26:=⟨Q0l _ (by decide),Q0o _ (by decide)⟩;have ls:(stemOf r).length<=sizeLine:=hX;refine⟨_,rfl,_,rfl,_,_,rfl,rfl,⟨by decide,by decide⟩,_,rfl,_,rfl,_,_,rfl,rfl,.inl ⟨by omega,by omega⟩,_,_,rfl,rfl,_,_,rfl,rfl,(by show(0:Int)<_;decide),_,_,_,rfl,rfl,hz,oN l3.1 l3.2,?_⟩;have k1:=Txt.slice_le (stemOf r) none (some (r / 4056 % 3));have k2:=Txt.slice_le (stemOf r) (some (r / 4056 % 3)) none;have k0:(stemOf r).length=2:=rfl;rw[k0] at k1 k2;refine⟨_,rfl,.inl ⟨rfl,_,eF.of af⟩,_,rfl,_,rfl,_,rfl,_,rfl,ls,_,rfl,_,_,rfl,rfl,?_,_,rfl,_,rfl,_,rfl,_,rfl,ls,_,_,rfl,rfl,?_,p,_,_,rfl,rfl,af,ae,?_⟩
     . show _+1<=sizeLine;exact Q05 (Q3f k1 1) (by decide)
     . rw[B9];show _+1+_<=sizeLine;exact Q05 (Nat.add_le_add (Q3f k1 1) k2) (by decide)
     . refine next _ _ _ ?_;rw[e0];unfold nameAt;rw[if_neg c'];rfl
 . rintro σ H' ⟨y,z,rfl,sb,ah,af⟩;rw[em] at af;have ae:((List.range m).map (nameAt r)).length=m:=by rw[Q02,Q1u]
   refine⟨_,rfl,p,_,rfl,eF.of af,by rw[ae];omega,λp' am ai ag ak=>?_⟩;refine q p' am _ (sb.trans (SB.new ai)) (by rw[eA (eM ah ai)];exact ah) (λz=>by rw[z,ah] at ai;cases ai) eI (ag.length_eq.trans ae) (ag.nodup_iff.mpr (names_nodup r0 hm)) (Cc ak) λx hx=>?_;obtain⟨i,hi,rfl⟩:=List.mem_map.mp (ag.mem_iff.mp hx);exact Io (by have:=List.mem_range.mp hi;omega)
theorem IF:fk ["_law_script","_law_at","_law_many","_law_deep","_law_names_here"] ["_law_script","_law_at","_law_many","_law_deep"] (eR (top 41)):=fA
theorem Cs (d:Nat)(T:Tb mg)(J:Dn K mg "_law_fields" j5 (top 41) L U)(Y:Dn K mg "_law_names" nK (top 39) aa ab)(ac:eh P w K mg base er (2) aa ab nK (uK K))(ae:Dn K mg "_law_kind" ky (top 43) af ag)(ah:eh P w K mg base er (2 * d+4) af ag ky (oX K d)):eh P w K mg base er (2 * d+5) L U j5 (rL K d):=by
 refine J.F.ok IF λvs H Q E h=>?_;obtain⟨a,b,ns,n,m,rfl,hm,g,hn,q⟩:=h;refine⟨rfl,λaE A outer s nd hr hu=>?_⟩
 refine⟨_,(en (eT 4 nd (eL ac hr Y (a_ (pv 0) (a_ (pv 1) (a_ (pv 2) c_)))))
  (eB (eJ (jO pJ (by rfl) T.lP boot_tuple (a_ (jT (g:=(gK 0)) (tt:=jS) (te:=(pG (gR (fv 0) (gR (lB _ _ _ (gR (fv 1) (gR (fv 2) (gR (fv 4) jh)))) jh)))) (own:=["_law_name"]) rfl (iT (N:=["_law_script","_law_at","_law_many","_law_deep","_law_names_here"]) (sc:=eR (top 41))) (mf (pv 4)) (λ_ _ _ _ _=>(ff (i:=0) (show(["_law_name","_law_script","_law_at","_law_many","_law_deep","_law_names_here"]:List Str).Nodup by decide +kernel) rfl (Or.inl rfl) (.inr rfl))) (λ_ _ _ _ _=>kq) (λ_ _ _ _ _=>(ik (a_ (pv 0) (a_ (eL ah hr ae (a_ (pv 1) (a_ (pv 2) (a_ (pv 4) c_)))) c_))))) c_))))),?_⟩
 ac_rfl
 have aF:0<=(m:Int) * ck d:=Int.mul_nonneg (by omega) (by omega);have ar:n<=1000000000000:=by omega
 refine⟨_,rfl,_,rfl,_,rfl,a,b,ns,n,m,rfl,by omega,g,ar,λp ss H1 s1 h1 au hp hl av aw ap=>?_⟩
 refine⟨_,rfl,p,rfl,⟨_,eF.of hp⟩,λi m' ys H'=>m'=ss.length - i/\i<=ss.length/\∃(fs:Fs) (n':Int),SB b H H'/\H' b=some (.lst [.int n'])/\n<=n'/\n'<=n+1+i * ck d/\H' p=some (.lst (ss.map V.str))/\FA H' ys fs/\fs.names=ss.take i/\fs.dep<=d+1/\ys.length=i/\fs.W,
  ⟨_,rfl,Q0b _,.nil,n+1,s1,h1,by omega,by omega,hp,by unfold FA;rfl,by simp[Fs.names],by simp[Fs.dep],rfl,by unfold Fs.W;trivial⟩,?_⟩
 rintro i m' ys H' ⟨rfl,aD,fs,n',sb,ak,z1,z2,al,hf,ai,ax,hy,hW⟩;by_cases hi:i<ss.length
 . refine .inr ⟨⟨_,.str ss[i],eF.of al,by rw[Q0g,Q03 hi];rfl⟩,fX (by omega),λx ay y=>?_⟩;obtain⟨rfl,y⟩:=y;have hx:=y _ (eF.of al)
   have ex:x=.str ss[i]:=by
    rw[Q0g,Q03 hi] at hx;exact(Option.some.inj hx).symm
   subst ex;refine⟨rfl,yes (gB ?_)⟩;have az:((i:Int)+1) * ck d<=(m:Int) * ck d:=Q25 (by omega) (by omega);rw[Q2n,Int.one_mul] at az;refine⟨_,rfl,_,rfl,_,rfl,_,rfl,a,b,ns,n',rfl,g.go sb ak z1,by omega,λv k aA H2 s2 h2 y1 y2 hk aG aB=>?_⟩;refine⟨hX,λt ht=>?_⟩;have aC:t≠b:=λz=>by rw[z,h2] at ht;cases ht
   have an:Tu H2 (upd H2 t (.tup [.str ss[i],v])):=Tu.of (λc o h=>by rw[eA (eM h ht)];exact h);have tu:Tu ay (upd H2 t (.tup [.str ss[i],v])):=(s2.tu ak).trans an;refine⟨_,Q2o hi (Q10 i),rfl,hi,fs.snoc ss[i] k,aA,sb.trans (s2.trans (SB.new ht)),by rw[eA (Ne.symm aC)];exact h2,by omega,?_,?_,FA.snoc eI (KA.mono an k hk) fs (FA.mono tu fs hf),?_,?_,?_,Fs.uu aB hW⟩
   . have e:((i+1:Nat):Int) * ck d=(i:Int) * ck d+ck d:=by
      rw[Q3g,Q2n];simp
     rw[e];omega
   . have h3:=s2 p _ au al;rw[eA (eM h3 ht)];exact h3
   . rw[Fs.uq,ai,Q0p,Q03 hi];rfl
   . rw[Fs.ur];omega
   . rw[Q0c,hy];rfl
 . have ei:i=m:=by omega
   subst ei;refine .inl ⟨⟨_,eF.of al,by rw[Q02];omega⟩,λp' aj=>?_⟩;refine⟨p',ys,rfl,.inl ⟨eF.of eI,λt ht=>?_⟩⟩;have aq:p'≠b:=λz=>by rw[z,ak] at aj;cases aj
   have ao:upd H' p' (.lst ys) b=some (.lst [.int n']):=by rw[eA (Ne.symm aq)];exact ak
   have tu:Tu H' (upd (upd H' p' (.lst ys)) t (.tup ys)):=λc xs h=>by
    rw[eA (eM (show upd H' p' (.lst ys) c=some (.tup xs) by rw[eA (eM h aj)];exact h) ht),eA (eM h aj)];exact h
   have am:ss.take i=ss:=by rw[<-hl,Q1k]
   refine q t ys fs n' _ (sb.trans ((SB.new aj).trans (SB.new ht))) (by rw[eA (eM ao ht)];exact ao) z1 (by omega) eI (FA.mono tu fs hf) ?_ ?_ ax hW ?_ ?_
   . rw[ai,am];exact av
   . rw[ai,am];exact hl
   . rw[ai,am];exact aw
   . rw[ai,am];exact ap
noncomputable def σR (a b:Addr) (m d:Nat) (p:Addr) (r:Int) (J:Addr) (x y z:Option V):St:=
 [some (.ref a),some (.ref b),some (.int m),some (.int d),some (.ref p),some (.int r),some (.int (r % m)),some (.int (r / m % (m+1))),some (.ref J),x,y,z]
theorem uM {ss:List Str}{z:Int}(J:0<=z)(h1:z<ss.length):∃x:Str,ir (ss.map V.str) z=some (.str x)/\ss[z.toNat]? =some x:=by
 obtain⟨j,rfl⟩:∃j:Nat,z=(j:Int):=⟨z.toNat,by omega⟩;exact⟨ss[j]'(by omega),jY (by rw[Q0g,Q03 (by omega)];rfl),by rw[Q3c];exact Q03 (by omega)⟩
theorem Fs.Ct:∀{fs:Fs}{x:Str}{k:Kd}{j:Nat}{y:Str}{q:Kd},fs.at j=some (y,q)->(fs.snoc x k).at j=some (y,q)
 | .nil,_,_,_,_,_,h=>by cases h
 | .cons _ _ _,_,_,0,_,_,h=>h
 | .cons _ _ r,x,k,j+1,y,q,h=>Fs.Ct (fs:=r) (j:=j) h
theorem Fs.Cu:∀{fs:Fs}{x:Str}{k:Kd},(fs.snoc x k).at fs.names.length=some (x,k)
 | .nil,_,_=>rfl
 | .cons _ _ r,x,k=>Fs.Cu (fs:=r)
theorem IG:fk ["_law_script","_law_at","_law_many","_law_deep","_law_names_here","_law_m","_law_lead","_law_by","_law_fields_here","_law_k","_law_kind_here","_law_name"] ["_law_script","_law_at","_law_many","_law_deep"] (eR (top 42)):=fA
theorem IH (d:Nat)(T:Tb mg)(U:Dn K mg "_law_rows_kind" j5 (top 42) Y aa)(ae:Dn K mg "_law_names" nK (top 39) af ag)(ah:eh P w K mg base er (2) af ag nK (Cj K))(an:Dn K mg "_law_next" fM (top 36) ao ap)(aq:eh P w K mg base er (1) ao ap fM (k9 K))(ai:Dn K mg "_law_plain" fM (top 40) aj ak)(al:eh P w K mg base er (2) aj ak fM (rK K))(ar:Dn K mg "_law_kind" ky (top 43) au av)(aw:eh P w K mg base er (2 * d+4) au av ky (oX K d)):
 eh P w K mg base er (2 * d+5) Y aa j5 (Cm K d):=by
 refine U.F.ok IG λvs H Q E h=>?_;obtain⟨a,b,ns,n,m,rfl,bm,hm,g,hn,q⟩:=h;refine⟨rfl,λbn A outer s nd hr hu=>?_⟩
 refine⟨_,(en (eT 4 nd (eL ah hr ae (a_ (pv 0) (a_ (pv 1) (a_ (pv 2) c_)))))
  (en (eT 5 nd (eL aq hr an (a_ (pv 0) (a_ (pv 1) c_))))
  (en (eT 6 nd (eN gg (pv 5) (pv 2)))
  (en (eT 7 nd (eN gg (eN iC (pv 5) (pv 2)) (eN jf (pv 2) d_)))
  (en (eT 8 nd (gA c_))
  (en (ic PassesOwn.never rfl (m7 rfl T.mw (a_ (pv 2) c_)) (ff (i:=9) nd rfl fL) (en (eT 10 nd (eL aw hr ar (a_ (pv 0) (a_ (pv 1) (a_ (pv 3) c_)))))
  (en (eP (PW.pt (ib (eS fw (pv 9) (pv 6) (eO _)) (ig (eS fw (pv 9) (pv 7) (eO _))))) (eB (eT 10 nd (eL al hr ai (a_ (pv 0) (a_ (pv 1) c_))))) eQ)
  (eB (jt (lG PySem.F.plainAttrs_list PySem.F.slot_list_append PySem.F.type_list_append pK (pv 8) (a_ (ik (a_ (iW (pv 4) (pv 9)) (a_ (pv 10) c_))) c_)))))))
  (en (eT 11 nd fh)
  (en (eP (PW.pt (mU (eS qN (pv 7) (pv 2) (eO _)) (mT (eS gZ (pv 7) (pv 6) (eO _))))) (eB (eT 11 nd (iW (pv 4) (pv 7)))) eQ)
  (eB (eJ (ik (a_ fh (a_ (iW (pv 4) (pv 6)) (a_ (pv 11) (a_ (jO pJ (by rfl) T.lP boot_tuple (a_ (pv 8) c_)) c_))))))))))))))),?_⟩
 ac_rfl
 refine⟨_,rfl,_,rfl,_,rfl,a,b,ns,n,m,rfl,by omega,g,by omega,λp ss H1 s1 h1 aA hp hl a7=>?_⟩;refine⟨_,rfl,_,rfl,a,b,ns,n+1,rfl,g.go s1 h1 (by omega),by omega,λr H2 r0 r1 s2 h2=>?_⟩;have aL:H2 p=some (.lst (ss.map V.str)):=s2 p _ aA hp;have aT:SB b H H2:=s1.trans s2;refine⟨_,rfl,_,rfl,_,_,rfl,rfl,by omega,?_⟩;refine⟨_,rfl,_,rfl,_,_,rfl,rfl,⟨by omega,by omega⟩,_,rfl,_,_,rfl,rfl,_,_,rfl,rfl,by omega,?_⟩;refine⟨jI,λJ aB=>?_⟩;have ab:J≠b:=λz=>by rw[z,h2] at aB;cases aB
 have aU:p≠J:=λz=>by rw[z,aB] at aL;cases aL
 have a3:∀o,H J=some o->False:=λo ho=>by
  have:=aT J o ab ho;rw[aB] at this;cases this
 have em:Int.toNat (m:Int)=m:=by omega
 refine⟨_,rfl,_,rfl,by omega,by omega,mi (n:=Int.toNat (m:Int)) (λi σ H'=>∃(x y z:Option V) (n':Int) (ys:List V) (fs:Fs),σ=σR a b m d p r J x y z/\SB b H H'/\H' b=some (.lst [.int n'])/\n<=n'/\n'<=n+2+i * (ck d+1)/\
  H' p=some (.lst (ss.map V.str))/\H' J=some (.lst ys)/\FA H' ys fs/\fs.dep<=d+1/\ys.length=i/\fs.W/\fs.names=ss.take i/\∀j:Nat,j<i->((j:Int)=r % m\/(j:Int)=r / m % (m+1))->∃y q,fs.at j=some (y,q)/\oG q) ?_ ?_ ?_⟩
 . refine⟨_,_,_,n+1+1,[],.nil,rfl,aT.trans (SB.new aB),by rw[eA (Ne.symm ab)];exact h2,by omega,by omega,by rw[eA aU];exact aL,eI,by unfold FA;rfl,by simp[Fs.dep],rfl,by unfold Fs.W;trivial,rfl,λj hj=>absurd hj (by omega)⟩
 . rintro i σ H' hi ⟨x,y,z,n',ys,fs,rfl,sb,ax,z1,z2,am,L,aH,a8,hy,hW,aI,aJ⟩;rw[em] at hi;have a9:(i:Int)<=2:=by omega
   have bo:(i:Int) * (ck d+1)<=2 * (ck d+1):=Q25 a9 (by omega)
   have e1:((i+1:Nat):Int) * (ck d+1)=(i:Int) * (ck d+1)+(ck d+1):=by
    rw[Q3g,Q2n];simp
   have aC:ys.length<sizeLine:=fX (by omega);have ba:∃q:Str,ir (ss.map V.str) ((0:Int)+(i:Int))=some (.str q)/\ss[((0:Int)+(i:Int)).toNat]? =some q:=uM (by omega) (by omega);obtain⟨nm,aD,ay⟩:=ba
   have ay:ss[i]? =some nm:=by
    rw[show((0:Int)+(i:Int)).toNat=i by omega] at ay;exact ay
   have bb:fs.names.length=i:=by rw[<-FA.len fs aH];exact hy
   have next:∀(x' y' z':Option V) (v:V) (k:Kd) (n2:Int) (H3:Hp) (t:Addr),SB b H' H3->H3 b=some (.lst [.int n2])->n'<=n2->n2<=n'+(ck d+1)->KA H3 v k->k.dep<=d+1->k.W->(((i:Int)=r % m\/(i:Int)=r / m % (m+1))->oG k)->H3 t=none->
    ∃(x y z:Option V) (n':Int) (aM:List V) (fs:Fs),σR a b m d p r J x' y' z'=σR a b m d p r J x y z/\SB b H (upd (upd H3 t (.tup [.str nm,v])) J (.lst (ys++[.ref t])))/\(upd (upd H3 t (.tup [.str nm,v])) J (.lst (ys++[.ref t]))) b=some (.lst [.int n'])/\n<=n'/\
     n'<=n+2+((i+1:Nat):Int) * (ck d+1)/\(upd (upd H3 t (.tup [.str nm,v])) J (.lst (ys++[.ref t]))) p=some (.lst (ss.map V.str))/\(upd (upd H3 t (.tup [.str nm,v])) J (.lst (ys++[.ref t]))) J=some (.lst aM)/\
     FA (upd (upd H3 t (.tup [.str nm,v])) J (.lst (ys++[.ref t]))) aM fs/\fs.dep<=d+1/\aM.length=i+1/\fs.W/\fs.names=ss.take (i+1)/\∀j:Nat,j<i+1->((j:Int)=r % m\/(j:Int)=r / m % (m+1))->∃y q,fs.at j=some (y,q)/\oG q:=by
    intro x' y' z' v k n2 H3 t s3 h3 w1 w2 hk aV aN bc ht;have aW:H3 J=some (.lst ys):=s3 J _ ab L;have aX:H3 p=some (.lst (ss.map V.str)):=s3 p _ aA am;have bd:t≠J:=λz=>by rw[z,aW] at ht;cases ht
    have be:t≠b:=λz=>by rw[z,h3] at ht;cases ht
    have bf:t≠p:=λz=>by rw[z,aX] at ht;cases ht
    have aY:Tu H3 (upd (upd H3 t (.tup [.str nm,v])) J (.lst (ys++[.ref t]))):=λc xs h=>by
     rw[eA (iB h aW (by intro z;cases z)),eA (eM h ht)];exact h
    have qf:upd (upd H3 t (.tup [.str nm,v])) J (.lst (ys++[.ref t])) t=some (.tup [.str nm,v]):=by rw[eA bd];exact eI
    refine⟨x',y',z',n2,ys++[.ref t],fs.snoc nm k,rfl,λc o hc hh=>?_,?_,by omega,by rw[e1];omega,?_,eI,FA.snoc qf (KA.mono aY k hk) fs (FA.mono ((s3.tu ax).trans aY) fs aH),by rw[Fs.ur];omega,by rw[Q0c,hy];rfl,Fs.uu aN hW,by rw[Fs.uq,aI,Q0p,ay];rfl,λj hj az=>?_⟩
    . have q1:=s3 c o hc (sb c o hc hh);by_cases e:c=J
      . subst e;exact(a3 o hh).elim
      . rw[eA e,eA (eM q1 ht)];exact q1
    . rw[eA (Ne.symm ab),eA (Ne.symm be)];exact h3
    . rw[eA aU,eA (Ne.symm bf)];exact aX
    . by_cases e:j<i
      . obtain⟨y,q,e1,e2⟩:=aJ j e az;exact⟨y,q,Fs.Ct e1,e2⟩
      . have:j=i:=by omega
        subst this;exact⟨nm,k,by have:=Fs.Cu (fs:=fs) (x:=nm) (k:=k);rwa [bb] at this,bc az⟩
   refine⟨_,rfl,_,rfl,_,rfl,a,b,ns,n',rfl,g.go sb ax z1,by omega,λv k n2 H3 s3 h3 w1 w2 hk aV aN=>?_⟩;refine⟨_,rfl,_,rfl,rfl,_,rfl,?_⟩;refine gu (λc=>gB ?_) (λcL=>⟨_,rfl,_,rfl,rfl,_,rfl,gu (λc=>?_) (λc=>?_)⟩)
   . refine⟨_,rfl,_,rfl,a,b,ns,n2,rfl,(g.go sb ax z1).go s3 h3 w1,by omega,λv' k' H4 s4 h4 aO a4 aE aF=>?_⟩;have ac:=s3.trans s4;refine⟨_,rfl,.inl ⟨rfl,_,eF.of (ac J _ ab L)⟩,_,rfl,_,rfl,p,_,_,_,rfl,rfl,eF.of (ac p _ aA am),aD,_,rfl,hX,λt ht=>?_⟩;refine⟨J,_,_,rfl,rfl,by rw[eA (eM (ac J _ ab L) ht)];exact ac J _ ab L,aC,?_⟩;exact next _ _ _ v' k' _ H4 t ac h4 (by omega) (by omega) aO (by omega) aF (λ_=>aE) ht
   . refine⟨_,rfl,_,rfl,a,b,ns,n2,rfl,(g.go sb ax z1).go s3 h3 w1,by omega,λv' k' H4 s4 h4 aO a4 aE aF=>?_⟩;have ac:=s3.trans s4;refine⟨_,rfl,.inl ⟨rfl,_,eF.of (ac J _ ab L)⟩,_,rfl,_,rfl,p,_,_,_,rfl,rfl,eF.of (ac p _ aA am),aD,_,rfl,hX,λt ht=>?_⟩;refine⟨J,_,_,rfl,rfl,by rw[eA (eM (ac J _ ab L) ht)];exact ac J _ ab L,aC,?_⟩;exact next _ _ _ v' k' _ H4 t ac h4 (by omega) (by omega) aO (by omega) aF (λ_=>aE) ht
   . refine⟨_,rfl,.inl ⟨rfl,_,eF.of (s3 J _ ab L)⟩,_,rfl,_,rfl,p,_,_,_,rfl,rfl,eF.of (s3 p _ aA am),aD,_,rfl,hX,λt ht=>?_⟩;refine⟨J,_,_,rfl,rfl,by rw[eA (eM (s3 J _ ab L) ht)];exact s3 J _ ab L,aC,?_⟩;refine next _ _ _ v k _ H3 t s3 h3 (by omega) (by omega) hk aV aN (λaz=>?_) ht
     exact(by
      rcases az with e|e
      . exact absurd (decide_eq_true (show V.int ((0:Int)+(i:Int))=V.int (r % m) by rw[<-e];congr 1;omega)) cL
      . exact absurd (decide_eq_true (show V.int ((0:Int)+(i:Int))=V.int (r / m % (m+1)) by rw[<-e];congr 1;omega)) c)
 . rintro σ H' ⟨x,y,z,n',ys,fs,rfl,sb,ax,z1,z2,am,L,aH,a8,hy,hW,aI,aJ⟩;rw[em] at z2 hy aJ aI;have e3:(m:Int) * (ck d+1)<=3 * (ck d+1):=Q25 (by omega) (by omega);have l0:0<=r % (m:Int):=Q0l _ (by omega);have l1:r % (m:Int)<m:=Q0o _ (by omega);have b0:0<=r / (m:Int) % ((m:Int)+1):=Q0l _ (by omega);obtain⟨xk,aP,bg⟩:=uM (ss:=ss) l0 (by omega);have aG:fs.names=ss:=by rw[aI,<-hl,Q1k]
   have aZ:fs.names.Nodup:=by rw[aG];exact a7
   have pl:∀(z:Int) (x:Str),0<=z->z<m->(z=r % m\/z=r / m % (m+1))->ss[z.toNat]? =some x->fs.pl x:=λz x h0 h1 az hx=>by
    obtain⟨y,q,e1,e2⟩:=aJ z.toNat (by omega) (by rw[Q2p h0];exact az);have a1:=Fs.iI fs z.toNat;rw[e1,aG,hx] at a1;have e3:some x=some y:=a1
    cases e3;exact⟨q,Fs.kU aZ e1,e2⟩
   have bh:fs.pl xk:=pl _ _ l0 l1 (.inl rfl) bg;have aK:fs.names.length<=12:=by rw[aG,hl];omega
   have fin:∀(nm:Str),(nm=""\/fs.pl nm)->∀(t:Addr),H' t=none->∀v:Addr,upd H' t (.tup ys) v=none->Q (.ref v) (upd (upd H' t (.tup ys)) v (.tup [.str "rows",.str xk,.str nm,.ref t])):=by
    intro nm bi t ht v hv;have bj:v≠t:=λz=>by rw[z,eI] at hv;cases hv
    have tu:Tu H' (upd (upd H' t (.tup ys)) v (.tup [.str "rows",.str xk,.str nm,.ref t])):=λc xs h=>by
     have e:upd H' t (.tup ys) c=some (.tup xs):=by rw[eA (eM h ht)];exact h
     rw[eA (eM e hv)];exact e
    have a2:upd H' t (.tup ys) b=some (.lst [.int n']):=by rw[eA (eM ax ht)];exact ax
    refine q (.ref v) (.rows xk nm fs) n' _ (sb.trans ((SB.new ht).trans (SB.new hv))) (by rw[eA (eM a2 hv)];exact a2) z1 (by omega) ?_ (by simp only[Kd.dep];omega) (by unfold Kd.W;exact⟨aZ,aK,hW,bh,bi⟩) ⟨_,_,_,rfl⟩;unfold KA;exact⟨v,t,ys,rfl,eI,by rw[eA (Ne.symm bj)];exact eI,FA.mono tu fs aH⟩
   refine⟨_,rfl,_,rfl,_,_,rfl,rfl,_,rfl,?_⟩;refine gu (λc=>⟨_,rfl,_,rfl,rfl,_,rfl,gu (λc2=>?_) (λc2=>?_)⟩) (λc=>fE ?_)
   . have c':r / (m:Int) % ((m:Int)+1)<m:=of_decide_eq_true c;obtain⟨nm,a5,a6⟩:=uM (ss:=ss) b0 (by omega);refine⟨_,rfl,_,rfl,p,_,_,_,rfl,rfl,eF.of am,a5,?_⟩;exact⟨_,rfl,_,rfl,p,_,_,_,rfl,rfl,eF.of am,aP,_,rfl,_,rfl,J,ys,rfl,.inl ⟨eF.of L,λt ht=>⟨uJ,λv hv=>fin nm (.inr (pl _ _ b0 c' (.inr rfl) a6)) t ht v hv⟩⟩⟩
   . exact⟨_,rfl,_,rfl,p,_,_,_,rfl,rfl,eF.of am,aP,_,rfl,_,rfl,J,ys,rfl,.inl ⟨eF.of L,λt ht=>⟨uJ,λv hv=>fin _ (.inl rfl) t ht v hv⟩⟩⟩
   . exact⟨_,rfl,_,rfl,p,_,_,_,rfl,rfl,eF.of am,aP,_,rfl,_,rfl,J,ys,rfl,.inl ⟨eF.of L,λt ht=>⟨uJ,λv hv=>fin _ (.inl rfl) t ht v hv⟩⟩⟩
theorem Cw:fk ["_law_script","_law_at","_law_deep","_law_m"] ["_law_script","_law_at","_law_deep"] (eR (top 43)):=fA
theorem II (T:Tb mg)(Y:Dn K mg "_law_kind" ky (top 43) aa ab)(ac:Dn K mg "_law_next" fM (top 36) ae af)(ag:eh P w K mg base er (1) ae af fM (k9 K))(z:Dn K mg "_law_plain" fM (top 40) J L)(U:eh P w K mg base er (2) J L fM (rK K)):eh P w K mg base er (2 * 0+4) aa ab ky (oX K 0):=by
 refine Y.F.ok Cw λvs H Q E h=>?_;obtain⟨a,b,ns,n,rfl,g,hn,q⟩:=h;refine⟨rfl,λai A outer s nd hr hu=>?_⟩;have ah:ck 0=2:=rfl;rw[ah] at hn q
 refine⟨_,(en (eT 3 nd (eL ag hr ac (a_ (pv 0) (a_ (pv 1) c_))))
  (en (eP (PW.pt (ib (eS AH (pv 2) d_ (eO _)) (ig GY))) (eB (eJ (eL U hr z (a_ (pv 0) (a_ (pv 1) c_))))) eQ) Fw)),?_⟩
 ac_rfl
 refine⟨_,rfl,_,rfl,a,b,ns,n,rfl,g,by omega,λr H1 r0 r1 s1 h1=>?_⟩;refine⟨_,rfl,_,_,rfl,rfl,_,rfl,?_⟩;refine gu (λc=>gB ?_) (λc=>(c (by decide)).elim);refine⟨_,rfl,_,rfl,a,b,ns,n+1,rfl,g.go s1 h1 (by omega),by omega,λv k H2 s2 h2 hk hd hp hw=>?_⟩;exact q v k (n+1+1) H2 (s1.trans s2) h2 (by omega) (by omega) hk (by omega) hw
theorem IJ (d:Nat)(T:Tb mg)(L:Dn K mg "_law_kind" ky (top 43) U Y)(al:Dn K mg "_law_next" fM (top 36) am an)(ao:eh P w K mg base er (1) am an fM (k9 K))(ah:Dn K mg "_law_plain" fM (top 40) ai aj)(ak:eh P w K mg base er (2) ai aj fM (rK K))(z:Dn K mg "_law_fields" j5 (top 41) af ag)(J:eh P w K mg base er (2 * d+5) af ag j5 (Ck K d))(aa:Dn K mg "_law_rows_kind" j5 (top 42) ab ac)(ae:eh P w K mg base er (2 * d+5) ab ac j5 (Cm K d))
 (ap:eh P w K mg base er (2 * d+4) U Y ky (oX K d)):eh P w K mg base er (2 * (d+1)+4) U Y ky (oX K (d+1)):=by
 refine L.F.ok Cw λvs H Q E h=>?_;obtain⟨a,b,ns,n,rfl,g,hn,q⟩:=h;refine⟨rfl,λaw A outer s nd hr hu=>?_⟩
 have aq:(ck (d+1):Int)=3 * ck d+6:=by
  have:ck (d+1)=3 * ck d+6:=rfl;omega
 rw[aq] at hn
 refine⟨_,(en (eT 3 nd (eL ao hr al (a_ (pv 0) (a_ (pv 1) c_))))
  (en (eP (PW.pt (ib (eS AH (pv 2) d_ (eO _)) (ig (eS qN (eN gg (pv 3) d_) d_ (eO _))))) (eB (eJ (eL ak hr ah (a_ (pv 0) (a_ (pv 1) c_))))) eQ)
  (en (eP (eS qN (eN gg (pv 3) d_) d_ (eO _)) (eB (eJ (ik (a_ fh (a_ (eL J hr z (a_ (pv 0) (a_ (pv 1) (a_ (eN gg (eN iC (pv 3) d_) d_) (a_ (eN kN (pv 2) d_) c_))))) c_))))) eQ)
  (en (eP (eS qN (eN gg (pv 3) d_) d_ (eO _)) (eB (eJ (eL ae hr aa (a_ (pv 0) (a_ (pv 1) (a_ (eN jf d_ (eN gg (eN iC (pv 3) d_) d_)) (a_ (eN kN (pv 2) d_) c_))))))) eQ)
  (en (eP (eS fw (eN gg (pv 3) d_) d_ (eO _)) (eB (eJ (ik (a_ fh (a_ (eL ap hr L (a_ (pv 0) (a_ (pv 1) (a_ (eN kN (pv 2) d_) c_)))) c_))))) eQ)
  (eB (eJ (ik (a_ fh (a_ (eL J hr z (a_ (pv 0) (a_ (pv 1) (a_ (eN jf d_ (eN gg (eN iC (pv 3) d_) d_)) (a_ (eN kN (pv 2) d_) c_))))) c_)))))))))),?_⟩
 ac_rfl
 refine⟨_,rfl,_,rfl,a,b,ns,n,rfl,g,by omega,λr H1 r0 r1 s1 h1=>?_⟩;have g1:=g.go s1 h1 (by omega);have e2:(((d+1:Nat):Int)) - 1=(d:Int):=by omega
 have e0:(if decide ((((d+1:Nat):Int))<=0)=true then True else False)=False:=by
  rw[if_neg (by rw[decide_eq_true_iff];omega)]
 refine⟨_,rfl,_,_,rfl,rfl,_,rfl,gu (λc=>?_) (λc=>?_)⟩
 . exact absurd (of_decide_eq_true c) (by omega)
 refine⟨_,rfl,_,_,rfl,rfl,(by show(0:Int)<_;decide),_,_,rfl,rfl,_,rfl,gu (λc1=>?_) (λc1=>?_)⟩
 . refine⟨_,rfl,_,rfl,a,b,ns,n+1,rfl,g1,by omega,λv k H2 s2 h2 hk hd hp hw=>?_⟩;exact q v k (n+1+1) H2 (s1.trans s2) h2 (by omega) (by rw[aq];omega) hk (by omega) hw
 refine⟨_,rfl,_,_,rfl,rfl,(by show(0:Int)<_;decide),_,_,rfl,rfl,_,rfl,gu (λc2=>?_) (λc2=>?_)⟩
 . obtain⟨m,hm⟩:∃m:Nat,r / 10 % 4=(m:Int):=⟨(r / 10 % 4).toNat,by omega⟩;refine⟨_,rfl,_,rfl,_,rfl,_,_,rfl,rfl,⟨by decide,by decide⟩,_,_,rfl,rfl,(by show(0:Int)<_;decide),_,rfl,_,_,rfl,rfl,a,b,ns,n+1,m,(by show [V.ref a,V.ref b,V.int (r / 10 % 4),V.int (((d+1:Nat):Int) - 1)]=_;rw[hm,e2]),by omega,g1,by omega,λt xs fs n' H2 s2 h2 w1 w2 ht ar au hl av hW=>?_⟩;refine⟨hX,λv hv=>?_⟩;have tu:Tu H2 (upd H2 v (.tup [.str "record",.ref t])):=λc ys h=>by rw[eA (eM h hv)];exact h
   refine q (.ref v) (.fx fs) n' _ (s1.trans (s2.trans (SB.new hv))) (by rw[eA (eM h2 hv)];exact h2) (by omega) (by rw[aq];omega) ?_ (by simp only[Kd.dep];omega) (by unfold Kd.W;exact⟨au,by omega,hW⟩);unfold KA;exact⟨v,t,xs,rfl,eI,tu _ _ ht,FA.mono tu fs ar⟩
 refine⟨_,rfl,_,_,rfl,rfl,(by show(0:Int)<_;decide),_,_,rfl,rfl,_,rfl,gu (λc3=>?_) (λc3=>?_)⟩
 . obtain⟨m,hm⟩:∃m:Nat,1+r / 10 % 3=(m:Int):=⟨(1+r / 10 % 3).toNat,by omega⟩;refine⟨_,rfl,_,rfl,_,rfl,_,_,rfl,rfl,⟨by decide,by decide⟩,_,_,rfl,rfl,(by show(0:Int)<_;decide),_,_,rfl,rfl,_,rfl,_,_,rfl,rfl,a,b,ns,n+1,m,(by show [V.ref a,V.ref b,V.int (1+r / 10 % 3),V.int (((d+1:Nat):Int) - 1)]=_;rw[hm,e2]),by omega,by omega,g1,by omega,λv k n' H2 s2 h2 w1 w2 hk av hw _=>?_⟩;exact q v k n' H2 (s1.trans s2) h2 (by omega) (by rw[aq];omega) hk (by omega) hw
 refine⟨_,rfl,_,_,rfl,rfl,(by show(0:Int)<_;decide),rfl,_,rfl,gu (λc4=>?_) (λc4=>?_)⟩
 . refine⟨_,rfl,_,rfl,_,rfl,_,_,rfl,rfl,a,b,ns,n+1,(by show [V.ref a,V.ref b,V.int (((d+1:Nat):Int) - 1)]=_;rw[e2]),g1,by omega,λu k n' H2 s2 h2 w1 w2 hk av hw=>?_⟩;refine⟨hX,λv hv=>?_⟩;have tu:Tu H2 (upd H2 v (.tup [.str "tree",u])):=λc ys h=>by rw[eA (eM h hv)];exact h
   refine q (.ref v) (.tree k) n' _ (s1.trans (s2.trans (SB.new hv))) (by rw[eA (eM h2 hv)];exact h2) (by omega) (by rw[aq];omega) ?_ (by simp only[Kd.dep];omega) (by unfold Kd.W;exact hw);unfold KA;exact⟨v,u,rfl,eI,KA.mono tu k hk⟩
 . obtain⟨m,hm⟩:∃m:Nat,1+r / 10 % 3=(m:Int):=⟨(1+r / 10 % 3).toNat,by omega⟩;refine⟨_,rfl,_,rfl,_,rfl,_,_,rfl,rfl,⟨by decide,by decide⟩,_,_,rfl,rfl,(by show(0:Int)<_;decide),_,_,rfl,rfl,_,rfl,_,_,rfl,rfl,a,b,ns,n+1,m,(by show [V.ref a,V.ref b,V.int (1+r / 10 % 3),V.int (((d+1:Nat):Int) - 1)]=_;rw[hm,e2]),by omega,g1,by omega,λt xs fs n' H2 s2 h2 w1 w2 ht ar au hl av hW=>?_⟩;refine⟨hX,λv hv=>?_⟩;have tu:Tu H2 (upd H2 v (.tup [.str "either",.ref t])):=λc ys h=>by rw[eA (eM h hv)];exact h
   refine q (.ref v) (.ip fs) n' _ (s1.trans (s2.trans (SB.new hv))) (by rw[eA (eM h2 hv)];exact h2) (by omega) (by rw[aq];omega) ?_ (by simp only[Kd.dep];omega) (by unfold Kd.W;exact⟨au,by omega,by omega,hW⟩);unfold KA;exact⟨v,t,xs,rfl,eI,tu _ _ ht,FA.mono tu fs ar⟩
theorem kind_all (T:Tb mg)(L:Dn K mg "_law_kind" ky (top 43) ab ac)(z:Dn K mg "_law_next" fM (top 36) am an)(J:Dn K mg "_law_plain" fM (top 40) ai aj)(Y:Dn K mg "_law_names" nK (top 39) ak al)(aa:Dn K mg "_law_fields" j5 (top 41) ag ah)(U:Dn K mg "_law_rows_kind" j5 (top 42) ae af):∀d:Nat,eh P w K mg base er (2 * d+4) ab ac ky (oX K d)
 |0=>II T L z (rJ (qe T z)) J (Cp T J z (rJ (qe T z)))
 |d+1=>by
  have N:=rJ (qe (P:=P) (w:=w) (base:=base) T z);have Pl:=Cp T J z N;have Nm:=Cr T Y z N;have ih:=kind_all T L z J Y aa U d;have Fd:=Cs d T aa Y Nm L ih;have Rw:=IH d T U Y (namesW Nm) z N J Pl L ih;exact IJ d T L z N J Pl aa (Iu Fd) U Rw ih
theorem Cy (ns:List Int)(x:Str)(k:Kd)(z:Nat):∀(fs:Fs) (n:Int),fm ns (fs.snoc x k) z n=((fm ns fs z n).1.snoc x (val ns k z (fm ns fs z n).2).1,(val ns k z (fm ns fs z n).2).2)
 | .nil,n=>by
   show fm ns (.cons x k .nil) z n=_;simp only[fm,Ds.snoc]
 | .cons y q r,n=>by
   show fm ns (.cons y q (r.snoc x k)) z n=_;simp only[fm,Ds.snoc];rw[Cy ns x k z r]
theorem Cz (g:Int->D × Int):∀(m:Nat) (n:Int),times g (m+1) n=((times g m n).1.snoc "" (g (times g m n).2).1,(g (times g m n).2).2)
 |0,n=>by simp only[times,Ds.snoc]
 |m+1,n=>by
  have z:=Cz g m (g n).2;show(Ds.cons "" (g n).1 (times g (m+1) (g n).2).1,(times g (m+1) (g n).2).2)=_;rw[z];simp only[times,Ds.snoc]
theorem uN {g h:Int->D × Int}(e:∀n,g n=h n):∀(m:Nat) (n:Int),times g m n=times h m n
 |0,n=>rfl
 |m+1,n=>by
  simp only[times];rw[e n,uN e m]
theorem mC {ns:List Int}{f:Nat->Int->D × Int}:∀(fu z:Nat) (n:Int),z<2 ^ fu->gW ns f (fu+1) z n=gW ns f (fu+2) z n
 |0,z,n,h=>by
  have e:z=0:=by simpa using h
  subst e
  have J:(nx ns ((f (0 / 2) n).2+1) % (((0:Nat):Int)+1)).toNat=0:=by
   have:nx ns ((f (0 / 2) n).2+1) % (((0:Nat):Int)+1)=0:=by
    show _ % (1:Int)=0;exact Int.emod_one _
   rw[this];rfl
  unfold gW;rw[J];rfl
 |fu+1,z,n,h=>by
  have L:=λm=>mC (ns:=ns) (f:=f) fu (z / 2) m (by rw[Nat.pow_succ] at h;omega);show(pairD (f (z / 2) n).1 (.lst (times (gW ns f (fu+1) (z / 2)) _ _).1),(times (gW ns f (fu+1) (z / 2)) _ _).2)=(pairD (f (z / 2) n).1 (.lst (times (gW ns f (fu+2) (z / 2)) _ _).1),(times (gW ns f (fu+2) (z / 2)) _ _).2);rw[uN L]
theorem IK (ns:List Int)(k:Kd)(z:Nat)(n:Int)(h:z<8):val ns (.tree k) z n=
 (pairD (val ns k (z / 2) n).1 (.lst (times (val ns (.tree k) (z / 2)) (nx ns ((val ns k (z / 2) n).2+1) % ((z:Int)+1)).toNat ((val ns k (z / 2) n).2+1)).1),
   (times (val ns (.tree k) (z / 2)) (nx ns ((val ns k (z / 2) n).2+1) % ((z:Int)+1)).toNat ((val ns k (z / 2) n).2+1)).2):=by
 have e:∀m,val ns (.tree k) (z / 2) m=gW ns (val ns k) 3 (z / 2) m:=λm=>by
  show gW ns (val ns k) 4 (z / 2) m=_;exact(mC 2 (z / 2) m (by show _<4;omega)).symm
 rw[uN e];simp only[val,gW]
theorem uO {g:Int->Ds × Int}{key:Str}:∀(m:Nat) (z:List Ds) (n:Int),gh g key (m+1) z n=
 (if mr key (gh g key m z n).1 (keyOf (g (gh g key m z n).2).1 key)=true then((gh g key m z n).1,(g (gh g key m z n).2).2) else((gh g key m z n).1++[(g (gh g key m z n).2).1],(g (gh g key m z n).2).2))
 |0,z,n=>by
  simp only[gh]
  first
   |rfl
   |(by_cases c:mr key z (keyOf (g n).1 key)=true <;> simp[c])
 |m+1,z,n=>by
  rw[gh];split
  . rename_i c;rw[uO m z]
    conv=>rhs;rw[gh]
    simp only[c,if_true]
  . rename_i c;rw[uO m (z++[(g n).1])]
    conv=>rhs;rw[gh]
    simp only[c,if_false];rfl
noncomputable def mu:Kd->Nat->Nat
 | .rows key J fs,z=>(2 * (fs.dep+1)+1) * 8+z
 |k,z=>(2 * k.dep) * 8+z
theorem IL (k:Kd)(z:Nat):mu k z<=(2 * k.dep+1) * 8+z:=by
 cases k <;> simp only[mu,Kd.dep] <;> omega
theorem uP {k L:Kd}{z J:Nat}(h:k.dep<L.dep)(U:z<8):mu k z<mu L J:=by
 have:=IL k z
 cases L <;> simp only[mu,Kd.dep] at * <;> omega
noncomputable def gr (z:Nat):Nat:=if z=0 then 1 else if z=1 then 9 else if z<4 then 73 else 585
noncomputable def kc:Kd->Nat->Nat
 | .tree k,z=>(k.cB+1) * gr z
 |k,_=>k.cB
theorem uQ (z:Nat):1<=gr z/\gr z<=585:=by
 unfold gr;by_cases J:z=0
 . rw[if_pos J];omega
 . rw[if_neg J];by_cases h1:z=1
   . rw[if_pos h1];omega
   . rw[if_neg h1];by_cases h2:z<4
     . rw[if_pos h2];omega
     . rw[if_neg h2];omega
theorem IM (z:Nat):gr z<=585:=(uQ z).2
theorem rM (k:Kd)(z:Nat):kc k z<=k.cB:=by
 cases k with
 |tree k=>exact Q3h _ (IM z)
 |_=>exact Q00 _
theorem IP {z:Nat}(h1:1<=z)(J:z<8):1+z * gr (z / 2)<=gr z:=by
 have h:z=1\/z=2\/z=3\/z=4\/z=5\/z=6\/z=7:=by omega
 rcases h with h|h|h|h|h|h|h <;> subst h <;> decide
theorem IQ (ns:List Int)(k:Kd)(z:Nat)(n:Int)(h:z<8):n<=(val ns (.tree k) z n).2/\(val ns (.tree k) z n).2<=n+((k.cB+1) * gr z:Nat):=by
 have J:=λ(z:Nat) (n:Int) (h:z<8)=>nH ns k z n h;have e:val ns (.tree k) z n=gW ns (val ns k) 4 z n:=by simp only[val]
 rw[e];unfold gr;by_cases L:z=0
 . rw[if_pos L,<-mC 2 z n (by omega),<-mC 1 z n (by omega),<-mC 0 z n (by omega)];exact oK (N:=k.cB) J 1 z n h
 . rw[if_neg L];by_cases h1:z=1
   . rw[if_pos h1,<-mC 2 z n (by omega),<-mC 1 z n (by omega)];exact oK (N:=k.cB) J 2 z n h
   . rw[if_neg h1];by_cases h2:z<4
     . rw[if_pos h2,<-mC 2 z n (by omega)];exact oK (N:=k.cB) J 3 z n h
     . rw[if_neg h2];exact oK (N:=k.cB) J 4 z n h
theorem CA (ns:List Int):∀(fs:Fs) (i z:Nat) (n:Int) (x:Str) (k:Kd),fs.at i=some (x,k)->iJ ns fs i z n=(pairD (.str x) (val ns k z n).1,(val ns k z n).2)
 | .nil,i,_,_,_,_,h=>by cases h
 | .cons y q r,0,z,n,x,k,h=>by
   cases h;simp only[iJ]
 | .cons y q r,i+1,z,n,x,k,h=>by
   simp only[iJ];exact CA ns r i z n x k h
theorem Fs.CC:∀{fs:Fs}{i:Nat}{x:Str}{k:Kd},fs.at i=some (x,k)->k.cB<=fs.cB
 | .nil,_,_,_,h=>by cases h
 | .cons y q r,0,x,k,h=>by
   cases h;simp only[Fs.cB];omega
 | .cons y q r,i+1,x,k,h=>by
   have:=Fs.CC (fs:=r) (i:=i) h;simp only[Fs.cB];omega
theorem Fs.CD:∀{fs:Fs}{i:Nat}{x:Str}{k:Kd},fs.at i=some (x,k)->(fs.take i).cB+k.cB<=fs.cB
 | .nil,_,_,_,h=>by cases h
 | .cons y q r,0,x,k,h=>by
   cases h;simp only[Fs.take,Fs.cB];omega
 | .cons y q r,i+1,x,k,h=>by
   have:=Fs.CD (fs:=r) (i:=i) h;simp only[Fs.take,Fs.cB];omega
theorem Fs.uR:∀(fs:Fs) (i:Nat),(fs.take i).names=fs.names.take i
 | .nil,i=>by simp[Fs.take,Fs.names]
 | .cons x k r,0=>by simp[Fs.take,Fs.names]
 | .cons x k r,i+1=>by
   show x::(r.take i).names=x::r.names.take i;rw[Fs.uR r i]
theorem Fs.IS {fs:Fs}{i:Nat}{x:Str}{k:Kd}(z:fs.names.Nodup)(h:fs.at i=some (x,k)):x ∉ (fs.take i).names:=by
 rw[Fs.uR];intro J;obtain⟨j,L,e⟩:=Q1 J;have U:fs.names[i]? =some x:=by rw[Fs.iI,h];rfl
 obtain⟨hi,Y⟩:=List.getElem?_eq_some_iff.mp U;rw[Q0k] at L;rw[Q1l] at e;have:=(Q2b z).mp (e.trans Y.symm);omega
theorem rN (ns:List Int)(z:Nat):∀(fs:Fs) (n:Int),(fm ns fs z n).1.names=fs.names
 | .nil,n=>by simp[fm,Ds.names,Fs.names]
 | .cons x k r,n=>by
   simp only[fm,Ds.names,Fs.names];rw[rN ns z r]
theorem fc.key {H:Hp}{kvs:List (Key × V)}{m:Ds}{fp:List Addr}{fs:Fs}{x:Str}(h:fc H kvs m fp)(f:gI fs m)(hp:fs.pl x):ft kvs (Sum.inr x)=some (kV (keyOf m x)):=by
 rcases(f.plain hp).2 with⟨z,J,L,_⟩|⟨s,J,L,_⟩
 . obtain⟨v,g,h1,h2,_⟩:=fc.val m h J;unfold Own at h2;rw[h1,L,h2.1];rfl
 . obtain⟨v,g,h1,h2,_⟩:=fc.val m h J;unfold Own at h2;rw[h1,L,h2.1];rfl
abbrev fN (b P:Addr):Hp->Hp->Prop:=Kp (λc=>c=b\/c=P)
theorem _root_.L2.eV.tab {P:Addr}{z:Pos}{J:Str}{H:Hp}(h:eV P z J H):∃ps,H P=some (.fO ps):=by
 rcases h with e|⟨c,e,_⟩ <;> exact⟨_,e⟩
theorem _root_.L2.eV.keep {P:Addr}{J:Pos}{L:Str}{H H':Hp}(h:eV P J L H)(k:∀c o,(∀xs,o≠ .lst xs)->H c=some o->H' c=some o):eV P J L H':=by
 rcases h with e|⟨c,e,f⟩
 . exact .inl (k _ _ (by intro xs z;cases z) e)
 . exact .inr ⟨c,k _ _ (by intro xs z;cases z) e,k _ _ (by intro xs z;cases z) f⟩
theorem _root_.L2.eV.same {P:Addr}{z:Pos}{J:Str}{H H':Hp}(h:eV P z J H)(s:Same H H'):eV P z J H':=h.keep λc o _ e=>s c o e
theorem _root_.L2.eV.sb {P b:Addr}{z:Pos}{J:Str}{H H':Hp}{l:List V}(h:eV P z J H)(L:H b=some (.lst l))(s:SB b H H'):eV P z J H':=
 h.keep λc o U e=>s c o (iB e L (U l)) e
theorem _root_.L2.eV.wr {P p:Addr}{L:Pos}{U:Str}{H:Hp}{o:HO}(h:eV P L U H)(hp:Mu H p):eV P L U (upd H p o):=by
 have key:∀c u,(∀xs,u≠ .lst xs)->(∀J,u≠ .dK J)->H c=some u->upd H p o c=some u:=λc u h1 h2 e=>by
  rw[eA];· exact e
  intro z;subst z;rcases hp with⟨xs,q⟩|⟨J,q⟩
  . rw[e] at q;exact h1 xs (Option.some.inj q)
  . rw[e] at q;exact h2 J (Option.some.inj q)
 rcases h with e|⟨c,e,f⟩
 . exact .inl (key _ _ (by intro xs z;cases z) (by intro xs z;cases z) e)
 . exact .inr ⟨c,key _ _ (by intro xs z;cases z) (by intro xs z;cases z) e,key _ _ (by intro xs z;cases z) (by intro xs z;cases z) f⟩
theorem SB.f9 {b P:Addr}{H H':Hp}(s:SB b H H'):fN b P H H':=λc o n e=>s c o (λz=>n (.inl z)) e
theorem fN.at {b P c:Addr}{H H':Hp}{n:Int}{J:Pos}{L:Str}{o:HO}(x:fN b P H H')(U:H b=some (.lst [.int n]))(hT:eV P J L H)(h1:o≠ .lst [.int n])(h2:∀ps,o≠ .fO ps)(e:H c=some o):H' c=some o:=by
 obtain⟨ps,Y⟩:=hT.tab;refine x c o (λz=>?_) e;rcases z with z|z
 . exact iB e U h1 z
 . exact iB e Y (h2 ps) z
theorem fN.tu {b P:Addr}{H H':Hp}{n:Int}{J:Pos}{L:Str}(x:fN b P H H')(U:H b=some (.lst [.int n]))(hT:eV P J L H):Tu H H':=λa xs e=>x.at U hT (by intro z;cases z) (by intro ps z;cases z) e
theorem fN.g0 {K:W.Frag}{a b P:Addr}{H H':Hp}{ns:List Int}{n J:Int}{L:Pos}{U:Str}(x:fN b P H H')(g:G0 K H a b ns n)(hT:eV P L U H)(h:H' b=some (.lst [.int J]))(Y:n<=J):G0 K H' a b ns J:=by
 refine⟨?_,g.len,h,by have:=g.pos;omega⟩;rcases g.jc with⟨o,e⟩|e
 . exact .inl ⟨o,x.at g.at_ hT (by intro z;cases z) (by intro ps z;cases z) e⟩
 . exact .inr e
theorem Own.f9 {b P:Addr}{H₀ H H':Hp}{v:V}{d:D}{fp:List Addr}{n:Int}{L:Pos}{U:Str}(h:Own H v d fp)(x:fN b P H H')(Y:H b=some (.lst [.int n]))(hT:eV P L U H)(J:∃o,H₀ b=some o)(fr:∀c∈fp,H₀ c=none):Own H' v d fp:=by
 refine h.keep (x.tu Y hT) d λc hc o e=>x c o (λz=>?_) e;rcases z with z|z
 . obtain⟨o',e'⟩:=J;have:=fr c hc;rw[z,e'] at this;cases this
 . obtain⟨ps,hP⟩:=hT.tab;rcases Own.alive d h c hc with⟨xs,q⟩|⟨xs,q⟩ <;> rw[z,hP] at q <;> cases q
def qg:Sp:=λvs H Q _=>∃p r b key z fs kvs m fp,vs=[.ref p,.ref r]/\H p=some (.tup [.str "rows",.str key,.str z,.ref b])/\H r=some (.dK kvs)/\fc H kvs m fp/\gI fs m/\fs.pl key/\(z=""\/fs.pl z)/\
 ∀q,H q=none->Q (.ref q) (upd H q (.tup ((rankOf key z m).map kV)))
noncomputable def IT (st:Stmt):Pos:=match(iA st).getLast? with
 |some (.Return (some (.Call _ _ [⟨_,.Lambda _ _ _ z,_⟩] _)) _)=>z
 |_=>⟨0,0,0,0⟩
noncomputable abbrev j7:Pos:=IT (top 45)
noncomputable abbrev j8:Str:=("_law_rows":Str)++".<locals>."++"<lambda>"
def oZ (K:W.Frag) (P:Addr) (N:Nat):Sp:=λvs H Q _=>∃a b ns n J k,∃z:Nat,vs=[.ref a,.ref b,J,.int z]/\G0 K H a b ns n/\eV P j7 j8 H/\KA H J k/\k.W/\z<8/\mu k z<=N/\n+kc k z<=1000000000000/\
 ∀(v:V) (H':Hp) (fp:List Addr),fN b P H H'->H' b=some (.lst [.int (val ns k z n).2])->eV P j7 j8 H'->Own H' v (val ns k z n).1 fp->fp.Nodup->(∀c∈fp,H c=none)->Q v H'
def CF (K:W.Frag) (P:Addr) (N:Nat):Sp:=λvs H Q _=>∃a b ns n L key J fs,∃z:Nat,vs=[.ref a,.ref b,L,.int z]/\G0 K H a b ns n/\eV P j7 j8 H/\KA H L (.rows key J fs)/\(Kd.rows key J fs).W/\z<8/\mu (.rows key J fs) z<=N+1/\n+(Kd.rows key J fs).cB<=1000000000000/\
 ∀(v:V) (H':Hp) (fp:List Addr),fN b P H H'->H' b=some (.lst [.int (val ns (.rows key J fs) z n).2])->eV P j7 j8 H'->Own H' v (val ns (.rows key J fs) z n).1 fp->fp.Nodup->(∀c∈fp,H c=none)->Q v H'
theorem IU:fk ["_law_kind_here","_law_row"] ["_law_kind_here","_law_row"] (eR (top 44)):=fA
theorem IV (T:Tb mg)(J:Dn K mg "_law_rank" qd (top 44) L U):eh P w K mg base er (1) L U qd (qg):=by
 refine J.F.ok IU λvs H Q E h=>?_;obtain⟨p,r,b,key,Y,fs,kvs,m,fp,rfl,hp,hR,hO,hF,hk,aa,q⟩:=h;refine⟨rfl,λac A outer s nd hr hu=>?_⟩
 refine⟨_,(en (eP (eS fw (eK (pv 0) d_) fh (eO _)) (eB (eJ (ik (a_ (iw hu (pv 1) (eK (pv 0) d_) (λ_ _=>rfl)) c_)))) eQ)
  (eB (eJ (ik (a_ (iw hu (pv 1) (eK (pv 0) d_) (λ_ _=>rfl)) (a_ (iw hu (pv 1) (eK (pv 0) d_) (λ_ _=>rfl)) c_)))))),?_⟩
 ac_rfl
 have gk:gc H r (.str key) (some (kV (keyOf m key))):=by have:=gc.k (k:=Sum.inr key) hR;rw[hO.key hF hk] at this;exact this
 refine⟨_,rfl,p,_,_,_,rfl,rfl,eu.of hp,rfl,rfl,_,rfl,gu (λc=>?_) (λc=>?_)⟩
 . have c':Y="":=by
    have:=of_decide_eq_true c;injection this
   refine⟨_,rfl,_,rfl,p,_,_,_,rfl,rfl,eu.of hp,rfl,r,_,rfl,gk,i_,λt ht=>?_⟩;have:=q t ht;unfold rankOf at this;rw[if_pos c'] at this;exact this
 . have c':¬Y="":=λz=>c (decide_eq_true (show V.str Y=V.str "" by rw[z]));have ab:fs.pl Y:=aa.resolve_left c';have gb:gc H r (.str Y) (some (kV (keyOf m Y))):=by have:=gc.k (k:=Sum.inr Y) hR;rw[hO.key hF ab] at this;exact this
   refine⟨_,rfl,_,rfl,p,_,_,_,rfl,rfl,eu.of hp,rfl,r,_,rfl,gb,_,rfl,_,rfl,p,_,_,_,rfl,rfl,eu.of hp,rfl,r,_,rfl,gk,hX,λt ht=>?_⟩;have:=q t ht;unfold rankOf at this;rw[if_neg c'] at this;exact this
theorem IW:fk ["kind","row","key","by"] ["kind","row"] (eR (top 17)):=fA
theorem CG (T:Tb mg)(L:Dn K mg "rank" nL (top 17) U Y):eh P w K mg base er (1) U Y nL (qg):=by
 refine L.F.ok IW λvs H Q E h=>?_;obtain⟨p,r,b,key,J,fs,kvs,m,fp,rfl,hp,hR,hO,hF,hk,aa,q⟩:=h;refine⟨rfl,λac A outer s nd hr hu=>?_⟩
 refine⟨_,(en (eT 2 nd (eK (pv 0) d_))
  (en (eT 3 nd (eK (pv 0) d_))
  (en (eP (eS fw (pv 3) fh (eO _)) (eB (eJ (ik (a_ (iw hu (pv 1) (pv 2) (λ_ _=>rfl)) c_)))) eQ)
  (eB (eJ (ik (a_ (iw hu (pv 1) (pv 3) (λ_ _=>rfl)) (a_ (iw hu (pv 1) (pv 2) (λ_ _=>rfl)) c_)))))))),?_⟩
 ac_rfl
 have gk:gc H r (.str key) (some (kV (keyOf m key))):=by have:=gc.k (k:=Sum.inr key) hR;rw[hO.key hF hk] at this;exact this
 refine⟨_,rfl,p,_,_,_,rfl,rfl,eu.of hp,rfl,?_⟩;refine⟨_,rfl,p,_,_,_,rfl,rfl,eu.of hp,rfl,?_⟩;refine⟨_,rfl,rfl,_,rfl,gu (λc=>?_) (λc=>?_)⟩
 . have c':J="":=by
    have:=of_decide_eq_true c;injection this
   refine⟨_,rfl,_,rfl,r,_,rfl,gk,i_,λt ht=>?_⟩;have:=q t ht;unfold rankOf at this;rw[if_pos c'] at this;exact this
 . have c':¬J="":=λz=>c (decide_eq_true (show V.str J=V.str "" by rw[z]));have ab:fs.pl J:=aa.resolve_left c';have gb:gc H r (.str J) (some (kV (keyOf m J))):=by have:=gc.k (k:=Sum.inr J) hR;rw[hO.key hF ab] at this;exact this
   refine⟨_,rfl,_,rfl,r,_,rfl,gb,_,rfl,_,rfl,r,_,rfl,gk,hX,λt ht=>?_⟩;have:=q t ht;unfold rankOf at this;rw[if_neg c'] at this;exact this
noncomputable def σV (a b J:Addr) (z:Nat) (L ps:Addr) (x y:Option V):St:=[some (.ref a),some (.ref b),some (.ref J),some (.int z),some (.ref L),some (.ref ps),x,y]
theorem CH {α z:Type}{F:α->z->Prop}{a:α}{b:z}:∀{as:List α}{bs:List z},Paired F as bs->F a b->Paired F (as++[a]) (bs++[b])
 |_,_,.nil,h=>.cons h .nil
 |_,_,.cons x r,h=>.cons x (CH r h)
theorem CI {J:List (Key × V)}{z:List Ds}{key:Str}(h:J.map (·.1)=z.map λr=>keyOf r key)(k:Key):(ft J k).isSome=mr key z k:=by
 rw[<-kP];unfold mr;have e:∀(l:List Ds),(l.any λr=>decide (keyOf r key=k))=((l.map λr=>keyOf r key).any λx=>decide (x=k)):=λl=>by rw[Q2q];rfl
 rw[e,<-h,Q2q];rfl
theorem gX.f9 {b P:Addr}{H₀ H H':Hp}{n:Int}{lp:Pos}{ql:Str}(x:fN b P H H')(L:H b=some (.lst [.int n]))(hT:eV P lp ql H)(z:∃o,H₀ b=some o):
 ∀{vs:List V} {U:List Ds} {J:List (List Addr)},gX H vs U J->(∀c∈J.flatten,H₀ c=none)->gX H' vs U J
 |_,_,_,.nil,_=>.nil
 |_,_,_,.cons h r,Y=>.cons (h.f9 x L hT z λc hc=>Y c (Q0q _ hc)) (gX.f9 x L hT z r λc hc=>Y c (Q06 _ hc))
theorem gX.keep {H H':Hp}(t:Tu H H'):∀{vs:List V}{J:List Ds}{z:List (List Addr)},gX H vs J z->(∀c∈z.flatten,∀o,H c=some o->H' c=some o)->gX H' vs J z
 |_,_,_,.nil,_=>.nil
 |_,_,_,.cons h r,k=>.cons (h.keep t _ λc hc=>k c (Q0q _ hc)) (gX.keep t r λc hc=>k c (Q06 _ hc))
theorem gX.mu {H:Hp}{vs:List V}{J:List Ds}{z:List (List Addr)}(h:gX H vs J z):∀c∈z.flatten,Mu H c:=eZ.alive _ h.own
theorem CJ:fk ["_law_script","_law_at","_law_kind_here","_law_room","_law_rows_here","_law_seen","_law_k","_law_row"] ["_law_script","_law_at","_law_kind_here","_law_room"] (eR (top 45)):=fA
theorem IX {Pt c:Addr}(N:Nat)(T:Tb mg)(ak:Dn K mg "_law_rows" ja (top 45) al ab)(bc:ab.code=.ref c)(bB:W.CodeHd base c Pt)(bC:BM mg base)(am:Dn K mg "_law_next" fM (top 36) an ao)(ap:eh P w K mg base er (1) an ao fM (oW K))(U:Dn K mg "_law_rank" qd (top 44) aq ar)(au:eh P w K mg base er (1) aq ar qd (qg))(af:Dn K mg "_law_value" ja (top 46) ag ah)(ai:eh P w K mg base er (2 * N+5) ag ah ja (oZ K Pt N)):
 eh P w K mg base er (2 * N+6) al ab ja (CF K Pt N):=by
 refine ak.F.uo bc CJ (λvs H Q E h=>?_) (λA outer s H vs Q E hr h=>?_)
 . obtain⟨a,b,ns,n,kv,key,Y,fs,J,rfl,_⟩:=h;rfl
 obtain⟨a,b,ns,n,kv,key,Y,fs,J,rfl,g,hT,hk,hW,b4,bD,hn,q⟩:=h;have nd:=CJ.nd;have hu:=t7 hr;unfold KA at hk;obtain⟨pk,pb,xs,rfl,aZ,bE,bF⟩:=hk;have b5:=hW;unfold Kd.W at hW;obtain⟨bG,bH,a1,aH,bf⟩:=hW
 refine⟨_,(en (eT 4 nd (gA c_))
  (en (eT 5 nd nq)
  (en (ic PassesOwn.never rfl (m7 rfl T.mw (a_ (eN gg (eL ap hr am (a_ (pv 0) (a_ (pv 1) c_))) (eN jf (pv 3) d_)) c_)) (ff (i:=6) nd rfl fL) (en (eT 7 nd (eL ai hr af (a_ (pv 0) (a_ (pv 1) (a_ (ik (a_ fh (a_ (eK (pv 2) d_) c_))) (a_ (eN iC (pv 3) d_) c_))))))
  (eB (eP (pB (tZ hu (iw hu (pv 7) (eK (pv 2) d_) (λ_ _=>rfl)) (pv 5)) (by with_unfolding_all rfl)) (en (jZ hu (pv 5) (iw hu (pv 7) (eK (pv 2) d_) (λ_ _=>rfl)) gH rfl)
  (eB (jt (lG PySem.F.plainAttrs_list PySem.F.slot_list_append PySem.F.type_list_append pK (pv 4) (a_ (pv 7) c_))))) eQ))))
  (eB (eJ (Hr (x:="_law_row") (N':=["","","_law_kind_here","","","","",""]) rfl T.rq boot_sorted hr rfl rfl bB bC (lL.of (N:=["_law_script","_law_at","_law_kind_here","_law_room","_law_rows_here","_law_seen","_law_k","_law_row"]) (sc:=eR (top 45)) rfl rfl rfl rfl rfl (by decide +kernel)) rfl (λ_ _ _ _ _=>rfl) (pv 4) (λ_ _ _ _ _=>(qQ au (gi.deeper (k:=1) (gi.in1 (k:=2) (gi.in1 (k:=3) (hr.mono (by omega)))) _) rfl U.m U.F.kp U.b .nil jR (a_ (pv 3) (a_ (pv 0) c_)))))))))),?_⟩
 ac_rfl
 have bI:(Kd.rows key Y fs).cB=8 * fs.cB+1:=rfl;rw[bI] at hn;have hb:=g.at_;obtain⟨b6,hP⟩:=hT.tab;refine⟨jI,λpr aN=>?_⟩;intro ps aB
 have aI:H ps=none:=by
  by_cases e:ps=pr
  . rw[e,eI] at aB;cases aB
  . rwa [eA e] at aB
 have a2:ps≠pr:=λe=>by rw[e,eI] at aB;cases aB
 have s0:Same H (upd (upd H pr (.lst [])) ps (.dK [])):=(Same.new aN).trans (Same.new aB);have hT0:=hT.same s0;have g0:G0 K (upd (upd H pr (.lst [])) ps (.dK [])) a b ns n:=⟨(SB.of s0).jc hb g.jc,g.len,s0 _ _ hb,g.pos⟩;refine⟨_,rfl,_,rfl,a,b,ns,n,rfl,g0,by omega,λH1 s1 h1=>?_⟩;refine⟨_,rfl,_,_,rfl,rfl,_,_,rfl,rfl,by omega,?_⟩;have b7:=Q0l (nx ns (n+1)) (show((J:Int)+1)≠0 by omega);have b8:=Q0o (nx ns (n+1)) (show(0:Int)<(J:Int)+1 by omega);have a3:b≠pr:=eM hb aN;have a4:b≠ps:=eM hb aI;have ll:Pt≠pr:=eM hP aN;have bJ:Pt≠ps:=eM hP aI;have bK:H1 pr=some (.lst []):=s1 pr _ (Ne.symm a3) (by rw[eA (Ne.symm a2)];exact eI);have bL:H1 ps=some (.dK []):=s1 ps _ (Ne.symm a4) eI;have bM:eV Pt j7 j8 H1:=hT0.sb (s0 _ _ hb) s1;have k1:fN b Pt H H1:=λc o nc e=>s1 c o (λz=>nc (.inl z)) (s0 c o e);have cnt:=λm=>pZ ns fs (J / 2) m (by omega)
 refine⟨_,rfl,by omega,by omega,mi (n:=Int.toNat (nx ns (n+1) % ((J:Int)+1))) (λi σ H'=>∃x y vs fl sk,σ=σV a b pk J pr ps x y/\fN b Pt H H'/\H' b=some (.lst [.int (gh (fm ns fs (J / 2)) key i [] (n+1)).2])/\eV Pt j7 j8 H'/\
  H' pr=some (.lst vs)/\H' ps=some (.dK sk)/\gX H' vs (gh (fm ns fs (J / 2)) key i [] (n+1)).1 fl/\fl.flatten.Nodup/\(∀c∈fl.flatten,H c=none/\c≠pr/\c≠ps)/\sk.map (·.1)=((gh (fm ns fs (J / 2)) key i [] (n+1)).1.map λr=>keyOf r key)/\vs.length<=i) ?_ ?_ ?_⟩
 . exact⟨_,_,[],[],[],rfl,k1,h1,bM,bK,bL,.nil,Q15,λc hc=>absurd hc (by simp),rfl,Q00 _⟩
 . rintro i σ H' hi ⟨x,y,vs,fl,sk,rfl,kp,aE,aC,aO,a5,ac,aP,aw,aF,bN⟩;have b9:i<8:=by omega
   obtain⟨c1,c2⟩:=rh (key:=key) cnt i [] (n+1);have c3:i * fs.cB<=7 * fs.cB:=Q1d _ (by omega);have aG:Tu H H':=kp.tu hb hT;refine⟨_,rfl,_,rfl,_,rfl,pk,_,_,_,rfl,rfl,eu.of (aG _ _ aZ),rfl,hX,λt ht=>?_⟩;have st:Same H' (upd H' t (.tup [.str "record",.ref pb])):=Same.new ht;have e2:((J / 2:Nat):Int)=(J:Int) / 2:=by omega
   have bO:KA (upd H' t (.tup [.str "record",.ref pb])) (.ref t) (.fx fs):=by
    unfold KA;exact⟨t,pb,xs,rfl,eI,st _ _ (aG _ _ bE),FA.mono (aG.trans (Tu.of st)) fs bF⟩
   have ca:=g.pos;refine⟨_,rfl,_,_,rfl,rfl,⟨by decide,by decide⟩,a,b,ns,(gh (fm ns fs (J / 2)) key i [] (n+1)).2,.ref t,.fx fs,J / 2,(by rw[e2];rfl),fN.g0 (kp.trans (Kp.of st)) g hT (st _ _ aE) (by omega),aC.same st,bO,(by unfold Kd.W;exact⟨bG,bH,a1⟩),by omega,(by simp only[mu,Kd.dep] at bD ⊢;omega),(by simp only[kc,Kd.cB];omega),?_⟩;intro v H2 fp f9 aD bg ay bu aW;have ev:val ns (.fx fs) (J / 2) (gh (fm ns fs (J / 2)) key i [] (n+1)).2=(.dct (fm ns fs (J / 2) (gh (fm ns fs (J / 2)) key i [] (n+1)).2).1,(fm ns fs (J / 2) (gh (fm ns fs (J / 2)) key i [] (n+1)).2).2):=by simp only[val]
   rw[ev] at aD ay;have bv:=pY ns fs a1 (J / 2) (gh (fm ns fs (J / 2)) key i [] (n+1)).2 (by omega);have succ:=uO (g:=fm ns fs (J / 2)) (key:=key) i [] (n+1);generalize gh (fm ns fs (J / 2)) key (i+1) [] (n+1)=cb at succ ⊢;generalize gh (fm ns fs (J / 2)) key i [] (n+1)=L at *;generalize fm ns fs (J / 2) L.2=ae at *;have av:fN b Pt H' H2:=(Kp.of st).trans f9;have bP:∃o,H b=some o:=⟨_,hb⟩;have bh:H2 pr=some (.lst vs):=av pr _ (λz=>z.elim (Ne.symm a3) (Ne.symm ll)) aO;have aT:H2 ps=some (.dK sk):=av ps _ (λz=>z.elim (Ne.symm a4) (Ne.symm bJ)) a5;have aa:gX H2 vs L.1 fl:=gX.f9 av aE aC bP ac λc hc=>(aw c hc).1;have bd:=ay;unfold Own at ay;obtain⟨rr,kvs,fq,rfl,a6,cd,a7⟩:=ay;have az:H2 pk=some (.tup [.str "rows",.str key,.str Y,.ref pb]):=fN.at (kp.trans av) hb hT (by intro z;cases z) (by intro ps z;cases z) aZ;have gk:gc H2 rr (.str key) (some (kV (keyOf ae.1 key))):=by have:=gc.k (k:=Sum.inr key) a6;rw[a7.key bv aH] at this;exact this
   have gs:gc H2 ps (kV (keyOf ae.1 key)) (ft sk (keyOf ae.1 key)):=gc.k aT;have sv:=CI aF (keyOf ae.1 key);have aK:fN b Pt H H2:=kp.trans av;refine⟨_,rfl,_,rfl,pk,_,_,_,rfl,rfl,eu.of az,rfl,rr,_,rfl,gk,_,rfl,ps,_,rfl,gs,_,rfl,?_⟩
   cases ec:mr key L.1 (keyOf ae.1 key) with
   |true=>
    rw[ec] at sv;rw[ec,if_pos rfl] at succ;rw[sv];subst succ;exact fE ⟨_,_,vs,fl,sk,rfl,aK,aD,bg,bh,aT,aa,aP,aw,aF,by omega⟩
   |false=>
    rw[ec] at sv;rw[ec,if_neg (by simp)] at succ;rw[sv];subst succ;refine gB ?_
    have bQ:ft sk (keyOf ae.1 key)=none:=by
     cases z:ft sk (keyOf ae.1 key) with
     |none=>rfl
     |some o=>rw[z] at sv;cases sv
    have bw:sk.length<sizeLine:=by
     have e1:sk.length=(L.1.map λr=>keyOf r key).length:=by rw[<-aF,Q02]
     rw[Q02] at e1;have ce:=(A3.len aa).1;exact fX (by omega)
    refine⟨_,rfl,_,rfl,_,rfl,pk,_,_,_,rfl,rfl,eu.of az,rfl,rr,_,rfl,gk,ps,_,rfl,jj.k aT bw,?_⟩;rw[rl bQ];have bi:Mu H2 ps:=.inr ⟨_,aT⟩;have bR:Tu H2 (upd H2 ps (.dK (sk++[(keyOf ae.1 key,.bl true)]))):=Tu.wr λys z=>bi.uE ys z;have a8:upd H2 ps (.dK (sk++[(keyOf ae.1 key,.bl true)])) pr=some (.lst vs):=by rw[eA (Ne.symm a2)];exact bh
    refine⟨_,rfl,.inl ⟨rfl,_,eF.of a8⟩,_,rfl,pr,_,_,rfl,rfl,a8,fX (by omega),?_⟩;have bj:Mu (upd H2 ps (.dK (sk++[(keyOf ae.1 key,.bl true)]))) pr:=.inl ⟨_,a8⟩;have bm:Tu H2 (upd (upd H2 ps (.dK (sk++[(keyOf ae.1 key,.bl true)]))) pr (.lst (vs++[.ref rr]))):=bR.trans (Tu.wr λys z=>bj.uE ys z)
    have aJ:∀c∈fp,H c=none/\c≠pr/\c≠ps:=λc hc=>by
     have z:=aW c hc;have z':H' c=none:=st.free z;have nb:c≠b:=λe=>by rw[e,aE] at z';cases z'
     obtain⟨bn,a9⟩:=aC.tab;have nP:c≠Pt:=λe=>by rw[e,a9] at z';cases z'
     refine⟨kp.uF (λe=>e.elim nb nP) z',λe=>?_,λe=>?_⟩
     . rw[e,aO] at z';cases z'
     . rw[e,a5] at z';cases z'
    have aj:∀c,c≠pr->c≠ps->upd (upd H2 ps (.dK (sk++[(keyOf ae.1 key,.bl true)]))) pr (.lst (vs++[.ref rr])) c=H2 c:=λc n1 n2=>by rw[eA n1,eA n2]
    refine⟨_,_,vs++[.ref rr],fl++[fp],_,rfl,λc o nc e=>?_,by rw[aj b a3 a4];exact aD,(bg.wr bi).wr bj,eI,by rw[eA a2];exact eI,?_,?_,?_,?_,by rw[Q0c];show vs.length+1<=i+1;omega⟩
    . rw[aj c (eM e aN) (eM e aI)];exact aK c o nc e
    . refine A3.snoc ?_ (gX.keep bm aa λc hc o e=>by rw[aj c (aw c hc).2.1 (aw c hc).2.2];exact e);exact bd.keep bm _ λc hc o e=>by rw[aj c (aJ c hc).2.1 (aJ c hc).2.2];exact e
    . rw[Q3i];refine List.nodup_append.mpr ⟨aP,by simpa using bu,λc hc d hd=>?_⟩;have bS:d∈fp:=by simpa using hd
      intro e;subst e;obtain⟨o,eo⟩:=(gX.mu ac c hc).ex;have:=st.free (aW c bS);rw[eo] at this;cases this
    . intro c hc;rw[Q3i] at hc;rcases List.mem_append.mp hc with z|z
      . exact aw c z
      . exact aJ c (by simpa using z)
    . rw[Q0h,Q0h,aF];rfl
 . rintro σ H' ⟨x,y,vs,fl,sk,rfl,kp,aE,aC,aO,a5,ac,aP,aw,aF,bN⟩;have bT:val ns (.rows key Y fs) J n=(.lst (iq (mq key Y (gh (fm ns fs (J / 2)) key (nx ns (n+1) % ((J:Int)+1)).toNat [] (n+1)).1)),(gh (fm ns fs (J / 2)) key (nx ns (n+1) % ((J:Int)+1)).toNat [] (n+1)).2):=by simp only[val]
   rw[bT] at q;have aL:∀m∈(gh (fm ns fs (J / 2)) key (nx ns (n+1) % ((J:Int)+1)).toNat [] (n+1)).1,gI fs m:=oJ (R:=gI fs) (λn=>pY ns fs a1 (J / 2) n (by omega)) _ _ _ (λr hr=>absurd hr (by simp));have bU:=rf (g:=fm ns fs (J / 2)) (key:=key) (nx ns (n+1) % ((J:Int)+1)).toNat [] (n+1) Q15;generalize gh (fm ns fs (J / 2)) key (nx ns (n+1) % ((J:Int)+1)).toNat [] (n+1)=L at *;obtain⟨aX,bx⟩:=A3.len ac;refine⟨_,rfl,pr,vs,rfl,eF.of aO,by omega,aC,λc' H2 ba mono=>?_⟩;have aG:Tu H H':=kp.tu hb hT
   have np:∀cc o,(∀ps,o≠ .fO ps)->H' cc=some o->H2 cc=some o:=λcc o ho e=>by
    obtain⟨bn,a9⟩:=aC.tab;exact mono cc o (iB e a9 (ho bn)) e
   have bo:Tu H' H2:=λcc ys e=>np cc _ (by intro ps z;cases z) e
   have aa:gX H2 vs L.1 fl:=gX.keep bo ac λcc hc o e=>np cc o (by
    intro ps z;rcases gX.mu ac cc hc with⟨_,q⟩|⟨_,q⟩ <;> rw[e] at q <;> rw[z] at q <;> cases q) e
   have az:H2 pk=some (.tup [.str "rows",.str key,.str Y,.ref pb]):=bo _ _ (aG _ _ aZ);refine⟨λks H3=>Same H2 H3/\ks.length<=vs.length/\oB H3 ks ((L.1.map (rankOf key Y)).take ks.length),⟨Same.refl _,Q0b _,.nil⟩,λks H3 hw=>ba.mono λcc o _ e=>hw.1 _ _ e,?_,?_⟩
   . rintro ks H3 yv ⟨s3,bV,aU⟩ hy;have bp:ks.length<vs.length:=(List.getElem?_eq_some_iff.mp hy).1;have aY:=A3.at (a0:=V.non) (b0:=Ds.nil) (c0:=[]) aa ks.length bp;have ey:vs.getD ks.length .non=yv:=by rw[Q0f,hy];rfl
     rw[ey] at aY
     have bz:L.1.getD ks.length .nil∈L.1:=by
      rw[Q0f,Q03 (by omega)];exact Q1i _
     have aM:=Own.same s3 aY;unfold Own at aM;obtain⟨rr,kvs,fq,rfl,a6,_,a7⟩:=aM;refine⟨_,rfl,_,rfl,pk,rr,pb,key,Y,fs,kvs,_,fq,rfl,s3 _ _ az,a6,a7,aL _ bz,aH,bf,λt ht=>⟨s3.trans (Same.new ht),by rw[Q0c];exact bp,?_⟩⟩
     have et:(L.1.map (rankOf key Y)).take (ks++[V.ref t]).length=(L.1.map (rankOf key Y)).take ks.length++[rankOf key Y (L.1.getD ks.length .nil)]:=by
      rw[Q0c];show List.take (ks.length+1) _=_;rw[Q0p,Q0g,Q0f,Q03 (by omega)];rfl
     rw[et];refine CH (Paired.qD aU λk kl z=>?_) ⟨t,rfl,eI⟩;obtain⟨pp,e,hh⟩:=z;exact⟨pp,e,by rw[eA (eM hh ht)];exact hh⟩
   . rintro ks H3 ⟨s3,bV,aU⟩ bA
     have bW:(L.1.map (rankOf key Y)).take ks.length=L.1.map (rankOf key Y):=by
      rw[bA,aX,Q0w (by rw[Q02];exact Q00 _)]
     rw[bW] at aU;refine⟨_,aU,⟨if Y="" then [nG (fs.get key)] else [nG (fs.get Y),nG (fs.get key)],by split <;> simp,λkl bX=>?_⟩,λp hp hs D hD=>?_⟩
     . obtain⟨m,hm,rfl⟩:=List.mem_map.mp bX;exact uy (aL m hm) aH bf
     have bb:∀i∈p,i<vs.length:=λi hi=>by
      have:=hp.mem_iff.mp hi;simpa using this
     have bY:p.Perm (List.range L.1.length):=by rw[<-aX];exact hp
     have hz:(p.map λi=>L.1.getD i .nil)=mq key Y L.1:=by
      refine HW (B7 _ bY) ?_ bU;rw[Q1c] at hs ⊢;refine List.Pairwise.imp_of_mem (λ{i j} hi hj h=>?_) hs;have bZ:=bb i hi;have b1:=bb j hj
      have ge:∀i,i<vs.length->(L.1.map (rankOf key Y)).getD i []=rankOf key Y (L.1.getD i .nil):=λi hi=>by
       rw[Q0f,Q0f,Q0g,Q03 (by omega)];rfl
      rw[ge i bZ,ge j b1] at h;exact h
     have aA:gX H3 vs L.1 fl:=gX.keep (Tu.of s3) aa λcc _ o e=>s3 cc o e;have sD:Same H3 (upd H3 D (.lst (p.map λi=>vs.getD i .non))):=Same.new hD;have aV:gX (upd H3 D (.lst (p.map λi=>vs.getD i .non))) vs L.1 fl:=gX.keep (Tu.of sD) aA λcc _ o e=>sD cc o e;have be:=A3.pick (a0:=V.non) (b0:=Ds.nil) (c0:=[]) aV p bb;have b2:(p.map λi=>fl.getD i []).Perm fl:=B7 _ (by rw[<-bx];exact hp);have ax:=H_ b2;have aD:H2 b=some (.lst [.int L.2]):=np b _ (by intro ps z;cases z) aE;have bq:D≠b:=λe=>by rw[e,s3 _ _ aD] at hD;cases hD
     have br:D≠Pt:=λe=>by rw[e,s3 _ _ ba.1] at hD;cases hD
     have bt:=s3.free hD
     have b3:H' D=none:=by
      cases e:H' D with
      |none=>rfl
      |some o=>rw[mono D o br e] at bt;cases bt
     refine q (.ref D) _ (D::(p.map λi=>fl.getD i []).flatten) (λcc o nc e=>?_) (by rw[eA (Ne.symm bq)];exact s3 _ _ aD) (.inr ⟨c',ba.mono λcc o _ e=>sD _ _ (s3 _ _ e)⟩) ?_ ?_ ?_
     . have e1:=kp cc o nc e;exact sD _ _ (s3 _ _ (mono cc o (λz=>nc (.inr z)) e1))
     . unfold Own;exact⟨D,_,_,rfl,eI,rfl,by rw[<-hz];exact gX.own be⟩
     . refine List.nodup_cons.mpr ⟨λhm=>?_,ax.nodup_iff.mpr aP⟩;obtain⟨o,eo⟩:=(gX.mu aA D (ax.mem_iff.mp hm)).ex;rw[hD] at eo;cases eo
     . intro cc hc;rcases List.mem_cons.mp hc with z|z
       . rw[z];exact kp.uF (λe=>e.elim bq br) b3
       . exact(aw cc (ax.mem_iff.mp z)).1
theorem IY (k:Kd)(z:Nat):16<=mu k z:=by
 have:=k.lM
 cases k <;> simp only[mu,Kd.dep] at * <;> omega
noncomputable def σU (a b:Addr) (J:V) (z:Nat) (L U Y x4 x5:Option V):St:=[some (.ref a),some (.ref b),some J,some (.int z),L,U,Y,x4,x5]
theorem fc.f9 {b P:Addr}{H₀ H H':Hp}{v:List (Key × V)}{d:Ds}{fp:List Addr}{n:Int}{L:Pos}{U:Str}(h:fc H v d fp)(x:fN b P H H')(Y:H b=some (.lst [.int n]))(hT:eV P L U H)(J:∃o,H₀ b=some o)(fr:∀c∈fp,H₀ c=none):fc H' v d fp:=by
 refine h.keep (fN.tu x Y hT) d λc hc o e=>x c o (λz=>?_) e;rcases z with z|z
 . obtain⟨o',e'⟩:=J;have:=fr c hc;rw[z,e'] at this;cases this
 . obtain⟨ps,hP⟩:=hT.tab;rcases fc.alive d h c hc with⟨xs,q⟩|⟨xs,q⟩ <;> rw[z,hP] at q <;> cases q
theorem eZ.f9 {b P:Addr}{H₀ H H':Hp}{v:List V}{d:Ds}{fp:List Addr}{n:Int}{L:Pos}{U:Str}(h:eZ H v d fp)(x:fN b P H H')(Y:H b=some (.lst [.int n]))(hT:eV P L U H)(J:∃o,H₀ b=some o)(fr:∀c∈fp,H₀ c=none):eZ H' v d fp:=by
 refine h.keep (fN.tu x Y hT) d λc hc o e=>x c o (λz=>?_) e;rcases z with z|z
 . obtain⟨o',e'⟩:=J;have:=fr c hc;rw[z,e'] at this;cases this
 . obtain⟨ps,hP⟩:=hT.tab;rcases eZ.alive d h c hc with⟨xs,q⟩|⟨xs,q⟩ <;> rw[z,hP] at q <;> cases q
theorem fN.fresh {b P c:Addr}{H H':Hp}{n:Int}{J:Pos}{L:Str}(x:fN b P H H')(U:H' b=some (.lst [.int n]))(hT:eV P J L H')(h:H' c=none):H c=none:=by
 obtain⟨ps,Y⟩:=hT.tab;exact x.uF (λe=>e.elim (λz=>by rw[z,U] at h;cases h) λz=>by rw[z,Y] at h;cases h) h
theorem CK:fk ["_law_script","_law_at","_law_kind_here","_law_room","_law_made","_law_name","_law_inner","_law_top","_law_many"] ["_law_script","_law_at","_law_kind_here","_law_room"] (eR (top 46)):=fA
theorem IZ {Pt:Addr}(T:Tb mg)(z:Dn K mg "_law_value" ja (top 46) J L):eh P w K mg base er (2 * 0+5) J L ja (oZ K Pt 0):=by
 refine z.F.ok CK λvs H Q E h=>?_;obtain⟨a,b,ns,n,kv,k,U,rfl,g,hT,hk,hW,aa,Y,_⟩:=h;refine⟨rfl,λab A outer s nd hr hu=>?_⟩;exact absurd Y (by have:=IY k U;omega)
theorem CL {G:Prop}(h:∀g:Prop,(G->g)->g):G:=h G id
theorem I0 {Pt:Addr}(N:Nat)(T:Tb mg)(L:Dn K mg "_law_value" ja (top 46) ac ae)(Y:eh P w K mg base er (2 * N+5) ac ae ja (oZ K Pt N))(aq:Dn K mg "_law_rows" ja (top 45) ar au)(av:eh P w K mg base er (2 * N+6) ar au ja (CF K Pt N))(af:Dn K mg "_law_next" fM (top 36) aw ax)(ag:eh P w K mg base er (1) aw ax fM (oW K))(am:Dn K mg "_law_number" fM (top 37) an ao)(ap:eh P w K mg base er (2) an ao fM (Cn K))(ay:Dn K mg "_law_word" fM (top 38) az aA)(aB:eh P w K mg base er (2) az aA fM (Co K)):
 eh P w K mg base er (2 * (N+1)+5) ac ae ja (oZ K Pt (N+1)):=by
 refine L.F.ok CK λvs H Q E h=>?_;obtain⟨a,b,ns,n,kv,k,J,rfl,g,hT,hk,hW,ab,a5,hn,q⟩:=h;refine⟨rfl,λbE A outer s nd hr hu=>?_⟩
 refine⟨_,(en (eP (eS fw (eK (pv 2) d_) fh (eO _)) (eB (eJ (eL ap hr am (a_ (pv 0) (a_ (pv 1) c_))))) eQ)
  (en (eP (eS fw (eK (pv 2) d_) fh (eO _)) (eB (eJ (eL aB hr ay (a_ (pv 0) (a_ (pv 1) c_))))) eQ)
  (en (eP (eS fw (eK (pv 2) d_) fh (eO _)) (en (eT 4 nd nq)
  (en (ic PassesOwn.never rfl (iN (eK (pv 2) d_)) (iQ rfl (gq (ff (i:=5) nd rfl fL) (gq (ff (i:=6) nd rfl fL) iP))) (eB (jZ hu (pv 4) (pv 5) (eL Y hr L (a_ (pv 0) (a_ (pv 1) (a_ (pv 6) (a_ (pv 3) c_))))) rfl)))
  (eB (eJ (pv 4))))) eQ)
  (en (eP (eS fw (eK (pv 2) d_) fh (eO _)) (eB (eJ (eL av hr aq (a_ (pv 0) (a_ (pv 1) (a_ (pv 2) (a_ (pv 3) c_))))))) eQ)
  (en (eP (eS fw (eK (pv 2) d_) fh (eO _)) (en (eT 7 nd (eL Y hr L (a_ (pv 0) (a_ (pv 1) (a_ (eK (pv 2) d_) (a_ (eN iC (pv 3) d_) c_))))))
  (en (eT 8 nd (eN gg (eL ag hr af (a_ (pv 0) (a_ (pv 1) c_))) (eN jf (pv 3) d_)))
  (eB (eJ (ik (a_ (pv 7) (a_ (jT (g:=(gK 0)) (tt:=jS) (te:=(lB _ _ _ (gR (fv 1) (gR (fv 2) (gR (fv 3) (gR (f_ _ (fv 4) (tC (.int 2))) jh)))))) (own:=["_law_k"]) rfl (iT (N:=["_law_script","_law_at","_law_kind_here","_law_room","_law_made","_law_name","_law_inner","_law_top","_law_many"]) (sc:=eR (top 46))) (m7 rfl T.mw (a_ (pv 8) c_)) (λ_ _ _ _ _=>(ff (i:=0) (show(["_law_k","_law_script","_law_at","_law_kind_here","_law_room","_law_made","_law_name","_law_inner","_law_top","_law_many"]:List Str).Nodup by decide +kernel) rfl (Or.inl rfl) (.inr rfl))) (λ_ _ _ _ _=>kq) (λ_ _ _ _ _=>(eL Y hr L (a_ (pv 1) (a_ (pv 2) (a_ (pv 3) (a_ (eN iC (pv 4) d_) c_))))))) c_))))))) eQ)
  (en (Av (eK (eK (pv 2) d_) (eN gg (eL ag hr af (a_ (pv 0) (a_ (pv 1) c_))) (eX g_ (by rfl) T.gC PySem.boot_len (a_ (eK (pv 2) d_) c_)))) (iQ rfl (gq (ff (i:=5) nd rfl fL) (gq (ff (i:=6) nd rfl fL) iP))))
  (eB (eJ (ik (a_ (pv 5) (a_ (eL Y hr L (a_ (pv 0) (a_ (pv 1) (a_ (pv 6) (a_ (pv 3) c_))))) c_))))))))))),?_⟩
 ac_rfl
 have hb:=g.at_;have bF:=g.pos;have aU:∃o,H b=some o:=⟨_,hb⟩;obtain⟨bG,hP⟩:=hT.tab;have e2:((J / 2:Nat):Int)=(J:Int) / 2:=by omega
 refine CL λzg hz=>?_
 cases k with
 |num=>
  unfold KA at hk;obtain⟨c,rfl,hc⟩:=hk;simp only[kc,Kd.cB] at hn;refine hz ?_;refine ku rfl hc rfl (by decide +kernel) ?_;refine⟨_,rfl,_,rfl,a,b,ns,n,rfl,g,by omega,λH1 s1 h1=>?_⟩;have ev:val ns .num J n=(.int (num ns (n+1)),n+1):=by simp only[val]
  rw[ev] at q;exact q _ H1 [] (SB.f9 s1) h1 (hT.sb hb s1) (by unfold Own;exact⟨rfl,rfl⟩) Q15 λc hc=>absurd hc (by simp)
 |gQ=>
  unfold KA at hk;obtain⟨c,rfl,hc⟩:=hk;simp only[kc,Kd.cB] at hn;refine hz ?_;refine gP rfl hc rfl (by decide +kernel) ?_;refine ku rfl hc rfl (by decide +kernel) ?_;refine⟨_,rfl,_,rfl,a,b,ns,n,rfl,g,by omega,λH1 s1 h1=>?_⟩;have ev:val ns .gQ J n=(.str (gQ ns (n+1)),n+1):=by simp only[val]
  rw[ev] at q;exact q _ H1 [] (SB.f9 s1) h1 (hT.sb hb s1) (by unfold Own;exact⟨rfl,rfl⟩) Q15 λc hc=>absurd hc (by simp)
 |fx fs=>
  unfold KA at hk;obtain⟨pk,pb,xs,rfl,aa,aE,aF⟩:=hk;unfold Kd.W at hW;obtain⟨a6,bg,aV⟩:=hW;refine hz ?_;refine gP rfl aa rfl (by decide +kernel) ?_;refine gP rfl aa rfl (by decide +kernel) ?_;refine ku rfl aa rfl (by decide +kernel) ?_;intro p hp;have a7:b≠p:=eM hb hp;have bh:Pt≠p:=eM hP hp;have s0:Same H (upd H p (.dK [])):=Same.new hp;have bi:val ns (.fx fs) J n=(.dct (fm ns fs J n).1,(fm ns fs J n).2):=by simp only[val]
  rw[bi] at q;simp only[kc,Kd.cB] at hn
  refine⟨_,rfl,pk,_,_,_,rfl,rfl,eu.of (s0 _ _ aa),rfl,pb,rfl,⟨_,eu.of (s0 _ _ aE)⟩,mh (xs:=xs) (λi σ H'=>∃x2 x3 x4 x5 kvs fq,σ=σU a b (.ref pk) J (some (.ref p)) x2 x3 x4 x5/\fN b Pt H H'/\H' b=some (.lst [.int (fm ns (fs.take i) J n).2])/\eV Pt j7 j8 H'/\
   H' p=some (.dK kvs)/\fc H' kvs (fm ns (fs.take i) J n).1 fq/\fq.Nodup/\∀c∈fq,H c=none/\c≠p) ?_ ?_ ?_ ?_⟩
  . rw[Fs.take_zero];refine⟨_,_,_,_,[],[],rfl,Kp.of s0,by simp only[fm];exact s0 _ _ hb,hT.same s0,eI,?_,Q15,λc hc=>absurd hc (by simp)⟩;simp only[fm];unfold fc;exact⟨rfl,rfl⟩
  . rintro i σ H' _ ⟨x2,x3,x4,x5,kvs,fq,rfl,kp,_⟩;exact eu.of (fN.tu kp hb hT _ _ aE)
  . rintro i v σ H' hv ⟨x2,x3,x4,x5,kvs,fq,rfl,kp,ah,ai,aK,hO,aG,aj⟩;have a8:=fN.tu kp hb hT;obtain⟨c,u,nm,k,rfl,ak,hc,hk⟩:=FA.get fs aF hv;have cn:=pZ ns (fs.take i) J n ab;have cb:=Fs.CD ak;refine⟨c,_,rfl,eu.of (a8 _ _ hc),rfl,_,_,rfl,_,_,rfl,rfl,?_⟩;refine⟨_,rfl,_,rfl,_,rfl,_,rfl,a,b,ns,(fm ns (fs.take i) J n).2,u,k,J,rfl,fN.g0 kp g hT ah cn.1,ai,KA.mono a8 k hk,Fs.nE aV ak,ab,?_,by have:=rM k J;omega,?_⟩
    . have:mu k J<mu (.fx fs) J:=uP (by have:=Fs.nz ak;simp only[Kd.dep];omega) ab;omega
    intro v2 H2 fp f9 aH aI aC aD al;have a9:H2 p=some (.dK kvs):=f9 p _ (λz=>z.elim (Ne.symm a7) (Ne.symm bh)) aK;have bj:=fc.f9 hO f9 ah ai aU λc hc=>(aj c hc).1;have bm:nm ∉ (fm ns (fs.take i) J n).1.names:=by rw[rN];exact Fs.IS a6 ak
    have bn:kvs.length<sizeLine:=by
     rw[fc.len hO,rN];have:(fs.take i).names.length<=fs.names.length:=by rw[Fs.uR,Q0k];omega
     exact fX (by omega)
    refine⟨_,rfl,_,rfl,p,_,rfl,jj.k (k:=Sum.inr nm) a9 bn,?_⟩;rw[rl (fc.HY hO bm)];have ba:Mu H2 p:=.inr ⟨_,a9⟩;have bb:Tu H2 (upd H2 p (.dK (kvs++[(Sum.inr nm,v2)]))):=Tu.wr λys z=>ba.uE ys z
    have aO:∀c∈fp,H c=none/\c≠p:=λc hc=>by
     have z:=al c hc;exact⟨fN.fresh kp ah ai z,λe=>by rw[e,aK] at z;cases z⟩
    have sn:=Cy ns nm k J (fs.take i) n;rw[Fs.take_succ ak,sn];refine⟨_,_,_,_,_,fq++fp,rfl,λc o nc e=>?_,by rw[eA a7];exact aH,aI.wr ba,eI,?_,?_,?_⟩
    . rw[eA (eM e hp)];exact f9 c o nc (kp c o nc e)
    . exact fc.snoc (aC.keep bb _ λc hc o e=>by rw[eA (aO c hc).2];exact e) _ (bj.keep bb _ λc hc o e=>by rw[eA (aj c hc).2];exact e)
    . refine List.nodup_append.mpr ⟨aG,aD,λc hc d hd=>?_⟩;intro e;subst e;obtain⟨o,eo⟩:=(fc.alive _ hO c hc).ex;rw[al c hd] at eo;cases eo
    . intro c hc;rcases List.mem_append.mp hc with z|z
      . exact aj c z
      . exact aO c z
  . rintro σ H' ⟨x2,x3,x4,x5,kvs,fq,rfl,kp,ah,ai,aK,hO,aG,aj⟩;rw[FA.len fs aF,Fs.take_all] at ah hO;refine⟨_,rfl,q (.ref p) H' (p::fq) kp ah ai ?_ ?_ ?_⟩
    . unfold Own;exact⟨p,kvs,fq,rfl,aK,rfl,hO⟩
    . exact List.nodup_cons.mpr ⟨λhm=>(aj p hm).2 rfl,aG⟩
    . intro c hc;rcases List.mem_cons.mp hc with z|z
      . rw[z];exact hp
      . exact(aj c z).1
 |rows key bo fs=>
  have aW:=hk;unfold KA at hk;obtain⟨pk,pb,xs,rfl,aa,aE,aF⟩:=hk;simp only[kc] at hn;refine hz ?_;refine gP rfl aa rfl (by decide +kernel) ?_;refine gP rfl aa rfl (by decide +kernel) ?_;refine gP rfl aa rfl (by decide +kernel) ?_;refine ku rfl aa rfl (by decide +kernel) ?_;exact⟨_,rfl,_,rfl,_,rfl,_,rfl,a,b,ns,n,_,key,bo,fs,J,rfl,g,hT,aW,hW,ab,a5,hn,q⟩
 |tree k=>
  have aW:=hk;unfold KA at hk;obtain⟨pk,u,rfl,aa,bp⟩:=hk;unfold Kd.W at hW;refine hz ?_;refine gP rfl aa rfl (by decide +kernel) ?_;refine gP rfl aa rfl (by decide +kernel) ?_;refine gP rfl aa rfl (by decide +kernel) ?_;refine gP rfl aa rfl (by decide +kernel) ?_;refine ku rfl aa rfl (by decide +kernel) ?_;have ev:=IK ns k J n ab;rw[ev] at q;simp only[kc,Kd.cB] at hn;have bH:k.cB+1<=(k.cB+1) * gr J:=Q3j _ (uQ J).1
  have m1:mu k (J / 2)<=N:=by
   have:mu k (J / 2)<mu (.tree k) J:=uP (by simp only[Kd.dep];omega) (by omega);omega
  refine⟨_,rfl,_,rfl,_,rfl,pk,_,_,_,rfl,rfl,eu.of aa,rfl,_,rfl,_,_,rfl,rfl,⟨by decide,by decide⟩,a,b,ns,n,u,k,J / 2,(by rw[e2];rfl),g,hT,bp,hW,by omega,m1,by have:=rM k (J / 2);have:k.cB+1<=(k.cB+1) * gr J:=Q3j _ (uQ J).1;omega,?_⟩;intro vt Ht aL aX aM bc bq br aY;have ct:=nH ns k (J / 2) n (by omega);generalize bI:val ns k (J / 2) n=U at *;refine⟨_,rfl,_,rfl,a,b,ns,U.2,rfl,fN.g0 aX g hT aM ct.1,by omega,λH1 s1 h1=>?_⟩;have g1:G0 K H1 a b ns (U.2+1):=(fN.g0 aX g hT aM ct.1).go s1 h1 (by omega);have aZ:=bc.sb aM s1;have k1:fN b Pt H H1:=aX.trans (SB.f9 s1);have aP:Own H1 vt U.1 aL:=bq.f9 (SB.f9 s1) aM bc aU aY;refine⟨_,rfl,_,_,rfl,rfl,_,_,rfl,rfl,by omega,?_⟩;have bt:=Q0l (nx ns (U.2+1)) (show((J:Int)+1)≠0 by omega);have bu:=Q0o (nx ns (U.2+1)) (show(0:Int)<(J:Int)+1 by omega);have bv:=λm=>IQ ns k (J / 2) m (by omega);have be:=λi=>uC (g:=val ns (.tree k) (J / 2)) (N:=(k.cB+1) * gr (J / 2)) bv i (U.2+1)
  refine⟨_,rfl,_,rfl,_,rfl,by omega,by omega,λi m ys H'=>m=(nx ns (U.2+1) % ((J:Int)+1)).toNat - i/\i<=(nx ns (U.2+1) % ((J:Int)+1)).toNat/\ys.length=i/\∃fq,fN b Pt H1 H'/\H' b=some (.lst [.int (times (val ns (.tree k) (J / 2)) i (U.2+1)).2])/\eV Pt j7 j8 H'/\
   eZ H' ys (times (val ns (.tree k) (J / 2)) i (U.2+1)).1 fq/\fq.Nodup/\∀c∈fq,H1 c=none,⟨(nx ns (U.2+1) % ((J:Int)+1)).toNat,rfl,Q0b _,rfl,[],Kp.refl _ _,h1,aZ,?_,Q15,λc hc=>absurd hc (by simp)⟩,?_⟩
  . simp only[times];unfold eZ;exact⟨rfl,rfl⟩
  rintro i m ys H' ⟨rfl,bD,bw,fq,kp,ah,ai,hO,aG,aj⟩;by_cases hi:i<(nx ns (U.2+1) % ((J:Int)+1)).toNat
  . refine .inr ⟨hi,fX (by omega),λx bx y=>?_⟩;obtain⟨rfl,rfl⟩:=y;refine⟨rfl,yes (gB ?_)⟩;have bz:1<=J:=by omega
    have bJ:=be i
    have bA:(times (val ns (.tree k) (J / 2)) i (U.2+1)).2+((k.cB+1) * gr (J / 2):Nat)<=1000000000000:=by
     have a1:=Q3h (k.cB+1) (IP bz ab);have a2:(k.cB+1) * (1+J * gr (J / 2))=(k.cB+1)+J * ((k.cB+1) * gr (J / 2)):=by rw[Nat.mul_add,Nat.mul_one,Q39]
     have a3:(i+1) * ((k.cB+1) * gr (J / 2))<=J * ((k.cB+1) * gr (J / 2)):=Q1d _ (by omega);have a4:(i+1) * ((k.cB+1) * gr (J / 2))=i * ((k.cB+1) * gr (J / 2))+(k.cB+1) * gr (J / 2):=Q1x _ _;omega
    have kA:fN b Pt H bx:=k1.trans kp;refine⟨_,rfl,_,rfl,_,rfl,_,rfl,_,_,rfl,rfl,⟨by decide,by decide⟩,a,b,ns,(times (val ns (.tree k) (J / 2)) i (U.2+1)).2,.ref pk,.tree k,J / 2,(by rw[e2];rfl),fN.g0 kA g hT ah (by omega),ai,KA.mono (fN.tu kA hb hT) _ aW,(by unfold Kd.W;exact hW),by omega,(by simp only[mu] at a5 ⊢;omega),bA,?_⟩;intro v2 H2 fp f9 aH aI aC aD al;have sn:=Cz (val ns (.tree k) (J / 2)) i (U.2+1);refine⟨(nx ns (U.2+1) % ((J:Int)+1)).toNat - (i+1),by omega,rfl,hi,by rw[Q0c,bw];rfl,fq++fp,kp.trans f9,by rw[sn];exact aH,aI,?_,?_,?_⟩
    . rw[sn];exact eZ.snoc aC _ (eZ.f9 hO f9 ah ai ⟨_,h1⟩ aj)
    . refine List.nodup_append.mpr ⟨aG,aD,λc hc d hd=>?_⟩;intro e;subst e;obtain⟨o,eo⟩:=(eZ.alive _ hO c hc).ex;rw[al c hd] at eo;cases eo
    . intro c hc;rcases List.mem_append.mp hc with z|z
      . exact aj c z
      . exact fN.fresh kp ah ai (al c z)
  . have ei:i=(nx ns (U.2+1) % ((J:Int)+1)).toNat:=by omega
    subst ei;refine .inl ⟨Q00 _,λpl aN=>⟨hX,λt ht=>?_⟩⟩;have sl:Same H' (upd H' pl (.lst ys)):=Same.new aN;have st:Same (upd H' pl (.lst ys)) (upd (upd H' pl (.lst ys)) t (.tup [vt,.ref pl])):=Same.new ht;have sa:=sl.trans st;have aT:Own H' vt U.1 aL:=aP.f9 kp h1 aZ aU aY;have kA:fN b Pt H H':=k1.trans kp;refine q (.ref t) _ (aL++(pl::fq)) (kA.trans (Kp.of sa)) (sa _ _ ah) (ai.same sa) ?_ ?_ ?_
    . unfold Own;refine⟨t,_,rfl,eI,?_⟩;unfold eZ;refine⟨vt,[.ref pl],aL,pl::fq,rfl,rfl,Own.same sa aT,?_⟩;unfold eZ;refine⟨.ref pl,[],pl::fq,[],rfl,by simp,?_,by unfold eZ;exact⟨rfl,rfl⟩⟩;unfold Own;exact⟨pl,ys,fq,rfl,st _ _ eI,rfl,eZ.same sa hO⟩
    . refine List.nodup_append.mpr ⟨br,List.nodup_cons.mpr ⟨λhm=>?_,aG⟩,λc hc d hd=>?_⟩
      . obtain⟨o,eo⟩:=(eZ.alive _ hO pl hm).ex;rw[aN] at eo;cases eo
      . intro e;subst e;rcases List.mem_cons.mp hd with z|z
        . obtain⟨o,eo⟩:=(Own.alive _ aT c hc).ex;rw[z,aN] at eo;cases eo
        . obtain⟨o,eo⟩:=(Own.alive _ aP c hc).ex;rw[aj c z] at eo;cases eo
    . intro c hc;rcases List.mem_append.mp hc with z|z
      . exact aY c z
      . rcases List.mem_cons.mp z with y|y
        . rw[y];exact fN.fresh kA ah ai aN
        . exact fN.fresh k1 h1 aZ (aj c y)
 |ip fs=>
  unfold KA at hk;obtain⟨pk,pb,xs,rfl,aa,aE,aF⟩:=hk;unfold Kd.W at hW;obtain⟨a6,bg,bK,aV⟩:=hW;refine hz ?_;refine gP rfl aa rfl (by decide +kernel) ?_;refine gP rfl aa rfl (by decide +kernel) ?_;refine gP rfl aa rfl (by decide +kernel) ?_;refine gP rfl aa rfl (by decide +kernel) ?_;refine gP rfl aa rfl (by decide +kernel) ?_;simp only[kc,Kd.cB] at hn;refine⟨_,rfl,pk,_,_,_,rfl,rfl,eu.of aa,rfl,_,rfl,_,rfl,a,b,ns,n,rfl,g,by omega,λH1 s1 h1=>?_⟩;have aJ:=s1.tu hb;have bd:(xs.length:Int)=(fs.names.length:Int):=by rw[FA.len fs aF]
  have bt:=Q0l (nx ns (n+1)) (show((fs.names.length:Int))≠0 by omega);have bu:=Q0o (nx ns (n+1)) (show(0:Int)<(fs.names.length:Int) by omega);obtain⟨nm,k,ak⟩:=Fs.BU (fs:=fs) (i:=(nx ns (n+1) % (fs.names.length:Int)).toNat) (by omega);obtain⟨c,u,bB,hc,hk⟩:=FA.at aF ak
  have bC:ir xs (nx ns (n+1) % ((xs.length:Nat):Int))=some (.ref c):=by
   have e:nx ns (n+1) % ((xs.length:Nat):Int)=(((nx ns (n+1) % (fs.names.length:Int)).toNat:Nat):Int):=by rw[bd];omega
   rw[e];exact jY bB
  refine⟨_,rfl,pk,_,_,_,rfl,rfl,eu.of (aJ _ _ aa),rfl,pb,_,rfl,.inr (eu.of (aJ _ _ aE)),_,_,rfl,rfl,by rw[bd];omega,pb,_,_,_,rfl,rfl,eu.of (aJ _ _ aE),bC,?_⟩;refine⟨c,_,rfl,eu.of (aJ _ _ hc),rfl,_,_,rfl,_,_,rfl,rfl,?_⟩
  have ev:val ns (.ip fs) J n=(pairD (.str nm) (val ns k J (n+1)).1,(val ns k J (n+1)).2):=by
   show iJ ns fs (nx ns (n+1) % (fs.names.length:Int)).toNat J (n+1)=_;exact CA ns fs _ J (n+1) nm k ak
  rw[ev] at q;have cb:=Fs.CC ak;refine⟨_,rfl,_,rfl,_,rfl,_,rfl,_,rfl,a,b,ns,n+1,u,k,J,rfl,g.go s1 h1 (by omega),hT.sb hb s1,KA.mono aJ k hk,Fs.nE aV ak,ab,?_,by have:=rM k J;omega,?_⟩
  . have:mu k J<mu (.ip fs) J:=uP (by have:=Fs.nz ak;simp only[Kd.dep];omega) ab;omega
  intro v2 H2 fp f9 aH aI aC aD al;have bf:fN b Pt H H2:=(SB.f9 s1).trans f9;refine⟨hX,λt ht=>?_⟩;have st:Same H2 (upd H2 t (.tup [.str nm,v2])):=Same.new ht;refine q (.ref t) _ fp (bf.trans (Kp.of st)) (st _ _ aH) (aI.same st) ?_ aD λc hc=>fN.fresh (SB.f9 s1) h1 (hT.sb hb s1) (al c hc);unfold Own;refine⟨t,_,rfl,eI,?_⟩;unfold eZ;refine⟨.str nm,[v2],[],fp,rfl,rfl,by unfold Own;exact⟨rfl,rfl⟩,?_⟩;unfold eZ;exact⟨v2,[],fp,[],rfl,by simp,Own.same st aC,by unfold eZ;exact⟨rfl,rfl⟩⟩
theorem CM {Pt c:Addr}{ae:Addr}{af:FuncData}(T:Tb mg)(J:Dn K mg "_law_value" ja (top 46) ab ac)(U:Dn K mg "_law_rows" ja (top 45) ak ag)(ah:ag.code=.ref c)(ap:W.CodeHd base c Pt)(aq:BM mg base)(z:Dn K mg "_law_next" fM (top 36) al am)(L:Dn K mg "_law_number" fM (top 37) ai aj)(Y:Dn K mg "_law_word" fM (top 38) an ao)(aa:Dn K mg "_law_rank" qd (top 44) ae af):∀N:Nat,eh P w K mg base er (2 * N+5) ab ac ja (oZ K Pt N)
 |0=>IZ T J
 |N+1=>by
  have ih:=CM T J U ah ap aq z L Y aa N;have Nx:=qe (P:=P) (w:=w) (base:=base) T z;have R:=IX N T U ah ap aq z Nx aa (IV T aa) J ih;exact I0 N T J ih U R z Nx L (Iz T L z Nx) Y (IB T Y z Nx)
mutual
def D.Sm:D->Prop
 | .int _=>True
 | .str _=>True
 | .tup xs=>xs.len<=100/\xs.Sm
 | .lst xs=>xs.len<=100/\xs.Sm
 | .dct m=>m.len<=100/\m.Sm
def Ds.Sm:Ds->Prop
 | .nil=>True
 | .cons _ d r=>d.Sm/\r.Sm
end
theorem Ds.uS:∀{xs:Ds}{i:Nat}{d:D},xs.Sm->xs.at i=some d->d.Sm
 | .nil,_,_,_,h=>by cases h
 | .cons _ d r,0,_,w,h=>by unfold Ds.Sm at w;cases h;exact w.1
 | .cons _ d r,i+1,_,w,h=>by unfold Ds.Sm at w;exact Ds.uS (xs:=r) (i:=i) w.2 h
theorem Ds.rO:∀{xs:Ds}{x:Str}{d:D},xs.Sm->xs.get x=some d->d.Sm
 | .nil,_,_,_,h=>by cases h
 | .cons y e r,x,d,w,h=>by
   unfold Ds.Sm at w;have h:(if x=y then some e else r.get x)=some d:=h;by_cases c:x=y
   . rw[if_pos c] at h;cases h;exact w.1
   . rw[if_neg c] at h;exact Ds.rO w.2 h
theorem CN:∀(m:Ds),m.names.length=m.len
 | .nil=>rfl
 | .cons _ _ r=>by show r.names.length+1=r.len+1;rw[CN r]
theorem uT:∀l:List Ds,(iq l).len=l.length
 |[]=>rfl
 |m::r=>by show(iq r).len+1=r.length+1;rw[uT r]
theorem CO:∀{l:List Ds},(∀m∈l,(D.dct m).Sm)->(iq l).Sm
 |[],_=>by unfold iq Ds.Sm;trivial
 |m::r,h=>by
  unfold iq Ds.Sm;exact⟨h m Q04,CO λx z=>h x (Q0e _ z)⟩
theorem uU:∀{l:List Ds},(iq l).Sm->∀m∈l,(D.dct m).Sm
 |[],_,m,z=>absurd z (by simp)
 |x::r,h,m,z=>by
  unfold iq Ds.Sm at h;rcases List.mem_cons.mp z with e|e
  . rw[e];exact h.1
  . exact uU h.2 m e
theorem uV:∀{l:List Ds},∀m∈l,m.dep+1<=(iq l).dep
 |[],m,z=>absurd z (by simp)
 |x::r,m,z=>by
  simp only[iq,Ds.dep,D.dep];rcases List.mem_cons.mp z with e|e
  . rw[e];omega
  . have:=uV (l:=r) m e;omega
theorem CP (g:Int->D × Int):∀(m:Nat) (n:Int),(times g m n).1.len=m
 |0,_=>rfl
 |m+1,n=>by show(times g m (g n).2).1.len+1=m+1;rw[CP g m]
theorem CQ {g:Int->D × Int}(z:∀n,(g n).1.Sm):∀(m:Nat) (n:Int),(times g m n).1.Sm
 |0,_=>by unfold times Ds.Sm;trivial
 |m+1,n=>by
  unfold times Ds.Sm;exact⟨z n,CQ z m _⟩
theorem CS {a b:D}(h1:a.Sm)(h2:b.Sm):(pairD a b).Sm:=by
 unfold D.Sm;exact⟨by show 2<=100;decide,by unfold Ds.Sm;exact⟨h1,by unfold Ds.Sm;exact⟨h2,by unfold Ds.Sm;trivial⟩⟩⟩
theorem CU {ns:List Int}{f:Nat->Int->D × Int}(J:∀z n,z<8->(f z n).1.Sm):∀(fu z:Nat) (n:Int),z<8->(gW ns f fu z n).1.Sm
 |0,_,_,_=>by unfold gW D.Sm;trivial
 |fu+1,z,n,h=>by
  unfold gW;refine CS (J _ _ (by omega)) ?_;unfold D.Sm;refine⟨?_,CQ (λn=>CU J fu (z / 2) n (by omega)) _ _⟩;rw[CP];have:=mod_le (a:=nx ns ((f (z / 2) n).2+1)) h;omega
theorem uW {g:Int->Ds × Int}{key:Str}:∀(m:Nat) (z:List Ds) (n:Int),(gh g key m z n).1.length<=z.length+m
 |0,z,n=>by simp[gh]
 |m+1,z,n=>by
  unfold gh;split
  . have:=uW (g:=g) (key:=key) m z (g n).2;omega
  . have:=uW (g:=g) (key:=key) m (z++[(g n).1]) (g n).2;rw[Q0c] at this;have e:[(g n).1].length=1:=rfl;omega
mutual
theorem rP (ns:List Int):∀(k:Kd),k.W->∀(z:Nat) (n:Int),z<8->(val ns k z n).1.Sm
 | .num,_,_,_,_=>by unfold val D.Sm;trivial
 | .gQ,_,_,_,_=>by unfold val D.Sm;trivial
 | .fx fs,w,z,n,h=>by
   unfold Kd.W at w;unfold val;exact uX ns fs w.2.2 z n h w.2.1
 | .rows key J fs,w,z,n,h=>by
   unfold Kd.W at w;unfold val D.Sm;refine⟨?_,CO λm L=>?_⟩
   . rw[uT,(lN key J _).length_eq];have:=uW (g:=fm ns fs (z / 2)) (key:=key) (nx ns (n+1) % ((z:Int)+1)).toNat [] (n+1);have e:=mod_le (a:=nx ns (n+1)) h;have Y:([]:List Ds).length=0:=rfl;omega
   . exact oJ (R:=λm=>(D.dct m).Sm) (λn=>uX ns fs w.2.2.1 (z / 2) n (by omega) w.2.1) _ _ _ (λr U=>absurd U (by simp)) m ((lN key J _).mem_iff.mp L)
 | .tree k,w,z,n,h=>by
   unfold Kd.W at w;unfold val;exact CU (λz n h=>rP ns k w z n h) 4 z n h
 | .ip fs,w,z,n,h=>by
   unfold Kd.W at w;unfold val;exact CV ns fs w.2.2.2 _ z _ h
theorem uX (ns:List Int):∀(fs:Fs),fs.W->∀(z:Nat) (n:Int),z<8->fs.names.length<=12->(D.dct (fm ns fs z n).1).Sm
 | .nil,_,_,_,_,_=>by
   unfold fm D.Sm;exact⟨by show 0<=100;omega,by unfold Ds.Sm;trivial⟩
 | .cons x k r,w,z,n,h,hl=>by
   unfold Fs.W at w;have hl:r.names.length+1<=12:=hl;have a:=rP ns k w.1 z n h;have b:=uX ns r w.2 z (val ns k z n).2 h (by omega);unfold D.Sm at b;unfold fm D.Sm;refine⟨?_,by unfold Ds.Sm;exact⟨a,b.2⟩⟩;show(fm ns r z (val ns k z n).2).1.len+1<=100;rw[<-CN,rN];omega
theorem CV (ns:List Int):∀(fs:Fs),fs.W->∀(i z:Nat) (n:Int),z<8->(iJ ns fs i z n).1.Sm
 | .nil,_,_,_,_,_=>by unfold iJ D.Sm;trivial
 | .cons x k r,w,0,z,n,h=>by
   unfold Fs.W at w;unfold iJ;exact CS (by unfold D.Sm;trivial) (rP ns k w.1 z n h)
 | .cons x k r,w,i+1,z,n,h=>by
   unfold Fs.W at w;unfold iJ;exact CV ns r w.2 i z n h
end
theorem jH.at {P:D->Prop}:∀{xs:Ds}{i:Nat}{d:D},jH P xs->xs.at i=some d->Tree P d
 | .nil,_,_,_,h=>by cases h
 | .cons _ d r,0,_,w,h=>by unfold jH at w;cases h;exact w.1
 | .cons _ d r,i+1,_,w,h=>by unfold jH at w;exact jH.at (xs:=r) (i:=i) w.2 h
theorem Own.pair {H:Hp}{v:V}{x y:Str}{a b:D}{fp:List Addr}(h:Own H v (.tup (.cons x a (.cons y b .nil))) fp):∃c z J L U,v=.ref c/\H c=some (.tup [z,J])/\fp=L++U/\Own H z a L/\Own H J b U:=by
 unfold Own at h;obtain⟨c,vs,rfl,hc,h⟩:=h;unfold eZ at h;obtain⟨z,q,L,U,rfl,rfl,Y,h⟩:=h;unfold eZ at h;obtain⟨J,q2,g,f3,rfl,rfl,g2,h⟩:=h;unfold eZ at h;obtain⟨rfl,rfl⟩:=h;exact⟨c,z,J,L,g,rfl,hc,by simp,Y,g2⟩
theorem Fs.get_mem:∀{fs:Fs}{x:Str}{k:Kd},fs.get x=some k->x∈fs.names
 | .nil,_,_,h=>by cases h
 | .cons y q r,x,k,h=>by
   have h:(if x=y then some q else r.get x)=some k:=h;by_cases e:x=y
   . rw[e];exact Q04
   . rw[if_neg e] at h;exact Q0e _ (Fs.get_mem h)
theorem uY:∀{fs:Fs}{x:Str}{v:D},j2 fs x v->∃k,fs.get x=some k/\fZ k v
 | .nil,_,_,h=>by unfold j2 at h;exact h.elim
 | .cons y k r,x,v,h=>by
   unfold j2 at h;rcases h with⟨e,f⟩|⟨e,h⟩
   . exact⟨k,by show(if x=y then some k else r.get x)=_;rw[if_pos e],f⟩
   . obtain⟨z,J,L⟩:=uY h;exact⟨z,by show(if x=y then some k else r.get x)=_;rw[if_neg e];exact J,L⟩
theorem Fs.qh:∀{fs:Fs}{x:Str}{k:Kd},fs.W->fs.get x=some k->k.W
 | .nil,_,_,_,h=>by cases h
 | .cons y q r,x,k,w,h=>by
   unfold Fs.W at w;have h:(if x=y then some q else r.get x)=some k:=h;by_cases e:x=y
   . rw[if_pos e] at h;cases h;exact w.1
   . rw[if_neg e] at h;exact Fs.qh w.2 h
theorem CW {K:PySem.W.Frag}{a:Addr}{xs:List V}{g:TG}{tb:TS}{D:Ends}{σ:St}{H:Hp}(Pv:Nat->St->Hp->Prop)(Y:Pv 0 σ H)(hl:∀i σ H,i<=xs.length->Pv i σ H->eF K H a xs)
 (hs:∀(i:Nat) y σ H p,xs[i]? =some y->Pv i σ H->H p=none->g (.ref p) σ (upd H p (.tup [.int i,y])) λz H2=>tb { D with nx:=Pv (i+1),ct:=Pv (i+1),bk:=D.nx } z H2) (hd:∀σ H,Pv xs.length σ H->D.nx σ H):
 ∃W:Nat->Nat->St->Hp->Prop,(∃m,W 0 m σ H)/\∀i m σ H,W i m σ H->
  ((Ite K a).stop i H/\D.nx σ H)\/((Ite K a).go i H/\∃N:St->Hp->Prop,(∀J H',N J H'->∃U,U<m/\W (i+1) U J H')/\∀x H',(Ite K a).lx i H x H'->g x σ H' λz H2=>tb { D with nx:=N,ct:=N,bk:=D.nx } z H2):=by
 refine⟨λi m σ H=>m=xs.length - i/\i<=xs.length/\Pv i σ H,⟨xs.length,by simp,Q0b _,Y⟩,?_⟩;rintro i m σ H ⟨rfl,hi,p⟩;by_cases L:i<xs.length
 . refine .inr ⟨⟨xs,xs[i],hl i σ H hi p,by simp[L]⟩,Pv (i+1),λJ H' p'=>⟨xs.length - (i+1),by omega,rfl,L,p'⟩,λx H' y=>?_⟩;obtain⟨q,y,hq,rfl,hy,rfl⟩:=y;exact hs i y σ H q (hy xs (hl i σ H hi p)) p hq
 . have e:i=xs.length:=by omega
   subst e;exact .inl ⟨⟨xs,hl _ σ H (Q00 _) p,Q00 _⟩,hd σ H p⟩
def qi:Sp:=λvs H Q _=>∃b x xs fs k,vs=[.ref b,.str x]/\H b=some (.tup xs)/\FA H xs fs/\fs.names.Nodup/\fs.get x=some k/\∀u,KA H u k->u≠ .non->Q u H
def uZ:Sp:=λvs H Q _=>∃a x y,vs=[.ref a]/\H a=some (.tup [x,y])/\Q (.bl true) H
def CY:Sp:=λvs H Q _=>∃b a xs kvs fs m fp,vs=[.ref b,.ref a]/\H b=some (.tup xs)/\FA H xs fs/\fs.names.Nodup/\fs.names.length<=12/\H a=some (.dK kvs)/\fc H kvs m fp/\gI fs m/\∀H',Same H H'->Q (.bl true) H'
def k_ (n:Nat):Sp:=λvs H Q _=>∃z v k d fp,vs=[z,v]/\KA H z k/\k.W/\Own H v d fp/\fZ k d/\d.dep<=n/\d.Sm/\∀H',Same H H'->Q .non H'
def u0 (n:Nat):Sp:=λvs H Q _=>∃b a xs kvs fs m fp,vs=[.ref b,.ref a]/\H b=some (.tup xs)/\FA H xs fs/\fs.names.Nodup/\fs.names.length<=12/\fs.W/\H a=some (.dK kvs)/\fc H kvs m fp/\gI fs m/\m.dep<=n/\m.Sm/\∀H',Same H H'->Q .non H'
def CZ (n:Nat):Sp:=λvs H Q _=>∃L U a xs key z fs ys J Y,vs=[.ref L,.ref a]/\H L=some (.tup [.str "rows",.str key,.str z,.ref U])/\H U=some (.tup xs)/\FA H xs fs/\(Kd.rows key z fs).W/\H a=some (.lst ys)/\gX H ys J Y/\(∀m∈J,gI fs m)/\J.Pairwise (pW key z)/\(J.map λm=>keyOf m key).Nodup/\(∀m∈J,m.dep<=n)/\(∀m∈J,m.Sm)/\ys.length<=100/\∀H',Same H H'->Q .non H'
def o4 (n:Nat):Sp:=λvs H Q _=>∃a u v k d fp,vs=[.ref a,v]/\H a=some (.tup [.str "tree",u])/\KA H u k/\k.W/\Own H v d fp/\Tree (fZ k) d/\d.dep<=n/\d.Sm/\∀H',Same H H'->Q .non H'
def C0 (n:Nat):Sp:=λvs H Q _=>∃b t x v xs fs d fp,vs=[.ref b,.ref t]/\H b=some (.tup xs)/\FA H xs fs/\fs.names.Nodup/\fs.W/\H t=some (.tup [.str x,v])/\Own H v d fp/\j2 fs x d/\d.dep<=n/\d.Sm/\∀H',Same H H'->Q .non H'
theorem KA.I_ {H:Hp}:∀{u:V}{k:Kd},KA H u k->u≠ .non
 |_,.num,h=>by unfold KA at h;obtain⟨a,rfl,_⟩:=h;intro z;cases z
 |_,.gQ,h=>by unfold KA at h;obtain⟨a,rfl,_⟩:=h;intro z;cases z
 |_,.fx _,h=>by unfold KA at h;obtain⟨a,b,vs,rfl,_⟩:=h;intro z;cases z
 |_,.rows _ _ _,h=>by unfold KA at h;obtain⟨a,b,vs,rfl,_⟩:=h;intro z;cases z
 |_,.tree _,h=>by unfold KA at h;obtain⟨a,b,rfl,_⟩:=h;intro z;cases z
 |_,.ip _,h=>by unfold KA at h;obtain⟨a,b,vs,rfl,_⟩:=h;intro z;cases z
theorem u3:fk ["fields","name","pair"] ["fields","name"] (eR (top 6)):=fA
theorem C1 (T:Tb mg)(J:Dn K mg "kind_at" iX (top 6) L U):eh P w K mg base er (1) L U iX (qi):=by
 refine J.F.ok u3 λvs H Q E h=>?_;obtain⟨b,x,xs,fs,k,rfl,hb,ab,ae,Y,q⟩:=h;refine⟨rfl,λag A outer s nd hr hu=>?_⟩
 refine⟨_,(en (ic PassesOwn.never rfl (iN (pv 0)) (ff (i:=2) nd rfl fL) (eB (eP (eS fw (eK (pv 2) d_) (pv 1) (eO _)) (eB (eJ (eK (pv 2) d_))) eQ)))
  (eB (eJ gn))),?_⟩
 ac_rfl
 refine⟨_,rfl,b,rfl,⟨_,eu.of hb⟩,mh (xs:=xs) (λi σ H'=>H'=H/\(∃z,σ=[some (.ref b),some (.str x),z])/\∀j,j<i->fs.names[j]? ≠some x) ⟨rfl,⟨_,rfl⟩,λj hj=>absurd hj (by omega)⟩ ?_ ?_ ?_⟩
 . rintro i σ H' _ ⟨rfl,_⟩;exact eu.of hb
 . rintro i v σ H' hv ⟨rfl,⟨z,rfl⟩,aa⟩;obtain⟨c,u,nm,k',rfl,ac,hc,hk⟩:=FA.get fs ab hv;have af:fs.names[i]? =some nm:=by rw[Fs.iI,ac];rfl
   refine⟨_,rfl,c,_,_,_,rfl,rfl,eu.of hc,rfl,_,rfl,rfl,_,rfl,gu (λcc=>?_) (λcc=>?_)⟩
   . have e:nm=x:=by
      have:=of_decide_eq_true cc;injection this
     subst e;have ek:=Fs.kU ae ac;rw[Y] at ek
     cases ek;exact⟨_,rfl,c,_,_,_,rfl,rfl,eu.of hc,rfl,q u hk hk.I_⟩
   . refine⟨rfl,⟨_,rfl⟩,λj hj=>?_⟩;by_cases e:j<i
     . exact aa j e
     . have:j=i:=by omega
       subst this;rw[af];intro z
       cases z;exact cc (decide_eq_true rfl)
 . rintro σ H' ⟨rfl,_,aa⟩;obtain⟨j,hj,e⟩:=Q1 (Fs.get_mem Y);exact absurd (by rw[Q03 hj,e]) (aa j (by rw[FA.len fs ab];exact hj))
theorem C2:fk ["value"] ["value"] (eR (top 14)):=fA
theorem Ja (T:Tb mg)(z:Dn K mg "is_pair" jU (top 14) J L):eh P w K mg base er (1) J L jU (uZ):=by
 refine z.F.ok C2 λvs H Q E h=>?_;obtain⟨a,x,y,rfl,U,q⟩:=h;refine⟨rfl,λY A outer s nd hr hu=>?_⟩;refine⟨_,(eB (eJ (i8 (eX gy (by rfl) T.gz boot_isinstance (a_ (pv 0) (a_ (gw (v:=.ty "tuple") rfl T.lP boot_tuple rfl) c_))) (js (iH fw (eX g_ (by rfl) T.gC PySem.boot_len (a_ (pv 0) c_)) d_ (eO _)))))),?_⟩
 ac_rfl
 refine⟨_,rfl,_,_,_,true,rfl,.tup U,rfl,true,rfl,gB ?_⟩;exact⟨_,rfl,a,_,rfl,.inr (eu.of U),rfl,q⟩
theorem C3:fk ["fields","record"] ["fields","record"] (eR (top 12)):=fA
theorem Jb (T:Tb mg)(J:Dn K mg "has_just" hZ (top 12) L U):eh P w K mg base er (1) L U hZ (CY):=by
 refine J.F.ok C3 λvs H Q E h=>?_;obtain⟨b,a,xs,kvs,fs,m,fp,rfl,hb,Y,ac,hx,ha,hO,hF,q⟩:=h;refine⟨rfl,λaf A outer s nd hr hu=>?_⟩;refine⟨_,(eB (eJ (i8 (iH fw (eX t8 (by rfl) T.gC PySem.boot_len (a_ (pv 1) c_)) (eX g_ (by rfl) T.gC PySem.boot_len (a_ (pv 0) c_)) (eO _)) (js (eX (nu rfl) (by rfl) T.nJ boot_all (a_ (jT (g:=(mZ K 2 (jN (gK 0) (jN (gK 1) mY)))) (tt:=jS) (te:=_) (own:=["name","inner"]) rfl (iT (N:=["fields","record"]) (sc:=eR (top 12))) (iN (pv 0)) (λ_ _ _ _ _=>(iQ rfl (gq (ff (i:=0) (show(["name","inner","fields","record"]:List Str).Nodup by decide +kernel) rfl (Or.inl rfl) (.inr rfl)) (gq (ff (i:=1) (show(["name","inner","fields","record"]:List Str).Nodup by decide +kernel) rfl (Or.inl rfl) (.inr rfl)) iP)))) (λ_ _ _ _ _=>kq) (λ_ _ _ _ _=>(Aq (qV hu (pv 0) (pv 3)) (by with_unfolding_all rfl)))) c_)))))),?_⟩
 ac_rfl
 have e1:kvs.length=xs.length:=by rw[fc.len hO,FA.len fs Y,hF.names]
 have ag:xs.length<=12:=by rw[FA.len fs Y];exact hx
 refine⟨_,rfl,a,_,rfl,ha,_,rfl,b,_,rfl,.inr (eu.of hb),rfl,_,rfl,?_⟩;rw[decide_eq_true (show V.int (kvs.length:Nat)=V.int (xs.length:Nat) by rw[e1])];refine gB ?_;refine⟨_,rfl,b,rfl,⟨_,eu.of hb⟩,λi m ys H'=>H'=H/\m=xs.length - i/\i<=xs.length/\ys=(List.replicate i true).map V.bl,⟨xs.length,rfl,by simp,Q0b _,rfl⟩,?_⟩;rintro i m ys H' ⟨rfl,rfl,hi,rfl⟩;by_cases aa:i<xs.length
 . refine .inr ⟨⟨xs,xs[i],eu.of hb,by simp[aa]⟩,by rw[Q02,Q11];exact fX (by omega),λx H' y=>?_⟩;obtain⟨rfl,y⟩:=y;have hv:=y xs (eu.of hb);obtain⟨c,u,nm,k,rfl,ae,hc,hk⟩:=FA.get fs Y hv;obtain⟨d,hd,_⟩:=hF.get (Fs.kU ac ae);obtain⟨v,f,ab,_⟩:=fc.val _ hO hd;refine⟨c,_,rfl,eu.of hc,rfl,_,_,rfl,_,_,rfl,rfl,rfl,yes (gB ?_)⟩;refine⟨_,rfl,_,rfl,a,_,rfl,gc.k (k:=Sum.inr nm) ha,?_⟩;rw[ab];refine⟨xs.length - (i+1),by omega,rfl,rfl,aa,?_⟩;rw[List.replicate_succ',Q0h];rfl
 . refine .inl ⟨⟨xs,eu.of hb,Q0v aa⟩,λp hp=>⟨p,List.replicate i true,rfl,eF.of eI,?_⟩⟩
   have e:(List.replicate i true).all id=true:=by
    rw[Q1b];intro z hz;rw[Q3k hz];rfl
   rw[e];exact q _ (Same.new hp)
theorem u4:fk ["fields","record","name","inner","place"] ["fields","record"] (eR (top 11)):=fA
theorem Jc (n:Nat)(T:Tb mg)(J:Dn K mg "record_misfit" hZ (top 11) L U)(Y:Dn K mg "has_just" hZ (top 12) aa ab)(ac:eh P w K mg base er (1) aa ab hZ (CY))(ae:Dn K mg "misfit" h_ (top 10) af ag)(ah:eh P w K mg base er (4 * n+3) af ag h_ (k_ n)):eh P w K mg base er (4 * n+4) L U hZ (u0 n):=by
 refine J.F.ok u4 λvs H Q E h=>?_;obtain⟨b,a,xs,kvs,fs,m,fp,rfl,hb,ai,aj,hx,ao,ha,hO,hF,ap,aq,q⟩:=h;refine⟨rfl,λar A outer s nd hr hu=>?_⟩
 refine⟨_,(en (eP (PW.pt (ib (gp (fU (eX gy (by rfl) T.gz boot_isinstance (a_ (pv 1) (a_ (gw (v:=.ty "dict") rfl T.lU boot_dict rfl) c_))))) (ig (gp (fU (eL ac hr Y (a_ (pv 0) (a_ (pv 1) c_)))))))) (eB (eJ (gA c_))) eQ)
  (en (ic PassesOwn.never rfl (iN (pv 0)) (iQ rfl (gq (ff (i:=2) nd rfl fL) (gq (ff (i:=3) nd rfl fL) iP))) (en (eT 4 nd (eL ah hr ae (a_ (pv 3) (a_ (iw hu (pv 1) (pv 2) (λ_ _=>rfl)) c_))))
  (eB (eP (eS ju (pv 4) gn (eO _)) (eB (eJ jF)) eQ))))
  (eB (eJ gn)))),?_⟩
 ac_rfl
 refine⟨_,rfl,_,_,_,true,rfl,.dK ha,rfl,true,rfl,fE ?_⟩;refine⟨_,rfl,_,rfl,b,a,xs,kvs,fs,m,fp,rfl,hb,ai,aj,hx,ha,hO,hF,λH1 s1=>⟨true,rfl,fE ?_⟩⟩;refine⟨_,rfl,b,rfl,⟨_,eu.of (s1 _ _ hb)⟩,mh (xs:=xs) (λi σ H'=>Same H H'/\∃x y z,σ=[some (.ref b),some (.ref a),x,y,z]) ⟨s1,_,_,_,rfl⟩ ?_ ?_ ?_⟩
 . rintro i σ H' _ ⟨s2,_⟩;exact eu.of (s2 _ _ hb)
 . rintro i v σ H' hv ⟨s2,x,y,z,rfl⟩;obtain⟨c,u,nm,k,rfl,ak,hc,hk⟩:=FA.get fs ai hv;obtain⟨d,hd,al⟩:=hF.get (Fs.kU aj ak);obtain⟨e,f,am,an,_⟩:=fc.val _ hO hd;refine⟨c,_,rfl,eu.of (s2 _ _ hc),rfl,_,_,rfl,_,_,rfl,rfl,?_⟩;refine⟨_,rfl,_,rfl,_,rfl,a,e,rfl,(by have:=gc.k (k:=Sum.inr nm) (s2 _ _ ha);rw[am] at this;exact this),u,e,k,d,f,rfl,KA.mono (Tu.of s2) k hk,Fs.nE ao ak,Own.same s2 an,al,Q05 (Ds.nI hd) ap,Ds.rO aq hd,λH3 s3=>?_⟩;refine⟨_,rfl,rfl,_,rfl,?_⟩;rw[decide_eq_true rfl];refine fE ?_;exact⟨s2.trans s3,_,_,_,rfl⟩
 . rintro σ H' ⟨s2,_⟩;exact q _ s2
theorem C4:fk ["kind","rows","earlier","number","row","place"] ["kind","rows"] (eR (top 13)):=fA
theorem Jd (n:Nat)(T:Tb mg)(aa:Dn K mg "rows_misfit" kz (top 13) ab ac)(J:Dn K mg "record_misfit" hZ (top 11) L U)(Y:eh P w K mg base er (4 * n+4) L U hZ (u0 n))(ak:Dn K mg "rank" nL (top 17) av aw)(al:eh P w K mg base er (1) av aw nL (qg)):eh P w K mg base er (4 * n+5) ab ac kz (CZ n):=by
 refine aa.F.ok C4 λvs H Q E h=>?_;obtain⟨pk,pb,a,xs,key,ag,fs,ys,rs,fl,rfl,aj,aJ,aK,hW,ha,ao,ae,aA,aL,aM,aN,a4,q⟩:=h;refine⟨rfl,λa7 A outer s nd hr hu=>?_⟩;have aO:=hr.tL;unfold Kd.W at hW;obtain⟨aP,aT,aU,ai,aq⟩:=hW
 refine⟨_,(en (eP (gp (fU (eX gy (by rfl) T.gz boot_isinstance (a_ (pv 1) (a_ (gw (v:=.ty "list") rfl T.j4 boot_list rfl) c_))))) (eB (eJ (gA c_))) eQ)
  (en (eT 2 nd nq)
  (en (ic PassesOwn.never rfl (qY rfl T.rz (a_ (pv 1) c_)) (iQ rfl (gq (ff (i:=3) nd rfl fL) (gq (ff (i:=4) nd rfl fL) iP))) (en (eT 5 nd (eL Y hr J (a_ (eK (pv 0) d_) (a_ (pv 4) c_))))
  (en (eP (eS ju (pv 5) gn (eO _)) (eB (eJ jF)) eQ)
  (en (eP (PW.pt (mU (eS og (pv 3) d_ (eO _)) (mT (eS (BJ aO) (eL al hr ak (a_ (pv 0) (a_ (pv 4) c_))) (eL al hr ak (a_ (pv 0) (a_ (iW (pv 1) (eN kN (pv 3) d_)) c_))) (eO _))))) (eB (eJ jF)) eQ)
  (en (eP (pB (qV hu (iw hu (pv 4) (eK (pv 0) d_) (λ_ _=>rfl)) (pv 2)) (by with_unfolding_all rfl)) (eB (eJ jF)) eQ)
  (eB (jZ hu (pv 2) (iw hu (pv 4) (eK (pv 0) d_) (λ_ _=>rfl)) gH rfl)))))))
  (eB (eJ gn))))),?_⟩
 ac_rfl
 refine⟨_,rfl,_,_,_,true,rfl,.lst ha,rfl,true,rfl,fE ?_⟩;intro p hp;have s0:Same H (upd H p (.dK [])):=Same.new hp;obtain⟨a5,a6⟩:=A3.len ao;refine⟨_,rfl,a,rfl,⟨_,eF.of (s0 _ _ ha)⟩,CW (xs:=ys) (λi σ H'=>∃x y z ek,σ=[some (.ref pk),some (.ref a),some (.ref p),x,y,z]/\Same H H'/\H' p=some (.dK ek)/\ek.map (·.1)=(rs.take i).map λm=>keyOf m key) ⟨_,_,_,[],rfl,s0,eI,rfl⟩ ?_ ?_ ?_⟩
 . rintro i σ H' _ ⟨x,y,z,ek,rfl,s2,_⟩;exact eF.of (s2 _ _ ha)
 . rintro i yv σ H' t hy ⟨x,y,z,ek,rfl,s2,aV,ay⟩ ht;have hi:i<ys.length:=(List.getElem?_eq_some_iff.mp hy).1;have st:Same H' (upd H' t (.tup [.int i,yv])):=Same.new ht;have s3:=s2.trans st
   have aB:∀j,j<ys.length->∃rr kvs fq,ys[j]? =some (.ref rr)/\H rr=some (.dK kvs)/\fc H kvs (rs.getD j .nil) fq/\rs.getD j .nil∈rs:=λj hj=>by
    have h:=A3.at (a0:=V.non) (b0:=Ds.nil) (c0:=[]) ao j hj;unfold Own at h;obtain⟨rr,kvs,fq,e,am,_,an⟩:=h;refine⟨rr,kvs,fq,?_,am,an,?_⟩
    . rw[<-e,Q0f,Q03 hj];rfl
    . rw[Q0f,Q03 (by omega)];exact Q1i _
   obtain⟨rr,kvs,fq,aC,am,an,af⟩:=aB i hi;rw[hy] at aC
   cases aC;have aD:upd H' t (.tup [.int i,.ref rr]) p=some (.dK ek):=st _ _ aV
   have gk:∀H4,Same H H4->gc H4 rr (.str key) (some (kV (keyOf (rs.getD i .nil) key))):=λH4 s4=>by
    have:=gc.k (k:=Sum.inr key) (s4 _ _ am);rw[an.key (ae _ af) ai] at this;exact this
   refine⟨t,_,rfl,eu.of eI,rfl,_,_,rfl,_,_,rfl,rfl,?_⟩;refine⟨_,rfl,pk,_,_,_,rfl,rfl,eu.of (s3 _ _ aj),rfl,_,rfl,pb,rr,xs,kvs,fs,_,fq,rfl,s3 _ _ aJ,FA.mono (Tu.of s3) fs aK,aP,aT,aU,s3 _ _ am,fc.same s3 an,ae _ af,aM _ af,aN _ af,λH4 s4=>?_⟩;have ah:=s3.trans s4;refine⟨_,rfl,rfl,_,rfl,?_⟩;rw[decide_eq_true rfl];refine fE ?_
   have ar:ft ek (keyOf (rs.getD i .nil) key)=none:=by
    have sv:=CI ay (keyOf (rs.getD i .nil) key)
    have:mr key (rs.take i) (keyOf (rs.getD i .nil) key)=false:=by
     cases z:mr key (rs.take i) (keyOf (rs.getD i .nil) key) with
     |false=>rfl
     |true=>
      obtain⟨m,hm,e⟩:=List.any_eq_true.mp z;have e:=of_decide_eq_true e;obtain⟨j,hj,ej⟩:=Q1 hm;rw[Q0k] at hj;rw[Q1l] at ej;have aE:i<rs.length:=by omega
      have e2:rs.getD i .nil=rs[i]:=by rw[Q0f,Q03 aE];rfl
      have:=List.pairwise_iff_getElem.mp (List.pairwise_map.mp aL) j i (by omega) aE (by omega);rw[ej,<-e2] at this;exact absurd e this
    rw[this] at sv
    cases z:ft ek (keyOf (rs.getD i .nil) key) with
    |none=>rfl
    |some o=>rw[z] at sv;cases sv
   have fin:∀H5,Same (upd H' t (.tup [.int i,.ref rr])) H5->∀(DD:Ends),DD.nx=(λσ H'=>∃x y z ek,σ=[some (.ref pk),some (.ref a),some (.ref p),x,y,z]/\Same H H'/\H' p=some (.dK ek)/\ek.map (·.1)=(rs.take (i+1)).map λm=>keyOf m key)->∀z':Option V,
    DD.nx [some (.ref pk),some (.ref a),some (.ref p),some (.int i),some (.ref rr),z'] (upd H5 p (.dK (ek++[(keyOf (rs.getD i .nil) key,.bl true)]))):=λH5 s5 DD aW z'=>by
    rw[aW];refine⟨_,_,_,_,rfl,λc o e=>?_,eI,?_⟩
    . rw[eA (eM e hp)];exact s5 _ _ (s3 _ _ e)
    . rw[Q0h,ay,Q0p,Q0h];congr 1;rw[Q03 (by omega),Q0f,Q03 (by omega)];rfl
   have ax:ek.length<sizeLine:=by
    have e1:=congrArg List.length ay;rw[Q02,Q02,Q0k] at e1;have:=hr.tL;exact fX (by omega)
   refine⟨_,rfl,_,_,rfl,rfl,_,rfl,gu (λc=>?_) (λc=>fE ?_)⟩
   . have a8:0<i:=by
      have:(0:Int)<(i:Int):=of_decide_eq_true c;omega
     obtain⟨rp,aX,aY,aH,aZ,aI,ap⟩:=aB (i - 1) (by omega);refine⟨_,rfl,_,rfl,pk,rr,pb,key,ag,fs,kvs,_,fq,rfl,ah _ _ aj,ah _ _ am,fc.same ah an,ae _ af,ai,aq,λt1 a1=>?_⟩;have az:Same H4 (upd H4 t1 (.tup ((rankOf key ag (rs.getD i .nil)).map kV))):=Same.new a1;have s5:=ah.trans az
     have a2:ir ys ((i:Int) - 1)=some (.ref rp):=by
      have e:(i:Int) - 1=((i - 1:Nat):Int):=by omega
      rw[e];exact jY aH
     refine⟨_,rfl,_,rfl,_,rfl,_,_,rfl,rfl,a,_,_,_,rfl,rfl,eF.of (s5 _ _ ha),a2,pk,rp,pb,key,ag,fs,aX,_,aY,rfl,s5 _ _ aj,s5 _ _ aZ,fc.same s5 aI,ae _ ap,ai,aq,λt2 qj=>?_⟩;have au:Same (upd H4 t1 (.tup ((rankOf key ag (rs.getD i .nil)).map kV))) (upd (upd H4 t1 (.tup ((rankOf key ag (rs.getD i .nil)).map kV))) t2 (.tup ((rankOf key ag (rs.getD (i - 1) .nil)).map kV))):=Same.new qj;have s6:=s5.trans au
     have a3:fY (rankOf key ag (rs.getD (i - 1) .nil)) (rankOf key ag (rs.getD i .nil))=true:=by
      have ge:∀j (h:j<rs.length),rs.getD j .nil=rs[j]:=λj h=>by rw[Q0f,Q03 h];rfl
      rw[ge (i - 1) (by omega),ge i (by omega)];exact List.pairwise_iff_getElem.mp aA (i - 1) i (by omega) (by omega) (by omega)
     refine⟨t1,t2,_,_,rfl,rfl,eu.of (au _ _ eI),eu.of eI,(uy (ae _ af) ai aq).trans (uy (ae _ ap) ai aq).symm,_,rfl,?_⟩;rw[a3];refine fE ?_;have aF:=au _ _ (az _ _ (s4 _ _ aD));refine⟨_,rfl,_,rfl,pk,_,_,_,rfl,rfl,eu.of (s6 _ _ aj),rfl,rr,_,rfl,gk _ s6,_,rfl,p,_,rfl,gc.k aF,_,rfl,?_⟩;rw[ar];refine fE ?_;refine⟨_,rfl,_,rfl,_,rfl,pk,_,_,_,rfl,rfl,eu.of (s6 _ _ aj),rfl,rr,_,rfl,gk _ s6,p,_,rfl,jj.k aF ax,?_⟩;rw[rl ar];exact fin _ (s4.trans (az.trans au)) _ rfl _
   . have aG:=s4 _ _ aD;refine⟨_,rfl,_,rfl,pk,_,_,_,rfl,rfl,eu.of (ah _ _ aj),rfl,rr,_,rfl,gk _ ah,_,rfl,p,_,rfl,gc.k aG,_,rfl,?_⟩;rw[ar];refine fE ?_;refine⟨_,rfl,_,rfl,_,rfl,pk,_,_,_,rfl,rfl,eu.of (ah _ _ aj),rfl,rr,_,rfl,gk _ ah,p,_,rfl,jj.k aG ax,?_⟩;rw[rl ar];exact fin _ s4 _ rfl _
 . rintro σ H' ⟨x,y,z,ek,rfl,s2,_⟩;exact q _ s2
theorem u5:fk ["kind","tree","place","number","arm"] ["kind","tree"] (eR (top 15)):=fA
theorem Je (T:Tb mg)(z:Dn K mg "tree_misfit" i3 (top 15) J L):eh P w K mg base er (4 * 0+2) J L i3 (o4 0):=by
 refine z.F.ok u5 λvs H Q E h=>?_;obtain⟨a,u,v,k,d,fp,rfl,_,_,_,_,_,U,_⟩:=h;refine⟨rfl,λY A outer s nd hr hu=>?_⟩;exact absurd U (by have:=d.lM;omega)
theorem Jf (n:Nat)(T:Tb mg)(J:Dn K mg "tree_misfit" i3 (top 15) L U)(Y:eh P w K mg base er (4 * n+2) L U i3 (o4 n))(aa:Dn K mg "is_pair" jU (top 14) ab ac)(ae:eh P w K mg base er (1) ab ac jU (uZ))(af:Dn K mg "misfit" h_ (top 10) ag ah)(ai:eh P w K mg base er (4 * n+3) ag ah h_ (k_ n)):eh P w K mg base er (4 * (n+1)+2) L U i3 (o4 (n+1)):=by
 refine J.F.ok u5 λvs H Q E h=>?_;obtain⟨a,u,v,k,d,fp,rfl,ha,hk,hW,hO,mL,ap,al,q⟩:=h;refine⟨rfl,λaz A outer s nd hr hu=>?_⟩;obtain⟨x,y,t,as,rfl,aq,ar⟩:=mL.shape;obtain⟨c,v1,v2,f1,f2,rfl,hc,rfl,au,am⟩:=hO.pair;unfold Own at am;obtain⟨pl,ys,fq,rfl,aj,rfl,av⟩:=am;simp only[D.dep,Ds.dep] at ap;unfold D.Sm Ds.Sm at al;obtain⟨_,aw,an⟩:=al;unfold Ds.Sm at an;have ao:=an.1;unfold D.Sm at ao
 refine⟨_,(en (eP (PW.pt (ib (gp (fU (eL ae hr aa (a_ (pv 1) c_)))) (ig (gp (fU (eX gy (by rfl) T.gz boot_isinstance (a_ (eK (pv 1) d_) (a_ (gw (v:=.ty "list") rfl T.j4 boot_list rfl) c_)))))))) (eB (eJ (gA c_))) eQ)
  (en (eT 2 nd (eL ai hr af (a_ (eK (pv 0) d_) (a_ (eK (pv 1) d_) c_))))
  (en (eP (eS ju (pv 2) gn (eO _)) (eB (eJ jF)) eQ)
  (en (ic PassesOwn.never rfl (qY rfl T.rz (a_ (eK (pv 1) d_) c_)) (iQ rfl (gq (ff (i:=3) nd rfl fL) (gq (ff (i:=4) nd rfl fL) iP))) (en (eT 2 nd (eL Y hr J (a_ (pv 0) (a_ (pv 4) c_))))
  (eB (eP (eS ju (pv 2) gn (eO _)) (eB (eJ jF)) eQ))))
  (eB (eJ gn)))))),?_⟩
 ac_rfl
 refine⟨_,rfl,c,v1,.ref pl,rfl,hc,true,rfl,fE ?_⟩;refine⟨_,rfl,c,_,_,_,rfl,rfl,eu.of hc,rfl,_,_,_,true,rfl,.lst aj,rfl,true,rfl,fE ?_⟩;refine⟨_,rfl,a,_,_,_,rfl,rfl,eu.of ha,rfl,_,rfl,c,_,_,_,rfl,rfl,eu.of hc,rfl,u,v1,k,t,f1,rfl,hk,hW,au,aq,by omega,aw,λH1 s1=>?_⟩;refine⟨_,rfl,rfl,_,rfl,?_⟩;rw[decide_eq_true rfl];refine fE ?_;refine⟨_,rfl,c,_,_,_,rfl,rfl,eu.of (s1 _ _ hc),rfl,pl,rfl,⟨_,eF.of (s1 _ _ aj)⟩,CW (xs:=ys) (λi σ H'=>Same H H'/\∃x y z,σ=[some (.ref a),some (.ref c),x,y,z]) ⟨s1,_,_,_,rfl⟩ ?_ ?_ ?_⟩
 . rintro i σ H' _ ⟨s2,_⟩;exact eF.of (s2 _ _ aj)
 . rintro i yv σ H' tt hy ⟨s2,x,y,z,rfl⟩ ax;have st:Same H' (upd H' tt (.tup [.int i,yv])):=Same.new ax;have s3:=s2.trans st;obtain⟨d',f,ak,ay,_⟩:=eZ.get _ av hy;have aA:=Ds.nz ak;refine⟨tt,_,rfl,eu.of eI,rfl,_,_,rfl,_,_,rfl,rfl,?_⟩;refine⟨_,rfl,_,rfl,a,u,yv,k,d',f,rfl,s3 _ _ ha,KA.mono (Tu.of s3) k hk,hW,Own.same s3 ay,jH.at ar ak,by omega,Ds.uS ao.2 ak,λH4 s4=>?_⟩;refine⟨_,rfl,rfl,_,rfl,?_⟩;rw[decide_eq_true rfl];refine fE ?_;exact⟨s3.trans s4,_,_,_,rfl⟩
 . rintro σ H' ⟨s2,_⟩;exact q _ s2
theorem C5:fk ["fields","value","inner","place"] ["fields","value"] (eR (top 16)):=fA
theorem Jg (n:Nat)(T:Tb mg)(z:Dn K mg "either_misfit" kB (top 16) J L)(U:Dn K mg "is_pair" jU (top 14) Y aa)(ab:eh P w K mg base er (1) Y aa jU (uZ))(ac:Dn K mg "kind_at" iX (top 6) ae af)(ag:eh P w K mg base er (1) ae af iX (qi))(ah:Dn K mg "misfit" h_ (top 10) ai aj)(ak:eh P w K mg base er (4 * n+3) ai aj h_ (k_ n)):eh P w K mg base er (4 * n+4) J L kB (C0 n):=by
 refine z.F.ok C5 λvs H Q E h=>?_;obtain⟨b,t,x,v,xs,fs,d,fp,rfl,hb,an,ao,ap,ht,hO,hE,aq,ar,q⟩:=h;refine⟨rfl,λav A outer s nd hr hu=>?_⟩
 refine⟨_,(en (eP (gp (fU (eL ab hr U (a_ (pv 1) c_)))) (eB (eJ (gA c_))) eQ)
  (en (eT 2 nd (eL ag hr ac (a_ (pv 0) (a_ (eK (pv 1) d_) c_))))
  (en (eP (eS qO (pv 2) gn (eO _)) (eB (eJ (gA c_))) eQ)
  (en (eT 3 nd (eL ak hr ah (a_ (pv 2) (a_ (eK (pv 1) d_) c_))))
  (en (eP (eS ju (pv 3) gn (eO _)) (eB (eJ jF)) eQ)
  (eB (eJ gn))))))),?_⟩
 ac_rfl
 obtain⟨k,al,am⟩:=uY hE;refine⟨_,rfl,t,_,_,rfl,ht,true,rfl,fE ?_⟩;refine⟨_,rfl,_,rfl,t,_,_,_,rfl,rfl,eu.of ht,rfl,b,x,xs,fs,k,rfl,hb,an,ao,al,λu hu au=>?_⟩;refine⟨_,rfl,rfl,_,rfl,?_⟩;rw[decide_eq_false au];refine fE ?_;refine⟨_,rfl,_,rfl,t,_,_,_,rfl,rfl,eu.of ht,rfl,u,v,k,d,fp,rfl,hu,Fs.qh ap al,hO,am,aq,ar,λH1 s1=>?_⟩;refine⟨_,rfl,rfl,_,rfl,?_⟩;rw[decide_eq_true rfl];refine fE ?_;exact q _ s1
theorem rQ:fk ["kind","value","form"] ["kind","value"] (eR (top 10)):=fA
theorem Jh (T:Tb mg)(z:Dn K mg "misfit" h_ (top 10) J L):eh P w K mg base er (4 * 0+3) J L h_ (k_ 0):=by
 refine z.F.ok rQ λvs H Q E h=>?_;obtain⟨kv,v,k,d,fp,rfl,_,_,_,_,U,_⟩:=h;refine⟨rfl,λY A outer s nd hr hu=>?_⟩;exact absurd U (by have:=d.lM;omega)
theorem Ji (n:Nat)(T:Tb mg)(ao:Dn K mg "misfit" h_ (top 10) ap aq)(J:Dn K mg "record_misfit" hZ (top 11) L U)(Y:eh P w K mg base er (4 * n+4) L U hZ (u0 n))(af:Dn K mg "rows_misfit" kz (top 13) ag ah)(ai:eh P w K mg base er (4 * n+5) ag ah kz (CZ n))(aj:Dn K mg "tree_misfit" i3 (top 15) ak al)(am:eh P w K mg base er (4 * (n+1)+2) ak al i3 (o4 (n+1)))(aa:Dn K mg "either_misfit" kB (top 16) ab ac)(ae:eh P w K mg base er (4 * n+4) ab ac kB (C0 n)):
 eh P w K mg base er (4 * (n+1)+3) ap aq h_ (k_ (n+1)):=by
 refine ao.F.ok rQ λvs H Q E h=>?_;obtain⟨kv,v,k,d,fp,rfl,hk,hW,hO,hF,av,an,q⟩:=h;refine⟨rfl,λaD A outer s nd hr hu=>?_⟩
 refine⟨_,(en (eT 2 nd (eK (pv 0) d_))
  (en (eP (eS fw (pv 2) fh (eO _)) (eB (eJ (mV (PW.pt (mU (fU (eX gy (by rfl) T.gz boot_isinstance (a_ (pv 1) (a_ (gw (v:=.ty "int") rfl T.qc boot_int rfl) c_)))) (mT (gp (fU (eX gy (by rfl) T.gz boot_isinstance (a_ (pv 1) (a_ (gw (v:=.ty "bool") rfl T.oP boot_bool rfl) c_)))))))) gn (gA c_)))) eQ)
  (en (eP (eS fw (pv 2) fh (eO _)) (eB (eJ (mV (fU (eX gy (by rfl) T.gz boot_isinstance (a_ (pv 1) (a_ (gw (v:=.ty "str") rfl T.lO boot_str rfl) c_)))) gn (gA c_)))) eQ)
  (en (eP (eS fw (pv 2) fh (eO _)) (eB (eJ (eL Y hr J (a_ (eK (pv 0) d_) (a_ (pv 1) c_))))) eQ)
  (en (eP (eS fw (pv 2) fh (eO _)) (eB (eJ (eL ai hr af (a_ (pv 0) (a_ (pv 1) c_))))) eQ)
  (en (eP (eS fw (pv 2) fh (eO _)) (eB (eJ (eL am hr aj (a_ (pv 0) (a_ (pv 1) c_))))) eQ)
  (eB (eJ (eL ae hr aa (a_ (eK (pv 0) d_) (a_ (pv 1) c_))))))))))),?_⟩
 ac_rfl
 cases k with
 |num=>
  unfold KA at hk;obtain⟨a,rfl,ha⟩:=hk;unfold fZ at hF;obtain⟨z,rfl⟩:=hF;unfold Own at hO;obtain⟨rfl,rfl⟩:=hO;refine⟨_,rfl,a,_,_,_,rfl,rfl,eu.of ha,rfl,?_⟩;refine kr rfl (by decide +kernel) ?_;refine⟨_,rfl,_,_,_,true,rfl,.int z,rfl,true,rfl,gB ?_⟩;refine⟨_,rfl,_,_,_,false,rfl,.int z,rfl,false,rfl,gB ?_⟩;exact q _ (Same.refl _)
 |gQ=>
  unfold KA at hk;obtain⟨a,rfl,ha⟩:=hk;unfold fZ at hF;obtain⟨z,rfl⟩:=hF;unfold Own at hO;obtain⟨rfl,rfl⟩:=hO;refine⟨_,rfl,a,_,_,_,rfl,rfl,eu.of ha,rfl,?_⟩;refine gO rfl (by decide +kernel) ?_;refine kr rfl (by decide +kernel) ?_;refine⟨_,rfl,_,_,_,true,rfl,.str z,rfl,true,rfl,gB ?_⟩;exact q _ (Same.refl _)
 |fx fs=>
  unfold KA at hk;obtain⟨a,b,xs,rfl,ha,hb,ar⟩:=hk;unfold fZ at hF;obtain⟨m,rfl,hF⟩:=hF;unfold Own at hO;obtain⟨c,kvs,fq,rfl,hc,rfl,hO⟩:=hO;unfold Kd.W at hW;unfold D.Sm at an;simp only[D.dep] at av;refine⟨_,rfl,a,_,_,_,rfl,rfl,eu.of ha,rfl,?_⟩;refine gO rfl (by decide +kernel) ?_;refine gO rfl (by decide +kernel) ?_;refine kr rfl (by decide +kernel) ?_;exact⟨_,rfl,a,_,_,_,rfl,rfl,eu.of ha,rfl,_,rfl,b,c,xs,kvs,fs,m,fq,rfl,hb,ar,hW.1,hW.2.1,hW.2.2,hc,hO,hF,by omega,an.2,q⟩
 |rows key aA fs=>
  unfold KA at hk;obtain⟨a,b,xs,rfl,ha,hb,ar⟩:=hk;unfold fZ at hF;obtain⟨rs,rfl,az,aw,aB⟩:=hF;unfold Own at hO;obtain⟨c,ys,fq,rfl,hc,rfl,hO⟩:=hO;obtain⟨fl,au,rfl⟩:=eZ.rows hO;unfold D.Sm at an;simp only[D.dep] at av;refine⟨_,rfl,a,_,_,_,rfl,rfl,eu.of ha,rfl,?_⟩;refine gO rfl (by decide +kernel) ?_;refine gO rfl (by decide +kernel) ?_;refine gO rfl (by decide +kernel) ?_;refine kr rfl (by decide +kernel) ?_;refine⟨_,rfl,_,rfl,a,b,c,xs,key,aA,fs,ys,rs,fl,rfl,ha,hb,ar,hW,hc,au,az,aw,aB,λm hm=>?_,λm hm=>?_,?_,q⟩
  . have:=uV m hm;omega
  . have:=uU an.2 m hm;unfold D.Sm at this;exact this.2
  . have h1:=(A3.len au).1;have h2:=an.1;rw[uT] at h2;omega
 |tree k=>
  unfold KA at hk;obtain⟨a,u,rfl,ha,hu⟩:=hk;unfold fZ at hF;unfold Kd.W at hW;refine⟨_,rfl,a,_,_,_,rfl,rfl,eu.of ha,rfl,?_⟩;refine gO rfl (by decide +kernel) ?_;refine gO rfl (by decide +kernel) ?_;refine gO rfl (by decide +kernel) ?_;refine gO rfl (by decide +kernel) ?_;refine kr rfl (by decide +kernel) ?_;exact⟨_,rfl,_,rfl,a,u,v,k,d,fp,rfl,ha,hu,hW,hO,hF,av,an,q⟩
 |ip fs=>
  unfold KA at hk;obtain⟨a,b,xs,rfl,ha,hb,ar⟩:=hk;unfold fZ at hF;obtain⟨x,v',rfl,hE⟩:=hF;obtain⟨c,v1,v2,f1,f2,rfl,hc,rfl,ax,aC⟩:=hO.pair;unfold Own at ax;obtain⟨rfl,rfl⟩:=ax;unfold Kd.W at hW;simp only[D.dep,Ds.dep] at av;unfold D.Sm Ds.Sm at an;obtain⟨_,aE,ay⟩:=an;unfold Ds.Sm at ay;refine⟨_,rfl,a,_,_,_,rfl,rfl,eu.of ha,rfl,?_⟩;refine gO rfl (by decide +kernel) ?_;refine gO rfl (by decide +kernel) ?_;refine gO rfl (by decide +kernel) ?_;refine gO rfl (by decide +kernel) ?_;refine gO rfl (by decide +kernel) ?_;exact⟨_,rfl,a,_,_,_,rfl,rfl,eu.of ha,rfl,_,rfl,b,c,x,v2,xs,fs,v',f2,rfl,hb,ar,hW.1,hW.2.2.2,hc,aC,hE,by omega,ay.1,q⟩
theorem C6 (T:Tb mg)(U:Dn K mg "misfit" h_ (top 10) ah ai)(z:Dn K mg "record_misfit" hZ (top 11) aj ak)(ab:Dn K mg "has_just" hZ (top 12) ap aq)(Y:Dn K mg "rows_misfit" kz (top 13) an ao)(ag:Dn K mg "rank" nL (top 17) ay az)(J:Dn K mg "tree_misfit" i3 (top 15) ae af)(aa:Dn K mg "is_pair" jU (top 14) ar au)(L:Dn K mg "either_misfit" kB (top 16) al am)(ac:Dn K mg "kind_at" iX (top 6) av aw):∀n:Nat,eh P w K mg base er (4 * n+3) ah ai h_ (k_ n)/\eh P w K mg base er (4 * n+2) ae af i3 (o4 n)
 |0=>⟨Jh T U,Je T J⟩
 |n+1=>by
  obtain⟨M,Tr⟩:=C6 T U z ab Y ag J aa L ac n;have Ip:=Ja (P:=P) (w:=w) (base:=base) T aa;have R:=Jc n T z ab (Jb T ab) U M;have Ro:=Jd n T Y z R ag (CG T ag);have ax:=Jf n T J Tr aa Ip U M;have Ei:=Jg n T L aa Ip ac (C1 T ac) U M;exact⟨Ji n T U z R Y Ro J ax L Ei,ax⟩
theorem C7:∀{l:List Ds}{i:Nat}{d:D},(iq l).at i=some d->∃m∈l,d=.dct m
 |[],_,_,h=>by cases h
 |m::r,0,_,h=>by cases h;exact⟨m,Q04,rfl⟩
 |m::r,i+1,d,h=>by
  obtain⟨z,h1,h2⟩:=C7 (l:=r) (i:=i) h;exact⟨z,Q0e _ h1,h2⟩
theorem Fs.C8:∀{fs:Fs}{x:Str}{k:Kd},fs.get x=some k->∃j,fs.at j=some (x,k)
 | .nil,_,_,h=>by cases h
 | .cons y q r,x,k,h=>by
   have h:(if x=y then some q else r.get x)=some k:=h;by_cases e:x=y
   . rw[if_pos e] at h
     cases h;exact⟨0,by rw[e];rfl⟩
   . rw[if_neg e] at h;obtain⟨j,z⟩:=Fs.C8 h;exact⟨j+1,z⟩
theorem Fs.Jj {fs:Fs}{i j:Nat}{x:Str}{k z:Kd}(J:fs.names.Nodup)(h1:fs.at i=some (x,k))(h2:fs.at j=some (x,z)):i=j:=by
 have L:fs.names[i]? =some x:=by rw[Fs.iI,h1];rfl
 have U:fs.names[j]? =some x:=by rw[Fs.iI,h2];rfl
 obtain⟨l1,Y⟩:=List.getElem?_eq_some_iff.mp L;obtain⟨l2,q2⟩:=List.getElem?_eq_some_iff.mp U;exact(Q2b J).mp (Y.trans q2.symm)
theorem rR (i:Nat):(List.replicate i true).all id=true:=by
 rw[Q1b];intro z J;rw[Q3k J];rfl
def nO (n:Nat):Sp:=λvs H Q _=>∃z J L k d U Y,vs=[z,J,L]/\KA H z k/\k.W/\Own H J d U/\Own H L d Y/\fZ k d/\d.dep<=n/\d.Sm/\∀H',Same H H'->Q (.bl true) H'
theorem C9:fk ["_law_kind_here","_law_found","_law_due","_law_name","_law_inner"] ["_law_kind_here","_law_found","_law_due"] (eR (top 47)):=fA
theorem Jk (n:Nat)(T:Tb mg)(J:Dn K mg "_law_alike" iK (top 47) aa ab)(L:eh P w K mg base er (n+1) aa ab iK (nO n)):eh P w K mg base er ((n+1)+1) aa ab iK (nO (n+1)):=by
 refine J.F.ok C9 λvs H Q E h=>?_;obtain⟨kv,v1,v2,k,d,f1,f2,rfl,hk,hW,ag,ah,hF,au,aj,q⟩:=h;refine⟨rfl,λa7 A outer s nd hr hu=>?_⟩
 refine⟨_,(en (eP (eS fw (eK (pv 0) d_) fh (eO _)) (eB (eJ (i8 (eX gy (by rfl) T.gz boot_isinstance (a_ (pv 1) (a_ (gw (v:=.ty "int") rfl T.qc boot_int rfl) c_))) (i8 (Ar (eX gy (by rfl) T.gz boot_isinstance (a_ (pv 1) (a_ (gw (v:=.ty "bool") rfl T.oP boot_bool rfl) c_)))) (js (iH fw (pv 1) (pv 2) (eO _))))))) eQ)
  (en (eP (eS fw (eK (pv 0) d_) fh (eO _)) (eB (eJ (i8 (eX gy (by rfl) T.gz boot_isinstance (a_ (pv 1) (a_ (gw (v:=.ty "str") rfl T.lO boot_str rfl) c_))) (js (iH fw (pv 1) (pv 2) (eO _)))))) eQ)
  (en (eP (eS fw (eK (pv 0) d_) fh (eO _)) (en (eP (PW.pt (ib (gp (fU (eX gy (by rfl) T.gz boot_isinstance (a_ (pv 1) (a_ (gw (v:=.ty "dict") rfl T.lU boot_dict rfl) c_))))) (ig (eS gZ (eX oq (by rfl) T.gC PySem.boot_len (a_ (pv 1) c_)) (eX g_ (by rfl) T.gC PySem.boot_len (a_ (eK (pv 0) d_) c_)) (eO _))))) (eB (eJ gH)) eQ)
  (en (ic PassesOwn.never rfl (iN (eK (pv 0) d_)) (iQ rfl (gq (ff (i:=3) nd rfl fL) (gq (ff (i:=4) nd rfl fL) iP))) (eB (eP (PW.pt (ib (pB (tZ hu (pv 3) (pv 1)) (by with_unfolding_all rfl)) (ig (gp (fU (eL L hr J (a_ (pv 4) (a_ (iw hu (pv 1) (pv 3) (λ_ _=>rfl)) (a_ (iw hu (pv 2) (pv 3) (λ_ _=>rfl)) c_))))))))) (eB (eJ gH)) eQ)))
  (eB (eJ gH)))) eQ)
  (en (eP (eS fw (eK (pv 0) d_) fh (eO _)) (en (eP (PW.pt (ib (gp (fU (eX gy (by rfl) T.gz boot_isinstance (a_ (pv 1) (a_ (gw (v:=.ty "list") rfl T.j4 boot_list rfl) c_))))) (ig (eS gZ (eX oq (by rfl) T.gC PySem.boot_len (a_ (pv 1) c_)) (eX g_ (by rfl) T.gC PySem.boot_len (a_ (pv 2) c_)) (eO _))))) (eB (eJ gH)) eQ)
  (eB (eJ (eX (nu rfl) (by rfl) T.nJ boot_all (a_ (jT (g:=(mZ K 2 (jN (gK 0) (jN (gK 1) mY)))) (tt:=jS) (te:=(lB _ _ _ (gR (pG (gR (tC (.str "record")) (gR (f_ (iu K) (fv 2) (tC (.int 3))) jh))) (gR (fv 0) (gR (fv 1) jh))))) (own:=["_law_a","_law_b"]) rfl (iT (N:=["_law_kind_here","_law_found","_law_due","_law_name","_law_inner"]) (sc:=eR (top 47))) (pV rfl T.qa (a_ (pv 1) (a_ (pv 2) c_))) (λ_ _ _ _ _=>(iQ rfl (gq (ff (i:=0) (show(["_law_a","_law_b","_law_kind_here","_law_found","_law_due","_law_name","_law_inner"]:List Str).Nodup by decide +kernel) rfl (Or.inl rfl) (.inr rfl)) (gq (ff (i:=1) (show(["_law_a","_law_b","_law_kind_here","_law_found","_law_due","_law_name","_law_inner"]:List Str).Nodup by decide +kernel) rfl (Or.inl rfl) (.inr rfl)) iP)))) (λ_ _ _ _ _=>kq) (λ_ _ _ _ _=>(eL L hr J (a_ (ik (a_ fh (a_ (eK (pv 2) d_) c_))) (a_ (pv 0) (a_ (pv 1) c_)))))) c_))))) eQ)
  (en (eP (PW.pt (ib (gp (fU (eX gy (by rfl) T.gz boot_isinstance (a_ (pv 1) (a_ (gw (v:=.ty "tuple") rfl T.lP boot_tuple rfl) c_))))) (ig (eS gZ (eX oq (by rfl) T.gC PySem.boot_len (a_ (pv 1) c_)) d_ (eO _))))) (eB (eJ gH)) eQ)
  (en (eP (eS fw (eK (pv 0) d_) fh (eO _)) (en (eP (PW.pt (ib (gp (fU (eX gy (by rfl) T.gz boot_isinstance (a_ (eK (pv 1) d_) (a_ (gw (v:=.ty "str") rfl T.lO boot_str rfl) c_))))) (ig (eS gZ (eK (pv 1) d_) (eK (pv 2) d_) (eO _))))) (eB (eJ gH)) eQ)
  (en (nr (i:=4) nd rfl fL (g:=(gK 0)) (tt:=(jC (f_ mj (f_ (iu K) (fv 0) (tC (.int 0))) (f_ (iu K) (fv 3) (tC (.int 0)))))) (te:=(f_ (iu K) (fv 0) (tC (.int 1)))) (own:=["_law_pair"]) rfl (iT (N:=["_law_kind_here","_law_found","_law_due","_law_name","_law_inner"]) (sc:=eR (top 47))) (iN (eK (pv 0) d_)) (λ_ _ _ _ _=>(ff (i:=0) (show(["_law_pair","_law_kind_here","_law_found","_law_due","_law_name","_law_inner"]:List Str).Nodup by decide +kernel) rfl (Or.inl rfl) (.inr rfl))) (λ_ _ _ _ _=>(lH (eS fw (eK (pv 0) d_) (eK (pv 3) d_) (eO _)))) (λ_ _ _ _ _=>(eK (pv 0) d_)))
  (eB (eJ (eL L hr J (a_ (iW (pv 4) d_) (a_ (eK (pv 1) d_) (a_ (eK (pv 2) d_) c_)))))))) eQ)
  (en (eP (PW.pt (ib (gp (fU (eX gy (by rfl) T.gz boot_isinstance (a_ (eK (pv 1) d_) (a_ (gw (v:=.ty "list") rfl T.j4 boot_list rfl) c_))))) (ig (eS gZ (eX g_ (by rfl) T.gC PySem.boot_len (a_ (eK (pv 1) d_) c_)) (eX g_ (by rfl) T.gC PySem.boot_len (a_ (eK (pv 2) d_) c_)) (eO _))))) (eB (eJ gH)) eQ)
  (en (eP (gp (fU (eL L hr J (a_ (eK (pv 0) d_) (a_ (eK (pv 1) d_) (a_ (eK (pv 2) d_) c_)))))) (eB (eJ gH)) eQ)
  (eB (eJ (eX (nu rfl) (by rfl) T.nJ boot_all (a_ (jT (g:=(mZ K 2 (jN (gK 0) (jN (gK 1) mY)))) (tt:=jS) (te:=(lB _ _ _ (gR (fv 2) (gR (fv 0) (gR (fv 1) jh))))) (own:=["_law_a","_law_b"]) rfl (iT (N:=["_law_kind_here","_law_found","_law_due","_law_name","_law_inner"]) (sc:=eR (top 47))) (pV rfl T.qa (a_ (eK (pv 1) d_) (a_ (eK (pv 2) d_) c_))) (λ_ _ _ _ _=>(iQ rfl (gq (ff (i:=0) (show(["_law_a","_law_b","_law_kind_here","_law_found","_law_due","_law_name","_law_inner"]:List Str).Nodup by decide +kernel) rfl (Or.inl rfl) (.inr rfl)) (gq (ff (i:=1) (show(["_law_a","_law_b","_law_kind_here","_law_found","_law_due","_law_name","_law_inner"]:List Str).Nodup by decide +kernel) rfl (Or.inl rfl) (.inr rfl)) iP)))) (λ_ _ _ _ _=>kq) (λ_ _ _ _ _=>(eL L hr J (a_ (pv 2) (a_ (pv 0) (a_ (pv 1) c_)))))) c_)))))))))))),?_⟩
 ac_rfl
 refine CL λzg hz=>?_
 cases k with
 |num=>
  unfold KA at hk;obtain⟨a,rfl,ha⟩:=hk;unfold fZ at hF;obtain⟨z,rfl⟩:=hF;unfold Own at ag ah;obtain⟨rfl,rfl⟩:=ag;obtain⟨rfl,rfl⟩:=ah;refine hz ?_;refine ku rfl ha rfl (by decide +kernel) ?_;refine⟨_,rfl,_,_,_,true,rfl,.int z,rfl,true,rfl,gB ?_⟩;refine⟨_,rfl,_,_,_,false,rfl,.int z,rfl,false,rfl,true,rfl,gB ?_⟩;refine⟨_,rfl,_,rfl,rfl,?_⟩;rw[decide_eq_true rfl];exact q _ (Same.refl _)
 |gQ=>
  unfold KA at hk;obtain⟨a,rfl,ha⟩:=hk;unfold fZ at hF;obtain⟨z,rfl⟩:=hF;unfold Own at ag ah;obtain⟨rfl,rfl⟩:=ag;obtain⟨rfl,rfl⟩:=ah;refine hz ?_;refine gP rfl ha rfl (by decide +kernel) ?_;refine ku rfl ha rfl (by decide +kernel) ?_;refine⟨_,rfl,_,_,_,true,rfl,.str _,rfl,true,rfl,gB ?_⟩;refine⟨_,rfl,_,rfl,rfl,?_⟩;rw[decide_eq_true rfl];exact q _ (Same.refl _)
 |fx fs=>
  unfold KA at hk;obtain⟨a,b,xs,rfl,ha,hb,ai⟩:=hk;unfold fZ at hF;obtain⟨m,rfl,hF⟩:=hF;unfold Own at ag ah;obtain⟨c1,aE,g1,rfl,U,rfl,ak⟩:=ag;obtain⟨c2,a8,g2,rfl,ac,rfl,ao⟩:=ah;unfold Kd.W at hW;unfold D.Sm at aj;simp only[D.dep] at au;have aM:m.dep<=n:=by omega
  refine hz ?_;refine gP rfl ha rfl (by decide +kernel) ?_;refine gP rfl ha rfl (by decide +kernel) ?_;refine ku rfl ha rfl (by decide +kernel) ?_;have el:aE.length=xs.length:=by rw[fc.len ak,FA.len fs ai,hF.names]
  refine⟨_,rfl,_,_,_,true,rfl,.dK U,rfl,true,rfl,fE ?_⟩;refine⟨_,rfl,.inl ⟨c1,_,rfl,U,_,rfl,a,_,_,_,rfl,rfl,eu.of ha,rfl,b,_,rfl,.inr (eu.of hb),rfl,_,rfl,?_⟩⟩;refine iR (show V.int (aE.length:Nat)=V.int (xs.length:Nat) by rw[el]) ?_;refine⟨_,rfl,a,_,_,_,rfl,rfl,eu.of ha,rfl,b,rfl,⟨_,eu.of hb⟩,mh (xs:=xs) (λi σ H'=>Same H H'/\∃x y,σ=[some (.ref a),some (.ref c1),some (.ref c2),x,y]) ⟨Same.refl _,_,_,rfl⟩ ?_ ?_ ?_⟩
  . rintro i σ H' _ ⟨s2,_⟩;exact eu.of (s2 _ _ hb)
  . rintro i v σ H' hv ⟨s2,x,y,rfl⟩;obtain⟨c,u,nm,k,rfl,ae,hc,hk⟩:=FA.get fs ai hv;obtain⟨d,hd,am⟩:=hF.get (Fs.kU hW.1 ae);obtain⟨e1,f1,aU,aN,_⟩:=fc.val _ ak hd;obtain⟨e2,f2,aV,aO,_⟩:=fc.val _ ao hd;have g1:gc H' c1 (.str nm) (some e1):=by have:=gc.k (k:=Sum.inr nm) (s2 _ _ U);rw[aU] at this;exact this
    have g2:gc H' c2 (.str nm) (some e2):=by have:=gc.k (k:=Sum.inr nm) (s2 _ _ ac);rw[aV] at this;exact this
    refine⟨c,_,rfl,eu.of (s2 _ _ hc),rfl,_,_,rfl,_,_,rfl,rfl,?_⟩;refine⟨_,rfl,_,rfl,c1,_,rfl,g1,false,rfl,fE ?_⟩;refine⟨_,rfl,_,rfl,_,rfl,c1,e1,rfl,g1,_,rfl,_,rfl,c2,e2,rfl,g2,u,e1,e2,k,d,f1,f2,rfl,KA.mono (Tu.of s2) k hk,Fs.nE hW.2.2 ae,Own.same s2 aN,Own.same s2 aO,am,Q05 (Ds.nI hd) aM,Ds.rO aj.2 hd,λH3 s3=>⟨true,rfl,fE ?_⟩⟩;exact⟨s2.trans s3,_,_,rfl⟩
  . rintro σ H' ⟨s2,_⟩;exact q _ s2
 |rows key a9 fs=>
  unfold KA at hk;obtain⟨a,b,xs,rfl,ha,hb,ai⟩:=hk;unfold fZ at hF;obtain⟨rs,rfl,am,a6,ba⟩:=hF;unfold Own at ag ah;obtain⟨c1,Y,g1,rfl,U,rfl,ak⟩:=ag;obtain⟨c2,af,g2,rfl,ac,rfl,ao⟩:=ah;unfold Kd.W at hW;unfold D.Sm at aj;simp only[D.dep] at au;have al:Y.length=(iq rs).len:=eZ.len _ ak;have ap:af.length=(iq rs).len:=eZ.len _ ao;have aP:=aj.1;refine hz ?_;refine gP rfl ha rfl (by decide +kernel) ?_;refine gP rfl ha rfl (by decide +kernel) ?_;refine gP rfl ha rfl (by decide +kernel) ?_;refine ku rfl ha rfl (by decide +kernel) ?_;refine⟨_,rfl,_,_,_,true,rfl,.lst U,rfl,true,rfl,fE ?_⟩;refine⟨_,rfl,.inr ⟨c1,_,rfl,.inl (eF.of U),_,rfl,c2,_,rfl,.inl (eF.of ac),rfl,_,rfl,iR (show V.int (Y.length:Nat)=V.int (af.length:Nat) by rw[al,ap]) ?_⟩⟩;refine⟨_,rfl,_,rfl,c1,c2,rfl,⟨_,eF.of U⟩,⟨_,eF.of ac⟩,λi m zs H'=>m=Y.length - i/\i<=Y.length/\zs=(List.replicate i true).map V.bl/\Same H H',⟨Y.length,rfl,Q0b _,rfl,Same.refl _⟩,?_⟩;rintro i mm zs H' ⟨rfl,aT,rfl,s2⟩;by_cases hi:i<Y.length
  . have aw:i<af.length:=by omega
    refine .inr ⟨⟨Y,af,Y[i],af[i],eF.of (s2 _ _ U),eF.of (s2 _ _ ac),Q03 hi,Q03 aw⟩,by rw[Q02,Q11];exact fX (by omega),λx aW y=>?_⟩;obtain⟨p,x1,x2,hp,rfl,e1,e2,rfl⟩:=y;have e1:=e1 _ (eF.of (s2 _ _ U));have e2:=e2 _ (eF.of (s2 _ _ ac));obtain⟨d,fa,ae,ax,_⟩:=eZ.get _ ak e1;obtain⟨d',fb,an,ay,_⟩:=eZ.get _ ao e2;rw[ae] at an
    cases an;obtain⟨m,hm,rfl⟩:=C7 ae;have aX:=uV m hm;have s3:Same H' (upd H' p (.tup [x1,x2])):=Same.new hp;have sa:=s2.trans s3;refine⟨p,_,rfl,eu.of eI,rfl,_,_,rfl,_,_,rfl,rfl,rfl,yes (gB ?_)⟩;refine⟨_,rfl,a,_,_,_,rfl,rfl,eu.of (sa _ _ ha),rfl,hX,λt ht=>?_⟩;have st:Same (upd H' p (.tup [x1,x2])) (upd (upd H' p (.tup [x1,x2])) t (.tup [.str "record",.ref b])):=Same.new ht;have sb:=sa.trans st;refine⟨_,rfl,_,rfl,.ref t,x1,x2,.fx fs,.dct m,fa,fb,rfl,?_,?_,Own.same sb ax,Own.same sb ay,?_,by simp only[D.dep];omega,uU aj.2 m hm,λH3 s4=>?_⟩
    . unfold KA;exact⟨t,b,xs,rfl,eI,sb _ _ hb,FA.mono (Tu.of sb) fs ai⟩
    . unfold Kd.W;exact⟨hW.1,hW.2.1,hW.2.2.1⟩
    . unfold fZ;exact⟨m,rfl,am m hm⟩
    . refine⟨Y.length - (i+1),by omega,rfl,hi,?_,sb.trans s4⟩;rw[List.replicate_succ',Q0h];rfl
  . refine .inl ⟨⟨Y,af,eF.of (s2 _ _ U),eF.of (s2 _ _ ac),.inl (Q0v hi)⟩,λp hp=>⟨p,List.replicate i true,rfl,eF.of eI,?_⟩⟩;rw[rR];exact q _ (s2.trans (Same.new hp))
 |tree k=>
  have aY:=hk;unfold KA at hk;obtain⟨a,u,rfl,ha,aZ⟩:=hk;unfold fZ at hF;have a1:=hW;unfold Kd.W at hW;obtain⟨x,y,t,as,rfl,a2,ai⟩:=hF.shape;obtain⟨c1,u1,w1,az,bb,rfl,U,rfl,aA,aF⟩:=ag.pair;obtain⟨c2,u2,w2,aB,bc,rfl,ac,rfl,aC,aG⟩:=ah.pair;unfold Own at aF aG;obtain⟨l1,Y,g1,rfl,al,rfl,ak⟩:=aF;obtain⟨l2,af,g2,rfl,ap,rfl,ao⟩:=aG;simp only[D.dep,Ds.dep] at au;unfold D.Sm Ds.Sm at aj;obtain⟨_,aH,ar⟩:=aj;unfold Ds.Sm at ar;have aD:=ar.1;unfold D.Sm at aD;have aP:=aD.1;have a3:Y.length=as.len:=eZ.len _ ak;have a4:af.length=as.len:=eZ.len _ ao;refine hz ?_;refine gP rfl ha rfl (by decide +kernel) ?_;refine gP rfl ha rfl (by decide +kernel) ?_;refine gP rfl ha rfl (by decide +kernel) ?_;refine gP rfl ha rfl (by decide +kernel) ?_;refine⟨_,rfl,_,_,_,true,rfl,.tup U,rfl,true,rfl,fE ?_⟩;refine⟨_,rfl,.inr ⟨c1,_,rfl,.inr (eu.of U),rfl,_,rfl,iR rfl ?_⟩⟩;refine gP rfl ha rfl (by decide +kernel) ?_;refine⟨_,rfl,c1,_,_,_,rfl,rfl,eu.of U,rfl,_,_,_,true,rfl,.lst al,rfl,true,rfl,fE ?_⟩;refine⟨_,rfl,c1,_,_,_,rfl,rfl,eu.of U,rfl,l1,_,rfl,.inl (eF.of al),_,rfl,c2,_,_,_,rfl,rfl,eu.of ac,rfl,l2,_,rfl,.inl (eF.of ap),rfl,_,rfl,iR (show V.int (Y.length:Nat)=V.int (af.length:Nat) by rw[a3,a4]) ?_⟩;refine⟨_,rfl,a,_,_,_,rfl,rfl,eu.of ha,rfl,_,rfl,c1,_,_,_,rfl,rfl,eu.of U,rfl,_,rfl,c2,_,_,_,rfl,rfl,eu.of ac,rfl,u,u1,u2,k,t,az,aB,rfl,aZ,hW,aA,aC,a2,by omega,aH,λH1 s1=>⟨true,rfl,fE ?_⟩⟩;refine⟨_,rfl,c1,_,_,_,rfl,rfl,eu.of (s1 _ _ U),rfl,_,rfl,c2,_,_,_,rfl,rfl,eu.of (s1 _ _ ac),rfl,l1,l2,rfl,⟨_,eF.of (s1 _ _ al)⟩,⟨_,eF.of (s1 _ _ ap)⟩,λi m zs H'=>m=Y.length - i/\i<=Y.length/\zs=(List.replicate i true).map V.bl/\Same H H',⟨Y.length,rfl,Q0b _,rfl,s1⟩,?_⟩;rintro i mm zs H' ⟨rfl,aT,rfl,s2⟩;by_cases hi:i<Y.length
  . have aw:i<af.length:=by omega
    refine .inr ⟨⟨Y,af,Y[i],af[i],eF.of (s2 _ _ al),eF.of (s2 _ _ ap),Q03 hi,Q03 aw⟩,by rw[Q02,Q11];exact fX (by omega),λx aW y=>?_⟩;obtain⟨p,x1,x2,hp,rfl,e1,e2,rfl⟩:=y;have e1:=e1 _ (eF.of (s2 _ _ al));have e2:=e2 _ (eF.of (s2 _ _ ap));obtain⟨d,fa,ae,ax,_⟩:=eZ.get _ ak e1;obtain⟨d',fb,an,ay,_⟩:=eZ.get _ ao e2;rw[ae] at an
    cases an;have aX:=Ds.nz ae;have s3:Same H' (upd H' p (.tup [x1,x2])):=Same.new hp;have sa:=s2.trans s3;refine⟨p,_,rfl,eu.of eI,rfl,_,_,rfl,_,_,rfl,rfl,rfl,yes (gB ?_)⟩;refine⟨_,rfl,_,rfl,_,rfl,.ref a,x1,x2,.tree k,d,fa,fb,rfl,KA.mono (Tu.of sa) _ aY,a1,Own.same sa ax,Own.same sa ay,(by unfold fZ;exact jH.at ai ae),by omega,Ds.uS aD.2 ae,λH3 s4=>?_⟩;refine⟨Y.length - (i+1),by omega,rfl,hi,?_,sa.trans s4⟩;rw[List.replicate_succ',Q0h];rfl
  . refine .inl ⟨⟨Y,af,eF.of (s2 _ _ al),eF.of (s2 _ _ ap),.inl (Q0v hi)⟩,λp hp=>⟨p,List.replicate i true,rfl,eF.of eI,?_⟩⟩;rw[rR];exact q _ (s2.trans (Same.new hp))
 |ip fs=>
  unfold KA at hk;obtain⟨a,b,xs,rfl,ha,hb,ai⟩:=hk;unfold fZ at hF;obtain⟨x,v',rfl,hE⟩:=hF;obtain⟨c1,z1,u1,bd,az,rfl,U,rfl,aI,aA⟩:=ag.pair;obtain⟨c2,z2,u2,be,aB,rfl,ac,rfl,aJ,aC⟩:=ah.pair;unfold Own at aI aJ;obtain⟨rfl,rfl⟩:=aI;obtain⟨rfl,rfl⟩:=aJ;unfold Kd.W at hW;simp only[D.dep,Ds.dep] at au;unfold D.Sm Ds.Sm at aj;obtain⟨_,aH,ar⟩:=aj;unfold Ds.Sm at ar;obtain⟨k,av,am⟩:=uY hE;obtain⟨j,hj⟩:=Fs.C8 av;obtain⟨c,u,aK,hc,a5⟩:=FA.at ai hj;have bf:j<xs.length:=(List.getElem?_eq_some_iff.mp aK).1;have bg:xs.length<=12:=by rw[FA.len fs ai];exact hW.2.1
  refine hz ?_;refine gP rfl ha rfl (by decide +kernel) ?_;refine gP rfl ha rfl (by decide +kernel) ?_;refine gP rfl ha rfl (by decide +kernel) ?_;refine gP rfl ha rfl (by decide +kernel) ?_;refine⟨_,rfl,_,_,_,true,rfl,.tup U,rfl,true,rfl,fE ?_⟩;refine⟨_,rfl,.inr ⟨c1,_,rfl,.inr (eu.of U),rfl,_,rfl,iR rfl ?_⟩⟩;refine ku rfl ha rfl (by decide +kernel) ?_;refine⟨_,rfl,c1,_,_,_,rfl,rfl,eu.of U,rfl,_,_,_,true,rfl,.str _,rfl,true,rfl,fE ?_⟩;refine⟨_,rfl,c1,_,_,_,rfl,rfl,eu.of U,rfl,_,rfl,c2,_,_,_,rfl,rfl,eu.of ac,rfl,rfl,_,rfl,iR rfl ?_⟩;refine⟨_,rfl,a,_,_,_,rfl,rfl,eu.of ha,rfl,b,rfl,⟨_,eu.of hb⟩,λi m ys H'=>H'=H/\m=xs.length - i/\i<=xs.length/\ys=if j<i then [u] else [],⟨_,rfl,rfl,Q0b _,rfl⟩,?_⟩;rintro i m ys H' ⟨rfl,rfl,hi,rfl⟩;by_cases aq:i<xs.length
  . refine .inr ⟨⟨_,xs[i],eu.of hb,Q03 aq⟩,fX (by split <;> simp),λz H' y=>?_⟩;obtain⟨rfl,y⟩:=y;have hv:=y _ (eu.of hb);obtain⟨d,w',nm,k',rfl,ae,hd,bh⟩:=FA.get _ ai hv;refine⟨rfl,_,rfl,d,_,_,_,rfl,rfl,eu.of hd,rfl,_,rfl,c2,_,_,_,rfl,rfl,eu.of ac,rfl,rfl,_,rfl,gu (λcc=>?_) (λcc=>?_)⟩
    . have e:nm=x:=by
       have:=of_decide_eq_true cc;injection this
      subst e;have ej:=Fs.Jj hW.1 ae hj;subst ej;rw[aK] at hv
      cases hv;rw[hc] at hd
      cases hd;refine⟨_,rfl,c,_,_,_,rfl,rfl,eu.of hc,rfl,_,Q2o aq (Q10 i),rfl,rfl,aq,?_⟩;rw[if_neg (Q0r _),if_pos (Q10 _)];rfl
    . refine⟨_,Q2o aq (Q10 i),rfl,rfl,aq,?_⟩
      have ne:i≠j:=λe=>by
       subst e;rw[ae] at hj
       cases hj;exact cc (decide_eq_true rfl)
      by_cases aL:j<i
      . rw[if_pos aL,if_pos (by omega)]
      . rw[if_neg aL,if_neg (by omega)]
  . refine .inl ⟨⟨_,eu.of hb,Q0v aq⟩,λp hp=>?_⟩;rw[if_pos (by omega)];have s1:Same H' (upd H' p (.lst [u])):=Same.new hp
    exact⟨_,rfl,p,_,_,_,rfl,rfl,eF.of eI,jY (j:=0) rfl,_,rfl,c1,_,_,_,rfl,rfl,eu.of (s1 _ _ U),rfl,_,rfl,c2,_,_,_,rfl,rfl,eu.of (s1 _ _ ac),rfl,
     u,u1,u2,k,v',az,aB,rfl,KA.mono (Tu.of s1) k a5,Fs.qh hW.2.2.2 av,Own.same s1 aA,Own.same s1 aC,am,by omega,ar.1,λH2 s2=>q _ (s1.trans s2)⟩
theorem C_ (T:Tb mg)(z:Dn K mg "_law_alike" iK (top 47) J L):∀n:Nat,eh P w K mg base er (n+1) J L iK (nO n)
 |0=>by
  have U:∀vs H Q E,¬nO 0 vs H Q E:=λvs H Q E h=>by
   obtain⟨_,_,_,_,d,_,_,_,_,_,_,_,_,Y,_⟩:=h;have:=d.lM;omega
  exact⟨λvs H Q E h=>absurd h (U vs H Q E),λA outer s H args us vs Q E _ _ _ _ h=>absurd h (U vs H Q E)⟩
 |n+1=>Jk n T z (C_ T z n)
structure RecAt (S:List Addr) (n:Nat) (H:Hp) (fs:Fs) (kvs:List (Key × V)) (δ:Str->D):Prop where
 len:kvs.length=fs.names.length
 nd:(kvs.map (·.1)).Nodup
 get:∀x k,fs.get x=some k->∃v fp,ft kvs (Sum.inr x)=some v/\Own H v (δ x) fp/\(∀c∈fp,c ∉ S)/\fZ k (δ x)/\(δ x).dep<=n/\(δ x).Sm
theorem Fs.nQ:∀{fs:Fs}{x:Str},x∈fs.names->∃k,fs.get x=some k
 | .nil,_,h=>nomatch h
 | .cons y q r,x,h=>by
   by_cases e:x=y
   . exact⟨q,by show(if x=y then some q else r.get x)=_;rw[if_pos e]⟩
   . obtain⟨k,hk⟩:=Fs.nQ (fs:=r) (x:=x) (by
      rcases List.mem_cons.mp h with z|z
      . exact absurd z e
      . exact z)
     exact⟨k,by show(if x=y then some q else r.get x)=_;rw[if_neg e];exact hk⟩
theorem RecAt.keep {S:List Addr}{n:Nat}{H H':Hp}{fs:Fs}{kvs:List (Key × V)}{δ:Str->D}(h:RecAt S n H fs kvs δ)(t:Tu H H')(k:∀c o,c ∉ S->H c=some o->H' c=some o):RecAt S n H' fs kvs δ:=
 ⟨h.len,h.nd,λx q J=>by
   obtain⟨v,fp,h1,h2,z,L⟩:=h.get x q J;exact⟨v,fp,h1,Own.keep t _ (λc hc o e=>k c o (z c hc) e) h2,z,L⟩⟩
theorem RecAt.grow {S:List Addr}{n:Nat}{H:Hp}{fs:Fs}{kvs:List (Key × V)}{δ:Str->D}{p:Addr}(h:RecAt S n H fs kvs δ)(hp:∀xs,H p≠some (.lst xs))(J:∀xs,H p≠some (.dK xs)):RecAt (p::S) n H fs kvs δ:=
 ⟨h.len,h.nd,λx q L=>by
   obtain⟨v,fp,h1,h2,U,Y⟩:=h.get x q L;refine⟨v,fp,h1,h2,λc hc z=>?_,Y⟩;rcases List.mem_cons.mp z with e|e
   . rcases Own.alive _ h2 c hc with⟨xs,q⟩|⟨xs,q⟩
     . exact hp xs (by rw[<-e];exact q)
     . exact J xs (by rw[<-e];exact q)
   . exact U c hc e⟩
theorem RecAt.same {S:List Addr}{n:Nat}{H H':Hp}{fs:Fs}{kvs:List (Key × V)}{δ:Str->D}(h:RecAt S n H fs kvs δ)(s:Same H H'):RecAt S n H' fs kvs δ:=
 h.keep (Tu.of s) λc o _ e=>s c o e
def u6:Sp:=λvs H Q _=>∃b a xs kvs fs,vs=[.ref b,.ref a]/\H b=some (.tup xs)/\FA H xs fs/\fs.names.Nodup/\fs.names.length<=12/\H a=some (.dK kvs)/\
 ((kvs.length=fs.names.length/\(∀x∈fs.names,(ft kvs (Sum.inr x)).isSome=true)/\∀H',Same H H'->Q (.bl true) H')\/(kvs.length≠fs.names.length/\∀H',Same H H'->Q (.bl false) H'))
def Dd:Sp:=λvs H Q _=>∃z k,vs=[z,.non]/\KA H z k/\∀p H',Same H H'->H' p=some (.lst [])->Q (.ref p) H'
def u7:Sp:=λvs H Q _=>∃u,vs=[u,.non]/\∀p H',Same H H'->H' p=some (.lst [])->Q (.ref p) H'
def u9:Sp:=λvs H Q _=>vs=[.non]/\Q (.bl false) H
def u_ (K:W.Frag) (n:Nat):Sp:=λvs H Q _=>∃b v xs fs,vs=[.ref b,v]/\H b=some (.tup xs)/\FA H xs fs/\fs.names.Nodup/\fs.names.length<=12/\fs.W/\
 ((∃t,jD K H v t/\W.kitOne K t (.type "dict")=some false/\∀p H',Same H H'->H' p=some (.lst [])->Q (.ref p) H')\/
  ∃a kvs,v=.ref a/\H a=some (.dK kvs)/\
   ((kvs.length≠fs.names.length/\∀p H',Same H H'->H' p=some (.lst [])->Q (.ref p) H')\/
    (∃(y:Str) (δ:Str->D),kvs.length=fs.names.length/\y∈fs.names/\ft kvs (Sum.inr y)=some .non/\(∀x k,x≠y->fs.get x=some k->∃v fp,ft kvs (Sum.inr x)=some v/\Own H v (δ x) fp/\fZ k (δ x)/\(δ x).dep<=n/\(δ x).Sm)/\∀p H',Same H H'->H' p=some (.lst [.str y])->Q (.ref p) H')\/
    ∃(δ:Str->D) (S:List Addr),RecAt S n H fs kvs δ/\∀H',Same H H'->Q .non H'))
def vb (K:W.Frag) (n:Nat):Sp:=λvs H Q E=>∃kk b v,vs=[.ref kk,v]/\H kk=some (.tup [.str "record",.ref b])/\u_ K n [.ref b,v] H Q E
def Jl (n:Nat):Sp:=λvs H Q E=>k_ n vs H Q E\/Dd vs H Q E
theorem Jm (T:Tb mg)(J:Dn K mg "has_just" hZ (top 12) L U):eh P w K mg base er (1) L U hZ (u6):=by
 refine J.F.ok C3 λvs H Q E h=>?_;obtain⟨b,a,xs,kvs,fs,rfl,hb,ab,af,hx,ha,h⟩:=h;refine⟨rfl,λah A outer s nd hr hu=>?_⟩;refine⟨_,(eB (eJ (i8 (iH fw (eX t8 (by rfl) T.gC PySem.boot_len (a_ (pv 1) c_)) (eX g_ (by rfl) T.gC PySem.boot_len (a_ (pv 0) c_)) (eO _)) (js (eX (nu rfl) (by rfl) T.nJ boot_all (a_ (jT (g:=(mZ K 2 (jN (gK 0) (jN (gK 1) mY)))) (tt:=jS) (te:=_) (own:=["name","inner"]) rfl (iT (N:=["fields","record"]) (sc:=eR (top 12))) (iN (pv 0)) (λ_ _ _ _ _=>(iQ rfl (gq (ff (i:=0) (show(["name","inner","fields","record"]:List Str).Nodup by decide +kernel) rfl (Or.inl rfl) (.inr rfl)) (gq (ff (i:=1) (show(["name","inner","fields","record"]:List Str).Nodup by decide +kernel) rfl (Or.inl rfl) (.inr rfl)) iP)))) (λ_ _ _ _ _=>kq) (λ_ _ _ _ _=>(Aq (qV hu (pv 0) (pv 3)) (by with_unfolding_all rfl)))) c_)))))),?_⟩
 ac_rfl
 have ac:=FA.len fs ab;refine⟨_,rfl,a,_,rfl,ha,_,rfl,b,_,rfl,.inr (eu.of hb),rfl,_,rfl,?_⟩;rcases h with⟨e1,ae,q⟩|⟨e1,q⟩
 . rw[decide_eq_true (show V.int (kvs.length:Nat)=V.int (xs.length:Nat) by rw[e1,ac])];refine gB ?_;refine⟨_,rfl,b,rfl,⟨_,eu.of hb⟩,λi m ys H'=>H'=H/\m=xs.length - i/\i<=xs.length/\ys=(List.replicate i true).map V.bl,⟨xs.length,rfl,by simp,Q0b _,rfl⟩,?_⟩;rintro i m ys H' ⟨rfl,rfl,hi,rfl⟩;by_cases aa:i<xs.length
   . refine .inr ⟨⟨xs,xs[i],eu.of hb,by simp[aa]⟩,by rw[Q02,Q11];exact fX (by omega),λx H' y=>?_⟩;obtain⟨rfl,y⟩:=y;have hv:=y xs (eu.of hb);obtain⟨c,u,nm,k,rfl,ag,hc,hk⟩:=FA.get fs ab hv;have Y:=ae nm (Fs.get_mem (Fs.kU af ag));obtain⟨v,Y⟩:=Option.isSome_iff_exists.mp Y;refine⟨c,_,rfl,eu.of hc,rfl,_,_,rfl,_,_,rfl,rfl,rfl,yes (gB ?_)⟩;refine⟨_,rfl,_,rfl,a,_,rfl,gc.k (k:=Sum.inr nm) ha,?_⟩;rw[Y];refine⟨xs.length - (i+1),by omega,rfl,rfl,aa,?_⟩;rw[List.replicate_succ',Q0h];rfl
   . refine .inl ⟨⟨xs,eu.of hb,Q0v aa⟩,λp hp=>⟨p,List.replicate i true,rfl,eF.of eI,?_⟩⟩;rw[rR];exact q _ (Same.new hp)
 . rw[decide_eq_false (show ¬V.int (kvs.length:Nat)=V.int (xs.length:Nat) from λz=>e1 (by injection z with z;rw[ac] at z;exact Int.ofNat.inj z))];exact fE (q _ (Same.refl _))
theorem Jn (T:Tb mg)(z:Dn K mg "is_pair" jU (top 14) J L):eh P w K mg base er (1) J L jU (u9):=by
 refine z.F.ok C2 λvs H Q E h=>?_;obtain⟨rfl,q⟩:=h;refine⟨rfl,λU A outer s Y hr hu=>?_⟩;refine⟨_,(eB (eJ (i8 (eX gy (by rfl) T.gz boot_isinstance (a_ (pv 0) (a_ (gw (v:=.ty "tuple") rfl T.lP boot_tuple rfl) c_))) (js (iH fw (eX g_ (by rfl) T.gC PySem.boot_len (a_ (pv 0) c_)) d_ (eO _)))))),?_⟩
 ac_rfl
 exact⟨_,rfl,_,_,_,false,rfl,.non,rfl,false,rfl,fE q⟩
theorem Jo (T:Tb mg)(z:Dn K mg "record_misfit" hZ (top 11) J L)(U:Dn K mg "has_just" hZ (top 12) Y aa)(ab:eh P w K mg base er (1) Y aa hZ (u6))(ac:Dn K mg "misfit" h_ (top 10) ae af)(ag:eh P w K mg base er (3) ae af h_ (k_ 0)):eh P w K mg base er (4) J L hZ (u7):=by
 refine z.F.ok u4 λvs H Q E h=>?_;obtain⟨u,rfl,q⟩:=h;refine⟨rfl,λah A outer s nd hr hu=>?_⟩
 refine⟨_,(en (eP (PW.pt (ib (gp (fU (eX gy (by rfl) T.gz boot_isinstance (a_ (pv 1) (a_ (gw (v:=.ty "dict") rfl T.lU boot_dict rfl) c_))))) (ig (gp (fU (eL ab hr U (a_ (pv 0) (a_ (pv 1) c_)))))))) (eB (eJ (gA c_))) eQ)
  (en (ic PassesOwn.never rfl (iN (pv 0)) (iQ rfl (gq (ff (i:=2) nd rfl fL) (gq (ff (i:=3) nd rfl fL) iP))) (en (eT 4 nd (eL ag hr ac (a_ (pv 3) (a_ (iw hu (pv 1) (pv 2) (λ_ _=>rfl)) c_))))
  (eB (eP (eS ju (pv 4) gn (eO _)) (eB (eJ jF)) eQ))))
  (eB (eJ gn)))),?_⟩
 ac_rfl
 refine⟨_,rfl,_,_,_,false,rfl,.non,rfl,false,rfl,gB ?_⟩;exact⟨jI,λp hp=>q p _ (Same.new hp) eI⟩
def lV:Sp:=λvs H Q _=>∃u,vs=[u,.non]/\∀p H',Same H H'->H' p=some (.lst [])->Q (.ref p) H'
theorem Jp (T:Tb mg)(Y:Dn K mg "rows_misfit" kz (top 13) aa ab)(z:Dn K mg "record_misfit" hZ (top 11) J L)(U:eh P w K mg base er (4) J L hZ (u7))(ac:Dn K mg "rank" nL (top 17) af ag)(ae:eh P w K mg base er (1) af ag nL (qg)):eh P w K mg base er (5) aa ab kz (lV):=by
 refine Y.F.ok C4 λvs H Q E h=>?_;obtain⟨u,rfl,q⟩:=h;refine⟨rfl,λai A outer s nd hr hu=>?_⟩;have ah:=hr.tL
 refine⟨_,(en (eP (gp (fU (eX gy (by rfl) T.gz boot_isinstance (a_ (pv 1) (a_ (gw (v:=.ty "list") rfl T.j4 boot_list rfl) c_))))) (eB (eJ (gA c_))) eQ)
  (en (eT 2 nd nq)
  (en (ic PassesOwn.never rfl (qY rfl T.rz (a_ (pv 1) c_)) (iQ rfl (gq (ff (i:=3) nd rfl fL) (gq (ff (i:=4) nd rfl fL) iP))) (en (eT 5 nd (eL U hr z (a_ (eK (pv 0) d_) (a_ (pv 4) c_))))
  (en (eP (eS ju (pv 5) gn (eO _)) (eB (eJ jF)) eQ)
  (en (eP (PW.pt (mU (eS og (pv 3) d_ (eO _)) (mT (eS (BJ ah) (eL ae hr ac (a_ (pv 0) (a_ (pv 4) c_))) (eL ae hr ac (a_ (pv 0) (a_ (iW (pv 1) (eN kN (pv 3) d_)) c_))) (eO _))))) (eB (eJ jF)) eQ)
  (en (eP (pB (qV hu (iw hu (pv 4) (eK (pv 0) d_) (λ_ _=>rfl)) (pv 2)) (by with_unfolding_all rfl)) (eB (eJ jF)) eQ)
  (eB (jZ hu (pv 2) (iw hu (pv 4) (eK (pv 0) d_) (λ_ _=>rfl)) gH rfl)))))))
  (eB (eJ gn))))),?_⟩
 ac_rfl
 refine⟨_,rfl,_,_,_,false,rfl,.non,rfl,false,rfl,gB ?_⟩;exact⟨jI,λp hp=>q p _ (Same.new hp) eI⟩
theorem Jq (T:Tb mg)(z:Dn K mg "tree_misfit" i3 (top 15) J L)(U:eh P w K mg base er (2) J L i3 (o4 0))(Y:Dn K mg "is_pair" jU (top 14) aa ab)(ac:eh P w K mg base er (1) aa ab jU (u9))(ae:Dn K mg "misfit" h_ (top 10) af ag)(ah:eh P w K mg base er (3) af ag h_ (k_ 0)):eh P w K mg base er (4) J L i3 (lV):=by
 refine z.F.ok u5 λvs H Q E h=>?_;obtain⟨u,rfl,q⟩:=h;refine⟨rfl,λai A outer s nd hr hu=>?_⟩
 refine⟨_,(en (eP (PW.pt (ib (gp (fU (eL ac hr Y (a_ (pv 1) c_)))) (ig (gp (fU (eX gy (by rfl) T.gz boot_isinstance (a_ (eK (pv 1) d_) (a_ (gw (v:=.ty "list") rfl T.j4 boot_list rfl) c_)))))))) (eB (eJ (gA c_))) eQ)
  (en (eT 2 nd (eL ah hr ae (a_ (eK (pv 0) d_) (a_ (eK (pv 1) d_) c_))))
  (en (eP (eS ju (pv 2) gn (eO _)) (eB (eJ jF)) eQ)
  (en (ic PassesOwn.never rfl (qY rfl T.rz (a_ (eK (pv 1) d_) c_)) (iQ rfl (gq (ff (i:=3) nd rfl fL) (gq (ff (i:=4) nd rfl fL) iP))) (en (eT 2 nd (eL U hr z (a_ (pv 0) (a_ (pv 4) c_))))
  (eB (eP (eS ju (pv 2) gn (eO _)) (eB (eJ jF)) eQ))))
  (eB (eJ gn)))))),?_⟩
 ac_rfl
 refine⟨_,rfl,rfl,false,rfl,gB ?_⟩;exact⟨jI,λp hp=>q p _ (Same.new hp) eI⟩
theorem Jr (T:Tb mg)(z:Dn K mg "either_misfit" kB (top 16) J L)(U:Dn K mg "is_pair" jU (top 14) Y aa)(ab:eh P w K mg base er (1) Y aa jU (u9))(ac:Dn K mg "kind_at" iX (top 6) ae af)(ag:eh P w K mg base er (1) ae af iX (qi))(ah:Dn K mg "misfit" h_ (top 10) ai aj)(ak:eh P w K mg base er (3) ai aj h_ (k_ 0)):eh P w K mg base er (4) J L kB (lV):=by
 refine z.F.ok C5 λvs H Q E h=>?_;obtain⟨u,rfl,q⟩:=h;refine⟨rfl,λal A outer s nd hr hu=>?_⟩
 refine⟨_,(en (eP (gp (fU (eL ab hr U (a_ (pv 1) c_)))) (eB (eJ (gA c_))) eQ)
  (en (eT 2 nd (eL ag hr ac (a_ (pv 0) (a_ (eK (pv 1) d_) c_))))
  (en (eP (eS qO (pv 2) gn (eO _)) (eB (eJ (gA c_))) eQ)
  (en (eT 3 nd (eL ak hr ah (a_ (pv 2) (a_ (eK (pv 1) d_) c_))))
  (en (eP (eS ju (pv 3) gn (eO _)) (eB (eJ jF)) eQ)
  (eB (eJ gn))))))),?_⟩
 ac_rfl
 refine⟨_,rfl,rfl,false,rfl,gB ?_⟩;exact⟨jI,λp hp=>q p _ (Same.new hp) eI⟩
theorem Js (T:Tb mg)(am:Dn K mg "misfit" h_ (top 10) an ao)(z:Dn K mg "record_misfit" hZ (top 11) J L)(U:eh P w K mg base er (4) J L hZ (u7))(ae:Dn K mg "rows_misfit" kz (top 13) af ag)(ah:eh P w K mg base er (5) af ag kz (lV))(ai:Dn K mg "tree_misfit" i3 (top 15) aj ak)(al:eh P w K mg base er (4) aj ak i3 (lV))(Y:Dn K mg "either_misfit" kB (top 16) aa ab)(ac:eh P w K mg base er (4) aa ab kB (lV)):
 eh P w K mg base er (6) an ao h_ (Dd):=by
 refine am.F.ok rQ λvs H Q E h=>?_;obtain⟨kv,k,rfl,hk,q⟩:=h;refine⟨rfl,λaq A outer s nd hr hu=>?_⟩
 refine⟨_,(en (eT 2 nd (eK (pv 0) d_))
  (en (eP (eS fw (pv 2) fh (eO _)) (eB (eJ (mV (PW.pt (mU (fU (eX gy (by rfl) T.gz boot_isinstance (a_ (pv 1) (a_ (gw (v:=.ty "int") rfl T.qc boot_int rfl) c_)))) (mT (gp (fU (eX gy (by rfl) T.gz boot_isinstance (a_ (pv 1) (a_ (gw (v:=.ty "bool") rfl T.oP boot_bool rfl) c_)))))))) gn (gA c_)))) eQ)
  (en (eP (eS fw (pv 2) fh (eO _)) (eB (eJ (mV (fU (eX gy (by rfl) T.gz boot_isinstance (a_ (pv 1) (a_ (gw (v:=.ty "str") rfl T.lO boot_str rfl) c_)))) gn (gA c_)))) eQ)
  (en (eP (eS fw (pv 2) fh (eO _)) (eB (eJ (eL U hr z (a_ (eK (pv 0) d_) (a_ (pv 1) c_))))) eQ)
  (en (eP (eS fw (pv 2) fh (eO _)) (eB (eJ (eL ah hr ae (a_ (pv 0) (a_ (pv 1) c_))))) eQ)
  (en (eP (eS fw (pv 2) fh (eO _)) (eB (eJ (eL al hr ai (a_ (pv 0) (a_ (pv 1) c_))))) eQ)
  (eB (eJ (eL ac hr Y (a_ (eK (pv 0) d_) (a_ (pv 1) c_))))))))))),?_⟩
 ac_rfl
 cases k with
 |num=>
  unfold KA at hk;obtain⟨a,rfl,ha⟩:=hk;refine⟨_,rfl,a,_,_,_,rfl,rfl,eu.of ha,rfl,?_⟩;refine kr rfl (by decide +kernel) ?_;refine⟨_,rfl,_,_,_,false,rfl,.non,rfl,false,rfl,fE ?_⟩;exact⟨jI,λp hp=>q p _ (Same.new hp) eI⟩
 |gQ=>
  unfold KA at hk;obtain⟨a,rfl,ha⟩:=hk;refine⟨_,rfl,a,_,_,_,rfl,rfl,eu.of ha,rfl,?_⟩;refine gO rfl (by decide +kernel) ?_;refine kr rfl (by decide +kernel) ?_;refine⟨_,rfl,_,_,_,false,rfl,.non,rfl,false,rfl,fE ?_⟩;exact⟨jI,λp hp=>q p _ (Same.new hp) eI⟩
 |fx fs=>
  unfold KA at hk;obtain⟨a,b,xs,rfl,ha,hb,ap⟩:=hk;refine⟨_,rfl,a,_,_,_,rfl,rfl,eu.of ha,rfl,?_⟩;refine gO rfl (by decide +kernel) ?_;refine gO rfl (by decide +kernel) ?_;refine kr rfl (by decide +kernel) ?_;exact⟨_,rfl,a,_,_,_,rfl,rfl,eu.of ha,rfl,_,rfl,_,rfl,q⟩
 |rows key ar fs=>
  unfold KA at hk;obtain⟨a,b,xs,rfl,ha,hb,ap⟩:=hk;refine⟨_,rfl,a,_,_,_,rfl,rfl,eu.of ha,rfl,?_⟩;refine gO rfl (by decide +kernel) ?_;refine gO rfl (by decide +kernel) ?_;refine gO rfl (by decide +kernel) ?_;refine kr rfl (by decide +kernel) ?_;exact⟨_,rfl,_,rfl,_,rfl,q⟩
 |tree k=>
  unfold KA at hk;obtain⟨a,u,rfl,ha,hk⟩:=hk;refine⟨_,rfl,a,_,_,_,rfl,rfl,eu.of ha,rfl,?_⟩;refine gO rfl (by decide +kernel) ?_;refine gO rfl (by decide +kernel) ?_;refine gO rfl (by decide +kernel) ?_;refine gO rfl (by decide +kernel) ?_;refine kr rfl (by decide +kernel) ?_;exact⟨_,rfl,_,rfl,_,rfl,q⟩
 |ip fs=>
  unfold KA at hk;obtain⟨a,b,xs,rfl,ha,hb,ap⟩:=hk;refine⟨_,rfl,a,_,_,_,rfl,rfl,eu.of ha,rfl,?_⟩;refine gO rfl (by decide +kernel) ?_;refine gO rfl (by decide +kernel) ?_;refine gO rfl (by decide +kernel) ?_;refine gO rfl (by decide +kernel) ?_;refine gO rfl (by decide +kernel) ?_;exact⟨_,rfl,a,_,_,_,rfl,rfl,eu.of ha,rfl,_,rfl,_,rfl,q⟩
theorem qk {P:Program}{w:World}{K:W.Frag}{mg:Str->Option Value}{base:Heap}{CX:iV}{k:Nat}{f:Addr}{fd:FuncData}{ps:List Str}{z J:Sp}(F:eh P w K mg base CX k f fd ps z)(G:eh P w K mg base CX k f fd ps J):
 eh P w K mg base CX k f fd ps (λvs H Q E=>z vs H Q E\/J vs H Q E):=
 ⟨λvs H Q E q=>q.elim (F.len vs H Q E) (G.len vs H Q E),λA outer s H args us vs Q E L U Y hv hs=>hs.elim (F.run A outer s H args us vs Q E L U Y hv) (G.run A outer s H args us vs Q E L U Y hv)⟩
def De (n:Nat):Sp:=λvs H Q _=>∃kk b xs fs L U z J δ Y S2,vs=[.ref kk,.ref L,.ref U]/\H kk=some (.tup [.str "record",.ref b])/\H b=some (.tup xs)/\FA H xs fs/\fs.names.Nodup/\fs.W/\H L=some (.dK z)/\H U=some (.dK J)/\RecAt Y n H fs z δ/\RecAt S2 n H fs J δ/\∀H',Same H H'->Q (.bl true) H'
theorem Jt (n j:Nat)(T:Tb mg)(J:Dn K mg "record_misfit" hZ (top 11) L U)(aa:Dn K mg "has_just" hZ (top 12) ab ac)(ae:eh P w K mg base er (1) ab ac hZ (u6))(ag:Dn K mg "misfit" h_ (top 10) ah ai)(aj:eh P w K mg base er (j+1) ah ai h_ (Jl n)):eh P w K mg base er (j+2) L U hZ (u_ K n):=by
 refine J.F.ok u4 λvs H Q E h=>?_;obtain⟨b,v,xs,fs,rfl,hb,ak,al,hx,aw,h⟩:=h;refine⟨rfl,λaD A outer s nd hr hu=>?_⟩
 refine⟨_,(en (eP (PW.pt (ib (gp (fU (eX gy (by rfl) T.gz boot_isinstance (a_ (pv 1) (a_ (gw (v:=.ty "dict") rfl T.lU boot_dict rfl) c_))))) (ig (gp (fU (eL ae hr aa (a_ (pv 0) (a_ (pv 1) c_)))))))) (eB (eJ (gA c_))) eQ)
  (en (ic PassesOwn.never rfl (iN (pv 0)) (iQ rfl (gq (ff (i:=2) nd rfl fL) (gq (ff (i:=3) nd rfl fL) iP))) (en (eT 4 nd (eL aj hr ag (a_ (pv 3) (a_ (iw hu (pv 1) (pv 2) (λ_ _=>rfl)) c_))))
  (eB (eP (eS ju (pv 4) gn (eO _)) (eB (eJ (eN nj (gA (a_ (pv 2) c_)) (pv 4)))) eQ))))
  (eB (eJ gn)))),?_⟩
 ac_rfl
 rcases h with⟨t,ht,ek,q⟩|⟨a,kvs,rfl,ha,h⟩
 . refine⟨_,rfl,_,_,_,false,rfl,ht,ek,false,rfl,gB ?_⟩;exact⟨jI,λp hp=>q p _ (Same.new hp) eI⟩
 refine⟨_,rfl,_,_,_,true,rfl,.dK ha,rfl,true,rfl,fE ?_⟩
 have h':(kvs.length≠fs.names.length/\∀p H',Same H H'->H' p=some (.lst [])->Q (.ref p) H')\/∃(y:Option Str) (δ:Str->D),kvs.length=fs.names.length/\(∀x∈fs.names,(ft kvs (Sum.inr x)).isSome=true)/\(∀z,y=some z->z∈fs.names/\ft kvs (Sum.inr z)=some .non)/\
  (∀x k,y≠some x->fs.get x=some k->∃v fp,ft kvs (Sum.inr x)=some v/\Own H v (δ x) fp/\fZ k (δ x)/\(δ x).dep<=n/\(δ x).Sm)/\(∀z,y=some z->∀p H',Same H H'->H' p=some (.lst [.str z])->Q (.ref p) H')/\(y=none->∀H',Same H H'->Q .non H'):=by
  rcases h with⟨hl,q⟩|⟨y,δ,hl,hy,ao,af,q⟩|⟨δ,S,hR,q⟩
  . exact .inl ⟨hl,q⟩
  . have Y:∀x∈fs.names,(ft kvs (Sum.inr x)).isSome=true:=λx hx=>by
     by_cases e:x=y
     . rw[e,ao];rfl
     . obtain⟨k,hk⟩:=Fs.nQ hx;obtain⟨v,_,hv,_⟩:=af x k e hk;rw[hv];rfl
    exact .inr ⟨some y,δ,hl,Y,(λz e=>by cases e;exact⟨hy,ao⟩),(λx k e=>af x k λz=>e (by rw[z])),(λz e=>by cases e;exact q),(λe=>by cases e)⟩
  . have Y:∀x∈fs.names,(ft kvs (Sum.inr x)).isSome=true:=λx hx=>by
     obtain⟨k,hk⟩:=Fs.nQ hx;obtain⟨v,_,hv,_⟩:=hR.get x k hk;rw[hv];rfl
    exact .inr ⟨none,δ,hR.len,Y,(λz e=>by cases e),(λx k _ hx=>by
     obtain⟨v,fp,h1,h2,_,h4⟩:=hR.get x k hx;exact⟨v,fp,h1,h2,h4⟩),(λz e=>by cases e),(λ_=>q)⟩
 clear h;rcases h' with⟨hl,q⟩|⟨y,δ,hl,Y,hy,af,qy,qn⟩
 . refine⟨_,rfl,_,rfl,b,a,xs,kvs,fs,rfl,hb,ak,al,hx,ha,.inr ⟨hl,λH1 s1=>⟨false,rfl,gB ?_⟩⟩⟩;exact⟨jI,λp hp=>q p _ (s1.trans (Same.new hp)) eI⟩
 . refine⟨_,rfl,_,rfl,b,a,xs,kvs,fs,rfl,hb,ak,al,hx,ha,.inl ⟨hl,Y,λH1 s1=>⟨true,rfl,fE ?_⟩⟩⟩;refine⟨_,rfl,b,rfl,⟨_,eu.of (s1 _ _ hb)⟩,mh (xs:=xs) (λi σ H'=>Same H H'/\(∃x y z,σ=[some (.ref b),some (.ref a),x,y,z])/\∀j,j<i->y≠none->fs.names[j]? ≠y) ⟨s1,⟨_,_,_,rfl⟩,λj hj=>absurd hj (by omega)⟩ ?_ ?_ ?_⟩
   . rintro i σ H' _ ⟨s2,_⟩;exact eu.of (s2 _ _ hb)
   . rintro i v σ H' hv ⟨s2,⟨x,yy,z,rfl⟩,am⟩;obtain⟨c,u,nm,k,rfl,an,hc,hk⟩:=FA.get fs ak hv;have ax:fs.names[i]? =some nm:=by rw[Fs.iI,an];rfl
     refine⟨c,_,rfl,eu.of (s2 _ _ hc),rfl,_,_,rfl,_,_,rfl,rfl,?_⟩;by_cases e:y=some nm
     . obtain⟨hm,ay⟩:=hy nm e;refine⟨_,rfl,_,rfl,_,rfl,a,.non,rfl,(by have:=gc.k (k:=Sum.inr nm) (s2 _ _ ha);rw[ay] at this;exact this),.inr ⟨u,k,rfl,KA.mono (Tu.of s2) k hk,λp H3 s3 ap=>?_⟩⟩;refine⟨_,rfl,rfl,_,rfl,?_⟩;rw[decide_eq_false (by intro z;cases z)];refine gB ?_;refine⟨_,rfl,i_,λp1 aq=>?_⟩;refine⟨_,rfl,p1,p,_,_,rfl,rfl,eI,by rw[eA (eM ap aq)];exact ap,by show 1+0<=sizeLine;decide,λp2 az=>?_⟩;exact qy nm e p2 _ (((s2.trans s3).trans (Same.new aq)).trans (Same.new az)) eI
     . obtain⟨v,f,ar,au,av,aA,aB⟩:=af nm k e (Fs.kU al an);refine⟨_,rfl,_,rfl,_,rfl,a,v,rfl,(by have:=gc.k (k:=Sum.inr nm) (s2 _ _ ha);rw[ar] at this;exact this),.inl ⟨u,v,k,δ nm,f,rfl,KA.mono (Tu.of s2) k hk,Fs.nE aw an,Own.same s2 au,av,aA,aB,λH3 s3=>?_⟩⟩;refine⟨_,rfl,rfl,_,rfl,?_⟩;rw[decide_eq_true rfl];refine fE ?_;refine⟨s2.trans s3,⟨_,_,_,rfl⟩,λj hj aC=>?_⟩;by_cases ej:j<i
       . exact am j ej aC
       . have:j=i:=by omega
         subst this;rw[ax];exact λz=>e z.symm
   . rintro σ H' ⟨s2,_,am⟩
     cases y with
     |none=>exact qn rfl _ s2
     |some z=>
      obtain⟨hm,_⟩:=hy z rfl;obtain⟨j,hj,e⟩:=Q1 hm;exact absurd (by rw[Q03 hj,e]) (am j (by rw[FA.len fs ak];exact hj) (by intro z;cases z))
theorem Ju (n j:Nat)(T:Tb mg)(am:Dn K mg "misfit" h_ (top 10) an ao)(z:Dn K mg "record_misfit" hZ (top 11) J L)(U:eh P w K mg base er (j+2) J L hZ (u_ K n))(ae:Dn K mg "rows_misfit" kz (top 13) af ag)(ah:eh P w K mg base er (5) af ag kz (lV))(ai:Dn K mg "tree_misfit" i3 (top 15) aj ak)(al:eh P w K mg base er (4) aj ak i3 (lV))(Y:Dn K mg "either_misfit" kB (top 16) aa ab)(ac:eh P w K mg base er (4) aa ab kB (lV))(hj:4<=j):
 eh P w K mg base er (j+3) an ao h_ (vb K n):=by
 refine am.F.ok rQ λvs H Q E h=>?_;obtain⟨kk,b,v,rfl,ap,h⟩:=h;refine⟨rfl,λaq A outer s nd hr hu=>?_⟩
 refine⟨_,(en (eT 2 nd (eK (pv 0) d_))
  (en (eP (eS fw (pv 2) fh (eO _)) (eB (eJ (mV (PW.pt (mU (fU (eX gy (by rfl) T.gz boot_isinstance (a_ (pv 1) (a_ (gw (v:=.ty "int") rfl T.qc boot_int rfl) c_)))) (mT (gp (fU (eX gy (by rfl) T.gz boot_isinstance (a_ (pv 1) (a_ (gw (v:=.ty "bool") rfl T.oP boot_bool rfl) c_)))))))) gn (gA c_)))) eQ)
  (en (eP (eS fw (pv 2) fh (eO _)) (eB (eJ (mV (fU (eX gy (by rfl) T.gz boot_isinstance (a_ (pv 1) (a_ (gw (v:=.ty "str") rfl T.lO boot_str rfl) c_)))) gn (gA c_)))) eQ)
  (en (eP (eS fw (pv 2) fh (eO _)) (eB (eJ (eL U hr z (a_ (eK (pv 0) d_) (a_ (pv 1) c_))))) eQ)
  (en (eP (eS fw (pv 2) fh (eO _)) (eB (eJ (eL ah hr ae (a_ (pv 0) (a_ (pv 1) c_))))) eQ)
  (en (eP (eS fw (pv 2) fh (eO _)) (eB (eJ (eL al hr ai (a_ (pv 0) (a_ (pv 1) c_))))) eQ)
  (eB (eJ (eL ac hr Y (a_ (eK (pv 0) d_) (a_ (pv 1) c_))))))))))),?_⟩
 ac_rfl
 refine⟨_,rfl,kk,_,_,_,rfl,rfl,eu.of ap,rfl,?_⟩;refine gO rfl (by decide +kernel) ?_;refine gO rfl (by decide +kernel) ?_;refine kr rfl (by decide +kernel) ?_;exact⟨_,rfl,kk,_,_,_,rfl,rfl,eu.of ap,rfl,_,rfl,h⟩
def Df (Fc:Hp->Kd->V->V->Prop):Sp:=λvs H Q _=>∃kk b xs fs L U z J,vs=[.ref kk,.ref L,.ref U]/\H kk=some (.tup [.str "record",.ref b])/\H b=some (.tup xs)/\FA H xs fs/\fs.names.Nodup/\fs.W/\H L=some (.dK z)/\H U=some (.dK J)/\z.length=fs.names.length/\
 (∀x k,fs.get x=some k->∃Y e2,ft z (Sum.inr x)=some Y/\ft J (Sum.inr x)=some e2/\Fc H k Y e2)/\∀H',Same H H'->Q (.bl true) H'
theorem rS {σ:L2.St}{H:Hp}{k:List V->Hp->Prop}(h:k [] H):jh σ H k:=h
theorem Dg (j:Nat){sp:Sp}{Fc:Hp->Kd->V->V->Prop}(hF:∀{H H':Hp}{k:Kd}{u e1 e2:V}{Q:VK}{E:XK},Fc H k e1 e2->Same H H'->KA H' u k->k.W->(∀H3,Same H' H3->Q (.bl true) H3)->sp [u,e1,e2] H' Q E)(T:Tb mg)(z:Dn K mg "_law_alike" iK (top 47) L U)(J:eh P w K mg base er (j) L U iK (sp)):eh P w K mg base er (j+1) L U iK (Df Fc):=by
 refine z.F.ok C9 λvs H Q E h=>?_;obtain⟨a,b,xs,fs,c1,c2,ab,am,rfl,ha,hb,ac,ah,ai,aa,aj,af,ag,q⟩:=h;refine⟨rfl,λan A outer s nd hr hu=>?_⟩
 refine⟨_,(en (eP (eS fw (eK (pv 0) d_) fh (eO _)) (eB (eJ (i8 (eX gy (by rfl) T.gz boot_isinstance (a_ (pv 1) (a_ (gw (v:=.ty "int") rfl T.qc boot_int rfl) c_))) (i8 (Ar (eX gy (by rfl) T.gz boot_isinstance (a_ (pv 1) (a_ (gw (v:=.ty "bool") rfl T.oP boot_bool rfl) c_)))) (js (iH fw (pv 1) (pv 2) (eO _))))))) eQ)
  (en (eP (eS fw (eK (pv 0) d_) fh (eO _)) (eB (eJ (i8 (eX gy (by rfl) T.gz boot_isinstance (a_ (pv 1) (a_ (gw (v:=.ty "str") rfl T.lO boot_str rfl) c_))) (js (iH fw (pv 1) (pv 2) (eO _)))))) eQ)
  (en (eP (eS fw (eK (pv 0) d_) fh (eO _)) (en (eP (PW.pt (ib (gp (fU (eX gy (by rfl) T.gz boot_isinstance (a_ (pv 1) (a_ (gw (v:=.ty "dict") rfl T.lU boot_dict rfl) c_))))) (ig (eS gZ (eX oq (by rfl) T.gC PySem.boot_len (a_ (pv 1) c_)) (eX g_ (by rfl) T.gC PySem.boot_len (a_ (eK (pv 0) d_) c_)) (eO _))))) (eB (eJ gH)) eQ)
  (en (ic PassesOwn.never rfl (iN (eK (pv 0) d_)) (iQ rfl (gq (ff (i:=3) nd rfl fL) (gq (ff (i:=4) nd rfl fL) iP))) (eB (eP (PW.pt (ib (pB (tZ hu (pv 3) (pv 1)) (by with_unfolding_all rfl)) (ig (gp (fU (eL J hr z (a_ (pv 4) (a_ (iw hu (pv 1) (pv 3) (λ_ _=>rfl)) (a_ (iw hu (pv 2) (pv 3) (λ_ _=>rfl)) c_))))))))) (eB (eJ gH)) eQ)))
  (eB (eJ gH)))) eQ)
  (en (eP (eS fw (eK (pv 0) d_) fh (eO _)) (en (eP (PW.pt (ib (gp (fU (eX gy (by rfl) T.gz boot_isinstance (a_ (pv 1) (a_ (gw (v:=.ty "list") rfl T.j4 boot_list rfl) c_))))) (ig (eS gZ (eX oq (by rfl) T.gC PySem.boot_len (a_ (pv 1) c_)) (eX g_ (by rfl) T.gC PySem.boot_len (a_ (pv 2) c_)) (eO _))))) (eB (eJ gH)) eQ)
  (eB (eJ (eX (nu rfl) (by rfl) T.nJ boot_all (a_ (jT (g:=(mZ K 2 (jN (gK 0) (jN (gK 1) mY)))) (tt:=jS) (te:=(lB _ _ _ (gR (pG (gR (tC (.str "record")) (gR (f_ (iu K) (fv 2) (tC (.int 3))) jh))) (gR (fv 0) (gR (fv 1) jh))))) (own:=["_law_a","_law_b"]) rfl (iT (N:=["_law_kind_here","_law_found","_law_due","_law_name","_law_inner"]) (sc:=eR (top 47))) (pV rfl T.qa (a_ (pv 1) (a_ (pv 2) c_))) (λ_ _ _ _ _=>(iQ rfl (gq (ff (i:=0) (show(["_law_a","_law_b","_law_kind_here","_law_found","_law_due","_law_name","_law_inner"]:List Str).Nodup by decide +kernel) rfl (Or.inl rfl) (.inr rfl)) (gq (ff (i:=1) (show(["_law_a","_law_b","_law_kind_here","_law_found","_law_due","_law_name","_law_inner"]:List Str).Nodup by decide +kernel) rfl (Or.inl rfl) (.inr rfl)) iP)))) (λ_ _ _ _ _=>kq) (λ_ _ _ _ _=>(eL J hr z (a_ (ik (a_ fh (a_ (eK (pv 2) d_) c_))) (a_ (pv 0) (a_ (pv 1) c_)))))) c_))))) eQ)
  (en (eP (PW.pt (ib (gp (fU (eX gy (by rfl) T.gz boot_isinstance (a_ (pv 1) (a_ (gw (v:=.ty "tuple") rfl T.lP boot_tuple rfl) c_))))) (ig (eS gZ (eX oq (by rfl) T.gC PySem.boot_len (a_ (pv 1) c_)) d_ (eO _))))) (eB (eJ gH)) eQ)
  (en (eP (eS fw (eK (pv 0) d_) fh (eO _)) (en (eP (PW.pt (ib (gp (fU (eX gy (by rfl) T.gz boot_isinstance (a_ (eK (pv 1) d_) (a_ (gw (v:=.ty "str") rfl T.lO boot_str rfl) c_))))) (ig (eS gZ (eK (pv 1) d_) (eK (pv 2) d_) (eO _))))) (eB (eJ gH)) eQ)
  (en (nr (i:=4) nd rfl fL (g:=(gK 0)) (tt:=(jC (f_ mj (f_ (iu K) (fv 0) (tC (.int 0))) (f_ (iu K) (fv 3) (tC (.int 0)))))) (te:=(f_ (iu K) (fv 0) (tC (.int 1)))) (own:=["_law_pair"]) rfl (iT (N:=["_law_kind_here","_law_found","_law_due","_law_name","_law_inner"]) (sc:=eR (top 47))) (iN (eK (pv 0) d_)) (λ_ _ _ _ _=>(ff (i:=0) (show(["_law_pair","_law_kind_here","_law_found","_law_due","_law_name","_law_inner"]:List Str).Nodup by decide +kernel) rfl (Or.inl rfl) (.inr rfl))) (λ_ _ _ _ _=>(lH (eS fw (eK (pv 0) d_) (eK (pv 3) d_) (eO _)))) (λ_ _ _ _ _=>(eK (pv 0) d_)))
  (eB (eJ (eL J hr z (a_ (iW (pv 4) d_) (a_ (eK (pv 1) d_) (a_ (eK (pv 2) d_) c_)))))))) eQ)
  (en (eP (PW.pt (ib (gp (fU (eX gy (by rfl) T.gz boot_isinstance (a_ (eK (pv 1) d_) (a_ (gw (v:=.ty "list") rfl T.j4 boot_list rfl) c_))))) (ig (eS gZ (eX g_ (by rfl) T.gC PySem.boot_len (a_ (eK (pv 1) d_) c_)) (eX g_ (by rfl) T.gC PySem.boot_len (a_ (eK (pv 2) d_) c_)) (eO _))))) (eB (eJ gH)) eQ)
  (en (eP (gp (fU (eL J hr z (a_ (eK (pv 0) d_) (a_ (eK (pv 1) d_) (a_ (eK (pv 2) d_) c_)))))) (eB (eJ gH)) eQ)
  (eB (eJ (eX (nu rfl) (by rfl) T.nJ boot_all (a_ (jT (g:=(mZ K 2 (jN (gK 0) (jN (gK 1) mY)))) (tt:=jS) (te:=(lB _ _ _ (gR (fv 2) (gR (fv 0) (gR (fv 1) jh))))) (own:=["_law_a","_law_b"]) rfl (iT (N:=["_law_kind_here","_law_found","_law_due","_law_name","_law_inner"]) (sc:=eR (top 47))) (pV rfl T.qa (a_ (eK (pv 1) d_) (a_ (eK (pv 2) d_) c_))) (λ_ _ _ _ _=>(iQ rfl (gq (ff (i:=0) (show(["_law_a","_law_b","_law_kind_here","_law_found","_law_due","_law_name","_law_inner"]:List Str).Nodup by decide +kernel) rfl (Or.inl rfl) (.inr rfl)) (gq (ff (i:=1) (show(["_law_a","_law_b","_law_kind_here","_law_found","_law_due","_law_name","_law_inner"]:List Str).Nodup by decide +kernel) rfl (Or.inl rfl) (.inr rfl)) iP)))) (λ_ _ _ _ _=>kq) (λ_ _ _ _ _=>(eL J hr z (a_ (pv 2) (a_ (pv 0) (a_ (pv 1) c_)))))) c_)))))))))))),?_⟩
 ac_rfl
 refine gP rfl ha rfl (by decide +kernel) ?_;refine gP rfl ha rfl (by decide +kernel) ?_;refine ku rfl ha rfl (by decide +kernel) ?_;have el:ab.length=xs.length:=by rw[af,FA.len fs ac]
 refine⟨_,rfl,_,_,_,true,rfl,.dK aa,rfl,true,rfl,fE ?_⟩;refine⟨_,rfl,.inl ⟨c1,_,rfl,aa,_,rfl,a,_,_,_,rfl,rfl,eu.of ha,rfl,b,_,rfl,.inr (eu.of hb),rfl,_,rfl,?_⟩⟩;refine iR (show V.int (ab.length:Nat)=V.int (xs.length:Nat) by rw[el]) ?_;refine⟨_,rfl,a,_,_,_,rfl,rfl,eu.of ha,rfl,b,rfl,⟨_,eu.of hb⟩,mh (xs:=xs) (λi σ H'=>Same H H'/\∃x y,σ=[some (.ref a),some (.ref c1),some (.ref c2),x,y]) ⟨Same.refl _,_,_,rfl⟩ ?_ ?_ ?_⟩
 . rintro i σ H' _ ⟨Y,_⟩;exact eu.of (Y _ _ hb)
 . rintro i v σ H' hv ⟨Y,x,y,rfl⟩;obtain⟨c,u,nm,k,rfl,ae,hc,hk⟩:=FA.get fs ac hv;obtain⟨e1,e2,ak,al,hh⟩:=ag nm k (Fs.kU ah ae);have g1:gc H' c1 (.str nm) (some e1):=by have:=gc.k (k:=Sum.inr nm) (Y _ _ aa);rw[ak] at this;exact this
   have g2:gc H' c2 (.str nm) (some e2):=by have:=gc.k (k:=Sum.inr nm) (Y _ _ aj);rw[al] at this;exact this
   refine⟨c,_,rfl,eu.of (Y _ _ hc),rfl,_,_,rfl,_,_,rfl,rfl,?_⟩;refine⟨_,rfl,_,rfl,c1,_,rfl,g1,false,rfl,fE ?_⟩;refine⟨_,rfl,_,rfl,_,rfl,c1,e1,rfl,g1,_,rfl,_,rfl,c2,e2,rfl,g2,?_⟩;refine rS ?_;exact hF hh Y (KA.mono (Tu.of Y) k hk) (Fs.nE ai ae) λH3 s3=>⟨true,rfl,fE ⟨Y.trans s3,_,_,rfl⟩⟩
 . rintro σ H' ⟨Y,_⟩;exact q _ Y
theorem Jv (n:Nat)(T:Tb mg)(L:Dn K mg "_law_alike" iK (top 47) z J)(U:eh P w K mg base er (n+1) z J iK (nO n)):eh P w K mg base er ((n+1)+1) z J iK (De n):=
 (Dg (n+1) (sp:=nO n) (Fc:=λH k e1 e2=>∃d Y f2,Own H e1 d Y/\Own H e2 d f2/\fZ k d/\d.dep<=n/\d.Sm) (λ⟨d,Y,f2,o1,o2,h⟩ s hk hW q=>⟨_,_,_,_,d,Y,f2,rfl,hk,hW,Own.same s o1,Own.same s o2,h.1,h.2.1,h.2.2,q⟩) T L U).imp λvs H Q E h=>by
   obtain⟨a,b,xs,fs,c1,c2,ac,ae,δ,S1,S2,e,ha,hb,af,ag,ah,ai,aj,R1,R2,q⟩:=h;refine⟨a,b,xs,fs,c1,c2,ac,ae,e,ha,hb,af,ag,ah,ai,aj,R1.len,λx k hx=>?_,q⟩;obtain⟨e1,Y,ak,aa,_,hr⟩:=R1.get x k hx;obtain⟨e2,f2,al,ab,_⟩:=R2.get x k hx;exact⟨e1,e2,ak,al,δ x,Y,f2,aa,ab,hr⟩
end Pb
namespace L2
open Spec PyProof.Rows
def mD (h:Heap) (C fI:Addr) (jy:List Value) (nid:String):Prop:=
 ∃tl N nm q bs z Y sub ab J dd k0 k1 k2 k3 k5 L U,h.get? C=some (excClassObj nm q C N bs tl z Y sub ab J dd k0 k1 k2 k3 k5 nid)/\h.Ns N L/\L "__init__"=some (.ref fI)/\OwnTail h jy tl/\h.get? fI=some U/\U.cls=.type "function"
theorem mD.keeps {h h':Heap}{C fI:Addr}{jy:List Value}{nid:String}(x:mD h C fI jy nid)(k:∀b o,h.get? b=some o->h'.get? b=some o):mD h' C fI jy nid:=by
 obtain⟨tl,N,nm,q,bs,z,L,sub,U,J,Y,k0,k1,k2,k3,k5,mN,oI,h1,h2,h3,h4,h5,h6⟩:=x;exact⟨tl,N,nm,q,bs,z,L,sub,U,J,Y,k0,k1,k2,k3,k5,mN,oI,k _ _ h1,h2.keeps k,h3,h4.keeps k,k _ _ h5,h6⟩
section
variable {prog:Program}{w:World}{A:Around}{E:Value->Shared->Prop}{hp:Heap}{g:Array GenState}{dr:Drawn}{tk:Nat}{os:OsState}{C fI:Addr}{jy:List Value}{B nid rT:String}
theorem Jw (FB:ExcBaseFacts B nid rT jy){us:List Value}{Q:Fin->Shared->Prop}(x:mD hp C fI jy nid)
 (q1:∀h' e,Heap.MadeExcOf hp h' e (.ref C) us->wpAny (model prog w) A (call (.ref fI) (.ref e::us)) (λr s'=>r=.none/\Q (.done (.ret (.ref e))) s') E ⟨h',g,dr,tk,os⟩) (hl:us.length<=sizeLine):
 wpAny (model prog w) A (Builtin.«type.__call__» ⟨.ref C::us,[]⟩) Q E ⟨hp,g,dr,tk,os⟩:=by
 obtain⟨tl,N,nm,q,bs,al,sn,sub,ab,am,dd,k0,k1,k2,k3,k5,mN,oI,cl,ns,ae,J,af,ag⟩:=x
 repeat (first|with_reducible refine wpAny_loadPart_at cl ?_|with_reducible refine wpAny_madeBy_exc cl ?_|wp_step)
 refine codeAny_call_builtin_code (Code.quiet_builtin _ FB.quiet) (wpAny_check_new_subT FB J cl (codeAny_exc_new_subT FB J cl ?_ hl));show wpAny _ _ _ _ _ _;generalize ah:({ cls:=.type "tuple",data:=.seq us.toArray }:Obj)=o1;generalize L:({ cls:=.ref C,data:=.fields #[.ref hp.objs.size,.none,.none,.none,.bool false,.none] }:Obj)=Y;have up:∀b o,hp.get? b=some o->((hp.push o1).push Y).get? b=some o:=λb o e=>Q07 _ (Q07 _ e);have aa:=up _ _ cl;have ai:((hp.push o1).push Y).Ns N mN:=ns.keeps up;have ac:=up _ _ af;have U:=J.keeps up
 have ex:((hp.push o1).push Y).get? (hp.objs.size+1)=some Y:=by
  subst L;exact Q2r (by rw[Q17]) rfl
 have aj:Y.cls=.ref C:=by rw[<-L]
 have ak:(Value.ref C::tl).contains (.ref C)=true:=by simp
 unfold isInstance
 repeat (first|(with_reducible refine wpAny_loadPart_at ex ?_;rw[aj])|(with_reducible refine wpAny_isSubtype_exc aa ?_;rw[ak])|wp_step)
 show wpAny _ _ (typeLookup (.ref C) _) _ _ _;refine wpAny_typeLookup_tail aa ai U FB.mroIs FB.init.lookup ?_;rw[ae];refine wpAny_holding (Q0 ?_);unfold bindSpecial;refine Q0 (wpAny_typeOf (T:="function") ⟨_,ac,ag⟩ ?_);rw[if_pos (by decide)];refine Q0a (Q0 (Q0m (q1 _ (hp.objs.size+1) ⟨up,Q2a (Q14 _),hp.objs.size,?_,Q2a (Q00 _),?_⟩) (λr s' hr=>?_) λ_ _ z=>z))
 . rw[ex,<-L]
 . rw[<-ah];exact Q07 _ (Q2r rfl rfl)
 . obtain⟨rfl,hQ⟩:=hr
   wp_walk
   exact hQ
theorem Jx (FB:ExcBaseFacts B nid rT jy){us:List Value}{Q:Value->Shared->Prop}(x:mD hp C fI jy nid)
 (L:∀h' e,Heap.MadeExcOf hp h' e (.ref C) us->wpAny (model prog w) (A.under (.builtin "type.__call__" ⟨.ref C::us,[]⟩)) (call (.ref fI) (.ref e::us)) (λr s'=>r=.none/\Q (.ref e) s') E ⟨h',g,dr,tk,os⟩) (hl:us.length<=sizeLine):
 wpAny (model prog w) A (call (.ref C) us) Q E ⟨hp,g,dr,tk,os⟩:=by
 have aa:=tc_lookup;have ac:=tc_bind (.ref C);have U:=x;obtain⟨tl,N,nm,q,bs,z,sn,sub,ab,ae,dd,k0,k1,k2,k3,k5,mN,oI,cl,ns,af,J,ag,ah⟩:=U;have ty:(⟨hp,g,dr,tk,os⟩:Shared).TypeIs (.ref C) "type":=⟨_,cl,rfl⟩;refine wpAny_call (codeAny_of_tree ?_);show wpAny _ _ (callAny (.ref C) _) _ _ _
 repeat (any_goals (first|assumption|with_reducible refine wpAny_loadPart_at cl ?_|wp_step))
 exact⟨rfl,codeAny_call_builtin_at (Code.quiet_builtin _ (by decide +kernel)) entry_typeCall (wpAny_check_type_call_sub cl (Jw FB x (λh' e Y=>L h' e Y) hl))⟩
end
theorem Jy {M:Model}{A:Around}{E:Value->Shared->Prop}{env:Env}{s:Shared}{x:Sem Value}{Q:Flow->Shared->Prop}(hh:A.handled=none)
 (h:wpAny M A x (λv L=>∃(e C:Addr) (U:Obj) (t:Value) (r:Array Value),v=.ref e/\L.heap.get? e=some U/\U.cls=.ref C/\U.data=.fields #[t,.none,.none,.none,.bool false,.none]/\
   (∃tl N nm q bs J sn sub ab Y dd k0 k1 k2 k3 k5 nid,L.heap.get? C=some (excClassObj nm q C N bs tl J sn sub ab Y dd k0 k1 k2 k3 k5 nid)/\tl.contains (.type "BaseException")=true)/\E (.ref e) L) E s):
 wpAny M A (raiseStmt env (some x) none) Q E s:=by
 unfold raiseStmt;refine Q0 (Q0m h (λv L h1=>?_) λ_ _ z=>z);obtain⟨e,C,U,t,r,rfl,he,hc,hd,⟨tl,N,nm,q,bs,J,sn,sub,ab,Y,dd,k0,k1,k2,k3,k5,nid,cl,hb⟩,hE⟩:=h1;have aa:(Value.ref C::tl).contains (.type "BaseException")=true:=by rw[List.contains_cons,hb,Bool.or_true]
 obtain⟨hp,g,dr,tk,os⟩:=L;obtain⟨oc,od,ac,ae⟩:=U;have hc:oc=.ref C:=hc;have hd:ac=.fields #[t,.none,.none,.none,.bool false,.none]:=hd;subst hc;subst hd
 repeat (first|with_reducible refine wpAny_loadPart_at he ?_|with_reducible refine wpAny_loadPart_at cl ?_|(with_reducible refine wpAny_isSubtype_exc cl ?_;rw[aa])|wp_step)
 exact wpAny_raiseNew_none hh hE
end L2
namespace L2
open Spec Calls PyProof.Rows W Builtin Builtin.ObjectAttr
noncomputable def rU:List Value->Bool
 | .ref _::r=>rU r
 |l=>l == [.type "ValueError",.type "Exception",.type "BaseException",.type "object"]
theorem Dh {self:Value}:∀{l:List Value},rU l=true->refuseLoop self "__setattr__" l=pure ()
 |[],h=>by cases h
 | .ref C::r,h=>by
   rw[refuseLoop_ref];exact Dh (l:=r) h
 | .type n::r,h=>by
   have e:Value.type n::r=[.type "ValueError",.type "Exception",.type "BaseException",.type "object"]:=beq_iff_eq.mp h;rw[e];exact F.store_ValueError.passes self
 | .none::r,h=>by cases beq_iff_eq.mp (show(Value.none::r == _)=true from h)
 | .bool b::r,h=>by cases beq_iff_eq.mp (show(Value.bool b::r == _)=true from h)
 | .int i t::r,h=>by cases beq_iff_eq.mp (show(Value.int i t::r == _)=true from h)
 | .str x t::r,h=>by cases beq_iff_eq.mp (show(Value.str x t::r == _)=true from h)
 | .bytes x t::r,h=>by cases beq_iff_eq.mp (show(Value.bytes x t::r == _)=true from h)
 | .float x t::r,h=>by cases beq_iff_eq.mp (show(Value.float x t::r == _)=true from h)
 | .builtin x::r,h=>by cases beq_iff_eq.mp (show(Value.builtin x::r == _)=true from h)
 | .ellipsis::r,h=>by cases beq_iff_eq.mp (show(Value.ellipsis::r == _)=true from h)
 | .notImplemented::r,h=>by cases beq_iff_eq.mp (show(Value.notImplemented::r == _)=true from h)
structure mE (K:Frag) (C:Addr) (name:Str):Prop where
 sa:findIn K (.ref C) "__setattr__"=some (some (.builtin "object.__setattr__"))
 na:findIn K (.ref C) name=some none
 ob:mroIn K C (.type "object")=some true
 row:((clsIn K C).any λcd=>rU cd.mro && cd.hasDict)=true
section
variable {prog:Program}{w:World}{A:Around}{E:Value->Shared->Prop}{s:Shared}{K:Frag}{x C:Addr}{ox:Obj}{name:Str}{v:Value}
theorem Jz {R:Result->Shared->Prop}{tk:Tok}(X:K.In s.heap)(Z:mE K C name)(hx:s.heap.get? x=some ox)(hc:ox.cls=.ref C)
 (h:wpAny (model prog w) A.in1 (storeInOwnDict (.ref x) (.ref C) (.str name tk) name v false) (λfin s'=>match fin with| .done f=>R (.ok f) s'| .again c'=>c'.quiet=true/\codeAny (model prog w) A c' R s') (λe s'=>R (.error e) s') s):
 codeAny (model prog w) A (.call (.builtin "object.__setattr__") ⟨[.ref x,.str name tk,v],[]⟩) R s:=by
 have J:=PySem.F.store_object
 have U:Looks (model prog w) s.heap (typeOf (.ref x)) (.ref C):=by
  have z:Looks (model prog w) s.heap (typeOf (.ref x)) ox.cls:=(Looks.ld hx).andThen .now;rw[hc] at z;exact z
 have Lo:Looks (model prog w) s.heap (isInstance (.ref x) (.type "object")) true:=U.andThen (looks_mroIn X Z.ob);obtain⟨cd,Y,L⟩:=any_some Z.row;have hr:=(Bool.and_eq_true_iff.mp L).1;have Lm:Looks (model prog w) s.heap (mroOf (.ref C)) cd.mro:=(looks_clsIn X Y).andThen .now;refine codeAny_call_builtin J.slot.plain J.entry (@check_slot (model prog w) _ _ s "object.__setattr__" "object" "__setattr__" (.ref x) [.str name tk,v] [] _ J.kind J.split Lo (J.args (.ref x) (.str name tk) v) ?_);rw[osa_eq,refuse_eq];refine Q0 (Q0 (U.here (Q0 (Lm.here ?_))));rw[Dh hr];refine Q0a (Q0 (U.here (Q0 ((looks_findIn X Z.na).here (Q0 ?_)))));exact(show Looks (model prog w) s.heap (storeTaker? none) none from .now).here h
theorem JA {Q:Unit->Shared->Prop}{vs:Array Value}(X:K.In s.heap)(Z:mE K C name)(J:s.heap.get? x=some ox)(hc:ox.cls=.ref C)(z:ox.dict=none)(hd:ox.data=.fields vs)
 (h:∀h' af,h'.Ns1 s.heap.objs.size (λy=>if y=name then some v else none)->h'.get? x=some { ox with dict:=some s.heap.objs.size }->(∀b o,b≠x->s.heap.get? b=some o->h'.get? b=some o)->Q () { s with heap:=h',toks:=af }):
 wpAny (model prog w) A (setAttr (.ref x) name v) Q E s:=by
 have I:InstAt s.heap x ox C none:=⟨J,hc,by unfold notCls;rw[hd],by rw[z];trivial⟩;refine set_plain X I Z.sa (Jz (s:={ s with toks:=s.toks+1 }) X Z J hc ?_);obtain⟨cd,ag,ac⟩:=any_some Z.row;have ae:=(Bool.and_eq_true_iff.mp ac).2;obtain⟨oc,od,ah,L⟩:=ox;have hc:oc=.ref C:=hc;have z:od=none:=z;have hd:ah=.fields vs:=hd;subst hc;subst z;subst hd;have Lc:=looks_clsIn (M:=model prog w) X ag;obtain⟨hp,g,dr,tk,os⟩:=s;have J:hp.get? x=some ⟨.ref C,none,.fields vs,L⟩:=J;have U:x≠hp.objs.size:=Q08 (Q01 J);unfold storeInOwnDict;refine Q0 (Q0a ?_);refine Q0 ?_;show wpAny _ _ (instanceDict x true) _ _ _;unfold instanceDict;refine Q0 (wpAny_loadPart J (Q0 (Lc.at ?_)));rw[ae];rw[if_neg (by decide)];show wpAny _ _ (if(!true || !typeHasDict (.ref C))=true then _ else _) _ _ _;rw[if_neg (by simp[typeHasDict])];show wpAny _ _ (alloc _ >>= _) _ _ _;have Y:(hp.push { cls:=.type "dict",data:=.dict #[] }).get? x=some ⟨.ref C,none,.fields vs,L⟩:=Q07 _ J;refine Q0 (wpAny_alloc' (Q0 (wpAny_update' Y (Q0a ?_))));generalize hH:(hp.push { cls:=.type "dict",data:=.dict #[] }).update x (λo=>{ cls:=o.cls,dict:=some hp.objs.size,data:=o.data,slots:=o.slots })=h1
 have gd:h1.get? hp.objs.size=some { cls:=.type "dict",data:=.dict #[] }:=by
  rw[<-hH];exact(Q2l _ _ _ _ U.symm).trans (Q2r rfl rfl)
 have gx:h1.get? x=some ⟨.ref C,some hp.objs.size,.fields vs,L⟩:=by
  rw[<-hH];exact Q1p _ Y rfl
 have go:∀b o,b≠x->hp.get? b=some o->h1.get? b=some o:=λb o hb e=>by
  rw[<-hH];exact(Q2l _ _ _ _ hb).trans (Q07 _ e)
 have ai:h1.Ns hp.objs.size (λ_=>none):=⟨_,#[],_,gd,rfl,(λe he=>absurd he (by simp)),λ_=>rfl⟩;show wpAny _ _ (storeInDict hp.objs.size (.str name tk) name v) _ _ _;unfold storeInDict newKeyGuard;refine Q0 (Q0a (Q0 (wpAny_nsSet1 (Heap.Ns1.of_empty ai) λh2 aa ab=>?_)));obtain⟨oD,am,an,aj,ak,al⟩:=aa.count (PySem.Within.cons name v PySem.Within.nil);refine Q0 (wpAny_lookBehind aj (by rw[ak];exact pastItsLine_dict (Q05 al (by rw[Q0j,Q3,sizeLine_eq];omega))) ?_);exact Q0a (h h2 _ aa ((ab.2 x U).trans gx) λb o hb e=>(ab.2 b (Q08 (Q01 e))).trans (go b o hb e))
end
end L2
namespace L2
open Spec Calls PyProof.Rows W Builtin Builtin.ObjectAttr Builtin.Getset_descriptor
section
variable {prog:Program}{w:World}{A:Around}{E:Value->Shared->Prop}{K:Frag}{h:Heap}{g:Array GenState}{d:Drawn}{t:Nat}{os:OsState}{a C dx:Addr}{o:Obj}{vs:Array Value}{mA:Str->Option Value}{name:Str}{v:Value}
theorem JB {tk:Tok}{Q:Fin->Shared->Prop}(X:K.In h)(Z:oF K C)(Y:mE K C name)(hx:h.get? a=some o)(hc:o.cls=.ref C)(hd:o.data=.fields vs)(U:o.dict=some dx)(hn:h.Ns dx mA)(hv:mA name=some v)(hq:Q (.done (.ret v)) ⟨h,g,d,t,os⟩):
 wpAny (model prog w) A (Builtin.«object.__getattribute__» ⟨[.ref a,.str name tk],[]⟩) Q E ⟨h,g,d,t,os⟩:=by
 obtain⟨cd,z,aa⟩:=any_some Y.row;have J:=(Bool.and_eq_true_iff.mp aa).2;have L1:=looks_findIn (M:=model prog w) X Y.na;have L2:=looks_clsIn (M:=model prog w) X z;obtain⟨oc,od,ab,ac⟩:=o;have hc:oc=.ref C:=hc;have hd:ab=.fields vs:=hd;have U:od=some dx:=U;subst hc;subst hd;subst U
 have hC:∃c' d' L,h.get? C=some ⟨c',d',.cls cd,L⟩:=by
  unfold clsIn at z;split at z
  . rename_i c' d' ae L ho
    cases z;exact⟨c',d',L,X _ _ ho⟩
  . cases z
 obtain⟨c',d',L,hC⟩:=hC;obtain⟨c1,c2,c3,c4,c5,c6,c7,c8,c9,af,ag⟩:=cd;have J:c6=true:=J;subst J
 repeat (any_goals (first|assumption|with_reducible refine wpAny_loadPart_at hx ?_|with_reducible refine wpAny_loadPart_at hC ?_|with_reducible refine L1.at ?_|(with_reducible refine wpAny_nsGet hn ?_;rw[hv])|wp_step))
theorem JC {tk:Tok}{fill z:Bool}{Q:Value->Shared->Prop}(X:K.In h)(Z:oF K C)(Y:mE K C name)(J:h.get? a=some o)(hc:o.cls=.ref C)(hd:o.data=.fields vs)(L:o.dict=some dx)(hn:h.Ns dx mA)(hv:mA name=some v)(hh:handedOut v=pure v)(hq:Q v ⟨h,g,d,t,os⟩):
 wpAny (model prog w) A (getAttrBy (.ref a) (.str name tk) fill z) Q E ⟨h,g,d,t,os⟩:=by
 have f3:=F.attr_ValueError.ga.bind (.ref a);have aa:(z && onTheHeap (Value.builtin "BaseException.__getattribute__"))=false:=by cases z <;> rfl
 have U:(Value.builtin "BaseException.__getattribute__" == Value.builtin "object.__getattribute__")=false:=by decide +kernel
 have ab:(onTheHeap (Value.ref C) && Value.builtin "BaseException.__getattribute__" == Value.builtin "object.__getattribute__")=false:=by rw[U];rfl
 have L1:=looks_findIn (M:=model prog w) X Z.ga;have L2:=looks_findIn (M:=model prog w) X Z.gt
 repeat (any_goals (first|assumption|(with_reducible refine wpAny_loadPart_at J ?_;rw[hc])|with_reducible refine L1.at ?_|with_reducible refine L2.at ?_|wp_step))
 refine codeAny_call_builtin F.attr_ValueError.ga.plain F.entry_bexc_ga (HL X Z J hc (JB X Z Y J hc hd L hn hv ?_))
 repeat (any_goals (first|assumption|wp_step))
theorem JD {z:Bool}{Q:Value->Shared->Prop}(X:K.In h)(Z:oF K C)(Y:mE K C name)(L:h.get? a=some o)(hc:o.cls=.ref C)(U:o.data=.fields vs)(J:o.dict=some dx)(hn:h.Ns dx mA)(hv:mA name=some v)(hh:handedOut v=pure v)(hq:Q v ⟨h,g,d,t+1,os⟩):
 wpAny (model prog w) A (getAttr (.ref a) name z) Q E ⟨h,g,d,t,os⟩:=by
 unfold getAttr
 repeat (any_goals (first|assumption|with_reducible apply JC X Z Y L hc U J hn hv hh|wp_step))
end
end L2
namespace L2
open Spec PyProof.Rows
section
variable {M:Model}{A:Around}{E:Value->Shared->Prop}{s:Shared}
structure j9 (h:Heap) (e T:Addr) (cls:Value) (dd:Option Addr) (fl:Value):Prop where
 ex:∃oe vs,h.get? e=some oe/\oe.cls=cls/\oe.dict=dd/\oe.data=.fields vs/\vs[1]? =some (.ref T)
 tb:∃oT ts,h.get? T=some oT/\oT.data=.fields ts/\ts[3]? =some fl
 ne:T≠e
theorem rV {e T:Addr}{cls fl:Value}{U:Option Addr}{Q:Unit->Shared->Prop}(t:j9 s.heap e T cls U fl)(h:∀h',j9 h' e T cls U .none->(∀b o,b≠T->s.heap.get? b=some o->h'.get? b=some o)->(∃o',h'.get? T=some o')->Q () { s with heap:=h' }):wpAny M A (setFlight (.ref e) none) Q E s:=by
 obtain⟨⟨Y,vs,he,hc,L,hd,h1⟩,⟨oT,ts,hT,z,h3⟩,ne⟩:=t;have em:Obj.mapFields (·.setIfInBounds 3 ((none:Option Addr).elim Value.none λf=>rawInt f)) oT={ oT with data:=.fields (ts.setIfInBounds 3 .none) }:=uj z;have hsz:=(Array.getElem?_eq_some_iff.mp h3).1;unfold setFlight;refine Q0 (wpAny_field he hd h1 ?_);rw[if_pos (show(Value.ref T != Value.none)=true by simp)];have self:=Q1p (Obj.mapFields (·.setIfInBounds 3 ((none:Option Addr).elim Value.none λf=>rawInt f))) hT (by rw[em];exact Obj.isFreed_of_fields rfl);rw[em] at self
 have J:∀b o,b≠T->s.heap.get? b=some o->(s.heap.update T (Obj.mapFields (·.setIfInBounds 3 ((none:Option Addr).elim Value.none λf=>rawInt f)))).get? b=some o:=λb o hb ho=>by
  rw[Q18 _ _ (Ne.symm hb)];exact ho
 exact wpAny_setField hT z hsz (h _ ⟨⟨Y,vs,J e Y (Ne.symm ne) he,hc,L,hd,h1⟩,⟨_,_,self,rfl,by simp[hsz]⟩,ne⟩ J ⟨_,self⟩)
theorem Di {base:Heap}{env:Env}{outer:List Env}{L e T:Addr}{cls:Value}{dd:Option Addr}{Q:Unit->Shared->Prop}(af:A.frames=some (env::outer))(hl:s.heap.FunFrames base (env::outer))(hf:env.frame=some L)(t:j9 s.heap e T cls dd .none)
 (h:∀(h':Heap) (T':Addr),s.heap.objs.size<=T'->(∀b o,b ∉ frs (env::outer)->b≠e->b≠T->s.heap.get? b=some o->h'.get? b=some o)->(∀b o,b≠e->b≠T->s.heap.get? b=some o->∃sl,h'.get? b=some { o with slots:=sl })->(∃o,h'.get? T=some o)->j9 h' e T' cls dd (rawInt L)->Q () { s with heap:=h' }):
 wpAny M A (noteFrame (.ref e) env) Q E s:=by
 obtain⟨⟨oe,vs,he,hc,ag,hd,h1⟩,⟨oT,ts,hT,U,h3⟩,ne⟩:=t;have hsz:=(Array.getElem?_eq_some_iff.mp h3).1;have em:Obj.mapFields (·.setIfInBounds 3 Value.none) oT={ oT with data:=.fields (ts.setIfInBounds 3 .none) }:=uj U;unfold noteFrame;simp only[hf];refine Q0 (wpAny_field he hd h1 ?_);rw[if_pos (show(Value.ref T != Value.none)=true by simp)];refine Q0 (wpAny_field hT U h3 ?_);rw[if_neg (show ¬(Value.none == rawInt L)=true by simp[rawInt])];refine Q0 (wpAny_setField hT U hsz ?_);have self:=Q1p (Obj.mapFields (·.setIfInBounds 3 Value.none)) hT (by rw[em];exact Obj.isFreed_of_fields rfl);rw[em] at self
 have Y:∀b o,b≠T->s.heap.get? b=some o->(s.heap.update T (Obj.mapFields (·.setIfInBounds 3 Value.none))).get? b=some o:=λb o hb J=>by
  rw[Q18 _ _ (Ne.symm hb)];exact J
 have nT:∀b o,s.heap.get? b=some o->(∀vs,o.data≠ .fields vs)->b≠T:=λb o J hn z=>by
  rw[z,hT] at J
  cases J;exact hn ts U
 have ac:(s.heap.update T (Obj.mapFields (·.setIfInBounds 3 Value.none))).objs.size=s.heap.objs.size:=Q2j _ _ _;refine BL (s:={ s with heap:=s.heap.update T (Obj.mapFields (·.setIfInBounds 3 Value.none)) }) af (hl.of_keeps λb o J hn=>⟨o,Y b o (nT b o J hn) J,rfl⟩) hf (Y e oe (Ne.symm ne) he) hd (Array.getElem?_eq_some_iff.mp h1).1 λh' T' ah hP ai aj=>?_;have ae:s.heap.objs.size<=T':=by rw[<-ac];exact ah
 refine h h' T' ae (λb o hb aa ab J=>hP.1 b o hb aa (Y b o ab J)) (λb o aa ab J=>hP.2 b o aa (Y b o ab J)) ?_ ⟨⟨_,_,ai,hc,ag,rfl,by simp[(Array.getElem?_eq_some_iff.mp h1).1]⟩,aj,?_⟩
 . obtain⟨sl,hs⟩:=hP.2 T _ ne self;exact⟨_,hs⟩
 . have h1:e<s.heap.objs.size:=Q01 he;exact λz=>Q0r e (Q0d h1 (by rw[<-z];exact ae))
end
section
variable {X:Cx}{pins:List (Addr × Obj)}{σ:St}{H:Hp}{s:Shared}
theorem Inv.JE (I:Inv X pins σ H s)(hex:X.ex=[])(J:X.stack=X.env::X.outer)(ab:X.env.frame=some X.env.locals){a T:Addr}{cls:Value}{dd:Option Addr}{Q:Unit->Shared->Prop}{E:Value->Shared->Prop}{M:Model}(t:j9 s.heap a T cls dd .none)
 (ha:X.s₀.heap.get? a=none) (hT:X.s₀.heap.get? T=none) (na:H a=none) (nT:H T=none)
 (q:∀(h':Heap) (T':Addr),j9 h' a T' cls dd .none->X.s₀.heap.get? T'=none->H T'=none->Un (frs X.outer) [] X.H₀ H X.s₀.heap h'->gD X.prog X.w H h'->Q () { s with heap:=h' }):
 wpAny M X.A (leaving X.env (.ref a)) Q E s:=by
 have ac:X.A.frames=some (X.env::X.outer):=by rw[<-J];exact I.ok.frames
 have hl:s.heap.FunFrames X.base (X.env::X.outer):=by rw[<-J];exact I.stack
 unfold leaving;refine Q0 (Di ac hl ab t λh1 T1 L k1 k2 af t1=>?_);refine rV (s:={ s with heap:=h1 }) t1 λh2 t2 k3 ag=>?_;have ae:H T1=none:=I.hok.fresh L
 have aa:∀b o,s.heap.get? b=some o->b≠T1:=λb o e z=>by
  have h3:=Q01 e;rw[z] at h3;exact Q0r _ (Q0d h3 L)
 obtain⟨u,ok⟩:=I.BP hex (h':=h2) ha hT na nT (λb o hb U Y e=>k3 b o (aa b o e) (k1 b o (by rw[<-J];exact hb) U Y e)) (λb o U Y e=>by
  obtain⟨sl,e1⟩:=k2 b o U Y e;exact⟨sl,k3 b _ (aa b o e) e1⟩)
 exact q h2 T1 t2 (I.oE hex (Heap.BO L)) ae u ok
end
def i4 (P:Program) (w:World):iV:=λouter H s E e s'=>∃(a T C:Addr) (z:Option Addr) (H':Hp),e=.ref a/\j9 s'.heap a T (.ref C) z .none/\s.heap.get? a=none/\s.heap.get? T=none/\H' a=none/\H' T=none/\s'.os=s.os/\AllBare s'.gens/\Un (frs outer) [] H H' s.heap s'.heap/\gD P w H' s'.heap/\E (.ref C) z H'
theorem Dj {P:Program}{w:World}{K:W.Frag}{mg:Str->Option Value}{base:Heap}{N:List Str}{qual:Str}{scope:Scope}{f:Addr}{cd:Value}{A:Around}{outer:List Env}{s₀:Shared}{H₀:Hp}{E E':XK}(hE:∀C d H,E' C d H->E C d H):
 Passes (i4 P w) (eY (i4 P w) P w K mg base N qual scope f cd A outer s₀ H₀ E) E':=λpins σ H s e s' I h=>by
 obtain⟨a,T,C,dd,H',rfl,t,la,lT,na,nT,os,J,un,U,Y⟩:=h;obtain⟨hh,g,d,tk,aa⟩:=s';obtain rfl:aa=s.os:=os;have I':=I.call (h':=hh) (g':=g) (d':=d) (t':=tk) (ch:=[]) un U J (λb z=>absurd z (by simp));show wpAny (model P w) _ (leaving _ _) _ _ _;refine I'.JE rfl rfl rfl t (I.oE rfl la) (I.oE rfl lT) na nT λh' T' t' ab ac ae L=>?_;exact⟨a,T',C,dd,H',rfl,t',I.oE rfl la,ab,na,ac,I'.os,J,ae,L,hE _ _ _ Y⟩
section
variable {M:Model}{A:Around}{E:Value->Shared->Prop}{s:Shared}
theorem JF {base:Heap}{env:Env}{outer:List Env}{L e:Addr}{cls:Value}{dd:Option Addr}{U:Obj}{vs:Array Value}{Q:Unit->Shared->Prop}(aa:A.frames=some (env::outer))(hl:s.heap.FunFrames base (env::outer))(hf:env.frame=some L)
 (he:s.heap.get? e=some U) (hc:U.cls=cls) (ab:U.dict=dd) (hd:U.data=.fields vs) (h1:vs[1]? =some .none)
 (h:∀(h':Heap) (Y:Addr),s.heap.objs.size<=Y->(∀b o,b ∉ frs (env::outer)->b≠e->s.heap.get? b=some o->h'.get? b=some o)->(∀b o,b≠e->s.heap.get? b=some o->∃sl,h'.get? b=some { o with slots:=sl })->j9 h' e Y cls dd (rawInt L)->Q () { s with heap:=h' }):
 wpAny M A (noteFrame (.ref e) env) Q E s:=by
 have hsz:=(Array.getElem?_eq_some_iff.mp h1).1;unfold noteFrame;simp only[hf];refine Q0 (wpAny_field he hd h1 ?_);rw[if_neg (by decide)];refine BL aa hl hf he hd hsz λh' Y J hP ac ae=>?_;refine h h' Y J hP.1 hP.2 ⟨⟨_,_,ac,hc,ab,rfl,by simp[hsz]⟩,ae,λz=>?_⟩;have h3:=Q01 he;rw[<-z] at h3;exact Q0r _ (Q0d h3 J)
end
section
variable {X:Cx}{pins:List (Addr × Obj)}{σ:St}{H:Hp}{s:Shared}
theorem Inv.JG (I:Inv X pins σ H s)(hex:X.ex=[])(J:X.stack=X.env::X.outer)(aa:X.env.frame=some X.env.locals){a:Addr}{oe:Obj}{vs:Array Value}{cls:Value}{dd:Option Addr}{Q:Unit->Shared->Prop}{E:Value->Shared->Prop}{M:Model}
 (he:s.heap.get? a=some oe) (hc:oe.cls=cls) (ab:oe.dict=dd) (hd:oe.data=.fields vs) (h1:vs[1]? =some .none) (ha:X.s₀.heap.get? a=none) (na:H a=none)
 (q:∀(h':Heap) (T':Addr),j9 h' a T' cls dd .none->X.s₀.heap.get? T'=none->H T'=none->Un (frs X.outer) [] X.H₀ H X.s₀.heap h'->gD X.prog X.w H h'->Q () { s with heap:=h' }):
 wpAny M X.A (leaving X.env (.ref a)) Q E s:=by
 have ac:X.A.frames=some (X.env::X.outer):=by rw[<-J];exact I.ok.frames
 have hl:s.heap.FunFrames X.base (X.env::X.outer):=by rw[<-J];exact I.stack
 unfold leaving;refine Q0 (JF ac hl aa he hc ab hd h1 λh1 T1 L k1 k2 t1=>?_);refine rV (s:={ s with heap:=h1 }) t1 λh2 t2 k3 af=>?_;have ae:H T1=none:=I.hok.fresh L
 have Y:∀b o,s.heap.get? b=some o->b≠T1:=λb o e z=>by
  have h3:=Q01 e;rw[z] at h3;exact Q0r _ (Q0d h3 L)
 obtain⟨u,ok⟩:=I.BP hex (h':=h2) ha ha na na (λb o hb U _ e=>k3 b o (Y b o e) (k1 b o (by rw[<-J];exact hb) U e)) (λb o U _ e=>by
  obtain⟨sl,e1⟩:=k2 b o U e;exact⟨sl,k3 b _ (Y b o e) e1⟩)
 exact q h2 T1 t2 (I.oE hex (Heap.BO L)) ae u ok
end
noncomputable def lW (a C:Addr) (z:Option Addr):HO:=.ext λh=>∃o,h.get? a=some o/\o.cls=.ref C/\o.dict=z/\∃vs,o.data=.fields vs
theorem lW.ok {P:Program}{w:World}{H:Hp}{h:Heap}{a C:Addr}{z:Option Addr}(e:∃o,h.get? a=some o/\o.cls=.ref C/\o.dict=z/\∃vs,o.data=.fields vs):gJ P w H h a (lW a C z):=
 ⟨e,let⟨o,h1,_⟩:=e;⟨o,h1⟩,λ_ _ ⟨o,h1,h2⟩ k=>⟨o,k o h1,h2⟩⟩
def qm (X:Cx) (pins:List (Addr × Obj)) (σ:St) (Ek:XK) (e:Value) (s':Shared):Prop:=∃H s,Inv X pins σ H s/\i4 X.prog X.w X.stack H s Ek e s'
def qo (X:Cx) (Ek:XK) (e:Expr) (t:TE):Prop:=
 ∀(pins:List (Addr × Obj)) (s:Shared) (σ:St) (H:Hp) (Q:VK),Inv X pins σ H s->t σ H Q->wpAny (model X.prog X.w) X.A (eval e X.env) (EP X pins σ Q) (qm X pins σ Ek) s
def Dk (X:Cx) (Ek:XK) (st:List Stmt) (t:TS):Prop:=
 ∀(pins:List (Addr × Obj)) (s:Shared) (σ:St) (H:Hp) (D:Ends),Inv X pins σ H s->t D σ H->wpAny (model X.prog X.w) X.A (execs st X.env) (SP X pins D) (qm X pins σ Ek) s
section
variable {X:Cx}{k:Nat}{f:Addr}{fd:FuncData}{ps:List Str}{sp:Sp}{iE:List V}{ds:List Value}{Ek:XK}{x:Str}{p pos:Pos}{e:Expr}{es:List Expr}{t:TA}{te:TE}
theorem JH {i:Nat}{y:Str}{pos':Pos}(J:X.N.Nodup)(hi:X.N[i]? =some y)(L:Loc X.env.scope y)(U:qo X Ek e te)(Y:swapsWith e (some (.Name y pos')) pos.line X.env=pure false:=by rfl)(hf:X.fn y=true\/X.env.scope.names.lookup y=some .local:=by first|exact .inl rfl|exact .inr rfl|assumption):
 Dk X Ek [.Assign [.Name y pos'] e pos] (n9 te (gK i)):=by
 intro pins s σ H D I h;refine wpAny_execs_cons (wpAny_Assign_Name (Q0m (U pins s σ H _ I h) (λv s1 zq=>?_) λ_ _ z=>z) Y);obtain⟨z,H1,I1,r1,q1⟩:=zq;exact pA I1 J hi L r1 (λs2 I2=>wpAny_execs_nil ⟨_,H1,I2,q1⟩) hf
end
theorem JI {X:Cx}{pins:List (Addr × Obj)}{σ:St}{Ek:XK}{e:Value}{s':Shared}{Q:Unit->Shared->Prop}{E:Value->Shared->Prop}(ac:X.stack=X.env::X.outer)(ah:X.env.frame=some X.env.locals)(h:qm X pins σ Ek e s')
 (q:∀(a C T:Addr) (U:Option Addr) (H':Hp) (h2:Heap),e=.ref a->H' a=none->Ek (.ref C) U H'->j9 h2 a T (.ref C) U .none->Inv X pins σ (upd H' a (lW a C U)) { s' with heap:=h2 }->
   (∀L:Heap,j9 L a T (.ref C) U .none->(∀b o,b≠T->h2.get? b=some o->L.get? b=some o)->Inv X pins σ (upd H' a (lW a C U)) { s' with heap:=L })->Q () { s' with heap:=h2 }):
 wpAny (model X.prog X.w) X.A (noteFrame e X.env) (λ_ s2=>wpAny (model X.prog X.w) X.A (setFlight e none) Q E s2) E s':=by
 obtain⟨H,s,I,a,T,C,U,H',rfl,t,la,lT,na,nT,os,ab,un,ae,hE⟩:=h;have I':=I.call' (s':=s') (ch:=[]) os un ae ab (λb z=>absurd z (by simp));have ai:X.A.frames=some (X.env::X.outer):=by rw[<-ac];exact I.ok.frames
 have hl:s'.heap.FunFrames X.base (X.env::X.outer):=by rw[<-ac];exact I'.stack
 refine Di ai hl ah t λh1 T1 aj k1 k2 an t1=>?_;refine rV (s:={ s' with heap:=h1 }) t1 λh2 t2 k3 ao=>?_
 have aa:∀b o,s'.heap.get? b=some o->b≠T1:=λb o e z=>by
  have L:=Q01 e;rw[z] at L;exact Q0r _ (Q0d L aj)
 have key:∀L:Heap,j9 L a T1 (.ref C) U .none->(∀b o,b≠T1->h2.get? b=some o->L.get? b=some o)->Inv X pins σ (upd H' a (lW a C U)) { s' with heap:=L }:=λL t3 k4=>by
  have m1:∀b o,b ∉ frs X.stack->b≠a->b≠T->s'.heap.get? b=some o->L.get? b=some o:=λb o Y n1 n2 e=>
   k4 b o (aa b o e) (k3 b o (aa b o e) (k1 b o (by rw[<-ac];exact Y) n1 n2 e))
  have m2:∀b o,b≠a->b≠T->s'.heap.get? b=some o->∃sl,L.get? b=some { o with slots:=sl }:=λb o n1 n2 e=>by
   obtain⟨sl,e1⟩:=k2 b o n1 n2 e;exact⟨sl,k4 b _ (aa b o e) (k3 b _ (aa b o e) e1)⟩
  have J:∀b o,s.heap.get? b=some o->b≠a/\b≠T:=λb o e=>⟨(λz=>by rw[z,la] at e;cases e),λz=>by rw[z,lT] at e;cases e⟩;refine I.call' (s':={ s' with heap:=L }) (ch:=[]) os ⟨λb o e n Y _=>?_,λb o e n Y hx=>?_,λb o e n hx=>?_,λb o e hx=>?_,λb xs e=>?_,λb o u e=>?_,λb ps e=>?_⟩ (λb o e=>?_) ab (λb z=>absurd z (by simp))
  . exact m1 b o Y (J b o e).1 (J b o e).2 (un.keep b o e n Y (by simp))
  . obtain⟨sl,e1⟩:=un.slot b o e n Y hx;obtain⟨af,e2⟩:=m2 b _ (J b o e).1 (J b o e).2 e1;exact⟨af,e2⟩
  . rw[eA (J b o e).1];exact un.free b o e n hx
  . obtain⟨o',e1⟩:=un.there b o e hx;obtain⟨af,e2⟩:=m2 b _ (J b o e).1 (J b o e).2 e1;exact⟨_,e2⟩
  . have:=un.tups b xs e;rw[eA (eM this na)];exact this
  . have:=un.jd b o u e;rw[eA (eM this na)];exact this
  . obtain⟨ag,this⟩:=un.jr b ps e;exact⟨ag,by rw[eA (eM this na)];exact this⟩
  . by_cases Y:b=a
    . subst Y;rw[eI] at e
      cases e;obtain⟨oe,vs,he,hc,ak,al,_⟩:=t3.ex;exact lW.ok ⟨oe,he,hc,ak,vs,al⟩
    . rw[eA Y] at e;refine(ae b o e).stay (λc u hc r=>?_) (λc r=>by rw[eA (eM r na)];exact r) λc xs r=>by rw[eA (eM r na)];exact r
      have am:∃v,H' c=some v:=by
       rcases hc with z|z
       . exact⟨o,by rw[z];exact e⟩
       . exact⟨_,z⟩
      obtain⟨v,hv⟩:=am;refine m1 c u (λz=>?_) (eM hv na) (eM hv nT) r;rw[I'.pz c z] at hv;cases hv
 exact q a C T1 U H' h2 rfl na hE t2 (key h2 t2 λ_ _ _ e=>e) key
def JJ (Ek:XK) (i:Nat) (tb J:TS):TS:=λD σ H=>tb D σ H/\∀(a C:Addr) (z:Option Addr) (H':Hp),H' a=none->Ek (.ref C) z H'->J (D.un i) (σ.set i (some (.ref a))) (upd H' a (lW a C z))
theorem JK {X:Cx}{body:List Stmt}{x n:Str}{Dc:Addr}{Ek:XK}{i:Nat}{U:Stmt}{L:List Stmt}{np ab pos:Pos}{tb ts:TS}(ac:X.stack=X.env::X.outer)(ae:X.env.frame=some X.env.locals)
 (hb:Dk X Ek body tb) (hg:Gl X x) (hm:X.mg x=some (.ref Dc)) (h1:W.typeIn X.K (.ref Dc)=some (.type "type")) (h2:(W.clsIn X.K Dc).isSome=true) (h3:W.subIn X.K (.ref Dc) (.type "BaseException")=some true)
 (h4:∀C dd H,Ek (.ref C) dd H->W.subIn X.K (.ref C) (.ref Dc)=some true) (hN:X.N.Nodup) (hi:X.N[i]? =some n) (J:X.env.kindOf n=some .local) (hs:∀a,je (X.marked a) (U::L) ts) (hd:(x == ("__debug__":Str))=false:=by decide):
 PS X (.Try body [.ExceptHandler (some (.Name x np)) (some n) (U::L) ab] [] [] pos) (JJ Ek i tb ts):=by
 intro pins s σ H D I h;obtain⟨hq,hk⟩:=h;refine wpAny_Try_except (Q0m (hb pins s σ H D I hq) (λf s1 q=>?_) λe s1 z=>?_)
 . cases f with
   |next=>exact wpAny_execs_nil q
   |ret v=>exact q
   |brk=>exact q
   |cont=>exact q
 . refine JI ac ae z λa C T dd H' ag e1 na hE t2 I2 key=>?_;subst e1;have ok:=I2.ok;refine wpAny_handleBy_cons (codeAny_handlers_test ?_) (by intro q;cases q);refine qF (X:=X.marked a) (I2.marked a) hg hm ?_ hd;obtain⟨oe,vs,he,hc,_⟩:=id t2.ex;refine HK I2.gM h1 h2 h3 (h4 C dd H' hE) he hc ?_;simp only[if_true];refine codeAny_handlers_suite_as ?_;refine rV t2 λaf t3 k3 _=>?_;have I3:=key af t3 k3;refine pA I3 hN hi (.inl J) (show RelV (.ref a) (.ref a) from rfl) (λs4 I4=>?_) (.inr J);refine Q0m (hs a pins s4 _ _ (D.un i) (I4.marked a) (hk a C dd H' na hE)) (λf s5 q=>?_) λ_ _ z=>False.elim z;show wpAny _ _ _ _ _ _
   cases f with
   |next=>
    obtain⟨aa,H5,Y,q⟩:=q;exact(Y.unmarked ok).unbind hN hi J λs6 I6=>⟨_,_,I6,q⟩
   |ret v=>
    obtain⟨y,aa,H5,Y,r,q⟩:=q;exact(Y.unmarked ok).unbind hN hi J λs6 I6=>⟨y,_,_,I6,r,q⟩
   |brk=>
    obtain⟨aa,H5,Y,q⟩:=q;exact(Y.unmarked ok).unbind hN hi J λs6 I6=>⟨_,_,I6,q⟩
   |cont=>
    obtain⟨aa,H5,Y,q⟩:=q;exact(Y.unmarked ok).unbind hN hi J λs6 I6=>⟨_,_,I6,q⟩
noncomputable def lX (a C:Addr):HO:=.ext λh=>∃o t,h.get? a=some o/\o.cls=.ref C/\o.dict=none/\o.data=.fields #[t,.none,.none,.none,.bool false,.none]
noncomputable def MadeX (a C dx:Addr):HO:=.ext λh=>∃o t,h.get? a=some o/\o.cls=.ref C/\o.dict=some dx/\o.data=.fields #[t,.none,.none,.none,.bool false,.none]
theorem lX.ok {P:Program}{w:World}{H:Hp}{h:Heap}{a C:Addr}(e:∃o t,h.get? a=some o/\o.cls=.ref C/\o.dict=none/\o.data=.fields #[t,.none,.none,.none,.bool false,.none]):gJ P w H h a (lX a C):=
 ⟨e,let⟨o,t,h1,_⟩:=e;⟨o,h1⟩,λ_ _ ⟨o,t,h1,h2⟩ k=>⟨o,t,k o h1,h2⟩⟩
theorem MadeX.ok {P:Program}{w:World}{H:Hp}{h:Heap}{a C dx:Addr}(e:∃o t,h.get? a=some o/\o.cls=.ref C/\o.dict=some dx/\o.data=.fields #[t,.none,.none,.none,.bool false,.none]):gJ P w H h a (MadeX a C dx):=
 ⟨e,let⟨o,t,h1,_⟩:=e;⟨o,h1⟩,λ_ _ ⟨o,t,h1,h2⟩ k=>⟨o,t,k o h1,h2⟩⟩
noncomputable def rem (H:Hp) (a:Addr):Hp:=λb=>if b=a then none else H b
theorem vc {H:Hp}{a:Addr}:rem H a a=none:=if_pos rfl
theorem lb {H:Hp}{a b:Addr}(h:b≠a):rem H a b=H b:=if_neg h
section
variable {X:Cx}{pins:List (Addr × Obj)}{σ:St}{H:Hp}{s:Shared}
def JL (K:W.Frag) (ta tv:TE) (f:Str):TS:=λD σ H=>tv σ H λy H1=>ta σ H1 λx H2=>∃a C,x=.ref a/\H2 a=some (lX a C)/\mE K C f/\
 ∀dx,H2 dx=none->dx≠a->D.nx σ (upd (upd H2 dx (.xd [(f,y)])) a (MadeX a C dx))
theorem JM {o value:Expr}{ta tv:TE}{f:Str}{pos pos':Pos}(ha:PE X o ta)(hv:PE X value tv)(hs:swapsWith value (some (.Attribute o f pos')) pos.line X.env=pure false):PS X (.Assign [.Attribute o f pos'] value pos) (JL X.K ta tv f):=by
 intro pins s σ H D I h;refine plainObj_wpAny_Assign_Attribute (eU (hv pins s σ H _ I h) λu s1 ⟨y,H1,I1,ry,q⟩=>eU (ha pins s1 σ H1 _ I1 q) λov s2 zq=>?_) hs;obtain⟨x,H2,Y,rx,a,C,ex,L,Z,q2⟩:=zq;subst ex;obtain rfl:ov=Value.ref a:=rx;obtain⟨oe,t,he,hc,ab,aa⟩:=(Y.hok a _ L).1;refine JA Y.gM Z he hc ab aa λh' ac hn hx hk=>?_;have J:H2 s2.heap.objs.size=none:=Y.hok.fresh (Q00 _);have ae:s2.heap.objs.size≠a:=(Q08 (Q01 he)).symm
 have ag:∀b u,H2 b=some u->(∀C',u≠lX a C')->b≠a:=λb u e hu z=>by
  subst z;rw[L] at e;exact hu C (Option.some.inj e).symm
 refine⟨σ,_,Y.call' (s':={ s2 with heap:=h',toks:=ac }) (ch:=[]) rfl ⟨λb U e n hb _=>?_,λb U e n hb _=>?_,λb U e n _=>?_,λb U e _=>?_,λb xs e=>?_,λb U u e=>?_,λb ps e=>?_⟩ (λb u e=>?_) Y.bare (λb z=>absurd z (by simp)),q2 s2.heap.objs.size J ae⟩
 . exact hk b U (eM L n).symm e
 . exact⟨U.slots,hk b U (eM L n).symm e⟩
 . rw[eA (eM L n).symm,eA (Q08 (Q01 e))];exact n
 . by_cases hb:b=a
   . subst hb;exact⟨_,hx⟩
   . exact⟨U,hk b U hb e⟩
 . have h1:b≠a:=λz=>by rw[z,L] at e;cases e
   rw[eA h1,eA (eM e J)];exact e
 . have h1:b≠a:=λz=>by rw[z,L] at e;cases e
   rw[eA h1,eA (eM e J)];exact e
 . have h1:b≠a:=λz=>by rw[z,L] at e;cases e
   exact⟨#[],by rw[eA h1,eA (eM e J),Q28];exact e⟩
 . by_cases h1:b=a
   . subst h1;rw[eI] at e
     cases e;exact MadeX.ok ⟨_,t,hx,hc,rfl,aa⟩
   . rw[eA h1] at e;by_cases h2:b=s2.heap.objs.size
     . subst h2;rw[eI] at e
       cases e;refine⟨_,hn,λg=>?_⟩;by_cases hg:g=f
       . subst hg;rw[if_pos rfl];rw[Q1a,beq_self_eq_true];exact ry
       . rw[if_neg hg];rw[Q1a,beq_false_of_ne hg];trivial
     . rw[eA h2] at e;refine(Y.hok b u e).stay (λc v af r=>hk c v ?_ r) (λc r=>?_) λc xs r=>?_
       . rintro rfl;rcases af with z|z
         . exact h1 z.symm
         . rw[L] at z;cases z
       . have n1:c≠a:=λz=>by rw[z,L] at r;cases r
         rw[eA n1,eA (eM r J)];exact r
       . have n1:c≠a:=λz=>by rw[z,L] at r;cases r
         rw[eA n1,eA (eM r J)];exact r
theorem Inv.JN (I:Inv X pins σ H s){h':Heap}{e C:Addr}{us:List Value}(Y:Heap.MadeExcOf s.heap h' e (.ref C) us):H e=none/\Inv X pins σ (upd H e (lX e C)) { s with heap:=h' }:=by
 obtain⟨t,he,_,_⟩:=Y.there;have U:s.heap.get? e=none:=Y.new
 have na:H e=none:=by
  cases q:H e with
  |none=>rfl
  |some o=>
   obtain⟨o',e'⟩:=(I.hok e o q).ex;rw[U] at e';cases e'
 refine⟨na,I.call' (s':={ s with heap:=h' }) (ch:=[]) rfl ⟨λb L J n hb _=>Y.keeps b L J,λb L J n hb _=>⟨L.slots,Y.keeps b L J⟩,λb L J n _=>?_,λb L J _=>⟨L,Y.keeps b L J⟩,λb xs J=>?_,λb L u J=>?_,λb ps J=>?_⟩ (λb u J=>?_) I.bare (λb z=>absurd z (by simp))⟩
 . rw[eA (λz=>by rw[z,U] at J;cases J)];exact n
 . rw[eA (eM J na)];exact J
 . rw[eA (eM J na)];exact J
 . exact⟨#[],by rw[eA (eM J na),Q28];exact J⟩
 . by_cases hb:b=e
   . subst hb;rw[eI] at J
     cases J;exact lX.ok ⟨_,_,he,rfl,rfl,rfl⟩
   . rw[eA hb] at J;refine(I.hok b u J).stay (λc v _ r=>Y.keeps c v r) (λc r=>?_) λc xs r=>?_
     . rw[eA (eM r na)];exact r
     . rw[eA (eM r na)];exact r
def Dl (X:Cx) (R:Addr->Addr->Hp->Prop):Prop:=∀(pins:List (Addr × Obj)) (σ:St) (H:Hp) (s:Shared) (a C dx:Addr),Inv X pins σ H s->X.s₀.heap.get? a=none->H a=some (MadeX a C dx)->R C dx (rem H a)->X.xe (.ref a) s
def JO (C:Addr) (sp:Sp) (R:Addr->Addr->Hp->Prop) (t:TA):TS:=λ_ σ H=>t σ H λvs H1=>vs.length<=sizeLine/\∀a,H1 a=none->sp (.ref a::vs) (upd H1 a (lX a C)) (λv H2=>v=.non/\∃dx,H2 a=some (MadeX a C dx)/\R C dx (rem H2 a)) E0
theorem JP {x:Str}{C f:Addr}{fd:FuncData}{ps:List Str}{sp:Sp}{k:Nat}{B nid rT:String}{jy:List Value}{e:Expr}{es:List Expr}{p cpos pos:Pos}{t:TA}{R:Addr->Addr->Hp->Prop}(hex:X.ex=[])(Z:mD X.base C f jy nid)(FB:ExcBaseFacts B nid rT jy)(ah:W.keepIn X.K (.ref C)=true)
 (F:eh X.prog X.w X.K X.mg X.base er k f fd ps sp) (hr:gi (k+1) X.A) (ai:X.calm=true) (hg:Gl X x) (hm:X.mg x=some (.ref C)) (hb:Binds X.K fd ps []) (hx:Dl X R)
 (ha:PA X (e::es) t) (aj:(x == ("__debug__":Str))=false:=by decide) (he:starEach (e::es) X.env=(false,eval e X.env)::starEach es X.env:=by rfl) (ak:(backTo cpos (starEach es X.env)).any (·.1)=false:=by rfl):
 PS X (.Raise (some (.Call (.Name x p) (e::es) [] cpos)) none pos) (JO C sp R t):=by
 intro pins s σ H D I h;rw[arm_exec_Raise]
 have key:wpAny (model X.prog X.w) X.A (eval (.Call (.Name x p) (e::es) [] cpos) X.env) (λv s1=>∃(e C:Addr) (oe:Obj) (t:Value) (r:Array Value),v=.ref e/\s1.heap.get? e=some oe/\oe.cls=.ref C/\oe.data=.fields #[t,.none,.none,.none,.bool false,.none]/\
  (∃tl N nm q bs L sn sub ab Y dd k0 k1 k2 k3 k5 nid,s1.heap.get? C=some (excClassObj nm q C N bs tl L sn sub ab Y dd k0 k1 k2 k3 k5 nid)/\tl.contains (.type "BaseException")=true)/\X.xe (.ref e) s1) X.xe s:=by
  refine wpAny_Call_Name_kw (qF I hg hm ?_ aj);refine W.callWith_K (h₀:=X.base) I.ok.mod.mR ah (eU (ha cpos pins s σ H _ I h) λus s1 ⟨vs,H1,I1,r,hl,q⟩=>⟨I1.gM,?_⟩) he ak;obtain⟨hp,g,d,tk,os⟩:=s1;refine Jx FB (Z.keeps I1.bk) (λh' U aa=>?_) (by show us.length<=sizeLine;rw[<-r.length];exact hl);have l0:X.s₀.heap.get? U=none:=I1.oE hex aa.new;obtain⟨na,I2⟩:=I1.JN aa;have hq:=q U na;have r2:Vals (V.ref U::vs) (Value.ref U::us):=.cons rfl r
  have af:(Value.ref U::us++[]).length=ps.length:=by
   rw[Q0y,<-r2.length];exact F.len _ _ _ _ hq
  have ac:=hb _ (Value.ref U::us) I2.gM af;rw[Q0y] at ac;refine wpAny_call (codeAny_mono (F.run _ X.stack _ _ ⟨Value.ref U::us,[]⟩ (Value.ref U::us) _ _ E0 (hr.make C us []) (I2.env0.make C us []) ac r2 hq) λr' s' J=>?_)
  cases r' with
  |error e=>exact False.elim J
  |ok fl=>
   cases fl with
   |ret u=>
    obtain⟨v,H',I3,rv,ev,dx,ae,hR⟩:=I2.after J;subst ev;obtain⟨oe,t',al,am,an,ag⟩:=(I3.hok _ _ ae).1;obtain⟨tl,N,nm,q,bs,L,sn,sub,ab,Y,dd,k0,k1,k2,k3,k5,mN,oI,z1,z2,z3,z4,z5,z6⟩:=Z.keeps I3.bk;exact⟨rv,⟨U,C,oe,t',#[],rfl,al,am,ag,⟨tl,N,nm,q,bs,L,sn,sub,ab,Y,dd,k0,k1,k2,k3,k5,nid,z1,z4.hasType FB.hasBase⟩,hx pins σ H' s' U C dx I3 l0 ae hR⟩⟩
   |next=>exact False.elim J
   |brk=>exact False.elim J
   |cont=>exact False.elim J
 exact Q0 (wpAny_standAt (Jy (I.ok.hd ai) (Q0 (Q0m key (λv s1 q=>Q0 (wpAny_standAt (Q0a q))) λ_ _ z=>z))))
theorem Inv.JQ (I:Inv X pins σ H s)(hex:X.ex=[]){a:Addr}{φ:Heap->Prop}(U:X.s₀.heap.get? a=none)(J:H a=some (.ext φ)):Un (frs X.outer) [] X.H₀ (rem H a) X.s₀.heap s.heap/\gD X.prog X.w (rem H a) s.heap:=by
 have B:=I.base;rw[hex] at B;refine⟨⟨B.keep,B.slot,λb o e n Y=>?_,B.there,λb xs e=>?_,λb o u e=>?_,λb ps e=>?_⟩,λb u e=>?_⟩
 . rw[lb (λz=>by rw[z,U] at e;cases e)];exact B.free b o e n Y
 . have:=B.tups b xs e;rw[lb (λz=>by rw[z,J] at this;cases this)];exact this
 . have:=B.jd b o u e;rw[lb (λz=>by rw[z,J] at this;cases this)];exact this
 . obtain⟨L,this⟩:=B.jr b ps e;exact⟨L,by rw[lb (λz=>by rw[z,J] at this;cases this)];exact this⟩
 . have nb:b≠a:=λz=>by rw[z,vc] at e;cases e
   rw[lb nb] at e;refine(I.hok b u e).stay (λc v _ r=>r) (λc r=>?_) λc xs r=>?_
   . rw[lb (λz=>by rw[z,J] at r;cases r)];exact r
   . rw[lb (λz=>by rw[z,J] at r;cases r)];exact r
end
theorem vd {H:Hp}{a b:Addr}(h:H b=none):rem H a b=none:=by
 unfold rem;split
 . rfl
 . exact h
theorem Inv.rem {X:Cx}{pins:List (Addr × Obj)}{σ:St}{H:Hp}{s:Shared}(I:Inv X pins σ H s)(hex:X.ex=[]){a:Addr}{Y:Heap->Prop}(J:X.s₀.heap.get? a=none)(L:H a=some (.ext Y)):Inv X pins σ (L2.rem H a) s:=by
 obtain⟨un,z⟩:=I.JQ hex J L;refine⟨I.ok,I.os,I.bare,by rw[hex];exact un,I.loc,I.cell,vd I.free,λx c e=>vd (I.i7 x c e),λp hp=>?_,z,I.len⟩;obtain⟨h1,h2,U⟩:=I.pin p hp;exact⟨h1,vd h2,U⟩
theorem JR {P:Program}{w:World}{K:W.Frag}{mg:Str->Option Value}{base:Heap}{N:List Str}{qual:Str}{scope:Scope}{f:Addr}{cd:Value}{A:Around}{outer:List Env}{s₀:Shared}{H₀:Hp}{E:XK}:
 Dl (eY (i4 P w) P w K mg base N qual scope f cd A outer s₀ H₀ E) (λC dx H=>E (.ref C) (some dx) H):=λpins σ H s a C dx I L z hE=>by
 obtain⟨oe,t,he,hc,Y,aa⟩:=(I.hok a _ z).1;have U:=I.rem rfl L z;show wpAny (model P w) _ (leaving _ _) _ _ _;refine U.JG rfl rfl rfl he hc Y aa rfl L vc λh2 T' t' ab ac ae J=>?_;exact⟨a,T',C,some dx,_,rfl,t',L,ab,vc,ac,U.os,U.bare,ae,J,hE⟩
section
variable {X:Cx}
def Dp (K:W.Frag) (ta:TE) (f:Str):TE:=λσ H Q=>ta σ H λx H1=>∃a C dx fs v,x=.ref a/\H1 a=some (lW a C (some dx))/\H1 dx=some (.xd fs)/\oF K C/\mE K C f/\fs.lookup f=some v/\Q v H1
theorem JS {e:Expr}{ta:TE}{f:Str}{pos:Pos}(he:PE X e ta)(hb:attributeBase e f X.env (eval e X.env)=eval e X.env):PE X (.Attribute e f pos) (Dp X.K ta f):=by
 intro pins s σ H Q I h;refine AM hb (eU (he pins s σ H _ I h) λu s1 zq=>?_);obtain⟨x,H1,z,rx,a,C,dx,fs,v,ex,ea,ed,Z,Y,l,q⟩:=zq;subst ex;obtain rfl:u=Value.ref a:=rx;obtain⟨o,ho,hc,J,vs,L⟩:=(z.hok a _ ea).1;obtain⟨mA,hn,hr⟩:=z.hok dx _ ed;obtain⟨u',hu,U⟩:=i2.some_of (v:=v) (o:=mA f) (by rw[<-l];exact hr f);obtain⟨hp,g,d,tk,os⟩:=s1;exact JD z.gM Z Y ho hc L J hn.ns hu (W.handedOut_of (AK U)) ⟨v,H1,z.tok _,U,q⟩
end
section
variable {X:Cx}{k:Nat}{f C:Addr}{fd:FuncData}{ps:List Str}{sp:Sp}{Ek:XK}{m:Str}{p pos apos:Pos}{e o:Expr}{es:List Expr}{t:TA}{te ta:TE}
theorem JT {pins:List (Addr × Obj)}{σ:St}{H:Hp}{s:Shared}{Q:VK}{us:List Value}{vs:List V}(F:eh X.prog X.w X.K X.mg X.base (i4 X.prog X.w) k f fd ps sp)(L:gi k X.A)(U:Binds X.K fd ps [])
 (I:Inv X pins σ H s) (r:Vals vs us) (h:sp vs H Q Ek):wpAny (model X.prog X.w) X.A (call (.ref f) us) (EP X pins σ Q) (qm X pins σ Ek) s:=by
 have hl:(us++[]).length=ps.length:=by rw[Q0y,<-r.length];exact F.len _ _ _ _ h
 have J:=U s us I.gM hl;rw[Q0y] at J;refine wpAny_call (codeAny_mono (F.run X.A X.stack s H ⟨us,[]⟩ us vs Q Ek L I.env0 J r h) λY s' z=>?_)
 cases Y with
 |error e=>exact⟨H,s,I,z⟩
 |ok fl=>
  cases fl with
  |ret u=>exact I.after z
  |next=>exact False.elim z
  |brk=>exact False.elim z
  |cont=>exact False.elim z
theorem JU (J:PE X.e_ e te):qo X Ek e te:=λpins s σ H Q I h=>
 Q0m (J pins s σ H Q (I.wish _) h) (λ_ _ ⟨v,H',L,r,q⟩=>⟨v,H',L.jX,r,q⟩) λ_ _ z=>False.elim z
def PAD (X:Cx) (Ek:XK) (es:List Expr) (t:TA):Prop:=
 ∀(pos:Pos) (pins:List (Addr × Obj)) (s:Shared) (σ:St) (H:Hp) (Q:List V->Hp->Prop),Inv X pins σ H s->t σ H Q->wpAny (model X.prog X.w) X.A (spliced (backTo pos (starEach es X.env))) (AP X pins σ Q) (qm X pins σ Ek) s
theorem JV:PAD X Ek [] jh:=λ_ _ _ _ H Q I h=>Calls.spliced_nil ⟨[],H,I,.nil,h⟩
theorem Dq (z:qo X Ek e te)(J:PAD X Ek es t)(L:starEach (e::es) X.env=(false,eval e X.env)::starEach es X.env:=by rfl):PAD X Ek (e::es) (gR te t):=by
 intro pos pins s σ H Q I h;rw[L];show wpAny _ _ (spliced ((false,eval e X.env)::backTo pos (starEach es X.env))) _ _ s;refine Calls.spliced_cons (eU (z pins s σ H _ I h) λu U zq=>?_);obtain⟨x,H1,Y,r1,q1⟩:=zq;exact eU (J pos pins U σ H1 _ Y q1) λus s2 ⟨xs,H2,I2,r2,q2⟩=>⟨x::xs,H2,I2,.cons r1 r2,q2⟩
theorem JW {U:Nat}(h:PAD X Ek es t):qo X Ek (.Tuple es U pos) (pG t):=by
 intro pins s σ H Q I Y;refine wpAny_Tuple_spliced (eU (h pos pins s σ H _ I Y) λus J ⟨xs,H1,L,r,z,q⟩=>⟨by rw[<-r.length];exact z,?_⟩);have hf:H1 J.heap.objs.size=none:=L.hok.fresh (Q00 _);exact⟨.ref J.heap.objs.size,upd H1 J.heap.objs.size (.tup xs),L.laid (t':=J.toks) (λb u e=>Q07 _ e) (Q00 _) ⟨z,us,r,⟨_,Q0n _ rfl,rfl,_,rfl⟩⟩,rfl,q _ hf⟩
theorem JX {pl:Sem Bool}(he:PE X.e_ o ta)(c:Cls X.K C)(Y:Meth X.K C m f)(F:eh X.prog X.w X.K X.mg X.base (i4 X.prog X.w) k f fd ps sp)(hr:gi k X.A)(hb:Binds X.K fd ps [])(ha:PA X.e_ (e::es) t)
 (L:starEach (e::es) X.env=(false,eval e X.env)::starEach es X.env:=by rfl) (U:(backTo pos (starEach es X.env)).any (·.1)=false:=by rfl)
 (ht:eval (.Call (.Attribute o m apos) (e::es) [] pos) X.env=(do
   let ov <-eval o X.env
   standAt apos.atName
   let(f,first) <-holding [ov] (getMethod ov m pl)
   callWith pos f first (backTo pos (starEach (e::es) X.env)) (backToKw pos (keywordEach [] X.env))):=by rfl):
 qo X Ek (.Call (.Attribute o m apos) (e::es) [] pos) (tM C m sp [] Ek ta t):=by
 intro pins s σ H Q I h;refine W.methodCall_KW (pl:=pl) (Q0m (he pins s σ H _ (I.wish _) h) (λu s1 zq=>?_) λ_ _ z=>False.elim z) ht;obtain⟨x,H1,J,rx,a,dx,fs,ex,ea,l,q⟩:=zq;subst ex;obtain rfl:u=Value.ref a:=rx;have J:=J.jX;refine tK J ea c Y l ?_;refine W.callWith_K (first:=[.ref a]) (h₀:=X.base) I.ok.mod.mR Y.kp (Q0m (ha pos pins s1 σ H1 _ (J.wish _) q) (λus s2 ⟨vs,H2,I2,r,q2⟩=>⟨I2.jX.gM,?_⟩) λ_ _ z=>False.elim z) L U;exact JT (us:=.ref a::us) (vs:=.ref a::(vs++[])) F hr hb I2.jX (.cons rfl (by rw[Q0y];exact r)) q2
end
noncomputable def hk (l:List Key) (q:Key):Bool:=l.any λx=>decide (x=q)
noncomputable def stepK (l:List Key) (k:Key):List Key:=if hk l k=true then l else l++[k]
theorem Dr {prog:Program}{w:World}{h:Heap}{a:Addr}{S z:Key->Bool}{n J:Nat}(L:h.SetOf (gL prog w) a S n)(e:∀k,S k=z k)(U:n=J):h.SetOf (gL prog w) a z J:=by
 obtain rfl:S=z:=funext e;subst U;exact L
noncomputable def iL (v:Nat->Key):Nat->List Key
 |0=>[]
 |i+1=>stepK (iL v i) (v i)
theorem Dt (v:Nat->Key):∀i,(iL v i).length<=i
 |0=>Q00 _
 |i+1=>by
  have:=Dt v i;show(stepK (iL v i) (v i)).length<=i+1;unfold stepK;split
  . omega
  . rw[Q0c];exact Nat.succ_le_succ this
theorem JY (l m:List Key)(q:Key):hk (l++m) q=(hk l q || hk m q):=List.any_append
theorem JZ (l:List Key)(k q:Key):hk (stepK l k) q=(hk l q || decide (q=k)):=by
 unfold stepK;split
 . rename_i h;by_cases e:q=k
   . subst e;rw[h];rfl
   . rw[decide_eq_false e,Bool.or_false]
 . rw[JY]
   have:hk [k] q=decide (q=k):=by
    show(decide (k=q) || false)=_;rw[Bool.or_false];by_cases e:q=k
    . subst e;rfl
    . rw[decide_eq_false e,decide_eq_false λz=>e z.symm]
   rw[this]
theorem J0 (l:List Key)(k:Key):(stepK l k).length=if hk l k=true then l.length else l.length+1:=by
 unfold stepK;split
 . rfl
 . rw[Q0c];rfl
theorem J1 {l:List Key}{q:Key}:hk l q=true↔q∈l:=by
 unfold hk;rw[List.any_eq_true];constructor
 . rintro⟨x,h1,h2⟩;rw[<-of_decide_eq_true h2];exact h1
 . intro h;exact⟨q,h,decide_eq_true rfl⟩
theorem Du {v:Nat->Key}:∀{i:Nat},((List.range i).map v).Nodup->iL v i=(List.range i).map v
 |0,_=>rfl
 |i+1,h=>by
  rw[Q3e,Q0h] at h ⊢;obtain⟨h1,h2,J⟩:=List.nodup_append.mp h;show stepK (iL v i) (v i)=_;rw[Du h1];unfold stepK;rw[if_neg]
  . rfl
  . intro z;exact J _ (J1.mp z) (v i) (List.mem_singleton.mpr rfl) rfl
section
variable {prog:Program}{w:World}{A:Around}{R:Result->Shared->Prop}{I:Addr}{fp wr:List Addr}{G:Array GenState->Array GenState->Prop}{n:Nat}{Pp:Nat->Value->Prop}{St':Nat->Shared->Prop}
theorem J3 (W:WalksS prog w A.in1 I fp wr G n Pp St')(S:Addr)(sf:S ∉ fp)(v:Nat->Key)(hv:∀i u,Pp i u->(gL prog w).is (v i) u=true/\u.scannable=true)(bd:n+1<scanBound):
 ∀(k i:Nat) (s:Shared),n - i=k->i<=n->St' i s->s.heap.SetOf (gL prog w) S (λq=>hk (iL v i) q) (iL v i).length->
  (∀s',Moved (S::wr) G s s'->s'.heap.SetOf (gL prog w) S (λq=>hk (iL v n) q) (iL v n).length->R (.ok (.ret .none)) s')->
  codeAny (model prog w) A (.builtin "set.update.loop" ⟨[.ref S,.ref I],[]⟩) R s:=by
 have sw:S ∉ wr:=λz=>sf (W.sub _ z);have up:∀b∈wr,b∈S::wr:=λb z=>Q0e _ z;intro k
 induction k with
 |zero=>
  intro i s e1 e2 st Y fin;obtain rfl:i=n:=by omega
  refine codeAny_builtin PyProof.Rows.F.entry_set_update_loop ?_;rw[Around.under_plainId PyProof.Rows.F.plain_set_update_loop _];show wpAny _ A.in1 (pyNext (.ref I) >>= _) _ _ s;refine Q0 (W.done s _ _ st λs' L=>?_);show wpAny _ A.in1 (ret Value.none) _ _ s';obtain⟨o,es,ep,t,ho,J⟩:=Y;exact Q0a (fin s' (L.mono up) ⟨o,es,ep,t,L.heap S _ sw ho,J⟩)
 |succ k ih=>
  intro i s e1 e2 st Y fin;have lt:i<n:=by omega
  refine codeAny_builtin PyProof.Rows.F.entry_set_update_loop ?_;rw[Around.under_plainId PyProof.Rows.F.plain_set_update_loop _];show wpAny _ A.in1 (pyNext (.ref I) >>= _) _ _ s;refine Q0 (W.item i s _ _ lt st λu s' hP aa L=>?_);obtain⟨is,sc⟩:=hv i u hP
  have ab:s'.heap.SetOf (gL prog w) S (λq=>hk (iL v i) q) (iL v i).length:=by
   obtain⟨o,es,ep,tb,ho,J⟩:=Y;exact⟨o,es,ep,tb,L.heap S _ sw ho,J⟩
  show wpAny _ A.in1 (holding [u] (setAdd S u) >>= _) _ _ s';refine Q0 (wpAny_holding ?_);unfold setAdd;refine wpAny_holding (Q0 ((gL prog w).pyHash (k:=v i) is ?_));have U:(iL v i).length+1<scanBound:=by have:=Dt v i;omega
  refine wpAny_setAddHashed_of (knd:=gL prog w) (s:={ s' with toks:=s'.toks+1 }) is sc ab U λh' sb ac=>?_
  have ae:h'.SetOf (gL prog w) S (λq=>hk (iL v (i+1)) q) (iL v (i+1)).length:=
   Dr ac (λq=>(JZ _ _ _).symm) (J0 _ _).symm
  refine Q0a ⟨plainId_quiet PyProof.Rows.F.plain_set_update_loop _,ih (i+1) _ (by omega) lt (W.frame _ s' _ _ aa (Q14 _) λb hb o e=>?_) ae λaf ag ah=>?_⟩
  . rw[sb.2 b (λz:b=S=>sf (by rw[<-z];exact hb))];exact e
  . refine fin af (Moved.trans W.gtrans ((L.mono up).then_heap (Q14 _) λb o hb e=>?_) ag) ah;rw[sb.2 b (λz:b=S=>hb (by rw[z];exact Q04))];exact e
end
theorem J4:LawfulBEq Key where
 eq_of_beq:=by
  intro a b h
  cases a <;> cases b
  . exact congrArg Sum.inl (eq_of_beq (α:=Int) h)
  . cases h
  . cases h
  . exact congrArg Sum.inr (eq_of_beq (α:=Str) h)
 rfl:=by
  intro a
  cases a
  . exact BEq.rfl (α:=Int)
  . exact BEq.rfl (α:=Str)
theorem J5 {prog:Program}{w:World}{A:Around}{E:Value->Shared->Prop}{s:Shared}{l:Addr}{z:Array Value}{v:Nat->Key}{Q:Value->Shared->Prop}(ah:A.handled=none)(il:s.heap.IsList l z)
 (hv:∀(i:Nat) (u:Value),z[i]? =some u->(gL prog w).is (v i) u=true/\u.scannable=true) (bd:z.size+1<scanBound)
 (q:∀(h':Heap) (tk:Nat),h'.SetOf (gL prog w) s.heap.objs.size (λk=>hk (iL v z.size) k) (iL v z.size).length->(∀b o,b<s.heap.objs.size->s.heap.get? b=some o->h'.get? b=some o)->Q (.ref s.heap.objs.size) { s with heap:=h',toks:=tk }):
 wpAny (model prog w) A (call (.type "set") [.ref l]) Q E s:=by
 obtain⟨c,tl,an⟩:=PySem.F.called_set.mro;have made:=PySem.F.called_set.made;have sub:=PySem.F.called_set.sub;refine wpAny_call (codeAny_of_tree ?_);show wpAny _ _ (callAny (.type "set") _) _ _ _;refine Q0a ⟨Code.quiet_builtin _ (by decide +kernel),codeAny_builtin PySem.F.entry_type_call ?_⟩;rw[Around.under_plain (weight_type_call_type "set" [.ref l] []) rfl];have n1:=PySem.F.called_set.notType;have n2:=PySem.F.called_set.canCreate;have ct:=PySem.F.typeCall_set_1 (.ref l)
 repeat (any_goals (first|assumption|wp_step))
 refine codeAny_mono (code_set_new_1 (.ref l) (E:=E) (Q₁:=λob s1=>∃ld:Bool,ob=.ref s.heap.objs.size/\s1={ s with heap:=s.heap.push { cls:=.type "set",dict:=none,data:=.set #[] 0 (.fresh 0 0 ld) } }) λld=>⟨ld,rfl,rfl⟩) λr s1 hr=>?_
 cases r with
 |error e=>exact hr
 |ok fl=>
  cases fl with
  |ret ob=>
   obtain⟨ld,rfl,rfl⟩:=hr;have gS:(s.heap.push { cls:=.type "set",dict:=none,data:=.set #[] 0 (.fresh 0 0 ld) }).get? s.heap.objs.size=some { cls:=.type "set",dict:=none,data:=.set #[] 0 (.fresh 0 0 ld) }:=Q0n _ rfl;have ty:Shared.TypeIs { s with heap:=s.heap.push { cls:=.type "set",dict:=none,data:=.set #[] 0 (.fresh 0 0 ld) } } (.ref s.heap.objs.size) "set":=⟨_,gS,rfl⟩;have li:=PySem.F.called_set.init.lookup;have bi:=PySem.F.called_set.init.bind (.ref s.heap.objs.size)
   repeat (any_goals (first|assumption|wp_step))
   refine codeAny_mono (codeAny_call_builtin (R:=wants (λr s2=>r=.none/\∃h' tk,s2={ s with heap:=h',toks:=tk }/\h'.SetOf (gL prog w) s.heap.objs.size (λk=>hk (iL v z.size) k) (iL v z.size).length/\
    (∀b o,b<s.heap.objs.size->s.heap.get? b=some o->h'.get? b=some o)) E) PySem.F.called_set.init.plain PySem.F.entry_set_init (check_set_init_1 ty ?_)) λr2 s2 J=>?_
   . obtain⟨ol,U,L,nl,dl⟩:=il;obtain⟨oc,od,ac,ae⟩:=ol;have L:oc=.type "list":=L;have dl:ac=.seq z nl:=dl;subst L;subst dl;have ab:(s.heap.push { cls:=.type "set",dict:=none,data:=.set #[] 0 (.fresh 0 0 ld) }).get? l=some { cls:=.type "list",dict:=od,data:=.seq z nl,slots:=ae }:=Q07 _ U;have ao:=PySem.F.sub_list_set;have ap:=PySem.F.sub_list_frozenset;have nd:(Value.type "list" == Value.type "dict")=false:=by decide
     have Y:(s.heap.push { cls:=.type "set",dict:=none,data:=.set #[] 0 (.fresh 0 0 ld) }).IsList l z:=⟨_,ab,rfl,nl,rfl⟩;unfold Builtin.«set.__init__» noKeywords Builtin.Frozenset.updateFrom;generalize af:pyIter=PI
     wp_walk
     subst af;refine wpAny_pyIter_list Y ?_;refine Q0 (wpAny_runValue ?_);have aa:l<s.heap.objs.size:=Q01 U;have ag:A.in1.in1.in1.handled=none:=by simp[ah]
     have ai:l≠(s.heap.push { cls:=.type "set",dict:=none,data:=.set #[] 0 (.fresh 0 0 ld) }).objs.size:=by rw[Q17];exact Q08 (Q2k aa)
     have aj:s.heap.objs.size ∉ [(s.heap.push { cls:=.type "set",dict:=none,data:=.set #[] 0 (.fresh 0 0 ld) }).objs.size,l]:=by
      rw[Q17];simp only[Q12,Q1e,Q26,or_false,not_or];exact⟨Q08 (Q10 _),Q0x aa⟩
     refine J3 ((Walks.list ag _ l ai z).toS) s.heap.objs.size aj v hv bd (z.size - 0) 0 _ (by omega) (Q0b _) ⟨⟨_,Q0n _ rfl,rfl,rfl⟩,(Y.push _)⟩ ?sA ?sB
     case sA=>
      have g2:((s.heap.push { cls:=.type "set",dict:=none,data:=.set #[] 0 (.fresh 0 0 ld) }).push { cls:=.type "list_iterator",data:=.fields #[.ref l,.int 0 0] }).get? s.heap.objs.size=some { cls:=.type "set",dict:=none,data:=.set #[] 0 (.fresh 0 0 ld) }:=Q07 _ gS;haveI:=J4;refine Dr (Obj.SetObjOf.setOf (knd:=gL prog w) (setObjOf_fresh ld) g2 (by unfold scanBound;omega)) (λ_=>rfl) rfl
     case sB=>
      intro s' mv so;obtain⟨h',g',d',ak,al⟩:=s';have eg:g'=s.gens:=mv.gens;have ed:d'=s.drawn:=mv.drawn;have eo:al=s.os:=mv.os;subst eg;subst ed;subst eo;show wpAny _ _ _ _ _ _;refine Q0a ?_;show wpAny _ _ (ret Value.none) _ _ _;refine Q0a ⟨rfl,h',ak,rfl,so,λb o hb e=>?_⟩;have b1:b≠s.heap.objs.size:=Q08 hb;have b2:b≠(s.heap.push { cls:=.type "set",dict:=none,data:=.set #[] 0 (.fresh 0 0 ld) }).objs.size:=by rw[Q17];exact Q08 (Q2k hb)
      exact mv.heap b o (by simp only[Q12,Q1e,Q26,or_false,not_or];exact⟨b1,b2⟩) (Q07 _ (Q07 _ e))
   . cases r2 with
     |error e=>exact J
     |ok am=>
      cases am with
      |ret r=>
       obtain⟨rfl,h',tk,rfl,so,kp⟩:=J
       repeat (any_goals (first|assumption|wp_step))
       exact q _ _ so kp
      |_=>exact J.elim
  |_=>exact hr.elim
noncomputable def qp (P:Program) (w:World) (a:Addr) (n:Nat):HO:=.ext λh=>∃S,h.SetOf (gL P w) a S n
section
variable {X:Cx}
theorem J6 (hc:X.calm=true):jB X (.type "set") (λxs H Q=>∃(a:Addr) (ss:List Str),xs=[.ref a]/\eF X.K H a (ss.map V.str)/\ss.length<=60/\∀p,H p=none->Q (.ref p) (upd H p (qp X.prog X.w p (iL (λi=>Sum.inr (ss.getD i "")) ss.length).length))):=by
 intro pins s σ H xs us Q I r h;obtain⟨a,ss,rfl,hq,ac,q⟩:=h;obtain⟨u,rfl,ru⟩:=vals1 r
 cases ru;obtain⟨z,rv,pl,hz⟩:=I.list hq;have hl:z.length=ss.length:=by rw[<-rv.length,Q02]
 have hsz:z.toArray.size=ss.length:=by rw[Q09];exact hl
 refine J5 (v:=λi=>Sum.inr (ss.getD i "")) (I.ok.hd hc) pl.isList (λi u hu=>?_) (by rw[hsz];unfold scanBound;omega) λh' tk so kp=>?_
 . have hi:i<ss.length:=by
    have:=(Array.getElem?_eq_some_iff.mp hu).1;rw[hsz] at this;exact this
   have h1:(ss.map V.str)[i]? =some (V.str (ss.getD i "")):=by
    rw[Q0g,Q0f,Q03 hi];rfl
   obtain⟨u',e1,t,e2⟩:=rv.get h1
   have:u=u':=by
    have L:z.toArray[i]? =some u:=hu;rw[List.getElem?_toArray,e1] at L;exact(Option.some.inj L).symm
   subst this;subst e2;exact⟨Ap _ t,rfl⟩
 . rw[hsz] at so;obtain⟨o,es,ep,t,ho,U⟩:=so;refine⟨.ref s.heap.objs.size,_,I.laid (h':=h') (t':=tk) (λb u e=>kp b u (Q01 e) e) (Q00 _) ?_,rfl,q _ (I.hok.fresh (Q00 _))⟩;exact⟨⟨_,o,es,ep,t,ho,U⟩,⟨o,ho⟩,λh1 h2 ⟨S,o',Y,aa,t',ab,J⟩ k=>⟨S,o',Y,aa,t',k _ ab,J⟩⟩
theorem J7:jB X (.builtin "len") (λxs H Q=>∃a n,xs=[.ref a]/\H a=some (qp X.prog X.w a n)/\Q (.int n) H):=by
 intro pins s σ H xs us Q I r h;obtain⟨a,n,rfl,J,q⟩:=h;obtain⟨u,rfl,L⟩:=vals1 r
 cases L;obtain⟨S,o,es,ep,t,U,hex,Y,aa,z,hb,hf,hn⟩:=(I.hok a _ J).1;refine call_len_set U hex Y hf (by unfold scanBound at hb;omega) ⟨.int n,H,I.tok _,⟨_,by rw[hn]⟩,q⟩
end
section
variable {prog:Program}{w:World}{A:Around}{E:Value->Shared->Prop}{s:Shared}
end
section
variable {X:Cx}
end
end L2
namespace Pb
open L2
end Pb
namespace L2
open Spec PyProof.Rows
section
variable {X:Cx}
theorem rW:jB X (.type "dict") (λxs H Q=>∃a kvs,xs=[.ref a]/\H a=some (.dK kvs)/\∀l,H l=none->Q (.ref l) (upd H l (.dK kvs))):=by
 intro pins s σ H xs us Q I r h;obtain⟨a,kvs,rfl,L,q⟩:=h;obtain⟨u,rfl,U⟩:=vals1 r
 cases U;obtain⟨z,Y,vs,J,dd⟩:=pM I.hok L;refine kt_call_dict Y dd (by rw[<-J.length];exact z) λh' hd hs=>?_;have hb:(s.heap.objs.size == sysModules)=false:=beq_eq_false_iff_ne.mpr (Q0x I.big);refine⟨.ref s.heap.objs.size,_,I.laid (a:=s.heap.objs.size) (o:=.dK kvs) (t':=s.toks) (λb o e=>?_) (Q00 _) ⟨z,hb,vs,J,hd⟩,rfl,q _ (I.hok.fresh (Q00 _))⟩;exact hs.extBut b o (Q08 (Q01 e)) (Q07 _ e)
end
noncomputable def jJ (kvs z:List (Key × V)):List (Key × V):=z.foldl (λJ L=>putK J L.1 L.2) kvs
theorem KV.puts:∀{z:List (Key × V)}{J:List (Key × Value)},KV z J->∀{kvs:List (Key × V)}{vs:List (Key × Value)},KV kvs vs->KV (jJ kvs z) (merged vs J)
 |_,_,.nil,_,_,r=>r
 |_,_,.cons (a:=p) (b:=q) h t,kvs,vs,r=>by
  obtain⟨h1,h2⟩:=h;have:=KV.puts t (r.put p.1 h2);unfold jJ merged at this ⊢;rw[Q23,Q23,<-h1];exact this
theorem J8 (kvs:List (Key × V))(k:Key)(v:V):(putK kvs k v).length<=kvs.length+1:=by
 unfold putK;split
 . rw[Q02];omega
 . rw[Q0c];exact Q00 _
theorem Dv:∀(z kvs:List (Key × V)),(jJ kvs z).length<=kvs.length+z.length
 |[],kvs=>Q00 _
 |p::r,kvs=>by
  have:=Dv r (putK kvs p.1 p.2);have h2:=J8 kvs p.1 p.2;have e:jJ kvs (p::r)=jJ (putK kvs p.1 p.2) r:=rfl;rw[e,Q0j];omega
section
variable {X:Cx}
def J9:V->List V->Hp->VK->Prop:=λx vs H Q=>∃a b kvs z,x=.ref a/\vs=[.ref b]/\a≠b/\H a=some (.dK kvs)/\H b=some (.dK z)/\kvs.length+z.length<=sizeLine/\Q .non (upd H a (.dK (jJ kvs z)))
theorem J_:qS X "dict.update" J9:=by
 intro pins s σ H x vs v us Q I rx rv h;obtain⟨a,b,kvs,Y,rfl,rfl,ne,hA,hB,hz,q⟩:=h;obtain⟨u,rfl,ru⟩:=vals1 rv
 cases rx
 cases ru;obtain⟨z,hd,wa,L,dd⟩:=pM I.hok hA;obtain⟨z2,aa,wb,J,ab⟩:=pM I.hok hB;refine call_meetsIn PySem.F.slot_dict_update dd.typeIs PySem.F.entry_dict_update (PySem.F.args_dict_update_2 _ _) (meets_dict_update (gL X.prog X.w) a b ne aa) ⟨wa,wb,dd,ab,by rw[<-L.length,<-J.length];exact hz,λh' U _ hs=>?_⟩;have he:∃q,h'.get? a=some q:=let⟨q,_,_,hq,_⟩:=U;⟨q,hq⟩
 exact⟨.non,_,qU (t':=s.toks) I (by rw[hA];exact True.intro) hs he (tY (Q05 (Dv Y kvs) hz) hd (J.puts L) U),rfl,q⟩
end
end L2
namespace Pb
open L2 PyProof.Rows
noncomputable def Kb (st:Stmt):Pos:=match iA st with
 | .Assign _ (.Call _ [.Call _ _ [⟨_,.Lambda _ _ _ z,_⟩] _] _ _) _::_=>z
 |_=>⟨0,0,0,0⟩
noncomputable abbrev gE:Pos:=Kb (top 7)
noncomputable abbrev gF:Str:=("sorted_fields":Str)++".<locals>."++"<lambda>"
abbrev fV (Pt:Addr) (H H':Hp):Prop:=Kp (λc=>c=Pt) H H'
theorem fV.tu {Pt:Addr}{H H':Hp}{J:Pos}{L:Str}(x:fV Pt H H')(hT:eV Pt J L H):Tu H H':=λc xs h=>by
 obtain⟨ps,U⟩:=hT.tab;exact x c _ (iB h U (by intro z;cases z)) h
def Dw (K:W.Frag) (Pt:Addr):Sp:=λvs H Q E=>∃l z J,vs=[.ref l]/\eF K H l (fT z)/\jk H z/\z.length<=13/\eV Pt gE gF H/\J.Perm z/\(nms J).Nodup/\(nms J).Pairwise sle/\
 (∀t H',fV Pt H H'->eV Pt gE gF H'->H' t=some (.tup (fT J))->Q (.ref t) H')
def rX (K:W.Frag) (Pt:Addr):Sp:=λvs H Q E=>∃l z J,vs=[.ref l]/\eF K H l (fT z)/\jk H z/\z.length<=13/\eV Pt gE gF H/\J.Perm z/\(nms J).Nodup/\(nms J).Pairwise sle/\
 (∀r t H',fV Pt H H'->eV Pt gE gF H'->H' t=some (.tup (fT J))->H' r=some (.tup [.str "record",.ref t])->Q (.ref r) H')
theorem Dx {z:List Qd}{i:Nat}{v:V}(h:(fT z)[i]? =some v):∃q,z[i]? =some q/\q.1=v:=by
 have h:(z.map (·.1))[i]? =some v:=h;rw[Q0g] at h
 cases e:z[i]? with
 |none=>rw[e] at h;cases h
 |some q=>rw[e] at h;exact⟨q,rfl,Option.some.inj h⟩
theorem mF (z:List Qd):(fT z).length=z.length:=Q02 _
theorem nR (z:List Qd):(nms z).length=z.length:=Q02 _
noncomputable def q0:Qd:=(.non,"",false)
theorem Dy (z:List Qd)(p:List Nat):fT (p.map λi=>z.getD i q0)=p.map λi=>(fT z).getD i .non:=by
 unfold fT;rw[Q13];refine Q1h λi _=>?_;show(z.getD i q0).1=_;rw[Q0f,Q0f,Q0g]
 cases z[i]? <;> rfl
theorem DA (z:List Qd){p:List Nat}(h:p.Perm (List.range z.length)):(p.map λi=>z.getD i q0).Perm z:=by
 have:=h.map λi=>z.getD i q0;rw[BD] at this;exact this
theorem jn {x:Str}{ss:List Str}:inV (.str x) (ss.map V.str)=decide (x∈ss):=by
 unfold inV;rw[Q2q];have:∀y:Str,((λy=>lF y (V.str x)) ∘ V.str) y=decide (y=x):=λy=>rfl
 induction ss with
 |nil=>rfl
 |cons y r J=>
  rw[Q1f,J,this];by_cases e:y=x
  . rw[decide_eq_true e,decide_eq_true (show x∈y::r by rw[e];exact Q04)];rfl
  . rw[decide_eq_false e];by_cases h:x∈r
    . rw[decide_eq_true h,decide_eq_true (Q0e _ h)];rfl
    . rw[decide_eq_false h,decide_eq_false λz=>(List.mem_cons.mp z).elim (λz=>e z.symm) h];rfl
theorem lY:∀{ss:List Str},(ss.map V.str).all lE=true
 |[]=>rfl
 |x::r=>by rw[Q0t,Q2f,lY];rfl
noncomputable def Fs.fe (ss:List Str):Fs->Fs
 | .nil=>.nil
 | .cons x k r=>if x∈ss then .cons x k (r.fe ss) else r.fe ss
noncomputable def fC (ss:List Str) (xs:List V) (ns:List Str):List V:=((xs.zip ns).filter λq=>decide (q.2∈ss)).map (·.1)
theorem FA.few {H:Hp}{ss:List Str}:∀{xs:List V}(fs:Fs),FA H xs fs->FA H (fC ss xs fs.names) (fs.fe ss)
 |xs,.nil,h=>by
  unfold FA at h;subst h;show FA H [] .nil;unfold FA;rfl
 |xs,.cons x k r,h=>by
  unfold FA at h;obtain⟨c,u,J,rfl,h1,h2,L⟩:=h;have z:=FA.few (ss:=ss) r L;show FA H (fC ss (.ref c::J) (x::r.names)) (if x∈ss then .cons x k (r.fe ss) else r.fe ss);unfold fC;rw[Q2m,Q0z];by_cases e:x∈ss
  . rw[if_pos e,if_pos (decide_eq_true e),Q0t];unfold FA;exact⟨c,u,_,rfl,h1,h2,z⟩
  . rw[if_neg e,if_neg (by rw[decide_eq_false e];decide)];exact z
theorem Fs.i5 (ss:List Str):∀fs:Fs,(fs.fe ss).names=fs.names.filter λx=>decide (x∈ss)
 | .nil=>rfl
 | .cons x k r=>by
   show(if x∈ss then Fs.cons x k (r.fe ss) else r.fe ss).names=(x::r.names).filter _;rw[Q0z];by_cases e:x∈ss
   . rw[if_pos e,if_pos (decide_eq_true e)];show x::(r.fe ss).names=_;rw[Fs.i5 ss r]
   . rw[if_neg e,if_neg (by rw[decide_eq_false e];decide)];exact Fs.i5 ss r
theorem Fs.o5 (ss:List Str):∀{fs:Fs}{x:Str},(fs.fe ss).get x=if x∈ss then fs.get x else none
 | .nil,x=>by
   show none=_;split <;> rfl
 | .cons y k r,x=>by
   have J:=Fs.o5 ss (fs:=r) (x:=x);show(if y∈ss then Fs.cons y k (r.fe ss) else r.fe ss).get x=if x∈ss then(if x=y then some k else r.get x) else none
   by_cases e:y∈ss
   . rw[if_pos e];show(if x=y then some k else(r.fe ss).get x)=_;by_cases z:x=y
     . rw[if_pos z,if_pos (by rw[z];exact e),if_pos z]
     . rw[if_neg z,J,if_neg z]
   . rw[if_neg e,J];by_cases z:x∈ss
     . rw[if_pos z,if_pos z,if_neg λq=>e (by rw[<-q];exact z)]
     . rw[if_neg z,if_neg z]
theorem Fs.rY (ss:List Str):∀{fs:Fs},fs.W->(fs.fe ss).W
 | .nil,h=>h
 | .cons y k r,h=>by
   unfold Fs.W at h;show(if y∈ss then Fs.cons y k (r.fe ss) else r.fe ss).W;split
   . unfold Fs.W;exact⟨h.1,Fs.rY ss h.2⟩
   . exact Fs.rY ss h.2
structure Dm (K:W.Frag) (x qual:Str) (ps:List Str) (st:Stmt) (f:Addr) (fd:FuncData):Prop where
 F:km K x qual st f fd
 b:Binds K fd ps []
variable {P:Program}{w:World}{K:W.Frag}{mg:Str->Option Value}{base:Heap}
theorem DB:fk ["pairs","fields","number","name"] ["pairs"] (eR (top 7)):=fA
theorem Kc {Pt c:Addr}(T:Tb mg)(U:Dn K mg "sorted_fields" kD (top 7) Y J)(af:J.code=.ref c)(aw:W.CodeHd base c Pt)(ax:BM mg base):eh P w K mg base er (8) Y J kD (Dw K Pt):=by
 refine U.F.uo af DB (λvs H Q E h=>?_) (λA outer s H vs Q E hr h=>?_)
 . obtain⟨l,qs,L,rfl,_⟩:=h;rfl
 obtain⟨l,qs,L,rfl,hl,hp,ah,hT,ac,ai,ay,q1⟩:=h;have nd:=DB.nd;have hu:=t7 hr
 refine⟨_,(en (eT 1 nd (jO pJ (by rfl) T.lP boot_tuple (a_ (BS (te:=(f_ (iu K) (fv 0) (tC (.int 0)))) (x:="pair") (N':=["","","",""]) rfl T.rq boot_sorted hr rfl rfl aw ax (lL.of (N:=["pairs","fields","number","name"]) (sc:=eR (top 7)) rfl rfl rfl rfl rfl (by decide +kernel)) rfl (λ_ _ _ _ _=>rfl) (pv 0) (λ_ _ _ _ _=>(eK (pv 0) d_))) c_)))
  (en (ic PassesOwn.never rfl (FI rfl T.mw (a_ d_ (a_ (eX g_ (by rfl) T.gC PySem.boot_len (a_ (pv 1) c_)) c_))) (ff (i:=2) nd rfl fL) (en (eT 3 nd (eK (eK (pv 1) (pv 2)) d_))
  (eB (eP (eS fw (pv 3) (eK (eK (pv 1) (eN kN (pv 2) d_)) d_) (eO _)) (eB tz) eQ))))
  (eB (eJ (pv 1))))),?_⟩
 ac_rfl
 refine⟨_,rfl,l,fT qs,rfl,hl,by rw[mF];omega,hT,λc' H2 aj mono=>?_⟩;have f9:fV Pt H H2:=λcc o hc e=>mono cc o hc e;have ak:jk H2 qs:=hp.mono (f9.tu hT);refine⟨λks H3=>H3=H2/\ks.length<=qs.length/\ks=((nms qs).map V.str).take ks.length,⟨rfl,Q0b _,rfl⟩,λks H3 hw=>by rw[hw.1];exact aj,?_,?_⟩
 . rintro ks H3 yv ⟨rfl,aC,aa⟩ hy;obtain⟨qq,hq,rfl⟩:=Dx hy;obtain⟨cc,u,ec,hc,hk⟩:=ak qq (Q0u hq);obtain⟨qv,qn,qb⟩:=qq;have ec:qv=.ref cc:=ec;subst ec;have az:ks.length<qs.length:=(List.getElem?_eq_some_iff.mp hq).1;refine⟨_,rfl,cc,_,_,_,rfl,rfl,eu.of hc,rfl,rfl,by rw[Q0c];exact az,?_⟩;rw[Q0c];show _=List.take (ks.length+1) _;rw[Q0p,<-aa,Q0g]
   have:(nms qs)[ks.length]? =some qn:=by
    show(qs.map (·.2.1))[ks.length]? =_;rw[Q0g,hq];rfl
   rw[this];rfl
 . rintro ks H3 ⟨rfl,_,aa⟩ ar
   have aa:ks=(nms qs).map V.str:=by
    rw[aa,ar,mF,Q0w (by rw[Q02,nR];exact Q00 _)]
   refine⟨nms qs,aa,λp ae hs D hD=>?_⟩;rw[mF] at ae;rw[<-Dy];have ag:=DA qs ae
   have au:(nms (p.map λi=>qs.getD i q0)).Pairwise sle:=by
    show((p.map λi=>qs.getD i q0).map (·.2.1)).Pairwise sle;rw[Q13,Q1c];rw[Q1c] at hs;refine List.Pairwise.imp_of_mem (λ{i j} hi hj h=>?_) hs
    have ge:∀i∈p,((nms qs).map fJ).getD i []=fJ (qs.getD i q0).2.1:=λi hi=>by
     have aA:i<qs.length:=by
      have:=ae.mem_iff.mp hi;simpa using this
     unfold nms;rw[Q0f,Q0f,Q0g,Q0g,Q03 aA];rfl
    rw[ge i hi,ge j hj] at h;exact h
   have aB:(p.map λi=>qs.getD i q0)=L:=Cf (ag.trans ac.symm) au ay ai;have av:jk H3 L:=λq hq=>ak q (ac.mem_iff.mp hq);have ah:L.length<=13:=by rw[ac.length_eq];exact ah
   rw[aB];refine⟨D,fT L,rfl,.inl ⟨eF.of eI,λt ht=>?_⟩⟩;have sD:Same H3 (upd H3 D (.lst (fT L))):=Same.new hD;have s5:Same H3 (upd (upd H3 D (.lst (fT L))) t (.tup (fT L))):=sD.trans (Same.new ht);have al:fV Pt H (upd (upd H3 D (.lst (fT L))) t (.tup (fT L))):=f9.trans (Kp.of s5);have am:eV Pt gE gF (upd (upd H3 D (.lst (fT L))) t (.tup (fT L))):=.inr ⟨c',aj.mono λb o _ e=>s5 _ _ e⟩;have ab:upd (upd H3 D (.lst (fT L))) t (.tup (fT L)) t=some (.tup (fT L)):=eI;have an:jk (upd (upd H3 D (.lst (fT L))) t (.tup (fT L))) L:=av.mono (Tu.of s5);generalize upd (upd H3 D (.lst (fT L))) t (.tup (fT L))=H5 at al am ab an
   have ao:∀j,j<L.length->∃cc u,(fT L)[j]? =some (.ref cc)/\H5 cc=some (.tup [.str ((nms L).getD j ""),u]):=λj hj=>by
    obtain⟨cc,u,ec,hc,_⟩:=an L[j] (Q1i hj);refine⟨cc,u,?_,?_⟩
    . show(L.map (·.1))[j]? =_;rw[Q0g,Q03 hj];exact congrArg some ec
    . have e:(nms L).getD j ""=L[j].2.1:=by
       unfold nms;rw[Q0f,Q0g,Q03 hj];rfl
      rw[e];exact hc
   refine⟨_,rfl,t,_,rfl,.inr (eu.of ab),_,_,rfl,⟨by decide,by decide,by omega,by rw[mF];omega⟩,mi (lo:=1) (n:=(((fT L).length:Int) - 1).toNat) (λk σ H'=>H'=H5/\∃y z,σ=[some (.ref l),some (.ref t),y,z]) ⟨rfl,_,_,rfl⟩ ?_ ?_⟩
   . rintro k σ H' hk ⟨rfl,y,z,rfl⟩;rw[mF] at hk;obtain⟨c1,u1,a1,b1⟩:=ao (k+1) (by omega);obtain⟨c2,u2,a2,b2⟩:=ao k (by omega)
     have e1:ir (fT L) ((1:Int)+(k:Int))=some (.ref c1):=by
      have:=jY (j:=k+1) a1;rw[show((1:Int)+(k:Int))=((k+1:Nat):Int) by omega];exact this
     have e2:ir (fT L) ((1:Int)+(k:Int) - 1)=some (.ref c2):=by
      have:=jY (j:=k) a2;rw[show((1:Int)+(k:Int) - 1)=((k:Nat):Int) by omega];exact this
     refine⟨_,rfl,_,rfl,t,_,_,_,rfl,rfl,eu.of ab,e1,c1,_,_,_,rfl,rfl,eu.of b1,rfl,?_⟩;refine⟨_,rfl,_,rfl,_,rfl,_,_,rfl,rfl,t,_,_,_,rfl,rfl,eu.of ab,e2,c2,_,_,_,rfl,rfl,eu.of b2,rfl,rfl,_,rfl,gu (λcc=>?_) λcc=>⟨rfl,_,_,rfl⟩⟩
     have e:(nms L).getD (k+1) ""=(nms L).getD k "":=by
      have:=of_decide_eq_true cc;injection this
     have ap:k+1<(nms L).length:=by rw[nR];omega
     have aq:k<(nms L).length:=by rw[nR];omega
     rw[Q0f,Q0f,Q03 ap,Q03 aq] at e;have e:(nms L)[k+1]=(nms L)[k]:=e;exact absurd e.symm (List.pairwise_iff_getElem.mp ai k (k+1) aq ap (by omega))
   . rintro σ H' ⟨rfl,y,z,rfl⟩;exact⟨_,rfl,q1 t _ al am ab⟩
theorem Ke:fk ["pairs"] ["pairs"] (eR (top 8)):=fA
theorem Kf {Pt:Addr}(T:Tb mg)(Y:Dn K mg "record_of" kD (top 8) aa ab)(z:Dn K mg "sorted_fields" kD (top 7) J L)(U:eh P w K mg base er (8) J L kD (Dw K Pt)):eh P w K mg base er (9) aa ab kD (rX K Pt):=by
 refine Y.F.ok Ke λvs H Q E h=>?_;obtain⟨l,qs,rs,rfl,hl,hp,af,hT,ag,ah,ai,q1⟩:=h;refine⟨rfl,λak A outer s nd hr hu=>?_⟩;refine⟨_,(eB (eJ (ik (a_ fh (a_ (eL U hr z (a_ (pv 0) c_)) c_))))),?_⟩
 ac_rfl
 refine⟨_,rfl,l,qs,rs,rfl,hl,hp,af,hT,ag,ah,ai,λt H' kp aj ae=>?_⟩;refine⟨hX,λr ac=>?_⟩;exact q1 r t _ (kp.trans (Kp.of (Same.new ac))) (aj.same (Same.new ac)) (by rw[eA (eM ae ac)];exact ae) eI
abbrev Kg:R2:=λx y H Q=>y=.non/\Q (.bl (!decide (x=.non))) H
noncomputable def eG (f:Str->V) (ss:List Str):List (Key × V):=ss.map λx=>(Sum.inr x,f x)
theorem ie (f:Str->V):∀(ss:List Str) (x:Str),ft (eG f ss) (Sum.inr x)=if x∈ss then some (f x) else none
 |[],x=>by
  rw[if_neg (by simp)];rfl
 |y::r,x=>by
  show ft ((Sum.inr y,f y)::eG f r) (Sum.inr x)=_;by_cases e:y=x
  . rw[jP (by show Sum.inr y=Sum.inr x;rw[e]),if_pos (by rw[e];exact Q04)];show some (f y)=_;rw[e]
  . rw[jQ (λz=>e (Sum.inr.inj z)),ie f r x];by_cases h:x∈r
    . rw[if_pos h,if_pos (Q0e _ h)]
    . rw[if_neg h,if_neg λz=>(List.mem_cons.mp z).elim (λz=>e z.symm) h]
theorem rZ (f:Str->V){ss:List Str}{x:Str}(h:x ∉ ss):putK (eG f ss) (Sum.inr x) (f x)=eG f (ss++[x]):=by
 unfold putK;rw[if_neg]
 . unfold eG;rw[Q0h];rfl
 . rw[kP,ie,if_neg h]
   decide
theorem iG (f:Str->V)(ss:List Str):(eG f ss).length=ss.length:=Q02 _
theorem DC {ss:List Str}{i:Nat}{v:V}(h:(ss.map V.str)[i]? =some v):∃x,ss[i]? =some x/\v=.str x:=by
 rw[Q0g] at h
 cases e:ss[i]? with
 |none=>rw[e] at h;cases h
 |some x=>rw[e] at h;exact⟨x,rfl,(Option.some.inj h).symm⟩
theorem Kh (ss:List Str):((List.range ss.length).map λi=>(Sum.inr (ss.getD i ""):Key))=ss.map Sum.inr:=by
 refine Q2i (by simp) λi h1 h2=>?_;have hi:i<ss.length:=by simpa using h2
 rw[Q2h,List.getElem_range,Q2h,Q0f,Q03 hi];rfl
theorem eF.mG {K:W.Frag}{H H':Hp}{l:Addr}{xs:List V}(h:eF K H l xs)(s:Same H H'):eF K H' l xs:=by
 rcases h with(h|⟨o,h⟩)|h
 . exact .inl (.inl (s _ _ h))
 . exact .inl (.inr ⟨o,s _ _ h⟩)
 . exact .inr h
def ve:Sp:=λvs H Q _=>vs=[.bl true]/\Q .non H
def DE (K:W.Frag):Sp:=λvs H Q _=>∃kk t l xs fs,∃ss:List Str,vs=[.ref kk,.ref l]/\H kk=some (.tup [.str "record",.ref t])/\H t=some (.tup xs)/\FA H xs fs/\fs.names.Nodup/\eF K H l (ss.map V.str)/\ss.Nodup/\ss.length<=12/\(∀x∈ss,x∈fs.names)/\∀H',Same H H'->Q (.bl true) H'
def DF (K:W.Frag):Sp:=λvs H Q _=>∃t l xs fs,∃ss:List Str,vs=[.ref t,.ref l]/\H t=some (.tup xs)/\FA H xs fs/\fs.names.length<=12/\eF K H l (ss.map V.str)/\∀p H',Same H H'->H' p=some (.lst (fC ss xs fs.names))->H p=none->Q (.ref p) H'
def vf (K:W.Frag):Sp:=λvs H Q _=>∃a l kvs,∃ss:List Str,∃f:Str->V,vs=[.ref a,.ref l]/\H a=some (.dK kvs)/\eF K H l (ss.map V.str)/\ss.Nodup/\ss.length<=12/\(∀x∈ss,ft kvs (Sum.inr x)=some (f x))/\∀p H',Same H H'->H' p=some (.dK (eG f ss))->H p=none->Q (.ref p) H'
theorem Ki:fk ["stands"] ["stands"] (eR (top 20)):=fA
theorem Kj (T:Tb mg)(z:Dn K mg "ask_stands" oQ (top 20) J L):eh P w K mg base er (1) J L oQ (ve):=by
 refine z.F.ok Ki λvs H Q E h=>?_;obtain⟨rfl,q⟩:=h;refine⟨rfl,λU A outer s Y hr hu=>?_⟩;refine⟨_,(eB (eP (gp (fU (pv 0))) (eB tz) eQ)),?_⟩
 ac_rfl
 exact⟨_,rfl,true,rfl,fE q⟩
theorem Kk:fk ["kind","names"] ["kind","names"] (eR (top 24)):=fA
theorem Kl (T:Tb mg)(J:Dn K mg "has_each_once" rA (top 24) L U)(Y:Dn K mg "kind_at" iX (top 6) aa ab)(ac:eh P w K mg base er (1) aa ab iX (qi)):eh P w K mg base er (3) L U rA (DE K):=by
 refine J.F.ok Kk λvs H Q E h=>?_;obtain⟨kk,t,l,xs,fs,ss,rfl,ag,ht,aj,ak,hl,al,aq,am,q⟩:=h;refine⟨rfl,λar A outer s nd hr hu=>?_⟩
 refine⟨_,(en (eP (eS gZ (eX J7 (by rfl) T.gC PySem.boot_len (a_ (jO (J6 rfl) (by rfl) T.Iq boot_set (a_ (pv 1) c_)) c_)) (eX g_ (by rfl) T.gC PySem.boot_len (a_ (pv 1) c_)) (eO _)) (eB (eJ gH)) eQ)
  (eB (eJ (i8 (iH fw (eK (pv 0) d_) fh (eO _)) (js (eX (nu rfl) (by rfl) T.nJ boot_all (a_ (jT (g:=(gK 0)) (tt:=jS) (te:=(f_ Kg (lB _ _ _ (gR (f_ (iu K) (fv 1) (tC (.int 1))) (gR (fv 0) jh))) (tC .non))) (own:=["name"]) rfl (iT (N:=["kind","names"]) (sc:=eR (top 24))) (mf (pv 1)) (λ_ _ _ _ _=>(ff (i:=0) (show(["name","kind","names"]:List Str).Nodup by decide +kernel) rfl (Or.inl rfl) (.inr rfl))) (λ_ _ _ _ _=>kq) (λ_ _ _ _ _=>(iH ju (eL ac hr Y (a_ (eK (pv 1) d_) (a_ (pv 0) c_))) gn (eO _)))) c_))))))),?_⟩
 ac_rfl
 refine⟨_,rfl,l,ss,rfl,hl,by omega,λp hp=>?_⟩;have s1:Same H (upd H p (qp P w p (iL (λi=>Sum.inr (ss.getD i "")) ss.length).length)):=Same.new hp
 have an:(iL (λi=>(Sum.inr (ss.getD i ""):Key)) ss.length).length=ss.length:=by
  have hn:((List.range ss.length).map λi=>(Sum.inr (ss.getD i ""):Key)).Nodup:=by
   rw[Kh];exact List.Pairwise.map _ (λa b h z=>h (Sum.inr.inj z)) al
  rw[Du hn,Q02,Q1u]
 refine⟨p,_,rfl,eI,?_⟩;have ae:eF K (upd H p (qp P w p (iL (λi=>Sum.inr (ss.getD i "")) ss.length).length)) l (ss.map V.str):=(Pb.eF.mG hl s1);rw[an] at s1 ae ⊢;refine⟨_,rfl,l,_,rfl,.inl ae,rfl,_,rfl,iR (by rw[Q02]) ?_⟩;refine⟨_,rfl,kk,_,_,_,rfl,rfl,eu.of (s1 _ _ ag),rfl,rfl,_,rfl,?_⟩;rw[decide_eq_true rfl];refine gB ?_;have ao:=s1 _ _ ht;have ah:=s1 _ _ ag;have ai:=FA.mono (Tu.of s1) fs aj;refine⟨_,rfl,l,rfl,⟨_,ae⟩,λi m ys H'=>H'=upd H p (qp P w p ss.length)/\m=ss.length - i/\i<=ss.length/\ys=(List.replicate i true).map V.bl,⟨ss.length,rfl,by simp,Q0b _,rfl⟩,?_⟩;rintro i m ys H' ⟨rfl,rfl,hi,rfl⟩;by_cases af:i<ss.length
 . refine .inr ⟨⟨_,.str ss[i],ae,by rw[Q0g,Q03 af];rfl⟩,by rw[Q02,Q11];exact fX (by omega),λx H' y=>?_⟩;obtain⟨rfl,y⟩:=y;have hx:=y _ ae
   have ex:x=.str ss[i]:=by
    rw[Q0g,Q03 af] at hx;exact(Option.some.inj hx).symm
   subst ex;obtain⟨k,hk⟩:=Fs.nQ (am _ (Q1i af));refine⟨rfl,yes (gB ?_)⟩;refine⟨_,rfl,kk,_,_,_,rfl,rfl,eu.of ah,rfl,_,rfl,t,ss[i],xs,fs,k,rfl,ao,ai,ak,hk,λu hu ap=>⟨rfl,?_⟩⟩;rw[decide_eq_false ap];refine⟨ss.length - (i+1),by omega,rfl,rfl,af,?_⟩;rw[List.replicate_succ',Q0h];rfl
 . refine .inl ⟨⟨_,ae,by rw[Q02];exact Q0v af⟩,λp hp=>⟨p,List.replicate i true,rfl,eF.of eI,?_⟩⟩;rw[rR];exact q _ (s1.trans (Same.new hp))
theorem Km:fk ["fields","names"] ["fields","names"] (eR (top 25)):=fA
theorem Kn (T:Tb mg)(J:Dn K mg "fields_among" kZ (top 25) L U):eh P w K mg base er (1) L U kZ (DF K):=by
 refine J.F.ok Km λvs H Q E h=>?_;obtain⟨t,l,xs,fs,ss,rfl,ht,aa,ae,hl,q⟩:=h;refine⟨rfl,λaf A outer s nd hr hu=>?_⟩;refine⟨_,(eB (eJ (jT (g:=(gK 0)) (tt:=(jC (f_ (nh K false) (f_ (iu K) (fv 0) (tC (.int 0))) (fv 2)))) (te:=(fv 0)) (own:=["pair"]) rfl (iT (N:=["fields","names"]) (sc:=eR (top 25))) (iN (pv 0)) (λ_ _ _ _ _=>(ff (i:=0) (show(["pair","fields","names"]:List Str).Nodup by decide +kernel) rfl (Or.inl rfl) (.inr rfl))) (λ_ _ _ _ _=>(lH (eS A1 (eK (pv 0) d_) (pv 2) (by with_unfolding_all rfl)))) (λ_ _ _ _ _=>(pv 0))))),?_⟩
 ac_rfl
 have ag:=FA.len fs aa;refine⟨_,rfl,t,rfl,⟨_,eu.of ht⟩,λi m ys H'=>H'=H/\m=xs.length - i/\i<=xs.length/\ys=(((xs.zip fs.names).take i).filter λq=>decide (q.2∈ss)).map (·.1),⟨xs.length,rfl,by simp,Q0b _,rfl⟩,?_⟩;rintro i m ys H' ⟨rfl,rfl,hi,rfl⟩;by_cases Y:i<xs.length
 . have hb:((((xs.zip fs.names).take i).filter λq=>decide (q.2∈ss)).map (·.1)).length<=i:=by
    rw[Q02];exact Q05 (Q0i _ _) (by rw[Q0k];omega)
   refine .inr ⟨⟨xs,xs[i],eu.of ht,by simp[Y]⟩,fX (by omega),λx H' y=>?_⟩;obtain⟨rfl,y⟩:=y;have hv:=y xs (eu.of ht);obtain⟨c,u,nm,k,rfl,ab,hc,hk⟩:=FA.get fs aa hv;have ac:fs.names[i]? =some nm:=by rw[Fs.iI,ab];rfl
   have hz:(xs.zip fs.names)[i]? =some (.ref c,nm):=by
    rw[Q1z];exact⟨hv,ac⟩
   have step:(((xs.zip fs.names).take (i+1)).filter λq=>decide (q.2∈ss)).map (·.1)=(((xs.zip fs.names).take i).filter λq=>decide (q.2∈ss)).map (·.1)++(if nm∈ss then [V.ref c] else []):=by
    rw[Q0p,hz,Q1m,Q0h];congr 1;show(List.filter _ [(V.ref c,nm)]).map _=_;rw[Q0z];by_cases e:nm∈ss
    . rw[if_pos (decide_eq_true e),if_pos e];rfl
    . rw[if_neg (by show ¬decide (nm∈ss)=true;rw[decide_eq_false e];decide),if_neg e];rfl
   refine⟨rfl,_,rfl,c,_,_,_,rfl,rfl,eu.of hc,rfl,_,rfl,l,_,rfl,.inl hl,rfl,lY,_,rfl,?_⟩;refine gu (λcc=>?_) (λcc=>?_)
   . have e:nm∈ss:=of_decide_eq_true (jn.symm.trans (show inV (V.str nm) (ss.map V.str)=true from cc));refine⟨_,rfl,xs.length - (i+1),by omega,rfl,rfl,Y,?_⟩;rw[step,if_pos e]
   . have e:¬nm∈ss:=λz=>cc (show inV (V.str nm) (ss.map V.str)=true from jn.trans (decide_eq_true z));refine⟨xs.length - (i+1),by omega,rfl,rfl,Y,?_⟩;rw[step,if_neg e,Q0y]
 . refine .inl ⟨⟨xs,eu.of ht,Q0v Y⟩,λp hp=>?_⟩;refine q p _ (Same.new hp) ?_ hp;rw[eI];unfold fC;rw[Q0w (by rw[Q2];omega)]
theorem Ko:fk ["record","names","part","name"] ["record","names"] (eR (top 27)):=fA
theorem Kq (T:Tb mg)(J:Dn K mg "part_of" jl (top 27) L U):eh P w K mg base er (1) L U jl (vf K):=by
 refine J.F.ok Ko λvs H Q E h=>?_;obtain⟨a,l,kvs,ss,f,rfl,ha,hl,aa,ae,hv,q⟩:=h;refine⟨rfl,λaf A outer s nd hr hu=>?_⟩
 refine⟨_,(en (eT 2 nd nq)
  (en (ic PassesOwn.never rfl (mf (pv 1)) (ff (i:=3) nd rfl fL) (eB (jZ hu (pv 2) (pv 3) (iw hu (pv 0) (pv 3) (λ_ _=>rfl)) rfl)))
  (eB (eJ (pv 2))))),?_⟩
 ac_rfl
 intro p hp;have s0:Same H (upd H p (.dK [])):=Same.new hp;refine⟨_,rfl,l,rfl,⟨_,(Pb.eF.mG hl s0)⟩,n_ (xs:=ss.map V.str) (λi σ H'=>Same H H'/\(∃z,σ=[some (.ref a),some (.ref l),some (.ref p),z])/\H' p=some (.dK (eG f (ss.take i)))) ⟨s0,⟨_,rfl⟩,eI⟩ ?_ ?_ ?_⟩
 . rintro i σ H' _ ⟨s1,_⟩;exact(Pb.eF.mG hl s1)
 . rintro i v σ H' ab ⟨s1,⟨z,rfl⟩,Y⟩;obtain⟨x,hx,rfl⟩:=DC ab;have hi:i<ss.length:=(List.getElem?_eq_some_iff.mp hx).1;have ac:ss[i]=x:=(List.getElem?_eq_some_iff.mp hx).2;refine⟨_,rfl,_,rfl,a,f x,rfl,?_,_,rfl,_,rfl,p,_,rfl,jj.k (k:=Sum.inr x) Y (by rw[iG,Q0k];exact fX (by omega)),?_⟩
   . have:=gc.k (k:=Sum.inr x) (s1 _ _ ha);rw[hv x (Q0u hx)] at this;exact this
   . refine⟨λc o e=>?_,⟨_,rfl⟩,?_⟩
     . rw[eA]
       . exact s1 c o e
       . exact eM e hp
     . rw[eI,rZ f,Q0p,hx]
       . rfl
       . intro hm;obtain⟨j,hj,e⟩:=Q1 hm;rw[Q0k] at hj;rw[Q1l] at e;exact absurd (e.trans ac.symm) (List.pairwise_iff_getElem.mp aa j i (by omega) hi (by omega))
 . rintro σ H' ⟨s1,⟨z,rfl⟩,Y⟩;rw[Q02,Q1k] at Y;exact⟨_,rfl,q p _ s1 Y hp⟩
theorem Kr {kvs:List (Key × V)}{k:Key}{v:V}(h:(ft kvs k).isSome=true):(putK kvs k v).map (·.1)=kvs.map (·.1):=by
 unfold putK;rw[if_pos (by rw[kP];exact h),Q13];refine Q1h λp _=>?_;show(if p.1=k then(p.1,v) else p).1=p.1;split <;> rfl
theorem DG {α:Type} [DecidableEq α]:∀{l m:List α},l.Nodup->m.length<=l.length->(∀x∈l,x∈m)->∀x∈m,x∈l
 |[],m,_,hl,_,x,J=>by
  have:m=[]:=List.eq_nil_of_length_eq_zero (by simpa using hl);rw[this] at J;exact nomatch J
 |a::r,m,hn,hl,U,x,J=>by
  obtain⟨n1,n2⟩:=List.nodup_cons.mp hn;by_cases e:x=a
  . rw[e];exact Q04
  . have hm:a∈m:=U a Q04
    have L:(m.erase a).length<=r.length:=by
     rw[Q3l hm];rw[Q0j] at hl;omega
    have:=DG n2 L (λy Y=>by
     rw[Q2s (show y≠a from λz=>n1 (by rw[<-z];exact Y))];exact U y (Q0e _ Y)) x (by rw[Q2s e];exact J)
    exact Q0e _ this
theorem o6 {α:Type} [DecidableEq α]:∀{l m:List α},l.Nodup->(∀x∈l,x∈m)->l.length<=m.length
 |[],m,_,_=>Q0b _
 |a::r,m,Y,J=>by
  obtain⟨n1,n2⟩:=List.nodup_cons.mp Y;have L:a∈m:=J a Q04
  have:=o6 n2 (m:=m.erase a) λy U=>by
   rw[Q2s (show y≠a from λz=>n1 (by rw[<-z];exact U))];exact J y (Q0e _ U)
  rw[Q3l L] at this;have hp:0<m.length:=List.length_pos_of_mem L;rw[Q0j];omega
theorem RecAt.keys {S:List Addr}{n:Nat}{H:Hp}{fs:Fs}{kvs:List (Key × V)}{δ:Str->D}(h:RecAt S n H fs kvs δ)(L:fs.names.Nodup):∀k∈kvs.map (·.1),∃x∈fs.names,k=Sum.inr x:=λk hk=>by
 have:=DG (l:=fs.names.map (Sum.inr:Str->Key)) (m:=kvs.map (·.1)) (List.Pairwise.map _ (λa b h z=>h (Sum.inr.inj z)) L) (by rw[Q02,Q02,h.len];exact Q00 _) (λx U=>by
  obtain⟨y,J,rfl⟩:=List.mem_map.mp U;obtain⟨q,Y⟩:=Fs.nQ J;obtain⟨v,_,hv,_⟩:=h.get y q Y;exact t9 hv) k hk
 obtain⟨y,J,e⟩:=List.mem_map.mp this;exact⟨y,J,e.symm⟩
theorem RecAt.part {S:List Addr}{n:Nat}{H:Hp}{fs:Fs}{ss:List Str}{ks:List (Key × V)}{δ:Str->D}(h:RecAt S n H fs ks δ){f:Str->V}(hf:∀x∈ss,ft ks (Sum.inr x)=some (f x))(U:ss.Nodup)(L:∀x∈ss,x∈fs.names)(hn:fs.names.Nodup):RecAt S n H (fs.fe ss) (eG f ss) δ:=by
 refine⟨?_,?_,λx k J=>?_⟩
 . rw[iG,Fs.i5];refine Q3m ?_ ?_
   . exact o6 U λx J=>List.mem_filter.mpr ⟨L x J,decide_eq_true J⟩
   . exact o6 (hn.filter _) λx J=>of_decide_eq_true (List.mem_filter.mp J).2
 . unfold eG;rw[Q13];exact List.Pairwise.map _ (λa b h z=>h (Sum.inr.inj z)) U
 . rw[Fs.o5] at J;by_cases e:x∈ss
   . rw[if_pos e] at J;obtain⟨v,fp,Y,h'⟩:=h.get x k J;rw[hf x e] at Y
     cases Y;exact⟨f x,fp,by rw[ie,if_pos e],h'⟩
   . rw[if_neg e] at J;cases J
noncomputable def ix {α:Type}(nm:α->Str) (a:α):List α->List α
 |[]=>[a]
 |b::r=>if fY (fJ (nm b)) (fJ (nm a)) then b::ix nm a r else a::b::r
theorem nS {α:Type}(nm:α->Str)(a:α):∀l:List α,(ix nm a l).Perm (a::l)
 |[]=>.refl _
 |b::r=>by
  unfold ix;split
  . exact((nS nm a r).cons b).trans (List.Perm.swap a b r)
  . exact .refl _
theorem vg {α z:Type}{nm:α->Str}{nm':z->Str}{g:α->z}(h:∀a,nm' (g a)=nm a)(a:α):∀l:List α,(ix nm a l).map g=ix nm' (g a) (l.map g)
 |[]=>rfl
 |b::r=>by
  show(if _ then _ else _:List α).map g=(if fY (fJ (nm' (g b))) (fJ (nm' (g a))) then g b::ix nm' (g a) (r.map g) else g a::g b::r.map g);rw[h,h];split
  . rw[Q0t,vg h a r]
  . rfl
theorem r8 (x:Str):∀{l:List Str},l.Pairwise sle->(ix id x l).Pairwise sle
 |[],_=>Q22 _ _
 |b::r,h=>by
  obtain⟨h1,h2⟩:=List.pairwise_cons.mp h;unfold ix;split
  . rename_i e;refine .cons (λz J=>?_) (r8 x h2);rcases List.mem_cons.mp ((nS id x r).mem_iff.mp J) with q|q
    . rw[q];exact Ca e
    . exact h1 z q
  . rename_i e
    have L:sle x b:=by
     unfold sle j1;exact Bool.eq_false_iff.mpr e
    refine .cons (λz J=>?_) h;rcases List.mem_cons.mp J with q|q
    . rw[q];exact L
    . exact Cb L (h1 z q)
noncomputable def lZ (x:Str) (v:V) (xs:List V) (ns:List Str):List V:=(ix (·.2) (v,x) (xs.zip ns)).map (·.1)
theorem DH:∀z:List Qd,(fT z).zip (nms z)=z.map λq=>(q.1,q.2.1)
 |[]=>rfl
 |q::r=>by
  show(q.1,q.2.1)::(fT r).zip (nms r)=_;rw[DH r];rfl
theorem DJ (v:V)(x:Str)(b:Bool)(z:List Qd):fT (ix (·.2.1) (v,x,b) z)=lZ x v (fT z) (nms z):=by
 unfold lZ;rw[DH,<-vg (nm:=λq:Qd=>q.2.1) (nm':=λp:V × Str=>p.2) (g:=λq:Qd=>(q.1,q.2.1)) (λ_=>rfl) (v,x,b) z,Q13];rfl
theorem r_ (v:V)(x:Str)(b:Bool)(z:List Qd):nms (ix (·.2.1) (v,x,b) z)=ix id x (nms z):=
 vg (nm':=id) (g:=λq:Qd=>q.2.1) (λ_=>rfl) (v,x,b) z
noncomputable def Fs.ins (x:Str) (k:Kd):Fs->Fs
 | .nil=>.cons x k .nil
 | .cons y q r=>if fY (fJ y) (fJ x) then .cons y q (r.ins x k) else .cons x k (.cons y q r)
theorem Fs.kF (x:Str)(k:Kd):∀fs:Fs,(fs.ins x k).names=ix id x fs.names
 | .nil=>rfl
 | .cons y q r=>by
   show(if fY (fJ y) (fJ x) then Fs.cons y q (r.ins x k) else .cons x k (.cons y q r)).names=if fY (fJ y) (fJ x) then y::ix id x r.names else x::y::r.names
   split
   . show y::(r.ins x k).names=_;rw[Fs.kF x k r]
   . rfl
theorem Fs.lA (x:Str)(k:Kd):∀{fs:Fs}(y:Str),x ∉ fs.names->(fs.ins x k).get y=if y=x then some k else fs.get y
 | .nil,y,_=>rfl
 | .cons z q r,y,h=>by
   have h1:x≠z:=λe=>h (by rw[e];exact Q04);have h2:x ∉ r.names:=λe=>h (Q0e _ e);show(if fY (fJ z) (fJ x) then Fs.cons z q (r.ins x k) else .cons x k (.cons z q r)).get y=_;split
   . show(if y=z then some q else(r.ins x k).get y)=if y=x then some k else if y=z then some q else r.get y
     rw[Fs.lA x k y h2];by_cases e:y=z
     . rw[if_pos e,if_pos e,if_neg (λJ=>h1 (J.symm.trans e))]
     . rw[if_neg e,if_neg e]
   . rfl
theorem Fs.DK {x:Str}{k:Kd}(hk:k.W):∀{fs:Fs},fs.W->(fs.ins x k).W
 | .nil,_=>by
   show(Fs.cons x k .nil).W;unfold Fs.W Fs.W;exact⟨hk,trivial⟩
 | .cons z q r,h=>by
   have h':=h;unfold Fs.W at h;show(if fY (fJ z) (fJ x) then Fs.cons z q (r.ins x k) else .cons x k (.cons z q r)).W;split
   . unfold Fs.W;exact⟨h.1,Fs.DK hk h.2⟩
   . unfold Fs.W;exact⟨hk,h'⟩
theorem Fs.vh (x:Str)(k:Kd):∀fs:Fs,(fs.ins x k).dep<=max k.dep fs.dep
 | .nil=>by show max k.dep 0<=_;exact Q00 _
 | .cons z q r=>by
   have:=Fs.vh x k r;show(if fY (fJ z) (fJ x) then Fs.cons z q (r.ins x k) else .cons x k (.cons z q r)).dep<=max k.dep (max q.dep r.dep);split
   . show max q.dep (r.ins x k).dep<=_;omega
   . exact Q00 _
theorem FA.ins {H:Hp}{c:Addr}{u:V}{x:Str}{k:Kd}(hc:H c=some (.tup [.str x,u]))(hk:KA H u k):∀{xs:List V}(fs:Fs),FA H xs fs->FA H (lZ x (.ref c) xs fs.names) (fs.ins x k)
 |xs,.nil,h=>by
  unfold FA at h;subst h;show FA H [.ref c] (.cons x k .nil);unfold FA;exact⟨c,u,[],rfl,hc,hk,by unfold FA;rfl⟩
 |xs,.cons y q r,h=>by
  have U:=h;unfold FA at h;obtain⟨d,Y,J,rfl,e,z,L⟩:=h;have hl:=FA.len r L;show FA H ((if fY (fJ y) (fJ x) then(V.ref d,y)::ix (·.2) (V.ref c,x) (J.zip r.names) else(V.ref c,x)::(V.ref d,y)::J.zip r.names).map (·.1)) (if fY (fJ y) (fJ x) then Fs.cons y q (r.ins x k) else .cons x k (.cons y q r));split
  . rw[Q0t];unfold FA;exact⟨d,Y,_,rfl,e,z,FA.ins hc hk r L⟩
  . rw[Q0t,Q0t,List.map_fst_zip (by omega)];unfold FA;exact⟨c,u,_,rfl,hc,hk,U⟩
theorem vi {x:Str}{l:List Str}(h:l.Nodup)(z:x ∉ l):(ix id x l).Nodup:=
 (nS id x l).nodup_iff.mpr (List.nodup_cons.mpr ⟨z,h⟩)
theorem o7 (x:Str)(l:List Str):(ix id x l).length=l.length+1:=by
 rw[(nS id x l).length_eq];rfl
theorem qr {x y:Str}{l:List Str}:y∈ix id x l↔y=x\/y∈l:=by
 rw[(nS id x l).mem_iff,Q12]
noncomputable def eE (ss ns:List Str):List Str:=ns.filter λx=>decide (x ∉ ss)
theorem f6 {ss ns:List Str}{x:Str}:x∈eE ss ns↔x∈ns/\x ∉ ss:=by
 unfold eE;rw[Q27];exact⟨λh=>⟨h.1,of_decide_eq_true h.2⟩,λh=>⟨h.1,decide_eq_true h.2⟩⟩
theorem vj {ss:List Str}{xs:List V}{ns:List Str}:fC (eE ss ns) xs ns=((xs.zip ns).filter λq=>decide (q.2 ∉ ss)).map (·.1):=by
 unfold fC;congr 1;refine Q3n λq z=>?_;have J:q.2∈ns:=(Q20 z).2;refine decide_eq_decide.mpr ?_;rw[f6];exact⟨λh=>h.2,λh=>⟨J,h⟩⟩
theorem iZ (ss:List Str)(fs:Fs):(fs.fe (eE ss fs.names)).names=eE ss fs.names:=by
 rw[Fs.i5];unfold eE;refine Q3n λx z=>decide_eq_decide.mpr ?_;rw[Q27];exact⟨λh=>of_decide_eq_true h.2,λh=>⟨z,decide_eq_true h⟩⟩
theorem DL:∀{kvs:List (Key × V)},(kvs.map (·.1)).Nodup->(∀k∈kvs.map (·.1),∃x:Str,k=Sum.inr x)->∃(f:Str->V) (l:List Str),kvs=eG f l/\l.Nodup
 |[],_,_=>⟨λ_=>.non,[],rfl,.nil⟩
 |(k,v)::r,L,h=>by
  obtain⟨U,Y⟩:=List.nodup_cons.mp L;obtain⟨x,e⟩:=h k Q04;have e:k=Sum.inr x:=e;subst e;obtain⟨f,l,rfl,hl⟩:=DL Y λk hk=>h k (Q0e _ hk)
  have J:x ∉ l:=λz=>U (by
   unfold eG;rw[Q13];exact List.mem_map.mpr ⟨x,z,rfl⟩)
  refine⟨λy=>if y=x then v else f y,x::l,?_,List.nodup_cons.mpr ⟨J,hl⟩⟩;unfold eG;rw[Q0t];show(_,v)::_=(_,if x=x then v else f x)::_;rw[if_pos rfl];congr 1;refine Q1h λy hy=>?_;show _=(_,if y=x then v else f y);rw[if_neg (λe=>J (by rw[<-e];exact hy))]
end Pb
namespace L2
open Spec PyProof.Rows
noncomputable def DM (a:Addr) (o:Obj) (kvs:List (Key × V)):It:=
 ⟨λi H=>i<kvs.length/\H a=some (.gT o (.dK kvs)),λi H x H'=>H'=H/\∃p,kvs[i]? =some p/\x=kV p.1,λi H=>kvs.length<=i/\H a=some (.gT o (.dK kvs))⟩
theorem DN:∀{kvs:List (Key × V)}{vs:List (Key × Value)}{i:Nat}{p:Key × V},KV kvs vs->kvs[i]? =some p->∃v,vs[i]? =some (p.1,v)
 |_,_,i,p,.nil,h=>by simp at h
 |_,_,0,p,.cons (b:=b) h t,e=>by
  have e:=Option.some.inj (show some _=some p from e);subst e;exact⟨b.2,by show some b=_;rw[h.1]⟩
 |_,_,i+1,p,.cons h t,e=>DN (i:=i) t e
theorem Ks {P:Program}{w:World}{k:Key}{u:Value}(h:(gL P w).is k u=true):RelV (kV k) u:=by
 have h:mQ k u=true:=h;rcases kL h with⟨i,t,rfl,rfl⟩|⟨x,t,rfl,rfl⟩
 . exact⟨t,rfl⟩
 . exact⟨t,rfl⟩
theorem Kt {P:Program}{w:World}{K:W.Frag}{tg:Expr}{a it:Addr}{o:Obj}{kvs:List (Key × V)}{vs:List (Key × Value)}{ep:Nat}(Y:KV kvs vs)(ha:∀h:Heap,h.get? a=some o->h.DictAt (gL P w) a vs ep):
 Turn P w K tg (DM a o kvs) [it] it (λi h=>h.IsKeyIter it a i vs.length ep) where
 mem:=by simp
 obj:=λi h st b J=>by
  have e:b=it:=by simpa using J
  subst e;obtain⟨o,e,c,d⟩:=st;exact⟨o,e,λv z=>by rw[d] at z;cases z⟩
 keep:=λi h h' st k=>st.at λo e=>k it (by simp) o e
 item:=by
  intro X hP hw hK hc i pins s σ H E I hf st hg;subst hP hw hK;obtain⟨hi,L⟩:=hg;obtain⟨U,_⟩:=I.hok a _ L;have hp:kvs[i]? =some kvs[i]:=Q03 hi;obtain⟨v,hv⟩:=DN Y hp;obtain⟨f0,f1,f2,f3,f4,f5⟩:=hf it (by simp);refine wpAny_pyNext_dict_item st (ha _ U) hv λkey h' hk aa sb=>?_;have I1:Inv X pins σ H { s with heap:=h' }:=I.turned (t':=s.toks) (λb o J e=>(sb.2 b J).trans e) f0 f1 f3 f4 f5;obtain⟨o,e,c,d⟩:=id aa;exact⟨key,rfl,qJ (s:={ s with heap:=h' }) e c d (by decide) ⟨kV kvs[i].1,H,I1,Ks hk,⟨rfl,_,hp,rfl⟩,aa,λb J=>(hf b J).1⟩⟩
 done:=by
  intro X hP hw hK hc i pins s σ H E I hf st hg;subst hP hw hK;obtain⟨hi,L⟩:=hg;obtain⟨U,_⟩:=I.hok a _ L;obtain⟨f0,f1,f2,f3,f4,f5⟩:=hf it (by simp);have hl:=Paired.length Y;exact wpAny_pyNext_dict_end (I.ok.hd hc) st (ha _ U) (List.getElem?_eq_none (by omega)) λh' eb=>⟨rfl,I.turned (t':=s.toks) (λb o J e=>eb b o J e) f0 f1 f3 f4 f5⟩
 self:=λ_ _ _ _ _ st h=>wpAny_pyIter_keyiter st h
section
variable {X:Cx}{tg:Expr}
def sd (z:Hp) (a:Addr):Prop:=∀o u,z a≠some (.gT o u)
def DO (z:Hp) (tl:TE):TI:=λσ H R=>tl σ H λx H1=>∃a kvs,x=.ref a/\H1 a=some (.dK kvs)/\∀o,sd z a->R (DM a o kvs) (upd H1 a (.gT o (.dK kvs)))
theorem Inv.freeze {pins:List (Addr × Obj)}{σ:St}{H:Hp}{s:Shared}{a:Addr}{kvs:List (Key × V)}(I:Inv X pins σ H s)(h:H a=some (.dK kvs)):
 ∃o vs U,KV kvs vs/\(a == sysModules)=false/\s.heap.get? a=some o/\(∀h:Heap,h.get? a=some o->h.DictAt (gL X.prog X.w) a vs U)/\sd X.H₀ a/\Inv X pins σ (upd H a (.gT o (.dK kvs))) s:=by
 obtain⟨z,hd,vs,L,o,es,U,Y,e2⟩:=id (I.hok a _ h);refine⟨o,vs,U,L,hd,Y,λh' e=>⟨o,es,e,e2⟩,λo' u J=>?_,?_⟩
 . have:=I.base.jd a o' u J;rw[h] at this;cases this
 . have u:Un X.fs [] H (upd H a (.gT o (.dK kvs))) s.heap s.heap:=Un.write (x:=a) (e:=a) (by rw[h];trivial) (.inl rfl) (λb u _ q=>q) ⟨o,Y⟩;refine I.un (t':=s.toks) u λb v e=>?_;by_cases hb:b=a
   . subst hb;rw[eI] at e
     cases e;exact⟨Y,z,hd,vs,L,o,es,U,Y,e2⟩
   . rw[eA hb] at e;exact(I.hok b v e).stay (λc w _ q=>q) (λc q=>by rw[eA (λJ=>by rw[J,h] at q;cases q)];exact q) λc xs q=>by rw[eA (λJ=>by rw[J,h] at q;cases q)];exact q
theorem Inv.Ku {pins:List (Addr × Obj)}{σ:St}{H:Hp}{s:Shared}{a:Addr}{o:Obj}{kvs:List (Key × V)}(I:Inv X pins σ H s)(h:H a=some (.gT o (.dK kvs)))(hz:sd X.H₀ a):Inv X pins σ (upd H a (.dK kvs)) s:=by
 have L:∀{b:Addr},H b=none->upd H a (.dK kvs) b=none:=λ{b} e=>by rw[eA (λz=>by rw[z,h] at e;cases e)];exact e
 refine⟨I.ok,I.os,I.bare,⟨I.base.keep,I.base.slot,λb u q n hx=>L (I.base.free b u q n hx),I.base.there,λb xs q=>?_,λb o' u q=>?_,λb ps q=>?_⟩,I.loc,I.cell,L I.free,λx c e=>L (I.i7 x c e),λp hp=>?_,λb v e=>?_,I.len⟩
 . have:=I.base.tups b xs q;rw[eA (λz=>by rw[z,h] at this;cases this)];exact this
 . have:=I.base.jd b o' u q;rw[eA (λz=>hz o' u (by rw[<-z];exact q))];exact this
 . obtain⟨J,this⟩:=I.base.jr b ps q;exact⟨J,by rw[eA (λz=>by rw[z,h] at this;cases this)];exact this⟩
 . obtain⟨p1,p2,p3⟩:=I.pin p hp;exact⟨p1,L p2,p3⟩
 . by_cases Y:b=a
   . subst Y;rw[eI] at e
     cases e;exact(I.hok b _ h).2
   . rw[eA Y] at e;exact(I.hok b v e).stay (λc w _ q=>q) (λc q=>by rw[eA (λU=>by rw[U,h] at q;cases q)];exact q) λc xs q=>by rw[eA (λU=>by rw[U,h] at q;cases q)];exact q
theorem Kv {l:Expr}{tl:TE}(hl:PE X l tl):PI X tg l (DO X.H₀ tl):=by
 intro pins s σ H R I h;refine eU (hl pins s σ H _ I h) λv J zq=>?_;obtain⟨x,H1,I1,r1,q1⟩:=zq;obtain⟨a,kvs,e,hq,q⟩:=q1;subst e
 cases r1;obtain⟨o,vs,ep,U,hs,Y,z,hz,L⟩:=I1.freeze hq;refine wpAny_pyIter_dict hs (z _ Y) ?_;refine⟨J.heap.objs.size,[J.heap.objs.size],_,_,upd H1 a (.gT o (.dK kvs)),rfl,L.kept (t':=J.toks) λb o e=>Q07 _ e,Kt U z,⟨_,Q0n _ rfl,rfl,rfl⟩,λb hb=>?_,q o hz⟩;have e:b=J.heap.objs.size:=by simpa using hb
 subst e;exact L.me (Q00 _) (L.hok.fresh (Q00 _))
theorem Kw {z:Hp}(J:X.H₀=z){l:Expr}{tl:TE}(hl:PE X l tl):PI X tg l (DO z tl):=by
 subst J;exact Kv hl
def Kx (z:Hp) (t:TE):TE:=λσ H Q=>t σ H λv H'=>∃a o kvs,sd z a/\H' a=some (.gT o (.dK kvs))/\Q v (upd H' a (.dK kvs))
theorem Ky {J:Hp}(L:X.H₀=J){e:Expr}{t:TE}(h:PE X e t):PE X e (Kx J t):=by
 subst L;intro pins s σ H Q I q;refine eU (h pins s σ H _ I q) λv s1 zq=>?_;obtain⟨x,H1,U,Y,z⟩:=zq;obtain⟨a,o,kvs,hz,ha,z⟩:=z;exact⟨x,_,U.Ku ha hz,Y,z⟩
end
end L2
namespace Pb
open L2 PyProof.Rows
noncomputable def gv (f:Str->V) (x:Str) (v:V):Str->V:=λy=>if y=x then v else f y
theorem se (f:Str->V){l:List Str}{x:Str}(v:V)(h:x ∉ l):putK (eG f l) (Sum.inr x) v=eG (gv f x v) (l++[x]):=by
 have:=rZ (gv f x v) h
 rw[show eG (gv f x v) l=eG f l from by
  unfold eG;refine Q1h λy z=>?_;show(_,if y=x then v else f y)=_;rw[if_neg (λe=>h (by rw[<-e];exact z))]] at this
 rw[show gv f x v x=v from if_pos rfl] at this;exact this
def DP:Sp:=λvs H Q _=>∃b x xs fs,vs=[.ref b,.str x]/\H b=some (.tup xs)/\FA H xs fs/\x ∉ fs.names/\Q .non H
def DQ (K:W.Frag):Sp:=λvs H Q _=>∃b x xs fs,vs=[.ref b,.str x]/\H b=some (.lst xs)/\FA H xs fs/\x ∉ fs.names/\Q .non H
def DR:Sp:=λvs H Q _=>∃kk t x xs fs k,vs=[.ref kk,.str x]/\H kk=some (.tup [.str "record",.ref t])/\H t=some (.tup xs)/\FA H xs fs/\fs.names.Nodup/\fs.get x=some k/\∀u,KA H u k->u≠ .non->Q u H
def vk (K:W.Frag):Sp:=λvs H Q _=>∃t l xs fs,∃ss:List Str,vs=[.ref t,.ref l]/\H t=some (.tup xs)/\FA H xs fs/\fs.names.length<=12/\eF K H l (ss.map V.str)/\∀p H',Same H H'->H' p=some (.lst (fC (eE ss fs.names) xs fs.names))->H p=none->Q (.ref p) H'
def sg (K:W.Frag):Sp:=λvs H Q _=>∃a l,∃f:Str->V,∃ks ss:List Str,vs=[.ref a,.ref l]/\H a=some (.dK (eG f ks))/\ks.Nodup/\ks.length<=12/\eF K H l (ss.map V.str)/\∀p H',Same H H'->H' p=some (.dK (eG f (eE ss ks)))->H p=none->Q (.ref p) H'
def vm:Sp:=λvs H Q _=>∃a x v,∃f:Str->V,∃ks:List Str,vs=[.ref a,.str x,v]/\H a=some (.dK (eG f ks))/\ks.length<=12/\x ∉ ks/\∀p H',Same H H'->H' p=some (.dK (eG (gv f x v) (ks++[x])))->H p=none->Q (.ref p) H'
variable {P:Program}{w:World}{K:W.Frag}{mg:Str->Option Value}{base:Heap}
theorem Kz (T:Tb mg)(J:Dn K mg "kind_at" iX (top 6) L U):eh P w K mg base er (1) L U iX (DP):=by
 refine J.F.ok u3 λvs H Q E h=>?_;obtain⟨b,x,xs,fs,rfl,hb,Y,aa,q⟩:=h;refine⟨rfl,λae A outer s nd hr hu=>?_⟩
 refine⟨_,(en (ic PassesOwn.never rfl (iN (pv 0)) (ff (i:=2) nd rfl fL) (eB (eP (eS fw (eK (pv 2) d_) (pv 1) (eO _)) (eB (eJ (eK (pv 2) d_))) eQ)))
  (eB (eJ gn))),?_⟩
 ac_rfl
 refine⟨_,rfl,b,rfl,⟨_,eu.of hb⟩,mh (xs:=xs) (λi σ H'=>H'=H/\(∃z,σ=[some (.ref b),some (.str x),z])) ⟨rfl,⟨_,rfl⟩⟩ ?_ ?_ ?_⟩
 . rintro i σ H' _ ⟨rfl,_⟩;exact eu.of hb
 . rintro i v σ H' hv ⟨rfl,⟨z,rfl⟩⟩;obtain⟨c,u,nm,k',rfl,ab,hc,hk⟩:=FA.get fs Y hv;have ac:fs.names[i]? =some nm:=by rw[Fs.iI,ab];rfl
   refine⟨_,rfl,c,_,_,_,rfl,rfl,eu.of hc,rfl,_,rfl,rfl,_,rfl,gu (λcc=>?_) (λcc=>⟨rfl,⟨_,rfl⟩⟩)⟩
   have e:nm=x:=by
    have:=of_decide_eq_true cc;injection this
   exact absurd (Q0u ac) (by rw[e];exact aa)
 . rintro σ H' ⟨rfl,z,rfl⟩;exact q
theorem KC (T:Tb mg)(J:Dn K mg "kind_at" iX (top 6) L U):eh P w K mg base er (1) L U iX (DQ K):=by
 refine J.F.ok u3 λvs H Q E h=>?_;obtain⟨b,x,xs,fs,rfl,hb,Y,aa,q⟩:=h;refine⟨rfl,λae A outer s nd hr hu=>?_⟩
 refine⟨_,(en (ic PassesOwn.never rfl (mf (pv 0)) (ff (i:=2) nd rfl fL) (eB (eP (eS fw (eK (pv 2) d_) (pv 1) (eO _)) (eB (eJ (eK (pv 2) d_))) eQ)))
  (eB (eJ gn))),?_⟩
 ac_rfl
 refine⟨_,rfl,b,rfl,⟨_,eF.of hb⟩,n_ (xs:=xs) (λi σ H'=>H'=H/\(∃z,σ=[some (.ref b),some (.str x),z])) ⟨rfl,⟨_,rfl⟩⟩ ?_ ?_ ?_⟩
 . rintro i σ H' _ ⟨rfl,_⟩;exact eF.of hb
 . rintro i v σ H' hv ⟨rfl,⟨z,rfl⟩⟩;obtain⟨c,u,nm,k',rfl,ab,hc,hk⟩:=FA.get fs Y hv;have ac:fs.names[i]? =some nm:=by rw[Fs.iI,ab];rfl
   refine⟨_,rfl,c,_,_,_,rfl,rfl,eu.of hc,rfl,_,rfl,rfl,_,rfl,gu (λcc=>?_) (λcc=>⟨rfl,⟨_,rfl⟩⟩)⟩
   have e:nm=x:=by
    have:=of_decide_eq_true cc;injection this
   exact absurd (Q0u ac) (by rw[e];exact aa)
 . rintro σ H' ⟨rfl,z,rfl⟩;exact q
theorem KD:fk ["kind","name"] ["kind","name"] (eR (top 23)):=fA
theorem KG (T:Tb mg)(z:Dn K mg "field_kind" rB (top 23) J L)(U:Dn K mg "kind_at" iX (top 6) Y aa)(ab:eh P w K mg base er (1) Y aa iX (qi)):eh P w K mg base er (2) J L rB (DR):=by
 refine z.F.ok KD λvs H Q E h=>?_;obtain⟨kk,t,x,xs,fs,k,rfl,ac,ht,ae,af,hk,q⟩:=h;refine⟨rfl,λag A outer s nd hr hu=>?_⟩;refine⟨_,(eB (eJ (mV (eS fw (eK (pv 0) d_) fh (eO _)) (eL ab hr U (a_ (eK (pv 0) d_) (a_ (pv 1) c_))) gn))),?_⟩
 ac_rfl
 refine⟨_,rfl,kk,_,_,_,rfl,rfl,eu.of ac,rfl,rfl,_,rfl,gB ?_⟩;exact⟨_,rfl,kk,_,_,_,rfl,rfl,eu.of ac,rfl,_,rfl,t,x,xs,fs,k,rfl,ht,ae,af,hk,q⟩
theorem KH:fk ["fields","names"] ["fields","names"] (eR (top 26)):=fA
theorem KI (T:Tb mg)(J:Dn K mg "fields_but" kZ (top 26) L U):eh P w K mg base er (1) L U kZ (vk K):=by
 refine J.F.ok KH λvs H Q E h=>?_;obtain⟨t,l,xs,fs,ss,rfl,ht,aa,ae,hl,q⟩:=h;refine⟨rfl,λaf A outer s nd hr hu=>?_⟩;refine⟨_,(eB (eJ (jT (g:=(gK 0)) (tt:=(jC (f_ (nh K true) (f_ (iu K) (fv 0) (tC (.int 0))) (fv 2)))) (te:=(fv 0)) (own:=["pair"]) rfl (iT (N:=["fields","names"]) (sc:=eR (top 26))) (iN (pv 0)) (λ_ _ _ _ _=>(ff (i:=0) (show(["pair","fields","names"]:List Str).Nodup by decide +kernel) rfl (Or.inl rfl) (.inr rfl))) (λ_ _ _ _ _=>(lH (eS oj (eK (pv 0) d_) (pv 2) (by with_unfolding_all rfl)))) (λ_ _ _ _ _=>(pv 0))))),?_⟩
 ac_rfl
 have ag:=FA.len fs aa;refine⟨_,rfl,t,rfl,⟨_,eu.of ht⟩,λi m ys H'=>H'=H/\m=xs.length - i/\i<=xs.length/\ys=(((xs.zip fs.names).take i).filter λq=>decide (q.2 ∉ ss)).map (·.1),⟨xs.length,rfl,by simp,Q0b _,rfl⟩,?_⟩;rintro i m ys H' ⟨rfl,rfl,hi,rfl⟩;by_cases Y:i<xs.length
 . have hb:((((xs.zip fs.names).take i).filter λq=>decide (q.2 ∉ ss)).map (·.1)).length<=i:=by
    rw[Q02];exact Q05 (Q0i _ _) (by rw[Q0k];omega)
   refine .inr ⟨⟨xs,xs[i],eu.of ht,by simp[Y]⟩,fX (by omega),λx H' y=>?_⟩;obtain⟨rfl,y⟩:=y;have hv:=y xs (eu.of ht);obtain⟨c,u,nm,k,rfl,ab,hc,hk⟩:=FA.get fs aa hv;have ac:fs.names[i]? =some nm:=by rw[Fs.iI,ab];rfl
   have hz:(xs.zip fs.names)[i]? =some (.ref c,nm):=by
    rw[Q1z];exact⟨hv,ac⟩
   have step:(((xs.zip fs.names).take (i+1)).filter λq=>decide (q.2 ∉ ss)).map (·.1)=(((xs.zip fs.names).take i).filter λq=>decide (q.2 ∉ ss)).map (·.1)++(if nm∈ss then [] else [V.ref c]):=by
    rw[Q0p,hz,Q1m,Q0h];congr 1;show(List.filter _ [(V.ref c,nm)]).map _=_;rw[Q0z];by_cases e:nm∈ss
    . rw[if_neg (by show ¬decide (nm ∉ ss)=true;rw[decide_eq_false (λz=>z e)];decide),if_pos e];rfl
    . rw[if_pos (decide_eq_true e),if_neg e];rfl
   refine⟨rfl,_,rfl,c,_,_,_,rfl,rfl,eu.of hc,rfl,_,rfl,l,_,rfl,.inl hl,rfl,lY,_,rfl,?_⟩;refine gu (λcc=>?_) (λcc=>?_)
   . have e:¬nm∈ss:=λz=>by
      have cc:(!inV (V.str nm) (ss.map V.str))=true:=cc;rw[jn,decide_eq_true z] at cc
      cases cc
     refine⟨_,rfl,xs.length - (i+1),by omega,rfl,rfl,Y,?_⟩;rw[step,if_neg e]
   . have e:nm∈ss:=Classical.byContradiction λz=>cc (show(!inV (V.str nm) (ss.map V.str))=true by rw[jn,decide_eq_false z];rfl);refine⟨xs.length - (i+1),by omega,rfl,rfl,Y,?_⟩;rw[step,if_pos e,Q0y]
 . refine .inl ⟨⟨xs,eu.of ht,Q0v Y⟩,λp hp=>?_⟩;refine q p _ (Same.new hp) ?_ hp;rw[eI,vj,Q0w (by rw[Q2];omega)]
theorem KJ {f:Str->V}{l:List Str}{i:Nat}{x:Str}(h:l[i]? =some x):(eG f l)[i]? =some (Sum.inr x,f x):=by
 unfold eG;rw[Q0g,h];rfl
theorem KO:fk ["record","names"] ["record","names"] (eR (top 28)):=fA
theorem KP (T:Tb mg)(J:Dn K mg "rest_of" jl (top 28) L U)(Y:Dn K mg "part_of" jl (top 27) aa ab)(ac:eh P w K mg base er (1) aa ab jl (vf K)):eh P w K mg base er (2) L U jl (sg K):=by
 refine J.F.ok KO λvs H Q E h=>?_;obtain⟨a,l,f,ks,ss,rfl,ha,ah,ai,hl,q⟩:=h;refine⟨rfl,λan A outer s nd hr hu=>?_⟩;refine⟨_,(eB (eJ (eL ac hr Y (a_ (pv 0) (a_ (Ky rfl (jT (g:=(gK 0)) (tt:=(jC (f_ (nh K true) (fv 0) (fv 2)))) (te:=(fv 0)) (own:=["name"]) rfl (iT (N:=["record","names"]) (sc:=eR (top 28))) (Kw rfl (pv 0)) (λ_ _ _ _ _=>(ff (i:=0) (show(["name","record","names"]:List Str).Nodup by decide +kernel) rfl (Or.inl rfl) (.inr rfl))) (λ_ _ _ _ _=>(lH (eS oj (pv 0) (pv 2) (by with_unfolding_all rfl)))) (λ_ _ _ _ _=>(pv 0)))) c_))))),?_⟩
 ac_rfl
 refine⟨_,rfl,_,rfl,a,_,rfl,ha,λo hz=>?_⟩;have kf:∀c u,c≠a->H c=some u->upd H a (.gT o (.dK (eG f ks))) c=some u:=λc u hc e=>by rw[eA hc];exact e
 have aj:eF K (upd H a (.gT o (.dK (eG f ks)))) l (ss.map V.str):=by
  rcases hl with(h|⟨o',h⟩)|h
  . exact .inl (.inl (kf _ _ (iB h ha (by intro z;cases z)) h))
  . exact .inl (.inr ⟨o',kf _ _ (iB h ha (by intro z;cases z)) h⟩)
  . exact .inr h
 refine⟨λi m zs H'=>m=ks.length - i/\i<=ks.length/\zs=(eE ss (ks.take i)).map V.str/\H'=upd H a (.gT o (.dK (eG f ks))),⟨ks.length,rfl,Q0b _,rfl,rfl⟩,?_⟩;rintro i m zs H' ⟨rfl,ao,rfl,rfl⟩;have ae:=eI (H:=H) (a:=a) (o:=.gT o (.dK (eG f ks)));by_cases hi:i<ks.length
 . have hb:(eE ss (ks.take i)).length<=i:=Q05 (Q0i _ _) (by rw[Q0k];omega);refine .inr ⟨⟨by rw[iG];exact hi,ae⟩,by rw[Q02];exact fX (by omega),λx ap y=>?_⟩;obtain⟨rfl,pr,af,rfl⟩:=y;have ag:ks[i]? =some ks[i]:=Q03 hi;rw[KJ ag] at af
   cases af
   have step:eE ss (ks.take (i+1))=eE ss (ks.take i)++(if ks[i]∈ss then [] else [ks[i]]):=by
    unfold eE;rw[Q0p,ag,Q1m];congr 1;show List.filter _ [ks[i]]=_;rw[Q0z];by_cases e:ks[i]∈ss
    . rw[if_neg (by rw[decide_eq_false (λz=>z e)];decide),if_pos e];rfl
    . rw[if_pos (decide_eq_true e),if_neg e];rfl
   refine⟨rfl,_,rfl,_,rfl,l,_,rfl,.inl aj,rfl,lY,_,rfl,?_⟩;refine gu (λcc=>?_) (λcc=>?_)
   . have e:¬ks[i]∈ss:=λz=>by
      have cc:(!inV (V.str ks[i]) (ss.map V.str))=true:=cc;rw[jn,decide_eq_true z] at cc
      cases cc
     refine⟨_,rfl,ks.length - (i+1),by omega,rfl,hi,?_,rfl⟩;rw[step,if_neg e,Q0h];rfl
   . have e:ks[i]∈ss:=Classical.byContradiction λz=>cc (show(!inV (V.str ks[i]) (ss.map V.str))=true by rw[jn,decide_eq_false z];rfl);refine⟨ks.length - (i+1),by omega,rfl,hi,?_,rfl⟩;rw[step,if_pos e,Q0y]
 . refine .inl ⟨⟨by rw[iG];omega,ae⟩,λp hp=>?_⟩;have ak:ks.take i=ks:=Q0w (by omega);rw[ak];have s5:=Same.new hp (o:=.lst ((eE ss ks).map V.str));refine⟨a,o,_,hz,s5 _ _ ae,?_⟩;have al:p≠a:=λz=>by rw[z,ae] at hp;cases hp
   have s6:Same H (upd (upd (upd H a (.gT o (.dK (eG f ks)))) p (.lst ((eE ss ks).map V.str))) a (.dK (eG f ks))):=λc u e=>by
    by_cases hc:c=a
    . subst hc;rw[eI,<-ha];exact e
    . rw[eA hc];exact s5 _ _ (kf _ _ hc e)
   refine⟨a,p,_,eE ss ks,f,rfl,s6 _ _ ha,eF.of (by rw[eA al,eI]),ah.filter _,Q05 (Q0i _ _) ai,λx hx=>by rw[ie,if_pos (f6.mp hx).1],λp' H' s7 am hn=>?_⟩;refine q p' H' (s6.trans s7) am ?_
   cases e:H p' with
   |none=>rfl
   |some u=>rw[s6 _ _ e] at hn;cases hn
theorem KQ:fk ["record","name","value","fresh"] ["record","name","value"] (eR (top 29)):=fA
theorem KR (T:Tb mg)(z:Dn K mg "with_field" oR (top 29) J L):eh P w K mg base er (1) J L oR (vm):=by
 refine z.F.ok KQ λvs H Q E h=>?_;obtain⟨a,x,v,f,ks,rfl,U,aa,Y,q⟩:=h;refine⟨rfl,λab A outer s nd hr hu=>?_⟩
 refine⟨_,(en (eT 3 nd (jO rW (by rfl) T.lU boot_dict (a_ (pv 0) c_)))
  (en (jZ hu (pv 3) (pv 1) (pv 2) rfl)
  (eB (eJ (pv 3))))),?_⟩
 ac_rfl
 refine⟨_,rfl,a,_,rfl,U,λp hp=>?_⟩;refine⟨_,rfl,_,rfl,_,rfl,p,_,rfl,jj.k (k:=Sum.inr x) eI (by rw[iG];exact fX (by omega)),?_⟩;refine⟨_,rfl,q p _ (λc o e=>?_) ?_ hp⟩
 . rw[eA (eM e hp),eA (eM e hp)];exact e
 . rw[eI,se f v Y]
def sj:Sp:=λvs H Q _=>∃a x y,∃f:Str->V,∃ks:List Str,vs=[.ref a,.str x,.str y]/\H a=some (.dK (eG f ks))/\ks.Nodup/\ks.length<=12/\x∈ks/\y ∉ eE [x] ks/\∀p H',Same H H'->H' p=some (.dK (eG (gv f y (f x)) (eE [x] ks++[y])))->H p=none->Q (.ref p) H'
def DS (K:W.Frag):Sp:=λvs H Q _=>∃a l y,∃f:Str->V,∃ks ss:List Str,vs=[.ref a,.ref l,.str y]/\H a=some (.dK (eG f ks))/\ks.Nodup/\ks.length<=12/\eF K H l (ss.map V.str)/\ss.Nodup/\ss.length<=12/\(∀x∈ss,x∈ks)/\y ∉ eE ss ks/\∀p c H',Same H H'->H' p=some (.dK (eG (gv f y (.ref c)) (eE ss ks++[y])))->H' c=some (.dK (eG f ss))->H p=none->H c=none->p≠c->Q (.ref p) H'
def vn:Sp:=λvs H Q _=>∃a c x,∃f g:Str->V,∃ks z:List Str,vs=[.ref a,.str x]/\H a=some (.dK (eG f ks))/\ks.Nodup/\ks.length<=12/\x∈ks/\f x=.ref c/\H c=some (.dK (eG g z))/\z.length<=12/\∀p H',Same H H'->H' p=some (.dK (jJ (eG f (eE [x] ks)) (eG g z)))->H p=none->Q (.ref p) H'
theorem none_of {H H':Hp}(s:Same H H'){p:Addr}(h:H' p=none):H p=none:=by
 cases e:H p with
 |none=>rfl
 |some u=>rw[s _ _ e] at h;cases h
theorem KS:fk ["record","old","new"] ["record","old","new"] (eR (top 30)):=fA
theorem KU (T:Tb mg)(Y:Dn K mg "renamed" mx (top 30) aa ab)(z:Dn K mg "with_field" oR (top 29) J L)(U:eh P w K mg base er (1) J L oR (vm))(ac:Dn K mg "rest_of" jl (top 28) ae af)(ag:eh P w K mg base er (2) ae af jl (sg K)):eh P w K mg base er (3) aa ab mx (sj):=by
 refine Y.F.ok KS λvs H Q E h=>?_;obtain⟨a,x,y,f,ks,rfl,ha,ai,ah,hx,hy,q⟩:=h;refine⟨rfl,λak A outer s nd hr hu=>?_⟩;refine⟨_,(eB (eJ (eL U hr z (a_ (eL ag hr ac (a_ (pv 0) (a_ (gA (a_ (pv 1) c_)) c_))) (a_ (pv 2) (a_ (iw hu (pv 0) (pv 1) (λ_ _=>rfl)) c_)))))),?_⟩
 ac_rfl
 refine⟨_,rfl,_,rfl,i_,λp1 aj=>?_⟩;have s1:Same H (upd H p1 (.lst [.str x])):=Same.new aj;refine⟨a,p1,f,ks,[x],rfl,s1 _ _ ha,ai,ah,eF.of eI,λp2 H2 s2 h2 n2=>?_⟩;refine⟨_,rfl,_,rfl,_,rfl,a,f x,rfl,?_,?_⟩
 . have:=gc.k (k:=Sum.inr x) (s2 _ _ (s1 _ _ ha));rw[ie,if_pos hx] at this;exact this
 refine⟨p2,y,_,f,eE [x] ks,rfl,h2,Q05 (Q0i _ _) ah,hy,λp3 H3 s3 h3 n3=>?_⟩;exact q p3 H3 ((s1.trans s2).trans s3) h3 (none_of (s1.trans s2) n3)
theorem KW:fk ["record","names","into"] ["record","names","into"] (eR (top 31)):=fA
theorem KY (T:Tb mg)(aj:Dn K mg "nested" rD (top 31) ak al)(J:Dn K mg "with_field" oR (top 29) L U)(Y:eh P w K mg base er (1) L U oR (vm))(aa:Dn K mg "rest_of" jl (top 28) ab ac)(ae:eh P w K mg base er (2) ab ac jl (sg K))(af:Dn K mg "part_of" jl (top 27) ag ah)(ai:eh P w K mg base er (1) ag ah jl (vf K)):eh P w K mg base er (3) ak al rD (DS K):=by
 refine aj.F.ok KW λvs H Q E h=>?_;obtain⟨a,l,y,f,ks,ss,rfl,ha,ao,am,hl,ap,an,aq,hy,q⟩:=h;refine⟨rfl,λar A outer s nd hr hu=>?_⟩;refine⟨_,(eB (eJ (eL Y hr J (a_ (eL ae hr aa (a_ (pv 0) (a_ (pv 1) c_))) (a_ (pv 2) (a_ (eL ai hr af (a_ (pv 0) (a_ (pv 1) c_))) c_)))))),?_⟩
 ac_rfl
 refine⟨_,rfl,_,rfl,?_⟩;refine⟨a,l,f,ks,ss,rfl,ha,ao,am,hl,λp2 H2 s2 h2 n2=>?_⟩;refine⟨_,rfl,_,rfl,_,rfl,?_⟩;refine⟨a,l,_,ss,f,rfl,s2 _ _ ha,eF.mG hl s2,ap,an,λx hx=>by rw[ie,if_pos (aq x hx)],λp3 H3 s3 h3 n3=>?_⟩;refine⟨p2,y,_,f,eE ss ks,rfl,s3 _ _ h2,Q05 (Q0i _ _) am,hy,λp4 H4 s4 h4 n4=>?_⟩;exact q p4 p3 H4 ((s2.trans s3).trans s4) h4 (s4 _ _ h3) (none_of (s2.trans s3) n4) (none_of s2 n3) (λz=>by rw[z,h3] at n4;cases n4)
theorem KZ:fk ["record","field","fresh"] ["record","field"] (eR (top 32)):=fA
theorem K0 (T:Tb mg)(J:Dn K mg "unnested" oS (top 32) L U)(Y:Dn K mg "rest_of" jl (top 28) aa ab)(ac:eh P w K mg base er (2) aa ab jl (sg K)):eh P w K mg base er (3) L U oS (vn):=by
 refine J.F.ok KZ λvs H Q E h=>?_;obtain⟨a,c,x,f,g,ks,ms,rfl,ha,af,ae,hx,hf,hc,ah,q⟩:=h;refine⟨rfl,λai A outer s nd hr hu=>?_⟩
 refine⟨_,(en (eT 2 nd (eL ac hr Y (a_ (pv 0) (a_ (gA (a_ (pv 1) c_)) c_))))
  (en (jt (lG PySem.F.plainAttrs_dict PySem.F.slot_dict_update PySem.F.type_dict_update J_ (pv 2) (a_ (iw hu (pv 0) (pv 1) (λ_ _=>rfl)) c_)))
  (eB (eJ (pv 2))))),?_⟩
 ac_rfl
 refine⟨_,rfl,_,rfl,i_,λp1 ag=>?_⟩;have s1:Same H (upd H p1 (.lst [.str x])):=Same.new ag;refine⟨a,p1,f,ks,[x],rfl,s1 _ _ ha,af,ae,eF.of eI,λp2 H2 s2 h2 n2=>?_⟩;refine⟨_,rfl,.inr (.inr (.inl ⟨rfl,.inl ⟨_,h2⟩⟩)),_,rfl,_,rfl,a,.ref c,rfl,?_,?_⟩
 . have:=gc.k (k:=Sum.inr x) (s2 _ _ (s1 _ _ ha));rw[ie,if_pos hx,hf] at this;exact this
 have np:H p2=none:=none_of s1 n2;refine⟨p2,c,_,_,rfl,rfl,(λz=>by rw[<-z,np] at hc;cases hc),h2,s2 _ _ (s1 _ _ hc),?_,?_⟩
 . have:=Q0i (λz=>decide (z ∉ [x])) ks;rw[iG,iG];have h3:(eE [x] ks).length<=12:=Q05 this ae;exact Q0s (fX (by omega))
 refine⟨_,rfl,q p2 _ (λb o e=>?_) eI np⟩;rw[eA (eM e np)];exact s2 _ _ (s1 _ _ e)
structure ia (H:Hp) (kk t:Addr) (xs:List V) (fs:Fs):Prop where
 at_:H kk=some (.tup [.str "record",.ref t])
 tu:H t=some (.tup xs)
 fa:FA H xs fs
 nd:fs.names.Nodup
 gY:fs.names.length<=12
 W:fs.W
 so:fs.names.Pairwise sle
theorem ia.mono {H H':Hp}{kk t:Addr}{xs:List V}{fs:Fs}(h:ia H kk t xs fs)(u:Tu H H'):ia H' kk t xs fs:=
 ⟨u _ _ h.at_,u _ _ h.tu,FA.mono u fs h.fa,h.nd,h.gY,h.W,h.so⟩
theorem ia.swap {H:Hp}{kk t r t' c:Addr}{u:V}{x:Str}{k:Kd}{xs:List V}{fs:Fs}(ss:List Str)(h:ia H kk t xs fs)(h1:H r=some (.tup [.str "record",.ref t']))(h2:H t'=some (.tup (lZ x (.ref c) (fC (eE ss fs.names) xs fs.names) (eE ss fs.names))))(hc:H c=some (.tup [.str x,u]))(hk:KA H u k)(hw:k.W)(U:fs.names.length<=11)(L:x ∉ eE ss fs.names):
 ia H r t' (lZ x (.ref c) (fC (eE ss fs.names) xs fs.names) (eE ss fs.names)) ((fs.fe (eE ss fs.names)).ins x k):=by
 have z:=iZ ss fs;have hi:((fs.fe (eE ss fs.names)).ins x k).names=ix id x (eE ss fs.names):=by rw[Fs.kF,z]
 have J:=FA.ins hc hk _ (FA.few (ss:=eE ss fs.names) fs h.fa);rw[z] at J;refine⟨h1,h2,J,?_,?_,Fs.DK hw (Fs.rY _ h.W),?_⟩
 . rw[hi];exact vi (h.nd.filter _) L
 . rw[hi,o7];have:=Q0i (λx=>decide (x ∉ ss)) fs.names;show(fs.names.filter λx=>decide (x ∉ ss)).length+1<=12;omega
 . rw[hi];exact r8 x (h.so.filter _)
theorem DT {K:W.Frag}{P2:Addr}{H:Hp}{Q:VK}{E:XK}{kk t c l:Addr}{u:V}{y:Str}{k:Kd}{xs:List V}{fs:Fs}(ss:List Str)(hK:ia H kk t xs fs)(hc:H c=some (.tup [.str y,u]))(hk:KA H u k)(hw:k.W)(U:fs.names.length<=11)(hy:y ∉ eE ss fs.names)(hT:eV P2 gE gF H)
 (hl:H l=some (.lst (fC (eE ss fs.names) xs fs.names++[.ref c])))
 (q:∀r t' H',fV P2 H H'->eV P2 gE gF H'->ia H' r t' (lZ y (.ref c) (fC (eE ss fs.names) xs fs.names) (eE ss fs.names)) ((fs.fe (eE ss fs.names)).ins y k)->Q (.ref r) H'):rX K P2 [.ref l] H Q E:=by
 obtain⟨J,e1,L,aa⟩:=jk.of (FA.few (ss:=eE ss fs.names) fs hK.fa);rw[iZ] at L;obtain⟨pl,hs⟩:=kY.of hk
 have ae:J.length<=11:=by
  rw[<-nR,L];exact Q05 (Q0i _ _) U
 have ev:fT (J++[(.ref c,y,pl)])=fC (eE ss fs.names) xs fs.names++[.ref c]:=by
  rw[<-e1];unfold fT;rw[Q0h];rfl
 refine⟨l,J++[(.ref c,y,pl)],ix (·.2.1) (.ref c,y,pl) J,rfl,eF.of (by rw[ev];exact hl),?_,?_,hT,(nS _ _ _).trans (Q3o _ J).symm,?_,?_,λr t' H' kp ab Y ac=>?_⟩
 . intro z hz;rcases List.mem_append.mp hz with h|h
   . exact aa z h
   . rw[List.mem_singleton.mp h];exact⟨c,u,rfl,hc,hs⟩
 . rw[Q0c];show J.length+1<=13;omega
 . rw[r_,L];exact vi (hK.nd.filter _) hy
 . rw[r_,L];exact r8 y (hK.so.filter _)
 . have tu:=kp.tu hT;rw[DJ,e1,L] at Y;exact q r t' H' kp ab ((hK.mono tu).swap ss ac Y (tu _ _ hc) (hk.mono tu) hw U hy)
structure l4 (K:W.Frag) (mg:Str->Option Value) (C fI fB fS fP fG fK:Addr):Prop where
 ct:Cls K C
 na:kO K C "old"
 nn:kO K C "new"
 vp:Mk K C fI
 m:mg "Rename"=some (.ref C)
 b:Meth K C "behind" fB
 s:Meth K C "see" fS
 p:Meth K C "put" fP
 g:Meth K C "grade" fG
 k:Meth K C "keeps" fK
abbrev jK (H:Hp) (C v dx:Addr) (x y:Str):Prop:=H v=some (.ins C dx [("old",.str x),("new",.str y)])
def DU (C:Addr):Sp:=λvs H Q _=>∃v dx x y,vs=[.ref v,.str x,.str y]/\H v=some (.ins C dx [])/\∀H',(∀c o,c≠v->H c=some o->H' c=some o)->jK H' C v dx x y->Q .non H'
def sm (P2 C:Addr):Sp:=λvs H Q _=>∃v kk t dx x y xs fs k,vs=[.ref v,.ref kk]/\jK H C v dx x y/\ia H kk t xs fs/\fs.names.length<=11/\fs.get x=some k/\y ∉ fs.names/\eV P2 gE gF H/\
 ∀r t' c u H',fV P2 H H'->eV P2 gE gF H'->H c=none->H' c=some (.tup [.str y,u])->KA H u k->ia H' r t' (lZ y (.ref c) (fC (eE [x] fs.names) xs fs.names) (eE [x] fs.names)) ((fs.fe (eE [x] fs.names)).ins y k)->Q (.ref r) H'
def DV (C:Addr):Sp:=λvs H Q _=>∃v z a dx x y,∃f:Str->V,∃ks:List Str,vs=[.ref v,z,.ref a]/\jK H C v dx x y/\H a=some (.dK (eG f ks))/\ks.Nodup/\ks.length<=12/\x∈ks/\y ∉ eE [x] ks/\∀p H',Same H H'->H' p=some (.dK (eG (gv f y (f x)) (eE [x] ks++[y])))->H p=none->Q (.ref p) H'
def sr:Sp:=λvs H Q _=>∃v,vs=[v]/\Q (.str "full") H
def DW (C:Addr):Sp:=λvs H Q _=>∃v dx x y z,vs=[.ref v,.str z]/\jK H C v dx x y/\Q (.bl (decide (z≠x/\z≠y))) H
section
variable {P:Program}{w:World}{K:W.Frag}{mg:Str->Option Value}{base:Heap}
variable {C P2:Addr}
theorem K1:fk ["self","old","new"] ["self","old","new"] (eR (eW 33 0)):=fA
theorem K2 (T:Tb mg)(RF:l4 K mg C z U aa ab ac Y)(J:Dm K "__init__" "Rename.__init__" rE (eW 33 0) z L):eh P w K mg base er (1) z L rE (DU C):=by
 refine J.F.ok K1 λvs H Q E h=>?_;obtain⟨v,dx,x,y,rfl,hv,q⟩:=h;refine⟨rfl,λae A outer s nd hr hu=>?_⟩
 refine⟨_,(en (qP (pv 0) (pv 1) rfl)
  (eB (qP (pv 0) (pv 2) rfl))),?_⟩
 ac_rfl
 refine⟨_,rfl,_,rfl,v,C,dx,[],rfl,hv,RF.ct,RF.na,by decide,?_⟩;refine⟨_,rfl,_,rfl,v,C,dx,_,rfl,eI,RF.ct,RF.nn,by show(1:Nat)<1000;decide,?_⟩;exact q _ (λc o hc e=>by rw[eA hc,eA hc];exact e) eI
theorem K3:fk ["self"] ["self"] (eR (eW 21 3)):=fA
theorem K4 (T:Tb mg)(z:Dm K "grade" "View.grade" nM (eW 21 3) J L):eh P w K mg base er (1) J L nM (sr):=by
 refine z.F.ok K3 λvs H Q E h=>?_;obtain⟨v,rfl,q⟩:=h;refine⟨rfl,λU A outer s Y hr hu=>?_⟩;refine⟨_,(eB (eJ fh)),?_⟩
 ac_rfl
 exact q
theorem K5:fk ["self","name"] ["self","name"] (eR (eW 33 4)):=fA
theorem K6 (T:Tb mg)(RF:l4 K mg C Y aa ab ac ae J)(L:Dm K "keeps" "Rename.keeps" my (eW 33 4) J U):eh P w K mg base er (1) J U my (DW C):=by
 refine L.F.ok K5 λvs H Q E h=>?_;obtain⟨v,dx,x,y,z,rfl,hV,q⟩:=h;refine⟨rfl,λaf A outer s nd hr hu=>?_⟩;refine⟨_,(eB (eJ (i8 (iH gZ (pv 1) (iD (pv 0) rfl) (eO _)) (js (iH gZ (pv 1) (iD (pv 0) rfl) (eO _)))))),?_⟩
 ac_rfl
 refine⟨_,rfl,_,rfl,v,C,dx,_,_,rfl,hV,RF.ct,RF.na,rfl,rfl,_,rfl,?_⟩;refine gu (λcc=>?_) (λcc=>?_)
 . refine⟨_,rfl,_,rfl,v,C,dx,_,_,rfl,hV,RF.ct,RF.nn,rfl,?_⟩;have e:z≠x:=λe=>by rw[e,decide_eq_true rfl] at cc;cases cc
   have e2:decide (z≠x/\z≠y)= !decide (V.str z=V.str y):=by
    by_cases h:z=y
    . rw[decide_eq_false (λz'=>z'.2 h),decide_eq_true (by rw[h])];rfl
    . rw[decide_eq_true ⟨e,h⟩,decide_eq_false (λz'=>h (V.str.inj z'))];rfl
   rw[e2] at q;exact⟨rfl,q⟩
 . have e:z=x:=Classical.byContradiction λe=>cc (by rw[decide_eq_false (λz'=>e (V.str.inj z'))];rfl);rw[decide_eq_false (λz'=>z'.1 e)] at q;exact q
theorem K7:fk ["self","kind","source"] ["self","kind","source"] (eR (eW 33 2)):=fA
theorem K8 (T:Tb mg)(RF:l4 K mg C U ae z ag ah af)(J:Dm K "see" "Rename.see" kE (eW 33 2) z L)(Y:Dn K mg "renamed" mx (top 30) aa ab)(ac:eh P w K mg base er (3) aa ab mx (sj)):eh P w K mg base er (4) z L kE (DV C):=by
 refine J.F.ok K7 λvs H Q E h=>?_;obtain⟨v,kv,a,dx,x,y,f,ks,rfl,hV,ha,ai,aj,hx,hy,q⟩:=h;refine⟨rfl,λak A outer s nd hr hu=>?_⟩;refine⟨_,(eB (eJ (eL ac hr Y (a_ (pv 2) (a_ (iD (pv 0) rfl) (a_ (iD (pv 0) rfl) c_)))))),?_⟩
 ac_rfl
 exact⟨_,rfl,_,rfl,v,C,dx,_,_,rfl,hV,RF.ct,RF.na,rfl,_,rfl,v,C,dx,_,_,rfl,hV,RF.ct,RF.nn,rfl,a,x,y,f,ks,rfl,ha,ai,aj,hx,hy,q⟩
theorem K9:fk ["self","kind","inner"] ["self","kind"] (eR (eW 33 1)):=fA
theorem K_ (T:Tb mg)(RF:l4 K mg C aq J ay az aA ax)(L:Dm K "behind" "Rename.behind" iY (eW 33 1) J U)(Y:Dn K mg "field_kind" rB (top 23) aa ab)(ac:eh P w K mg base er (2) aa ab rB (DR))(ae:Dn K mg "ask_stands" oQ (top 20) af ag)(ah:eh P w K mg base er (1) af ag oQ (ve))(ar:Dn K mg "kind_at" iX (top 6) au av)(aw:eh P w K mg base er (1) au av iX (DP))(am:Dn K mg "record_of" kD (top 8) an ao)(ap:eh P w K mg base er (9) an ao kD (rX K P2))(ai:Dn K mg "fields_but" kZ (top 26) aj ak)(al:eh P w K mg base er (1) aj ak kZ (vk K)):eh P w K mg base er (10) J U iY (sm P2 C):=by
 refine L.F.ok K9 λvs H Q E h=>?_;obtain⟨v,kk,t,dx,x,y,xs,fs,k,rfl,hV,hK,aF,hk,hy,hT,q⟩:=h;refine⟨rfl,λaM A outer s nd hr hu=>?_⟩
 refine⟨_,(en (eT 2 nd (eL ac hr Y (a_ (pv 1) (a_ (iD (pv 0) rfl) c_))))
  (en (jt (eL ah hr ae (a_ (i8 (iH ju (pv 2) gn (eO _)) (js (iH qO (eL aw hr ar (a_ (eK (pv 1) d_) (a_ (iD (pv 0) rfl) c_))) gn (eO _)))) c_)))
  (eB (eJ (eL ap hr am (a_ (eN nj (eL al hr ai (a_ (eK (pv 1) d_) (a_ (gA (a_ (iD (pv 0) rfl) c_)) c_))) (gA (a_ (ik (a_ (iD (pv 0) rfl) (a_ (pv 2) c_))) c_))) c_)))))),?_⟩
 ac_rfl
 refine⟨_,rfl,_,rfl,v,C,dx,_,_,rfl,hV,RF.ct,RF.na,rfl,kk,t,x,xs,fs,k,rfl,hK.at_,hK.tu,hK.fa,hK.nd,hk,λu hu aG=>?_⟩;refine⟨_,rfl,rfl,_,rfl,?_⟩;rw[decide_eq_false aG];refine gB ?_;refine⟨_,rfl,kk,_,_,_,rfl,rfl,eu.of hK.at_,rfl,_,rfl,v,C,dx,_,_,rfl,hV,RF.ct,RF.nn,rfl,t,y,xs,fs,rfl,hK.tu,hK.fa,hy,rfl,?_⟩;refine⟨congrArg (λb=>[V.bl b]) (decide_eq_true rfl),?_⟩;refine⟨_,rfl,kk,_,_,_,rfl,rfl,eu.of hK.at_,rfl,_,rfl,v,C,dx,_,_,rfl,hV,RF.ct,RF.na,rfl,i_,λp1 aH=>?_⟩;have s1:Same H (upd H p1 (.lst [.str x])):=Same.new aH;have aC:=hK.mono (Tu.of s1);refine⟨t,p1,xs,fs,[x],rfl,aC.tu,aC.fa,aC.gY,eF.of eI,λp2 H2 s2 h2 n2=>?_⟩;have aB:=s1.trans s2;have aN:=hK.mono (Tu.of aB);refine⟨_,rfl,v,C,dx,_,_,rfl,aB _ _ hV,RF.ct,RF.nn,rfl,_,rfl,hX,λc hc=>?_⟩;refine⟨i_,λp3 aI=>?_⟩;have s3:Same H2 (upd H2 c (.tup [.str y,u])):=Same.new hc;have s4:Same (upd H2 c (.tup [.str y,u])) (upd (upd H2 c (.tup [.str y,u])) p3 (.lst [.ref c])):=Same.new aI
 have aL:(fC (eE [x] fs.names) xs fs.names).length<=12:=by
  rw[FA.len _ (FA.few (ss:=eE [x] fs.names) fs hK.fa),iZ];exact Q05 (Q0i _ _) hK.gY
 refine⟨p2,p3,_,_,rfl,rfl,s4 _ _ (s3 _ _ h2),eI,Q0s (fX (by show _+1<=_;omega)),λp4 aD=>?_⟩;have s5:=(aB.trans (s3.trans s4)).trans (Same.new aD (o:=.lst (fC (eE [x] fs.names) xs fs.names++[.ref c])));have aE:=s4.trans (Same.new aD (o:=.lst (fC (eE [x] fs.names) xs fs.names++[.ref c])));refine DT (K:=K) (P2:=P2) (E:=E0) [x] (hK.mono (Tu.of s5)) (aE _ _ eI) (hu.mono (Tu.of s5)) (Fs.qh hK.W hk) aF (λz=>hy (f6.mp z).1) (hT.same s5) eI λr t' H' kp aJ aK=>?_;refine q r t' c u H' ((Kp.of s5).trans kp) aJ (none_of aB hc) ?_ hu aK;obtain⟨ps,hP⟩:=(hT.same s5).tab;exact(kp.tu (hT.same s5)) _ _ (aE _ _ eI)
end
structure l6 (K:W.Frag) (mg:Str->Option Value) (C fI fB fS fP fG fK:Addr):Prop where
 ct:Cls K C
 na:kO K C "names"
 ni:kO K C "into"
 vp:Mk K C fI
 m:mg "Nest"=some (.ref C)
 b:Meth K C "behind" fB
 s:Meth K C "see" fS
 p:Meth K C "put" fP
 g:Meth K C "grade" fG
 k:Meth K C "keeps" fK
structure jo (H:Hp) (C v dx nl:Addr) (ss:List Str) (y:Str):Prop where
 ob:H v=some (.ins C dx [("names",.ref nl),("into",.str y)])
 nl:H nl=some (.lst (ss.map V.str))
 nd:ss.Nodup
 gY:ss.length<=12
theorem jo.same {H H':Hp}{C v dx z:Addr}{ss:List Str}{y:Str}(h:jo H C v dx z ss y)(s:Same H H'):jo H' C v dx z ss y:=⟨s _ _ h.ob,s _ _ h.nl,h.nd,h.gY⟩
def DX (K:W.Frag) (C:Addr):Sp:=λvs H Q _=>∃v hl dx y,∃ss:List Str,vs=[.ref v,.ref hl,.str y]/\H v=some (.ins C dx [])/\eF K H hl (ss.map V.str)/\ss.Nodup/\ss.length<=12/\∀p H',H p=none->(∀c o,c≠v->H c=some o->H' c=some o)->jo H' C v dx p ss y->Q .non H'
def su (P2 C:Addr):Sp:=λvs H Q _=>∃v kk t dx L y xs fs ss,vs=[.ref v,.ref kk]/\jo H C v dx L ss y/\ia H kk t xs fs/\fs.names.length<=11/\(∀x∈ss,x∈fs.names)/\y ∉ eE ss fs.names/\eV P2 gE gF H/\
 ∀r t' c z J H',fV P2 H H'->eV P2 gE gF H'->H c=none->H' c=some (.tup [.str y,.ref z])->H' z=some (.tup [.str "record",.ref J])->H' J=some (.tup (fC ss xs fs.names))->ia H' r t' (lZ y (.ref c) (fC (eE ss fs.names) xs fs.names) (eE ss fs.names)) ((fs.fe (eE ss fs.names)).ins y (.fx (fs.fe ss)))->Q (.ref r) H'
def DY (C:Addr):Sp:=λvs H Q _=>∃v z a dx J y,∃f:Str->V,∃ks ss:List Str,vs=[.ref v,z,.ref a]/\jo H C v dx J ss y/\H a=some (.dK (eG f ks))/\ks.Nodup/\ks.length<=12/\(∀x∈ss,x∈ks)/\y ∉ eE ss ks/\∀p c H',Same H H'->H' p=some (.dK (eG (gv f y (.ref c)) (eE ss ks++[y])))->H' c=some (.dK (eG f ss))->H p=none->H c=none->p≠c->Q (.ref p) H'
def DZ (C:Addr):Sp:=λvs H Q _=>∃v dx J y z ss,vs=[.ref v,.str z]/\jo H C v dx J ss y/\Q (.bl (decide (z ∉ ss/\z≠y))) H
theorem FA.D0 {H:Hp}{z J kk t:Addr}{xs:List V}{fs:Fs}(ss:List Str)(hK:ia H kk t xs fs)(h1:H z=some (.tup [.str "record",.ref J]))(h2:H J=some (.tup (fC ss xs fs.names))):KA H (.ref z) (.fx (fs.fe ss))/\(Kd.fx (fs.fe ss)).W:=by
 refine⟨?_,?_⟩
 . unfold KA;exact⟨z,J,_,rfl,h1,h2,FA.few fs hK.fa⟩
 . unfold Kd.W;exact⟨by rw[Fs.i5];exact hK.nd.filter _,by rw[Fs.i5];exact Q05 (Q0i _ _) hK.gY,Fs.rY ss hK.W⟩
section
variable {P:Program}{w:World}{K:W.Frag}{mg:Str->Option Value}{base:Heap}
variable {C P2:Addr}
theorem La:fk ["self","names","into"] ["self","names","into"] (eR (eW 34 0)):=fA
theorem Lb (T:Tb mg)(NF:l6 K mg C z U ab ac Y aa)(J:Dm K "__init__" "Nest.__init__" rF (eW 34 0) z L):eh P w K mg base er (1) z L rF (DX K C):=by
 refine J.F.ok La λvs H Q E h=>?_;obtain⟨v,hl,dx,y,ss,rfl,hv,hs,af,ag,q⟩:=h;refine⟨rfl,λah A outer s nd hr hu=>?_⟩
 refine⟨_,(en (qP (pv 0) (jO tX (by rfl) T.j4 boot_list (a_ (pv 1) c_)) rfl)
  (eB (qP (pv 0) (pv 2) rfl))),?_⟩
 ac_rfl
 refine⟨_,rfl,hl,_,rfl,.inl hs,λp hp=>?_⟩;have ae:v≠p:=eM hv hp;refine⟨_,rfl,v,C,dx,[],rfl,by rw[eA ae];exact hv,NF.ct,NF.na,by decide,?_⟩;refine⟨_,rfl,_,rfl,v,C,dx,_,rfl,eI,NF.ct,NF.ni,by show(1:Nat)<1000;decide,?_⟩;refine q p _ hp (λc o hc e=>by rw[eA hc,eA hc,eA (eM e hp)];exact e) ⟨eI,?_,af,ag⟩;rw[eA (Ne.symm ae),eA (Ne.symm ae),eI]
theorem Ld:fk ["self","name"] ["self","name"] (eR (eW 34 4)):=fA
theorem Le (T:Tb mg)(NF:l6 K mg C Y aa ac ae ab J)(L:Dm K "keeps" "Nest.keeps" my (eW 34 4) J U):eh P w K mg base er (1) J U my (DZ C):=by
 refine L.F.ok Ld λvs H Q E h=>?_;obtain⟨v,dx,nl,y,z,ss,rfl,hV,q⟩:=h;refine⟨rfl,λaf A outer s nd hr hu=>?_⟩;refine⟨_,(eB (eJ (i8 (iH oj (pv 1) (iD (pv 0) rfl) (by with_unfolding_all rfl)) (js (iH gZ (pv 1) (iD (pv 0) rfl) (eO _)))))),?_⟩
 ac_rfl
 refine⟨_,rfl,_,rfl,v,C,dx,_,_,rfl,hV.ob,NF.ct,NF.na,rfl,nl,_,rfl,.inl (eF.of hV.nl),rfl,lY,_,rfl,?_⟩;refine gu (λcc=>?_) (λcc=>?_)
 . refine⟨_,rfl,_,rfl,v,C,dx,_,_,rfl,hV.ob,NF.ct,NF.ni,rfl,rfl,?_⟩
   have e:z ∉ ss:=λe=>by
    have cc:(!inV (V.str z) (ss.map V.str))=true:=cc;rw[jn,decide_eq_true e] at cc
    cases cc
   have e2:decide (z ∉ ss/\z≠y)= !decide (V.str z=V.str y):=by
    by_cases h:z=y
    . rw[decide_eq_false (λz'=>z'.2 h),decide_eq_true (by rw[h])];rfl
    . rw[decide_eq_true ⟨e,h⟩,decide_eq_false (λz'=>h (V.str.inj z'))];rfl
   rw[e2] at q;exact q
 . have e:z∈ss:=Classical.byContradiction λe=>cc (show(!inV (V.str z) (ss.map V.str))=true by rw[jn,decide_eq_false e];rfl);rw[decide_eq_false (λz'=>z'.1 e)] at q;exact q
theorem Lf:fk ["self","kind","source"] ["self","kind","source"] (eR (eW 34 2)):=fA
theorem Lg (T:Tb mg)(NF:l6 K mg C U ae z ah af ag)(J:Dm K "see" "Nest.see" kE (eW 34 2) z L)(Y:Dn K mg "nested" rD (top 31) aa ab)(ac:eh P w K mg base er (3) aa ab rD (DS K)):eh P w K mg base er (4) z L kE (DY C):=by
 refine J.F.ok Lf λvs H Q E h=>?_;obtain⟨v,kv,a,dx,nl,y,f,ks,ss,rfl,hV,ha,ai,aj,ak,hy,q⟩:=h;refine⟨rfl,λal A outer s nd hr hu=>?_⟩;refine⟨_,(eB (eJ (eL ac hr Y (a_ (pv 2) (a_ (iD (pv 0) rfl) (a_ (iD (pv 0) rfl) c_)))))),?_⟩
 ac_rfl
 exact⟨_,rfl,_,rfl,v,C,dx,_,_,rfl,hV.ob,NF.ct,NF.na,rfl,_,rfl,v,C,dx,_,_,rfl,hV.ob,NF.ct,NF.ni,rfl,a,nl,y,f,ks,ss,rfl,ha,ai,aj,eF.of hV.nl,hV.nd,hV.gY,ak,hy,q⟩
theorem Lh:fk ["self","kind","rest"] ["self","kind"] (eR (eW 34 1)):=fA
theorem Li (T:Tb mg)(NF:l6 K mg C aA J aI aJ aD aE)(ag:Dm K "behind" "Nest.behind" iY (eW 34 1) J ah)(ab:Dn K mg "has_each_once" rA (top 24) ac ae)(af:eh P w K mg base er (3) ac ae rA (DE K))(L:Dn K mg "ask_stands" oQ (top 20) am an)(U:eh P w K mg base er (1) am an oQ (ve))(aw:Dn K mg "kind_at" iX (top 6) ax ay)(az:eh P w K mg base er (1) ax ay iX (DQ K))(Y:Dn K mg "record_of" kD (top 8) au av)(aa:eh P w K mg base er (9) au av kD (rX K P2))(ao:Dn K mg "fields_but" kZ (top 26) ap aq)(ar:eh P w K mg base er (1) ap aq kZ (vk K))(ai:Dn K mg "fields_among" kZ (top 25) aj ak)(al:eh P w K mg base er (1) aj ak kZ (DF K)):eh P w K mg base er (10) J ah iY (su P2 C):=by
 refine ag.F.ok Lh λvs H Q E h=>?_;obtain⟨v,kk,t,dx,nl,y,xs,fs,ss,rfl,hV,hK,aZ,a1,hy,hT,q⟩:=h;refine⟨rfl,λa9 A outer s nd hr hu=>?_⟩
 refine⟨_,(en (jt (eL U hr L (a_ (eL af hr ab (a_ (pv 1) (a_ (iD (pv 0) rfl) c_))) c_)))
  (en (eT 2 nd (eL ar hr ao (a_ (eK (pv 1) d_) (a_ (iD (pv 0) rfl) c_))))
  (en (jt (eL U hr L (a_ (iH qO (eL az hr aw (a_ (pv 2) (a_ (iD (pv 0) rfl) c_))) gn (eO _)) c_)))
  (eB (eJ (eL aa hr Y (a_ (eN nj (pv 2) (gA (a_ (ik (a_ (iD (pv 0) rfl) (a_ (eL aa hr Y (a_ (eL al hr ai (a_ (eK (pv 1) d_) (a_ (iD (pv 0) rfl) c_))) c_)) c_))) c_))) c_))))))),?_⟩
 ac_rfl
 refine⟨_,rfl,_,rfl,v,C,dx,_,_,rfl,hV.ob,NF.ct,NF.na,rfl,kk,t,nl,xs,fs,ss,rfl,hK.at_,hK.tu,hK.fa,hK.nd,eF.of hV.nl,hV.nd,hV.gY,a1,λH1 s1=>⟨rfl,?_⟩⟩;have aF:=hK.mono (Tu.of s1);have aN:=hV.same s1;refine⟨_,rfl,kk,_,_,_,rfl,rfl,eu.of aF.at_,rfl,_,rfl,v,C,dx,_,_,rfl,aN.ob,NF.ct,NF.na,rfl,t,nl,xs,fs,ss,rfl,aF.tu,aF.fa,aF.gY,eF.of aN.nl,λp2 H2 s2 h2 n2=>?_⟩;have aK:=s1.trans s2;have aC:=hK.mono (Tu.of aK);have aG:=hV.same aK;have aY:=FA.few (ss:=eE ss fs.names) fs aC.fa;refine⟨_,rfl,_,rfl,v,C,dx,_,_,rfl,aG.ob,NF.ct,NF.ni,rfl,p2,y,_,_,rfl,h2,aY,by rw[iZ];exact hy,rfl,?_⟩;refine⟨congrArg (λb=>[V.bl b]) (decide_eq_true rfl),?_⟩;refine⟨_,rfl,_,rfl,v,C,dx,_,_,rfl,aG.ob,NF.ct,NF.ni,rfl,?_⟩;refine⟨_,rfl,kk,_,_,_,rfl,rfl,eu.of aC.at_,rfl,_,rfl,v,C,dx,_,_,rfl,aG.ob,NF.ct,NF.na,rfl,t,nl,xs,fs,ss,rfl,aC.tu,aC.fa,aC.gY,eF.of aG.nl,λp3 H3 s3 h3 n3=>?_⟩;have aB:=aK.trans s3;have aO:=hK.mono (Tu.of aB);obtain⟨qs,e1,e2,a2⟩:=jk.of (FA.few (ss:=ss) fs aO.fa);rw[<-e1] at h3
 have ba:qs.length<=12:=by
  rw[<-nR,e2,Fs.i5];exact Q05 (Q0i _ _) hK.gY
 refine⟨p3,qs,qs,rfl,eF.of h3,a2,by omega,hT.same aB,.refl _,by rw[e2,Fs.i5];exact hK.nd.filter _,by rw[e2,Fs.i5];exact hK.so.filter _,λr1 t1 H4 aH aP aL aT=>?_⟩;rw[e1] at aL;have a3:=aH.tu (hT.same aB);have aU:=aO.mono a3;obtain⟨a4,kw⟩:=FA.D0 ss aU aT aL;obtain⟨ps,hP⟩:=(hT.same aB).tab;have nP:∀c o,H3 c=some o->(∀ps,o≠ .fO ps)->H4 c=some o:=λc o e ho=>aH c o (λz=>by rw[z,hP] at e;cases e;exact ho _ rfl) e;refine⟨hX,λc hc=>?_⟩;refine⟨i_,λp5 a5=>?_⟩;have s5:Same H4 (upd H4 c (.tup [.str y,.ref r1])):=Same.new hc;have s6:Same (upd H4 c (.tup [.str y,.ref r1])) (upd (upd H4 c (.tup [.str y,.ref r1])) p5 (.lst [.ref c])):=Same.new a5
 have a8:(fC (eE ss fs.names) xs fs.names).length<=12:=by
  rw[FA.len _ (FA.few (ss:=eE ss fs.names) fs hK.fa),iZ];exact Q05 (Q0i _ _) hK.gY
 refine⟨p2,p5,_,_,rfl,rfl,s6 _ _ (s5 _ _ (nP _ _ (s3 _ _ h2) (by intro ps z;cases z))),eI,Q0s (fX (by show _+1<=_;omega)),λp7 aV=>?_⟩;have s7:=(s5.trans s6).trans (Same.new aV (o:=.lst (fC (eE ss fs.names) xs fs.names++[.ref c])));have aW:=s6.trans (Same.new aV (o:=.lst (fC (eE ss fs.names) xs fs.names++[.ref c])));have aX:=aP.same s7;refine DT (K:=K) (P2:=P2) (E:=E0) ss (aU.mono (Tu.of s7)) (aW _ _ eI) (a4.mono (Tu.of s7)) kw aZ hy aX eI λr t' H' kp a6 a7=>?_;have aM:=kp.tu aX;refine q r t' c r1 t1 H' ((Kp.of aB).trans (aH.trans ((Kp.of s7).trans kp))) a6 ?_ (aM _ _ (aW _ _ eI)) (aM _ _ (s7 _ _ aT)) (aM _ _ (s7 _ _ aL)) a7
 cases e:H c with
 |none=>rfl
 |some o=>
  by_cases z:c=P2
  . obtain⟨bb,h2⟩:=aP.tab;rw[<-z,hc] at h2;cases h2
  . have:=aH c o z (aB _ _ e);rw[hc] at this;cases this
end
def vq (n:Nat):Sp:=λvs H Q _=>∃kk t a xs fs kvs,∃δ:Str->D,∃S:List Addr,vs=[.ref kk,.ref a]/\ia H kk t xs fs/\H a=some (.dK kvs)/\RecAt S n H fs kvs δ/\∀H',Same H H'->Q .non H'
noncomputable abbrev D1:List Value:=[.type "ValueError",.type "Exception",.type "BaseException",.type "object"]
structure o8 (K:W.Frag) (mg:Str->Option Value) (base:Heap) (C fI:Addr):Prop where
 xi:mD base C fI D1 "ValueError.__new__"
 kp:W.keepIn K (.ref C)=true
 m:mg "CantPut"=some (.ref C)
 fld:mE K C "way"
 cls:oF K C
 ty:W.typeIn K (.ref C)=some (.type "type")
 is:(W.clsIn K C).isSome=true
 bx:W.subIn K (.ref C) (.type "BaseException")=some true
 sub:W.subIn K (.ref C) (.ref C)=some true
theorem vv {P:Program}{w:World}{K:W.Frag}{mg:Str->Option Value}{base:Heap}{x qual:Str}{st:Stmt}{f:Addr}{fd:FuncData}{N ps:List Str}{k:Nat}{sp:Sp}(F:km K x qual st f fd)(S:fk N ps (eR st))(len:∀vs H Q E,sp vs H Q E->vs.length=ps.length)
 (J:∀(z:Value) (A:Around) (outer:List Env) (s:Shared) (H:Hp) (vs:List V) (Q:VK) (E:XK),gi k (A.deeper (envOfC qual (eR st) s.heap.objs.size f z))->sp vs H Q E->
   ∃t,je (eY (i4 P w) P w K mg base N qual (eR st) f z A outer s H E) (iA st) t/\t { nx:=λ_ H'=>Q .non H',rt:=Q } (start N vs) H):eh P w K mg base (i4 P w) (k+1) f fd ps sp:=by
 obtain⟨oc,od,kV,aa,pm,an,z,ct,ab,rfl,Y,L⟩:=F.ex;refine tO Y L S len λA outer s H vs Q E hr U=>?_;exact J z A outer s H vs Q E hr U
theorem toD {P:Program}{w:World}{K:W.Frag}{mg:Str->Option Value}{base:Heap}{CX:iV}{k:Nat}{f:Addr}{fd:FuncData}{ps:List Str}{sp:Sp}(F:eh P w K mg base er k f fd ps sp):eh P w K mg base CX k f fd ps sp:=
 ⟨F.len,λA outer s H args us vs Q E z J L U Y=>codeAny_mono (F.run A outer s H args us vs Q E z J L U Y) λr s' h=>by
   cases r with
   |error e=>exact False.elim h
   |ok fl=>cases fl <;> exact h⟩
theorem Lj {X:Cx}{K:W.Frag}{e:Expr}{ta:TE}{f:Str}{pos:Pos}(hK:X.K=K)(z:PE X e ta)(J:attributeBase e f X.env (eval e X.env)=eval e X.env):PE X (.Attribute e f pos) (Dp K ta f):=by
 subst hK;exact JS z J
def Wr (S:List Addr) (n:Nat) (H:Hp) (fs:Fs) (v:V) (pl:List V):Prop:=
 ∃a kvs,v=.ref a/\H a=some (.dK kvs)/\((kvs.length≠fs.names.length/\pl=[])\/∃(y:Str) (δ:Str->D),kvs.length=fs.names.length/\y∈fs.names/\ft kvs (Sum.inr y)=some .non/\pl=[.str y]/\
  ∀x k,x≠y->fs.get x=some k->∃v fp,ft kvs (Sum.inr x)=some v/\Own H v (δ x) fp/\(∀c∈fp,c ∉ S)/\fZ k (δ x)/\(δ x).dep<=n/\(δ x).Sm)
theorem Wr.keep {S:List Addr}{n:Nat}{H H':Hp}{fs:Fs}{v:V}{pl:List V}(h:Wr S n H fs v pl)(t:Tu H H')(k:∀c o,c ∉ S->H c=some o->H' c=some o)(J:∀c kvs,H c=some (.dK kvs)->H' c=some (.dK kvs)):Wr S n H' fs v pl:=by
 obtain⟨a,kvs,e,L,h⟩:=h;refine⟨a,kvs,e,J _ _ L,?_⟩;rcases h with h|⟨y,δ,h1,h2,U,Y,h5⟩
 . exact .inl h
 . refine .inr ⟨y,δ,h1,h2,U,Y,λx q hx hq=>?_⟩;obtain⟨v,fp,g1,g2,z,g4⟩:=h5 x q hx hq;exact⟨v,fp,g1,Own.keep t _ (λc hc o e=>k c o (z c hc) e) g2,z,g4⟩
def vw (K:W.Frag) (C:Addr):Sp:=λvs H Q _=>∃a z J,vs=[.ref a,.ref z]/\H a=some (lX a C)/\eF K H z J/\∀p dx H',p≠a->dx≠a->(∀c o,c≠a->H c=some o->H' c=some o)->H' a=some (MadeX a C dx)->H' dx=some (.xd [("way",.ref p)])->H' p=some (.lst J)->Q .non H'
def vx (gj:Addr) (n:Nat):Sp:=λvs H _ E=>∃kk t v xs fs pl S,vs=[.ref kk,v]/\ia H kk t xs fs/\Wr S n H fs v pl/\∀dx p H',Same H H'->H' dx=some (.xd [("way",.ref p)])->H' p=some (.lst pl)->E (.ref gj) (some dx) H'
def D2 (sp:Sp):Prop:=∀vs H Q J E L,(∀z H,Q z H->J z H)->(∀c d H,E c d H->L c d H)->sp vs H Q E->sp vs H J L
def D3 (gj C:Addr) (sp:Sp):Sp:=λvs H Q _=>∃v kk src w,vs=[.ref v,.ref kk,src,w]/\(∃dx L,H v=some (.ins C dx L)/\L.lookup ("put":Str)=none)/\
 sp vs H (λz H'=>∀J H2,Same H' H2->H2 J=some (.tup [.str "done",z])->Q (.ref J) H2)
  (λU Y H'=>U=.ref gj/\∃dx p,Y=some dx/\H' dx=some (.xd [("way",.ref p)])/\∀J H2,Same H' H2->H2 J=some (.tup [.str "refused",.ref p])->Q (.ref J) H2)
structure Db (K:W.Frag) (fd:FuncData) (ps:List Str):Prop where
 b:Binds K fd ps []
section
variable {P:Program}{w:World}{K:W.Frag}{mg:Str->Option Value}{base:Heap}
variable {C P2 gj:Addr}
theorem vy:fk ["kind","seen","place"] ["kind","seen"] (eR (top 19)):=fA
theorem Lk (n j:Nat)(T:Tb mg)(z:Dn K mg "ask_fit" j6 (top 19) J L)(U:Dn K mg "misfit" h_ (top 10) Y aa)(ab:eh P w K mg base er (j+3) Y aa h_ (vb K n)):eh P w K mg base er (j+4) J L j6 (vq n):=by
 refine z.F.ok vy λvs H Q E h=>?_;obtain⟨kk,t,a,xs,fs,kvs,δ,S,rfl,hK,ha,hR,q⟩:=h;refine⟨rfl,λac A outer s nd hr hu=>?_⟩
 refine⟨_,(en (eT 2 nd (eL ab hr U (a_ (pv 0) (a_ (pv 1) c_))))
  (eB (eP (eS ju (pv 2) gn (eO _)) (eB tz) eQ))),?_⟩
 ac_rfl
 refine⟨_,rfl,_,rfl,kk,t,.ref a,rfl,hK.at_,t,.ref a,xs,fs,rfl,hK.tu,hK.fa,hK.nd,hK.gY,hK.W,.inr ⟨a,kvs,rfl,ha,.inr (.inr ⟨δ,S,hR,λH' s1=>?_⟩)⟩⟩;refine⟨_,rfl,rfl,_,rfl,?_⟩;rw[decide_eq_true rfl];exact fE (q _ s1)
theorem Ll:fk ["self","way"] ["self","way"] (eR (eW 4 0)):=fA
theorem Ln (T:Tb mg)(XC:o8 K mg base gj z)(J:Dm K "__init__" "CantPut.__init__" rG (eW 4 0) z L):eh P w K mg base er (1) z L rG (vw K gj):=by
 refine J.F.ok Ll λvs H Q E h=>?_;obtain⟨a,p0,ws,rfl,ha,hs,q⟩:=h;refine⟨rfl,λac A outer s nd hr hu=>?_⟩;refine⟨_,(eB (JM (pv 0) (jO tX (by rfl) T.j4 boot_list (a_ (pv 1) c_)) rfl)),?_⟩
 ac_rfl
 refine⟨_,rfl,p0,_,rfl,.inl hs,λp hp=>?_⟩;have U:a≠p:=eM ha hp;refine⟨_,rfl,a,gj,rfl,by rw[eA U];exact ha,XC.fld,λdx Y aa=>?_⟩;have ab:p≠dx:=eM (H:=upd H p (.lst ws)) eI Y;refine q p dx _ (Ne.symm U) aa (λc o hc e=>?_) eI ?_ ?_
 . have e1:upd H p (.lst ws) c=some o:=by rw[eA (eM e hp)];exact e
   rw[eA hc,eA (eM e1 Y)];exact e1
 . rw[eA aa,eI]
 . rw[eA (Ne.symm U),eA ab,eI]
theorem Lp (n j:Nat)(T:Tb mg)(XC:o8 K mg base gj z)(Y:Dn K mg "ask_fit" j6 (top 19) aa ab)(ae:Dn K mg "misfit" h_ (top 10) af ag)(ah:eh P w K mg base er (j+3) af ag h_ (vb K n))(J:Dm K "__init__" "CantPut.__init__" rG (eW 4 0) z L)(U:eh P w K mg base er (1) z L rG (vw K gj)):eh P w K mg base (i4 P w) (j+4) aa ab j6 (vx gj n):=by
 refine vv Y.F vy (λvs H Q E h=>?_) (λan A outer s H vs Q E hr h=>?_)
 . obtain⟨kk,t,v,xs,fs,pl,S,rfl,_⟩:=h;rfl
 obtain⟨kk,t,v,xs,fs,pl,S,rfl,hK,hw,q⟩:=h;have nd:=vy.nd
 refine⟨_,(en (eT 2 nd (eL ah hr ae (a_ (pv 0) (a_ (pv 1) c_))))
  (eB (eP (eS ju (pv 2) gn (eO _)) (eB (JP rfl XC.xi PySem.F.excBase_ValueError XC.kp U (hr.mono (by omega)) rfl rfl XC.m J.b JR (a_ (pv 2) c_))) eQ))),?_⟩
 ac_rfl
 refine⟨_,rfl,_,rfl,kk,t,v,rfl,hK.at_,t,v,xs,fs,rfl,hK.tu,hK.fa,hK.nd,hK.gY,hK.W,?_⟩
 have fin:∀(p0:Addr) (H1:Hp),Same H H1->H1 p0=some (.lst pl)->∀a,H1 a=none->vw K gj [.ref a,.ref p0] (upd H1 a (lX a gj)) (λv H2=>v=.non/\∃dx,H2 a=some (MadeX a gj dx)/\E (.ref gj) (some dx) (rem H2 a)) E0:=λp0 H1 s1 ac a ha=>by
  refine⟨a,p0,pl,rfl,eI,eF.of (by rw[eA (eM ac ha)];exact ac),λp dx H' aj ak keep al am hp=>⟨rfl,dx,al,?_⟩⟩;refine q dx p _ (λc o e=>?_) (by rw[lb ak];exact am) (by rw[lb aj];exact hp);have e1:=s1 c o e;have ai:=eM e1 ha;rw[lb ai];exact keep c o ai (by rw[eA ai];exact e1)
 obtain⟨a,kvs,e,ha,hw⟩:=hw;refine .inr ⟨a,kvs,e,ha,?_⟩;rcases hw with⟨h1,e2⟩|⟨y,δ,h1,h2,h3,e2,h5⟩
 . exact .inl ⟨h1,λp0 H1 s1 ac=>⟨_,rfl,rfl,_,rfl,gB ⟨_,rfl,i_,λa ha=>fin p0 H1 s1 (by rw[e2];exact ac) a ha⟩⟩⟩
 . refine .inr (.inl ⟨y,δ,h1,h2,h3,λx k hx hk=>?_,λp0 H1 s1 ac=>⟨_,rfl,rfl,_,rfl,gB ⟨_,rfl,i_,λa ha=>fin p0 H1 s1 (by rw[e2];exact ac) a ha⟩⟩⟩);obtain⟨v,fp,g1,g2,_,g4⟩:=h5 x k hx hk;exact⟨v,fp,g1,g2,g4⟩
theorem Lq:fk ["_law_view","_law_kind_here","_law_source","_law_seen","_law_told","e"] ["_law_view","_law_kind_here","_law_source","_law_seen"] (eR (top 48)):=fA
theorem D4 {sp:Sp}(hm:D2 sp)(j:Nat)(T:Tb mg)(CT:Cls K C)(af:Meth K C "put" ab)(XC:o8 K mg base gj Y)(J:Dn K mg "_law_put" oU (top 48) L U)(ac:Db K ae ["self","kind","source","seen"])(aa:eh P w K mg base (i4 P w) (j+5) ab ae jb sp):eh P w K mg base er (j+6) L U oU (D3 gj C sp):=by
 refine J.F.ok Lq λvs H Q E h=>?_;obtain⟨v,kk,src,w,rfl,⟨dv,fl,hV,ah⟩,h⟩:=h;refine⟨rfl,λak A outer s nd hr hu=>?_⟩;let Ek:XK:=λCv dd H'=>Cv=.ref gj/\∃dx p,dd=some dx/\H' dx=some (.xd [("way",.ref p)])/\∀tq H2,Same H' H2->H2 tq=some (.tup [.str "refused",.ref p])->Q (.ref tq) H2;have ai:∀C' dd H',Ek (.ref C') dd H'->W.subIn K (.ref C') (.ref gj)=some true:=λC' dd H' z=>by rw[z.1];exact XC.sub
 refine⟨_,(en (eT 4 nd gn)
  (en (JK (Ek:=Ek) (i:=5) rfl rfl (JH (i:=4) nd rfl (.inl rfl) (JW (Dq (JU fh) (Dq (JX (pv 0) CT af aa (hr.mono (by omega)) ac.b (a_ (pv 1) (a_ (pv 2) (a_ (pv 3) c_)))) JV)))) rfl XC.m XC.ty XC.is XC.bx ai nd rfl rfl (λa=>(eB (eT 4 nd (ik (a_ fh (a_ (Lj (K:=K) rfl (pv 5) rfl) c_)))))))
  (eB (eJ (pv 4))))),?_⟩
 ac_rfl
 refine⟨?_,λa C' dd H' na hE=>?_⟩
 . refine⟨_,rfl,v,dv,_,rfl,hV,ah,_,rfl,_,rfl,_,rfl,?_⟩;exact hm _ _ _ _ _ _ (λz H1 k=>⟨hX,λtq ag=>⟨_,rfl,k tq _ (Same.new ag) eI⟩⟩) (λ_ _ _ z=>z) h
 . obtain⟨e,dx,p,rfl,aj,q⟩:=hE;injection e with e
   subst e;have s1:Same H' (upd H' a (lW a C' (some dx))):=Same.new na;refine⟨_,rfl,a,C',dx,_,.ref p,rfl,eI,s1 _ _ aj,XC.cls,XC.fld,rfl,hX,λtq ag=>⟨_,rfl,q tq _ (s1.trans (Same.new ag)) eI⟩⟩
end
noncomputable abbrev jV (fs:Fs) (x y:Str) (k:Kd):Fs:=(fs.fe (eE [x] fs.names)).ins y k
noncomputable abbrev jz (fs:Fs) (ss:List Str) (y:Str):Fs:=(fs.fe (eE ss fs.names)).ins y (.fx (fs.fe ss))
def D5 (n:Nat) (P2 C:Addr):Sp:=λvs H Q _=>∃v kk t dx x y xs fs k src z,∃(f:Str->V) (ks:List Str) (δ:Str->D) (S:List Addr),vs=[.ref v,.ref kk,src,.ref z]/\jK H C v dx x y/\ia H kk t xs fs/\fs.names.length<=11/\fs.get x=some k/\y ∉ fs.names/\eV P2 gE gF H/\H z=some (.dK (eG f ks))/\ks.Nodup/\RecAt S n H (jV fs x y k) (eG f ks) δ/\P2∈S/\
 ∀p H',fV P2 H H'->eV P2 gE gF H'->H p=none->H' p=some (.dK (eG (gv f x (f y)) (eE [y] ks++[x])))->Q (.ref p) H'
def D6 (gj:Addr) (n:Nat) (P2 C:Addr):Sp:=λvs H _ E=>∃v kk t dx x y xs fs k src w pl S,vs=[.ref v,.ref kk,src,w]/\jK H C v dx x y/\ia H kk t xs fs/\fs.names.length<=11/\fs.get x=some k/\y ∉ fs.names/\eV P2 gE gF H/\Wr S n H (jV fs x y k) w pl/\P2∈S/\
 ∀dx p H',fV P2 H H'->eV P2 gE gF H'->H' dx=some (.xd [("way",.ref p)])->H' p=some (.lst pl)->E (.ref gj) (some dx) H'
def D7 (n:Nat) (P2 C:Addr):Sp:=λvs H Q _=>∃v kk t dx U y xs fs src J L,∃(ss:List Str) (f g:Str->V) (ks z:List Str) (δ:Str->D) (S:List Addr),vs=[.ref v,.ref kk,src,.ref J]/\jo H C v dx U ss y/\ia H kk t xs fs/\fs.names.length<=11/\(∀x∈ss,x∈fs.names)/\y ∉ eE ss fs.names/\eV P2 gE gF H/\H J=some (.dK (eG f ks))/\ks.Nodup/\RecAt S n H (jz fs ss y) (eG f ks) δ/\P2∈S/\f y=.ref L/\H L=some (.dK (eG g z))/\z.length<=12/\
 ∀p H',fV P2 H H'->eV P2 gE gF H'->H p=none->H' p=some (.dK (jJ (eG f (eE [y] ks)) (eG g z)))->Q (.ref p) H'
def D8 (gj:Addr) (n:Nat) (P2 C:Addr):Sp:=λvs H _ E=>∃v kk t dx z y xs fs src w pl S,∃ss:List Str,vs=[.ref v,.ref kk,src,w]/\jo H C v dx z ss y/\ia H kk t xs fs/\fs.names.length<=11/\(∀x∈ss,x∈fs.names)/\y ∉ eE ss fs.names/\eV P2 gE gF H/\Wr S n H (jz fs ss y) w pl/\P2∈S/\
 ∀dx p H',fV P2 H H'->eV P2 gE gF H'->H' dx=some (.xd [("way",.ref p)])->H' p=some (.lst pl)->E (.ref gj) (some dx) H'
theorem RecAt.kG {S:List Addr}{n:Nat}{H:Hp}{fs:Fs}{f:Str->V}{ks:List Str}{δ:Str->D}(h:RecAt S n H fs (eG f ks) δ)(L:fs.names.Nodup)(x:Str):x∈ks↔x∈fs.names:=by
 constructor
 . intro z;obtain⟨y,U,e⟩:=h.keys L (Sum.inr x) (by unfold eG;rw[Q13];exact List.mem_map.mpr ⟨x,z,rfl⟩)
   cases e;exact U
 . intro z;obtain⟨k,hk⟩:=Fs.nQ z;obtain⟨v,_,J,_⟩:=h.get x k hk;rw[ie] at J;by_cases e:x∈ks
   . exact e
   . rw[if_neg e] at J;cases J
theorem vz {P2:Addr}{H H':Hp}{J:Pos}{L:Str}(U:fV P2 H H')(hT:eV P2 J L H'){p:Addr}(h:H' p=none):H p=none:=by
 cases e:H p with
 |none=>rfl
 |some o=>
  by_cases z:p=P2
  . obtain⟨Y,h2⟩:=hT.tab;rw[<-z,h] at h2;cases h2
  . have:=U p o z e;rw[h] at this;cases this
section
variable {P:Program}{w:World}{K:W.Frag}{mg:Str->Option Value}{base:Heap}
variable {C P2 gj:Addr}
theorem vA:fk ["self","kind","source","seen"] ["self","kind","source","seen"] (eR (eW 33 3)):=fA
theorem Lr (n j:Nat)(T:Tb mg)(RF:l4 K mg C ae J aq L ar ao)(ab:Dm K "put" "Rename.put" jb (eW 33 3) L ac)(af:Dn K mg "ask_fit" j6 (top 19) ag ah)(ai:eh P w K mg base er (j+4) ag ah j6 (vq n))(U:Dm K "behind" "Rename.behind" iY (eW 33 1) J Y)(aa:eh P w K mg base er (10) J Y iY (sm P2 C))(aj:Dn K mg "renamed" mx (top 30) ak al)(am:eh P w K mg base er (3) ak al mx (sj))(hj:10<=j):eh P w K mg base er (j+5) L ac jb (D5 n P2 C):=by
 have CT:=RF.ct;have an:=RF.b;refine ab.F.ok vA λvs H Q E h=>?_;obtain⟨v,kk,t,dx,x,y,xs,fs,k,src,sn,f,ks,δ,S,rfl,hV,hK,az,hk,hy,hT,aA,aB,hR,jq,q⟩:=h;refine⟨rfl,λaG A outer s nd hr hu=>?_⟩
 refine⟨_,(en (jt (eL ai hr af (a_ (mn (pv 0) CT an aa (hr.mono (by omega)) U.b .nil jR (a_ (pv 1) c_)) (a_ (pv 3) c_))))
  (eB (eJ (eL am hr aj (a_ (pv 3) (a_ (iD (pv 0) rfl) (a_ (iD (pv 0) rfl) c_))))))),?_⟩
 ac_rfl
 obtain⟨ps,hP⟩:=hT.tab;refine⟨_,rfl,v,dx,_,rfl,hV,rfl,_,rfl,v,kk,t,dx,x,y,xs,fs,k,rfl,hV,hK,az,hk,hy,hT,λr t' c u H1 ap ax _ _ _ au=>?_⟩;have aC:=ap.tu hT;have nP:∀c o,H c=some o->(∀ps,o≠ .fO ps)->H1 c=some o:=λc o e ho=>ap c o (λz=>by rw[z,hP] at e;cases e;exact ho _ rfl) e;have av:=nP _ _ aA (by intro ps z;cases z);have ay:=nP _ _ hV (by intro ps z;cases z);have fH:RecAt S n H1 (jV fs x y k) (eG f ks) δ:=hR.keep aC λc o hc e=>ap c o (λz=>hc (by rw[z];exact jq)) e;refine⟨_,rfl,r,t',sn,_,_,_,δ,S,rfl,au,av,fH,λH2 s2=>?_⟩;have hn:(jV fs x y k).names=ix id y (eE [x] fs.names):=by rw[Fs.kF,iZ]
 have aw:ks.length<=12:=by
  have:=hR.len;rw[iG] at this;rw[this];exact au.gY
 have aD:x∈fs.names:=Fs.get_mem hk;have aE:y∈ks:=(fH.kG au.nd y).mpr (by rw[hn];exact qr.mpr (.inl rfl))
 have aF:x ∉ eE [y] ks:=λz=>by
  have h1:=(fH.kG au.nd x).mp (f6.mp z).1;rw[hn] at h1;rcases qr.mp h1 with e|e
  . exact hy (by rw[<-e];exact aD)
  . exact(f6.mp e).2 Q04
 refine⟨_,rfl,_,rfl,v,C,dx,_,_,rfl,s2 _ _ ay,RF.ct,RF.nn,rfl,_,rfl,v,C,dx,_,_,rfl,s2 _ _ ay,RF.ct,RF.na,rfl,sn,y,x,f,ks,rfl,s2 _ _ av,aB,aw,aE,aF,λp H3 s3 h3 n3=>?_⟩;exact q p H3 (ap.trans ((Kp.of s2).trans (Kp.of s3))) ((ax.same s2).same s3) (vz ap ax (none_of s2 n3)) h3
theorem Ls (n j:Nat)(T:Tb mg)(RF:l4 K mg C ag J ap L aq ao)(ac:Dm K "put" "Rename.put" jb (eW 33 3) L ae)(U:Dn K mg "ask_fit" j6 (top 19) ah ai)(af:eh P w K mg base (i4 P w) (j+4) ah ai j6 (vx gj n))(Y:Dm K "behind" "Rename.behind" iY (eW 33 1) J aa)(ab:eh P w K mg base er (10) J aa iY (sm P2 C))(aj:Dn K mg "renamed" mx (top 30) ak al)(am:eh P w K mg base er (3) ak al mx (sj))(hj:10<=j):eh P w K mg base (i4 P w) (j+5) L ae jb (D6 gj n P2 C):=by
 have CT:=RF.ct;have an:=RF.b;refine vv ac.F vA (λvs H Q E h=>?_) (λaA A outer s H vs Q E hr h=>?_)
 . obtain⟨v,kk,t,dx,x,y,xs,fs,k,src,w,pl,S,rfl,_⟩:=h;rfl
 obtain⟨v,kk,t,dx,x,y,xs,fs,k,src,w,pl,S,rfl,hV,hK,au,hk,hy,hT,hw,jq,q⟩:=h;have nd:=vA.nd
 refine⟨_,(en (jt (qQ af (hr.mono (by omega)) rfl U.m U.F.kp U.b .nil (Dj λ_ _ _ z=>z) (a_ (mn (pv 0) CT an ab (hr.mono (by omega)) Y.b .nil jR (a_ (pv 1) c_)) (a_ (pv 3) c_))))
  (eB (eJ (eL am hr aj (a_ (pv 3) (a_ (iD (pv 0) rfl) (a_ (iD (pv 0) rfl) c_))))))),?_⟩
 ac_rfl
 obtain⟨ps,hP⟩:=hT.tab;refine⟨_,rfl,v,dx,_,rfl,hV,rfl,_,rfl,v,kk,t,dx,x,y,xs,fs,k,rfl,hV,hK,au,hk,hy,hT,λr t' c u H1 ar av _ _ _ aw=>?_⟩;have ax:=ar.tu hT;have ay:Wr S n H1 (jV fs x y k) w pl:=hw.keep ax (λc o hc e=>ar c o (λz=>hc (by rw[z];exact jq)) e) λc o e=>ar c _ (λz=>by rw[z,hP] at e;cases e) e;exact⟨_,rfl,r,t',w,_,_,pl,S,rfl,aw,ay,λdx p H' s' az hp=>q dx p H' (ar.trans (Kp.of s')) (av.same s') az hp⟩
theorem vB:fk ["self","kind","source","seen"] ["self","kind","source","seen"] (eR (eW 34 3)):=fA
theorem Lu (n j:Nat)(T:Tb mg)(NF:l6 K mg C an J ar L ap aq)(ab:Dm K "put" "Nest.put" jb (eW 34 3) L ac)(ai:Dn K mg "ask_fit" j6 (top 19) aj ak)(al:eh P w K mg base er (j+4) aj ak j6 (vq n))(U:Dm K "behind" "Nest.behind" iY (eW 34 1) J Y)(aa:eh P w K mg base er (10) J Y iY (su P2 C))(ae:Dn K mg "unnested" oS (top 32) af ag)(ah:eh P w K mg base er (3) af ag oS (vn))(hj:10<=j):eh P w K mg base er (j+5) L ac jb (D7 n P2 C):=by
 have CT:=NF.ct;have am:=NF.b;refine ab.F.ok vB λvs H Q E h=>?_;obtain⟨v,kk,t,dx,nl,y,xs,fs,src,sn,cc,ss,f,g,ks,ms,δ,S,rfl,hV,hK,aA,aB,hy,hT,aC,aD,hR,jq,aE,aF,ay,q⟩:=h;refine⟨rfl,λaJ A outer s nd hr hu=>?_⟩
 refine⟨_,(en (jt (eL al hr ai (a_ (mn (pv 0) CT am aa (hr.mono (by omega)) U.b .nil jR (a_ (pv 1) c_)) (a_ (pv 3) c_))))
  (eB (eJ (eL ah hr ae (a_ (pv 3) (a_ (iD (pv 0) rfl) c_)))))),?_⟩
 ac_rfl
 obtain⟨ps,hP⟩:=hT.tab;refine⟨_,rfl,v,dx,_,rfl,hV.ob,rfl,_,rfl,v,kk,t,dx,nl,y,xs,fs,ss,rfl,hV,hK,aA,aB,hy,hT,λr t' c r1 t1 H1 ao ax _ _ _ _ av=>?_⟩;have aG:=ao.tu hT;have nP:∀c o,H c=some o->(∀ps,o≠ .fO ps)->H1 c=some o:=λc o e ho=>ao c o (λz=>by rw[z,hP] at e;cases e;exact ho _ rfl) e;have au:=nP _ _ aC (by intro ps z;cases z);have az:=nP _ _ aF (by intro ps z;cases z);have aH:=nP _ _ hV.ob (by intro ps z;cases z);have fH:RecAt S n H1 (jz fs ss y) (eG f ks) δ:=hR.keep aG λc o hc e=>ao c o (λz=>hc (by rw[z];exact jq)) e;refine⟨_,rfl,r,t',sn,_,_,_,δ,S,rfl,av,au,fH,λH2 s2=>?_⟩
 have aw:ks.length<=12:=by
  have:=hR.len;rw[iG] at this;rw[this];exact av.gY
 have aI:y∈ks:=(fH.kG av.nd y).mpr (by rw[Fs.kF];exact qr.mpr (.inl rfl));refine⟨_,rfl,_,rfl,v,C,dx,_,_,rfl,s2 _ _ aH,NF.ct,NF.ni,rfl,sn,cc,y,f,g,ks,ms,rfl,s2 _ _ au,aD,aw,aI,aE,s2 _ _ az,ay,λp H3 s3 h3 n3=>?_⟩;exact q p H3 (ao.trans ((Kp.of s2).trans (Kp.of s3))) ((ax.same s2).same s3) (vz ao ax (none_of s2 n3)) h3
theorem Lv (n j:Nat)(T:Tb mg)(NF:l6 K mg C an J ar U ao ap)(ac:Dm K "put" "Nest.put" jb (eW 34 3) U ae)(L:Dn K mg "ask_fit" j6 (top 19) ak al)(af:eh P w K mg base (i4 P w) (j+4) ak al j6 (vx gj n))(Y:Dm K "behind" "Nest.behind" iY (eW 34 1) J aa)(ab:eh P w K mg base er (10) J aa iY (su P2 C))(ag:Dn K mg "unnested" oS (top 32) ah ai)(aj:eh P w K mg base er (3) ah ai oS (vn))(hj:10<=j):eh P w K mg base (i4 P w) (j+5) U ae jb (D8 gj n P2 C):=by
 have CT:=NF.ct;have am:=NF.b;refine vv ac.F vB (λvs H Q E h=>?_) (λaB A outer s H vs Q E hr h=>?_)
 . obtain⟨v,kk,t,dx,nl,y,xs,fs,src,w,pl,S,ss,rfl,_⟩:=h;rfl
 obtain⟨v,kk,t,dx,nl,y,xs,fs,src,w,pl,S,ss,rfl,hV,hK,au,av,hy,hT,hw,jq,q⟩:=h;have nd:=vB.nd
 refine⟨_,(en (jt (qQ af (hr.mono (by omega)) rfl L.m L.F.kp L.b .nil (Dj λ_ _ _ z=>z) (a_ (mn (pv 0) CT am ab (hr.mono (by omega)) Y.b .nil jR (a_ (pv 1) c_)) (a_ (pv 3) c_))))
  (eB (eJ (eL aj hr ag (a_ (pv 3) (a_ (iD (pv 0) rfl) c_)))))),?_⟩
 ac_rfl
 obtain⟨ps,hP⟩:=hT.tab;refine⟨_,rfl,v,dx,_,rfl,hV.ob,rfl,_,rfl,v,kk,t,dx,nl,y,xs,fs,ss,rfl,hV,hK,au,av,hy,hT,λr t' c r1 t1 H1 aq aw _ _ _ _ ax=>?_⟩;have ay:=aq.tu hT;have az:Wr S n H1 (jz fs ss y) w pl:=hw.keep ay (λc o hc e=>aq c o (λz=>hc (by rw[z];exact jq)) e) λc o e=>aq c _ (λz=>by rw[z,hP] at e;cases e) e;exact⟨_,rfl,r,t',w,_,_,pl,S,rfl,ax,az,λdx p H' s' aA hp=>q dx p H' (aq.trans (Kp.of s')) (aw.same s') aA hp⟩
end
def D9 (n:Nat):Sp:=λvs H Q E=>nO n vs H Q E\/De n vs H Q E
def qt (n:Nat):Sp:=Df λH k J L=>(∃d f1 f2,Own H J d f1/\Own H L d f2/\fZ k d/\d.dep<=n/\d.Sm)\/
 ∃z U Y m1 m2 δ S1 S2,k=.fx z/\J=.ref U/\L=.ref Y/\H U=some (.dK m1)/\H Y=some (.dK m2)/\RecAt S1 n H z m1 δ/\RecAt S2 n H z m2 δ
noncomputable def Lw (st:Stmt):Pos:=match(iA st).getLast? with
 |some (.Return (some (.Tuple [_,.Call _ [.Call _ _ [⟨_,.Lambda _ _ _ z,_⟩] _] _ _] _ _)) _)=>z
 |_=>⟨0,0,0,0⟩
noncomputable abbrev j_:Pos:=Lw (top 52)
noncomputable abbrev ka:Str:=("_law_sorted":Str)++".<locals>."++"<lambda>"
def sx (K:W.Frag) (P3:Addr):Sp:=λvs H Q E=>∃l z J,vs=[.ref l]/\eF K H l (fT z)/\jk H z/\z.length<=13/\eV P3 j_ ka H/\J.Perm z/\(nms J).Nodup/\(nms J).Pairwise sle/\
 (∀r t H',fV P3 H H'->eV P3 j_ ka H'->H' t=some (.tup (fT J))->H' r=some (.tup [.str "record",.ref t])->Q (.ref r) H')
def vC:Sp:=λvs H Q _=>∃l m,∃nm:List Str,vs=[.ref l,.int m]/\H l=some (.lst (nm.map V.str))/\nm.length<=12/\0<=m/\m<=2000000000/\∀y:Str,y ∉ nm->y≠"xyxyxy"->y.length<=2->Q (.str y) H
theorem Lx (n:Nat)(T:Tb mg)(L:Dn K mg "_law_alike" iK (top 47) z J)(U:eh P w K mg base er (n+2) z J iK (D9 n)):eh P w K mg base er ((n+2)+1) z J iK (qt n):=by
 refine Dg (n+2) (sp:=D9 n) (λhh s2 hk Y q=>?_) T L U;rcases hh with⟨d,f1,f2,o1,o2,h⟩|⟨fi,b1,b2,m1,m2,δ,S1,S2,rfl,rfl,rfl,ab,ac,R1,R2⟩
 . exact .inl ⟨_,_,_,_,d,f1,f2,rfl,hk,Y,Own.same s2 o1,Own.same s2 o2,h.1,h.2.1,h.2.2,q⟩
 . unfold KA at hk;unfold Kd.W at Y;obtain⟨a',b',ae,rfl,af,ag,aa⟩:=hk;exact .inr ⟨a',b',ae,fi,b1,b2,m1,m2,δ,S1,S2,rfl,af,ag,aa,Y.1,Y.2.2,s2 _ _ ab,s2 _ _ ac,R1.same s2,R2.same s2,q⟩
theorem Ly:fk ["_law_names_here","_law_m","_law_letters","_law_k","_law_name"] ["_law_names_here","_law_m"] (eR (top 49)):=fA
noncomputable abbrev lg (m:Int) (i:Nat):Str:=lt ((m+((0:Int)+(i:Int))) % 26)++lt (m / 26 % 26)
theorem Lz {m:Int}{i j:Nat}(hi:i<26)(z:j<26)(h:lg m i=lg m j):i=j:=by
 have:=congrArg (λx:Str=>x.cps.toList) h;have this:[97+((m+((0:Int)+(i:Int))) % 26).toNat,97+(m / 26 % 26).toNat]=[97+((m+((0:Int)+(j:Int))) % 26).toNat,97+(m / 26 % 26).toNat]:=this;have h1:=(List.cons.inj this).1;omega
theorem LA {m:Int}{nm:List Str}(U:nm.length<=12)(h:∀i,i<26->lg m i∈nm):False:=by
 have:=o6 (l:=(List.range 26).map (lg m)) (m:=nm) (by
  rw[List.nodup_iff_pairwise_ne,Q1c];refine List.Pairwise.imp_of_mem (λ{i j} hi J z e=>z (Lz (List.mem_range.mp hi) (List.mem_range.mp J) e)) (List.nodup_iff_pairwise_ne.mp Q3b)) λx L=>by
  obtain⟨i,hi,rfl⟩:=List.mem_map.mp L;exact h i (List.mem_range.mp hi)
 rw[Q02,Q1u] at this;omega
theorem LB (m:Int)(i:Nat):lg m i≠"xyxyxy":=λe=>by
 have:=congrArg (λx:Str=>x.cps.toList.length) e;have this:2=("xyxyxy":Str).cps.toList.length:=this;rw[uI] at this
 cases this
theorem LC (T:Tb mg)(J:Dn K mg "_law_fresh" oV (top 49) L U):eh P w K mg base er (1) L U oV (vC):=by
 refine J.F.ok Ly λvs H Q E h=>?_;obtain⟨l,m,nm,rfl,hl,aa,m0,m1,q⟩:=h;refine⟨rfl,λab A outer s nd hr hu=>?_⟩;have hz:(abc).length<=sizeLine:=by decide +kernel
 refine⟨_,(en (eT 2 nd fh)
  (en (ic PassesOwn.never rfl (m7 rfl T.mw (a_ d_ c_)) (ff (i:=3) nd rfl fL) (en (eT 4 nd (eN ml (lD ng (pv 2) (eN gg (eN jf (pv 1) (pv 3)) d_) (λ_ _=>rfl)) (lD ng (pv 2) (eN gg (eN iC (pv 1) d_) d_) (λ_ _=>rfl))))
  (eB (eP (eS oj (pv 4) (pv 0) (by with_unfolding_all rfl)) (eB (eJ (pv 4))) eQ))))
  (eB (eJ fh)))),?_⟩
 ac_rfl
 refine⟨_,rfl,by decide,by decide,mi (n:=26) (λi σ H'=>H'=H/\(∃y z,σ=[some (.ref l),some (.int m),some (.str abc),y,z])/\∀j,j<i->lg m j∈nm) ⟨rfl,⟨_,_,rfl⟩,λj hj=>absurd hj (by omega)⟩ ?_ ?_⟩
 . rintro i σ H' hi ⟨rfl,⟨y,z,rfl⟩,Y⟩;have l1:0<=(m+((0:Int)+(i:Int))) % 26/\(m+((0:Int)+(i:Int))) % 26<26:=⟨Q0l _ (by decide),Q0o _ (by decide)⟩;have l2:0<=m / 26 % 26/\m / 26 % 26<26:=⟨Q0l _ (by decide),Q0o _ (by decide)⟩;refine⟨_,rfl,_,rfl,_,rfl,_,_,rfl,rfl,_,_,rfl,rfl,(by show(0:Int)<_;decide),_,_,_,rfl,rfl,hz,oN l1.1 l1.2,_,rfl,_,rfl,_,_,rfl,rfl,⟨by decide,by decide⟩,_,_,rfl,rfl,(by show(0:Int)<_;decide),_,_,_,rfl,rfl,hz,oN l2.1 l2.2,_,_,rfl,rfl,hX,?_⟩;refine⟨_,rfl,_,rfl,l,_,rfl,.inl (eF.of hl),rfl,lY,_,rfl,gu (λcc=>?_) (λcc=>?_)⟩
   . refine⟨_,rfl,q (lg m i) (λz=>?_) (LB m i) (Q00 2)⟩;have cc:(!inV (V.str (lg m i)) (nm.map V.str))=true:=cc;rw[jn,decide_eq_true z] at cc
     cases cc
   . have e:lg m i∈nm:=Classical.byContradiction λz=>cc (show(!inV (V.str (lg m i)) (nm.map V.str))=true by rw[jn,decide_eq_false z];rfl);refine⟨rfl,⟨_,_,rfl⟩,λj hj=>?_⟩;by_cases ej:j<i
     . exact Y j ej
     . have:j=i:=by omega
       subst this;exact e
 . rintro σ H' ⟨rfl,_,Y⟩;exact(LA aa λi hi=>Y i hi).elim
theorem D_:fk ["_law_pairs"] ["_law_pairs"] (eR (top 52)):=fA
theorem LD {P3 c:Addr}(T:Tb mg)(J:Dn K mg "_law_sorted" nN (top 52) L z)(ab:z.code=.ref c)(ai:W.CodeHd base c P3)(aj:BM mg base):eh P w K mg base er (8) L z nN (sx K P3):=by
 refine J.F.uo ab D_ (λvs H Q E h=>?_) (λA outer s H vs Q E hr h=>?_)
 . obtain⟨l,U,rs,rfl,_⟩:=h;rfl
 obtain⟨l,U,rs,rfl,hl,hp,ar,hT,ak,al,am,q1⟩:=h;have nd:=D_.nd;have hu:=t7 hr;refine⟨_,(eB (eJ (ik (a_ fh (a_ (jO pJ (by rfl) T.lP boot_tuple (a_ (BS (te:=(f_ (iu K) (fv 0) (tC (.int 0)))) (x:="_law_pair") (N':=[""]) rfl T.rq boot_sorted hr rfl rfl ai aj (lL.of (N:=["_law_pairs"]) (sc:=eR (top 52)) rfl rfl rfl rfl rfl (by decide +kernel)) rfl (λ_ _ _ _ _=>rfl) (pv 0) (λ_ _ _ _ _=>(eK (pv 0) d_))) c_)) c_))))),?_⟩
 ac_rfl
 refine⟨_,rfl,l,fT U,rfl,hl,by rw[mF];omega,hT,λc' H2 ae mono=>?_⟩;have f9:fV P3 H H2:=λcc o hc e=>mono cc o hc e;have an:jk H2 U:=hp.mono (f9.tu hT);refine⟨λks H3=>H3=H2/\ks.length<=U.length/\ks=((nms U).map V.str).take ks.length,⟨rfl,Q0b _,rfl⟩,λks H3 hw=>by rw[hw.1];exact ae,?_,?_⟩
 . rintro ks H3 yv ⟨rfl,au,Y⟩ hy;obtain⟨qq,hq,rfl⟩:=Dx hy;obtain⟨cc,u,ec,hc,hk⟩:=an qq (Q0u hq);obtain⟨qv,qn,qb⟩:=qq;have ec:qv=.ref cc:=ec;subst ec;have ao:ks.length<U.length:=(List.getElem?_eq_some_iff.mp hq).1;refine⟨_,rfl,cc,_,_,_,rfl,rfl,eu.of hc,rfl,rfl,by rw[Q0c];exact ao,?_⟩;rw[Q0c];show _=List.take (ks.length+1) _;rw[Q0p,<-Y,Q0g]
   have:(nms U)[ks.length]? =some qn:=by
    show(U.map (·.2.1))[ks.length]? =_;rw[Q0g,hq];rfl
   rw[this];rfl
 . rintro ks H3 ⟨rfl,_,Y⟩ ag
   have Y:ks=(nms U).map V.str:=by
    rw[Y,ag,mF,Q0w (by rw[Q02,nR];exact Q00 _)]
   refine⟨nms U,Y,λp aa hs D hD=>?_⟩;rw[mF] at aa;rw[<-Dy];have ac:=DA U aa
   have ah:(nms (p.map λi=>U.getD i q0)).Pairwise sle:=by
    show((p.map λi=>U.getD i q0).map (·.2.1)).Pairwise sle;rw[Q13,Q1c];rw[Q1c] at hs;refine List.Pairwise.imp_of_mem (λ{i j} hi hj h=>?_) hs
    have ge:∀i∈p,((nms U).map fJ).getD i []=fJ (U.getD i q0).2.1:=λi hi=>by
     have ap:i<U.length:=by
      have:=aa.mem_iff.mp hi;simpa using this
     unfold nms;rw[Q0f,Q0f,Q0g,Q0g,Q03 ap];rfl
    rw[ge i hi,ge j hj] at h;exact h
   have aq:(p.map λi=>U.getD i q0)=rs:=Cf (ac.trans ak.symm) ah am al;rw[aq];refine⟨D,fT rs,rfl,.inl ⟨eF.of eI,λt ht=>?_⟩⟩;have sD:Same H3 (upd H3 D (.lst (fT rs))):=Same.new hD;have s5:Same H3 (upd (upd H3 D (.lst (fT rs))) t (.tup (fT rs))):=sD.trans (Same.new ht);refine⟨hX,λr af=>?_⟩;have s6:=s5.trans (Same.new af (o:=.tup [.str "record",.ref t]));exact q1 r t _ (f9.trans (Kp.of s6)) (.inr ⟨c',ae.mono λb o _ e=>s6 _ _ e⟩) (by rw[eA (eM (H:=upd (upd H3 D (.lst (fT rs))) t (.tup (fT rs))) eI af),eI]) eI
end Pb
namespace Pb
open L2
theorem LF {K:PySem.W.Frag}{a b:Addr}{xs ys:List V}{g:TG}{tb:TS}{D:Ends}{σ:St}{H:Hp}(Pv:Nat->St->Hp->Prop)(el:xs.length=ys.length)(h0:Pv 0 σ H)(hl:∀i σ H,i<=xs.length->Pv i σ H->eF K H a xs/\eF K H b ys)
 (hs:∀(i:Nat) x y σ H p,xs[i]? =some x->ys[i]? =some y->Pv i σ H->H p=none->g (.ref p) σ (upd H p (.tup [x,y])) λz H2=>tb { D with nx:=Pv (i+1),ct:=Pv (i+1),bk:=D.nx } z H2) (hd:∀σ H,Pv xs.length σ H->D.nx σ H):
 ∃W:Nat->Nat->St->Hp->Prop,(∃m,W 0 m σ H)/\∀i m σ H,W i m σ H->
  ((pU K a b).stop i H/\D.nx σ H)\/((pU K a b).go i H/\∃N:St->Hp->Prop,(∀J H',N J H'->∃m',m'<m/\W (i+1) m' J H')/\∀x H',(pU K a b).lx i H x H'->g x σ H' λz H2=>tb { D with nx:=N,ct:=N,bk:=D.nx } z H2):=by
 refine⟨λi m σ H=>m=xs.length - i/\i<=xs.length/\Pv i σ H,⟨xs.length,by simp,Q0b _,h0⟩,?_⟩;rintro i m σ H ⟨rfl,hi,p⟩;obtain⟨U,Y⟩:=hl i σ H hi p;by_cases L:i<xs.length
 . refine .inr ⟨⟨xs,ys,xs[i],ys[i],U,Y,by simp[L],Q03 (by omega)⟩,Pv (i+1),λJ H' p'=>⟨xs.length - (i+1),by omega,rfl,L,p'⟩,λx H' y=>?_⟩;obtain⟨q,x1,x2,hq,rfl,e1,e2,rfl⟩:=y;exact hs i x1 x2 σ H q (e1 xs U) (e2 ys Y) p hq
 . have e:i=xs.length:=by omega
   subst e;exact .inl ⟨⟨xs,ys,U,Y,.inl (Q00 _)⟩,hd σ H p⟩
def Ea (K:W.Frag):Sp:=λvs H Q _=>∃a b l ns n,∃nm:List Str,vs=[.ref a,.ref b,.ref l]/\G0 K H a b ns n/\n+12<=1000000000000/\H l=some (.lst (nm.map V.str))/\l≠b/\nm.Nodup/\nm.length<=12/\
 ∀(p:Addr) (ss:List Str) (z:Int) (H':Hp),SB b H H'->H p=none->H' b=some (.lst [.int z])->n<=z->z<=n+12->H' p=some (.lst (ss.map V.str))->ss.Nodup->(∀x∈ss,x∈nm)->ss.length<=12->Q (.ref p) H'
def sy:Sp:=λvs H Q _=>∃p q pl,vs=[.ref p,.ref q]/\H p=some (.lst pl)/\H q=some (.lst pl)/\(pl=[]\/∃y,pl=[.str y])/\∀H',Same H H'->Q (.bl true) H'
variable {P:Program}{w:World}{K:W.Frag}{mg:Str->Option Value}{base:Heap}
theorem LG:fk ["_law_script","_law_at","_law_names_here","_law_made","_law_name","_law_m"] ["_law_script","_law_at","_law_names_here"] (eR (top 50)):=fA
theorem LH (T:Tb mg)(J:Dn K mg "_law_some" rH (top 50) L U)(Y:Dn K mg "_law_next" fM (top 36) aa ab)(ac:eh P w K mg base er (1) aa ab fM (k9 K)):eh P w K mg base er (2) L U rH (Ea K):=by
 refine J.F.ok LG λvs H Q E h=>?_;obtain⟨a,b,l,ns,n,nm,rfl,g,hn,hl,am,an,ap,q⟩:=h;refine⟨rfl,λaq A outer s nd hr hu=>?_⟩
 refine⟨_,(en (eT 3 nd (gA c_))
  (en (ic PassesOwn.never rfl (mf (pv 2)) (ff (i:=4) nd rfl fL) (en (eT 5 nd (eL ac hr Y (a_ (pv 0) (a_ (pv 1) c_))))
  (eB (eP (eS og (eN gg (pv 5) d_) d_ (eO _)) (eB (jt (lG PySem.F.plainAttrs_list PySem.F.slot_list_insert PySem.F.type_list_insert HI (pv 3) (a_ (eN gg (eN iC (pv 5) d_) (eN jf (eX g_ (by rfl) T.gC PySem.boot_len (a_ (pv 3) c_)) d_)) (a_ (pv 4) c_))))) eQ))))
  (eB (eJ (pv 3))))),?_⟩
 ac_rfl
 refine⟨jI,λp hp=>?_⟩;have s0:Same H (upd H p (.lst [])):=Same.new hp;have ai:b≠p:=eM g.at_ hp;refine⟨_,rfl,l,rfl,⟨_,eF.of (s0 _ _ hl)⟩,n_ (xs:=nm.map V.str) (λi σ H'=>∃(x y:Option V) (ss:List Str),σ=[some (.ref a),some (.ref b),some (.ref l),some (.ref p),x,y]/\SB b H H'/\H' b=some (.lst [.int (n+i)])/\H' p=some (.lst (ss.map V.str))/\ss.Nodup/\(∀x∈ss,x∈nm.take i)/\ss.length<=i) ?_ ?_ ?_ ?_⟩
 . exact⟨_,_,[],rfl,SB.of s0,by rw[eA ai];simpa using g.at_,eI,Q15,(λx h=>nomatch h),Q00 _⟩
 . rintro i σ H' _ ⟨x,y,ss,rfl,sb,_⟩;exact eF.of (sb _ _ am hl)
 . rintro i v σ H' hv ⟨x,y,ss,rfl,sb,af,aj,ag,ae,ak⟩;obtain⟨z,hz,rfl⟩:=DC hv;have hi:i<nm.length:=(List.getElem?_eq_some_iff.mp hz).1;have ao:nm[i]=z:=(List.getElem?_eq_some_iff.mp hz).2;refine⟨_,rfl,_,rfl,a,b,ns,n+i,rfl,g.go sb af (by omega),by omega,λr H1 r0 r1 s1 h1=>?_⟩;have ah:=s1 p _ (Ne.symm ai) aj;have e1:n+(i:Int)+1=n+((i+1:Nat):Int):=by omega
   rw[e1] at h1
   have al:z ∉ ss:=λhm=>by
    obtain⟨j,hj,e⟩:=Q1 (ae z hm);rw[Q0k] at hj;rw[Q1l] at e;exact absurd (e.trans ao.symm) (List.pairwise_iff_getElem.mp an j i (by omega) hi (by omega))
   refine⟨_,rfl,_,_,rfl,rfl,(by show(0:Int)<_;decide),_,_,rfl,rfl,_,rfl,gu (λc=>?_) (λc=>?_)⟩
   . have ar:((ss.map V.str).length:Int)=(ss.length:Int):=by rw[Q02]
     refine⟨_,rfl,.inl ⟨rfl,_,eF.of ah⟩,_,rfl,_,_,rfl,rfl,⟨by decide,by decide⟩,_,rfl,p,_,rfl,.inl (eF.of ah),_,_,rfl,rfl,_,_,rfl,rfl,by omega,_,rfl,p,_,_,_,rfl,rfl,ah,?_,?_,?_,?_⟩
     . exact Q0l _ (by omega)
     . have:=Q0o (r / 3) (show(0:Int)<((ss.map V.str).length:Int)+1 by omega);omega
     . rw[Q02];exact fX (by omega)
     . generalize (r / 3 % (((ss.map V.str).length:Int)+1)).toNat=zz
       have eq:(ss.map V.str).take zz++V.str z::(ss.map V.str).drop zz=(ss.take zz++z::ss.drop zz).map V.str:=by
        rw[Q0h,Q0t,List.map_take,List.map_drop]
       have pm:(ss.take zz++z::ss.drop zz).Perm (z::ss):=by
        refine List.perm_middle.trans ?_;rw[Q3p]
       refine⟨_,_,ss.take zz++z::ss.drop zz,rfl,λc o hc e=>?_,?_,?_,pm.nodup_iff.mpr (List.nodup_cons.mpr ⟨al,ag⟩),λx hx=>?_,?_⟩
       . rw[eA (eM e hp)];exact s1 c o hc (sb c o hc e)
       . rw[eA ai];exact h1
       . rw[eI,eq]
       . rw[Q0p,hz];rcases List.mem_cons.mp (pm.mem_iff.mp hx) with e|e
         . rw[e];exact Q06 _ (by simp)
         . exact Q0q _ (ae x e)
       . rw[pm.length_eq,Q0j];omega
   . exact⟨_,_,ss,rfl,sb.trans s1,h1,ah,ag,λx hx=>by rw[Q0p];exact Q0q _ (ae x hx),by omega⟩
 . rintro σ H' ⟨x,y,ss,rfl,sb,af,aj,ag,ae,ak⟩;rw[Q02] at af ae ak;rw[Q1k] at ae;exact⟨_,rfl,q p ss _ H' sb hp af (by omega) (by omega) aj ag ae (by omega)⟩
theorem LI:fk ["_law_found","_law_due","_law_a","_law_b"] ["_law_found","_law_due"] (eR (top 51)):=fA
theorem LJ (T:Tb mg)(z:Dn K mg "_law_place" mz (top 51) J L):eh P w K mg base er (1) J L mz (sy):=by
 refine z.F.ok LI λvs H Q E h=>?_;obtain⟨p,q',pl,rfl,hp,hq,aa,q⟩:=h;refine⟨rfl,λac A outer s nd hr hu=>?_⟩
 refine⟨_,(en (eP (PW.pt (ib (gp (fU (eX gy (by rfl) T.gz boot_isinstance (a_ (pv 0) (a_ (gw (v:=.ty "list") rfl T.j4 boot_list rfl) c_))))) (ig (eS gZ (eX g_ (by rfl) T.gC PySem.boot_len (a_ (pv 0) c_)) (eX g_ (by rfl) T.gC PySem.boot_len (a_ (pv 1) c_)) (eO _))))) (eB (eJ gH)) eQ)
  (en (ic PassesOwn.never rfl (pV rfl T.qa (a_ (pv 0) (a_ (pv 1) c_))) (iQ rfl (gq (ff (i:=2) nd rfl fL) (gq (ff (i:=3) nd rfl fL) iP))) (eB (eP (PW.pt (ib (fU (eX gy (by rfl) T.gz boot_isinstance (a_ (pv 2) (a_ (gw (v:=.ty "bool") rfl T.oP boot_bool rfl) c_)))) (ib (eS gZ (eX gy (by rfl) T.gz boot_isinstance (a_ (pv 2) (a_ (gw (v:=.ty "str") rfl T.lO boot_str rfl) c_))) (eX gy (by rfl) T.gz boot_isinstance (a_ (pv 3) (a_ (gw (v:=.ty "str") rfl T.lO boot_str rfl) c_))) (eO _)) (ig (eS gZ (pv 2) (pv 3) (eO _)))))) (eB (eJ gH)) eQ)))
  (eB (eJ gH)))),?_⟩
 ac_rfl
 refine⟨_,rfl,_,_,_,true,rfl,.lst hp,rfl,true,rfl,fE ?_⟩;refine⟨_,rfl,p,_,rfl,.inl (eF.of hp),_,rfl,q',_,rfl,.inl (eF.of hq),rfl,_,rfl,iR rfl ?_⟩;refine⟨_,rfl,_,rfl,p,q',rfl,⟨_,eF.of hp⟩,⟨_,eF.of hq⟩,LF (xs:=pl) (ys:=pl) (λi σ H'=>Same H H'/\∃x y,σ=[some (.ref p),some (.ref q'),x,y]) rfl ⟨Same.refl _,_,_,rfl⟩ ?_ ?_ ?_⟩
 . rintro i σ H' _ ⟨U,_⟩;exact⟨eF.of (U _ _ hp),eF.of (U _ _ hq)⟩
 . rintro i x y σ H' p2 Y hy ⟨U,z1,z2,rfl⟩ ab;rw[Y] at hy
   cases hy
   obtain⟨yy,rfl⟩:∃yy,x=.str yy:=by
    rcases aa with e|⟨yy,e⟩
    . rw[e] at Y;cases Y
    . rw[e] at Y;have:=Q0u Y;exact⟨yy,List.mem_singleton.mp this⟩
   refine⟨p2,_,rfl,eu.of eI,rfl,_,_,rfl,_,_,rfl,rfl,?_⟩;refine⟨_,rfl,_,_,_,false,rfl,.str _,rfl,false,rfl,fE ?_⟩;refine⟨_,rfl,_,_,_,true,rfl,.str _,rfl,_,rfl,_,_,_,true,rfl,.str _,rfl,rfl,_,rfl,iR rfl ?_⟩;refine⟨_,rfl,_,rfl,rfl,_,rfl,iR rfl ?_⟩;exact⟨U.trans (Same.new ab),_,_,rfl⟩
 . rintro σ H' ⟨U,_⟩;exact q _ U
end Pb
namespace Pb
open L2 PyProof.Rows
theorem FA.l7 {H:Hp}:∀{fs:Fs}{vs:List V},FA H vs fs->vs.length=fs.names.length
 | .nil,vs,h=>by have h:vs=[]:=h;subst h;rfl
 | .cons x k r,vs,⟨c,u,z,J,h1,h2,L⟩=>by subst J;show z.length+1=_;rw[FA.l7 L];rfl
theorem kH {K:W.Frag}{H:Hp}{n:Nat}{a b:Addr}{xs ys:List V}(z:H a=some (.tup xs))(J:H b=some (.tup ys))(hl:xs.length=ys.length)(L:∀(j:Nat) (x y:V),xs[j]? =some x->ys[j]? =some y->iF K H n x y true):iF K H (n+1) (.ref a) (.ref b) true:=by
 by_cases e:a=b
 . subst e;exact .ref a
 . have:=iF.tup (e:=λ_=>true) e (eu.of (K:=K) z) (eu.of (K:=K) J) L
   have U:((List.range (min xs.length ys.length)).all (λ_=>true) && xs.length == ys.length)=true:=by
    rw[hl];simp
   rw[U] at this;exact this
theorem lh {K:W.Frag}{H:Hp}{n:Nat}(x:Str):iF K H n (.str x) (.str x) true:=by
 have:=iF.str (K:=K) (H:=H) (n:=n) x x;rw[decide_eq_true rfl] at this;exact this
theorem all2 {K:W.Frag}{H:Hp}{n:Nat}{x y L U:V}(h1:iF K H n x L true)(h2:iF K H n y U true):∀(j:Nat) (a b:V),[x,y][j]? =some a->[L,U][j]? =some b->iF K H n a b true
 |0,_,_,z,J=>by cases z;cases J;exact h1
 |1,_,_,z,J=>by cases z;cases J;exact h2
 |_+2,_,_,z,_=>by cases z
mutual
theorem KA.mH {K:W.Frag}{H:Hp}:∀(k:Kd) {n:Nat}{u v:V},3 * k.dep<=n->KA H u k->KA H v k->iF K H n u v true
 | .num,n,u,v,z,h1,h2=>by
   unfold KA at h1 h2;obtain⟨a,rfl,U⟩:=h1;obtain⟨b,rfl,Y⟩:=h2;have z:3<=n:=z;obtain⟨m,rfl⟩:∃m,n=m+1:=⟨n - 1,by omega⟩
   exact kH U Y rfl λj x y J L=>by
    match j,J,L with
    |0,J,L=>cases J;cases L;exact lh _
 | .gQ,n,u,v,z,h1,h2=>by
   unfold KA at h1 h2;obtain⟨a,rfl,U⟩:=h1;obtain⟨b,rfl,Y⟩:=h2;have z:3<=n:=z;obtain⟨m,rfl⟩:∃m,n=m+1:=⟨n - 1,by omega⟩
   exact kH U Y rfl λj x y J L=>by
    match j,J,L with
    |0,J,L=>cases J;cases L;exact lh _
 | .fx fs,n,u,v,z,h1,h2=>by
   unfold KA at h1 h2;obtain⟨a,a2,ws,rfl,U,aa,hF⟩:=h1;obtain⟨b,b2,zs,rfl,Y,ab,hG⟩:=h2;have z:3 * (fs.dep+1)<=n:=z;obtain⟨m,rfl⟩:∃m,n=m+1+1:=⟨n - 2,by omega⟩;exact kH U Y rfl (all2 (lh _) (kH aa ab (by rw[FA.l7 hF,FA.l7 hG]) (FA.mH fs (by omega) hF hG)))
 | .ip fs,n,u,v,z,h1,h2=>by
   unfold KA at h1 h2;obtain⟨a,a2,ws,rfl,U,aa,hF⟩:=h1;obtain⟨b,b2,zs,rfl,Y,ab,hG⟩:=h2;have z:3 * (fs.dep+1)<=n:=z;obtain⟨m,rfl⟩:∃m,n=m+1+1:=⟨n - 2,by omega⟩;exact kH U Y rfl (all2 (lh _) (kH aa ab (by rw[FA.l7 hF,FA.l7 hG]) (FA.mH fs (by omega) hF hG)))
 | .rows key b_ fs,n,u,v,z,h1,h2=>by
   unfold KA at h1 h2;obtain⟨a,a2,ws,rfl,U,aa,hF⟩:=h1;obtain⟨b,b2,zs,rfl,Y,ab,hG⟩:=h2;have z:3 * (fs.dep+1)<=n:=z;obtain⟨m,rfl⟩:∃m,n=m+1+1:=⟨n - 2,by omega⟩;have hh:iF K H (m+1) (.ref a2) (.ref b2) true:=kH aa ab (by rw[FA.l7 hF,FA.l7 hG]) (FA.mH fs (by omega) hF hG)
   exact kH U Y rfl λj x y J L=>by
    match j,J,L with
    |0,J,L=>cases J;cases L;exact lh _
    |1,J,L=>cases J;cases L;exact lh _
    |2,J,L=>cases J;cases L;exact lh _
    |3,J,L=>cases J;cases L;exact hh
 | .tree k,n,u,v,z,h1,h2=>by
   unfold KA at h1 h2;obtain⟨a,u',rfl,U,hu⟩:=h1;obtain⟨b,v',rfl,Y,hv⟩:=h2;have z:3 * (k.dep+1)<=n:=z;obtain⟨m,rfl⟩:∃m,n=m+1:=⟨n - 1,by omega⟩;exact kH U Y rfl (all2 (lh _) (KA.mH k (by omega) hu hv))
theorem FA.mH {K:W.Frag}{H:Hp}:∀(fs:Fs) {n:Nat}{z zs:List V},3 * fs.dep+1<=n->FA H z fs->FA H zs fs->∀(j:Nat) (x y:V),z[j]? =some x->zs[j]? =some y->iF K H n x y true
 | .nil,n,z,zs,hn,h1,h2,j,x,y,J,L=>by
   unfold FA at h1;subst h1
   cases J
 | .cons nm k r,n,z,zs,hn,h1,h2,j,x,y,J,L=>by
   unfold FA at h1 h2;obtain⟨c,u,vr,rfl,hc,hk,hr⟩:=h1;obtain⟨c',u',ab,rfl,U,Y,aa⟩:=h2;have hm:3 * max k.dep r.dep+1<=n:=hn;have hx:=Q1v k.dep r.dep;have hy:=Q1w k.dep r.dep
   cases j with
   |zero=>
    cases J;cases L;obtain⟨m,rfl⟩:∃m,n=m+1:=⟨n - 1,by omega⟩;exact kH hc U rfl (all2 (lh _) (KA.mH k (by omega) hk Y))
   |succ j=>exact FA.mH r (by omega) hr aa j x y J L
end
end Pb
namespace L2
open Spec PyProof.Rows
section
variable {X:Cx}
def LK:V->List V->Hp->VK->Prop:=λx vs H Q=>∃a kvs k v,x=.ref a/\vs=[kV k]/\H a=some (.dK kvs)/\ft kvs k=some v/\Q v (upd H a (.dK (ji kvs k)))
theorem Eb:qS X "dict.pop" LK:=by
 intro pins s σ H x vs v us Q I z J h;obtain⟨a,kvs,k,w,rfl,rfl,L,U,q⟩:=h;obtain⟨u,rfl,Y⟩:=vals1 J
 cases z;exact GA I L Y U (.inl rfl) λw' s3 I3 r=>⟨w,_,I3,r,q⟩
end
end L2
namespace Pb
open L2 PyProof.Rows
def vD (P2:Addr) (VA:Hp->Addr->Prop) (fs fs':Fs):Sp:=λvs H Q _=>∃v kk t xs,vs=[.ref v,.ref kk]/\VA H v/\ia H kk t xs fs/\eV P2 gE gF H/\∀r t' z H',fV P2 H H'->eV P2 gE gF H'->ia H' r t' z fs'->Q (.ref r) H'
def vE (VA SO:Hp->Addr->Prop) (SR:Hp->Addr->Addr->Prop):Sp:=λvs H Q _=>∃v z a,vs=[.ref v,z,.ref a]/\VA H v/\SO H a/\∀p H',Same H H'->SR H' a p->Q (.ref p) H'
def sE (gj:Addr) (n:Nat) (P2:Addr) (VA PO:Hp->Addr->Prop) (BR:Hp->Addr->Addr->Prop) (fs fs':Fs):Sp:=λvs H Q E=>∃v kk t xs src,VA H v/\ia H kk t xs fs/\eV P2 gE gF H/\
 ((∃z,vs=[.ref v,.ref kk,src,.ref z]/\PO H z/\∀p H',fV P2 H H'->eV P2 gE gF H'->H p=none->BR H' z p->Q (.ref p) H')\/
  ∃w pl S,vs=[.ref v,.ref kk,src,w]/\Wr S n H fs' w pl/\P2∈S/\∀dx p H',fV P2 H H'->eV P2 gE gF H'->H' dx=some (.xd [("way",.ref p)])->H' p=some (.lst pl)->E (.ref gj) (some dx) H')
theorem Ec (gj:Addr)(n:Nat)(P2:Addr)(VA PO:Hp->Addr->Prop)(BR:Hp->Addr->Addr->Prop)(fs fs':Fs):D2 (sE gj n P2 VA PO BR fs fs'):=by
 intro vs H Q Y E E' J hE h;obtain⟨v,kk,t,xs,src,h1,h2,z,⟨L,e,hp,q⟩|⟨w,pl,S,e,hw,U,q⟩⟩:=h
 . exact⟨v,kk,t,xs,src,h1,h2,z,.inl ⟨L,e,hp,λp H' a b c d=>J _ _ (q p H' a b c d)⟩⟩
 . exact⟨v,kk,t,xs,src,h1,h2,z,.inr ⟨w,pl,S,e,hw,U,λdx p H' a b c d=>hE _ _ _ (q dx p H' a b c d)⟩⟩
structure VG (C P2:Addr) (VA SO PO:Hp->Addr->Prop):Prop where
 vo:∀H v,VA H v->∃dx fl,H v=some (.ins C dx fl)/\fl.lookup ("behind":Str)=none/\fl.lookup ("see":Str)=none/\fl.lookup ("put":Str)=none/\fl.lookup ("grade":Str)=none
 va:∀H H' v ps,H P2=some (.fO ps)->fV P2 H H'->VA H v->VA H' v
 so:∀H H' v ps,H P2=some (.fO ps)->fV P2 H H'->SO H v->SO H' v
 po:∀H H' v ps,H P2=some (.fO ps)->fV P2 H H'->PO H v->PO H' v
theorem LL {kvs:List (Key × V)}{k:Key}{v:V}(h:ft kvs k=none):(putK kvs k v).length=kvs.length+1:=by
 unfold putK;rw[if_neg (by rw[kP,h];decide),Q0c];rfl
theorem LM {kvs:List (Key × V)}{k:Key}{v:V}(h:ft kvs k=some v):(ji kvs k).length<kvs.length:=by
 unfold ji;have J:=t9 h;obtain⟨p,hp,e⟩:=List.mem_map.mp J;refine Nat.lt_of_le_of_ne (Q0i _ _) λz=>?_;have:=List.length_filter_eq_length_iff.mp z p hp;exact(of_decide_eq_true this) e
def nU (n:Nat) (H:Hp) (fs:Fs) (U Y:List (Key × V)):Prop:=∀x k,fs.get x=some k->∃z J,ft U (Sum.inr x)=some z/\ft Y (Sum.inr x)=some J/\
    ((∃d f1 f2,Own H z d f1/\Own H J d f2/\fZ k d/\d.dep<=n/\d.Sm)\/
     ∃L b1 b2 m1 m2 δ S1 S2,k=.fx L/\z=.ref b1/\J=.ref b2/\H b1=some (.dK m1)/\H b2=some (.dK m2)/\RecAt S1 n H L m1 δ/\RecAt S2 n H L m2 δ)
theorem nU.of {U Y:List Addr}{n:Nat}{H:Hp}{fs:Fs}{z J:List (Key × V)}{δ:Str->D}(h1:RecAt U n H fs z δ)(h2:RecAt Y n H fs J δ):nU n H fs z J:=λx k L=>by
 obtain⟨e1,f1,a1,a2,_,a4,a5,a6⟩:=h1.get x k L;obtain⟨e2,f2,b1,b2,_⟩:=h2.get x k L;exact⟨e1,e2,a1,b1,.inl ⟨δ x,f1,f2,a2,b2,a4,a5,a6⟩⟩
def vF (n:Nat) (P2:Addr) (VA SO PO:Hp->Addr->Prop) (SR BR:Hp->Addr->Addr->Prop) (fs fs':Fs):Sp:=λvs H Q _=>∃v kk t xs bk bt U src z L ko,∃(f:Str->V) (ks:List Str) (δ Y:Str->D) (S:List Addr),vs=[.ref v,.ref kk,.ref bk,.ref src,.ref z,.ref L]/\
 VA H v/\ia H kk t xs fs/\ia H bk bt U fs'/\fs'.dep<=4/\eV P2 gE gF H/\SO H z/\H z=some (.dK ko)/\RecAt S n H fs ko δ/\H L=some (.dK (eG f ks))/\ks.Nodup/\RecAt S n H fs' (eG f ks) Y/\PO H L/\P2∈S/\("xyxyxy":Str) ∉ fs'.names/\1<=fs'.names.length/\
 (∀H' p,fV P2 H H'->SR H' z p->∃J,H' p=some (.dK J)/\J.length=fs'.names.length/\nU n H' fs' J (eG f ks))/\
 (∀H' p,fV P2 H H'->BR H' L p->∃kb,H' p=some (.dK kb)/\RecAt S n H' fs kb δ)/\
 ∀H',fV P2 H H'->eV P2 gE gF H'->Q (.bl true) H'
section
variable {P:Program}{w:World}{K:W.Frag}{mg:Str->Option Value}{base:Heap}
variable {C P2 gj:Addr}
variable {VA SO PO:Hp->Addr->Prop}{SR BR:Hp->Addr->Addr->Prop}{fs fs':Fs}
theorem LO:fk ["_law_view","_law_kind_here","_law_behind","_law_source","_law_other","_law_shown","_law_told","_law_more","_law_less","_law_name"] ["_law_view","_law_kind_here","_law_behind","_law_source","_law_other","_law_shown"] (eR (top 53)):=fA
theorem gU {A B:TS}{D:Ends}{σ:L2.St}{H:Hp}(k:∀N:L2.St->Hp->Prop,(∀σ H,B D σ H->N σ H)->A { D with nx:=N } σ H):tw A B D σ H:=k (B D) λ_ _ h=>h
theorem Ed (n j:Nat)(T:Tb mg)(VF:VG C P2 VA SO PO)(CT:Cls K C)(aL:Meth K C "behind" aq)(bg:Meth K C "see" aP)(aT:Meth K C "grade" aE)
 (ar:Db K au ["self","kind"]) (av:eh P w K mg base er 10 aq au iY (vD P2 VA fs fs'))
 (aU:Db K aV ["self","kind","source"]) (aW:eh P w K mg base er 4 aP aV kE (vE VA SO SR))
 (aF:Db K aG ["self"]) (aH:eh P w K mg base er 1 aE aG nM sr)
 (aw:Dn K mg "_law_both" k8 (top 53) ae ax) (ab:Dn K mg "_law_alike" iK (top 47) al am) (ac:eh P w K mg base er ((n+2)+1) al am iK (qt n)) (J:Dn K mg "_law_put" oU (top 48) aI aJ) (L:eh P w K mg base er (j+6) aI aJ oU (D3 gj C (sE gj n P2 VA PO BR fs fs'))) (U:Dn K mg "_law_place" mz (top 51) an ao) (Y:eh P w K mg base er (1) an ao mz (sy)) (hj:10<=j) (cI:n<=j):eh P w K mg base er (j+7) ae ax k8 (vF n P2 VA SO PO SR BR fs fs'):=by
 refine aw.F.ok LO λvs H Q E h=>?_;obtain⟨v,kk,t,xs,bk,bt,af,src,bp,sh,ko,f,ks,δ,bE,S,rfl,aK,hK,hB,cF,hT,b7,bS,b8,bq,cJ,aM,b9,jq,ca,cK,bT,bA,q⟩:=h;refine⟨rfl,λcb A outer s nd hr hu=>?_⟩;have bU:(A.deeper (PyProof.Rows.envOfC "_law_both" (eR (top 53)) s.heap.objs.size ae cb)).units+1+15<cLine:=Q1q (Q1r (by decide:16<=64) _) hr.units
 refine⟨_,(en (eP (PW.pt (ib (eS (HG (n:=15) bU) (mn (pv 0) CT aL av (hr.mono (by omega)) ar.b .nil jR (a_ (pv 1) c_)) (pv 2) (eO _)) (ig (eS gZ (F4 (pv 0) CT aT aH (hr.mono (by omega)) aF.b .nil jR) fh (eO _))))) (eB (eJ gH)) eQ)
  (en (eP (gp (fU (eL ac hr ab (a_ (pv 2) (a_ (mn (pv 0) CT bg aW (hr.mono (by omega)) aU.b .nil jR (a_ (pv 1) (a_ (pv 4) c_))) (a_ (pv 5) c_)))))) (eB (eJ gH)) eQ)
  (en (eT 6 nd (eL L hr J (a_ (pv 0) (a_ (pv 1) (a_ (pv 3) (a_ (pv 5) c_))))))
  (en (eP (PW.pt (ib (eS gZ (eK (pv 6) d_) fh (eO _)) (ig (gp (fU (eL ac hr ab (a_ (pv 1) (a_ (eK (pv 6) d_) (a_ (pv 4) c_))))))))) (eB (eJ gH)) eQ)
  (en (eT 7 nd (jO rW (by rfl) T.lU boot_dict (a_ (pv 5) c_)))
  (en (jZ hu (pv 7) fh d_ rfl)
  (en (eT 6 nd (eL L hr J (a_ (pv 0) (a_ (pv 1) (a_ (pv 3) (a_ (pv 7) c_))))))
  (en (eP (PW.pt (ib (eS gZ (eK (pv 6) d_) fh (eO _)) (ig (gp (fU (eL Y hr U (a_ (eK (pv 6) d_) (a_ (gA c_) c_)))))))) (eB (eJ gH)) eQ)
  (en (eT 8 nd (jO rW (by rfl) T.lU boot_dict (a_ (pv 5) c_)))
  (en (eT 9 nd (eK (eK (eK (pv 2) d_) (eN iC (eX g_ (by rfl) T.gC PySem.boot_len (a_ (eK (pv 2) d_) c_)) d_)) d_))
  (en (jZ hu (pv 8) (pv 9) gn rfl)
  (en (eT 6 nd (eL L hr J (a_ (pv 0) (a_ (pv 1) (a_ (pv 3) (a_ (pv 8) c_))))))
  (en (eP (PW.pt (ib (eS gZ (eK (pv 6) d_) fh (eO _)) (ig (gp (fU (eL Y hr U (a_ (eK (pv 6) d_) (a_ (gA (a_ (pv 9) c_)) c_)))))))) (eB (eJ gH)) eQ)
  (en (jt (lG PySem.F.plainAttrs_dict PySem.F.slot_dict_pop PySem.F.type_dict_pop Eb (pv 8) (a_ (pv 9) c_)))
  (en (eT 6 nd (eL L hr J (a_ (pv 0) (a_ (pv 1) (a_ (pv 3) (a_ (pv 8) c_))))))
  (eB (eJ (i8 (iH fw (eK (pv 6) d_) fh (eO _)) (js (eL Y hr U (a_ (eK (pv 6) d_) (a_ (gA c_) c_)))))))))))))))))))))),?_⟩
 ac_rfl
 obtain⟨ps,hP⟩:=hT.tab;have nP:∀{Hi:Hp},fV P2 H Hi->∀c o,H c=some o->(∀ps,o≠ .fO ps)->Hi c=some o:=λkp c o e ho=>kp c o (λz=>by rw[z,hP] at e;cases e;exact ho _ rfl) e
 have cE:ks.length<=12:=by
  have:=aM.len;rw[iG] at this;rw[this];exact hB.gY
 obtain⟨dx,fl,aN,fb,cc,fp,fg⟩:=VF.vo H v aK;refine gU λN hN=>?_;refine⟨_,rfl,v,dx,_,rfl,aN,fb,_,rfl,v,kk,t,xs,rfl,aK,hK,hT,λr1 t1 cL H1 aX cd bb=>?_⟩;have aY:=hB.mono (aX.tu hT);have bh:=nP aX _ _ aN (by intro ps z;cases z);refine⟨_,rfl,r1,bk,_,_,λ_=>true,rfl,rfl,all2 (lh _) (kH bb.tu aY.tu (by rw[FA.l7 bb.fa,FA.l7 aY.fa]) (FA.mH fs' (by omega) bb.fa aY.fa)),.inr ⟨eu.of bb.at_,eu.of aY.at_,?_⟩⟩;refine⟨_,rfl,fE ?_⟩;refine⟨_,rfl,v,dx,_,rfl,bh,fg,_,rfl,rfl,_,rfl,iR rfl (hN _ _ (gU λN hN=>?_))⟩;have bV:=VF.va H H1 v ps hP aX aK;refine⟨_,rfl,_,rfl,v,dx,_,rfl,bh,cc,_,rfl,_,rfl,v,.ref kk,bp,rfl,bV,VF.so H H1 bp ps hP aX b7,λp2 H2 s2 ce=>?_⟩;have f9:fV P2 H H2:=aX.trans (Kp.of s2);have cf:=cd.same s2;have aZ:=aY.mono (Tu.of s2);obtain⟨cg,bF,bG,hg⟩:=bT H2 p2 f9 ce;refine⟨_,rfl,bk,bt,af,fs',p2,sh,cg,_,rfl,aZ.at_,aZ.tu,aZ.fa,aZ.nd,aZ.W,bF,nP f9 _ _ bq (by intro ps z;cases z),bG,hg,λH3 s3=>⟨true,rfl,fE (hN _ _ (gU λN hN=>?_))⟩⟩;have a1:fV P2 H H3:=f9.trans (Kp.of s3);have ci:=cf.same s3;have cj:=a1.tu hT;refine⟨_,rfl,_,rfl,_,rfl,_,rfl,v,kk,.ref src,.ref sh,rfl,⟨dx,fl,nP a1 _ _ aN (by intro ps z;cases z),fp⟩,v,kk,t,xs,.ref src,VF.va H H3 v ps hP a1 aK,hK.mono cj,ci,.inl ⟨sh,rfl,VF.po H H3 sh ps hP a1 b9,λp4 H4 bW cm n4 cn tq H5 s5 br=>hN _ _ (gU λN hN=>?_)⟩⟩;have bH:fV P2 H H4:=a1.trans bW;obtain⟨kb,bI,bJ⟩:=bA H4 p4 bH cn;have bc:fV P2 H H5:=bH.trans (Kp.of s5);have co:=cm.same s5;have bK:=bc.tu hT;have aO:=hK.mono bK;have bi:RecAt S n H5 fs ko δ:=b8.keep bK λc o hc e=>bc c o (λz=>hc (by rw[z];exact jq)) e;have a5:RecAt S n H5 fs kb δ:=bJ.same s5;refine⟨_,rfl,tq,_,_,_,rfl,rfl,eu.of br,rfl,rfl,_,rfl,iR rfl ?_⟩;refine⟨_,rfl,_,rfl,tq,_,_,_,rfl,rfl,eu.of br,rfl,_,rfl,kk,t,xs,fs,p4,bp,kb,ko,rfl,aO.at_,aO.tu,aO.fa,aO.nd,aO.W,s5 _ _ bI,nP bc _ _ bS (by intro ps z;cases z),a5.len,nU.of a5 bi,λH6 s6=>⟨true,rfl,fE (hN _ _ (gU λN hN=>?_))⟩⟩;have bL:fV P2 H H6:=bc.trans (Kp.of s6);have cp:=co.same s6;clear bJ a5 bi aO hg bG bF bI br;refine⟨_,rfl,sh,_,rfl,nP bL _ _ bq (by intro ps z;cases z),λmo bM=>hN _ _ (gU λN hN=>?_)⟩;refine⟨_,rfl,mo,_,rfl,jj.k (k:=Sum.inr "xyxyxy") eI (by rw[iG];exact fX (by omega)),hN _ _ (gU λN hN=>?_)⟩;have s7:Same H6 (upd (upd H6 mo (.dK (eG f ks))) mo (.dK (putK (eG f ks) (Sum.inr "xyxyxy") (.int 0)))):=λc o e=>by rw[eA (eM e bM),eA (eM e bM)];exact e
 have a6:upd (upd H6 mo (.dK (eG f ks))) mo (.dK (putK (eG f ks) (Sum.inr "xyxyxy") (.int 0))) mo=some (.dK (putK (eG f ks) (Sum.inr "xyxyxy") (.int 0))):=eI;generalize upd (upd H6 mo (.dK (eG f ks))) mo (.dK (putK (eG f ks) (Sum.inr "xyxyxy") (.int 0)))=H7 at s7 a6;have bd:fV P2 H H7:=bL.trans (Kp.of s7)
 have cq:ft (eG f ks) (Sum.inr ("xyxyxy":Str))=none:=by
  rw[ie,if_neg (λz=>ca ((aM.kG hB.nd _).mp z))]
 have bN:Wr S n H7 fs' (.ref mo) []:=⟨mo,_,rfl,a6,.inl ⟨by rw[LL cq,aM.len];omega,rfl⟩⟩;refine⟨_,rfl,_,rfl,_,rfl,_,rfl,v,kk,.ref src,.ref mo,rfl,⟨dx,fl,nP bd _ _ aN (by intro ps z;cases z),fp⟩,v,kk,t,xs,.ref src,VF.va H H7 v ps hP bd aK,hK.mono (bd.tu hT),cp.same s7,.inr ⟨.ref mo,[],S,rfl,bN,jq,λa2 p8 bO az aA ag ah=>⟨rfl,a2,p8,rfl,ag,λay H8 s8 aa=>hN _ _ (gU λN hN=>?_)⟩⟩⟩;have ak:=s8 _ _ ah;have cr:fV P2 H H8:=bd.trans (az.trans (Kp.of s8));have cs:=aA.same s8;refine⟨_,rfl,ay,_,_,_,rfl,rfl,eu.of aa,rfl,rfl,_,rfl,iR rfl ?_⟩;refine⟨_,rfl,ay,_,_,_,rfl,rfl,eu.of aa,rfl,jI,λp9 bu=>?_⟩;refine⟨p8,p9,[],rfl,by rw[eA (eM ak bu)];exact ak,eI,.inl rfl,λH9 s9=>⟨true,rfl,fE (hN _ _ (gU λN hN=>?_))⟩⟩;have be:fV P2 H H9:=cr.trans (Kp.of ((Same.new bu).trans s9));have bP:=cs.same ((Same.new bu).trans s9);clear aa ak bN a6 ah ag;refine⟨_,rfl,sh,_,rfl,nP be _ _ bq (by intro ps z;cases z),λle bf=>hN _ _ (gU λN hN=>?_)⟩;have cu:Same H9 (upd H9 le (.dK (eG f ks))):=Same.new bf;have bX:fV P2 H (upd H9 le (.dK (eG f ks))):=be.trans (Kp.of cu);have aB:=hB.mono (bX.tu hT);have cM:af.length=fs'.names.length:=FA.len fs' hB.fa;have hi:af.length / 2<af.length:=by omega
 obtain⟨c,u,nm,k,ec,cw,hc,hk⟩:=FA.get fs' aB.fa (Q03 hi)
 have cx:ir af ((af.length:Int) / 2)=some (.ref c):=by
  have:=jY (j:=af.length / 2) (show af[af.length / 2]? =some (.ref c) by rw[Q03 hi,ec]);rw[show((af.length:Int) / 2)=((af.length / 2:Nat):Int) by omega];exact this
 have bQ:nm∈fs'.names:=Q0u (show fs'.names[af.length / 2]? =some nm by rw[Fs.iI,cw];rfl);have cy:nm∈ks:=(aM.kG hB.nd _).mpr bQ;refine⟨_,rfl,bk,_,_,_,rfl,rfl,eu.of aB.at_,rfl,_,rfl,bk,_,_,_,rfl,rfl,eu.of aB.at_,rfl,bt,_,rfl,.inr (eu.of aB.tu),_,_,rfl,rfl,⟨by decide,by decide⟩,bt,_,_,_,rfl,rfl,eu.of aB.tu,cx,c,_,_,_,rfl,rfl,eu.of hc,rfl,hN _ _ (gU λN hN=>?_)⟩;refine⟨_,rfl,_,rfl,le,_,rfl,jj.k (k:=Sum.inr nm) eI (by rw[iG];exact fX (by omega)),hN _ _ (gU λN hN=>?_)⟩;have bv:Same H9 (upd (upd H9 le (.dK (eG f ks))) le (.dK (putK (eG f ks) (Sum.inr nm) .non))):=λc o e=>by rw[eA (eM e bf),eA (eM e bf)];exact e
 have ai:upd (upd H9 le (.dK (eG f ks))) le (.dK (putK (eG f ks) (Sum.inr nm) .non)) le=some (.dK (putK (eG f ks) (Sum.inr nm) .non)):=eI;generalize upd (upd H9 le (.dK (eG f ks))) le (.dK (putK (eG f ks) (Sum.inr nm) .non))=a3 at bv ai;have ap:fV P2 H a3:=be.trans (Kp.of bv);have bj:=bP.same bv;have bB:RecAt S n a3 fs' (eG f ks) bE:=aM.keep (ap.tu hT) λc o hc e=>ap c o (λz=>hc (by rw[z];exact jq)) e;have cz:ft (eG f ks) (Sum.inr nm)=some (f nm):=by rw[ie,if_pos cy]
 have bC:(putK (eG f ks) (Sum.inr nm) .non).length=fs'.names.length:=by
  have:=congrArg List.length (Kr (v:=.non) (show(ft (eG f ks) (Sum.inr nm)).isSome=true by rw[cz];rfl));rw[Q02,Q02] at this;rw[this];exact aM.len
 have bw:ft (putK (eG f ks) (Sum.inr nm) .non) (Sum.inr nm)=some .non:=by rw[A8,if_pos rfl]
 have bm:Wr S n a3 fs' (.ref le) [.str nm]:=⟨le,_,rfl,ai,.inr ⟨nm,bE,bC,bQ,bw,rfl,λx k hx hk=>by
  obtain⟨v,fp,g1,g2,g3,g4⟩:=bB.get x k hk;exact⟨v,fp,by rw[A8,if_neg (λz=>hx (Sum.inr.inj z))];exact g1,g2,g3,g4⟩⟩⟩
 refine⟨_,rfl,_,rfl,_,rfl,_,rfl,v,kk,.ref src,.ref le,rfl,⟨dx,fl,nP ap _ _ aN (by intro ps z;cases z),fp⟩,v,kk,t,xs,.ref src,VF.va H a3 v ps hP ap aK,hK.mono (ap.tu hT),bj,.inr ⟨.ref le,[.str nm],S,rfl,bm,jq,λa2 p8 bO az aA ag ah=>⟨rfl,a2,p8,rfl,ag,λay bx s8 aa=>hN _ _ (gU λN hN=>?_)⟩⟩⟩;have ak:=s8 _ _ ah;have a9:fV P2 a3 bx:=az.trans (Kp.of s8);have bY:fV P2 H bx:=ap.trans a9;have bZ:=aA.same s8;obtain⟨cG,b1⟩:=bj.tab;have bD:bx le=some (.dK (putK (eG f ks) (Sum.inr nm) .non)):=a9 le _ (λz=>by rw[z,b1] at ai;cases ai) ai;refine⟨_,rfl,ay,_,_,_,rfl,rfl,eu.of aa,rfl,rfl,_,rfl,iR rfl ?_⟩;refine⟨_,rfl,ay,_,_,_,rfl,rfl,eu.of aa,rfl,_,rfl,i_,λbz aC=>?_⟩;refine⟨p8,bz,[.str nm],rfl,by rw[eA (eM ak aC)];exact ak,eI,.inr ⟨nm,rfl⟩,λa4 cA=>⟨true,rfl,fE (hN _ _ (gU λN hN=>?_))⟩⟩;have a7:=(Same.new aC).trans cA;have b2:fV P2 H a4:=bY.trans (Kp.of a7);have b3:=bZ.same a7;have aj:=a7 _ _ bD;clear aa ak ah ag bm;refine⟨_,rfl,.inr (.inr (.inl ⟨rfl,.inl ⟨_,aj⟩⟩)),_,rfl,le,_,Sum.inr nm,.non,rfl,rfl,aj,bw,hN _ _ (gU λN hN=>?_)⟩;have a8:H le=none:=vz be bP bf;have cH:le≠P2:=λz=>by rw[z,hP] at a8;cases a8
 have ba:upd a4 le (.dK (ji (putK (eG f ks) (Sum.inr nm) .non) (Sum.inr nm))) le=some (.dK (ji (putK (eG f ks) (Sum.inr nm) .non) (Sum.inr nm))):=eI;have aD:fV P2 H (upd a4 le (.dK (ji (putK (eG f ks) (Sum.inr nm) .non) (Sum.inr nm)))):=λc o hc e=>by rw[eA (λz=>by rw[z,a8] at e;cases e)];exact b2 c o hc e
 have bn:eV P2 gE gF (upd a4 le (.dK (ji (putK (eG f ks) (Sum.inr nm) .non) (Sum.inr nm)))):=by
  rcases b3 with e|⟨c,e,f⟩
  . exact .inl (by rw[eA (iB e aj (by intro z;cases z))];exact e)
  . exact .inr ⟨c,by rw[eA (iB e aj (by intro z;cases z))];exact e,by rw[eA (iB f aj (by intro z;cases z))];exact f⟩
 generalize upd a4 le (.dK (ji (putK (eG f ks) (Sum.inr nm) .non) (Sum.inr nm)))=bR at aD bn ba;have b4:Wr S n bR fs' (.ref le) []:=⟨le,_,rfl,ba,.inl ⟨by have:=LM bw;omega,rfl⟩⟩;refine⟨_,rfl,_,rfl,_,rfl,_,rfl,v,kk,.ref src,.ref le,rfl,⟨dx,fl,nP aD _ _ aN (by intro ps z;cases z),fp⟩,v,kk,t,xs,.ref src,VF.va H bR v ps hP aD aK,hK.mono (aD.tu hT),bn,.inr ⟨.ref le,[],S,rfl,b4,jq,λa2 p8 bO az aA ag ah=>⟨rfl,a2,p8,rfl,ag,λay cC s8 aa=>hN _ _ ?_⟩⟩⟩;have ak:=s8 _ _ ah;have b5:fV P2 H cC:=aD.trans (az.trans (Kp.of s8));have b6:=aA.same s8;refine⟨_,rfl,ay,_,_,_,rfl,rfl,eu.of aa,rfl,rfl,_,rfl,?_⟩;refine gB ?_;refine⟨_,rfl,ay,_,_,_,rfl,rfl,eu.of aa,rfl,jI,λbz aC=>?_⟩;refine⟨p8,bz,[],rfl,by rw[eA (eM ak aC)];exact ak,eI,.inl rfl,λcN cD=>?_⟩;have bo:=(Same.new aC).trans cD;exact q _ (b5.trans (Kp.of bo)) (b6.same bo)
end
theorem Ee {J:Type}{z:J->Prop}{sp:J->Sp}{P:Program}{w:World}{K:W.Frag}{mg:Str->Option Value}{base:Heap}{CX:iV}{k:Nat}{f:Addr}{fd:FuncData}{ps:List Str}(F:∀i,z i->eh P w K mg base CX k f fd ps (sp i)):
 eh P w K mg base CX k f fd ps (λvs H Q E=>∃i,z i/\sp i vs H Q E):=
 ⟨λvs H Q E ⟨i,h,q⟩=>(F i h).len vs H Q E q,λA outer s H args us vs Q E L U Y hv ⟨i,h,hs⟩=>(F i h).run A outer s H args us vs Q E L U Y hv hs⟩
theorem jA {P2:Addr}{H H':Hp}{ps:Array Value}(J:H P2=some (.fO ps))(L:fV P2 H H'){c:Addr}{o:HO}(e:H c=some o)(U:∀ps,o≠ .fO ps):H' c=some o:=
 L c o (λz=>by rw[z,J] at e;cases e;exact U _ rfl) e
theorem l8 {P2:Addr}{H H':Hp}{ps:Array Value}(J:H P2=some (.fO ps))(L:fV P2 H H'):Tu H H':=λc xs e=>jA J L e (by intro ps z;cases z)
def kI (n:Nat) (S:List Addr) (fs':Fs) (f:Str->V) (ks:List Str) (δ:Str->D) (H:Hp) (a:Addr):Prop:=H a=some (.dK (eG f ks))/\RecAt S n H fs' (eG f ks) δ
theorem kI.keep {n:Nat}{S:List Addr}{fs':Fs}{f:Str->V}{ks:List Str}{δ:Str->D}{P2:Addr}(U:P2∈S)(H H':Hp)(a:Addr)(ps:Array Value)(L:H P2=some (.fO ps))(J:fV P2 H H')(h:kI n S fs' f ks δ H a):kI n S fs' f ks δ H' a:=
 ⟨jA L J h.1 (by intro ps z;cases z),h.2.keep (l8 L J) λc o hc e=>J c o (λz=>hc (by rw[z];exact U)) e⟩
abbrev o9 (f:Str->V) (ks:List Str) (H:Hp) (a:Addr):Prop:=H a=some (.dK (eG f ks))
structure vG where
 dx:Addr
 x:Str
 y:Str
 fs:Fs
 k:Kd
 fo:Str->V
 ko:List Str
 f:Str->V
 ks:List Str
 S:List Addr
 δ:Str->D
structure vG.Ok (p:vG) (P2:Addr):Prop where
 nV:p.fs.names.length<=11
 k:p.fs.get p.x=some p.k
 y:p.y ∉ p.fs.names
 on:p.ko.Nodup
 vH:p.ko.length<=12
 ox:p.x∈p.ko
 oy:p.y ∉ eE [p.x] p.ko
 kn:p.ks.Nodup
 S:P2∈p.S
def Ef (n:Nat) (P2 C:Addr):Sp:=λvs H Q E=>∃p:vG,p.Ok P2/\vF n P2 (λH v=>jK H C v p.dx p.x p.y) (o9 p.fo p.ko) (kI n p.S (jV p.fs p.x p.y p.k) p.f p.ks p.δ)
 (λH' _ q=>H' q=some (.dK (eG (gv p.fo p.y (p.fo p.x)) (eE [p.x] p.ko++[p.y])))) (λH' _ q=>H' q=some (.dK (eG (gv p.f p.x (p.f p.y)) (eE [p.y] p.ks++[p.x])))) p.fs (jV p.fs p.x p.y p.k) vs H Q E
structure vI where
 dx:Addr
 nl:Addr
 ss:List Str
 y:Str
 fs:Fs
 fo:Str->V
 ko:List Str
 f:Str->V
 ks:List Str
 cc:Addr
 g:Str->V
 ms:List Str
 S:List Addr
 δ:Str->D
structure vI.Ok (p:vI) (P2:Addr):Prop where
 nV:p.fs.names.length<=11
 hin:∀x∈p.ss,x∈p.fs.names
 y:p.y ∉ eE p.ss p.fs.names
 on:p.ko.Nodup
 vH:p.ko.length<=12
 ox:∀x∈p.ss,x∈p.ko
 oy:p.y ∉ eE p.ss p.ko
 kn:p.ks.Nodup
 S:P2∈p.S
 fy:p.f p.y=.ref p.cc
 LP:p.ms.length<=12
def Eg (n:Nat) (P2 C:Addr):Sp:=λvs H Q E=>∃p:vI,p.Ok P2/\vF n P2 (λH v=>jo H C v p.dx p.nl p.ss p.y) (o9 p.fo p.ko) (λH a=>kI n p.S (jz p.fs p.ss p.y) p.f p.ks p.δ H a/\H p.cc=some (.dK (eG p.g p.ms)))
 (λH' _ q=>∃c,H' q=some (.dK (eG (gv p.fo p.y (.ref c)) (eE p.ss p.ko++[p.y])))/\H' c=some (.dK (eG p.fo p.ss))) (λH' _ q=>H' q=some (.dK (jJ (eG p.f (eE [p.y] p.ks)) (eG p.g p.ms)))) p.fs (jz p.fs p.ss p.y) vs H Q E
section
variable {P:Program}{w:World}{K:W.Frag}{mg:Str->Option Value}{base:Heap}
variable {C P2 gj:Addr}
theorem LQ (n j:Nat)(T:Tb mg)(RF:l4 K mg C aB L U J ab aC)(XC:o8 K mg base gj aA)
 (ae:Dm K "behind" "Rename.behind" iY (eW 33 1) L aa) (af:eh P w K mg base er (10) L aa iY (sm P2 C)) (ah:Dm K "see" "Rename.see" kE (eW 33 2) U ac) (ai:eh P w K mg base er (4) U ac kE (DV C)) (aj:Dm K "grade" "View.grade" nM (eW 21 3) ab ak) (al:eh P w K mg base er (1) ab ak nM (sr)) (am:Dm K "put" "Rename.put" jb (eW 33 3) J Y)
 (aG:eh P w K mg base er (j+5) J Y jb (D5 n P2 C)) (aD:eh P w K mg base (i4 P w) (j+5) J Y jb (D6 gj n P2 C))
 (ax:Dn K mg "_law_both" k8 (top 53) ay az) (an:Dn K mg "_law_alike" iK (top 47) ao ap) (aq:eh P w K mg base er ((n+2)+1) ao ap iK (qt n)) (ag:Dn K mg "_law_put" oU (top 48) aE aF) (ar:Dn K mg "_law_place" mz (top 51) au av) (aw:eh P w K mg base er (1) au av mz (sy)) (hj:10<=j) (aI:n<=j):eh P w K mg base er (j+7) ay az k8 (Ef n P2 C):=by
 refine Ee λp hp=>?_
 have hB:eh P w K mg base er 10 L aa iY (vD P2 (λH v=>jK H C v p.dx p.x p.y) p.fs (jV p.fs p.x p.y p.k)):=af.imp λvs H Q E h=>by
  obtain⟨v,kk,t,xs,rfl,hV,hK,hT,q⟩:=h;exact⟨v,kk,t,p.dx,p.x,p.y,xs,p.fs,p.k,rfl,hV,hK,hp.nV,hp.k,hp.y,hT,λr t' c u H' kp aJ _ _ _ aK=>q r t' _ H' kp aJ aK⟩
 have hS:eh P w K mg base er 4 U ac kE (vE (λH v=>jK H C v p.dx p.x p.y) (o9 p.fo p.ko) (λH' _ q=>H' q=some (.dK (eG (gv p.fo p.y (p.fo p.x)) (eE [p.x] p.ko++[p.y]))))):=ai.imp λvs H Q E h=>by
  obtain⟨v,kv,a,rfl,hV,ha,q⟩:=h;exact⟨v,kv,a,p.dx,p.x,p.y,p.fo,p.ko,rfl,hV,ha,hp.on,hp.vH,hp.ox,hp.oy,λq' H' s h _=>q q' H' s h⟩
 have aL:eh P w K mg base (i4 P w) (j+5) J Y jb (sE gj n P2 (λH v=>jK H C v p.dx p.x p.y) (kI n p.S (jV p.fs p.x p.y p.k) p.f p.ks p.δ) (λH' _ q=>H' q=some (.dK (eG (gv p.f p.x (p.f p.y)) (eE [p.y] p.ks++[p.x])))) p.fs (jV p.fs p.x p.y p.k)):=(qk (toD aG) aD).imp λvs H Q E h=>by
  obtain⟨v,kk,t,xs,src,hV,hK,hT,⟨sn,rfl,aH,q⟩|⟨w,pl,S,rfl,hw,hS,q⟩⟩:=h
  . exact .inl ⟨v,kk,t,p.dx,p.x,p.y,xs,p.fs,p.k,src,sn,p.f,p.ks,p.δ,p.S,rfl,hV,hK,hp.nV,hp.k,hp.y,hT,aH.1,hp.kn,aH.2,hp.S,q⟩
  . exact .inr ⟨v,kk,t,p.dx,p.x,p.y,xs,p.fs,p.k,src,w,pl,S,rfl,hV,hK,hp.nV,hp.k,hp.y,hT,hw,hS,q⟩
 have VF:VG C P2 (λH v=>jK H C v p.dx p.x p.y) (o9 p.fo p.ko) (kI n p.S (jV p.fs p.x p.y p.k) p.f p.ks p.δ):=
  ⟨λH v h=>⟨p.dx,_,h,rfl,rfl,rfl,rfl⟩,λH H' v ps hP kp h=>jA hP kp h (by intro ps z;cases z),λH H' v ps hP kp h=>jA hP kp h (by intro ps z;cases z),kI.keep hp.S⟩
 exact Ed n j T VF RF.ct RF.b RF.s RF.g ⟨ae.b⟩ hB ⟨ah.b⟩ hS ⟨aj.b⟩ al ax an aq ag (D4 (Ec _ _ _ _ _ _ _ _) j T RF.ct RF.p XC ag ⟨am.b⟩ aL) ar aw hj aI
theorem LU (n j:Nat)(T:Tb mg)(NF:l6 K mg C aB J U L ab aC)(XC:o8 K mg base gj aA)
 (af:Dm K "behind" "Nest.behind" iY (eW 34 1) J aa) (ag:eh P w K mg base er (10) J aa iY (su P2 C)) (au:Dm K "see" "Nest.see" kE (eW 34 2) U ac) (av:eh P w K mg base er (4) U ac kE (DY C)) (ah:Dm K "grade" "View.grade" nM (eW 21 3) ab ai) (aj:eh P w K mg base er (1) ab ai nM (sr)) (aw:Dm K "put" "Nest.put" jb (eW 34 3) L Y)
 (aH:eh P w K mg base er (j+5) L Y jb (D7 n P2 C)) (aD:eh P w K mg base (i4 P w) (j+5) L Y jb (D8 gj n P2 C))
 (ax:Dn K mg "_law_both" k8 (top 53) ay az) (ak:Dn K mg "_law_alike" iK (top 47) al am) (an:eh P w K mg base er ((n+2)+1) al am iK (qt n)) (ae:Dn K mg "_law_put" oU (top 48) aE aF) (ao:Dn K mg "_law_place" mz (top 51) ap aq) (ar:eh P w K mg base er (1) ap aq mz (sy)) (hj:10<=j) (aI:n<=j):eh P w K mg base er (j+7) ay az k8 (Eg n P2 C):=by
 refine Ee λp hp=>?_
 have hB:eh P w K mg base er 10 J aa iY (vD P2 (λH v=>jo H C v p.dx p.nl p.ss p.y) p.fs (jz p.fs p.ss p.y)):=ag.imp λvs H Q E h=>by
  obtain⟨v,kk,t,xs,rfl,hV,hK,hT,q⟩:=h;exact⟨v,kk,t,p.dx,p.nl,p.y,xs,p.fs,p.ss,rfl,hV,hK,hp.nV,hp.hin,hp.y,hT,λr t' c r1 t1 H' kp aJ _ _ _ _ aK=>q r t' _ H' kp aJ aK⟩
 have hS:eh P w K mg base er 4 U ac kE (vE (λH v=>jo H C v p.dx p.nl p.ss p.y) (o9 p.fo p.ko) (λH' _ q=>∃c,H' q=some (.dK (eG (gv p.fo p.y (.ref c)) (eE p.ss p.ko++[p.y])))/\H' c=some (.dK (eG p.fo p.ss)))):=av.imp λvs H Q E h=>by
  obtain⟨v,kv,a,rfl,hV,ha,q⟩:=h;exact⟨v,kv,a,p.dx,p.nl,p.y,p.fo,p.ko,p.ss,rfl,hV,ha,hp.on,hp.vH,hp.ox,hp.oy,λq' c H' s h1 h2 _ _ _=>q q' H' s ⟨c,h1,h2⟩⟩
 have aL:eh P w K mg base (i4 P w) (j+5) L Y jb (sE gj n P2 (λH v=>jo H C v p.dx p.nl p.ss p.y) (λH a=>kI n p.S (jz p.fs p.ss p.y) p.f p.ks p.δ H a/\H p.cc=some (.dK (eG p.g p.ms))) (λH' _ q=>H' q=some (.dK (jJ (eG p.f (eE [p.y] p.ks)) (eG p.g p.ms)))) p.fs (jz p.fs p.ss p.y)):=(qk (toD aH) aD).imp λvs H Q E h=>by
  obtain⟨v,kk,t,xs,src,hV,hK,hT,⟨sn,rfl,aG,q⟩|⟨w,pl,S,rfl,hw,hS,q⟩⟩:=h
  . exact .inl ⟨v,kk,t,p.dx,p.nl,p.y,xs,p.fs,src,sn,p.cc,p.ss,p.f,p.g,p.ks,p.ms,p.δ,p.S,rfl,hV,hK,hp.nV,hp.hin,hp.y,hT,aG.1.1,hp.kn,aG.1.2,hp.S,hp.fy,aG.2,hp.LP,q⟩
  . exact .inr ⟨v,kk,t,p.dx,p.nl,p.y,xs,p.fs,src,w,pl,S,p.ss,rfl,hV,hK,hp.nV,hp.hin,hp.y,hT,hw,hS,q⟩
 have VF:VG C P2 (λH v=>jo H C v p.dx p.nl p.ss p.y) (o9 p.fo p.ko) (λH a=>kI n p.S (jz p.fs p.ss p.y) p.f p.ks p.δ H a/\H p.cc=some (.dK (eG p.g p.ms))):=
  ⟨λH v h=>⟨p.dx,_,h.ob,rfl,rfl,rfl,rfl⟩,λH H' v ps hP kp h=>⟨jA hP kp h.ob (by intro ps z;cases z),jA hP kp h.nl (by intro ps z;cases z),h.nd,h.gY⟩,λH H' v ps hP kp h=>jA hP kp h (by intro ps z;cases z),λH H' a ps hP kp h=>⟨kI.keep hp.S H H' a ps hP kp h.1,jA hP kp h.2 (by intro ps z;cases z)⟩⟩
 exact Ed n j T VF NF.ct NF.b NF.s NF.g ⟨af.b⟩ hB ⟨au.b⟩ hS ⟨ah.b⟩ aj ax ak an ae (D4 (Ec _ _ _ _ _ _ _ _) j T NF.ct NF.p XC ae ⟨aw.b⟩ aL) ao ar hj aI
end
theorem sF {l m:List Str}(hl:l.Nodup)(J:m.Nodup)(h:∀x,x∈l↔x∈m):l.length=m.length:=
 Q3m (o6 hl λx z=>(h x).mp z) (o6 J λx z=>(h x).mpr z)
theorem vJ (f:Str->V){l:List Str}(h:l.Nodup):((eG f l).map (·.1)).Nodup:=by
 unfold eG;rw[Q13];exact List.Pairwise.map _ (λa b h z=>h (Sum.inr.inj z)) h
theorem RecAt.re {S:List Addr}{n:Nat}{H:Hp}{fs:Fs}{f L:Str->V}{l U:List Str}{δ:Str->D}(h:RecAt S n H fs (eG f l) δ)(hl:l.Nodup)(J:U.Nodup)(Y:∀x,x∈U↔x∈l)(hf:∀x∈l,L x=f x):RecAt S n H fs (eG L U) δ:=by
 refine⟨?_,vJ L J,λx k hx=>?_⟩
 . rw[<-h.len,iG,iG];exact sF J hl Y
 . obtain⟨v,fp,z,g⟩:=h.get x k hx;rw[ie] at z;by_cases e:x∈l
   . rw[if_pos e] at z
     cases z;exact⟨f x,fp,by rw[ie,if_pos ((Y x).mpr e),hf x e],g⟩
   . rw[if_neg e] at z;cases z
theorem RecAt.LV {S:List Addr}{n:Nat}{H:Hp}{fs:Fs}{f:Str->V}{l:List Str}{δ:Str->D}{x y:Str}{k:Kd}(h:RecAt S n H fs (eG f l) δ)(hl:l.Nodup)(hn:fs.names.Nodup)(hx:fs.get x=some k)(hy:y ∉ fs.names):
 RecAt S n H (jV fs x y k) (eG (gv f y (f x)) (eE [x] l++[y])) (λz=>if z=y then δ x else δ z):=by
 have Y:∀z,z∈l↔z∈fs.names:=h.kG hn;have aa:y ∉ eE [x] l:=λz=>hy ((Y y).mp (f6.mp z).1);have ab:(eE [x] l++[y]).Nodup:=List.nodup_append.mpr ⟨hl.filter _,by simp,λa ha b hb e=>aa (by rw[<-List.mem_singleton.mp hb,<-e];exact ha)⟩;have ac:(jV fs x y k).names=ix id y (eE [x] fs.names):=by rw[Fs.kF,iZ]
 have ae:y ∉ (fs.fe (eE [x] fs.names)).names:=by rw[iZ];exact λz=>hy (f6.mp z).1
 refine⟨?_,vJ _ ab,λz q J=>?_⟩
 . rw[iG,ac,o7,Q0c,sF (l:=eE [x] l) (m:=eE [x] fs.names) (hl.filter _) (hn.filter _) (λz=>by rw[f6,f6,Y z])];rfl
 . rw[Fs.lA _ _ _ ae] at J;by_cases e:z=y
   . subst e;rw[if_pos rfl] at J
     cases J;obtain⟨v,fp,L,g⟩:=h.get x k hx;rw[ie,if_pos ((Y x).mpr (Fs.get_mem hx))] at L
     cases L;refine⟨f x,fp,?_,?_⟩
     . rw[ie,if_pos (Q06 _ Q04)];show some (if z=z then f x else f z)=_;rw[if_pos rfl]
     . show Own H (f x) (if z=z then δ x else δ z) fp/\_/\fZ k (if z=z then δ x else δ z)/\D.dep (if z=z then δ x else δ z)<=n/\D.Sm (if z=z then δ x else δ z);rw[if_pos rfl];exact g
   . rw[if_neg e,Fs.o5] at J;by_cases e2:z∈eE [x] fs.names
     . rw[if_pos e2] at J;obtain⟨v,fp,L,g⟩:=h.get z q J;have U:z∈l:=(Y z).mpr (f6.mp e2).1;rw[ie,if_pos U] at L
       cases L;refine⟨f z,fp,?_,?_⟩
       . rw[ie,if_pos (Q0q _ (f6.mpr ⟨U,(f6.mp e2).2⟩))];show some (if z=y then f x else f z)=_;rw[if_neg e]
       . show Own H (f z) (if z=y then δ x else δ z) fp/\_/\fZ q (if z=y then δ x else δ z)/\D.dep (if z=y then δ x else δ z)<=n/\D.Sm (if z=y then δ x else δ z);rw[if_neg e];exact g
     . rw[if_neg e2] at J;cases J
theorem RecAt.LW {S:List Addr}{n:Nat}{H:Hp}{fs:Fs}{f:Str->V}{l:List Str}{δ:Str->D}{x y:Str}(h:RecAt S n H fs (eG f l) δ)(hl:l.Nodup)(hx:x∈l)(L:y ∉ l):
 RecAt S n H fs (eG (gv (gv f y (f x)) x ((gv f y (f x)) y)) (eE [y] (eE [x] l++[y])++[x])) δ:=by
 have J:∀z,z∈eE [y] (eE [x] l++[y])↔z∈l/\z≠x:=λz=>by
  rw[f6,Q1y,f6,Q1e,Q1e];constructor
  . rintro⟨⟨a,b⟩|a,c⟩
    . exact⟨a,b⟩
    . exact absurd a c
  . rintro⟨a,b⟩;exact⟨.inl ⟨a,b⟩,λe=>L (by rw[<-e];exact a)⟩
 have aa:(eE [x] l++[y]).Nodup:=List.nodup_append.mpr ⟨hl.filter _,by simp,λa U b Y e=>L (by rw[<-List.mem_singleton.mp Y,<-e];exact(f6.mp U).1)⟩;refine h.re hl (List.nodup_append.mpr ⟨aa.filter _,by simp,λa U b Y e=>((J a).mp U).2 (by rw[e];exact List.mem_singleton.mp Y)⟩) (λz=>?_) λz hz=>?_
 . rw[Q1y,J,Q1e];constructor
   . rintro(⟨a,_⟩|a)
     . exact a
     . rw[a];exact hx
   . intro a;by_cases e:z=x
     . exact .inr e
     . exact .inl ⟨a,e⟩
 . show(if z=x then(if y=y then f x else f y) else if z=y then f x else f z)=f z;by_cases e:z=x
   . rw[if_pos e,if_pos rfl,e]
   . rw[if_neg e,if_neg (λe2=>L (by rw[<-e2];exact hz))]
theorem vK (f:Str->V)(x:Str):∀l:List Str,ji (eG f l) (Sum.inr x)=eG f (eE [x] l)
 |[]=>rfl
 |y::r=>by
  have J:=vK f x r;have L:ji (eG f (y::r)) (Sum.inr x)=if decide ((Sum.inr y:Key)≠Sum.inr x) then(Sum.inr y,f y)::ji (eG f r) (Sum.inr x) else ji (eG f r) (Sum.inr x):=Q0z
  have U:eE [x] (y::r)=if decide (y ∉ [x]) then y::eE [x] r else eE [x] r:=Q0z
  rw[L,U,J];by_cases e:y=x
  . rw[if_neg (by rw[decide_eq_false (λz=>z (by rw[e]))];decide),if_neg (by rw[decide_eq_false (λz=>z (by rw[e];exact Q04))];decide)]
  . have Y:(Sum.inr y:Key)≠Sum.inr x:=λz=>e (Sum.inr.inj z);have a2:¬y∈[x]:=λz=>e (List.mem_singleton.mp z);rw[if_pos (decide_eq_true Y),if_pos (decide_eq_true a2)];rfl
theorem vL {P:Addr}{J:Pos}{L:Str}{H H':Hp}(h:eV P J L H)(U:∀ps,H P=some (.fO ps)->H' P=some (.fO ps))(Y:∀c o,(∀xs,o≠ .lst xs)->(∀ps,o≠ .fO ps)->H c=some o->H' c=some o):eV P J L H':=by
 rcases h with e|⟨c,e,f⟩
 . exact .inl (U _ e)
 . exact .inr ⟨c,U _ e,Y _ _ (by intro xs z;cases z) (by intro xs z;cases z) f⟩
theorem sG {P P2:Addr}{J:Pos}{L:Str}{H H':Hp}(h:eV P J L H)(U:P≠P2)(x:fV P2 H H'){ps:Array Value}(Y:H P2=some (.fO ps)):eV P J L H':=
 vL h (λps e=>x _ _ U e) λc o _ ho e=>x c o (λz=>by rw[z,Y] at e;cases e;exact ho _ rfl) e
theorem G0.sH {K:W.Frag}{P2:Addr}{H H':Hp}{a b:Addr}{ns:List Int}{n:Int}(g:G0 K H a b ns n)(x:fV P2 H H'){ps:Array Value}(J:H P2=some (.fO ps)):G0 K H' a b ns n:=by
 refine⟨?_,g.len,jA J x g.at_ (by intro ps z;cases z),g.pos⟩;rcases g.jc with⟨o,e⟩|e
 . exact .inl ⟨o,jA J x e (by intro ps z;cases z)⟩
 . exact .inr e
theorem Eh {K:W.Frag}{P3:Addr}{H:Hp}{Q:VK}{E:XK}{kk t c l:Addr}{u:V}{y:Str}{k:Kd}{xs:List V}{fs:Fs}(ss:List Str)(hK:ia H kk t xs fs)(hc:H c=some (.tup [.str y,u]))(hk:KA H u k)(hw:k.W)(U:fs.names.length<=11)(hy:y ∉ eE ss fs.names)(hT:eV P3 j_ ka H)
 (hl:H l=some (.lst (fC (eE ss fs.names) xs fs.names++[.ref c])))
 (q:∀r t' H',fV P3 H H'->eV P3 j_ ka H'->ia H' r t' (lZ y (.ref c) (fC (eE ss fs.names) xs fs.names) (eE ss fs.names)) ((fs.fe (eE ss fs.names)).ins y k)->Q (.ref r) H'):sx K P3 [.ref l] H Q E:=by
 obtain⟨J,e1,L,aa⟩:=jk.of (FA.few (ss:=eE ss fs.names) fs hK.fa);rw[iZ] at L;obtain⟨pl,hs⟩:=kY.of hk
 have ae:J.length<=11:=by
  rw[<-nR,L];exact Q05 (Q0i _ _) U
 have ev:fT (J++[(.ref c,y,pl)])=fC (eE ss fs.names) xs fs.names++[.ref c]:=by
  rw[<-e1];unfold fT;rw[Q0h];rfl
 refine⟨l,J++[(.ref c,y,pl)],ix (·.2.1) (.ref c,y,pl) J,rfl,eF.of (by rw[ev];exact hl),?_,?_,hT,(nS _ _ _).trans (Q3o _ J).symm,?_,?_,λr t' H' kp ab Y ac=>?_⟩
 . intro z hz;rcases List.mem_append.mp hz with h|h
   . exact aa z h
   . rw[List.mem_singleton.mp h];exact⟨c,u,rfl,hc,hs⟩
 . rw[Q0c];show J.length+1<=13;omega
 . rw[r_,L];exact vi (hK.nd.filter _) hy
 . rw[r_,L];exact r8 y (hK.so.filter _)
 . have tu:=kp.tu hT;rw[DJ,e1,L] at Y;exact q r t' H' kp ab ((hK.mono tu).swap ss ac Y (tu _ _ hc) (hk.mono tu) hw U hy)
abbrev sI (b P2 P3:Addr) (H H':Hp):Prop:=Kp (λc=>c=b\/c=P2\/c=P3) H H'
theorem Fs.sJ (ss:List Str):∀fs:Fs,(fs.fe ss).dep<=fs.dep
 | .nil=>Q00 _
 | .cons x k r=>by
   have z:=Fs.sJ ss r;show(if x∈ss then Fs.cons x k (r.fe ss) else r.fe ss).dep<=_;split
   . simp only[Fs.dep];omega
   . simp only[Fs.dep];omega
theorem Fs.nI:∀{fs:Fs}{x:Str}{k:Kd},fs.get x=some k->k.dep<=fs.dep
 | .nil,_,_,h=>by cases h
 | .cons y q r,x,k,h=>by
   have h:(if x=y then some q else r.get x)=some k:=h;show k.dep<=max q.dep r.dep;by_cases e:x=y
   . rw[if_pos e] at h
     cases h;exact Q1v _ _
   . rw[if_neg e] at h;exact Q05 (Fs.nI h) (Q1w _ _)
def sL (K:W.Frag) (n:Nat) (P2 P3:Addr) (z:Int):Sp:=λvs H Q _=>∃a b kk src J t ns c xs fs,∃(U:Str->V) (L:List Str) (δ:Str->D) (S:List Addr),vs=[.ref a,.ref b,.ref kk,.ref src,.ref J]/\G0 K H a b ns c/\c+z<=1000000000000/\ia H kk t xs fs/\fs.names.length<=11/\1<=fs.names.length/\fs.dep<=3/\(∀x∈fs.names,oO x)/\eV P2 gE gF H/\eV P3 j_ ka H/\P2≠P3/\H J=some (.dK (eG U L))/\L.Nodup/\RecAt S n H fs (eG U L) δ/\b∈S/\P2∈S/\P3∈S/\
 ∀c' H',sI b P2 P3 H H'->G0 K H' a b ns c'->c<=c'->c'<=c+z->eV P2 gE gF H'->eV P3 j_ ka H'->Q (.bl true) H'
section
variable {P:Program}{w:World}{K:W.Frag}{mg:Str->Option Value}{base:Heap}
variable {C P2 P3:Addr}
theorem LX:fk ["_law_script","_law_at","_law_kind_here","_law_source","_law_other","_law_names_here","_law_m","_law_old","_law_fresh_here","_law_view","_law_pairs","_law_inner","_law_shown","_law_name"] ["_law_script","_law_at","_law_kind_here","_law_source","_law_other"] (eR (top 54)):=fA
theorem LY (n j:Nat)(T:Tb mg)(RF:l4 K mg C J aI aZ a1 a2 L)(ag:Dn K mg "_law_renamed" mB (top 54) ah ai)(av:Dn K mg "_law_next" fM (top 36) aw ax)(ay:eh P w K mg base er (1) aw ax fM (k9 K))(an:Dn K mg "_law_fresh" oV (top 49) ao ap)(aq:eh P w K mg base er (1) ao ap oV (vC))(Y:Dm K "__init__" "Rename.__init__" rE (eW 33 0) J aa)(ab:eh P w K mg base er (1) J aa rE (DU C))(ac:Dm K "keeps" "Rename.keeps" my (eW 33 4) L ae)(af:eh P w K mg base er (1) L ae my (DW C))(aj:Dn K mg "_law_sorted" nN (top 52) ak al)(am:eh P w K mg base er (8) ak al nN (sx K P3))(az:Dn K mg "_law_both" k8 (top 53) aA aB)(aC:eh P w K mg base er (j+7) aA aB k8 (Ef n P2 C))(hj:10<=j):eh P w K mg base er (j+8) ah ai mB (sL K n P2 P3 1):=by
 have CT:=RF.ct;have aG:=RF.vp;have aM:=RF.m;have aN:=RF.k;refine ag.F.ok LX λvs H Q E h=>?_;obtain⟨a,b,kk,src,aJ,t,ns,c,xs,fs,fo,ko,δ,S,rfl,g,hc,hK,bA,cs,cu,bM,bN,bO,bB,a9,a3,hR,bP,a4,bQ,q⟩:=h;refine⟨rfl,λcA A outer s nd hr hu=>?_⟩;have cC:xs.length=fs.names.length:=FA.len fs hK.fa
 refine⟨_,(en (nr (i:=5) nd rfl fL (g:=(gK 0)) (tt:=jS) (te:=(f_ (iu K) (fv 0) (tC (.int 0)))) (own:=["_law_pair"]) rfl (iT (N:=["_law_script","_law_at","_law_kind_here","_law_source","_law_other","_law_names_here","_law_m","_law_old","_law_fresh_here","_law_view","_law_pairs","_law_inner","_law_shown","_law_name"]) (sc:=eR (top 54))) (iN (eK (pv 2) d_)) (λ_ _ _ _ _=>(ff (i:=0) (show(["_law_pair","_law_script","_law_at","_law_kind_here","_law_source","_law_other","_law_names_here","_law_m","_law_old","_law_fresh_here","_law_view","_law_pairs","_law_inner","_law_shown","_law_name"]:List Str).Nodup by decide +kernel) rfl (Or.inl rfl) (.inr rfl))) (λ_ _ _ _ _=>kq) (λ_ _ _ _ _=>(eK (pv 0) d_)))
  (en (eT 6 nd (eL ay hr av (a_ (pv 0) (a_ (pv 1) c_))))
  (en (Ci 7 nd (iW (pv 5) (eN gg (pv 6) (eX g_ (by rfl) T.gC PySem.boot_len (a_ (pv 5) c_)))))
  (en (eT 8 nd (eL aq hr an (a_ (pv 5) (a_ (eN iC (pv 6) d_) c_))))
  (en (eT 9 nd (AN aG ab (hr.mono (by omega)) rfl aM Y.b .nil jR (a_ (pv 7) (a_ (pv 8) c_))))
  (en (nr (i:=10) nd rfl fL (g:=(gK 0)) (tt:=(jC (f_ _ (f_ (iu K) (fv 0) (tC (.int 0))) (fv 8)))) (te:=(fv 0)) (own:=["_law_pair"]) rfl (iT (N:=["_law_script","_law_at","_law_kind_here","_law_source","_law_other","_law_names_here","_law_m","_law_old","_law_fresh_here","_law_view","_law_pairs","_law_inner","_law_shown","_law_name"]) (sc:=eR (top 54))) (iN (eK (pv 2) d_)) (λ_ _ _ _ _=>(ff (i:=0) (show(["_law_pair","_law_script","_law_at","_law_kind_here","_law_source","_law_other","_law_names_here","_law_m","_law_old","_law_fresh_here","_law_view","_law_pairs","_law_inner","_law_shown","_law_name"]:List Str).Nodup by decide +kernel) rfl (Or.inl rfl) (.inr rfl))) (λ_ _ _ _ _=>(lH (eS gZ (eK (pv 0) d_) (pv 8) (eO _)))) (λ_ _ _ _ _=>(pv 0)))
  (en (nr (i:=11) nd rfl fL (g:=(gK 0)) (tt:=(jC (f_ mj (f_ (iu K) (fv 0) (tC (.int 0))) (fv 8)))) (te:=(f_ (iu K) (fv 0) (tC (.int 1)))) (own:=["_law_pair"]) rfl (iT (N:=["_law_script","_law_at","_law_kind_here","_law_source","_law_other","_law_names_here","_law_m","_law_old","_law_fresh_here","_law_view","_law_pairs","_law_inner","_law_shown","_law_name"]) (sc:=eR (top 54))) (iN (eK (pv 2) d_)) (λ_ _ _ _ _=>(ff (i:=0) (show(["_law_pair","_law_script","_law_at","_law_kind_here","_law_source","_law_other","_law_names_here","_law_m","_law_old","_law_fresh_here","_law_view","_law_pairs","_law_inner","_law_shown","_law_name"]:List Str).Nodup by decide +kernel) rfl (Or.inl rfl) (.inr rfl))) (λ_ _ _ _ _=>(lH (eS fw (eK (pv 0) d_) (pv 8) (eO _)))) (λ_ _ _ _ _=>(eK (pv 0) d_)))
  (en (eT 12 nd (jO rW (by rfl) T.lU boot_dict (a_ (pv 4) c_)))
  (en (jZ hu (pv 12) (pv 8) (lG PySem.F.plainAttrs_dict PySem.F.slot_dict_pop PySem.F.type_dict_pop Eb (pv 12) (a_ (pv 7) c_)) rfl)
  (en (ic PassesOwn.never rfl (mf (eN nj (pv 5) (gA (a_ (pv 8) (a_ (eN ml fh (pv 8)) c_))))) (ff (i:=13) nd rfl fL) (eB (eP (eS gZ (mn (pv 9) CT aN af (hr.mono (by omega)) ac.b .nil jR (a_ (pv 13) c_)) (i8 (iH gZ (pv 13) (pv 7) (eO _)) (js (iH gZ (pv 13) (pv 8) (eO _)))) (eO _)) (eB (eJ gH)) eQ)))
  (eB (eJ (eL aC hr az (a_ (pv 9) (a_ (pv 2) (a_ (eL am hr aj (a_ (eN nj (pv 10) (gA (a_ (ik (a_ (pv 8) (a_ (iW (pv 11) d_) c_))) c_))) c_)) (a_ (pv 3) (a_ (pv 4) (a_ (pv 12) c_))))))))))))))))))),?_⟩
 ac_rfl
 refine gU λN hN=>?_;refine⟨_,rfl,kk,_,_,_,rfl,rfl,eu.of hK.at_,rfl,t,rfl,⟨_,eu.of hK.tu⟩,λi m ys H'=>H'=H/\m=xs.length - i/\i<=xs.length/\ys=(fs.names.take i).map V.str,⟨xs.length,rfl,by simp,Q0b _,rfl⟩,?_⟩;rintro i m ys aE ⟨rfl,rfl,hi,rfl⟩;by_cases U:i<xs.length
 . refine .inr ⟨⟨xs,xs[i],eu.of hK.tu,by simp[U]⟩,by rw[Q02,Q0k];exact fX (by omega),λx H' y=>?_⟩;obtain⟨rfl,y⟩:=y;have hv:=y xs (eu.of hK.tu);obtain⟨c,u,nm,k,rfl,aO,hc,hk⟩:=FA.get fs hK.fa hv;have ar:fs.names[i]? =some nm:=by rw[Fs.iI,aO];rfl
   refine⟨rfl,yes (gB ?_)⟩;refine⟨_,rfl,c,_,_,_,rfl,rfl,eu.of hc,rfl,xs.length - (i+1),by omega,rfl,rfl,U,?_⟩;rw[Q0p,ar,Q0h];rfl
 have ei:fs.names.take i=fs.names:=Q0w (by omega);rw[ei];refine .inl ⟨⟨xs,eu.of hK.tu,Q0v U⟩,λl hl=>hN _ _ (gU λN hN=>?_)⟩;clear U hi ei;have s1:Same aE (upd aE l (.lst (fs.names.map V.str))):=Same.new hl;have bC:upd aE l (.lst (fs.names.map V.str)) l=some (.lst (fs.names.map V.str)):=eI;have bR:l≠b:=λz=>by rw[z,g.at_] at hl;cases hl
 generalize upd aE l (.lst (fs.names.map V.str))=H1 at s1 bC;have g1:=g.go (SB.of s1) (s1 _ _ g.at_) (Q16 _);refine⟨_,rfl,_,rfl,a,b,ns,c,rfl,g1,by omega,λr H2 r0 r1 aP bD=>hN _ _ (gU λN hN=>?_)⟩;have g2:=g1.go aP bD (by omega);have a5:=aP _ _ bR bC;have cD:((fs.names.map V.str).length:Int)=(fs.names.length:Int):=by rw[Q02]
 have bS:0<=r % ((fs.names.map V.str).length:Int):=Q0l _ (by omega)
 have cE:r % ((fs.names.map V.str).length:Int)<(fs.names.length:Int):=by
  have:=Q0o r (show 0<((fs.names.map V.str).length:Int) by omega);omega
 obtain⟨iz,bT⟩:∃iz:Nat,r % ((fs.names.map V.str).length:Int)=(iz:Int):=⟨_,(Q2p bS).symm⟩;have bJ:iz<fs.names.length:=by omega
 obtain⟨x,hx⟩:∃x,fs.names[iz]? =some x:=⟨_,Q03 bJ⟩;have bn:x∈fs.names:=Q0u hx
 have aO:ir (fs.names.map V.str) (r % ((fs.names.map V.str).length:Int))=some (.str x):=by
  rw[bT];exact jY (j:=iz) (by rw[Q0g,hx];rfl)
 obtain⟨k,hk⟩:=Fs.nQ bn;refine⟨_,rfl,_,rfl,_,rfl,l,_,rfl,.inl (eF.of a5),_,_,rfl,rfl,(by omega),l,_,_,_,rfl,rfl,eF.of a5,aO,hN _ _ (gU λN hN=>?_)⟩;refine⟨_,rfl,_,rfl,_,_,rfl,rfl,⟨by decide,by decide⟩,l,r / 5,fs.names,rfl,a5,hK.gY,(by omega),(by omega),λy hy bU bV=>hN _ _ (gU λN hN=>?_)⟩;refine⟨_,rfl,_,rfl,λv dx hv bW cF=>⟨v,dx,x,y,rfl,eI,λH5 keep bX=>⟨rfl,hN _ _ (gU λN hN=>?_)⟩⟩⟩;have s5:Same H2 H5:=λc o e=>keep c o (eM e hv) (by rw[eA (eM e hv),eA (eM e bW)];exact e);have bY:Tu aE H5:=λc xs e=>s5 _ _ (aP _ _ (iB (s1 _ _ e) g1.at_ (by intro z;cases z)) (s1 _ _ e));have aD:=hK.mono bY;refine⟨_,rfl,kk,_,_,_,rfl,rfl,eu.of aD.at_,rfl,t,rfl,⟨_,eu.of aD.tu⟩,λi m ys H'=>H'=H5/\m=xs.length - i/\i<=xs.length/\ys=(((xs.zip fs.names).take i).filter λq=>decide (q.2 ∉ [x])).map (·.1),⟨xs.length,rfl,by simp,Q0b _,rfl⟩,?_⟩;rintro i m ys a6 ⟨rfl,rfl,hi,rfl⟩;by_cases U:i<xs.length
 . have hb:((((xs.zip fs.names).take i).filter λq=>decide (q.2 ∉ [x])).map (·.1)).length<=i:=by
    rw[Q02];exact Q05 (Q0i _ _) (by rw[Q0k];omega)
   refine .inr ⟨⟨xs,xs[i],eu.of aD.tu,by simp[U]⟩,fX (by omega),λz H' y=>?_⟩;obtain⟨rfl,y⟩:=y;have hv:=y xs (eu.of aD.tu);obtain⟨cc,u,nm,k,rfl,aO,hc,hk⟩:=FA.get fs aD.fa hv;have ar:fs.names[i]? =some nm:=by rw[Fs.iI,aO];rfl
   have hz:(xs.zip fs.names)[i]? =some (.ref cc,nm):=by
    rw[Q1z];exact⟨hv,ar⟩
   have step:(((xs.zip fs.names).take (i+1)).filter λq=>decide (q.2 ∉ [x])).map (·.1)=(((xs.zip fs.names).take i).filter λq=>decide (q.2 ∉ [x])).map (·.1)++(if nm=x then [] else [V.ref cc]):=by
    rw[Q0p,hz,Q1m,Q0h];congr 1;show(List.filter _ [(V.ref cc,nm)]).map _=_;rw[Q0z];by_cases e:nm=x
    . rw[if_neg (by show ¬decide (nm ∉ [x])=true;rw[decide_eq_false (λz=>z (by rw[e];exact Q04))];decide),if_pos e];rfl
    . have e':nm ∉ [x]:=λz=>e (List.mem_singleton.mp z);rw[if_pos (show decide (nm ∉ [x])=true from decide_eq_true e'),if_neg e];rfl
   refine⟨rfl,_,rfl,cc,_,_,_,rfl,rfl,eu.of hc,rfl,_,rfl,rfl,_,rfl,?_⟩;refine gu (λc'=>?_) (λc'=>?_)
   . have e:¬nm=x:=λz=>by rw[z,decide_eq_true rfl] at c';cases c'
     refine⟨_,rfl,xs.length - (i+1),by omega,rfl,rfl,U,?_⟩;rw[step,if_neg e]
   . have e:nm=x:=Classical.byContradiction λz=>c' (by rw[decide_eq_false (λz'=>z (V.str.inj z'))];rfl);refine⟨xs.length - (i+1),by omega,rfl,rfl,U,?_⟩;rw[step,if_pos e,Q0y]
 rw[Q0w (by rw[Q2];omega),<-vj];refine .inl ⟨⟨xs,eu.of aD.tu,Q0v U⟩,λpl bZ=>hN _ _ ?_⟩;clear U hi;have s6:Same a6 (upd a6 pl (.lst (fC (eE [x] fs.names) xs fs.names))):=Same.new bZ;have ba:upd a6 pl (.lst (fC (eE [x] fs.names) xs fs.names)) pl=some (.lst (fC (eE [x] fs.names) xs fs.names)):=eI;generalize upd a6 pl (.lst (fC (eE [x] fs.names) xs fs.names))=H6 at s6 ba;have aK:=aD.mono (Tu.of s6);refine⟨_,rfl,kk,_,_,_,rfl,rfl,eu.of aK.at_,rfl,t,rfl,⟨_,eu.of aK.tu⟩,λi m ys H'=>H'=H6/\m=xs.length - i/\i<=xs.length/\((x ∉ fs.names.take i/\ys=[])\/(x∈fs.names.take i/\∃u,KA H6 u k/\ys=[u])),⟨xs.length,rfl,by simp,Q0b _,.inl ⟨(λz=>nomatch z),rfl⟩⟩,?_⟩;rintro i m ys aT ⟨rfl,rfl,hi,aL⟩;by_cases U:i<xs.length
 . have hb:ys.length<=1:=by
    rcases aL with⟨_,rfl⟩|⟨_,u,_,rfl⟩
    . exact Q0b _
    . exact Q00 _
   refine .inr ⟨⟨xs,xs[i],eu.of aK.tu,by simp[U]⟩,fX (by omega),λz H' y=>?_⟩;obtain⟨rfl,y⟩:=y;have hv:=y xs (eu.of aK.tu);obtain⟨cc,u,nm,k',rfl,bb,hc,b1⟩:=FA.get fs aK.fa hv;have ar:fs.names[i]? =some nm:=by rw[Fs.iI,bb];rfl
   have bo:fs.names.take (i+1)=fs.names.take i++[nm]:=by rw[Q0p,ar];rfl
   refine⟨rfl,_,rfl,cc,_,_,_,rfl,rfl,eu.of hc,rfl,_,rfl,rfl,_,rfl,?_⟩;refine gu (λc'=>?_) (λc'=>?_)
   . have e:nm=x:=by
      have:=of_decide_eq_true c';injection this
     subst e
     have b2:nm ∉ fs.names.take i:=λz=>by
      obtain⟨j',b3,e'⟩:=Q1 z;rw[Q0k] at b3;rw[Q1l] at e';have b4:i<fs.names.length:=by omega
      have e2:fs.names[i]=nm:=(List.getElem?_eq_some_iff.mp ar).2;exact absurd (e'.trans e2.symm) (List.pairwise_iff_getElem.mp hK.nd j' i (by omega) b4 (by omega))
     have ek:k'=k:=by
      have:=Fs.kU hK.nd bb;rw[hk] at this;exact(Option.some.inj this).symm
     rcases aL with⟨_,rfl⟩|⟨z,_⟩
     . exact⟨_,rfl,cc,_,_,_,rfl,rfl,eu.of hc,rfl,xs.length - (i+1),by omega,rfl,rfl,U,.inr ⟨by rw[bo];exact Q06 _ Q04,u,by rw[<-ek];exact b1,rfl⟩⟩
     . exact absurd z b2
   . have e:nm≠x:=λz=>c' (by rw[z];exact decide_eq_true rfl);refine⟨xs.length - (i+1),by omega,rfl,rfl,U,?_⟩;rcases aL with⟨z,e'⟩|⟨z,e'⟩
     . refine .inl ⟨λz'=>?_,e'⟩;rw[bo] at z';rcases List.mem_append.mp z' with z'|z'
       . exact z z'
       . exact e (List.mem_singleton.mp z').symm
     . exact .inr ⟨by rw[bo];exact Q0q _ z,e'⟩
 have ei:fs.names.take i=fs.names:=Q0w (by omega);rw[ei] at aL
 obtain⟨u,b5,rfl⟩:∃u,KA aT u k/\ys=[u]:=by
  rcases aL with⟨z,_⟩|⟨_,z⟩
  . exact absurd bn z
  . exact z
 refine .inl ⟨⟨xs,eu.of aK.tu,Q0v U⟩,λil b6=>?_⟩;clear U hi ei aL;have s7:Same aT (upd aT il (.lst [u])):=Same.new b6;have bc:upd aT il (.lst [u]) il=some (.lst [u]):=eI;generalize upd aT il (.lst [u])=H7 at s7 bc
 have b7:b≠aJ:=λz=>by
  have:=g.at_;rw[z,a9] at this;cases this
 have aX:H7 aJ=some (.dK (eG fo ko)):=s7 _ _ (s6 _ _ (s5 _ _ (aP _ _ (Ne.symm b7) (s1 _ _ a9))))
 have bz:ko.length<=12:=by
  have:=hR.len;rw[iG] at this;rw[this];exact hK.gY
 have hm:=hR.kG hK.nd;have bp:x∈ko:=(hm x).mpr bn;have a7:y ∉ ko:=λz=>hy ((hm y).mp z);refine⟨_,rfl,aJ,_,rfl,aX,λsh bq=>?_⟩;refine⟨_,rfl,.inr (.inr (.inl ⟨rfl,.inl ⟨_,eI⟩⟩)),_,rfl,sh,_,Sum.inr x,fo x,rfl,rfl,eI,by rw[ie,if_pos bp],?_⟩;refine⟨_,rfl,_,rfl,sh,_,rfl,jj.k (k:=Sum.inr y) eI (by rw[vK,iG];exact fX (by have:=Q0i (λz=>decide (z ∉ [x])) ko;show(ko.filter λz=>decide (z ∉ [x])).length<=1000;omega)),?_⟩;rw[vK,se fo (fo x) (λz=>a7 (f6.mp z).1)];have s8:Same H7 (upd (upd (upd H7 sh (.dK (eG fo ko))) sh (.dK (eG fo (eE [x] ko)))) sh (.dK (eG (gv fo y (fo x)) (eE [x] ko++[y])))):=λc o e=>by rw[eA (eM e bq),eA (eM e bq),eA (eM e bq)];exact e
 have bd:upd (upd (upd H7 sh (.dK (eG fo ko))) sh (.dK (eG fo (eE [x] ko)))) sh (.dK (eG (gv fo y (fo x)) (eE [x] ko++[y]))) sh=some (.dK (eG (gv fo y (fo x)) (eE [x] ko++[y]))):=eI;generalize upd (upd (upd H7 sh (.dK (eG fo ko))) sh (.dK (eG fo (eE [x] ko)))) sh (.dK (eG (gv fo y (fo x)) (eE [x] ko++[y])))=H8 at s8 bd;have a8:Same H2 H8:=((s5.trans s6).trans s7).trans s8;have bE:=a8 _ _ a5;have b8:jK H8 C v dx x y:=s8 _ _ (s7 _ _ (s6 _ _ bX))
 have bK:∀w∈fs.names.map V.str++[.str y,.str (("xy":Str)++y)],∃z,w=.str z:=λw hw=>by
  rcases List.mem_append.mp hw with h|h
  . obtain⟨z,_,rfl⟩:=List.mem_map.mp h;exact⟨z,rfl⟩
  . rcases List.mem_cons.mp h with h|h
    . exact⟨_,h⟩
    . exact⟨_,List.mem_singleton.mp h⟩
 refine⟨_,rfl,_,rfl,_,rfl,_,_,rfl,rfl,(by show 2+y.length<=sizeLine;exact Q05 (Q1r bV 2) (by decide)),hX,λw1 bF=>?_⟩;have b9:upd H8 w1 (.lst [.str y,.str (("xy":Str)++y)]) l=some (.lst (fs.names.map V.str)):=by rw[eA (eM bE bF)];exact bE
 refine⟨l,w1,_,_,rfl,rfl,b9,eI,Q0s (fX (by rw[Q02];show _+2<=_;omega)),λw2 ca=>?_⟩;have s9:Same H8 (upd (upd H8 w1 (.lst [.str y,.str (("xy":Str)++y)])) w2 (.lst (fs.names.map V.str++[.str y,.str (("xy":Str)++y)]))):=(Same.new bF).trans (Same.new ca);have br:upd (upd H8 w1 (.lst [.str y,.str (("xy":Str)++y)])) w2 (.lst (fs.names.map V.str++[.str y,.str (("xy":Str)++y)])) w2=some (.lst (fs.names.map V.str++[.str y,.str (("xy":Str)++y)])):=eI;generalize upd (upd H8 w1 (.lst [.str y,.str (("xy":Str)++y)])) w2 (.lst (fs.names.map V.str++[.str y,.str (("xy":Str)++y)]))=H9 at s9 br;have bt:jK H9 C v dx x y:=s9 _ _ b8;refine⟨w2,rfl,⟨_,eF.of br⟩,n_ (xs:=fs.names.map V.str++[.str y,.str (("xy":Str)++y)]) (λi σ H'=>H'=H9/\∃zz,σ=[some (.ref a),some (.ref b),some (.ref kk),some (.ref src),some (.ref aJ),some (.ref l),some (.int r),some (.str x),some (.str y),some (.ref v),some (.ref pl),some (.ref il),some (.ref sh),zz]) ⟨rfl,_,rfl⟩ ?_ ?_ ?_⟩
 . rintro i σ H' _ ⟨rfl,_⟩;exact eF.of br
 . rintro i w σ H' hw ⟨rfl,zz,rfl⟩;obtain⟨z,rfl⟩:=bK w (Q0u hw);refine⟨_,rfl,v,dx,_,rfl,bt,rfl,_,rfl,v,dx,x,y,z,rfl,bt,?_⟩;refine⟨_,rfl,_,rfl,rfl,_,rfl,?_⟩;by_cases e1:z=x
   . refine iR (by rw[e1]) ?_;exact⟨rfl,_,rfl,iR (by rw[decide_eq_false (λh=>h.1 e1)]) ⟨rfl,_,rfl⟩⟩
   . rw[decide_eq_false (show ¬V.str z=V.str x from λh=>e1 (V.str.inj h))];refine gB ?_;refine⟨_,rfl,_,rfl,rfl,rfl,_,rfl,iR ?_ ⟨rfl,_,rfl⟩⟩;by_cases e2:z=y
     . rw[decide_eq_false (λh=>h.2 e2),decide_eq_true (show V.str z=V.str y by rw[e2])];rfl
     . rw[decide_eq_true (show z≠x/\z≠y from⟨e1,e2⟩),decide_eq_false (show ¬V.str z=V.str y from λh=>e2 (V.str.inj h))];rfl
 . rintro σ H' ⟨rfl,zz,rfl⟩;have cb:=(aD.mono (Tu.of (s6.trans (s7.trans s8)))).mono (Tu.of s9);have aV:∀c o,c≠b->aE c=some o->H' c=some o:=λc o hb e=>s9 _ _ (a8 _ _ (aP _ _ hb (s1 _ _ e)));have g9:=g2.go (SB.of (a8.trans s9)) (s9 _ _ (a8 _ _ bD)) (Q16 _);have nb:∀{c:Addr} {o:HO},aE c=some o->(∀xs,o≠ .lst xs)->H' c=some o:=λ{c o} e ho=>aV c o (λz=>by rw[z,g.at_] at e;cases e;exact ho _ rfl) e;have be:eV P2 gE gF H':=bN.keep λc o ho e=>nb e ho;have bf:eV P3 j_ ka H':=bO.keep λc o ho e=>nb e ho;have cd:RecAt S n H' fs (eG fo ko) δ:=hR.keep (λc xs e=>nb e (by intro z1 z2;cases z2)) λc o hc e=>aV c o (λz=>hc (by rw[z];exact bP)) e;refine⟨_,rfl,_,rfl,_,rfl,_,rfl,_,rfl,il,_,_,_,rfl,rfl,eF.of (s9 _ _ (s8 _ _ bc)),rfl,hX,λcp ce=>⟨i_,λw3 cf=>?_⟩⟩;have sA:Same H' (upd H' cp (.tup [.str y,u])):=Same.new ce;have sB:Same (upd H' cp (.tup [.str y,u])) (upd (upd H' cp (.tup [.str y,u])) w3 (.lst [.ref cp])):=Same.new cf
   have cw:(fC (eE [x] fs.names) xs fs.names).length<=12:=by
    rw[FA.len _ (FA.few (ss:=eE [x] fs.names) fs hK.fa),iZ];exact Q05 (Q0i _ _) hK.gY
   refine⟨pl,w3,_,_,rfl,rfl,sB _ _ (sA _ _ (s9 _ _ (s8 _ _ (s7 _ _ ba)))),eI,Q0s (fX (by show _+1<=_;omega)),λw4 bG=>?_⟩;have sC:=(sA.trans sB).trans (Same.new bG (o:=.lst (fC (eE [x] fs.names) xs fs.names++[.ref cp])));have cg:=sB.trans (Same.new bG (o:=.lst (fC (eE [x] fs.names) xs fs.names++[.ref cp])));have bg:=cg _ _ (eI (H:=H') (a:=cp) (o:=.tup [.str y,u]));have bh:upd (upd (upd H' cp (.tup [.str y,u])) w3 (.lst [.ref cp])) w4 (.lst (fC (eE [x] fs.names) xs fs.names++[.ref cp])) w4=some (.lst (fC (eE [x] fs.names) xs fs.names++[.ref cp])):=eI;generalize upd (upd (upd H' cp (.tup [.str y,u])) w3 (.lst [.ref cp])) w4 (.lst (fC (eE [x] fs.names) xs fs.names++[.ref cp]))=HC at sC bg bh;have bH:=cb.mono (Tu.of sC);have ci:KA HC u k:=(b5.mono (Tu.of ((s7.trans s8).trans s9))).mono (Tu.of sC);refine rS ?_;refine Eh (K:=K) (P3:=P3) (E:=E0) [x] bH bg ci (Fs.qh hK.W hk) bA (λz=>hy (f6.mp z).1) (bf.same sC) bh λcj cm HD au bi cn=>?_;obtain⟨cG,aF⟩:=(bf.same sC).tab;obtain⟨cH,cI⟩:=(be.same sC).tab;have bj:=sG (be.same sC) bB au aF;have bu:RecAt S n HD fs (eG fo ko) δ:=(cd.same sC).keep (l8 aF au) λc o hc e=>au c o (λz=>hc (by rw[z];exact bQ)) e;have aY:HD aJ=some (.dK (eG fo ko)):=jA aF au (sC _ _ (s9 _ _ (s8 _ _ aX))) (by intro ps z;cases z);have bm:HD sh=some (.dK (eG (gv fo y (fo x)) (eE [x] ko++[y]))):=jA aF au (sC _ _ (s9 _ _ bd)) (by intro ps z;cases z);have co:jK HD C v dx x y:=jA aF au (sC _ _ bt) (by intro ps z;cases z);have bL:=bH.mono (l8 aF au);have bI:(eE [x] ko++[y]).Nodup:=List.nodup_append.mpr ⟨a3.filter _,by simp,λa ha b hb e=>a7 (by rw[<-List.mem_singleton.mp hb,<-e];exact(f6.mp ha).1)⟩;have aW:=bu.LV a3 hK.nd hk hy;obtain⟨cx,aH⟩:=bj.tab;obtain⟨cy,cz⟩:=bi.tab;refine⟨_,rfl,_,rfl,_,rfl,⟨dx,x,y,fs,k,fo,ko,gv fo y (fo x),eE [x] ko++[y],S,λz=>if z=y then δ x else δ z⟩,⟨bA,hk,hy,a3,bz,bp,λz=>a7 (f6.mp z).1,bI,a4⟩,?_⟩;refine⟨v,kk,t,xs,cj,cm,_,src,aJ,sh,eG fo ko,gv fo y (fo x),eE [x] ko++[y],δ,_,S,rfl,co,bL,cn,?_,bj,aY,aY,bu,bm,bI,aW,⟨bm,aW⟩,a4,?_,?_,λcq p' aU bv=>?_,λcq p' aU bv=>?_,λHE bw cr=>?_⟩
   . have:=Fs.vh y k (fs.fe (eE [x] fs.names));have:=Fs.sJ (eE [x] fs.names) fs;have:=Fs.nI hk;show((fs.fe (eE [x] fs.names)).ins y k).dep<=4;omega
   . intro z;rw[Fs.kF,iZ] at z;rcases qr.mp z with e|e
     . exact bU e.symm
     . exact(bM _ (f6.mp e).1).2.2.2.2 rfl
   . rw[Fs.kF,o7];omega
   . have R2:=aW.keep (l8 aH aU) λc o hc e=>aU c o (λz=>hc (by rw[z];exact a4)) e;exact⟨_,bv,R2.len,nU.of R2 R2⟩
   . have R2:=bu.keep (l8 aH aU) λc o hc e=>aU c o (λz=>hc (by rw[z];exact a4)) e;exact⟨_,bv,R2.LW a3 bp a7⟩
   . refine q (c+1) HE (λc' o bx e=>?_) ((g9.go (SB.of sC) (sC _ _ g9.at_) (Q16 _)).sH au aF |>.sH bw aH) (by omega) (by omega) cr (sG bi (Ne.symm bB) bw aH);exact bw _ _ (λz=>bx (.inr (.inl z))) (au _ _ (λz=>bx (.inr (.inr z))) (sC _ _ (aV _ _ (λz=>bx (.inl z)) e)))
end
noncomputable def jL (δ:Str->D):Fs->Ds
 | .nil=>.nil
 | .cons x _ r=>.cons x (δ x) (jL δ r)
theorem Ej (δ:Str->D):∀fs:Fs,(jL δ fs).len=fs.names.length
 | .nil=>rfl
 | .cons x _ r=>by
   show(jL δ r).len+1=r.names.length+1;rw[Ej δ r]
theorem El {S:List Addr}{n:Nat}{H:Hp}{f:Str->V}{δ:Str->D}:∀(fs:Fs),fs.names.Nodup->(∀x k,fs.get x=some k->∃fp,Own H (f x) (δ x) fp/\(∀c∈fp,c ∉ S)/\fZ k (δ x)/\(δ x).dep<=n/\(δ x).Sm)->
 ∃fp,fc H (eG f fs.names) (jL δ fs) fp/\(∀c∈fp,c ∉ S)/\gI fs (jL δ fs)/\(jL δ fs).dep<=n/\(jL δ fs).Sm
 | .nil,_,_=>⟨[],by
    show fc H [] .nil [];unfold fc;exact⟨rfl,rfl⟩,(λc hc=>nomatch hc),by
    show gI .nil .nil;unfold gI;rfl,Q0b _,by
    show Ds.Sm .nil;unfold Ds.Sm;trivial⟩
 | .cons x k r,Y,h=>by
   obtain⟨n1,n2⟩:=List.nodup_cons.mp (show(x::r.names).Nodup from Y);obtain⟨J,a1,a2,a3,a4,a5⟩:=h x k (by show(if x=x then some k else r.get x)=_;rw[if_pos rfl])
   obtain⟨L,b1,b2,b3,b4,b5⟩:=El r n2 λz q U=>h z q (by
    show(if z=x then some k else r.get z)=_;rw[if_neg (λe=>n1 (by rw[<-e];exact Fs.get_mem U))];exact U)
   refine⟨J++L,?_,?_,?_,?_,?_⟩
   . show fc H ((Sum.inr x,f x)::eG f r.names) (.cons x (δ x) (jL δ r)) (J++L);unfold fc;exact⟨f x,_,J,L,rfl,rfl,a1,b1⟩
   . intro c hc;rcases List.mem_append.mp hc with e|e
     . exact a2 c e
     . exact b2 c e
   . show gI (.cons x k r) (.cons x (δ x) (jL δ r));unfold gI;exact⟨δ x,_,rfl,a3,b3⟩
   . show max (δ x).dep (jL δ r).dep<=n;omega
   . show Ds.Sm (.cons x (δ x) (jL δ r));unfold Ds.Sm;exact⟨a5,b5⟩
theorem RecAt.each {S:List Addr}{n:Nat}{H:Hp}{fs:Fs}{f:Str->V}{l:List Str}{δ:Str->D}(h:RecAt S n H fs (eG f l) δ)(x:Str)(k:Kd)(J:fs.get x=some k):x∈l/\∃fp,Own H (f x) (δ x) fp/\(∀c∈fp,c ∉ S)/\fZ k (δ x)/\(δ x).dep<=n/\(δ x).Sm:=by
 obtain⟨v,fp,z,g⟩:=h.get x k J;rw[ie] at z;by_cases e:x∈l
 . rw[if_pos e] at z
   cases z;exact⟨e,fp,g⟩
 . rw[if_neg e] at z;cases z
theorem RecAt.up {S:List Addr}{n:Nat}{H:Hp}{fs:Fs}{kvs:List (Key × V)}{δ:Str->D}(h:RecAt S n H fs kvs δ):RecAt S (n+1) H fs kvs δ:=
 ⟨h.len,h.nd,λx k z=>by
   obtain⟨v,fp,a,b,c,d,e,f⟩:=h.get x k z;exact⟨v,fp,a,b,c,d,Q2t e,f⟩⟩
noncomputable def qu (δ:Str->D) (fs:Fs) (ss:List Str) (y:Str):Str->D:=λz=>if z=y then .dct (jL δ (fs.fe ss)) else δ z
theorem RecAt.nest {S:List Addr}{n:Nat}{H:Hp}{fs:Fs}{f:Str->V}{l:List Str}{δ:Str->D}{ss:List Str}{y:Str}{hc:Addr}(h:RecAt S n H fs (eG f l) δ)(hl:l.Nodup)(Y:fs.names.Nodup)(ai:fs.names.length<=12)(hy:y ∉ eE ss fs.names)(aa:hc ∉ S)(hH:H hc=some (.dK (eG f (fs.fe ss).names))):
 RecAt S (n+1) H (jz fs ss y) (eG (gv f y (.ref hc)) (eE ss l++[y])) (qu δ fs ss y):=by
 have hm:∀z,z∈l↔z∈fs.names:=h.kG Y;have ab:y ∉ eE ss l:=λz=>hy (f6.mpr ⟨(hm y).mp (f6.mp z).1,(f6.mp z).2⟩);have ac:(eE ss l++[y]).Nodup:=List.nodup_append.mpr ⟨hl.filter _,by simp,λa ha b hb e=>ab (by rw[<-List.mem_singleton.mp hb,<-e];exact ha)⟩;have ae:(jz fs ss y).names=ix id y (eE ss fs.names):=by rw[Fs.kF,iZ]
 have af:y ∉ (fs.fe (eE ss fs.names)).names:=by rw[iZ];exact hy
 refine⟨?_,vJ _ ac,λz q J=>?_⟩
 . rw[iG,ae,o7,Q0c,sF (l:=eE ss l) (m:=eE ss fs.names) (hl.filter _) (Y.filter _) (λz=>by rw[f6,f6,hm z])];rfl
 . rw[Fs.lA _ _ _ af] at J;by_cases e:z=y
   . subst e;rw[if_pos rfl] at J
     cases J
     obtain⟨fq,b1,b2,b3,b4,b5⟩:=El (S:=S) (n:=n) (H:=H) (f:=f) (δ:=δ) (fs.fe ss) (by rw[Fs.i5];exact Y.filter _) λx k U=>by
      rw[Fs.o5] at U;by_cases ex:x∈ss
      . rw[if_pos ex] at U;exact(h.each x k U).2
      . rw[if_neg ex] at U;cases U
     refine⟨.ref hc,hc::fq,?_,?_⟩
     . rw[ie,if_pos (Q06 _ Q04)];show some (if z=z then V.ref hc else f z)=_;rw[if_pos rfl]
     . have L:qu δ fs ss z z=.dct (jL δ (fs.fe ss)):=by
        show(if z=z then _ else _)=_;rw[if_pos rfl]
       rw[L];refine⟨?_,?_,?_,?_,?_⟩
       . unfold Own;exact⟨hc,_,fq,rfl,hH,rfl,b1⟩
       . intro c ag;rcases List.mem_cons.mp ag with e'|e'
         . rw[e'];exact aa
         . exact b2 c e'
       . unfold fZ;exact⟨_,rfl,b3⟩
       . show(jL δ (fs.fe ss)).dep+1<=n+1;omega
       . unfold D.Sm;refine⟨?_,b5⟩;rw[Ej,Fs.i5];have:=Q0i (λx=>decide (x∈ss)) fs.names;omega
   . rw[if_neg e,Fs.o5] at J;by_cases e2:z∈eE ss fs.names
     . rw[if_pos e2] at J;obtain⟨ah,fp,g1,g2,g3,g4,g5⟩:=h.each z q J;have L:qu δ fs ss y z=δ z:=if_neg e;refine⟨f z,fp,?_,?_⟩
       . rw[ie,if_pos (Q0q _ (f6.mpr ⟨ah,(f6.mp e2).2⟩))];show some (if z=y then _ else f z)=_;rw[if_neg e]
       . rw[L];exact⟨g1,g2,g3,Q2t g4,g5⟩
     . rw[if_neg e2] at J;cases J
theorem Em {f g:Str->V}{l:List Str}(h:∀x∈l,f x=g x):eG f l=eG g l:=by
 unfold eG;exact Q1h λx z=>by rw[h x z]
theorem En {g:Str->V}:∀(B A:List Str) (f:Str->V),(∀x∈B,x ∉ A)->B.Nodup->jJ (eG f A) (eG g B)=eG (λz=>if z∈B then g z else f z) (A++B)
 |[],A,f,_,_=>by
  rw[Q0y];show eG f A=_;exact Em λx _=>by rw[if_neg (λz=>nomatch z)]
 |x::r,A,f,Y,nd=>by
  obtain⟨n1,n2⟩:=List.nodup_cons.mp nd;have e:jJ (eG f A) (eG g (x::r))=jJ (putK (eG f A) (Sum.inr x) (g x)) (eG g r):=rfl
  rw[e,se f (g x) (Y x Q04),En r (A++[x]) _ (λz U hA=>by
   rcases List.mem_append.mp hA with q|q
   . exact Y z (Q0e _ U) q
   . exact n1 (by rw[<-List.mem_singleton.mp q];exact U)) n2,Q1j]
  show eG _ (A++x::r)=_;refine Em λz U=>?_;show(if z∈r then g z else if z=x then g x else f z)=if z∈x::r then g z else f z
  by_cases L:z∈r
  . rw[if_pos L,if_pos (Q0e _ L)]
  . rw[if_neg L];by_cases J:z=x
    . rw[if_pos J,if_pos (by rw[J];exact Q04),J]
    . rw[if_neg J,if_neg (λq=>by
       rcases List.mem_cons.mp q with q|q
       . exact J q
       . exact L q)]
theorem RecAt.LZ {S:List Addr}{n:Nat}{H:Hp}{fs:Fs}{f:Str->V}{l:List Str}{δ:Str->D}{ss:List Str}{y:Str}{hv:V}(h:RecAt S n H fs (eG f l) δ)(hl:l.Nodup)(hn:fs.names.Nodup)(U:y ∉ eE ss fs.names):
 RecAt S n H fs (jJ (eG (gv f y hv) (eE [y] (eE ss l++[y]))) (eG f (fs.fe ss).names)) δ:=by
 have L:∀z,z∈l↔z∈fs.names:=h.kG hn
 have J:∀z,z∈(fs.fe ss).names↔z∈l/\z∈ss:=λz=>by
  rw[Fs.i5,Q27,L z];exact⟨λq=>⟨q.1,of_decide_eq_true q.2⟩,λq=>⟨q.1,decide_eq_true q.2⟩⟩
 have hA:∀z,z∈eE [y] (eE ss l++[y])↔z∈l/\z ∉ ss:=λz=>by
  rw[f6,Q1y,f6,Q1e];constructor
  . rintro⟨a|a,c⟩
    . exact a
    . exact absurd a c
  . rintro⟨a,b⟩;exact⟨.inl ⟨a,b⟩,λe=>U (f6.mpr ⟨by rw[<-e];exact(L z).mp a,by rw[<-e];exact b⟩)⟩
 have nA:(eE [y] (eE ss l++[y])).Nodup:=by
  have aa:y ∉ eE ss l:=λz=>U (f6.mpr ⟨(L y).mp (f6.mp z).1,(f6.mp z).2⟩);exact(List.nodup_append.mpr ⟨hl.filter _,by simp,λa Y b hb e=>aa (by rw[<-List.mem_singleton.mp hb,<-e];exact Y)⟩).filter _
 have nB:(fs.fe ss).names.Nodup:=by rw[Fs.i5];exact hn.filter _
 have hd:∀x∈(fs.fe ss).names,x ∉ eE [y] (eE ss l++[y]):=λx hx z=>((hA x).mp z).2 ((J x).mp hx).2;rw[En _ _ _ hd nB];refine h.re hl (List.nodup_append.mpr ⟨nA,nB,λa Y b hb e=>hd b hb (by rw[<-e];exact Y)⟩) (λz=>?_) λz hz=>?_
 . rw[Q1y,hA,J];constructor
   . rintro(q|q) <;> exact q.1
   . intro q;by_cases e:z∈ss
     . exact .inr ⟨q,e⟩
     . exact .inl ⟨q,e⟩
 . show(if z∈(fs.fe ss).names then f z else if z=y then hv else f z)=f z;by_cases e:z∈(fs.fe ss).names
   . rw[if_pos e]
   . have ez:z ∉ ss:=λq=>e ((J z).mpr ⟨hz,q⟩);rw[if_neg e,if_neg (λq=>U (f6.mpr ⟨by rw[<-q];exact(L z).mp hz,by rw[<-q];exact ez⟩))]
theorem L0 {A B:TS}{D:Ends}{σ:L2.St}{H:Hp}(Pv:L2.St->Hp->Prop)(J:∀z H',Pv z H'->B D z H')(L:∀N:L2.St->Hp->Prop,(∀z H',Pv z H'->N z H')->A { D with nx:=N } σ H):tw A B D σ H:=L _ J
theorem RecAt.sub {S J:List Addr}{n:Nat}{H:Hp}{fs:Fs}{kvs:List (Key × V)}{δ:Str->D}(h:RecAt S n H fs kvs δ)(L:∀c∈J,c∈S):RecAt J n H fs kvs δ:=
 ⟨h.len,h.nd,λx k U=>by
   obtain⟨v,fp,a,b,c,d⟩:=h.get x k U;exact⟨v,fp,a,b,λe Y z=>c e Y (L e z),d⟩⟩
theorem L9 {S:List Addr}{n:Nat}{H:Hp}{fs:Fs}{f:Str->V}{l:List Str}{δ:Str->D}{ss:List Str}{y:Str}{c hc:Addr}(h:RecAt S n H fs (eG f l) δ)(hl:l.Nodup)(Y:fs.names.Nodup)(hs:ss.Nodup)(L:∀x∈ss,x∈fs.names)(hy:y ∉ eE ss fs.names)(h1:H c=some (.dK (eG f ss)))(h2:H hc=some (.dK (eG f (fs.fe ss).names))):
 nU (n+1) H (jz fs ss y) (eG (gv f y (.ref c)) (eE ss l++[y])) (eG (gv f y (.ref hc)) (eE ss fs.names++[y])):=by
 have hm:∀z,z∈l↔z∈fs.names:=h.kG Y;have aa:y ∉ (fs.fe (eE ss fs.names)).names:=by rw[iZ];exact hy
 have hp:RecAt S n H (fs.fe ss) (eG f ss) δ:=h.part (λx hx=>by rw[ie,if_pos ((hm x).mpr (L x hx))]) hs L Y
 have ab:∀x,x∈(fs.fe ss).names↔x∈ss:=λx=>by
  rw[Fs.i5,Q27];exact⟨λq=>of_decide_eq_true q.2,λq=>⟨L x q,decide_eq_true q⟩⟩
 have hq:RecAt S n H (fs.fe ss) (eG f (fs.fe ss).names) δ:=hp.re hs (by rw[Fs.i5];exact Y.filter _) ab λ_ _=>rfl;intro z q J;rw[show jz fs ss y=(fs.fe (eE ss fs.names)).ins y (.fx (fs.fe ss)) from rfl,Fs.lA _ _ _ aa] at J;by_cases e:z=y
 . subst e;rw[if_pos rfl] at J
   cases J;refine⟨.ref c,.ref hc,?_,?_,.inr ⟨_,c,hc,_,_,δ,S,S,rfl,rfl,rfl,h1,h2,hp.up,hq.up⟩⟩
   . rw[ie,if_pos (Q06 _ Q04)];show some (if z=z then V.ref c else f z)=_;rw[if_pos rfl]
   . rw[ie,if_pos (Q06 _ Q04)];show some (if z=z then V.ref hc else f z)=_;rw[if_pos rfl]
 . rw[if_neg e,Fs.o5] at J;by_cases U:z∈eE ss fs.names
   . rw[if_pos U] at J;obtain⟨ac,fp,g1,g2,g3,g4,g5⟩:=h.each z q J;refine⟨f z,f z,?_,?_,.inl ⟨δ z,fp,fp,g1,g1,g3,Q2t g4,g5⟩⟩
     . rw[ie,if_pos (Q0q _ (f6.mpr ⟨ac,(f6.mp U).2⟩))];show some (if z=y then _ else f z)=_;rw[if_neg e]
     . rw[ie,if_pos (Q0q _ U)];show some (if z=y then _ else f z)=_;rw[if_neg e]
   . rw[if_neg U] at J;cases J
section
variable {P:Program}{w:World}{K:W.Frag}{mg:Str->Option Value}{base:Heap}
variable {C P2 P3:Addr}
theorem L_:fk ["_law_script","_law_at","_law_kind_here","_law_source","_law_other","_law_names_here","_law_some_here","_law_m","_law_into","_law_handed","_law_view","_law_inside","_law_pairs","_law_shown","_law_name","_law_inner","_law_held"] ["_law_script","_law_at","_law_kind_here","_law_source","_law_other"] (eR (top 55)):=fA
theorem Ma (n j:Nat)(T:Tb mg)(NF:l6 K mg C J ba bG bH bv U)(ak:Dn K mg "_law_nested" mB (top 55) al am)(aD:Dn K mg "_law_next" fM (top 36) aE aF)(aG:eh P w K mg base er (1) aE aF fM (k9 K))(aH:Dn K mg "_law_some" rH (top 50) aI aJ)(aK:eh P w K mg base er (2) aI aJ rH (Ea K))(aw:Dn K mg "_law_fresh" oV (top 49) ax ay)(az:eh P w K mg base er (1) ax ay oV (vC))(aa:Dm K "__init__" "Nest.__init__" rF (eW 34 0) J ab)(ac:eh P w K mg base er (1) J ab rF (DX K C))(an:Dm K "keeps" "Nest.keeps" my (eW 34 4) U ao)(ap:eh P w K mg base er (1) U ao my (DZ C))(aq:Dn K mg "_law_sorted" nN (top 52) ar au)(av:eh P w K mg base er (8) ar au nN (sx K P3))(aL:Dn K mg "_law_both" k8 (top 53) aM aN)(aO:eh P w K mg base er (j+7) aM aN k8 (Eg (n+1) P2 C))(hj:10<=j):eh P w K mg base er (j+8) al am mB (sL K n P2 P3 13):=by
 have CT:=NF.ct;have bu:=NF.vp;have bF:=NF.m;have a9:=NF.k;refine ak.F.ok L_ λvs H Q E h=>?_;obtain⟨a,b,kk,src,ag,t,ns,c,xs,fs,fo,ko,δ,S,rfl,g,hc,hK,cj,dV,dW,cm,c4,c5,cn,bI,bw,hR,c6,c7,c8,q⟩:=h;refine⟨rfl,λd3 A outer s nd hr hu=>?_⟩;have d4:xs.length=fs.names.length:=FA.len fs hK.fa
 refine⟨_,(en (nr (i:=5) nd rfl fL (g:=(gK 0)) (tt:=jS) (te:=(f_ (iu K) (fv 0) (tC (.int 0)))) (own:=["_law_pair"]) rfl (iT (N:=["_law_script","_law_at","_law_kind_here","_law_source","_law_other","_law_names_here","_law_some_here","_law_m","_law_into","_law_handed","_law_view","_law_inside","_law_pairs","_law_shown","_law_name","_law_inner","_law_held"]) (sc:=eR (top 55))) (iN (eK (pv 2) d_)) (λ_ _ _ _ _=>(ff (i:=0) (show(["_law_pair","_law_script","_law_at","_law_kind_here","_law_source","_law_other","_law_names_here","_law_some_here","_law_m","_law_into","_law_handed","_law_view","_law_inside","_law_pairs","_law_shown","_law_name","_law_inner","_law_held"]:List Str).Nodup by decide +kernel) rfl (Or.inl rfl) (.inr rfl))) (λ_ _ _ _ _=>kq) (λ_ _ _ _ _=>(eK (pv 0) d_)))
  (en (Ci 6 nd (eL aK hr aH (a_ (pv 0) (a_ (pv 1) (a_ (pv 5) c_)))))
  (en (eT 7 nd (eL aG hr aD (a_ (pv 0) (a_ (pv 1) c_))))
  (en (eT 8 nd (eL az hr aw (a_ (pv 5) (a_ (pv 7) c_))))
  (en (eP (PW.pt (mU (eS og (eX g_ (by rfl) T.gC PySem.boot_len (a_ (pv 6) c_)) d_ (eO _)) (mT (eS fw (eN gg (pv 7) d_) d_ (eO _))))) (eB (eT 8 nd (iW (pv 6) (eN gg (eN iC (pv 7) d_) (eX g_ (by rfl) T.gC PySem.boot_len (a_ (pv 6) c_)))))) eQ)
  (en (eT 9 nd (jO tX (by rfl) T.j4 boot_list (a_ (pv 6) c_)))
  (en (eT 10 nd (AN bu ac (hr.mono (by omega)) rfl bF aa.b .nil jR (a_ (pv 9) (a_ (pv 8) c_))))
  (en (jt (lG PySem.F.plainAttrs_list PySem.F.slot_list_append PySem.F.type_list_append pK (pv 9) (a_ (pv 8) c_)))
  (en (eT 11 nd (jO pJ (by rfl) T.lP boot_tuple (a_ (jT (g:=(gK 0)) (tt:=(jC (f_ (nh K false) (f_ (iu K) (fv 0) (tC (.int 0))) (fv 7)))) (te:=(fv 0)) (own:=["_law_pair"]) rfl (iT (N:=["_law_script","_law_at","_law_kind_here","_law_source","_law_other","_law_names_here","_law_some_here","_law_m","_law_into","_law_handed","_law_view","_law_inside","_law_pairs","_law_shown","_law_name","_law_inner","_law_held"]) (sc:=eR (top 55))) (iN (eK (pv 2) d_)) (λ_ _ _ _ _=>(ff (i:=0) (show(["_law_pair","_law_script","_law_at","_law_kind_here","_law_source","_law_other","_law_names_here","_law_some_here","_law_m","_law_into","_law_handed","_law_view","_law_inside","_law_pairs","_law_shown","_law_name","_law_inner","_law_held"]:List Str).Nodup by decide +kernel) rfl (Or.inl rfl) (.inr rfl))) (λ_ _ _ _ _=>(lH (eS A1 (eK (pv 0) d_) (pv 7) (by with_unfolding_all rfl)))) (λ_ _ _ _ _=>(pv 0))) c_)))
  (en (nr (i:=12) nd rfl fL (g:=(gK 0)) (tt:=(jC (f_ (nh K true) (f_ (iu K) (fv 0) (tC (.int 0))) (fv 7)))) (te:=(fv 0)) (own:=["_law_pair"]) rfl (iT (N:=["_law_script","_law_at","_law_kind_here","_law_source","_law_other","_law_names_here","_law_some_here","_law_m","_law_into","_law_handed","_law_view","_law_inside","_law_pairs","_law_shown","_law_name","_law_inner","_law_held"]) (sc:=eR (top 55))) (iN (eK (pv 2) d_)) (λ_ _ _ _ _=>(ff (i:=0) (show(["_law_pair","_law_script","_law_at","_law_kind_here","_law_source","_law_other","_law_names_here","_law_some_here","_law_m","_law_into","_law_handed","_law_view","_law_inside","_law_pairs","_law_shown","_law_name","_law_inner","_law_held"]:List Str).Nodup by decide +kernel) rfl (Or.inl rfl) (.inr rfl))) (λ_ _ _ _ _=>(lH (eS oj (eK (pv 0) d_) (pv 7) (by with_unfolding_all rfl)))) (λ_ _ _ _ _=>(pv 0)))
  (en (eT 13 nd nq)
  (en (ic PassesOwn.never rfl (mf (pv 12)) (iQ rfl (gq (ff (i:=14) nd rfl fL) (gq (ff (i:=15) nd rfl fL) iP))) (eB (jZ hu (pv 13) (pv 14) (iw hu (pv 4) (pv 14) (λ_ _=>rfl)) rfl)))
  (en (eT 16 nd nq)
  (en (ic PassesOwn.never rfl (iN (pv 11)) (iQ rfl (gq (ff (i:=14) nd rfl fL) (gq (ff (i:=15) nd rfl fL) iP))) (eB (jZ hu (pv 16) (pv 14) (iw hu (pv 4) (pv 14) (λ_ _=>rfl)) rfl)))
  (en (jZ hu (pv 13) (pv 8) (pv 16) rfl)
  (en (ic PassesOwn.never rfl (mf (eN nj (pv 5) (gA (a_ (pv 8) (a_ (eN ml fh (pv 8)) c_))))) (ff (i:=14) nd rfl fL) (eB (eP (eS gZ (mn (pv 10) CT a9 ap (hr.mono (by omega)) an.b .nil jR (a_ (pv 14) c_)) (i8 (iH oj (pv 14) (pv 6) (by with_unfolding_all rfl)) (js (iH gZ (pv 14) (pv 8) (eO _)))) (eO _)) (eB (eJ gH)) eQ)))
  (eB (eJ (eL aO hr aL (a_ (pv 10) (a_ (pv 2) (a_ (eL av hr aq (a_ (eN nj (pv 12) (gA (a_ (ik (a_ (pv 8) (a_ (ik (a_ fh (a_ (pv 11) c_))) c_))) c_))) c_)) (a_ (pv 3) (a_ (pv 4) (a_ (pv 13) c_))))))))))))))))))))))))),?_⟩
 ac_rfl
 refine gU λN hN=>?_;refine⟨_,rfl,kk,_,_,_,rfl,rfl,eu.of hK.at_,rfl,t,rfl,⟨_,eu.of hK.tu⟩,λi m ys H'=>H'=H/\m=xs.length - i/\i<=xs.length/\ys=(fs.names.take i).map V.str,⟨xs.length,rfl,by simp,Q0b _,rfl⟩,?_⟩;rintro i m ys aP ⟨rfl,rfl,hi,rfl⟩;by_cases Y:i<xs.length
 . refine .inr ⟨⟨xs,xs[i],eu.of hK.tu,by simp[Y]⟩,by rw[Q02,Q0k];exact fX (by omega),λx H' y=>?_⟩;obtain⟨rfl,y⟩:=y;have hv:=y xs (eu.of hK.tu);obtain⟨c,u,nm,k,rfl,ah,hc,hk⟩:=FA.get fs hK.fa hv;have L:fs.names[i]? =some nm:=by rw[Fs.iI,ah];rfl
   refine⟨rfl,yes (gB ?_)⟩;refine⟨_,rfl,c,_,_,_,rfl,rfl,eu.of hc,rfl,xs.length - (i+1),by omega,rfl,rfl,Y,?_⟩;rw[Q0p,L,Q0h];rfl
 have ei:fs.names.take i=fs.names:=Q0w (by omega);rw[ei];refine .inl ⟨⟨xs,eu.of hK.tu,Q0v Y⟩,λl hl=>hN _ _ (gU λN hN=>?_)⟩;clear Y hi ei;have s1:Same aP (upd aP l (.lst (fs.names.map V.str))):=Same.new hl;have bZ:upd aP l (.lst (fs.names.map V.str)) l=some (.lst (fs.names.map V.str)):=eI;have b1:l≠b:=λz=>by rw[z,g.at_] at hl;cases hl
 generalize upd aP l (.lst (fs.names.map V.str))=H1 at s1 bZ;have g1:=g.go (SB.of s1) (s1 _ _ g.at_) (Q16 _);refine⟨_,rfl,_,rfl,_,rfl,a,b,l,ns,c,fs.names,rfl,g1,by omega,bZ,b1,hK.nd,hK.gY,λsl ss c2 H2 a6 bJ c9 da dX db co bx cO=>hN _ _ (gU λN hN=>?_)⟩;have g2:=g1.go a6 c9 da;have cP:sl≠b:=λz=>by rw[z,g1.at_] at bJ;cases bJ
 have dc:=a6 _ _ b1 bZ;refine⟨_,rfl,_,rfl,a,b,ns,c2,rfl,g2,by omega,λr H3 r0 r1 a7 cq=>hN _ _ (gU λN hN=>?_)⟩;have g3:=g2.go a7 cq (by omega);have cr:=a7 _ _ b1 dc;have aA:=a7 _ _ cP db;refine⟨_,rfl,_,rfl,l,r,fs.names,rfl,cr,hK.gY,r0,(by omega),λy0 dd cQ dY=>hN _ _ ?_⟩
 try dsimp only[gK]
 refine L0 (A:=n8 _ _ _) (λcs H'=>∃y:Str,cs=[some (.ref a),some (.ref b),some (.ref kk),some (.ref src),some (.ref ag),some (.ref l),some (.ref sl),some (.int r),some (.str y),none,none,none,none,none,none,none,none]/\H'=H3/\y ∉ eE ss fs.names/\y≠"xyxyxy"/\y.length<=12) ?_ (λN hB=>?_);rotate_left
 . have bK:=hB [some (.ref a),some (.ref b),some (.ref kk),some (.ref src),some (.ref ag),some (.ref l),some (.ref sl),some (.int r),some (.str y0),none,none,none,none,none,none,none,none] H3 ⟨y0,rfl,rfl,(λz=>dd (f6.mp z).1),cQ,by omega⟩;refine⟨_,rfl,sl,_,rfl,.inl (eF.of aA),_,_,rfl,rfl,_,rfl,gu (λc1=>?_) (λc1=>fE bK)⟩;refine⟨_,rfl,_,_,rfl,rfl,(by show(0:Int)<3;decide),rfl,_,rfl,gu (λc3=>?_) (λc3=>bK)⟩;have bL:0<((ss.map V.str).length:Int):=of_decide_eq_true c1;have d5:((ss.map V.str).length:Int)=(ss.length:Int):=by rw[Q02]
   have de:0<=r / 3 % ((ss.map V.str).length:Int):=Q0l _ (by omega);have d6:=Q0o (r / 3) bL;obtain⟨iz,df⟩:∃iz:Nat,r / 3 % ((ss.map V.str).length:Int)=(iz:Int):=⟨_,(Q2p de).symm⟩;have cR:iz<ss.length:=by omega
   obtain⟨y,cu⟩:∃y,ss[iz]? =some y:=⟨_,Q03 cR⟩;have cw:y∈ss:=Q0u cu
   have ah:ir (ss.map V.str) (r / 3 % ((ss.map V.str).length:Int))=some (.str y):=by
    rw[df];exact jY (j:=iz) (by rw[Q0g,cu];rfl)
   have cx:=cm y (bx y cw);refine⟨_,rfl,_,rfl,_,_,rfl,rfl,⟨by decide,by decide⟩,_,rfl,sl,_,rfl,.inl (eF.of aA),_,_,rfl,rfl,bL,sl,_,_,_,rfl,rfl,eF.of aA,ah,?_⟩;exact hB _ _ ⟨y,rfl,rfl,(λz=>(f6.mp z).2 cw),cx.2.2.2.2,cx.1⟩
 rintro cs H4 h;refine gU λN hN=>?_;obtain⟨y,rfl,rfl,hy,dg,dh⟩:=h;refine⟨_,rfl,sl,_,rfl,.inl (eF.of aA),λhd cy=>hN _ _ (gU λN hN=>?_)⟩;have s4:Same H4 (upd H4 hd (.lst (ss.map V.str))):=Same.new cy;have ai:upd H4 hd (.lst (ss.map V.str)) hd=some (.lst (ss.map V.str)):=eI;generalize upd H4 hd (.lst (ss.map V.str))=b2 at s4 ai;refine⟨_,rfl,_,rfl,λv dx hv b3 d7=>⟨v,hd,dx,y,ss,rfl,eI,eF.of (by rw[eA (eM ai hv),eA (eM ai b3)];exact ai),co,cO,λnl H5 cz keep bz=>⟨rfl,hN _ _ (gU λN hN=>?_)⟩⟩⟩;have s5:Same b2 H5:=λc o e=>keep c o (eM e hv) (by rw[eA (eM e hv),eA (eM e b3)];exact e)
 have bM:b2 nl=none:=by
  cases e:b2 nl with
  |none=>rfl
  |some o=>
   rw[eA (eM e hv),eA (eM e b3),e] at cz
   cases cz
 have bN:=s5 _ _ ai;have cS:nl≠hd:=λz=>by rw[z,ai] at bM;cases bM
 have di:v≠hd:=λz=>by rw[z,ai] at hv;cases hv
 refine⟨_,rfl,.inl ⟨rfl,_,eF.of bN⟩,_,rfl,hd,_,_,rfl,rfl,bN,(by rw[Q02];exact fX (by omega)),hN _ _ (gU λN hN=>?_)⟩;have k6:∀c o,c≠hd->H5 c=some o->upd H5 hd (.lst (ss.map V.str++[.str y])) c=some o:=λc o hc e=>by rw[eA hc];exact e
 have bA:Same H4 (upd H5 hd (.lst (ss.map V.str++[.str y]))):=λc o e=>k6 c o (eM e cy) (s5 _ _ (s4 _ _ e));have cA:jo (upd H5 hd (.lst (ss.map V.str++[.str y]))) C v dx nl ss y:=⟨k6 _ _ di bz.ob,k6 _ _ cS bz.nl,bz.nd,bz.gY⟩;generalize upd H5 hd (.lst (ss.map V.str++[.str y]))=H6 at bA cA;have dj:Tu aP H6:=λc xs e=>bA _ _ (a7 _ _ (iB (a6 _ _ (iB (s1 _ _ e) g1.at_ (by intro z;cases z)) (s1 _ _ e)) g2.at_ (by intro z;cases z)) (a6 _ _ (iB (s1 _ _ e) g1.at_ (by intro z;cases z)) (s1 _ _ e)));have aV:=hK.mono dj;have bO:=bA _ _ aA;refine⟨_,rfl,kk,_,_,_,rfl,rfl,eu.of aV.at_,rfl,t,rfl,⟨_,eu.of aV.tu⟩,λi m ys H'=>H'=H6/\m=xs.length - i/\i<=xs.length/\ys=(((xs.zip fs.names).take i).filter λq=>decide (q.2∈ss)).map (·.1),⟨xs.length,rfl,by simp,Q0b _,rfl⟩,?_⟩;rintro i m ys bB ⟨rfl,rfl,hi,rfl⟩;by_cases Y:i<xs.length
 . have hb:((((xs.zip fs.names).take i).filter λq=>decide (q.2∈ss)).map (·.1)).length<=i:=by
    rw[Q02];exact Q05 (Q0i _ _) (by rw[Q0k];omega)
   refine .inr ⟨⟨xs,xs[i],eu.of aV.tu,by simp[Y]⟩,fX (by omega),λz H' y=>?_⟩;obtain⟨rfl,y⟩:=y;have hv:=y xs (eu.of aV.tu);obtain⟨cc,u,nm,k,rfl,ah,hc,hk⟩:=FA.get fs aV.fa hv;have L:fs.names[i]? =some nm:=by rw[Fs.iI,ah];rfl
   have hz:(xs.zip fs.names)[i]? =some (.ref cc,nm):=by
    rw[Q1z];exact⟨hv,L⟩
   have step:(((xs.zip fs.names).take (i+1)).filter λq=>decide (q.2∈ss)).map (·.1)=(((xs.zip fs.names).take i).filter λq=>decide (q.2∈ss)).map (·.1)++(if nm∈ss then [V.ref cc] else []):=by
    rw[Q0p,hz,Q1m,Q0h];congr 1;show(List.filter _ [(V.ref cc,nm)]).map _=_;rw[Q0z];by_cases e:nm∈ss
    . rw[if_pos (show decide (nm∈ss)=true from decide_eq_true e),if_pos e];rfl
    . rw[if_neg (show ¬decide (nm∈ss)=true by rw[decide_eq_false e];decide),if_neg e];rfl
   refine⟨rfl,_,rfl,cc,_,_,_,rfl,rfl,eu.of hc,rfl,_,rfl,sl,_,rfl,.inl (eF.of bO),rfl,lY,_,rfl,?_⟩;refine gu (λc'=>?_) (λc'=>?_)
   . have e:nm∈ss:=of_decide_eq_true (jn.symm.trans (show inV (V.str nm) (ss.map V.str)=true from c'));refine⟨_,rfl,xs.length - (i+1),by omega,rfl,rfl,Y,?_⟩;rw[step,if_pos e]
   . have e:¬nm∈ss:=λz=>c' (show inV (V.str nm) (ss.map V.str)=true from jn.trans (decide_eq_true z));refine⟨xs.length - (i+1),by omega,rfl,rfl,Y,?_⟩;rw[step,if_neg e,Q0y]
 have ef:((xs.zip fs.names).filter λq=>decide (q.2∈ss)).map (·.1)=fC ss xs fs.names:=rfl;rw[Q0w (by rw[Q2];omega),ef];refine .inl ⟨⟨xs,eu.of aV.tu,Q0v Y⟩,λil dk=>⟨il,_,rfl,.inl ⟨eF.of eI,λit dm=>hN _ _ (gU λN hN=>?_)⟩⟩⟩;clear Y hi;have s7:Same bB (upd (upd bB il (.lst (fC ss xs fs.names))) it (.tup (fC ss xs fs.names))):=(Same.new dk).trans (Same.new dm);have bP:upd (upd bB il (.lst (fC ss xs fs.names))) it (.tup (fC ss xs fs.names)) it=some (.tup (fC ss xs fs.names)):=eI;generalize upd (upd bB il (.lst (fC ss xs fs.names))) it (.tup (fC ss xs fs.names))=H7 at s7 bP;have aW:=aV.mono (Tu.of s7);have cT:=s7 _ _ bO;refine⟨_,rfl,kk,_,_,_,rfl,rfl,eu.of aW.at_,rfl,t,rfl,⟨_,eu.of aW.tu⟩,λi m ys H'=>H'=H7/\m=xs.length - i/\i<=xs.length/\ys=(((xs.zip fs.names).take i).filter λq=>decide (q.2 ∉ ss)).map (·.1),⟨xs.length,rfl,by simp,Q0b _,rfl⟩,?_⟩;rintro i m ys bC ⟨rfl,rfl,hi,rfl⟩;by_cases Y:i<xs.length
 . have hb:((((xs.zip fs.names).take i).filter λq=>decide (q.2 ∉ ss)).map (·.1)).length<=i:=by
    rw[Q02];exact Q05 (Q0i _ _) (by rw[Q0k];omega)
   refine .inr ⟨⟨xs,xs[i],eu.of aW.tu,by simp[Y]⟩,fX (by omega),λz H' y=>?_⟩;obtain⟨rfl,y⟩:=y;have hv:=y xs (eu.of aW.tu);obtain⟨cc,u,nm,k,rfl,ah,hc,hk⟩:=FA.get fs aW.fa hv;have L:fs.names[i]? =some nm:=by rw[Fs.iI,ah];rfl
   have hz:(xs.zip fs.names)[i]? =some (.ref cc,nm):=by
    rw[Q1z];exact⟨hv,L⟩
   have step:(((xs.zip fs.names).take (i+1)).filter λq=>decide (q.2 ∉ ss)).map (·.1)=(((xs.zip fs.names).take i).filter λq=>decide (q.2 ∉ ss)).map (·.1)++(if nm∈ss then [] else [V.ref cc]):=by
    rw[Q0p,hz,Q1m,Q0h];congr 1;show(List.filter _ [(V.ref cc,nm)]).map _=_;rw[Q0z];by_cases e:nm∈ss
    . rw[if_neg (show ¬decide (nm ∉ ss)=true by rw[decide_eq_false (λz=>z e)];decide),if_pos e];rfl
    . rw[if_pos (show decide (nm ∉ ss)=true from decide_eq_true e),if_neg e];rfl
   refine⟨rfl,_,rfl,cc,_,_,_,rfl,rfl,eu.of hc,rfl,_,rfl,sl,_,rfl,.inl (eF.of cT),rfl,lY,_,rfl,?_⟩;refine gu (λc'=>?_) (λc'=>?_)
   . have e:¬nm∈ss:=λz=>by
      have c':(!inV (V.str nm) (ss.map V.str))=true:=c';rw[jn,decide_eq_true z] at c'
      cases c'
     refine⟨_,rfl,xs.length - (i+1),by omega,rfl,rfl,Y,?_⟩;rw[step,if_neg e]
   . have e:nm∈ss:=Classical.byContradiction λe=>c' (show(!inV (V.str nm) (ss.map V.str))=true by rw[jn,decide_eq_false e];rfl);refine⟨xs.length - (i+1),by omega,rfl,rfl,Y,?_⟩;rw[step,if_pos e,Q0y]
 rw[Q0w (by rw[Q2];omega),<-vj];refine .inl ⟨⟨xs,eu.of aW.tu,Q0v Y⟩,λpl dn=>hN _ _ ?_⟩;clear Y hi;have s8:Same bC (upd bC pl (.lst (fC (eE ss fs.names) xs fs.names))):=Same.new dn;have aT:upd bC pl (.lst (fC (eE ss fs.names) xs fs.names)) pl=some (.lst (fC (eE ss fs.names) xs fs.names)):=eI;generalize upd bC pl (.lst (fC (eE ss fs.names) xs fs.names))=H8 at s8 aT;have bb:Same H4 H8:=(bA.trans s7).trans s8;have b4:=aW.mono (Tu.of s8);have dp:=cA.same (s7.trans s8);have a5:=s8 _ _ bP;have dq:=bb _ _ cr;have cU:=bb _ _ aA
 have cC:b≠ag:=λz=>by
  have:=g.at_;rw[z,bI] at this;cases this
 have aj:H8 ag=some (.dK (eG fo ko)):=bb _ _ (a7 _ _ (Ne.symm cC) (a6 _ _ (Ne.symm cC) (s1 _ _ bI)))
 have cf:ko.length<=12:=by
  have:=hR.len;rw[iG] at this;rw[this];exact hK.gY
 have hm:=hR.kG hK.nd;have b5:=FA.few (ss:=eE ss fs.names) fs b4.fa;have cD:=FA.few (ss:=ss) fs b4.fa;have b6:(eE ss fs.names).Nodup:=hK.nd.filter _;have dt:(fs.fe ss).names.Nodup:=by rw[Fs.i5];exact hK.nd.filter _
 have len1:(eE ss fs.names).length<=12:=Q05 (Q0i _ _) hK.gY;have len2:(fs.fe ss).names.length<=12:=by rw[Fs.i5];exact Q05 (Q0i _ _) hK.gY
 have aC:∀{l:List Str} {i:Nat} {nm:Str},l.Nodup->l[i]? =some nm->nm ∉ l.take i:=λ{l i nm} hn h z=>by
  obtain⟨hi,e0⟩:=List.getElem?_eq_some_iff.mp h;obtain⟨j',du,e'⟩:=Q1 z;rw[Q0k] at du;rw[Q1l] at e';exact absurd (e'.trans e0.symm) (List.pairwise_iff_getElem.mp hn j' i (by omega) hi (by omega))
 intro sh cE;have s9:Same H8 (upd H8 sh (.dK [])):=Same.new cE;have bg:upd H8 sh (.dK []) sh=some (.dK []):=eI;generalize upd H8 sh (.dK [])=H9 at s9 bg;have bc:∀c o,H8 c=some o->c≠sh:=λc o e=>eM e cE;refine⟨_,rfl,pl,rfl,⟨_,eF.of (s9 _ _ aT)⟩,n_ (xs:=fC (eE ss fs.names) xs fs.names) (λi σ H'=>(∃z1 z2,σ=[some (.ref a),some (.ref b),some (.ref kk),some (.ref src),some (.ref ag),some (.ref l),some (.ref sl),some (.int r),some (.str y),some (.ref hd),some (.ref v),some (.ref it),some (.ref pl),some (.ref sh),z1,z2,none])/\(∀c o,c≠sh->H9 c=some o->H' c=some o)/\H' sh=some (.dK (eG fo ((eE ss fs.names).take i)))) ⟨⟨_,_,rfl⟩,λc o _ e=>e,bg⟩ ?_ ?_ ?_⟩
 . rintro i σ H' _ ⟨_,k',_⟩;exact eF.of (k' _ _ (bc _ _ aT) (s9 _ _ aT))
 . rintro i w σ H' hw ⟨⟨z1,z2,rfl⟩,k',cV⟩;obtain⟨cc,u,nm,k,rfl,ah,hc,hk⟩:=FA.get _ b5 hw;have L:(eE ss fs.names)[i]? =some nm:=by rw[<-iZ,Fs.iI,ah];rfl
   have bh:nm∈ko:=(hm nm).mpr (f6.mp (Q0u L)).1;refine⟨cc,_,rfl,eu.of (k' _ _ (bc _ _ hc) (s9 _ _ hc)),rfl,_,_,rfl,_,_,rfl,rfl,?_⟩;refine⟨_,rfl,_,rfl,ag,fo nm,rfl,(by have:=gc.k (k:=Sum.inr nm) (k' _ _ (bc _ _ aj) (s9 _ _ aj));rw[ie,if_pos bh] at this;exact this),_,rfl,_,rfl,sh,_,rfl,jj.k (k:=Sum.inr nm) cV (by rw[iG];exact fX (by rw[Q0k];omega)),?_⟩;refine⟨⟨_,_,rfl⟩,λc o h1 e=>by rw[eA h1];exact k' c o h1 e,?_⟩;rw[eI,rZ _ (aC b6 L),Q0p,L];rfl
 rintro σ aX ⟨⟨z1,z2,rfl⟩,cF,a2⟩;rw[FA.len _ b5,iZ,Q1k] at a2;have ae:Same H8 aX:=λc o e=>cF c o (bc c o e) (s9 _ _ e);clear cF s9 bg;intro he bD;have aY:Same aX (upd aX he (.dK [])):=Same.new bD;have a3:upd aX he (.dK []) he=some (.dK []):=eI;generalize upd aX he (.dK [])=dv at aY a3;have bE:∀c o,aX c=some o->c≠he:=λc o e=>eM e bD;refine⟨_,rfl,it,rfl,⟨_,eu.of (aY _ _ (ae _ _ a5))⟩,mh (xs:=fC ss xs fs.names) (λi σ H'=>(∃z1 z2,σ=[some (.ref a),some (.ref b),some (.ref kk),some (.ref src),some (.ref ag),some (.ref l),some (.ref sl),some (.int r),some (.str y),some (.ref hd),some (.ref v),some (.ref it),some (.ref pl),some (.ref sh),z1,z2,some (.ref he)])/\(∀c o,c≠he->dv c=some o->H' c=some o)/\H' he=some (.dK (eG fo ((fs.fe ss).names.take i)))) ⟨⟨_,_,rfl⟩,λc o _ e=>e,a3⟩ ?_ ?_ ?_⟩
 . rintro i σ H' _ ⟨_,k',_⟩;exact eu.of (k' _ _ (bE _ _ (ae _ _ a5)) (aY _ _ (ae _ _ a5)))
 . rintro i w σ H' hw ⟨⟨z1,z2,rfl⟩,k',cW⟩;obtain⟨cc,u,nm,k,rfl,ah,hc,hk⟩:=FA.get _ cD hw;have L:(fs.fe ss).names[i]? =some nm:=by rw[Fs.iI,ah];rfl
   have bh:nm∈ko:=(hm nm).mpr (by
    have:=Q0u L;rw[Fs.i5] at this;exact(List.mem_filter.mp this).1)
   refine⟨cc,_,rfl,eu.of (k' _ _ (bE _ _ (ae _ _ hc)) (aY _ _ (ae _ _ hc))),rfl,_,_,rfl,_,_,rfl,rfl,?_⟩;refine⟨_,rfl,_,rfl,ag,fo nm,rfl,(by have:=gc.k (k:=Sum.inr nm) (k' _ _ (bE _ _ (ae _ _ aj)) (aY _ _ (ae _ _ aj)));rw[ie,if_pos bh] at this;exact this),_,rfl,_,rfl,he,_,rfl,jj.k (k:=Sum.inr nm) cW (by rw[iG];exact fX (by rw[Q0k];omega)),?_⟩;refine⟨⟨_,_,rfl⟩,λc o h1 e=>by rw[eA h1];exact k' c o h1 e,?_⟩;rw[eI,rZ _ (aC dt L),Q0p,L];rfl
 rintro σ bd ⟨⟨d8,d9,rfl⟩,cG,bp⟩;rw[FA.len _ cD,Q1k] at bp;have bq:Same aX bd:=λc o e=>cG c o (bE c o e) (aY _ _ e);have cg:=bq _ _ a2;have dw:he≠sh:=λz=>by rw[z,a2] at bD;cases bD
 clear cG aY a3;refine⟨_,rfl,_,rfl,_,rfl,sh,_,rfl,jj.k (k:=Sum.inr y) cg (by rw[iG];exact fX (by omega)),?_⟩;rw[se fo (.ref he) hy];have b7:Same H8 (upd bd sh (.dK (eG (gv fo y (.ref he)) (eE ss fs.names++[y])))):=λc o e=>by rw[eA (bc c o e)];exact bq _ _ (ae _ _ e)
 have br:upd bd sh (.dK (eG (gv fo y (.ref he)) (eE ss fs.names++[y]))) sh=some (.dK (eG (gv fo y (.ref he)) (eE ss fs.names++[y]))):=eI;have a4:upd bd sh (.dK (eG (gv fo y (.ref he)) (eE ss fs.names++[y]))) he=some (.dK (eG fo (fs.fe ss).names)):=by rw[eA dw];exact bp
 generalize upd bd sh (.dK (eG (gv fo y (.ref he)) (eE ss fs.names++[y])))=be at b7 br a4;have bQ:=b7 _ _ dq
 have cX:∀w∈fs.names.map V.str++[.str y,.str (("xy":Str)++y)],∃z,w=.str z:=λw hw=>by
  rcases List.mem_append.mp hw with h|h
  . obtain⟨z,_,rfl⟩:=List.mem_map.mp h;exact⟨z,rfl⟩
  . rcases List.mem_cons.mp h with h|h
    . exact⟨_,h⟩
    . exact⟨_,List.mem_singleton.mp h⟩
 refine⟨_,rfl,_,rfl,_,rfl,_,_,rfl,rfl,(by show 2+y.length<=sizeLine;exact Q05 (Q1r dh 2) (by decide)),hX,λw1 cH=>?_⟩;have cY:upd be w1 (.lst [.str y,.str (("xy":Str)++y)]) l=some (.lst (fs.names.map V.str)):=by rw[eA (eM bQ cH)];exact bQ
 refine⟨l,w1,_,_,rfl,rfl,cY,eI,Q0s (fX (by rw[Q02];show _+2<=_;omega)),λw2 dy=>?_⟩;have bf:Same be (upd (upd be w1 (.lst [.str y,.str (("xy":Str)++y)])) w2 (.lst (fs.names.map V.str++[.str y,.str (("xy":Str)++y)]))):=(Same.new cH).trans (Same.new dy);have bi:upd (upd be w1 (.lst [.str y,.str (("xy":Str)++y)])) w2 (.lst (fs.names.map V.str++[.str y,.str (("xy":Str)++y)])) w2=some (.lst (fs.names.map V.str++[.str y,.str (("xy":Str)++y)])):=eI;generalize upd (upd be w1 (.lst [.str y,.str (("xy":Str)++y)])) w2 (.lst (fs.names.map V.str++[.str y,.str (("xy":Str)++y)]))=cI at bf bi;have af:Same H8 cI:=b7.trans bf;have aB:=dp.same af;have ci:=af _ _ cU;refine⟨w2,rfl,⟨_,eF.of bi⟩,n_ (xs:=fs.names.map V.str++[.str y,.str (("xy":Str)++y)]) (λi σ H'=>H'=cI/\∃z1 z2,σ=[some (.ref a),some (.ref b),some (.ref kk),some (.ref src),some (.ref ag),some (.ref l),some (.ref sl),some (.int r),some (.str y),some (.ref hd),some (.ref v),some (.ref it),some (.ref pl),some (.ref sh),z1,z2,some (.ref he)]) ⟨rfl,_,_,rfl⟩ ?_ ?_ ?_⟩
 . rintro i σ H' _ ⟨rfl,_⟩;exact eF.of bi
 . rintro i w σ H' hw ⟨rfl,dz,dA,rfl⟩;obtain⟨z,rfl⟩:=cX w (Q0u hw);refine⟨_,rfl,v,dx,_,rfl,aB.ob,rfl,_,rfl,v,dx,nl,y,z,ss,rfl,aB,?_⟩;refine⟨_,rfl,_,rfl,sl,_,rfl,.inl (eF.of ci),rfl,lY,_,rfl,?_⟩;by_cases e1:z∈ss
   . have e0:inV (V.str z) (ss.map V.str)=true:=jn.trans (decide_eq_true e1);refine gu (λc'=>absurd (show(!inV (V.str z) (ss.map V.str))=true from c') (by rw[e0];decide)) (λ_=>?_);exact⟨rfl,_,rfl,iR (by rw[decide_eq_false (λh=>h.1 e1)]) ⟨rfl,_,_,rfl⟩⟩
   . have e0:inV (V.str z) (ss.map V.str)=false:=jn.trans (decide_eq_false e1);refine gu (λ_=>?_) (λc'=>absurd (show(!inV (V.str z) (ss.map V.str))=true by rw[e0];rfl) c');refine⟨_,rfl,_,rfl,rfl,rfl,_,rfl,iR ?_ ⟨rfl,_,_,rfl⟩⟩;by_cases e2:z=y
     . rw[decide_eq_false (λh=>h.2 e2),decide_eq_true (show V.str z=V.str y by rw[e2])];rfl
     . rw[decide_eq_true (show z ∉ ss/\z≠y from⟨e1,e2⟩),decide_eq_false (show ¬V.str z=V.str y from λh=>e2 (V.str.inj h))];rfl
 . rintro σ H' ⟨rfl,dz,dA,rfl⟩;have bj:∀c o,c≠b->aP c=some o->H' c=some o:=λc o hb e=>af _ _ (bb _ _ (a7 _ _ hb (a6 _ _ hb (s1 _ _ e))));have bR:Same H4 H':=bb.trans af;have b8:=g3.go (SB.of bR) (bR _ _ cq) (Q16 _);have nb:∀{c:Addr} {o:HO},aP c=some o->(∀xs,o≠ .lst xs)->H' c=some o:=λ{c o} e ho=>bj c o (λz=>by rw[z,g.at_] at e;cases e;exact ho _ rfl) e;have bm:eV P2 gE gF H':=c4.keep λc o ho e=>nb e ho;have bn:eV P3 j_ ka H':=c5.keep λc o ho e=>nb e ho
   have cJ:RecAt [b,P2,P3] n aP fs (eG fo ko) δ:=hR.sub λc hc=>by
    rcases List.mem_cons.mp hc with e|hc
    . rw[e];exact c6
    . rcases List.mem_cons.mp hc with e|hc
      . rw[e];exact c7
      . rw[List.mem_singleton.mp hc];exact c8
   have mb:b∈[b,P2,P3]:=Q04;have m2:P2∈[b,P2,P3]:=Q0e _ Q04;have m3:P3∈[b,P2,P3]:=Q0e _ (Q0e _ Q04)
   have cK:he ∉ [b,P2,P3]:=λhc=>by
    obtain⟨dC,cL⟩:=bm.tab;obtain⟨dD,aZ⟩:=bn.tab;have e0:=bf _ _ a4;rcases List.mem_cons.mp hc with e|hc
    . rw[e,b8.at_] at e0;cases e0
    . rcases List.mem_cons.mp hc with e|hc
      . rw[e,cL] at e0;cases e0
      . rw[List.mem_singleton.mp hc,aZ] at e0;cases e0
   generalize [b,P2,P3]=S' at cJ mb m2 m3 cK;have dE:RecAt S' n H' fs (eG fo ko) δ:=cJ.keep (λc xs e=>nb e (by intro z1 z2;cases z2)) λc o hc e=>bj c o (λz=>hc (by rw[z];exact mb)) e;refine⟨_,rfl,_,rfl,_,rfl,_,rfl,_,rfl,hX,λrp dF=>⟨hX,λcp dG=>⟨i_,λw3 dH=>?_⟩⟩⟩;have sR:=Same.new dF (o:=.tup [.str "record",.ref it]);have sA:=Same.new dG (o:=.tup [.str y,.ref rp]);have sB:=Same.new dH (o:=.lst [.ref cp])
   have dZ:(fC (eE ss fs.names) xs fs.names).length<=12:=by
    rw[FA.len _ b5,iZ];exact len1
   refine⟨pl,w3,_,_,rfl,rfl,sB _ _ (sA _ _ (sR _ _ (af _ _ aT))),eI,Q0s (fX (by show _+1<=_;omega)),λw4 dI=>?_⟩;have sD:=Same.new dI (o:=.lst (fC (eE ss fs.names) xs fs.names++[.ref cp]));have sC:=((sR.trans sA).trans sB).trans sD;have bS:=sD _ _ (sB _ _ (sA _ _ (eI (H:=H') (a:=rp) (o:=.tup [.str "record",.ref it]))));have bT:=sD _ _ (sB _ _ (eI (H:=upd H' rp (.tup [.str "record",.ref it])) (a:=cp) (o:=.tup [.str y,.ref rp])));have bU:=eI (H:=upd (upd (upd H' rp (.tup [.str "record",.ref it])) cp (.tup [.str y,.ref rp])) w3 (.lst [.ref cp])) (a:=w4) (o:=.lst (fC (eE ss fs.names) xs fs.names++[.ref cp]));clear sR sA sB sD;generalize upd (upd (upd (upd H' rp (.tup [.str "record",.ref it])) cp (.tup [.str y,.ref rp])) w3 (.lst [.ref cp])) w4 (.lst (fC (eE ss fs.names) xs fs.names++[.ref cp]))=HC at sC bS bT bU;have b9:=b4.mono (Tu.of (af.trans sC));obtain⟨dJ,dL⟩:=FA.D0 ss b9 bS (sC _ _ (af _ _ a5));refine rS ?_;refine Eh (K:=K) (P3:=P3) (E:=E0) ss b9 bT dJ dL cj hy (bn.same sC) bU λdM dN HD a1 bV dO=>?_;obtain⟨dD,aZ⟩:=(bn.same sC).tab;obtain⟨dC,cL⟩:=(bm.same sC).tab;have bW:=sG (bm.same sC) cn a1 aZ;have ca:RecAt S' n HD fs (eG fo ko) δ:=(dE.same sC).keep (l8 aZ a1) λc o hc e=>a1 c o (λz=>hc (by rw[z];exact m3)) e;have nD:∀{c:Addr} {o:HO},H' c=some o->(∀ps,o≠ .fO ps)->HD c=some o:=λe ho=>jA aZ a1 (sC _ _ e) ho;have bt:HD ag=some (.dK (eG fo ko)):=nD (af _ _ aj) (by intro ps z;cases z);have bX:HD sh=some (.dK (eG (gv fo y (.ref he)) (eE ss fs.names++[y]))):=nD (bf _ _ br) (by intro ps z;cases z);have bo:HD he=some (.dK (eG fo (fs.fe ss).names)):=nD (bf _ _ a4) (by intro ps z;cases z);have dP:jo HD C v dx nl ss y:=⟨nD aB.ob (by intro ps z;cases z),nD aB.nl (by intro ps z;cases z),aB.nd,aB.gY⟩;have cZ:=b9.mono (l8 aZ a1);have cM:(eE ss fs.names++[y]).Nodup:=List.nodup_append.mpr ⟨b6,by simp,λa ha b hb e=>hy (by rw[<-List.mem_singleton.mp hb,<-e];exact ha)⟩;have cN:RecAt S' n HD fs (eG fo fs.names) δ:=ca.re bw hK.nd (λz=>(hm z).symm) λ_ _=>rfl;have bY:RecAt S' (n+1) HD (jz fs ss y) (eG (gv fo y (.ref he)) (eE ss fs.names++[y])) (qu δ fs ss y):=cN.nest hK.nd hK.nd hK.gY hy cK bo;obtain⟨d0,aU⟩:=bW.tab;obtain⟨d1,d2⟩:=bV.tab;refine⟨_,rfl,_,rfl,_,rfl,⟨dx,nl,ss,y,fs,fo,ko,gv fo y (.ref he),eE ss fs.names++[y],he,fo,(fs.fe ss).names,S',qu δ fs ss y⟩,⟨cj,bx,hy,bw,cf,λx hx=>(hm x).mpr (bx x hx),λz=>hy (f6.mpr ⟨(hm y).mp (f6.mp z).1,(f6.mp z).2⟩),cM,m2,(by show(if y=y then V.ref he else fo y)=V.ref he;rw[if_pos rfl]),len2⟩,?_⟩;refine⟨v,kk,t,xs,dM,dN,_,src,ag,sh,eG fo ko,gv fo y (.ref he),eE ss fs.names++[y],δ,_,S',rfl,dP,cZ,dO,?_,bW,bt,bt,ca.up,bX,cM,bY,⟨⟨bX,bY⟩,bo⟩,m2,?_,?_,λdQ p' a8 cb=>?_,λdQ p' a8 cb=>?_,λHE cd dR=>?_⟩
   . have:=Fs.vh y (.fx (fs.fe ss)) (fs.fe (eE ss fs.names));have:=Fs.sJ (eE ss fs.names) fs;have:=Fs.sJ ss fs;have:(Kd.fx (fs.fe ss)).dep=(fs.fe ss).dep+1:=by simp only[Kd.dep]
     show((fs.fe (eE ss fs.names)).ins y (.fx (fs.fe ss))).dep<=4;omega
   . intro z;rw[Fs.kF,iZ] at z;rcases qr.mp z with e|e
     . exact dg e.symm
     . exact(cm _ (f6.mp e).1).2.2.2.2 rfl
   . rw[Fs.kF,o7];omega
   . obtain⟨c',dS,dU⟩:=cb;have R2:=ca.keep (l8 aU a8) λc o hc e=>a8 c o (λz=>hc (by rw[z];exact m2)) e;refine⟨_,dS,?_,L9 R2 bw hK.nd co bx hy dU (jA aU a8 bo (by intro ps z;cases z))⟩;rw[iG,Q0c,Fs.kF,o7,iZ,sF (l:=eE ss ko) (m:=eE ss fs.names) (bw.filter _) b6 (λz=>by rw[f6,f6,hm z])];rfl
   . have R2:=cN.keep (l8 aU a8) λc o hc e=>a8 c o (λz=>hc (by rw[z];exact m2)) e;exact⟨_,cb,(R2.LZ hK.nd hK.nd hy).up⟩
   . refine q (c2+1) HE (λc' o ce e=>?_) ((b8.go (SB.of sC) (sC _ _ b8.at_) (Q16 _)).sH a1 aZ |>.sH cd aU) (by omega) (by omega) dR (sG bV (Ne.symm cn) cd aU);exact cd _ _ (λz=>ce (.inr (.inl z))) (a1 _ _ (λz=>ce (.inr (.inr z))) (sC _ _ (bj _ _ (λz=>ce (.inl z)) e)))
end
theorem RecAt.drawn {S:List Addr}{H:Hp}{fs:Fs}{v:V}{m:Ds}{fp:List Addr}(Y:Own H v (.dct m) fp)(hF:gI fs m)(hd:m.dep<=22)(hs:(D.dct m).Sm)(hn:fs.names.Nodup)(hp:∀c∈fp,c ∉ S):∃a kvs,v=.ref a/\H a=some (.dK kvs)/\kvs.length<=fs.names.length/\RecAt S 22 H fs kvs (λx=>(m.get x).getD (.int 0)):=by
 unfold Own at Y;obtain⟨a,kvs,fq,rfl,ha,rfl,U⟩:=Y;unfold D.Sm at hs;have hl:kvs.length=fs.names.length:=by rw[U.len,hF.names]
 refine⟨a,kvs,rfl,ha,Q1o hl,hl,?_,λx k hx=>?_⟩
 . rw[fc.keys m U,hF.names];exact List.Pairwise.map _ (λa b h z=>h (Sum.inr.inj z)) hn
 . obtain⟨d,J,L⟩:=hF.get hx;obtain⟨u,f,h1,h2,h3⟩:=fc.val m U J;have e:(m.get x).getD (.int 0)=d:=by rw[J];rfl
   exact⟨u,f,h1,by rw[e];exact h2,λc hc=>hp c (Q0e _ (h3 c hc)),by rw[e];exact L,by rw[e];exact Q05 (Ds.nI J) hd,by rw[e];exact Ds.rO hs.2 J⟩
theorem Eo {b P:Addr}{H H':Hp}(x:fN b P H H'){ps:Array Value}(J:H P=some (.fO ps)):∀c o,c≠b->(∀ps,o≠ .fO ps)->H c=some o->H' c=some o:=λc o hc L e=>x c o (λz=>z.elim hc λz=>by rw[z,J] at e;cases e;exact L _ rfl) e
theorem Ep {P b P2:Addr}{J:Pos}{L:Str}{H H':Hp}{l:List V}(h:eV P J L H)(Y:P≠P2)(x:fN b P2 H H'){ps:Array Value}(hP:H P2=some (.fO ps))(U:H b=some (.lst l)):eV P J L H':=
 vL h (λps e=>x _ _ (λz=>z.elim (λz=>by rw[z,U] at e;cases e) Y) e) λc o h1 h2 e=>x _ _ (λz=>z.elim (λz=>by rw[z,U] at e;cases e;exact h1 _ rfl) λz=>by rw[z,hP] at e;cases e;exact h2 _ rfl) e
theorem RecAt.f9 {S:List Addr}{n:Nat}{fs:Fs}{H H':Hp}{b Pt:Addr}{ks:List (Key × V)}{δ:Str->D}(h:RecAt S n H fs ks δ)(x:fN b Pt H H')(u:Tu H H')(J:b∈S)(L:Pt∈S):RecAt S n H' fs ks δ:=
 h.keep u λc o hc e=>x c o (λz=>hc (z.elim (λz=>by rw[z];exact J) λz=>by rw[z];exact L)) e
theorem jm.mG {K:W.Frag}{H H':Hp}{a:Addr}{ns:List Int}(h:jm K H a ns)(s:Same H H'):jm K H' a ns:=by
 rcases h with⟨o,h⟩|h
 . exact .inl ⟨o,s _ _ h⟩
 . exact .inr h
structure Wl (K:W.Frag) (Pt P2 P3 a kk t:Addr) (ns:List Int) (xs:List V) (fs:Fs) (H:Hp):Prop where
 jc:jm K H a ns
 lv:eV Pt j7 j8 H
 ls:eV P2 gE gF H
 lq:eV P3 j_ ka H
 kd:ia H kk t xs fs
section
variable {K:W.Frag}{Pt P2 P3 a b kk t:Addr}{ns:List Int}{xs:List V}{fs:Fs}{H H':Hp}
theorem Wl.same (W:Wl K Pt P2 P3 a kk t ns xs fs H)(s:Same H H'):Wl K Pt P2 P3 a kk t ns xs fs H':=
 ⟨W.jc.mG s,W.lv.same s,W.ls.same s,W.lq.same s,W.kd.mono (Tu.of s)⟩
theorem Wl.f9 (W:Wl K Pt P2 P3 a kk t ns xs fs H)(x:fN b Pt H H'){n:Int}(L:H b=some (.lst [.int n]))(U:eV Pt j7 j8 H')(h2:P2≠Pt)(Y:P3≠Pt):Wl K Pt P2 P3 a kk t ns xs fs H':=by
 obtain⟨ps,J⟩:=W.lv.tab;refine⟨?_,U,Ep W.ls h2 x J L,Ep W.lq Y x J L,W.kd.mono (fN.tu x L W.lv)⟩;rcases W.jc with⟨o,e⟩|e
 . exact .inl ⟨o,Eo x J _ _ (iB e L (by intro z;cases z)) (by intro ps z;cases z) e⟩
 . exact .inr e
theorem nW {l:List V}{J L:Array Value}(x:sI b P2 P3 H H')(Y:H b=some (.lst l))(h2:H P2=some (.fO J))(h3:H P3=some (.fO L)){c:Addr}{o:HO}(ol:∀xs,o≠ .lst xs)(U:∀ps,o≠ .fO ps)(e:H c=some o):H' c=some o:=
 x c o (λz=>by
   rcases z with z|z|z
   . rw[z,Y] at e;cases e;exact ol _ rfl
   . rw[z,h2] at e;cases e;exact U _ rfl
   . rw[z,h3] at e;cases e;exact U _ rfl) e
theorem Wl.nX (W:Wl K Pt P2 P3 a kk t ns xs fs H)(x:sI b P2 P3 H H'){n n':Int}(U:H b=some (.lst [.int n]))(g':G0 K H' a b ns n')(Y:eV P2 gE gF H')(aa:eV P3 j_ ka H')(h2:P2≠Pt)(h3:P3≠Pt):Wl K Pt P2 P3 a kk t ns xs fs H':=by
 obtain⟨ps,ab⟩:=W.lv.tab;obtain⟨ac,J⟩:=W.ls.tab;obtain⟨ae,L⟩:=W.lq.tab;refine⟨g'.jc,vL W.lv (λps e=>x _ _ (λz=>?_) e) (λc o ol ot e=>nW x U J L ol ot e),Y,aa,W.kd.mono λc xs e=>nW x U J L (by intro xs z;cases z) (by intro xs z;cases z) e⟩;rcases z with z|z|z
 . rw[z,U] at e;cases e
 . exact h2 z.symm
 . exact h3 z.symm
theorem RecAt.nX {S:List Addr}{n:Nat}{fs':Fs}{ks:List (Key × V)}{δ:Str->D}(h:RecAt S n H fs' ks δ)(W:Wl K Pt P2 P3 a kk t ns xs fs H)(x:sI b P2 P3 H H'){m:Int}(U:H b=some (.lst [.int m]))(Y:b∈S)(h2:P2∈S)(h3:P3∈S):RecAt S n H' fs' ks δ:=by
 obtain⟨aa,J⟩:=W.ls.tab;obtain⟨ab,L⟩:=W.lq.tab;refine h.keep (λc xs e=>nW x U J L (by intro xs z;cases z) (by intro xs z;cases z) e) λc o hc e=>x c o (λz=>hc ?_) e;rcases z with z|z|z <;> (rw[z];assumption)
end
def vM (K:W.Frag):Sp:=λvs H Q E=>rL K 2 vs H Q E\/rL K 1 vs H Q E
theorem Mb {K:W.Frag}{H:Hp}{Q:VK}{E:XK}{a b:Addr}{ns:List Int}{n:Int}{m d:Nat}(hd:d=2\/d=1)(hm:m<=5)(g:G0 K H a b ns n)(hn:n+300<=1000000000000)
 (q:∀(t:Addr) (xs:List V) (fs:Fs) (z:Int) (H':Hp),SB b H H'->H' b=some (.lst [.int z])->n<=z->z<=n+300->H' t=some (.tup xs)->FA H' xs fs->fs.names.Nodup->fs.names.length=m->fs.dep<=3->fs.W->fs.names.Pairwise sle->(∀x∈fs.names,oO x)->Q (.ref t) H'):vM K [.ref a,.ref b,.int m,.int d] H Q E:=by
 have aa:(ck 2:Int)=42:=rfl;have ab:(ck 1:Int)<=42:=by decide
 rcases hd with e|e
 . subst e;have l5:(m:Int) * ck 2<=5 * 42:=by rw[aa];omega
   exact .inl ⟨a,b,ns,n,m,rfl,by omega,g,by omega,λt xs fs z H' Y a2 a3 a4 a5 a6 a7 a8 a9 J L U=>q t xs fs z H' Y a2 a3 (by omega) a5 a6 a7 a8 a9 J L U⟩
 . subst e;have l5:(m:Int) * ck 1<=5 * 42:=Int.le_trans (Int.mul_le_mul_of_nonneg_left ab (by omega)) (by omega);exact .inr ⟨a,b,ns,n,m,rfl,by omega,g,by omega,λt xs fs z H' Y a2 a3 a4 a5 a6 a7 a8 a9 J L U=>q t xs fs z H' Y a2 a3 (by omega) a5 a6 a7 a8 (by omega) J L U⟩
def vN (K:W.Frag) (Pt P2 P3:Addr):Sp:=λvs H Q _=>∃(a:Addr) (ns:List Int),vs=[.ref a]/\jm K H a ns/\ns.length<=63/\eV Pt j7 j8 H/\eV P2 gE gF H/\eV P3 j_ ka H/\∀H',Q (.bl true) H'
section
variable {P:Program}{w:World}{K:W.Frag}{mg:Str->Option Value}{base:Heap}
variable {Pt P2 P3:Addr}
theorem Mc:fk ["_law_script","_law_at","_law_k","_law_m","_law_kind_here","_law_source","_law_begin","_law_other","_law_kept"] ["_law_script"] (eR (top 56)):=fA
theorem Md (aE:P2≠Pt)(aF:P3≠Pt)(bi:P2≠P3)(T:Tb mg)(bd:Dn K mg "law" ["_law_script"] (top 56) be bf)(ar:Dn K mg "_law_next" fM (top 36) au av)(aw:eh P w K mg base er (1) au av fM (k9 K))(ac:Dn K mg "_law_fields" j5 (top 41) ae af)(ag:eh P w K mg base er (9) ae af j5 (vM K))(J:Dn K mg "_law_value" ja (top 46) al am)(L:eh P w K mg base er (2 * 67+5) al am ja (oZ K Pt 67))(U:Dn K mg "_law_renamed" mB (top 54) Y aa)(ab:eh P w K mg base er (102) Y aa mB (sL K 23 P2 P3 1))(ah:Dn K mg "_law_nested" mB (top 55) ai aj)(ak:eh P w K mg base er (102) ai aj mB (sL K 22 P2 P3 13))(an:Dn K mg "_law_alike" iK (top 47) ao ap)(aq:eh P w K mg base er ((23+2)+1) ao ap iK (qt 23)):eh P w K mg base er (140) be bf ["_law_script"] (vN K Pt P2 P3):=by
 refine bd.F.ok Mc λvs H Q E h=>?_;obtain⟨a,ns,rfl,hS,bN,hT,bO,bP,q⟩:=h;refine⟨rfl,λcs A outer s nd hr hu=>?_⟩
 refine⟨_,(en (eT 1 nd (gA (a_ d_ c_)))
  (en (ic PassesOwn.never rfl (m7 rfl T.mw (a_ (eN jf d_ (eN iC (eX g_ (by rfl) T.gC PySem.boot_len (a_ (tU Gj (pv 0) tQ (tR d_)) c_)) d_)) c_)) (ff (i:=2) nd rfl fL) (en (eT 3 nd (eL aw hr ar (a_ (pv 0) (a_ (pv 1) c_))))
  (en (eT 4 nd (ik (a_ fh (a_ (eL ag hr ac (a_ (pv 0) (a_ (pv 1) (a_ (eN jf d_ (eN gg (pv 3) d_)) (a_ (eN kN d_ (eN gg (pv 3) d_)) c_))))) c_))))
  (en (eT 5 nd (eL L hr J (a_ (pv 0) (a_ (pv 1) (a_ (pv 4) (a_ d_ c_))))))
  (en (eT 6 nd (iW (pv 1) d_))
  (en (eT 7 nd (eL L hr J (a_ (pv 0) (a_ (pv 1) (a_ (pv 4) (a_ d_ c_))))))
  (en (eT 8 nd (eL L hr J (a_ (pv 0) (a_ (gA (a_ (pv 6) c_)) (a_ (pv 4) (a_ d_ c_))))))
  (en (eP (gp (fU (eL ab hr U (a_ (pv 0) (a_ (pv 1) (a_ (pv 4) (a_ (pv 5) (a_ (pv 7) c_)))))))) (eB (eJ gH)) eQ)
  (en (eP (gp (fU (eL ak hr ah (a_ (pv 0) (a_ (pv 1) (a_ (pv 4) (a_ (pv 5) (a_ (pv 7) c_)))))))) (eB (eJ gH)) eQ)
  (eB (eP (gp (fU (eL aq hr an (a_ (pv 4) (a_ (pv 7) (a_ (pv 8) c_)))))) (eB (eJ gH)) eQ)))))))))))
  (eB (eJ gH)))),?_⟩
 ac_rfl
 refine⟨i_,λb hb=>?_⟩;have s0:Same H (upd H b (.lst [.int 0])):=Same.new hb;have aX:=jm.mG hS s0;refine⟨_,rfl,_,rfl,a,_,rfl,aX.sq,λp hp=>?_⟩;have bu:=AX (ns.map V.int) none (some 60);rw[Q02] at bu;refine⟨p,_,rfl,.inl (eF.of eI),_,_,rfl,rfl,⟨by decide,by decide⟩,_,_,rfl,rfl,_,rfl,?_,?_,?_⟩
 . omega
 . omega
 have s1:Same (upd H b (.lst [.int 0])) (upd (upd H b (.lst [.int 0])) p (.lst (oi (ns.map V.int) none (some 60)))):=Same.new hp;have bQ:=s1 b _ eI;generalize hc:(1+((oi (ns.map V.int) none (some 60)).length:Int) / 20).toNat=cnt;have ca:cnt<=4:=by omega
 refine mi (n:=cnt) (λi σ H'=>∃(x2 x3 x4 x5 x6 x7 x8:Option V) (n:Int),σ=[some (.ref a),some (.ref b),x2,x3,x4,x5,x6,x7,x8]/\G0 K H' a b ns n/\eV Pt j7 j8 H'/\eV P2 gE gF H'/\eV P3 j_ ka H'/\n<=3456000700 * i) ?_ ?_ ?_
 . exact⟨_,_,_,_,_,_,_,0,rfl,⟨jm.mG aX s1,bN,bQ,by omega⟩,(hT.same s0).same s1,(bO.same s0).same s1,(bP.same s0).same s1,by omega⟩
 . rintro i σ H0 hi ⟨x2,x3,x4,x5,x6,x7,x8,n,rfl,g,bR,bv,bw,hn⟩;have cu:(i:Int)<=3:=by omega
   refine⟨_,rfl,_,rfl,a,b,ns,n,rfl,g,by omega,λr H1 r0 r1 aP aT=>?_⟩;have g1:=g.go aP aT (by omega);have nb:∀{Ha Hb:Hp} {l:List V},Ha b=some (.lst l)->SB b Ha Hb->∀c o,(∀xs,o≠ .lst xs)->Ha c=some o->Hb c=some o:=λhb sb c o ol e=>sb c o (λz=>by rw[z,hb] at e;cases e;exact ol _ rfl) e;have bS:=bR.keep λc o ol e=>nb g.at_ aP c o ol e;have bT:=bv.keep λc o ol e=>nb g.at_ aP c o ol e;have bU:=bw.keep λc o ol e=>nb g.at_ aP c o ol e;obtain⟨m,em⟩:∃m:Nat,1+r % 5=(m:Int):=⟨(1+r % 5).toNat,by omega⟩;obtain⟨d,ed⟩:∃d:Nat,2 - r % 2=(d:Int):=⟨(2 - r % 2).toNat,by omega⟩;have bV:m<=5:=by omega
   have cw:1<=m:=by omega
   have bx:d=2\/d=1:=by omega
   refine⟨_,rfl,_,rfl,_,rfl,_,_,rfl,rfl,(by show(0:Int)<_;decide),_,_,rfl,rfl,_,rfl,_,_,rfl,rfl,(by show(0:Int)<_;decide),_,_,rfl,rfl,?_⟩;refine rS ?_
   have key:∀{Q':VK},(∀(t:Addr) (xs:List V) (fs:Fs) (n':Int) (H':Hp),SB b H1 H'->H' b=some (.lst [.int n'])->n+1<=n'->n'<=n+1+300->H' t=some (.tup xs)->FA H' xs fs->fs.names.Nodup->fs.names.length=m->fs.dep<=3->fs.W->fs.names.Pairwise sle->(∀x∈fs.names,oO x)->Q' (.ref t) H')->vM K [.ref a,.ref b,.int (1+r % 5),.int (2 - r % 2)] H1 Q' E0:=by
    rw[em,ed];exact λq'=>Mb bx bV g1 (by omega) q'
   refine key λt xs fs n1 H2 aU bW w1 w2 ht bX aD cc aY hW bY bj=>?_;clear key;have g2:=g1.go aU bW w1;have bz:=bS.keep λc o ol e=>nb aT aU c o ol e;have bA:=bT.keep λc o ol e=>nb aT aU c o ol e;have bB:=bU.keep λc o ol e=>nb aT aU c o ol e;refine⟨hX,λkk bZ=>?_⟩;have s3:Same H2 (upd H2 kk (.tup [.str "record",.ref t])):=Same.new bZ;have aZ:upd H2 kk (.tup [.str "record",.ref t]) kk=some (.tup [.str "record",.ref t]):=eI;generalize upd H2 kk (.tup [.str "record",.ref t])=H3 at s3 aZ;have g3:=g2.go (SB.of s3) (s3 _ _ g2.at_) (Q16 _);have W3:Wl K Pt P2 P3 a kk t ns xs fs H3:=⟨g3.jc,bz.same s3,bA.same s3,bB.same s3,⟨aZ,s3 _ _ ht,FA.mono (Tu.of s3) fs bX,aD,by omega,hW,bY⟩⟩;have kA:∀{H':Hp},Wl K Pt P2 P3 a kk t ns xs fs H'->KA H' (.ref kk) (.fx fs):=λW=>by unfold KA;exact⟨kk,t,xs,rfl,W.kd.at_,W.kd.tu,W.kd.fa⟩
   have kW:(Kd.fx fs).W:=by unfold Kd.W;exact⟨aD,by omega,hW⟩
   have a6:mu (.fx fs) 3<=67:=by simp only[mu,Kd.dep];omega
   have cb:((CB 3:Nat):Int)=1728000000:=rfl;have cx:=uD (.fx fs) 3 kW (by simp only[Kd.dep];omega);have cy:=rM (.fx fs) 3;refine⟨_,rfl,_,rfl,_,rfl,a,b,ns,n1,.ref kk,.fx fs,3,rfl,g3,W3.lv,kA W3,kW,by decide,a6,by omega,λv1 H4 cz a7 bm b1 a8 _ b3=>?_⟩;obtain⟨c1,c2⟩:=nH ns (.fx fs) 3 n1 (by decide);have W4:=W3.f9 a7 g3.at_ b1 aE aF;have g4:=fN.g0 a7 g3 W3.lv bm c1;have aB:=pX ns (.fx fs) kW 3 n1 (by decide);generalize (val ns (.fx fs) 3 n1).2=n2 at c1 c2 bm g4;generalize (val ns (.fx fs) 3 n1).1=d1 at aB a8;unfold fZ at aB;obtain⟨m1,rfl,bC⟩:=aB;unfold Own at a8;obtain⟨src,cA,cC,rfl,bg,_⟩:=a8;clear b3 bC;refine⟨_,rfl,b,_,_,_,rfl,rfl,eF.of g4.at_,rfl,?_⟩;refine⟨_,rfl,_,rfl,_,rfl,a,b,ns,n2,.ref kk,.fx fs,3,rfl,g4,W4.lv,kA W4,kW,by decide,a6,by omega,λv2 H5 cD a9 aV b4 ba _ bn=>?_⟩;obtain⟨c3,c4⟩:=nH ns (.fx fs) 3 n2 (by decide);have W5:=W4.f9 a9 g4.at_ b4 aE aF;have g5:=fN.g0 a9 g4 W4.lv aV c3;have aC:=pX ns (.fx fs) kW 3 n2 (by decide);have aL:=rg ns (.fx fs) 3 n2;have aK:=rP ns (.fx fs) kW 3 n2 (by decide);generalize (val ns (.fx fs) 3 n2).2=n3 at c3 c4 aV g5;obtain⟨d2,bo⟩:∃d2,(val ns (.fx fs) 3 n2).1=d2:=⟨_,rfl⟩;rw[bo] at aC aL aK ba;unfold fZ at aC;obtain⟨m2,rfl,bp⟩:=aC
   have bq:m2.dep<=22:=by
    have:=p6 fs;simp only[D.dep,Kd.dB] at aL;omega
   obtain⟨cd,bD⟩:=W4.lv.tab;obtain⟨ce,bE⟩:=W4.ls.tab;obtain⟨cf,bF⟩:=W4.lq.tab
   obtain⟨aW,cE,rfl,aM,cg,R5⟩:=RecAt.drawn (S:=[b,P2,P3,Pt]) ba bp bq aK aD λc hc z=>by
    have e0:=bn c hc;simp only[Q12,Q24,or_false] at z;rcases z with rfl|rfl|rfl|rfl
    . rw[g4.at_] at e0;cases e0
    . rw[bE] at e0;cases e0
    . rw[bF] at e0;cases e0
    . rw[bD] at e0;cases e0
   refine⟨_,rfl,_,rfl,i_,λb2 ax=>?_⟩;have s6:Same H5 (upd H5 b2 (.lst [.int n2])):=Same.new ax;have ay:upd H5 b2 (.lst [.int n2]) b2=some (.lst [.int n2]):=eI;have R6:=(R5.grow (p:=b2) (by intro xs z;rw[ax] at z;cases z) (by intro xs z;rw[ax] at z;cases z)).same s6;generalize upd H5 b2 (.lst [.int n2])=H6 at s6 ay R6;have W6:=W5.same s6;have g6:G0 K H6 a b2 ns n2:=⟨W6.jc,g5.len,ay,g4.pos⟩;have bG:b≠b2:=eM g5.at_ ax;refine⟨_,rfl,a,b2,ns,n2,.ref kk,.fx fs,3,rfl,g6,W6.lv,kA W6,kW,by decide,a6,by omega,λv3 H7 cF aG cG b5 bb _ br=>?_⟩;rw[bo] at bb;have W7:=W6.f9 aG ay b5 aE aF;obtain⟨ci,a1⟩:=W6.lv.tab;obtain⟨cj,bH⟩:=W6.ls.tab;obtain⟨cm,bI⟩:=W6.lq.tab;have k7:=Eo aG a1;have bJ:=k7 b _ bG (by intro ps z;cases z) (s6 _ _ aV);have aN:=k7 aW _ (eM aM ax) (by intro ps z;cases z) (s6 _ _ aM);have R7:=R6.f9 aG (fN.tu aG ay W6.lv) (by simp) (by simp)
   obtain⟨kp,cH,rfl,bK,cn,bc⟩:=RecAt.drawn (S:=[b2,b,P2,P3,Pt]) bb bp bq aK aD λc hc z=>by
    have e0:=br c hc;simp only[Q12,Q24,or_false] at z;rcases z with rfl|rfl|rfl|rfl|rfl
    . rw[ay] at e0;cases e0
    . rw[s6 _ _ aV] at e0;cases e0
    . rw[bH] at e0;cases e0
    . rw[bI] at e0;cases e0
    . rw[a1] at e0;cases e0
   generalize (λx=>(m2.get x).getD (.int 0))=δ at R7 bc;have mb:b∈[b2,b,P2,P3,Pt]:=by simp
   have az:P2∈[b2,b,P2,P3,Pt]:=by simp
   have aA:P3∈[b2,b,P2,P3,Pt]:=by simp
   generalize [b2,b,P2,P3,Pt]=S at R7 bc mb az aA;have g7:G0 K H7 a b ns n3:=⟨W7.jc,g5.len,bJ,g5.pos⟩
   obtain⟨fo,ko,rfl,bt⟩:=DL R7.nd λk hk=>by
    obtain⟨x,_,e⟩:=R7.keys aD k hk;exact⟨x,e⟩
   clear ba bb R6 R5 bn br a7 a9 aG bg;refine⟨_,rfl,_,rfl,_,rfl,_,rfl,_,rfl,a,b,kk,src,aW,t,ns,n3,xs,fs,fo,ko,δ,S,rfl,g7,by omega,W7.kd,by omega,by omega,aY,bj,W7.ls,W7.lq,bi,aN,bt,R7.up,mb,az,aA,λn4 H8 aH g8 w3 w4 b6 i3=>⟨_,rfl,fE ?_⟩⟩;have W8:=W7.nX aH g7.at_ g8 b6 i3 aE aF;have R8:=R7.nX W7 aH g7.at_ mb az aA;have b7:=bc.nX W7 aH g7.at_ mb az aA;obtain⟨co,a2⟩:=W7.ls.tab;obtain⟨cp,a3⟩:=W7.lq.tab;have aO:=nW aH g7.at_ a2 a3 (by intro xs z;cases z) (by intro xs z;cases z) aN;have bL:=nW aH g7.at_ a2 a3 (by intro xs z;cases z) (by intro xs z;cases z) bK;refine⟨_,rfl,_,rfl,_,rfl,_,rfl,_,rfl,a,b,kk,src,aW,t,ns,n4,xs,fs,fo,ko,δ,S,rfl,g8,by omega,W8.kd,by omega,by omega,aY,bj,W8.ls,W8.lq,bi,aO,bt,R8,mb,az,aA,λn5 H9 aI g9 w5 w6 b8 jl=>⟨_,rfl,fE ?_⟩⟩;have W9:=W8.nX aI g8.at_ g9 b8 jl aE aF;have R9:=R8.nX W8 aI g8.at_ mb az aA;have b9:=b7.nX W8 aI g8.at_ mb az aA;obtain⟨cq,a4⟩:=W8.ls.tab;obtain⟨cr,a5⟩:=W8.lq.tab;have bh:=nW aI g8.at_ a4 a5 (by intro xs z;cases z) (by intro xs z;cases z) aO;have bM:=nW aI g8.at_ a4 a5 (by intro xs z;cases z) (by intro xs z;cases z) bL;refine⟨_,rfl,_,rfl,_,rfl,kk,t,xs,fs,aW,kp,_,_,rfl,W9.kd.at_,W9.kd.tu,W9.kd.fa,aD,hW,bh,bM,R9.len,nU.of R9.up b9.up,λcI aJ=>⟨_,rfl,fE ?_⟩⟩;exact⟨_,_,_,_,_,_,_,n5,rfl,g9.go (SB.of aJ) (aJ _ _ g9.at_) (Q16 _),W9.lv.same aJ,W9.ls.same aJ,W9.lq.same aJ,by omega⟩
 . rintro σ H0 _;exact q H0
end
end Pb
namespace Pb
open L2
abbrev Er (K:W.Frag) (x U:Str) (st:Stmt) (f:Addr):Prop:=∃(Y:Value) (od:Option Addr) (kV J pm:Value) (an:Option Addr) (z ct:Value) (L:Array (Option Value)),K.lookup f=some ⟨Y,od,.func (W.fnOf x U (i6 st) (iA st) (eR st) .none kV J pm an z ct),L⟩/\W.codeIn K z U=true/\W.keepIn K (.ref f)=true
abbrev gf (K:W.Frag) (x:Str) (st:Stmt):Prop:=∃f,W.nsIn K mainGlobals x=some (some (.ref f))/\Er K x x st f
abbrev HB (x L:Str) (ps:List Str) (st:Stmt):Prop:=∀(kV z U:Value) (Y:Option Addr) (J ct:Value) (us:List Value),us.length=ps.length->bindArgs (W.fnOf x L (i6 st) (iA st) (eR st) .none kV z U Y J ct) ⟨us,[]⟩=pure (ps.zip us)
theorem gm {K:W.Frag}{mg:Str->Option Value}{h:Heap}{x:Str}{ps:List Str}{st:Stmt}(X:K.In h)(G:h.Ns mainGlobals mg)(a:gf K x st)(L:HB x x ps st):∃f d,Dn K mg x ps st f d/\∀us:List Value,us.length=ps.length->bindArgs d ⟨us,[]⟩=pure (ps.zip us):=by
 obtain⟨f,a,oc,od,kV,z,U,Y,J,ct,aa,l,c,k⟩:=a;have F:=qW (st:=st) l c k;exact⟨f,_,⟨F,F.binds L,W.mg_of X G a⟩,L kV z U Y J ct⟩
abbrev iy (K:W.Frag) (C ns:Addr) (x z:Str) (st:Stmt) (f:Addr):Prop:=W.nsIn K ns x=some (some (.ref f))/\Er K x z st f/\W.isFn K (.ref f)=true/\W.findIn K (.ref C) x=some (some (.ref f))
theorem ke {K:W.Frag}{C ns:Addr}{x z:Str}{ps:List Str}{st:Stmt}{f:Addr}(a:iy K C ns x z st f)(Y:HB x z ps st):∃d,Dm K x z ps st f d:=by
 obtain⟨_,⟨oc,od,kV,J,pm,an,L,ct,U,l,c,k⟩,_,_⟩:=a;have F:km K x z st f _:=⟨⟨oc,od,kV,J,pm,an,L,ct,U,rfl,l,c⟩,k⟩;exact⟨_,F,F.binds Y⟩
theorem Me {K:W.Frag}{x:Str}{st:Stmt}{f:Addr}{U:Value}{Y an:Option Addr}{kV J pm z ct:Value}{L:Array (Option Value)}(a:W.nsIn K mainGlobals x=some (some (.ref f)))(l:K.lookup f=some ⟨U,Y,.func (W.fnOf x x (i6 st) (iA st) (eR st) .none kV J pm an z ct),L⟩)(c:W.codeIn K z x=true)(k:W.keepIn K (.ref f)=true):gf K x st:=⟨f,a,U,Y,kV,J,pm,an,z,ct,L,l,c,k⟩
theorem Mf {K:W.Frag}{C ns:Addr}{x U:Str}{st:Stmt}{f:Addr}{Y:Value}{od an:Option Addr}{kV J pm z ct:Value}{L:Array (Option Value)}(a:W.nsIn K ns x=some (some (.ref f)))(l:K.lookup f=some ⟨Y,od,.func (W.fnOf x U (i6 st) (iA st) (eR st) .none kV J pm an z ct),L⟩)(c:W.codeIn K z U=true)(k:W.keepIn K (.ref f)=true)(h:W.isFn K (.ref f)=true)(g:W.findIn K (.ref C) x=some (some (.ref f))):iy K C ns x U st f:=⟨a,⟨Y,od,kV,J,pm,an,z,ct,L,l,c,k⟩,h,g⟩
theorem iy.meth {K:W.Frag}{C ns:Addr}{x z:Str}{st:Stmt}{f:Addr}(a:iy K C ns x z st f):Meth K C x f:=by
 obtain⟨_,⟨_,_,_,_,_,_,_,_,_,_,_,k⟩,h1,h2⟩:=a;exact⟨h2,h1,k⟩
abbrev Es (K:W.Frag) (C:Addr):Prop:=W.plainGet K C Str.empty=true/\W.hasDictIn K C=true/\W.plainOver K C=true/\W.findIn K (.ref C) "__setattr__"=some (some (.builtin "object.__setattr__"))/\W.makesIn K C=true/\W.keepIn K (.ref C)=true
theorem len1 {α:Type}{l:List α}(h:l.length=1):∃a,l=[a]:=match l,h with|[a],_=>⟨a,rfl⟩
theorem len2 {α:Type}{l:List α}(h:l.length=2):∃a b,l=[a,b]:=match l,h with|[a,b],_=>⟨a,b,rfl⟩
theorem kJ {α:Type}{l:List α}(h:l.length=3):∃a b c,l=[a,b,c]:=match l,h with|[a,b,c],_=>⟨a,b,c,rfl⟩
theorem nY {α:Type}{l:List α}(h:l.length=4):∃a b c d,l=[a,b,c,d]:=match l,h with|[a,b,c,d],_=>⟨a,b,c,d,rfl⟩
theorem Et {α:Type}{l:List α}(h:l.length=5):∃a b c d e,l=[a,b,c,d,e]:=match l,h with|[a,b,c,d,e],_=>⟨a,b,c,d,e,rfl⟩
theorem Mg {α:Type}{l:List α}(h:l.length=6):∃a b c d e f,l=[a,b,c,d,e,f]:=match l,h with|[a,b,c,d,e,f],_=>⟨a,b,c,d,e,f,rfl⟩
theorem Mh {K:W.Frag}{h:Heap}{f:Addr}(X:K.In h)(e:W.isFn K (.ref f)=true):∃o,h.get? f=some o/\o.cls=.type "function":=by
 have e:W.typeIn K (.ref f)=some (.type "function"):=beq_iff_eq.mp e;obtain⟨o,z,hc⟩:=Option.map_eq_some_iff.mp (show(K.lookup f).map (·.cls)=_ from e);exact⟨o,X _ _ z,hc⟩
open W in
theorem Mi {K:Frag}{h:Heap}{N:Addr}{n:Str}{v:Value}(X:K.In h)(ok:nsOkIn K N=true)(e:nsIn K N n=some (some v)):h.nsMap N n=some v:=by
 obtain⟨o,es,ep,z,J,_,L⟩:h.Ns N (h.nsMap N):=.of_isNs (isNs_of_in X ok);unfold nsIn at e;split at e
 . rename_i c d Y n' sl q;have:=X _ _ q;rw[z] at this
   cases this
   cases J;split at e
   . rename_i e' U
     cases e;rw[<-L];unfold nsFind findBy;rw[<-Q2v,U];rfl
   . split at e <;> cases e
 . cases e
open W in
noncomputable def vO (K:Frag) (C fI:Addr) (L:List Value) (z:String):Bool:=match K.lookup C with
 |some ⟨.type "type",_,.cls J,U⟩=>(match J.mro,U.toList with
  | .ref Y::bm,[_,_,_,_,some (.builtin n),_]=>Y == C && n == z && !J.hasDel && tailIn K L bm && nsOkIn K J.ns && nsIn K J.ns "__init__" == some (some (.ref fI))
  |_,_=>false)
 |_=>false
theorem Mj {K:W.Frag}{h:Heap}{C fI:Addr}{jy:List Value}{nid:String}(X:K.In h)(q:vO K C fI jy nid=true)(hf:W.isFn K (.ref fI)=true):mD h C fI jy nid:=by
 unfold vO at q;split at q
 next dct U ae look=>
  split at q
  next D tl s0 s1 s2 s3 nm s5 L Y=>
   obtain⟨q,J⟩:=Bool.and_eq_true_iff.mp q;obtain⟨q,ac⟩:=Bool.and_eq_true_iff.mp q;obtain⟨q,ab⟩:=Bool.and_eq_true_iff.mp q;obtain⟨q,z⟩:=Bool.and_eq_true_iff.mp q;obtain⟨hC,aa⟩:=Bool.and_eq_true_iff.mp q;have hC:=beq_iff_eq.mp hC;have aa:=beq_iff_eq.mp aa;have J:=beq_iff_eq.mp J
   have z:U.hasDel=false:=by
    cases e:U.hasDel with
    |false=>rfl
    |true=>rw[e] at z;cases z
   subst hC;subst aa;obtain⟨c1,c2,c3,c4,c5,c6,c7,c8,c9,af,ag⟩:=U;have L:c3=_:=L;have z:ag=false:=z;subst L;subst z;obtain⟨sl⟩:=ae;have Y:sl=_:=Y;subst Y;obtain⟨oI,hI,ah⟩:=Mh X hf;exact⟨tl,c4,c1,c5,c2,c6,c7,c8,c9,af,dct,s0,s1,s2,s3,s5,_,oI,X _ _ look,.of_isNs (W.isNs_of_in X ac),Mi X ac J,W.tail_of_in X ab,hI,ah⟩
  next=>cases q
 next=>cases q
abbrev Eu (K:W.Frag) (C f:Addr) (J:Str):Prop:=vO K C f D1 "ValueError.__new__"=true/\W.keepIn K (.ref C)=true/\W.findIn K (.ref C) "__setattr__"=some (some (.builtin "object.__setattr__"))/\W.findIn K (.ref C) J=some none/\W.mroIn K C (.type "object")=some true/\((W.clsIn K C).any λz=>rU z.mro && z.hasDict)=true/\W.findIn K (.ref C) "__getattribute__"=some (some (.builtin "BaseException.__getattribute__"))/\W.findIn K (.ref C) "__getattr__"=some none/\W.findIn K (.ref C) "__class__"=some (some (.builtin "object.__class__"))/\W.mroIn K C (.type "BaseException")=some true/\(W.clsIn K C).isSome=true/\W.typeIn K (.ref C)=some (.type "type")/\W.subIn K (.ref C) (.type "BaseException")=some true/\W.subIn K (.ref C) (.ref C)=some true
theorem Ml {K:W.Frag}{mg:Str->Option Value}{h base:Heap}{C f:Addr}(X:K.In h)(G:h.Ns mainGlobals mg)(X1:K.In base)(a:W.nsIn K mainGlobals "CantPut"=some (some (.ref C)))(hf:W.isFn K (.ref f)=true)(e:Eu K C f "way"):o8 K mg base C f:=by
 obtain⟨e1,e2,e3,e4,e5,e6,e7,e8,e9,J,z,L,U,Y⟩:=e;exact⟨Mj X1 e1 hf,e2,W.mg_of X G a,⟨e3,e4,e5,e6⟩,⟨e7,e8,e9,e5,J,z⟩,L,z,U,Y⟩
theorem all_mk {l:W.OpenLaw}{w:World}{K:W.Frag}{h:Heap}{mg:Str->Option Value}{fa:Addr}(X:K.In h)(G:h.Ns mainGlobals mg)(cp:mg "law"=some (.ref fa))
 (vP:gf K "kind_at" (top 6))
 (vQ:gf K "record_of" (top 8))
 (vR:gf K "misfit" (top 10))
 (vS:gf K "record_misfit" (top 11))
 (vT:gf K "has_just" (top 12))
 (vU:gf K "rows_misfit" (top 13))
 (vV:gf K "is_pair" (top 14))
 (vW:gf K "tree_misfit" (top 15))
 (vX:gf K "either_misfit" (top 16))
 (vY:gf K "rank" (top 17))
 (vZ:gf K "ask_fit" (top 19))
 (v5:gf K "ask_stands" (top 20))
 (v7:gf K "field_kind" (top 23))
 (v8:gf K "has_each_once" (top 24))
 (v9:gf K "fields_among" (top 25))
 (v_:gf K "fields_but" (top 26))
 (wc:gf K "part_of" (top 27))
 (wd:gf K "rest_of" (top 28))
 (we:gf K "with_field" (top 29))
 (wg:gf K "renamed" (top 30))
 (wh:gf K "nested" (top 31))
 (wj:gf K "unnested" (top 32))
 (wm:gf K "_law_next" (top 36))
 (wo:gf K "_law_number" (top 37))
 (wq:gf K "_law_word" (top 38))
 (wu:gf K "_law_names" (top 39))
 (wx:gf K "_law_plain" (top 40))
 (wy:gf K "_law_fields" (top 41))
 (wz:gf K "_law_rows_kind" (top 42))
 (wA:gf K "_law_kind" (top 43))
 (wB:gf K "_law_rank" (top 44))
 (wC:gf K "_law_value" (top 46))
 (wD:gf K "_law_alike" (top 47))
 (wF:gf K "_law_put" (top 48))
 (wG:gf K "_law_fresh" (top 49))
 (wH:gf K "_law_some" (top 50))
 (wI:gf K "_law_place" (top 51))
 (wJ:gf K "_law_both" (top 53))
 (wK:gf K "_law_renamed" (top 54))
 (wM:gf K "_law_nested" (top 55))
 (wN:gf K "law" (top 56))
 {fR:Addr} {cq:Value} {cr bS:Option Addr} {bT bU bV bO bW:Value} {cs:Array (Option Value)} (aR:W.nsIn K mainGlobals "_law_rows"=some (some (.ref fR))) (lR:K.lookup fR=some ⟨cq,cr,.func (W.fnOf "_law_rows" "_law_rows" (i6 (top 45)) (iA (top 45)) (eR (top 45)) .none bT bU bV bS bO bW),cs⟩) (wO:W.codeIn K bO "_law_rows"=true) (kR:W.keepIn K (.ref fR)=true)
 {fS:Addr} {cu:Value} {cw bX:Option Addr} {bY bZ b1 bP b2:Value} {cx:Array (Option Value)} (aS:W.nsIn K mainGlobals "sorted_fields"=some (some (.ref fS))) (lS:K.lookup fS=some ⟨cu,cw,.func (W.fnOf "sorted_fields" "sorted_fields" (i6 (top 7)) (iA (top 7)) (eR (top 7)) .none bY bZ b1 bX bP b2),cx⟩) (wQ:W.codeIn K bP "sorted_fields"=true) (kS:W.keepIn K (.ref fS)=true)
 {fQ:Addr} {cy:Value} {cz b3:Option Addr} {b4 b5 b6 bQ b7:Value} {cA:Array (Option Value)} (aQ:W.nsIn K mainGlobals "_law_sorted"=some (some (.ref fQ))) (lQ:K.lookup fQ=some ⟨cy,cz,.func (W.fnOf "_law_sorted" "_law_sorted" (i6 (top 52)) (iA (top 52)) (eR (top 52)) .none b4 b5 b6 b3 bQ b7),cA⟩) (wR:W.codeIn K bQ "_law_sorted"=true) (kQ:W.keepIn K (.ref fQ)=true)
 (zz:∀x∈(["len","isinstance","sorted","all","range","enumerate","zip","int","bool","str","list","tuple","dict","set"]:List Str),W.nsIn K mainGlobals x=some none)
 {L ak:Addr} {bB:Value} {bC:Option Addr} {bD:Array (Option Value)} {bi:ClassData}
 (wU:W.nsIn K mainGlobals "Rename"=some (some (.ref L))) (Ew:K.lookup L=some ⟨bB,bC,.cls bi,bD⟩) (Ex:bi.ns=ak)
 {ag aF:Addr} {bF:Value} {bG:Option Addr} {bH:Array (Option Value)} {bu:ClassData}
 (wV:W.nsIn K mainGlobals "Nest"=some (some (.ref ag))) (Ey:K.lookup ag=some ⟨bF,bG,.cls bu,bH⟩) (Ez:bu.ns=aF)
 {bo bv:Addr} {bI:Value} {bJ:Option Addr} {bK:Array (Option Value)} {bw:ClassData}
 (EA:W.nsIn K mainGlobals "View"=some (some (.ref bo))) (EB:K.lookup bo=some ⟨bI,bJ,.cls bw,bK⟩) (EC:bw.ns=bv)
 {aL bd:Addr} {bx:Value} {bz:Option Addr} {bA:Array (Option Value)} {be:ClassData}
 (wW:W.nsIn K mainGlobals "CantPut"=some (some (.ref aL))) (ED:K.lookup aL=some ⟨bx,bz,.cls be,bA⟩) (EE:be.ns=bd)
 {aw:Addr} (qw:iy K L ak "__init__" "Rename.__init__" (eW 33 0) aw)
 {aG:Addr} (sM:iy K L ak "behind" "Rename.behind" (eW 33 1) aG)
 {a3:Addr} (sN:iy K L ak "see" "Rename.see" (eW 33 2) a3)
 {a4:Addr} (sO:iy K L ak "put" "Rename.put" (eW 33 3) a4)
 {aU:Addr} (sP:iy K L ak "keeps" "Rename.keeps" (eW 33 4) aU)
 {aH:Addr} (qx:iy K ag aF "__init__" "Nest.__init__" (eW 34 0) aH)
 {aY:Addr} (sQ:iy K ag aF "behind" "Nest.behind" (eW 34 1) aY)
 {bf:Addr} (sS:iy K ag aF "see" "Nest.see" (eW 34 2) bf)
 {bg:Addr} (sT:iy K ag aF "put" "Nest.put" (eW 34 3) bg)
 {a5:Addr} (sU:iy K ag aF "keeps" "Nest.keeps" (eW 34 4) a5)
 {Y:Addr} (sV:iy K bo bv "grade" "View.grade" (eW 21 3) Y)
 {an:Addr} (sW:iy K aL bd "__init__" "CantPut.__init__" (eW 4 0) an)
 (wX:W.findIn K (.ref L) "old"=some none)
 (wY:W.findIn K (.ref L) "new"=some none)
 (wZ:W.findIn K (.ref ag) "names"=some none)
 (w_:W.findIn K (.ref ag) "into"=some none)
 (xa:W.findIn K (.ref L) "grade"=some (some (.ref Y)))
 (xb:W.findIn K (.ref ag) "grade"=some (some (.ref Y)))
 (xc:Es K L) (xf:Es K ag) (xg:Eu K aL an "way")
 {cR PR:Addr} {ca:Value} {cb:Option Addr} {bL:Array Value} {cc:Array (Option Value)} (xh:bO=.ref cR) (EF:K.lookup cR=some ⟨ca,cb,.fields bL,cc⟩) (EG:bL[11]? =some (.ref PR)) (xj:W.codeHdIn K cR PR=true)
 {cS PS:Addr} {cd:Value} {ce:Option Addr} {bM:Array Value} {cf:Array (Option Value)} (xl:bP=.ref cS) (EH:K.lookup cS=some ⟨cd,ce,.fields bM,cf⟩) (jq:bM[11]? =some (.ref PS)) (xm:W.codeHdIn K cS PS=true)
 {cQ PQ:Addr} {cg:Value} {ci:Option Addr} {bN:Array Value} {cj:Array (Option Value)} (xn:bQ=.ref cQ) (EI:K.lookup cQ=some ⟨cg,ci,.fields bN,cj⟩) (hPQ:bN[11]? =some (.ref PQ)) (xo:W.codeHdIn K cQ PQ=true)
 (xp:PS≠PR) (xq:PQ≠PR) (xr:PS≠PQ)
 :∃fd:FuncData,(∀(s:Shared) (v:Value),BindsTo s fd ⟨[v],[]⟩ [("_law_script",v)])/\∀base:Heap,K.In base->base.Ns mainGlobals mg->BM mg base->eh l.prog w K mg base er 140 fa fd ["_law_script"] (vN K PR PS PQ):=by
 have zz:=λx hx=>W.mg_none_of X G (zz x hx);have T:Tb mg:=⟨zz _ (by simp),zz _ (by simp),zz _ (by simp),zz _ (by simp),zz _ (by simp),zz _ (by simp),zz _ (by simp),zz _ (by simp),zz _ (by simp),zz _ (by simp),zz _ (by simp),zz _ (by simp),zz _ (by simp),zz _ (by simp)⟩;obtain⟨_,_,aa,_⟩:=gm (ps:=["fields","name"]) X G vP (λ_ _ _ _ _ _ _ h=>by obtain⟨_,_,rfl⟩:=len2 h;rfl);obtain⟨_,_,aP,_⟩:=gm (ps:=["pairs"]) X G vQ (λ_ _ _ _ _ _ _ h=>by obtain⟨_,rfl⟩:=len1 h;rfl);obtain⟨_,_,ae,_⟩:=gm (ps:=["kind","value"]) X G vR (λ_ _ _ _ _ _ _ h=>by obtain⟨_,_,rfl⟩:=len2 h;rfl);obtain⟨_,_,z,_⟩:=gm (ps:=["fields","record"]) X G vS (λ_ _ _ _ _ _ _ h=>by obtain⟨_,_,rfl⟩:=len2 h;rfl);obtain⟨_,_,ax,_⟩:=gm (ps:=["fields","record"]) X G vT (λ_ _ _ _ _ _ _ h=>by obtain⟨_,_,rfl⟩:=len2 h;rfl);obtain⟨_,_,ai,_⟩:=gm (ps:=["kind","rows"]) X G vU (λ_ _ _ _ _ _ _ h=>by obtain⟨_,_,rfl⟩:=len2 h;rfl);obtain⟨_,_,aM,_⟩:=gm (ps:=["value"]) X G vV (λ_ _ _ _ _ _ _ h=>by obtain⟨_,rfl⟩:=len1 h;rfl);obtain⟨_,_,aj,_⟩:=gm (ps:=["kind","tree"]) X G vW (λ_ _ _ _ _ _ _ h=>by obtain⟨_,_,rfl⟩:=len2 h;rfl);obtain⟨_,_,af,_⟩:=gm (ps:=["fields","value"]) X G vX (λ_ _ _ _ _ _ _ h=>by obtain⟨_,_,rfl⟩:=len2 h;rfl);obtain⟨_,_,bp,_⟩:=gm (ps:=["kind","row"]) X G vY (λ_ _ _ _ _ _ _ h=>by obtain⟨_,_,rfl⟩:=len2 h;rfl);obtain⟨_,_,al,_⟩:=gm (ps:=["kind","seen"]) X G vZ (λ_ _ _ _ _ _ _ h=>by obtain⟨_,_,rfl⟩:=len2 h;rfl);obtain⟨_,_,az,_⟩:=gm (ps:=["stands"]) X G v5 (λ_ _ _ _ _ _ _ h=>by obtain⟨_,rfl⟩:=len1 h;rfl);obtain⟨_,_,a6,_⟩:=gm (ps:=["kind","name"]) X G v7 (λ_ _ _ _ _ _ _ h=>by obtain⟨_,_,rfl⟩:=len2 h;rfl);obtain⟨_,_,aI,_⟩:=gm (ps:=["kind","names"]) X G v8 (λ_ _ _ _ _ _ _ h=>by obtain⟨_,_,rfl⟩:=len2 h;rfl);obtain⟨_,_,aV,_⟩:=gm (ps:=["fields","names"]) X G v9 (λ_ _ _ _ _ _ _ h=>by obtain⟨_,_,rfl⟩:=len2 h;rfl);obtain⟨_,_,aA,_⟩:=gm (ps:=["fields","names"]) X G v_ (λ_ _ _ _ _ _ _ h=>by obtain⟨_,_,rfl⟩:=len2 h;rfl);obtain⟨_,_,a8,_⟩:=gm (ps:=["record","names"]) X G wc (λ_ _ _ _ _ _ _ h=>by obtain⟨_,_,rfl⟩:=len2 h;rfl);obtain⟨_,_,aN,_⟩:=gm (ps:=["record","names"]) X G wd (λ_ _ _ _ _ _ _ h=>by obtain⟨_,_,rfl⟩:=len2 h;rfl);obtain⟨_,_,aB,_⟩:=gm (ps:=["record","name","value"]) X G we (λ_ _ _ _ _ _ _ h=>by obtain⟨_,_,_,rfl⟩:=kJ h;rfl);obtain⟨_,_,aO,_⟩:=gm (ps:=["record","old","new"]) X G wg (λ_ _ _ _ _ _ _ h=>by obtain⟨_,_,_,rfl⟩:=kJ h;rfl);obtain⟨_,_,bn,_⟩:=gm (ps:=["record","names","into"]) X G wh (λ_ _ _ _ _ _ _ h=>by obtain⟨_,_,_,rfl⟩:=kJ h;rfl);obtain⟨_,_,aX,_⟩:=gm (ps:=["record","field"]) X G wj (λ_ _ _ _ _ _ _ h=>by obtain⟨_,_,rfl⟩:=len2 h;rfl);obtain⟨_,_,U,_⟩:=gm (ps:=["_law_script","_law_at"]) X G wm (λ_ _ _ _ _ _ _ h=>by obtain⟨_,_,rfl⟩:=len2 h;rfl);obtain⟨_,_,bj,_⟩:=gm (ps:=["_law_script","_law_at"]) X G wo (λ_ _ _ _ _ _ _ h=>by obtain⟨_,_,rfl⟩:=len2 h;rfl);obtain⟨_,_,bq,_⟩:=gm (ps:=["_law_script","_law_at"]) X G wq (λ_ _ _ _ _ _ _ h=>by obtain⟨_,_,rfl⟩:=len2 h;rfl);obtain⟨_,_,aC,_⟩:=gm (ps:=["_law_script","_law_at","_law_many"]) X G wu (λ_ _ _ _ _ _ _ h=>by obtain⟨_,_,_,rfl⟩:=kJ h;rfl);obtain⟨_,_,bm,_⟩:=gm (ps:=["_law_script","_law_at"]) X G wx (λ_ _ _ _ _ _ _ h=>by obtain⟨_,_,rfl⟩:=len2 h;rfl);obtain⟨_,_,aq,_⟩:=gm (ps:=["_law_script","_law_at","_law_many","_law_deep"]) X G wy (λ_ _ _ _ _ _ _ h=>by obtain⟨_,_,_,_,rfl⟩:=nY h;rfl);obtain⟨_,_,bc,_⟩:=gm (ps:=["_law_script","_law_at","_law_many","_law_deep"]) X G wz (λ_ _ _ _ _ _ _ h=>by obtain⟨_,_,_,_,rfl⟩:=nY h;rfl);obtain⟨_,_,a9,_⟩:=gm (ps:=["_law_script","_law_at","_law_deep"]) X G wA (λ_ _ _ _ _ _ _ h=>by obtain⟨_,_,_,rfl⟩:=kJ h;rfl);obtain⟨_,_,br,_⟩:=gm (ps:=["_law_kind_here","_law_row"]) X G wB (λ_ _ _ _ _ _ _ h=>by obtain⟨_,_,rfl⟩:=len2 h;rfl);obtain⟨_,_,a7,_⟩:=gm (ps:=["_law_script","_law_at","_law_kind_here","_law_room"]) X G wC (λ_ _ _ _ _ _ _ h=>by obtain⟨_,_,_,_,rfl⟩:=nY h;rfl);obtain⟨_,_,ab,_⟩:=gm (ps:=["_law_kind_here","_law_found","_law_due"]) X G wD (λ_ _ _ _ _ _ _ h=>by obtain⟨_,_,_,rfl⟩:=kJ h;rfl);obtain⟨_,_,bh,_⟩:=gm (ps:=["_law_view","_law_kind_here","_law_source","_law_seen"]) X G wF (λ_ _ _ _ _ _ _ h=>by obtain⟨_,_,_,_,rfl⟩:=nY h;rfl);obtain⟨_,_,aD,_⟩:=gm (ps:=["_law_names_here","_law_m"]) X G wG (λ_ _ _ _ _ _ _ h=>by obtain⟨_,_,rfl⟩:=len2 h;rfl);obtain⟨_,_,ba,_⟩:=gm (ps:=["_law_script","_law_at","_law_names_here"]) X G wH (λ_ _ _ _ _ _ _ h=>by obtain⟨_,_,_,rfl⟩:=kJ h;rfl);obtain⟨_,_,aE,_⟩:=gm (ps:=["_law_found","_law_due"]) X G wI (λ_ _ _ _ _ _ _ h=>by obtain⟨_,_,rfl⟩:=len2 h;rfl);obtain⟨_,_,ap,_⟩:=gm (ps:=["_law_view","_law_kind_here","_law_behind","_law_source","_law_other","_law_shown"]) X G wJ (λ_ _ _ _ _ _ _ h=>by obtain⟨_,_,_,_,_,_,rfl⟩:=Mg h;rfl);obtain⟨_,_,aW,_⟩:=gm (ps:=["_law_script","_law_at","_law_kind_here","_law_source","_law_other"]) X G wK (λ_ _ _ _ _ _ _ h=>by obtain⟨_,_,_,_,_,rfl⟩:=Et h;rfl);obtain⟨_,_,aZ,_⟩:=gm (ps:=["_law_script","_law_at","_law_kind_here","_law_source","_law_other"]) X G wM (λ_ _ _ _ _ _ _ h=>by obtain⟨_,_,_,_,_,rfl⟩:=Et h;rfl);obtain⟨_,_,bE,hB⟩:=gm (ps:=["_law_script"]) X G wN (λ_ _ _ _ _ _ _ h=>by obtain⟨_,rfl⟩:=len1 h;rfl);subst xh
 have bt:Dn K mg "_law_rows" ja (top 45) fR (W.fnOf "_law_rows" "_law_rows" (i6 (top 45)) (iA (top 45)) (eR (top 45)) .none bT bU bV bS (.ref cR) bW):=by
  have F:=qW (st:=(top 45)) lR wO kR;exact⟨F,F.binds (λ_ _ _ _ _ _ _ h=>by obtain⟨_,_,_,_,rfl⟩:=nY h;rfl),W.mg_of X G aR⟩
 subst xl
 have aJ:Dn K mg "sorted_fields" kD (top 7) fS (W.fnOf "sorted_fields" "sorted_fields" (i6 (top 7)) (iA (top 7)) (eR (top 7)) .none bY bZ b1 bX (.ref cS) b2):=by
  have F:=qW (st:=(top 7)) lS wQ kS;exact⟨F,F.binds (λ_ _ _ _ _ _ _ h=>by obtain⟨_,rfl⟩:=len1 h;rfl),W.mg_of X G aS⟩
 subst xn
 have ar:Dn K mg "_law_sorted" nN (top 52) fQ (W.fnOf "_law_sorted" "_law_sorted" (i6 (top 52)) (iA (top 52)) (eR (top 52)) .none b4 b5 b6 b3 (.ref cQ) b7):=by
  have F:=qW (st:=(top 52)) lQ wR kQ;exact⟨F,F.binds (λ_ _ _ _ _ _ _ h=>by obtain⟨_,rfl⟩:=len1 h;rfl),W.mg_of X G aQ⟩
 obtain⟨_,ao⟩:=ke (ps:=["self","old","new"]) qw (λ_ _ _ _ _ _ _ h=>by obtain⟨_,_,_,rfl⟩:=kJ h;rfl);obtain⟨_,ac⟩:=ke (ps:=["self","kind"]) sM (λ_ _ _ _ _ _ _ h=>by obtain⟨_,_,rfl⟩:=len2 h;rfl);obtain⟨_,a1⟩:=ke (ps:=["self","kind","source"]) sN (λ_ _ _ _ _ _ _ h=>by obtain⟨_,_,_,rfl⟩:=kJ h;rfl);obtain⟨_,au⟩:=ke (ps:=["self","kind","source","seen"]) sO (λ_ _ _ _ _ _ _ h=>by obtain⟨_,_,_,_,rfl⟩:=nY h;rfl);obtain⟨_,aK⟩:=ke (ps:=["self","name"]) sP (λ_ _ _ _ _ _ _ h=>by obtain⟨_,_,rfl⟩:=len2 h;rfl);obtain⟨_,ay⟩:=ke (ps:=["self","names","into"]) qx (λ_ _ _ _ _ _ _ h=>by obtain⟨_,_,_,rfl⟩:=kJ h;rfl);obtain⟨_,ah⟩:=ke (ps:=["self","kind"]) sQ (λ_ _ _ _ _ _ _ h=>by obtain⟨_,_,rfl⟩:=len2 h;rfl);obtain⟨_,bb⟩:=ke (ps:=["self","kind","source"]) sS (λ_ _ _ _ _ _ _ h=>by obtain⟨_,_,_,rfl⟩:=kJ h;rfl);obtain⟨_,aT⟩:=ke (ps:=["self","kind","source","seen"]) sT (λ_ _ _ _ _ _ _ h=>by obtain⟨_,_,_,_,rfl⟩:=nY h;rfl);obtain⟨_,a2⟩:=ke (ps:=["self","name"]) sU (λ_ _ _ _ _ _ _ h=>by obtain⟨_,_,rfl⟩:=len2 h;rfl);obtain⟨_,av⟩:=ke (ps:=["self"]) sV (λ_ _ _ _ _ _ _ h=>by obtain⟨_,rfl⟩:=len1 h;rfl);obtain⟨_,am⟩:=ke (ps:=["self","way"]) sW (λ_ _ _ _ _ _ _ h=>by obtain⟨_,_,rfl⟩:=len2 h;rfl);have e:=cp.symm.trans bE.m
 cases e;refine⟨_,λs v=>.of_eq (hB [v] rfl),λbase X1 _ bR=>?_⟩;have cm:=W.codeHd_of_K X1 xj;have cn:=W.codeHd_of_K X1 xm;have co:=W.codeHd_of_K X1 xo;obtain⟨t1,t2,t3,t4,t5,t6⟩:=xc;obtain⟨d1,d2,d3,d4,d5,d6⟩:=xf
 have MG:∀{C:Addr},W.findIn K (.ref C) "grade"=some (some (.ref Y))->Meth K C "grade" Y:=λe=>by
  obtain⟨_,⟨_,_,_,_,_,_,_,_,_,_,_,k⟩,h1,_⟩:=sV;exact⟨e,h1,k⟩
 have RF:l4 K mg L aw aG a3 a4 Y aU:=⟨⟨t1,t2,t3,t4⟩,wX,wY,⟨t5,qw.2.2.2,qw.2.2.1,t6⟩,W.mg_of X G wU,iy.meth sM,iy.meth sN,iy.meth sO,MG xa,iy.meth sP⟩;have NF:l6 K mg ag aH aY bf bg Y a5:=⟨⟨d1,d2,d3,d4⟩,wZ,w_,⟨d5,qx.2.2.2,qx.2.2.1,d6⟩,W.mg_of X G wV,iy.meth sQ,iy.meth sS,iy.meth sT,MG xb,iy.meth sU⟩;have XC:=Ml X G X1 wW sW.2.2.1 xg;have N:=rJ (qe (P:=l.prog) (w:=w) (base:=base) T U);have Nm:=Cr T aC U N;have cC:=λd=>kind_all (P:=l.prog) (w:=w) (base:=base) T a9 U bm aC aq bc d;have Fd:=λd=>Cs d T aq aC Nm a9 (cC d);have cD:=qk (Fd 2) ((Fd 1).mono (by decide));have V_:=CM (P:=l.prog) (w:=w) T a7 bt rfl cm bR U bj bq br 67;have M:=C6 (P:=l.prog) (w:=w) (base:=base) T ae z ax ai bp aj aM af aa;have J:=Jm (P:=l.prog) (w:=w) (base:=base) T ax;have Ka:=C1 (P:=l.prog) (w:=w) (base:=base) T aa;have RN:=Jo T z ax J ae (M 0).1;have b8:=Jp T ai z RN bp (CG T bp);have PN:=Jn (P:=l.prog) (w:=w) (base:=base) T aM;have TN:=Jq T aj (M 0).2 aM PN ae (M 0).1;have EN:=Jr T af aM PN aa Ka ae (M 0).1;have MN:=Js T ae z RN ai b8 aj TN af EN;have MB:=qk (M 23).1 (MN.mono (by decide));have RW:=Jt 23 94 T z ax J ae MB;have MW:=Ju 23 94 T ae z RW ai b8 aj TN af EN (by decide);have AA:=C_ (P:=l.prog) (w:=w) (base:=base) T ab 23;have AL:=Lx 23 T ab (qk (AA.mono (by decide)) (Jv 23 T ab AA));have SF:=Kc (P:=l.prog) (w:=w) T aJ rfl cn bR;have LS:=LD (P:=l.prog) (w:=w) T ar rfl co bR;have RO:=Kf T aP aJ SF;have AS:=Kj (P:=l.prog) (w:=w) (base:=base) T az;have cE:=Kl T aI aa Ka;have cF:=Kn (P:=l.prog) (w:=w) (base:=base) T aV;have PO:=Kq (P:=l.prog) (w:=w) (base:=base) T a8;have KN:=Kz (P:=l.prog) (w:=w) (base:=base) T aa;have KL:=KC (P:=l.prog) (w:=w) (base:=base) T aa;have FK:=KG T a6 aa Ka;have FB:=KI (P:=l.prog) (w:=w) (base:=base) T aA;have RE:=KP T aN a8 PO;have WF:=KR (P:=l.prog) (w:=w) (base:=base) T aB;have RD:=KU T aO aB WF aN RE;have NE:=KY T bn aB WF aN RE a8 PO;have UN:=K0 T aX aN RE;have GR:=K4 (P:=l.prog) (w:=w) (base:=base) T av;have RI:=K2 (P:=l.prog) (w:=w) (base:=base) T RF ao;have RK:=K6 (P:=l.prog) (w:=w) (base:=base) T RF aK;have RS:=K8 T RF a1 aO RD;have RB:=K_ T RF ac a6 FK az AS aa KN aP RO aA FB;have NI:=Lb (P:=l.prog) (w:=w) (base:=base) T NF ay;have NK:=Le (P:=l.prog) (w:=w) (base:=base) T NF a2;have NS:=Lg T NF bb bn NE;have NB:=Li T NF ah aI cE az AS aa KL aP RO aA FB aV cF;have AF:=Lk 23 94 T al ae MW;have cG:=Ln (P:=l.prog) (w:=w) T XC am;have b9:=Lp 23 94 T XC al ae MW am cG;have RP:=Lr 23 94 T RF au al AF ac RB aO RD (by decide);have cH:=Ls 23 94 T RF au al b9 ac RB aO RD (by decide);have NP:=Lu 23 94 T NF aT al AF ah NB aX UN (by decide);have cI:=Lv 23 94 T NF aT al b9 ah NB aX UN (by decide);have FR:=LC (P:=l.prog) (w:=w) (base:=base) T aD;have SO:=LH T ba U N;have PL:=LJ (P:=l.prog) (w:=w) (base:=base) T aE;have BR:=LQ 23 94 T RF XC ac RB a1 RS av GR au RP cH ap ab AL bh aE PL (by decide) (by decide);have BN:=LU 23 94 T NF XC ah NB bb NS av GR aT NP cI ap ab AL bh aE PL (by decide) (by decide);have LR:=LY 23 94 T RF aW U N aD FR ao RI aK RK ar LS ap BR (by decide);have LN:=Ma 22 94 T NF aZ U N ba SO aD FR ay NI a2 NK ar LS ap BN (by decide);exact Md xp xq xr T bE U N aq cD a7 V_ aW LR aZ LN ab AL
theorem Mm {K:W.Frag}{x:Str}{f c P:Addr}{Y J:Value}{od L:Option Addr}{fd:FuncData}{sl U:Array (Option Value)}{z:Array Value}(a:W.nsIn K mainGlobals x=some (some (.ref f)))(l:K.lookup f=some ⟨Y,od,.func fd,sl⟩)(hc:fd.code=.ref c)
 (lc:K.lookup c=some ⟨J,L,.fields z,U⟩) (hP:z[11]? =some (.ref P)):W.tabIn K x=some (c,P):=by
 unfold W.tabIn;rw[a];dsimp only;rw[l];dsimp only;rw[hc];dsimp only;rw[lc];dsimp only;rw[hP]
def Mn (K:W.Frag) (z:List (Addr × Addr)):Sp:=λvs H Q _=>∃(a:Addr) (ns:List Int),vs=[.ref a]/\jm K H a ns/\ns.length<=63/\(∀q∈z,H q.2=some (.fO #[]))/\∀H',Q (.bl true) H'
theorem jm.ofT {K:W.Frag}{H:Hp}{a:Addr}{ns:List Int}{J:List Addr}(o:rd J H)(h:eF K H a (ns.map V.int)):jm K H a ns:=by
 rcases h with(h|h)|h
 . rcases o a with z|⟨L,xs,z⟩|⟨_,z⟩ <;> rw[h] at z <;> cases z
 . exact .inl h
 . exact .inr h
theorem walk {l:W.OpenLaw}{q:Program}{loose:List Str}{XP:(Str->Option Value)->Heap->Prop}{YP:World->Heap->Prop}{d:DefRec}{K:Params->W.Frag}(hn:l.most=some 63)(aa:d.params.defaults=[])
 (hY:∀(w:World) (h:Heap),YP w h->(K w.params).In h) (ab:∀w:World,W.noTabs (K w.params)=true) (J:∀y∈(["_law_rows","sorted_fields","_law_sorted"]:List Str),∃d',(PyProof.Rows.recsOf q).find? (λe=>e.name == y)=some d')
 (F:∀w:World,∃c Pt U P2 Y P3:Addr,W.tabIn (K w.params) "_law_rows"=some (c,Pt)/\W.tabIn (K w.params) "sorted_fields"=some (U,P2)/\W.tabIn (K w.params) "_law_sorted"=some (Y,P3)/\∀(mg:Str->Option Value) (L:Addr) (h:Heap),(K w.params).In h->h.Ns mainGlobals mg->mg d.name=some (.ref L)->
   ∃fd:FuncData,(∀(s:Shared) (u:Value),BindsTo s fd ⟨[u],[]⟩ [("_law_script",u)])/\∀base:Heap,(K w.params).In base->base.Ns mainGlobals mg->BM mg base->eh l.prog w (K w.params) mg base er 140 L fd ["_law_script"] (vN (K w.params) Pt P2 P3)):
 W.WalkO q loose XP YP l.row.toRowW d [] (λf vs=>PySem.call f vs):=
 L2.HQ (n:=63) (k:=140) (x:="_law_script") (names:=["_law_rows","sorted_fields","_law_sorted"]) (sp:=λw z=>Mn (K w.params) z) hn (by decide) aa ⟨rfl,by decide,by decide⟩ hY ab (λw=>by
   obtain⟨c,Pt,U,P2,Y,P3,ht,qj,qf,F⟩:=F w;refine⟨[(c,Pt),(U,P2),(Y,P3)],λq' hq=>?_,λmg L h X G hm=>?_⟩
   . rcases List.mem_cons.mp hq with e|e
     . exact⟨"_law_rows",by simp,by rw[e];exact ht⟩
     . rcases List.mem_cons.mp e with e|e
       . exact⟨"sorted_fields",by simp,by rw[e];exact qj⟩
       . exact⟨"_law_sorted",by simp,by rw[List.mem_singleton.mp e];exact qf⟩
   obtain⟨fd,hb,hF⟩:=F mg L h X G hm;exact⟨fd,hb,λbase X1 G1 B=>(hF base X1 G1 B).imp λvs H Q E ⟨a,ns,e,hS,hl,hT,q⟩=>⟨a,ns,e,hS,hl,.inl (hT _ Q04),.inl (hT _ (Q0e _ Q04)),.inl (hT _ (Q0e _ (Q0e _ (List.mem_singleton.mpr rfl)))),q⟩⟩)
   J λw z H a ns hl hO ac ae=>⟨a,ns,rfl,jm.ofT hO ae,hl,ac,λ_=>rfl⟩
end Pb
open W PyProof.Rows
set_option maxRecDepth 100000 in
set_option maxHeartbeats 0 in
theorem PySem.Challenge.cw_putback_k27_rename_and_nest_holds : PySem.Challenge.rw_putback_k27_rename_and_nest.Holds := by
 w_on
 refine holds_law Pb.said λsaid=>?_;refine holds_open (q:=Pb.qv) (loose:=[]) (Xt:=λs=>xlAt Pb.qv [] s && recOk (RowW.records (PySem.W.OpenRow.toRowW (PySem.W.OpenLaw.row PySem.Challenge.rw_putback_k27_rename_and_nest))) s) (XP:=XL Pb.qv []) (Yf:=Hook.obs (PySem.W.kmHook Pb.KK Pb.ma Pb.mO [86,434,479])) (Ya:=Hook.val (PySem.W.kmHook Pb.KK Pb.ma Pb.mO [86,434,479])) (YP:=Hook.says (PySem.W.kmHook Pb.KK Pb.ma Pb.mO [86,434,479])) (N:=11013) ?hl (Hook.of (PySem.W.kmHook Pb.KK Pb.ma Pb.mO [86,434,479])) (Hook.keeps (PySem.W.kmHook Pb.KK Pb.ma Pb.mO [86,434,479])) (λs e=>xl_of s (Bool.and_eq_true_iff.mp e).1) XL.keeps (by rfl) (by rfl) (by rfl) (λs e=>recFacts_of (Bool.and_eq_true_iff.mp e).2) (by rfl) (by first|assumption|decide +kernel) (by decide +kernel) ⟨rfl,rfl,rfl,rfl,rfl,by decide +kernel⟩ ?hw ?hc
 case hl=>exact Pb.EK (by rfl) (by rfl) (λs=>rfl) (by rfl) (Q3p 24 Pb.s_).symm (λP=>by kernel_rfl) Pb.EW (Pb.EL Pb.EX (Pb.EM Pb.EY Pb.EZ Pb.E1))
 (case hw=>w_witness2)
 k_fill
 refine Pb.walk (l:=PySem.Challenge.rw_putback_k27_rename_and_nest) rfl rfl (λw h Y=>PySem.W.km_in_of Y) (λw=>by kernel_rfl) ?HR ?F
 case HR=>intro y hy;simp only[Q12,Q26,or_false] at hy;rcases hy with rfl|rfl|rfl <;> exact⟨_,rfl⟩
 case F=>
  intro w
  refine' ⟨_,_,_,_,_,_,?ht,?qj,?qf,?GG⟩
  case ht|qj|qf=>
   refine' Pb.Mm ?ta ?tl ?tc ?Mo ?tP
   (case ta=>k_is);(case tl=>k_is);(case tc=>rfl);(case Mo=>k_is);(case tP=>rfl)
  case GG=>
   intro mg fa h KX G hmg
   refine' Pb.all_mk KX G hmg ?vP ?vQ ?vR ?vS ?vT ?vU ?vV ?vW ?vX ?vY ?vZ ?v5 ?v7 ?v8 ?v9 ?v_ ?wc ?wd ?we ?wg ?wh ?wj ?wm ?wo ?wq ?wu ?wx ?wy ?wz ?wA ?wB ?wC ?wD ?wF ?wG ?wH ?wI ?wJ ?wK ?wM ?wN ?aR ?lR ?wO ?kR ?aS ?lS ?wQ ?kS ?aQ ?lQ ?wR ?kQ ?zz ?wU ?Ew ?Ex ?wV ?Ey ?Ez ?EA ?EB ?EC ?wW ?ED ?EE ?qw ?sM ?sN ?sO ?sP ?qx ?sQ ?sS ?sT ?sU ?sV ?sW ?wX ?wY ?wZ ?w_ ?xa ?xb ?xc ?xf ?xg ?xh ?EF ?EG ?xj ?xl ?EH ?jq ?xm ?xn ?EI ?hPQ ?xo ?xp ?xq ?xr
   case vP|vQ|vR|vS|vT|vU|vV|vW|vX|vY|vZ|v5|v7|v8|v9|v_|wc|wd|we|wg|wh|wj|wm|wo|wq|wu|wx|wy|wz|wA|wB|wC|wD|wF|wG|wH|wI|wJ|wK|wM|wN=>
    refine' Pb.Me ?a ?l ?c ?k
    (case a=>k_is);(case l=>k_is);(case c=>k_is);(case k=>k_is)
   (case aR=>k_is);(case lR=>k_is);(case wO=>k_is);(case kR=>k_is)
   (case aS=>k_is);(case lS=>k_is);(case wQ=>k_is);(case kS=>k_is)
   (case aQ=>k_is);(case lQ=>k_is);(case wR=>k_is);(case kQ=>k_is)
   case zz=>intro x hx;simp only[Q12,Q26,or_false] at hx;rcases hx with rfl|rfl|rfl|rfl|rfl|rfl|rfl|rfl|rfl|rfl|rfl|rfl|rfl|rfl <;> k_is
   (case wU=>k_is);(case Ew=>k_is);(case Ex=>rfl)
   (case wV=>k_is);(case Ey=>k_is);(case Ez=>rfl)
   (case EA=>k_is);(case EB=>k_is);(case EC=>rfl)
   (case wW=>k_is);(case ED=>k_is);(case EE=>rfl)
   case qw|sM|sN|sO|sP|qx|sQ|sS|sT|sU|sV|sW=>
    refine' Pb.Mf ?a ?l ?c ?k ?f ?g
    (case a=>k_is);(case l=>k_is);(case c=>k_is);(case k=>k_is);(case f=>kernel_rfl);(case g=>kernel_rfl)
   case wX|wY|wZ|w_|xa|xb=>kernel_rfl
   case xc|xf=>refine⟨?_,?_,?_,?_,?_,?_⟩ <;> kernel_rfl
   case xg=>refine⟨?_,?_,?_,?_,?_,?_,?_,?_,?_,?_,?_,?_,?_,?_⟩ <;> kernel_rfl
   (case xh=>rfl);(case EF=>k_is);(case EG=>rfl);(case xj=>kernel_rfl)
   (case xl=>rfl);(case EH=>k_is);(case jq=>rfl);(case xm=>kernel_rfl)
   (case xn=>rfl);(case EI=>k_is);(case hPQ=>rfl);(case xo=>kernel_rfl)
   (case xp=>decide);(case xq=>decide);(case xr=>decide)
