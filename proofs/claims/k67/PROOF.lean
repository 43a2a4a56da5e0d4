import PyProof.Rows.All
import Wide.All
import OpenK.AllK
import Wide.FinOn
import Lean
import PyProof.EqAt
import PyProof.EqKinds
import PyProof.TupleCall
import KE.KSortAsk
import PyProof.NeKinds
import PyProof.StationsW
import PyProof.ExcClass3
import PyProof.Rows.Own
import PyProof.NsDelKeeps
import KE.KIsAll
import PyProof.ExcAttrAll.ValueError
import PyProof.IsiH_list
import PyProof.Rows.FStr
import PyProof.FString4
import PyProof.StrLawsRepr
import PyProof.ExcInit
import PyProof.InstStoreFacts
import PyProof.Rows.SetFrom
import PyProof.StrLawsIn
import PyProof.Rows.StrNews2
import PyProof.StrBlockI
import KE.IntText
import KE.KIntText
import PyProof.FString5
import PyProof.Rows.StrMeet
import PyProof.Draws
import PyProof.DictWalks
import KE.KRevIter
import PySem.Challenge.RW_putback_k67_values_written
abbrev XA:List PySem.Str:=["_law_script","_law_at"]
abbrev XB:List PySem.Str:=["_law_script","_law_at","_law_many","_law_deep"]
abbrev XC:List PySem.Str:=["text","place"]
abbrev XD:List PySem.Str:=["_law_script","_law_at","_law_kind_here","_law_room"]
abbrev XE:List PySem.Str:=["_law_found","_law_due"]
abbrev XF:List PySem.Str:=["_law_one","_law_other","_law_found","_law_due"]
abbrev XG:List PySem.Str:=["self","first","last","read_one"]
abbrev XH:List PySem.Str:=["self","sort","thing"]
abbrev XI:List PySem.Str:=["_law_script","_law_at","_law_kind_here","_law_room","_law_made","_law_name","_law_inner","_law_top","_law_many"]
abbrev XJ:List PySem.Str:=["_law_script","_law_at","_law_kind_here","_law_room","_law_rows_here","_law_seen","_law_k","_law_row"]
abbrev XM:List PySem.Str:=["_law_kind_here","_law_row"]
abbrev XN:List PySem.Str:=["_law_script","_law_at","_law_pieces"]
abbrev XO:List PySem.Str:=["reader","fields"]
abbrev XQ:List PySem.Str:=["fields","record"]
abbrev XR:List PySem.Str:=["_law_fields_here","_law_value_here"]
abbrev XS:List PySem.Str:=["_law_script","_law_at","_law_deep"]
abbrev XT:List PySem.Str:=["_law_script","_law_at","_law_many"]
abbrev XU:List PySem.Str:=["_law_kind_here","_law_value_here"]
abbrev XV:List PySem.Str:=["_law_script","_law_at","_law_many","_law_deep","_law_names_here"]
abbrev XW:List PySem.Str:=["_law_value_here","_law_twice","_law_row","_law_made","_law_name"]
abbrev XX:List PySem.Str:=["_law_value_here","_law_twice"]
abbrev XY:List PySem.Str:=["_law_kind_here","_law_values"]
abbrev XZ:List PySem.Str:=["text","place","least","most"]
abbrev Xa:List PySem.Str:=["_law_kind_here","_law_value_here","_law_head","_law_inner"]
abbrev Xb:List PySem.Str:=["reader","kind"]
abbrev Xc:List PySem.Str:=["self","mark"]
abbrev Xd:List PySem.Str:=["self","text"]
theorem zzx {α:Sort _}{β:α->Sort _}{γ:∀a,β a->Sort _}{δ:∀a b,γ a b->Sort _}{p:∀a b c,δ a b c->Prop}{G:Prop}(h:∃a b c d,p a b c d)(k:∀a b c d,p a b c d->G):G:=let⟨a,b,c,d,e⟩:=h;k a b c d e
theorem zza {A B C D E G:Prop}(h:A/\B/\C/\D/\E)(k:A->B->C->D->E->G):G:=k h.1 h.2.1 h.2.2.1 h.2.2.2.1 h.2.2.2.2
local macro_rules|`(tactic|obtain⟨$s,*⟩:=$t)=>do
 let a:=s.getElems;if a.size<6 then Lean.Macro.throwUnsupported
 let b:=a.extract 4 a.size;let q←(a.extract 0 4).mapM λp=>`(rintroPat|($p:rcasesPatLo));let c←match t with|`($x:ident)=>`(tactic|try clear $x)|_=>`(tactic|skip)
 `(tactic|((first|refine zzx $t ?_|refine zza $t ?_);$c;rintro $q* e;obtain⟨$b,*⟩:=e))
open PySem renaming wpAny_bind→Q0,wpAny_pure→Q08,wpAny_mono→Q0v
open Nat renaming le_refl→Q00,zero_le→Q06,le_trans→Q07,ne_of_lt→Q0c,lt_of_lt_of_le→Q0g,lt_of_le_of_lt→Q0q,ne_of_gt→Q0r,mul_le_mul_right→Q1,lt_irrefl→Q10,le_add_right→Q11,le_of_lt→Q14,le_succ→Q15,lt_succ_self→Q1a,succ_mul→Q1f,le_of_not_lt→Q1j,not_lt_zero→Q1w,zero_add→Q22,le_of_eq→Q23,le_max_left→Q2c,le_max_right→Q2d,pow_succ→Q2e,lt_or_ge→Q2g,sub_succ_lt_self→Q2l,sub_self→Q2p,add_le_add_left→Q2x,mul_left_comm→Q3a,toDigits_ne_nil→Q3f,add_sub_cancel_left→Q3g,le_antisymm→Q3j,mul_le_mul_left→Q3m,le_mul_of_pos_right→Q3o
open List renaming length_append→Q01,length_cons→Q02,mem_cons_self→Q05,mem_append_right→Q09,getElem?_eq_getElem→Q0a,length_map→Q0b,mem_cons_of_mem→Q0d,size_toArray→Q0e,append_assoc→Q0j,length_take→Q0k,length_nil→Q0l,getD_eq_getElem?_getD→Q0m,append_nil→Q0n,getElem?_map→Q0o,map_append→Q0p,mem_cons→Q0s,not_mem_nil→Q0t,mem_append_left→Q0u,length_replicate→Q0w,mem_of_getElem?→Q0x,map_cons→Q0y,length_drop→Q0z,cons_ne_nil→Q12,take_length→Q13,all_eq_true→Q17,take_add_one→Q18,getElem_inj→Q19,any_cons→Q1b,drop_eq_getElem_cons→Q1c,take_of_length_le→Q1d,nodup_nil→Q1e,drop_drop→Q1g,find?_cons→Q1i,forIn_cons→Q1k,cons_append→Q1l,filterMap_cons→Q1m,getElem?_append_right→Q1n,length_singleton→Q1o,lookup_cons→Q1p,getElem_of_mem→Q1q,getElem_mem→Q1r,takeWhile_cons_of_neg→Q1t,of_mem_zip→Q1u,getElem?_append_left→Q1v,length_range→Q1x,mem_map_of_mem→Q1y,take_drop→Q20,all_cons→Q24,map_nil→Q25,map_congr_left→Q27,getElem?_drop→Q28,pairwise_singleton→Q29,takeWhile_cons_of_pos→Q2a,takeWhile_append_of_pos→Q2b,replicate_succ→Q2f,any_map→Q2h,getLast?_eq_some_getLast→Q2i,mem_of_mem_take→Q2j,take_nil→Q2k,take_succ→Q2n,getElem_take→Q2o,getElem?_set_self→Q2r,getElem?_set_ne→Q2s,getElem?_replicate→Q2t,pairwise_map→Q2z,ext_getElem→Q30,lt_irrefl→Q34,drop_eq_nil_of_le→Q35,find?_cons_of_pos→Q36,find?_cons_of_neg→Q37,dropWhile_cons_of_neg→Q38,getElem?_take→Q39,takeWhile_prefix→Q3b,drop_length→Q3d,getElem?_eq_none→Q3e,mem_of_mem_head?→Q3i,eq_of_mem_replicate→Q3k,flatten_append→Q3n,zipIdx_cons→Q3p,zipIdx_nil→Q3q,forIn_nil→Q3r,getElem?_reverse→Q3s
open PySem.Heap renaming lt_size→Q03,get?_push_of_some→Q04,get?_push_size→Q0f,size_push→Q16,get?_update_self→Q2u,get?_update_other→Q2v,size_update→Q31,get?_push_ne→Q32
open Int renaming emod_lt_of_pos→Q0h,emod_nonneg→Q0i,eq_ofNat_of_zero_le→Q1z,toNat_natCast→Q2,mul_le_mul_of_nonneg_right→Q21,le_refl→Q2m,lt_of_lt_of_le→Q3c,natCast_add→Q3l
open Array renaming length_toList→Q1h,getD_eq_getD_getElem?→Q1s,empty_append→Q2q,getElem?_eq_getElem→Q3,forIn_toList→Q33,toList_append→Q3h
open Option renaming isSome_map→Q26,getD_none→Q2w,getD_some→Q2y
set_option genSizeOf false
set_option Elab.async false
set_option linter.all false
set_option maxRecDepth 100000
set_option maxHeartbeats 4000000
open PySem
theorem wq:2<=PySem.sizeLine:=by decide
theorem wu:8<=PySem.sizeLine:=by decide
theorem Lw:16<=PySem.sizeLine:=by decide
namespace L2
open Spec PyProof.Rows
noncomputable def iu (s:Stmt):Arguments:=match s with
 | .FunctionDef _ a _ _ _ _ _ _ _ _=>a
 |_=>{ posonlyargs:=[],args:=[],vararg:=none,kwonlyargs:=[],kw_defaults:=[],kwarg:=none,defaults:=[] }
noncomputable def gJ (s:Stmt):List Stmt:=match s with
 | .FunctionDef _ _ b _ _ _ _ _ _ _=>b
 |_=>[]
noncomputable def dN (s:Stmt):Scope:=match s with
 | .FunctionDef _ _ _ _ _ _ sc _ _ _=>sc
 |_=>{ kind:=.function,names:=[],isGenerator:=false,isCoroutine:=false }
end L2
namespace Pb
open L2
noncomputable def top (i:Nat):Stmt:=PySem.Challenge.pw_putback_k67_values_written.main.body.getD i (.Pass ⟨0,0,0,0⟩)
noncomputable def dU (i j:Nat):Stmt:=match top i with
 | .ClassDef _ _ _ body _ _ _ _ _ _ _=>body.getD j (.Pass ⟨0,0,0,0⟩)
 |_=>.Pass ⟨0,0,0,0⟩
end Pb
namespace Pb
open W
noncomputable def treeOf:List Obj->Nat->BT->Option BT
 |[],_,t=>some t
 |o::l,n,t=>match((t.ins n o).get n).isSome with
  |true=>treeOf l (n+1) (t.ins n o)
  |false=>none
theorem wx {life:Life}:∀(l:List Obj) (n:Nat) (t t':BT),treeOf l n t=some t'->absHeap t' (n+l.length) life=⟨(absHeap t n life).objs++l.toArray,life⟩
 |[],n,t,t',h=>by
  cases h;show absHeap t n life=_;have:(absHeap t n life).objs++#[]=(absHeap t n life).objs:=Array.append_empty;rw[this];rfl
 |o::l,n,t,t',h=>by
  unfold treeOf at h
  cases e:((t.ins n o).get n).isSome with
  |false=>rw[e] at h;cases h
  |true=>
   rw[e] at h;have:=wx (life:=life) l (n+1) _ t' h;rw[absHeap_ins e] at this;have J:n+(o::l).length=n+1+l.length:=by rw[Q02];omega
   rw[J,this];show Heap.mk ((absHeap t n life).objs.push o++l.toArray) life=_;congr 1;apply Array.ext';simp
noncomputable def nM (tb:String->Option Builtin) (p:Program) (w:World) (J:Nat) (L:Option Value):Nat->SharedT->Thread->Option SharedT
 |0,_,_=>none
 |n+1,s,t=>match through t with
  |true=>some s
  |false=>match stepOk J L t with
   |false=>none
   |true=>match stepT (denote tb) p w s t with
    |some (s',t')=>nM tb p w J L n s' t'
    |none=>none
theorem wy {tb:String->Option Builtin}{p:Program}{w:World}{J:Nat}{L:Option Value}:∀{n:Nat}{s s':SharedT}{t:Thread},nM tb p w J L n s t=some s'->topRun tb p w J L n s.abs t=some s'.abs
 |0,_,_,_,h=>by cases h
 |n+1,s,s',t,h=>by
  unfold nM at h;unfold topRun
  cases Y:through t with
  |true=>rw[Y] at h;cases h;rfl
  |false=>
   rw[Y] at h
   cases hk:stepOk J L t with
   |false=>rw[hk] at h;cases h
   |true=>
    rw[hk] at h
    cases U:stepT (denote tb) p w s t with
    |none=>rw[U] at h;cases h
    |some r=>obtain⟨aa,ab⟩:=r;rw[U] at h;rw[stepT_spec U];exact wy h
noncomputable abbrev lH:=@W.Fast.tw10156331382660048174
noncomputable abbrev jD:=@W.Fast.tw11892475500146522536
noncomputable abbrev jE:=@W.Fast.tw14364793385576792824
noncomputable abbrev nN:=@W.Fast.tw6613529449190102663
noncomputable abbrev seenQ:=@W.Fast.tw4187177175401517315
noncomputable def lI (p:Program) (w:World) (J:Nat) (L:Option Value):Nat->SharedT->Thread->Option SharedT
 |0,_,_=>none
 |n+1,s,t=>match through t with
  |true=>some s
  |false=>match nN J L t with
   |false=>none
   |true=>match lH (jD jE) p w s t with
    |some (s',t')=>lI p w J L n s' t'
    |none=>none
theorem wz {p:Program}{w:World}{J:Nat}{L:Option Value}:∀(n:Nat) (s:SharedT) (t:Thread),lI p w J L n s t=nM treeTable p w J L n s t
 |0,_,_=>rfl
 |n+1,s,t=>by
  unfold lI nM;have e1:nN J L t=stepOk J L t:=congrFun (congrFun (congrFun W.Fast.te6613529449190102663.symm _) _) _;have U:lH (jD jE) p w s t=stepT (denote treeTable) p w s t:=by rw[show @lH=@stepT from W.Fast.te10156331382660048174.symm,show @jD=@denote from W.Fast.te11892475500146522536.symm,show @jE=@treeTable from W.Fast.te14364793385576792824.symm]
  rw[e1,U];simp only[wz n]
noncomputable def looksAt (p q:Program) (loose:List Str) (Xt:Shared->Bool) {α:Type}(Yf:Shared->α) (g0:Bool) (h₀:Heap) (s:Shared):=
 ((staticsOk (importedModules p.main.body) h₀ s.heap && namesBound p s.heap && gensDone s && laidKept h₀ s.heap),seenQ q loose (importedModules p.main.body) Xt g0 s,Yf s)
noncomputable def wA:List (Nat × Obj)->BT->BT
 |[],t=>t
 |(a,o)::l,t=>wA l (t.ins a o)
noncomputable def so:Nat->List Obj->BT->BT
 |_,[],t=>t
 |n,o::l,t=>so (n+1) l (t.ins n o)
noncomputable def nO (p:Program) (w:World) (J:Nat) (L:Option Value):Nat->SharedT->Thread->Option (Flow × SharedT × Code × Pos)
 |0,_,_=>none
 |n+1,s,t=>match endAt 1 t with
  |some f=>some (f,s,t.code,t.pos)
  |none=>match nN J L t with
   |false=>none
   |true=>match lH (jD jE) p w s t with
    |some (s',t')=>nO p w J L n s' t'
    |none=>none
theorem wB (J:Nat)(L:Option Value)(t:Thread):nN J L t=stepOk J L t:=congrFun (congrFun (congrFun W.Fast.te6613529449190102663.symm _) _) _
theorem wC:@jD jE=denote treeTable:=by rw[show @jD=@denote from W.Fast.te11892475500146522536.symm,show @jE=@treeTable from W.Fast.te14364793385576792824.symm]
theorem wD (p:Program)(w:World)(s:SharedT)(t:Thread):lH (jD jE) p w s t=stepT (denote treeTable) p w s t:=by rw[show @lH=@stepT from W.Fast.te10156331382660048174.symm,wC]
theorem wF {p:Program}{w:World}{J:Nat}{L:Option Value}:∀(n:Nat) (s:SharedT) (t:Thread),nO p w J L n s t=segRunT treeTable p w J L 1 n s t
 |0,_,_=>rfl
 |n+1,s,t=>by
  unfold nO segRunT;rw[wB,wD]
  cases endAt 1 t with
  |some f=>rfl
  |none=>
   cases stepOk J L t with
   |false=>rfl
   |true=>
    cases stepT (denote treeTable) p w s t with
    |none=>rfl
    |some r=>obtain⟨s',t'⟩:=r;exact wF n s' t'
noncomputable def nQ (tb:String->Option Builtin) (p:Program) (w:World) (J:Nat) (L:Option Value):Nat->SharedT->Thread->Option (SharedT × Thread)
 |0,s,t=>some (s,t)
 |n+1,s,t=>match through t with
  |true=>none
  |false=>match stepOk J L t with
   |false=>none
   |true=>match stepT (denote tb) p w s t with
    |some (s',t')=>nQ tb p w J L n s' t'
    |none=>none
theorem wG {tb:String->Option Builtin}{p:Program}{w:World}{J:Nat}{L:Option Value}:∀{n:Nat}{s s':SharedT}{t t':Thread},nQ tb p w J L n s t=some (s',t')->topGo tb p w J L n s.abs t=some (s'.abs,t')
 |0,s,s',t,t',h=>by
  have h:some (s,t)=some (s',t'):=h
  cases h;rfl
 |n+1,s,s',t,t',h=>by
  unfold nQ at h;unfold topGo
  cases Y:through t with
  |true=>rw[Y] at h;cases h
  |false=>
   rw[Y] at h
   cases hk:stepOk J L t with
   |false=>rw[hk] at h;cases h
   |true=>
    rw[hk] at h
    cases U:stepT (denote tb) p w s t with
    |none=>rw[U] at h;cases h
    |some r=>obtain⟨aa,ab⟩:=r;rw[U] at h;rw[stepT_spec U];exact wG h
noncomputable def pO (p:Program) (w:World) (J:Nat) (L:Option Value):Nat->SharedT->Thread->Option (SharedT × Thread)
 |0,s,t=>some (s,t)
 |n+1,s,t=>match through t with
  |true=>none
  |false=>match nN J L t with
   |false=>none
   |true=>match lH (jD jE) p w s t with
    |some (s',t')=>pO p w J L n s' t'
    |none=>none
theorem wH {p:Program}{w:World}{J:Nat}{L:Option Value}:∀(n:Nat) (s:SharedT) (t:Thread),pO p w J L n s t=nQ treeTable p w J L n s t
 |0,_,_=>rfl
 |n+1,s,t=>by
  unfold pO nQ;rw[wB,wD];simp only[wH n]
noncomputable def pP (p:Program) (w:World) (J:Nat) (L:Option Value) (env:Env) (c:Code) (U:Pos) (l:List Stmt) (k1 k2 k3:Nat) (s:SharedT):Option (Thread × Code × Code × SharedT × Pos):=
 match pO p w J L k1 s (topStub p) with
 |none=>none
 |some (s1,Y)=>match nO p w J L k2 s1 (blockOf (behindTheImports p) env c Y.pos [topFrame U]) with
  |some (.next,s2,c2,p2)=>(match nO p w J L k3 s2 (piecesOf l env c p2 [topFrame U]) with
   |some (.next,s3,c3,p3)=>some (Y,c2,c3,s3,p3)
   |_=>none)
  |_=>none
theorem D8 {p:Program}{w:World}{J:Nat}{L:Option Value}{env:Env}{c:Code}{Y U p3:Pos}{l rest:List Stmt}{k1 k2 k3 N:Nat}{s s3:SharedT}{r:Shared}(hb:behindTheImports p=l++rest)
 (h:pP p w J L env c Y l k1 k2 k3 s=some (⟨jD jE (.body (behindTheImports p) env),c,U,[topFrame Y]⟩,c,c,s3,p3))
 (k:topRun treeTable p w J L N s3.abs (restOf rest env c p3 [topFrame Y])=some r):topRun treeTable p w J L (k1+(k2+(k3+N))) s.abs (topStub p)=some r:=by
 unfold pP at h;split at h
 . cases h
 next s1 t1 e1=>
  split at h
  next s2 c2 p2 e2=>
   split at h
   next aa c3 ab e3=>
    cases h;rw[wH] at e1;rw[wF] at e2 e3;have g1:=wG e1;rw[wC] at g1;have g3:=piece_app (rest:=rest) (segRun_of e3) k;rw[<-hb] at g3;exact go_top g1 (piece_block (segRun_of e2) g3)
   . cases h
  . cases h
noncomputable def sr (P:Params):BT:=(treeOf (boot_heap P).objs.toList 0 .nil).getD .nil
noncomputable def pQ (w:World) (os:OsState):SharedT:=⟨sr w.params,(boot_heap w.params).objs.size,(boot_heap w.params).life,#[],boot_drawn,boot_toks,os⟩
theorem D9 {p q:Program}{loose:List Str}{Xt:Shared->Bool}{α:Type}{Yf:Shared->α}{Ya:World->α}{N:Nat}{g0:Bool}{env:Env}{c:Code}{q0 U p3:Pos}{l rest:List Stmt}{k1 k2 k3 N4 J:Nat}{L:Option Value}{S3:World->OsState->SharedT}
 (e:opening p=plainProg p.main.scope.names) (hN:Nat.ble 600 N=true) (f:∀s,fenceModules? p s=some s) (ab:N=k1+(k2+(k3+N4))) (hb:behindTheImports p=l++rest)
 (b0:∀P:Params,((boot_heap P).isNs mainGlobals,(treeOf (boot_heap P).objs.toList 0 .nil).isSome,(boot_heap P).objs.size,(boot_heap P).nsMap mainGlobals "__annotations__")=(true,true,J,L))
 (Y:∀w os,pP p w J L env c q0 l k1 k2 k3 (pQ w os)=some (⟨jD jE (.body (behindTheImports p) env),c,U,[topFrame q0]⟩,c,c,S3 w os,p3))
 (aa:∀w os,((lI p w J L N4 (S3 w os) (restOf rest env c p3 [topFrame q0])).map λ(s:SharedT)=>looksAt p q loose Xt Yf g0 (boot_heap w.params) s.abs)=some (true,openGood q loose,Ya w)):LeftO p q loose Xt Yf Ya N g0:=λw=>by
 obtain⟨⟨h,gs,d,k,os⟩,e1,e'⟩:=Option.map_eq_some_iff.mp (boot_open e hN f w);obtain⟨rfl,rfl,rfl,rfl⟩:h=boot_heap w.params/\gs=Array.mk []/\d=boot_drawn/\k=boot_toks:=by simpa using e'
 have ac:=b0 w.params;obtain⟨z,y0,hsz,ae⟩:_/\_/\_/\_:=by simpa only[Prod.mk.injEq] using ac
 obtain⟨T,y⟩:=Option.isSome_iff_exists.mp y0;obtain⟨s,r1,r2⟩:=Option.map_eq_some_iff.mp (aa w os);rw[wz] at r1;have r3:=D8 hb (Y w os) (wy r1);rw[<-ab] at r3;have hT:=wx (life:=(boot_heap w.params).life) _ _ _ _ y
 have hS:SharedT.abs (pQ w os)=⟨boot_heap w.params,#[],boot_drawn,boot_toks,os⟩:=by
  unfold SharedT.abs pQ sr;dsimp only;rw[y];dsimp only[Option.getD];rw[Q22,Q1h] at hT;rw[hT];have e0:(absHeap BT.nil 0 (boot_heap w.params).life).objs=#[]:=rfl;rw[e0,Q2q,Array.toArray_toList]
 rw[hS] at r3
 have t:topFrom treeTable p w N ⟨boot_heap w.params,#[],boot_drawn,boot_toks,os⟩=some s.abs:=by
  unfold topFrom;dsimp only;rw[z,hsz,ae,r3];have l1:=congrArg (λz=>z.1) r2;dsimp only[looksAt] at l1;show(match staticsOk (importedModules p.main.body) (boot_heap w.params) s.abs.heap && namesBound p s.abs.heap && gensDone s.abs && laidKept (boot_heap w.params) s.abs.heap with|true=>_|false=>_)=_;rw[l1]
 unfold openEnds;rw[e1];show(topFrom treeTable p w N _).map _=_;rw[t];have l2:=congrArg (λz=>z.2) r2;dsimp only[looksAt] at l2;rw[show @seenQ=@openSeen from W.Fast.te4187177175401517315.symm] at l2;exact congrArg some l2
theorem D_ {p q:Program}{loose:List Str}{Xt:Shared->Bool}{α:Type}{Yf:Shared->α}{Ya:World->α}{g0:Bool}{U J:Nat}{L:Option Value}{Y S5:World->OsState->SharedT}{t:Thread}
 (b:∀w os,lI p w J L U (Y w os) t=some (S5 w os)) (l:∀w os,looksAt p q loose Xt Yf g0 (boot_heap w.params) (S5 w os).abs=(true,openGood q loose,Ya w)):
 ∀w os,((lI p w J L U (Y w os) t).map λ(s:SharedT)=>looksAt p q loose Xt Yf g0 (boot_heap w.params) s.abs)=some (true,openGood q loose,Ya w):=λw os=>by
 rw[b];exact congrArg some (l w os)
theorem Ea {p q:Program}{loose:List Str}{Xt:Shared->Bool}{α:Type}{Yf:Shared->α}{Ya:World->α}{g0:Bool}{J:World->OsState->SharedT}
 (L:∀w os,(staticsOk (importedModules p.main.body) (boot_heap w.params) (J w os).abs.heap && namesBound p (J w os).abs.heap && gensDone (J w os).abs && laidKept (boot_heap w.params) (J w os).abs.heap)=true)
 (U:∀w os,seenQ q loose (importedModules p.main.body) Xt g0 (J w os).abs=openGood q loose) (Y:∀w os,Yf (J w os).abs=Ya w):
 ∀w os,looksAt p q loose Xt Yf g0 (boot_heap w.params) (J w os).abs=(true,openGood q loose,Ya w):=λw os=>Prod.ext (L w os) (Prod.ext (U w os) (Y w os))
end Pb
namespace Pb
open L2
noncomputable section
noncomputable def hF (x q:Str) (s:Stmt) (m:Str) (n c:Nat):Obj:=.mk (.type "function") none (.func (.mk x q (iu s) (.stmts (gJ s)) (dN s) 3 [] .none .none .none (.str m n) none (.ref c) .none 0)) #[]
noncomputable def hR (x q:Str) (s:Stmt):Obj:=.mk .none none (.func (.mk x q (iu s) (.stmts (gJ s)) (dN s) 0 [] .none .none .none .none none .none .none 0)) #[]
noncomputable def hC (x q:Str) (a l n k r e:Nat):Obj:=.mk (.type "code") none (.fields #[.str x a,.str q (a+1),.str (.ofString "/claim/cut.py") (a+2),.int l 0,.int n 0,.int 0 0,.int 0 0,.int k 0,.ref r,.bool true,.int 181 0,.ref (r+1),.none,.ref (r+2),.ref (r+3),.ref (r+4),.int e 0,.int l 0,.str (.ofString "/claim/cut.py") (e+1)]) #[]
noncomputable def nR (x q:Str) (a l n k r e:Nat):Obj:=.mk (.type "code") none (.fields #[.str x a,.str q (a+1),.str (.ofString "/claim/cut.py") (a+2),.int l 0,.int n 0,.int 0 0,.int 0 0,.int k 0,.ref r,.bool true,.int 181 0,.ref (r+1),.none,.none,.none,.ref (r+2),.int e 0,.int l 0,.str (.ofString "/claim/cut.py") (e+1)]) #[]
noncomputable def hK (x:Str) (a l r e:Nat):Obj:=.mk (.type "code") none (.fields #[.str x a,.str x (a+1),.str (.ofString "/claim/cut.py") (a+2),.int l 0,.int 0 0,.int 0 0,.int 0 0,.int 0 0,.ref r,.bool false,.int 181 0,.ref (r+1),.none,.none,.none,.none,.int e 0,.int l 0,.str (.ofString "/claim/cut.py") (e+1)]) #[]
noncomputable def eT (x:Str) (s:Stmt) (m:Str) (n c:Nat):Obj:=hF x x s m n c
noncomputable def eU (x:Str) (s:Stmt):Obj:=hR x x s
noncomputable def fO (x:Str) (a l n k r e:Nat):Obj:=hC x x a l n k r e
noncomputable def kE (x:Str) (a l n k r e:Nat):Obj:=nR x x a l n k r e
noncomputable def tS:Nat->List Str->List Value
 |_,[]=>[]
 |n,x::r=>.str x n::tS (n+1) r
noncomputable def hT (n:Nat) (l:List Str):Obj:=.mk (.type "tuple") none (.seq (tS n l).toArray) #[]
noncomputable def tI:List (Nat × Nat × Nat)->List Value
 |[]=>[]
 |(a,b,c)::r=>.int a 0:: .int b 0:: .ref c::tI r
noncomputable def hI (l:List (Nat × Nat × Nat)):Obj:=.mk .none none (.fields (tI l).toArray) #[]
noncomputable def hE (P:Params) (x:Str) (a:Nat) (v:Value):DictEntry:=.mk (PyData.keyHash P x) (.str x a) v
def hT0:Obj:=hT 0 []
noncomputable def eB:Obj:=.mk .none none (.fields #[]) #[]
noncomputable def pR (a b:Nat) (m:String) (n:Nat):Obj:=.mk (.type "frame") none .plain #[some (.ref a),some (.ref 3),some (.ref b),none,some (.str (.ofString m) n),none,some (.ref 0)]
noncomputable def su (r:Nat):Obj:=.mk (.type "super") none (.fields #[.ref r,.ref r,.ref r]) #[]
noncomputable def hIs (r:Nat):Obj:=.mk (.type "builtin_function_or_method") none (.fields #[.builtin "object.__init_subclass__",.ref r]) #[]
noncomputable def g8:Obj:=.mk (.type "builtin_function_or_method") none (.fields #[.builtin "type.__prepare__",.type "type"]) #[]
noncomputable def Eb (r:Nat):Obj:=.mk (.type "tuple") none (.seq #[.ref r]) #[]
noncomputable def Ec:Str:="__main__"
noncomputable def Ed:Str:="putback.errors"
noncomputable def Ee:Str:="putback.kinds"
noncomputable def ib:Str:="putback.signs"
noncomputable def k5:Str:="putback.kindnotes"
noncomputable def gT:Str:="law_putback_k67_values_written"
noncomputable def Lx (x q:Str) (s:Stmt) (m:Value) (c:Nat):Obj:=.mk (.type "function") none (.func (.mk x q (iu s) (.stmts (gJ s)) (dN s) 3 [] .none .none .none m none (.ref c) .none 0)) #[]
noncomputable def Ly (x q:Str) (a l n k r f b e:Nat):Obj:=.mk (.type "code") none (.fields #[.str x a,.str q (a+1),.str (.ofString "/claim/cut.py") (a+2),.int l 0,.int n 0,.int 0 0,.int 0 0,.int k 0,.ref r,.bool true,.int f 0,.ref (r+1),.none,.ref (r+2),.ref (r+3),.ref (r+4),.int b 0,.int l 0,.str (.ofString "/claim/cut.py") e]) #[]
noncomputable def Lz (P:Params) (x:Str) (a:Nat) (v:Value):DictEntry:=.mk (PyData.keyHash P x) (.str x a) v
noncomputable def Ef:Obj:=.mk .none none (.dict #[]) #[]
noncomputable def wI (P:Params):Obj:=.mk (.type "dict") none (.dict #[hE P "__name__" 165 (.str (.ofString "law_putback_k67_values_written") 495),hE P "__doc__" 166 .none,hE P "__package__" 167 .none,hE P "__loader__" 168 (.builtin "__main__.__loader__#opaque"),hE P "__spec__" 169 .none,hE P "__annotations__" 170 (.ref 6),hE P "__builtins__" 171 (.ref 4),hE P "__file__" 173 (.str (.ofString "/claim/cut.py") 172),hE P "__cached__" 174 .none,hE P "_wall" 193 (.ref 21),hE P "ViewError" 213 (.ref 31),hE P "NoText" 238 (.ref 51),hE P "kind_at" 249 (.ref 60),hE P "MARKS" 253 (.str (.ofString "{}[]()<>:,") 252),hE P "MOST_LETTERS" 255 (.int 12 254),hE P "MOST_FIGURES" 257 (.int 80 256),hE P "MOST_SIGNS" 259 (.int 40 258),hE P "pieces_of" 268 (.ref 67),hE P "piece_at" 277 (.ref 74),hE P "no_piece" 285 (.ref 81),hE P "run_end" 296 (.ref 88),hE P "word_at" 305 (.ref 95),hE P "name_at" 314 (.ref 102),hE P "number_at" 324 (.ref 109),hE P "Reader" 425 (.ref 182),hE P "read_value" 437 (.ref 193),hE P "told_value" 447 (.ref 200),hE P "told_record" 459 (.ref 207),hE P "told_tree" 470 (.ref 214),hE P "told_either" 476 (.ref 219),hE P "written_value" 482 (.ref 224),hE P "written_record" 488 (.ref 229),hE P "written_tree" 494 (.ref 234),hE P "_law_next" 506 (.ref 241),hE P "_law_number" 516 (.ref 248),hE P "_law_word" 530 (.ref 255),hE P "_law_names" 548 (.ref 262),hE P "_law_plain" 556 (.ref 269),hE P "_law_fields" 562 (.ref 274),hE P "_law_rows_kind" 580 (.ref 281),hE P "_law_kind" 590 (.ref 288),hE P "_law_rank" 598 (.ref 295),hE P "_law_rows" 613 (.ref 302),hE P "_law_value" 619 (.ref 307),hE P "_law_same" 625 (.ref 312),hE P "_law_joined" 635 (.ref 319),hE P "_law_loose" 650 (.ref 326),hE P "_law_record_pieces" 661 (.ref 333),hE P "_law_many_pieces" 672 (.ref 340),hE P "_law_value_pieces" 678 (.ref 345),hE P "_law_turned" 684 (.ref 350),hE P "law" 701 (.ref 357)] 52) #[]
def wJ:Obj:=fO "_wall" 187 1 1 3 15 191
def wK:Obj:=eT "_wall" (top 0) Ec 164 20
noncomputable def wM (P:Params):Obj:=.mk (.type "dict") none (.dict #[hE P "__module__" 203 (.str (.ofString "putback.errors") 194),hE P "__firstlineno__" 207 (.int 5 206),hE P "__static_attributes__" 208 (.ref 29),hE P "__weakref__" 210 (.ref 32),hE P "__doc__" 211 .none] 3) #[]
noncomputable def wN:Obj:=.mk (.type "type") none (.cls (.mk (.ofString "ViewError") [.type "ValueError"] [.ref 31,.type "ValueError",.type "Exception",.type "BaseException",.type "object"] 30 (.ofString "ViewError") true [] [.ref 51] false none false)) #[some (.ref 22),none,some (.str (.ofString "ViewError") 196),some (.str (.ofString "ViewError") 204),some (.builtin "ValueError.__new__"),some (.bool true)]
noncomputable def wO:Obj:=.mk (.type "getset_descriptor") none (.fields #[.str (.ofString "__weakref__") 209,.ref 31,.builtin "ExceptionGroup.__weakref__",.none]) #[]
def wQ:Obj:=hC "__init__" "NoText.__init__" 226 9 2 3 42 231
def wR:Obj:=hF "__init__" "NoText.__init__" (dU 3 0) Ed 194 47
noncomputable def wU (P:Params):Obj:=.mk (.type "dict") none (.dict #[hE P "__module__" 221 (.str (.ofString "putback.errors") 194),hE P "__firstlineno__" 225 (.int 7 224),hE P "__init__" 233 (.ref 48),hE P "__static_attributes__" 235 (.ref 49),hE P "__doc__" 236 .none] 2) #[]
noncomputable def wV:Obj:=.mk (.type "type") none (.cls (.mk (.ofString "NoText") [.ref 31] [.ref 51,.ref 31,.type "ValueError",.type "Exception",.type "BaseException",.type "object"] 50 (.ofString "NoText") true [] [] false none false)) #[some (.ref 35),none,some (.str (.ofString "NoText") 214),some (.str (.ofString "NoText") 222),some (.builtin "ValueError.__new__"),some (.bool true)]
def wW:Obj:=fO "kind_at" 241 12 2 3 54 247
def wX:Obj:=eT "kind_at" (top 5) Ee 239 59
def wY:Obj:=fO "pieces_of" 260 22 1 3 61 266
def wZ:Obj:=eT "pieces_of" (top 11) ib 250 66
def w5:Obj:=fO "piece_at" 269 33 2 3 68 275
def w_:Obj:=eT "piece_at" (top 12) ib 250 73
def xa:Obj:=fO "no_piece" 278 42 2 3 75 283
def xb:Obj:=eT "no_piece" (top 13) ib 250 80
def xc:Obj:=fO "run_end" 286 44 4 3 82 294
def xf:Obj:=eT "run_end" (top 14) ib 250 87
def xg:Obj:=fO "word_at" 297 49 2 3 89 303
def xh:Obj:=eT "word_at" (top 15) ib 250 94
def xi:Obj:=fO "name_at" 306 54 2 3 96 312
def xj:Obj:=eT "name_at" (top 16) ib 250 101
def xl:Obj:=fO "number_at" 315 59 2 3 103 322
def xm:Obj:=eT "number_at" (top 17) ib 250 108
def xn:Obj:=hC "__init__" "Reader.__init__" 337 69 2 3 117 342
def xo:Obj:=hF "__init__" "Reader.__init__" (dU 18 0) ib 250 122
def xp:Obj:=hC "is_at" "Reader.is_at" 345 73 3 3 124 352
def xq:Obj:=hF "is_at" "Reader.is_at" (dU 18 1) ib 250 129
def xr:Obj:=hC "is_of" "Reader.is_of" 355 77 2 3 131 360
def xt:Obj:=hF "is_of" "Reader.is_of" (dU 18 2) ib 250 136
def xu:Obj:=hC "taken" "Reader.taken" 363 80 2 3 138 369
def xv:Obj:=hF "taken" "Reader.taken" (dU 18 3) ib 250 143
def xw:Obj:=hC "taken_among" "Reader.taken_among" 372 87 2 3 145 378
def xx:Obj:=hF "taken_among" "Reader.taken_among" (dU 18 4) ib 250 150
def xy:Obj:=hC "passed" "Reader.passed" 381 93 3 3 152 387
def xA:Obj:=hF "passed" "Reader.passed" (dU 18 5) ib 250 157
def xB:Obj:=hC "pass_mark" "Reader.pass_mark" 390 99 2 3 159 395
def xC:Obj:=hF "pass_mark" "Reader.pass_mark" (dU 18 6) ib 250 164
def xD:Obj:=hC "ask_end" "Reader.ask_end" 398 103 1 3 166 402
def xE:Obj:=hF "ask_end" "Reader.ask_end" (dU 18 7) ib 250 171
def xF:Obj:=hC "listed" "Reader.listed" 405 107 4 3 173 413
def xG:Obj:=hF "listed" "Reader.listed" (dU 18 8) ib 250 178
noncomputable def xH (P:Params):Obj:=.mk (.type "dict") none (.dict #[hE P "__module__" 332 (.str (.ofString "putback.signs") 250),hE P "__firstlineno__" 336 (.int 67 335),hE P "__init__" 344 (.ref 123),hE P "is_at" 354 (.ref 130),hE P "is_of" 362 (.ref 137),hE P "taken" 371 (.ref 144),hE P "taken_among" 380 (.ref 151),hE P "passed" 389 (.ref 158),hE P "pass_mark" 397 (.ref 165),hE P "ask_end" 404 (.ref 172),hE P "listed" 415 (.ref 179),hE P "__static_attributes__" 418 (.ref 180),hE P "__dict__" 420 (.ref 183),hE P "__weakref__" 422 (.ref 184),hE P "__doc__" 423 .none] 4) #[]
noncomputable def xI:Obj:=.mk (.type "type") none (.cls (.mk (.ofString "Reader") [.type "object"] [.ref 182,.type "object"] 181 (.ofString "Reader") true [] [] false none false)) #[none,none,some (.str (.ofString "Reader") 325),some (.str (.ofString "Reader") 333),some (.builtin "object.__new__"),some (.bool true)]
noncomputable def xJ:Obj:=.mk (.type "getset_descriptor") none (.fields #[.str (.ofString "__dict__") 419,.ref 182,.builtin "function.__dict__",.builtin "function.__dict__#set"]) #[]
noncomputable def xK:Obj:=.mk (.type "getset_descriptor") none (.fields #[.str (.ofString "__weakref__") 421,.ref 182,.builtin "ExceptionGroup.__weakref__",.none]) #[]
def xM:Obj:=fO "read_value" 428 117 2 3 187 435
def xN:Obj:=eT "read_value" (top 20) k5 426 192
def xO:Obj:=fO "told_value" 438 122 2 3 194 445
def xP:Obj:=eT "told_value" (top 21) k5 426 199
def xQ:Obj:=fO "told_record" 448 133 2 3 201 457
def xR:Obj:=eT "told_record" (top 22) k5 426 206
def xS:Obj:=fO "told_tree" 460 144 2 3 208 468
def xT:Obj:=eT "told_tree" (top 23) k5 426 213
def xU:Obj:=kE "told_either" 471 154 2 3 215 474
def xV:Obj:=eT "told_either" (top 24) k5 426 218
def xW:Obj:=kE "written_value" 477 160 2 3 220 480
def xX:Obj:=eT "written_value" (top 25) k5 426 223
def xY:Obj:=kE "written_record" 483 173 2 3 225 486
def xZ:Obj:=eT "written_record" (top 26) k5 426 228
def x_:Obj:=kE "written_tree" 489 175 2 3 230 492
def ya:Obj:=eT "written_tree" (top 27) k5 426 233
def yb:Obj:=fO "_law_next" 497 181 2 3 235 504
def yc:Obj:=eT "_law_next" (top 29) gT 495 240
def yd:Obj:=fO "_law_number" 507 188 2 3 242 514
def ye:Obj:=eT "_law_number" (top 30) gT 495 247
def yf:Obj:=fO "_law_word" 517 196 2 3 249 528
def yg:Obj:=eT "_law_word" (top 31) gT 495 254
def yh:Obj:=fO "_law_names" 531 208 3 3 256 546
def yi:Obj:=eT "_law_names" (top 32) gT 495 261
def yj:Obj:=fO "_law_plain" 549 228 2 3 263 554
def yk:Obj:=eT "_law_plain" (top 33) gT 495 268
def yl:Obj:=kE "_law_fields" 557 232 4 3 270 560
def ym:Obj:=eT "_law_fields" (top 34) gT 495 273
def yn:Obj:=fO "_law_rows_kind" 563 235 4 3 275 578
def yo:Obj:=eT "_law_rows_kind" (top 35) gT 495 280
def yp:Obj:=fO "_law_kind" 581 250 3 3 282 588
def yq:Obj:=eT "_law_kind" (top 36) gT 495 287
def yr:Obj:=fO "_law_rank" 591 261 2 3 289 596
def yt:Obj:=eT "_law_rank" (top 37) gT 495 294
def yu:Obj:=fO "_law_rows" 599 265 4 3 296 611
def yw:Obj:=eT "_law_rows" (top 38) gT 495 301
def yx:Obj:=kE "_law_value" 614 274 4 3 303 617
def yy:Obj:=eT "_law_value" (top 39) gT 495 306
def yz:Obj:=kE "_law_same" 620 292 2 3 308 623
def yA:Obj:=eT "_law_same" (top 40) gT 495 311
def yB:Obj:=fO "_law_joined" 626 306 1 3 313 633
def yC:Obj:=eT "_law_joined" (top 41) gT 495 318
def yD:Obj:=fO "_law_loose" 636 316 3 3 320 648
def yE:Obj:=eT "_law_loose" (top 42) gT 495 325
def yF:Obj:=fO "_law_record_pieces" 651 328 2 3 327 659
def yG:Obj:=eT "_law_record_pieces" (top 43) gT 495 332
def yH:Obj:=fO "_law_many_pieces" 662 335 2 3 334 670
def yI:Obj:=eT "_law_many_pieces" (top 44) gT 495 339
def yJ:Obj:=kE "_law_value_pieces" 673 342 2 3 341 676
def yK:Obj:=eT "_law_value_pieces" (top 45) gT 495 344
def yL:Obj:=kE "_law_turned" 679 358 2 3 346 682
def yM:Obj:=eT "_law_turned" (top 46) gT 495 349
def yN:Obj:=fO "law" 685 372 1 3 351 699
def yO:Obj:=eT "law" (top 47) gT 495 356
noncomputable def Eg (P:Params):Obj:=.mk (.type "dict") none (.dict #[hE P "__name__" 165 (.str (.ofString "putback.signs") 250),hE P "__doc__" 166 .none,hE P "__package__" 167 .none,hE P "__loader__" 168 (.builtin "__main__.__loader__#opaque"),hE P "__spec__" 169 .none,hE P "__annotations__" 170 (.ref 6),hE P "__builtins__" 171 (.ref 4),hE P "__file__" 173 (.str (.ofString "/claim/cut.py") 172),hE P "__cached__" 174 .none,hE P "_wall" 193 (.ref 21),hE P "ViewError" 213 (.ref 31),hE P "NoText" 238 (.ref 51),hE P "kind_at" 249 (.ref 60),hE P "MARKS" 253 (.str (.ofString "{}[]()<>:,") 252),hE P "MOST_LETTERS" 255 (.int 12 254),hE P "MOST_FIGURES" 257 (.int 80 256),hE P "MOST_SIGNS" 259 (.int 40 258),hE P "pieces_of" 268 (.ref 67),hE P "piece_at" 277 (.ref 74),hE P "no_piece" 285 (.ref 81),hE P "run_end" 296 (.ref 88),hE P "word_at" 305 (.ref 95),hE P "name_at" 314 (.ref 102),hE P "number_at" 324 (.ref 109),hE P "Reader" 425 (.ref 182)] 25) #[]
noncomputable def Eh (P:Params):List Obj:=hT0::hI [(1,0,20),(5,0,27),(7,0,40),(12,0,59),(22,0,66),(33,0,73),(42,0,80),(44,0,87),(49,0,94),(54,0,101),(59,0,108),(67,0,115)]::hK "<module>" 182 1 11 185::pR 13 3 "__main__" 164::hT0::eB::hT 190 ["k"]::hT0::eU "_wall" (top 0)::wJ::wK:: .mk (.type "tuple") none (.seq #[.type "ValueError"]) #[]::g8:: .mk (.type "dict") none (.dict #[hE P "__module__" 203 (.str (.ofString "putback.errors") 194),hE P "__qualname__" 205 (.str (.ofString "ViewError") 204),hE P "__firstlineno__" 207 (.int 5 206),hE P "__static_attributes__" 208 (.ref 29)] 4) #[]::hT0::eB::hK "ViewError" 198 5 25 201::pR 27 24 "putback.errors" 194::hT0::wM P::wN::wO::su 31::hIs 31::Eb 31::g8:: .mk (.type "dict") none (.dict #[hE P "__module__" 221 (.str (.ofString "putback.errors") 194),hE P "__qualname__" 223 (.str (.ofString "NoText") 222),hE P "__firstlineno__" 225 (.int 7 224),hE P "__init__" 233 (.ref 48),hE P "__static_attributes__" 235 (.ref 49)] 5) #[]::hT0::hI [(9,4,47)]::hK "NoText" 216 7 38 219::pR 40 37 "putback.errors" 194::hT0::eB::hT 229 ["self","place"]::hT0::hR "__init__" "NoText.__init__" (dU 3 0)::wQ::wR::hT 234 ["place"]::wU P::wV::su 51::hIs 51::hT0::eB::hT 244 ["fields","name","pair"]::hT0::eU "kind_at" (top 5)::wW::wX::hT0::eB::hT 263 ["text","pieces","place"]::hT0::eU "pieces_of" (top 11)::wY::wZ::hT0::eB::hT 272 ["text","place","sign"]::hT0::eU "piece_at" (top 12)::w5::w_::hT0::eB::hT 281 ["text","place"]::hT0::eU "no_piece" (top 13)::xa::xb::hT0::eB::hT 289 ["text","place","least","most","end"]::hT0::eU "run_end" (top 14)::xc::xf::hT0::eB::hT 300 ["text","place","end"]::hT0::eU "word_at" (top 15)::xg::xh::hT0::eB::hT 309 ["text","place","end"]::hT0::eU "name_at" (top 16)::xi::xj::hT0::eB::hT 318 ["text","place","first","end"]::hT0::eU "number_at" (top 17)::xl::xm::hT0::g8:: .mk (.type "dict") none (.dict #[hE P "__module__" 332 (.str (.ofString "putback.signs") 250),hE P "__qualname__" 334 (.str (.ofString "Reader") 333),hE P "__firstlineno__" 336 (.int 67 335),hE P "__init__" 344 (.ref 123),hE P "is_at" 354 (.ref 130),hE P "is_of" 362 (.ref 137),hE P "taken" 371 (.ref 144),hE P "taken_among" 380 (.ref 151),hE P "passed" 389 (.ref 158),hE P "pass_mark" 397 (.ref 165),hE P "ask_end" 404 (.ref 172),hE P "listed" 415 (.ref 179),hE P "__static_attributes__" 418 (.ref 180)] 13) #[]::hT0::hI [(69,4,122),(73,4,129),(77,4,136),(80,4,143),(87,4,150),(93,4,157),(99,4,164),(103,4,171),(107,4,178)]::hK "Reader" 327 67 113 330::pR 115 112 "putback.signs" 250::hT0::eB::hT 340 ["self","text"]::hT0::hR "__init__" "Reader.__init__" (dU 18 0)::xn::xo::hT0::eB::hT 348 ["self","sort","thing","piece"]::hT0::hR "is_at" "Reader.is_at" (dU 18 1)::xp::xq::hT0::eB::hT 358 ["self","sort"]::hT0::hR "is_of" "Reader.is_of" (dU 18 2)::xr::xt::hT0::eB::hT 366 ["self","sort","piece"]::hT0::hR "taken" "Reader.taken" (dU 18 3)::xu::xv::hT0::eB::hT 375 ["self","names","piece"]::hT0::hR "taken_among" "Reader.taken_among" (dU 18 4)::xw::xx::hT0::eB::hT 384 ["self","sort","thing"]::hT0::hR "passed" "Reader.passed" (dU 18 5)::xy::xA::hT0::eB::hT 393 ["self","mark"]::hT0::hR "pass_mark" "Reader.pass_mark" (dU 18 6)::xB::xC::hT0::eB::hT 401 ["self"]::hT0::hR "ask_end" "Reader.ask_end" (dU 18 7)::xD::xE::hT0::eB::hT 408 ["self","first","last","read_one","things"]::hT0::hR "listed" "Reader.listed" (dU 18 8)::xF::xG::hT 416 ["pieces","reached"]::xH P::xI::xJ::xK::su 182::hIs 182::[]
noncomputable def endL (P:Params):List Obj:=hT0::eB::hT 431 ["kind","text","reader","value"]::hT0::eU "read_value" (top 20)::xM::xN::hT0::eB::hT 441 ["reader","kind","form"]::hT 444 ["kind"]::eU "told_value" (top 21)::xO::xP::hT0::eB::hT 451 ["reader","fields","record","number","pair","name"]::hT0::eU "told_record" (top 22)::xQ::xR::hT0::eB::hT 463 ["reader","kind","value","arms","mark"]::hT0::eU "told_tree" (top 23)::xS::xT::hT0::eB::eU "told_either" (top 24)::xU::xV::hT0::eB::eU "written_value" (top 25)::xW::xX::hT0::eB::eU "written_record" (top 26)::xY::xZ::hT0::eB::eU "written_tree" (top 27)::x_::ya::hT0::eB::hT 500 ["_law_script","_law_at","_law_cell","_law_m"]::hT0::eU "_law_next" (top 29)::yb::yc::hT0::eB::hT 510 ["_law_script","_law_at","_law_m","_law_cell"]::hT0::eU "_law_number" (top 30)::yd::ye::hT0::eB::hT 520 ["_law_script","_law_at","_law_signs","_law_m","_law_many","_law_word_here","_law_k","_law_place"]::hT0::eU "_law_word" (top 31)::yf::yg::hT0::eB::hT 534 ["_law_script","_law_at","_law_many","_law_letters","_law_words","_law_m","_law_step","_law_stem","_law_cut","_law_names_here","_law_k","_law_sign"]::hT0::eU "_law_names" (top 32)::yh::yi::hT0::eB::hT 552 ["_law_script","_law_at"]::hT0::eU "_law_plain" (top 33)::yj::yk::hT0::eB::eU "_law_fields" (top 34)::yl::ym::hT0::eB::hT 566 ["_law_script","_law_at","_law_many","_law_deep","_law_names_here","_law_m","_law_lead","_law_by","_law_fields_here","_law_k","_law_kind_here","_law_name"]::hT0::eU "_law_rows_kind" (top 35)::yn::yo::hT0::eB::hT 584 ["_law_script","_law_at","_law_deep","_law_m"]::hT0::eU "_law_kind" (top 36)::yp::yq::hT0::eB::hT 594 ["_law_kind_here","_law_row"]::hT0::eU "_law_rank" (top 37)::yr::yt::hT0::eB::hT 602 ["_law_script","_law_at","_law_kind_here","_law_room","_law_rows_here","_law_seen","_law_k","_law_row"]::hT 610 ["_law_kind_here"]::eU "_law_rows" (top 38)::yu::yw::hT0::eB::eU "_law_value" (top 39)::yx::yy::hT0::eB::eU "_law_same" (top 40)::yz::yA::hT0::eB::hT 629 ["_law_pieces","_law_text","_law_k","_law_piece"]::hT0::eU "_law_joined" (top 41)::yB::yC::hT0::eB::hT 639 ["_law_script","_law_at","_law_pieces","_law_letters","_law_text","_law_places","_law_k","_law_piece","_law_many"]::hT0::eU "_law_loose" (top 42)::yD::yE::hT0::eB::hT 654 ["_law_fields_here","_law_value_here","_law_pieces","_law_k","_law_pair"]::hT0::eU "_law_record_pieces" (top 43)::yF::yG::hT0::eB::hT 665 ["_law_kind_here","_law_values","_law_pieces","_law_k","_law_value_here"]::hT0::eU "_law_many_pieces" (top 44)::yH::yI::hT0::eB::eU "_law_value_pieces" (top 45)::yJ::yK::hT0::eB::eU "_law_turned" (top 46)::yL::yM::hT0::eB::hT 688 ["_law_script","_law_at","_law_turn","_law_m","_law_kind_here","_law_value_here","_law_pieces","_law_due","_law_found","_law_loose_here","_law_turned_value"]::hT0::eU "law" (top 47)::yN::yO::[]
noncomputable def Ei (P:Params):List (Nat × Obj):=(nat_lit 3,wI P)::(nat_lit 12,hI [(1,0,20),(5,0,27),(7,0,40),(12,0,59),(22,0,66),(33,0,73),(42,0,80),(44,0,87),(49,0,94),(54,0,101),(59,0,108),(67,0,115),(117,0,192),(122,0,199),(133,0,206),(144,0,213),(154,0,218),(160,0,223),(173,0,228),(175,0,233),(181,0,240),(188,0,247),(196,0,254),(208,0,261),(228,0,268),(232,0,273),(235,0,280),(250,0,287),(261,0,294),(265,0,301),(274,0,306),(292,0,311),(306,0,318),(316,0,325),(328,0,332),(335,0,339),(342,0,344),(358,0,349),(372,0,356)])::[]
end
noncomputable def KK:PySem.Params->W.Frag:=λP=>(nat_lit 2,Ef)::(nat_lit 3,wI P)::(nat_lit 20,wJ)::(nat_lit 21,wK)::(nat_lit 30,wM P)::(nat_lit 31,wN)::(nat_lit 32,wO)::(nat_lit 47,wQ)::(nat_lit 48,wR)::(nat_lit 50,wU P)::(nat_lit 51,wV)::(nat_lit 59,wW)::(nat_lit 60,wX)::(nat_lit 66,wY)::(nat_lit 67,wZ)::(nat_lit 73,w5)::(nat_lit 74,w_)::(nat_lit 80,xa)::(nat_lit 81,xb)::(nat_lit 87,xc)::(nat_lit 88,xf)::(nat_lit 94,xg)::(nat_lit 95,xh)::(nat_lit 101,xi)::(nat_lit 102,xj)::(nat_lit 108,xl)::(nat_lit 109,xm)::(nat_lit 122,xn)::(nat_lit 123,xo)::(nat_lit 129,xp)::(nat_lit 130,xq)::(nat_lit 136,xr)::(nat_lit 137,xt)::(nat_lit 143,xu)::(nat_lit 144,xv)::(nat_lit 150,xw)::(nat_lit 151,xx)::(nat_lit 157,xy)::(nat_lit 158,xA)::(nat_lit 164,xB)::(nat_lit 165,xC)::(nat_lit 171,xD)::(nat_lit 172,xE)::(nat_lit 178,xF)::(nat_lit 179,xG)::(nat_lit 181,xH P)::(nat_lit 182,xI)::(nat_lit 183,xJ)::(nat_lit 184,xK)::(nat_lit 192,xM)::(nat_lit 193,xN)::(nat_lit 199,xO)::(nat_lit 200,xP)::(nat_lit 206,xQ)::(nat_lit 207,xR)::(nat_lit 213,xS)::(nat_lit 214,xT)::(nat_lit 218,xU)::(nat_lit 219,xV)::(nat_lit 223,xW)::(nat_lit 224,xX)::(nat_lit 228,xY)::(nat_lit 229,xZ)::(nat_lit 233,x_)::(nat_lit 234,ya)::(nat_lit 240,yb)::(nat_lit 241,yc)::(nat_lit 247,yd)::(nat_lit 248,ye)::(nat_lit 254,yf)::(nat_lit 255,yg)::(nat_lit 261,yh)::(nat_lit 262,yi)::(nat_lit 268,yj)::(nat_lit 269,yk)::(nat_lit 273,yl)::(nat_lit 274,ym)::(nat_lit 280,yn)::(nat_lit 281,yo)::(nat_lit 287,yp)::(nat_lit 288,yq)::(nat_lit 294,yr)::(nat_lit 295,yt)::(nat_lit 301,yu)::(nat_lit 302,yw)::(nat_lit 306,yx)::(nat_lit 307,yy)::(nat_lit 311,yz)::(nat_lit 312,yA)::(nat_lit 318,yB)::(nat_lit 319,yC)::(nat_lit 325,yD)::(nat_lit 326,yE)::(nat_lit 332,yF)::(nat_lit 333,yG)::(nat_lit 339,yH)::(nat_lit 340,yI)::(nat_lit 344,yJ)::(nat_lit 345,yK)::(nat_lit 349,yL)::(nat_lit 350,yM)::(nat_lit 356,yN)::(nat_lit 357,yO)::[]
noncomputable def k7:List Nat:=nat_lit 2::nat_lit 3::nat_lit 20::nat_lit 21::nat_lit 30::nat_lit 31::nat_lit 32::nat_lit 47::nat_lit 48::nat_lit 50::nat_lit 51::nat_lit 59::nat_lit 60::nat_lit 66::nat_lit 67::nat_lit 73::nat_lit 74::nat_lit 80::nat_lit 81::nat_lit 87::nat_lit 88::nat_lit 94::nat_lit 95::nat_lit 101::nat_lit 102::nat_lit 108::nat_lit 109::nat_lit 122::nat_lit 123::nat_lit 129::nat_lit 130::nat_lit 136::nat_lit 137::nat_lit 143::nat_lit 144::nat_lit 150::nat_lit 151::nat_lit 157::nat_lit 158::nat_lit 164::nat_lit 165::nat_lit 171::nat_lit 172::nat_lit 178::nat_lit 179::nat_lit 181::nat_lit 182::nat_lit 183::nat_lit 184::nat_lit 192::nat_lit 193::nat_lit 199::nat_lit 200::nat_lit 206::nat_lit 207::nat_lit 213::nat_lit 214::nat_lit 218::nat_lit 219::nat_lit 223::nat_lit 224::nat_lit 228::nat_lit 229::nat_lit 233::nat_lit 234::nat_lit 240::nat_lit 241::nat_lit 247::nat_lit 248::nat_lit 254::nat_lit 255::nat_lit 261::nat_lit 262::nat_lit 268::nat_lit 269::nat_lit 273::nat_lit 274::nat_lit 280::nat_lit 281::nat_lit 287::nat_lit 288::nat_lit 294::nat_lit 295::nat_lit 301::nat_lit 302::nat_lit 306::nat_lit 307::nat_lit 311::nat_lit 312::nat_lit 318::nat_lit 319::nat_lit 325::nat_lit 326::nat_lit 332::nat_lit 333::nat_lit 339::nat_lit 340::nat_lit 344::nat_lit 345::nat_lit 349::nat_lit 350::nat_lit 356::nat_lit 357::[]
noncomputable def yP (P:PySem.Params):W.BT:=so 11 (Eh P) ((sr P).ins 3 (Eg P))
noncomputable def Ej (P:PySem.Params):W.BT:=wA (Ei P) (so 187 (endL P) (yP P))
noncomputable def qv:PySem.Program:={ PySem.Challenge.pw_putback_k67_values_written with main:={ (PySem.Challenge.pw_putback_k67_values_written).main with body:=top 0::top 2::top 3::top 5::top 7::top 8::top 9::top 10::top 11::top 12::top 13::top 14::top 15::top 16::top 17::top 18::top 20::top 21::top 22::top 23::top 24::top 25::top 26::top 27::top 29::top 30::top 31::top 32::top 33::top 34::top 35::top 36::top 37::top 38::top 39::top 40::top 41::top 42::top 43::top 44::top 45::top 46::top 47::[] } }
theorem lJ (P:PySem.Params):k7=(KK P).map (·.1):=by kernel_rfl
noncomputable def yQ (w:PySem.World) (os:PySem.OsState):W.SharedT:=⟨yP w.params,187,(W.boot_heap w.params).life,#[],W.boot_drawn,426,os⟩
noncomputable def lK (w:PySem.World) (os:PySem.OsState):W.SharedT:=⟨Ej w.params,358,(W.boot_heap w.params).life,#[],W.boot_drawn,702,os⟩
noncomputable def sx:List PySem.Stmt:=W.behindTheImports (W.OpenLaw.row PySem.Challenge.rw_putback_k67_values_written).prog
noncomputable def pS:PySem.Env:={ scope:=((W.OpenLaw.row PySem.Challenge.rw_putback_k67_values_written).prog).main.scope,locals:=PySem.mainNs,globals:=PySem.mainNs,cells:=[],code:=.ref 13,frame:=some 14 }
noncomputable def nS:PySem.Code:=.body (W.behindTheImports (W.OpenLaw.row PySem.Challenge.rw_putback_k67_values_written).prog) pS
open W PyProof.Rows in
theorem El:∀w os,pP (W.OpenLaw.row PySem.Challenge.rw_putback_k67_values_written).prog w 11 (some (.ref 6)) pS nS ⟨0,0,0,0⟩ (sx.take 19) 12 1 5000 (pQ w os)=some (⟨jD jE (.body (behindTheImports (W.OpenLaw.row PySem.Challenge.rw_putback_k67_values_written).prog) pS),nS,⟨0,0,0,0⟩,[topFrame ⟨0,0,0,0⟩]⟩,nS,nS,yQ w os,⟨67,0,115,21⟩):=by
 intro w os
 kernel_rfl
open W PyProof.Rows in
theorem Em:∀w os,lI (W.OpenLaw.row PySem.Challenge.rw_putback_k67_values_written).prog w 11 (some (.ref 6)) 6000 (yQ w os) (restOf (sx.drop 19) pS nS ⟨67,0,115,21⟩ [topFrame ⟨0,0,0,0⟩])=some (lK w os):=by
 intro w os
 kernel_rfl
open W PyProof.Rows in
theorem En:∀w os,(staticsOk (importedModules ((W.OpenLaw.row PySem.Challenge.rw_putback_k67_values_written).prog).main.body) (boot_heap w.params) (lK w os).abs.heap && namesBound (W.OpenLaw.row PySem.Challenge.rw_putback_k67_values_written).prog (lK w os).abs.heap && gensDone (lK w os).abs && laidKept (boot_heap w.params) (lK w os).abs.heap)=true:=by
 intro w os
 kernel_rfl
open W PyProof.Rows in
theorem Eo:∀w os,seenQ qv [] (importedModules ((W.OpenLaw.row PySem.Challenge.rw_putback_k67_values_written).prog).main.body) (λs=>xlAt qv [] s && recOk (RowW.records (W.OpenRow.toRowW (W.OpenLaw.row PySem.Challenge.rw_putback_k67_values_written))) s) true (lK w os).abs=openGood qv []:=by
 intro w os
 kernel_rfl
open W PyProof.Rows in
theorem Ep:∀w os,Hook.obs (W.kmHook Pb.KK Pb.k7 Pb.lJ [297,352]) (lK w os).abs=Hook.val (W.kmHook Pb.KK Pb.k7 Pb.lJ [297,352]) w:=by
 intro w os
 kernel_rfl
open W PyProof.Rows in
theorem said:PySem.Challenge.rw_putback_k67_values_written.wellSaid=true:=by
 delta OpenLaw.wellSaid OpenRow.wellSaid OpenRow.partSaid looksOpen
 repeat' (with_reducible refine look_both ?_ ?_)
 all_goals kernel_rfl
end Pb
namespace L2
open Spec PyProof.Rows
noncomputable abbrev Key:=Sum Int Str
noncomputable def lL:Key->Value->Bool
 | .inl k,v=>Value.isInt k v
 | .inr x,v=>Value.isStrOf x v
noncomputable def Er (w:World):Key->Int
 | .inl k=>hashInt k
 | .inr x=>hashStr w x
theorem jY:∀{k:Key}{v:Value},lL k v=true->(∃i t,k=Sum.inl i/\v=Value.int i t)\/(∃x t,k=Sum.inr x/\v=Value.str x t)
 | .inl i,v,h=>by
   obtain⟨t,e⟩:=Value.isInt_shape (k:=i) (v:=v) h;exact .inl ⟨i,t,rfl,e⟩
 | .inr x,v,h=>by
   obtain⟨t,e⟩:=Value.isStrOf_shape (x:=x) (v:=v) h;exact .inr ⟨x,t,rfl,e⟩
theorem Es (i:Int)(t:Tok):lL (.inl i) (.int i t)=true:=by simp[lL,Value.isInt]
theorem Et (x:Str)(t:Tok):lL (.inr x) (.str x t)=true:=by simp[lL,Value.isStrOf]
theorem Eu (a b:Int):decide ((Sum.inl a:Key)=Sum.inl b)=(a == b):=by
 by_cases e:a=b
 . subst e;simp
 . have h:¬(Sum.inl a:Key)=Sum.inl b:=λq=>e (Sum.inl.inj q);rw[decide_eq_false h];exact(beq_eq_false_iff_ne.mpr e).symm
theorem Ew (a b:Str):decide ((Sum.inr a:Key)=Sum.inr b)=decide (a=b):=by
 by_cases e:a=b
 . subst e;simp
 . have h:¬(Sum.inr a:Key)=Sum.inr b:=λq=>e (Sum.inr.inj q);rw[decide_eq_false h,decide_eq_false e]
theorem Ex (a:Int)(b:Str):decide ((Sum.inl a:Key)=Sum.inr b)=false:=decide_eq_false (λq=>nomatch q)
theorem Ey (a:Str)(b:Int):decide ((Sum.inr a:Key)=Sum.inl b)=false:=decide_eq_false (λq=>nomatch q)
noncomputable def ic (prog:Program) (w:World):PySem.KeyKind prog w Key where
 is:=lL
 hash:=Er w
 inj:=λv a b U L=>by
  rcases jY U with⟨i,t,rfl,rfl⟩|⟨x,t,rfl,rfl⟩
  . rcases jY L with⟨j,u,rfl,e⟩|⟨y,u,rfl,e⟩
    . injection e with e1 _;rw[e1]
    . exact nomatch e
  . rcases jY L with⟨j,u,rfl,e⟩|⟨y,u,rfl,e⟩
    . exact nomatch e
    . injection e with e1 _;rw[e1]
 byValue:=λk v h=>by
  rcases jY h with⟨i,t,rfl,rfl⟩|⟨x,t,rfl,rfl⟩ <;> rfl
 pyHash:=λJ h=>by
  rcases jY J with⟨i,t,rfl,rfl⟩|⟨x,t,rfl,rfl⟩
  . exact wpAny_pyHash_int h
  . exact wpAny_pyHash_str h
 eqBool:=λY J h=>by
  rcases jY Y with⟨i,t,rfl,rfl⟩|⟨x,t,rfl,rfl⟩
  . rcases jY J with⟨j,u,rfl,rfl⟩|⟨y,u,rfl,rfl⟩
    . rw[Eu] at h;exact wpAny_eqBool_int h
    . rw[Ex] at h;exact SeqAt.EqAt.int_str i t y u _ _ _ _ h
  . rcases jY J with⟨j,u,rfl,rfl⟩|⟨y,u,rfl,rfl⟩
    . rw[Ey] at h;exact SeqAt.EqAt.str_int x t j u _ _ _ _ h
    . rw[Ew] at h;exact wpAny_eqBool_str h
 «strs»:=λk x t v h=>by
  rcases jY h with⟨i,u,rfl,e⟩|⟨y,u,rfl,e⟩
  . exact nomatch e
  . injection e with e1 _
    subst e1
    cases v <;> rfl
theorem Ez (prog:Program)(w:World)(i:Int)(t:Tok):(ic prog w).is (.inl i) (.int i t)=true:=Es i t
theorem EA (prog:Program)(w:World)(x:Str)(t:Tok):(ic prog w).is (.inr x) (.str x t)=true:=Et x t
inductive V where
 |non|bl (b:Bool)|int (i:Int)|str (x:Str)|jh (b:Array UInt8)|flt (b:UInt64)|ref (a:Addr)|ty (n:String)
 deriving DecidableEq
def RelV:V->Value->Prop
 | .non,u=>u=Value.none
 | .bl b,u=>u=Value.bool b
 | .int i,u=>∃t,u=Value.int i t
 | .str x,u=>∃t,u=Value.str x t
 | .jh b,u=>∃t,u=Value.bytes b t
 | .flt b,u=>∃t,u=Value.float b t
 | .ref a,u=>u=Value.ref a
 | .ty n,u=>u=Value.type n
abbrev Vals:List V->List Value->Prop:=Paired RelV
theorem Vals.length {xs:List V}{us:List Value}(r:Vals xs us):xs.length=us.length:=Paired.length r
theorem Vals.get:∀{xs:List V}{us:List Value}{i:Nat}{x:V},Vals xs us->xs[i]? =some x->∃u,us[i]? =some u/\RelV x u
 |_,_,_,_,.nil,e=>by simp at e
 |_,_,0,_,.cons r _,e=>by simp at e;subst e;exact⟨_,rfl,r⟩
 |_,_,i+1,x,.cons _ t,e=>by
  obtain⟨u,h1,h2⟩:=Vals.get (i:=i) (x:=x) t (by simpa using e);exact⟨u,by simpa using h1,h2⟩
theorem Vals.set {x:V}{u:Value}(r:RelV x u):∀{xs:List V}{us:List Value}(i:Nat),Vals xs us->Vals (xs.set i x) (us.set i u)
 |_,_,_,.nil=>.nil
 |_,_,0,.cons _ t=>.cons r t
 |_,_,i+1,.cons q t=>.cons q (Vals.set r i t)
theorem Vals.append:∀{xs ys:List V}{us ws:List Value},Vals xs us->Vals ys ws->Vals (xs++ys) (us++ws)
 |_,_,_,_,.nil,s=>s
 |_,_,_,_,.cons r t,s=>.cons r (Vals.append t s)
theorem Vals.take:∀{xs:List V}{us:List Value}(n:Nat),Vals xs us->Vals (xs.take n) (us.take n)
 |_,_,0,_=>.nil
 |_,_,_+1,.nil=>.nil
 |_,_,n+1,.cons r t=>.cons r (Vals.take n t)
theorem Vals.drop:∀{xs:List V}{us:List Value}(n:Nat),Vals xs us->Vals (xs.drop n) (us.drop n)
 |_,_,0,r=>r
 |_,_,_+1,.nil=>.nil
 |_,_,n+1,.cons _ t=>Vals.drop n t
theorem Vals.none_of:∀{xs:List V}{us:List Value}{i:Nat},Vals xs us->xs[i]? =none->us[i]? =none:=λ{xs us i} r e=>by
 have h1:=r.length;have h2:xs.length<=i:=List.getElem?_eq_none_iff.mp e;exact List.getElem?_eq_none_iff.mpr (by omega)
def ie:Option V->Option Value->Prop
 |some v,some u=>RelV v u
 |none,none=>True
 |_,_=>False
def KV {κ:Type}:List (κ × V)->List (κ × Value)->Prop:=Paired λ(p:κ × V) (q:κ × Value)=>p.1=q.1/\RelV p.2 q.2
noncomputable def kV:Key->V
 | .inl i=>.int i
 | .inr x=>.str x
inductive HO where
 |lst (xs:List V)
 |tup (xs:List V)
 |dK (kvs:List (Key × V))|dT (kvs:List (List Key × V))
 |set (S:Int->Bool) (n:Nat)
 |ins (C dx:Addr) (fs:List (Str × V))
 |own (x:Addr)
 |xd (fs:List (Str × V))
 |met (f x:Addr)
 |rng (lo hi:Int)
 |fb (o:Obj) (u:HO)
 |fm (ps:Array Value)
 |ext (φ:Heap->Prop)
noncomputable abbrev Hp:=Addr->Option HO
noncomputable def upd (H:Hp) (a:Addr) (o:HO):Hp:=λb=>if b=a then some o else H b
theorem dw {H:Hp}{a:Addr}{o:HO}:upd H a o a=some o:=by unfold upd;rw[if_pos rfl]
theorem dg {H:Hp}{a b:Addr}{o:HO}(h:b≠a):upd H a o b=H b:=by unfold upd;rw[if_neg h]
theorem fo {H:Hp}{a b:Addr}{o u:HO}(h:H a=some o)(h':H b=some u)(d:o≠u):a≠b:=by
 intro e;subst e;rw[h] at h';exact d (Option.some.inj h')
theorem dA {H:Hp}{a b:Addr}{o:HO}(h:H a=some o)(h':H b=none):a≠b:=by
 intro e;subst e;rw[h] at h';cases h'
section
variable (P:Program)(w:World)
def fQ (H:Hp) (h:Heap) (a:Addr):HO->Prop
 | .lst xs=>xs.length<=sizeLine/\∃(J:List Value) (n:Nat),Vals xs J/\h.get? a=some { cls:=.type "list",data:=.seq J.toArray n }
 | .tup xs=>xs.length<=sizeLine/\∃J:List Value,Vals xs J/\IsTup h a J.toArray
 | .dK kvs=>kvs.length<=sizeLine/\(a == sysModules)=false/\∃vs,KV kvs vs/\h.DictOf (ic P w) a vs
 | .dT kvs=>kvs.length<=sizeLine/\(a == sysModules)=false/\∃xs:List (List Key × Addr × Value),
    Paired (λ(p:List Key × V) (q:List Key × Addr × Value)=>p.1=q.1/\H q.2.1=some (.tup (p.1.map kV))/\RelV p.2 q.2.2) kvs xs/\
    ∃o es U,h.get? a=some o/\o.ExactDict/\o.data=.dict es U/\es.toList=xs.map (entryOfKey (tupleKind (ic P w)))/\(xs.map (·.1)).Nodup
 | .set S n=>h.SetOf (intKind P w) a S n
 | .ins C dx fs=>H dx=some (.own a)/\fs.length<=1000/\dx≠a/\h.get? a=some (W.instObj C dx)/\
    ∃mA,h.Ns1 dx mA/\(∀f,ie (fs.lookup f) (mA f))/\PySem.Within mA (fs.map (·.1))
 | .own _=>∃o,h.get? a=some o
 | .xd fs=>∃mA,h.Ns1 a mA/\∀f,ie (fs.lookup f) (mA f)
 | .rng lo hi=>∃t u v,h.get? a=some { cls:=.type "range",data:=.fields #[.int lo t,.int hi u,.int 1 v] }
 | .fb o u=>h.get? a=some o/\fQ H h a u
 | .fm ps=>h.get? a=some { cls:=.none,data:=.fields ps }
 | .met f x=>h.get? a=some (W.methodObj (.ref f) (.ref x))
 | .ext L=>L h/\(∃o,h.get? a=some o)/\∀h1 h2:Heap,L h1->(∀o,h1.get? a=some o->h2.get? a=some o)->L h2
def ft (H:Hp) (h:Heap):Prop:=∀a o,H a=some o->fQ P w H h a o
end
section
variable {P:Program}{w:World}{H H':Hp}{h h':Heap}{a:Addr}{o:HO}
theorem fQ.lt (x:fQ P w H h a o):a<h.objs.size:=by
 cases o with
 |lst xs=>obtain⟨_,_,_,_,e⟩:=x;exact Q03 e
 |tup xs=>obtain⟨_,_,_,p⟩:=x;exact p.lt
 |dK kvs=>obtain⟨_,_,_,_,o,_,_,e,_⟩:=x;exact Q03 e
 |dT kvs=>obtain⟨_,_,_,_,o,_,_,e,_⟩:=x;exact Q03 e
 |set S n=>obtain⟨o,_,_,_,e,_⟩:=x;exact Q03 e
 |ins C dx fs=>obtain⟨_,_,_,e,_⟩:=x;exact Q03 e
 |own y=>obtain⟨_,e⟩:=x;exact Q03 e
 |xd fs=>obtain⟨_,⟨_,_,_,e,_⟩,_⟩:=x;exact Q03 e
 |rng lo hi=>obtain⟨_,_,_,e⟩:=x;exact Q03 e
 |fb J u=>obtain⟨e,_⟩:=x;exact Q03 e
 |fm ps=>exact Q03 (show h.get? a=some _ from x)
 |met f y=>exact Q03 (show h.get? a=some _ from x)
 |ext L=>obtain⟨_,⟨_,e⟩,_⟩:=x;exact Q03 e
theorem Paired.pT {α J:Type}{F G:α->J->Prop}:∀{l₁:List α}{l₂:List J},Paired F l₁ l₂->(∀a b,F a b->G a b)->Paired G l₁ l₂
 |_,_,.nil,_=>.nil
 |_,_,.cons r t,f=>.cons (f _ _ r) (Paired.pT t f)
theorem fQ.stay (x:fQ P w H h a o)(k:∀b u,(b=a\/H b=some (.own a))->h.get? b=some u->h'.get? b=some u)
 (ho:∀b,H b=some (.own a)->H' b=some (.own a)) (ht:∀b xs,H b=some (.tup xs)->H' b=some (.tup xs)):fQ P w H' h' a o:=by
 induction o with
 |lst xs=>obtain⟨z,U,n,r,e⟩:=x;exact⟨z,U,n,r,k _ _ (.inl rfl) e⟩
 |tup xs=>obtain⟨z,U,r,J,e,c⟩:=x;exact⟨z,U,r,J,k _ _ (.inl rfl) e,c⟩
 |dK kvs=>obtain⟨z,y,vs,r,J,es,L,e,c⟩:=x;exact⟨z,y,vs,r,J,es,L,k _ _ (.inl rfl) e,c⟩
 |dT kvs=>
  obtain⟨z,y,xs,r,J,es,L,e,c⟩:=x;exact⟨z,y,xs,Paired.pT r λp q z=>⟨z.1,ht _ _ z.2.1,z.2.2⟩,J,es,L,k _ _ (.inl rfl) e,c⟩
 |set S n=>obtain⟨J,es,L,t,e,c⟩:=x;exact⟨J,es,L,t,k _ _ (.inl rfl) e,c⟩
 |ins C dx fs=>
  obtain⟨d,z,ne,e,mA,⟨Y,es,L,e2,c⟩,r⟩:=x;exact⟨ho _ d,z,ne,k _ _ (.inl rfl) e,mA,⟨Y,es,L,k _ _ (.inr d) e2,c⟩,r⟩
 |own y=>obtain⟨J,e⟩:=x;exact⟨J,k _ _ (.inl rfl) e⟩
 |xd fs=>obtain⟨mA,⟨Y,es,L,e,c⟩,r⟩:=x;exact⟨mA,⟨Y,es,L,k _ _ (.inl rfl) e,c⟩,r⟩
 |rng lo hi=>obtain⟨t,u,v,e⟩:=x;exact⟨t,u,v,k _ _ (.inl rfl) e⟩
 |fb J u ih=>obtain⟨e,q⟩:=x;exact⟨k _ _ (.inl rfl) e,ih q⟩
 |fm ps=>
  have e:h.get? a=some { cls:=.none,data:=.fields ps }:=x;show h'.get? a=some { cls:=.none,data:=.fields ps };exact k a _ (.inl rfl) e
 |met f y=>
  have e:h.get? a=some (W.methodObj (.ref f) (.ref y)):=x;show h'.get? a=some (W.methodObj (.ref f) (.ref y));exact k a _ (.inl rfl) e
 |ext φ=>obtain⟨p,⟨o,e⟩,st⟩:=x;exact⟨st _ _ p λo q=>k _ _ (.inl rfl) q,⟨o,k _ _ (.inl rfl) e⟩,st⟩
theorem ft.lt (x:ft P w H h)(e:H a=some o):a<h.objs.size:=(x a o e).lt
theorem ft.fresh (x:ft P w H h)(e:h.objs.size<=a):H a=none:=by
 cases q:H a with
 |none=>rfl
 |some u=>exact absurd (Q0g (x.lt q) e) (Q10 _)
theorem ft.kept (x:ft P w H h)(k:∀b u,h.get? b=some u->h'.get? b=some u):ft P w H h':=λa o e=>
 (x a o e).stay (λb u _ q=>k b u q) (λ_ q=>q) λ_ _ q=>q
theorem ft.laid (x:ft P w H h)(k:∀b u,h.get? b=some u->h'.get? b=some u)(hp:h.objs.size<=a)(new:fQ P w (upd H a o) h' a o):ft P w (upd H a o) h':=λb u e=>by
 have J:=x.fresh hp;by_cases L:b=a
 . subst L;rw[dw] at e;cases e;exact new
 . rw[dg L] at e;exact(x b u e).stay (λc v _ q=>k c v q) (λc q=>by rw[dg (dA q J)];exact q) λc xs q=>by rw[dg (dA q J)];exact q
end
def Rd (H:Hp) (a:Addr) (u:HO):Prop:=H a=some u\/∃o,H a=some (.fb o u)
theorem Rd.ok {P:Program}{w:World}{H:Hp}{h:Heap}{a:Addr}{u:HO}(r:Rd H a u)(x:ft P w H h):fQ P w H h a u:=by
 rcases r with r|⟨o,r⟩
 . exact x a u r
 . obtain⟨_,q⟩:=x a _ r;exact q
def nT:Option HO->Prop
 |some (.lst _)=>True
 |some (.dK _)=>True
 |some (.dT _)=>True
 |some (.set _ _)=>True
 |some (.ins _ _ _)=>True
 |some (.ext _)=>True
 |_=>False
section
variable {P:Program}{w:World}{H:Hp}{h h':Heap}{x e:Addr}{o':HO}
theorem ft.write (ok:ft P w H h)(mu:nT (H x))(he:e=x\/H e=some (.own x))(k:∀b u,b≠e->h.get? b=some u->h'.get? b=some u)(aa:∃u,h'.get? e=some u)
 (new:fQ P w (upd H x o') h' x o'):ft P w (upd H x o') h':=λb u q=>by
 have L:∀c y,H c=some (.own y)->c≠x:=λc y r z=>by subst z;rw[r] at mu;exact mu
 have U:∀c xs,H c=some (.tup xs)->c≠x:=λc xs r z=>by subst z;rw[r] at mu;exact mu
 by_cases Y:b=x
 . subst Y;rw[dw] at q;cases q;exact new
 . rw[dg Y] at q;by_cases J:b=e
   . have q':H b=some (.own x):=by
      rcases he with z|z
      . exact absurd (J.trans z) Y
      . rw[J];exact z
     rw[q] at q';cases q';obtain⟨v,hv⟩:=aa;exact⟨v,by rw[J];exact hv⟩
   . refine(ok b u q).stay (λc v hc r=>k c v ?_ r) (λc r=>by rw[dg (L c b r)];exact r) λc xs r=>by rw[dg (U c xs r)];exact r
     rcases hc with rfl|hc
     . exact J
     . rintro rfl;rcases he with z|z
       . exact L c b hc z
       . rw[hc] at z;cases z;exact Y rfl
end
structure Un (fs ex:List Addr) (H H':Hp) (h h':Heap):Prop where
 keep:∀b o,h.get? b=some o->H b=none->b ∉ fs->b ∉ ex->h'.get? b=some o
 slot:∀b o,h.get? b=some o->H b=none->b∈fs->b ∉ ex->∃sl,h'.get? b=some { o with slots:=sl }
 free:∀b o,h.get? b=some o->H b=none->b ∉ ex->H' b=none
 there:∀b o,h.get? b=some o->b ∉ ex->∃o',h'.get? b=some o'
 tups:∀b xs,H b=some (.tup xs)->H' b=some (.tup xs)
 ji:∀b o u,H b=some (.fb o u)->H' b=some (.fb o u)
 jF:∀b ps,H b=some (.fm ps)->∃more,H' b=some (.fm (ps++more))
section
variable {fs fs' ex ex':List Addr}{H H1 H2:Hp}{h h1 h2 h':Heap}{a x e:Addr}{o:HO}
theorem Un.any (u:Un fs ex H H1 h h1){b:Addr}{J:Obj}(q:h.get? b=some J)(n:H b=none)(L:b ∉ ex):∃sl,h1.get? b=some { J with slots:=sl }:=by
 by_cases U:b∈fs
 . exact u.slot b J q n U L
 . exact⟨J.slots,u.keep b J q n U L⟩
theorem Un.kept (k:∀b u,h.get? b=some u->h'.get? b=some u):Un fs ex H H h h':=
 ⟨λb J q _ _ _=>k b J q,λb J q _ _ _=>⟨J.slots,k b J q⟩,λ_ _ _ n _=>n,λb J q _=>⟨J,k b J q⟩,λ_ _ q=>q,λ_ _ _ q=>q,λ_ ps q=>⟨#[],by rw[q];simp⟩⟩
theorem Un.refl:Un fs ex H H h h:=Un.kept λ_ _ q=>q
theorem Un.laid (k:∀b u,h.get? b=some u->h'.get? b=some u)(hp:h.objs.size<=a)(J:H a=none):Un fs ex H (upd H a o) h h' where
 keep:=λb u q _ _ _=>k b u q
 slot:=λb u q _ _ _=>⟨u.slots,k b u q⟩
 free:=λb u q n _=>by rw[dg (Q0c (Q0g (Q03 q) hp))];exact n
 there:=λb u q _=>⟨u,k b u q⟩
 tups:=λb xs q=>by rw[dg (dA q J)];exact q
 ji:=λb u xs q=>by rw[dg (dA q J)];exact q
 jF:=λb ps q=>⟨#[],by rw[dg (dA q J),q];simp⟩
theorem Un.write (mu:nT (H x))(he:e=x\/H e=some (.own x))(k:∀b u,b≠e->h.get? b=some u->h'.get? b=some u)(U:∃u,h'.get? e=some u):Un fs ex H (upd H x o) h h':=by
 have Y:∀b,H b=none->b≠x:=λb n z=>by subst z;rw[n] at mu;exact mu
 have hb:∀b,H b=none->b≠e:=λb n z=>by
  subst z;rcases he with r|r
  . exact Y b n r
  . rw[n] at r;cases r
 have L:∀b u,H b=some u->¬nT (some u)->b≠x:=λb u q nm z=>by subst z;rw[q] at mu;exact nm mu
 refine⟨λb u q n _ _=>k b u (hb b n) q,λb u q n _ _=>⟨u.slots,k b u (hb b n) q⟩,λb u q n _=>by rw[dg (Y b n)];exact n,λb u q _=>?_,
  λb xs q=>by rw[dg (L b _ q λz=>z)];exact q,λb u xs q=>by rw[dg (L b _ q λz=>z)];exact q,λb ps q=>⟨#[],by rw[dg (L b _ q λz=>z),q];simp⟩⟩
 by_cases J:b=e
 . subst J;exact U
 . exact⟨u,k b u J q⟩
end
noncomputable def pU (h:Heap) (H:Hp):List Addr:=(List.range h.objs.size).filter λa=>(H a).isSome
noncomputable def jZ (h:Heap) (H:Hp):Heap:=W.hideAll h (pU h H)
theorem EB (h:Heap)(H:Hp):(jZ h H).objs.size=h.objs.size:=W.hideAll_size _ _
theorem EC {h:Heap}{H:Hp}{b:Addr}{o:Obj}(e:h.get? b=some o)(n:H b=none):(jZ h H).get? b=some o:=
 W.hideAll_get _ e λJ=>by
   have q:(H b).isSome=true:=(List.mem_filter.mp J).2;rw[n] at q;simp at q
theorem ED {h:Heap}{H:Hp}{b:Addr}{o:Obj}(e:(jZ h H).get? b=some o):h.get? b=some o/\H b=none:=by
 have J:h.get? b=some o:=W.of_hideAll (pU h H) e;refine⟨J,?_⟩
 cases q:H b with
 |none=>rfl
 |some x=>
  have L:b∈pU h H:=List.mem_filter.mpr ⟨List.mem_range.mpr (Q03 J),by simp[q]⟩;have z:(jZ h H).get? b=none:=W.hideAll_none (pU h H) L;rw[z] at e;cases e
noncomputable def EE (g h:Heap) (L:Addr):List (Addr × Obj):=(List.range h.objs.size).filterMap λa=>if a=L\/(g.get? a).isSome=true then none else(h.get? a).map λo=>(a,o)
noncomputable def rest (g h:Heap) (L d:Addr):List (Addr × Obj):=(EE g h L).filter λp=>decide (p.1≠d)
structure Mod (K:W.Frag) (mg:Str->Option Value) (base:Heap):Prop where
 lM:K.In base
 glob:base.Ns mainGlobals mg
 blt:∃mb,base.Ns builtinsNs mb/\∀x:Str,x≠"__name__"->mb x=bootBuiltins x
 nolimit:base.NoLimit
structure Cx where
 prog:Program
 w:World
 K:W.Frag
 mg:Str->Option Value
 base:Heap
 A:Around
 N:List Str
 s₀:Shared
 H₀:Hp
 env:Env
 outer:List Env
 stack:List Env
 ex:List Addr
 fn:Str->Bool
 calm:Bool
 pn:List (Addr × Obj)
 xe:Value->Shared->Prop
noncomputable def frs (l:List Env):List Addr:=l.filterMap (·.frame)
noncomputable abbrev Cx.fs (X:Cx):List Addr:=frs X.outer
def pV (sc:Scope) (x:Str):Prop:=sc.names.lookup x=some .local\/sc.names.lookup x=some .cell\/sc.names.lookup x=some .free
def Loc (sc:Scope) (x:Str):Prop:=sc.names.lookup x=some .local\/sc.names.lookup x=some .cell
def Look (env:Env) (h:Heap) (m:Str->Option Value) (x:Str) (u:Value):Prop:=
 (env.kindOf x=some .local/\m x=some u)\/((env.kindOf x=some .cell\/env.kindOf x=some .free)/\∃c,env.cells.lookup x=some c/\h.IsCell c (some u))
structure Cx.Ok (X:Cx):Prop where
 mod:Mod X.K X.mg X.base
 kind:X.env.scope.kind=.function
 glob:X.env.globals=mainGlobals
 blt:X.env.builtins=builtinsNs
 above:X.s₀.heap.objs.size<=X.env.locals
 inj:∀x y c,X.env.cells.lookup x=some c->X.env.cells.lookup y=some c->x=y
 has:∀x,(X.env.kindOf x=some .cell\/X.env.kindOf x=some .free)->∃c,X.env.cells.lookup x=some c
 cab:∀x c,X.fn x=true->X.env.cells.lookup x=some c->X.s₀.heap.objs.size<=c
 hd:X.calm=true->X.A.handled=none
 frames:X.A.frames=some X.stack
 stk:X.stack=X.outer\/(X.stack=X.env::X.outer/\X.env.frame=some X.env.locals)
 yR:∀b∈X.ex,b≠X.env.locals/\∀x c,X.env.cells.lookup x=some c->c≠b
 bs:∀b o,X.base.get? b=some o->X.s₀.heap.get? b=some o/\X.H₀ b=none
 jG:X.base.objs.size<=X.s₀.heap.objs.size
 nU:∀b o,X.base.get? b=some o->b ∉ X.ex
 pW:∀b∈X.ex,b ∉ X.fs
 i7:X.s₀.heap.FunFrames X.base X.outer
 k8:∀b∈X.fs,X.H₀ b=none
structure Inv (X:Cx) (pins:List (Addr × Obj)) (σ:List (Option V)) (H:Hp) (s:Shared):Prop where
 ok:X.Ok
 os:s.os=X.s₀.os
 bare:AllBare s.gens
 base:Un X.fs X.ex X.H₀ H X.s₀.heap s.heap
 loc:∃m,s.heap.Ns X.env.locals m/\∀(i:Nat) (x:Str) (v:V),X.N[i]? =some x->σ[i]? =some (some v)->pV X.env.scope x->∃u,RelV v u/\Look X.env s.heap m x u
 cell:∀x c,X.env.cells.lookup x=some c->∃v,s.heap.IsCell c v
 free:H X.env.locals=none
 iM:∀x c,X.env.cells.lookup x=some c->H c=none
 pin:∀p∈X.pn++pins,s.heap.get? p.1=some p.2/\H p.1=none/\p.1≠X.env.locals/\p.1 ∉ X.fs/\∀v,p.2.data≠ .cell v
 hok:ft X.prog X.w H s.heap
 len:σ.length=X.N.length
section
variable {X:Cx}{pins:List (Addr × Obj)}{σ:List (Option V)}{H H':Hp}{s:Shared}{h':Heap}
theorem Cx.Ok.EF (ok:X.Ok){b:Addr}{o:Obj}(e:X.base.get? b=some o):b ∉ X.fs:=λJ=>by
 have:=(ok.i7.mem J).1;rw[e] at this;cases this
theorem Inv.bs (I:Inv X pins σ H s):∀b o,X.base.get? b=some o->s.heap.get? b=some o/\H b=none:=λb o e=>
 ⟨I.base.keep b o (I.ok.bs b o e).1 (I.ok.bs b o e).2 (I.ok.EF e) (I.ok.nU b o e),I.base.free b o (I.ok.bs b o e).1 (I.ok.bs b o e).2 (I.ok.nU b o e)⟩
theorem Inv.bk (I:Inv X pins σ H s):∀b o,X.base.get? b=some o->s.heap.get? b=some o:=λb o e=>(I.bs b o e).1
theorem Inv.mod (I:Inv X pins σ H s):Mod X.K X.mg X.base:=I.ok.mod
theorem Inv.fS (I:Inv X pins σ H s):X.K.In s.heap:=I.ok.mod.lM.keeps I.bk
theorem Inv.nolimit (I:Inv X pins σ H s):s.heap.NoLimit:=I.ok.mod.nolimit.keeps I.bk
theorem Inv.lt (I:Inv X pins σ H s):X.env.locals<s.heap.objs.size:=let⟨_,J,_⟩:=I.loc;J.lt
theorem Inv.sz (I:Inv X pins σ H s):X.s₀.heap.objs.size<=s.heap.objs.size:=Q07 I.ok.above (Q14 I.lt)
theorem Inv.mF (I:Inv X pins σ H s){a:Addr}(h:s.heap.objs.size<=a):a ∉ X.fs:=λJ=>by
 obtain⟨_,o,L,_⟩:=I.ok.i7.mem J;exact absurd (Q0g (Q03 L) (Q07 I.sz h)) (Q10 _)
theorem Inv.lN (I:Inv X pins σ H s):∀x c,X.env.cells.lookup x=some c->c≠X.env.locals:=λx c e z=>by
 obtain⟨v,o,U,Y⟩:=I.cell x c e;obtain⟨m,⟨o',es,ep,J,L,_⟩,_⟩:=I.loc;rw[z,J] at U;cases U;rw[L] at Y;cases Y
theorem Inv.i7 (I:Inv X pins σ H s):s.heap.FunFrames X.base X.outer:=by
 have all:∀(l:List Env),(∀b∈frs l,b∈X.fs)->X.s₀.heap.FunFrames X.base l->s.heap.FunFrames X.base l:=by
  intro l
  induction l with
  |nil=>intro _ _;trivial
  |cons env r ih=>
   intro hs hl;obtain⟨hk,⟨L,o,J,hn,ho,hd⟩,hr⟩:=hl;have U:L∈X.fs:=hs L (by unfold frs;rw[Q1m,J];exact Q05);obtain⟨sl,e⟩:=I.base.slot L o ho (I.ok.k8 L U) U λz=>I.ok.pW L z U;exact⟨hk,⟨L,_,J,hn,e,hd⟩,ih (λb Y=>hs b (by unfold frs;rw[Q1m,J];exact Q0d _ Y)) hr⟩
 exact all X.outer (λ_ Y=>Y) I.ok.i7
theorem Inv.stack (I:Inv X pins σ H s):s.heap.FunFrames X.base X.stack:=by
 rcases I.ok.stk with e|⟨e,J⟩
 . rw[e];exact I.i7
 . rw[e];obtain⟨m,L,_⟩:=I.loc;refine .cons (by rw[I.ok.kind];decide) J L ?_ I.i7;exact Heap.get?_none_of_le (Q07 I.ok.jG I.ok.above)
theorem Inv.nV (I:Inv X pins σ H s):∀b∈frs X.stack,b∈X.env.locals::X.fs:=λb J=>by
 rcases I.ok.stk with e|⟨e,L⟩
 . rw[e] at J;exact Q0d _ J
 . rw[e] at J;unfold frs at J;rw[Q1m,L] at J;exact J
theorem Inv.sy (I:Inv X pins σ H s):∀b∈frs X.stack,H b=none:=λb J=>by
 rcases List.mem_cons.mp (I.nV b J) with e|J
 . rw[e];exact I.free
 . obtain⟨_,o,L,_⟩:=I.ok.i7.mem J;exact I.base.free b o L (I.ok.k8 b J) λz=>I.ok.pW b z J
theorem Inv.step {g':Array GenState}{t':Nat}{d':Drawn}{ch:List Addr}(I:Inv X pins σ H s)
 (L:∀b∈ch,(b∈X.ex\/X.s₀.heap.objs.size<=b)/\b≠X.env.locals/\(∀x c,X.env.cells.lookup x=some c->c≠b)/\∀p∈X.pn++pins,p.1≠b)
 (keep:∀b o,b≠X.env.locals->b ∉ X.fs->b ∉ ch->s.heap.get? b=some o->H b=none->h'.get? b=some o)
 (slot:∀b o,b≠X.env.locals->b∈X.fs->b ∉ ch->s.heap.get? b=some o->H b=none->∃sl,h'.get? b=some { o with slots:=sl }) (free:∀b o,b ∉ ch->s.heap.get? b=some o->H b=none->H' b=none)
 (there:∀b o,b ∉ ch->s.heap.get? b=some o->∃o',h'.get? b=some o')
 (tups:∀b xs,H b=some (.tup xs)->H' b=some (.tup xs)) (ji:∀b o u,H b=some (.fb o u)->H' b=some (.fb o u)) (jF:∀b ps,H b=some (.fm ps)->∃ac,H' b=some (.fm (ps++ac)))
 (ns:∀m,s.heap.Ns X.env.locals m->h'.Ns X.env.locals m) (ae:ft X.prog X.w H' h') (hg:AllBare g'):
 Inv X pins σ H' { s with heap:=h',gens:=g',drawn:=d',toks:=t' }:=by
 have ab:∀b o,X.s₀.heap.get? b=some o->b≠X.env.locals:=λb o e=>Q0c (Q0g (Q03 e) I.ok.above)
 have aa:∀b o,X.s₀.heap.get? b=some o->b ∉ X.ex->b ∉ ch:=λb o e J hb=>by
  rcases(L b hb).1 with z|z
  . exact J z
  . exact absurd (Q0g (Q03 e) z) (Q10 _)
 have Y:∀x c,X.env.cells.lookup x=some c->∀v,s.heap.IsCell c v->h'.IsCell c v:=λx c e v ⟨o,ho,hd⟩=>by
  have U:c ∉ ch:=λz=>(L c z).2.2.1 x c e rfl;by_cases hc:c∈X.fs
  . obtain⟨sl,q⟩:=slot c o (I.lN x c e) hc U ho (I.iM x c e);exact⟨_,q,hd⟩
  . exact⟨o,keep c o (I.lN x c e) hc U ho (I.iM x c e),hd⟩
 refine⟨I.ok,I.os,hg,⟨λb o e n hb J=>?_,λb o e n hb J=>?_,λb o e n J=>?_,λb o e J=>?_,λb xs e=>tups b xs (I.base.tups b xs e),λb o xs e=>ji b o xs (I.base.ji b o xs e),λb ps e=>?_⟩,?_,λx c e=>?_,?_,λx c e=>?_,λp hp=>?_,ae,I.len⟩
 . exact keep b o (ab b o e) hb (aa b o e J) (I.base.keep b o e n hb J) (I.base.free b o e n J)
 . obtain⟨sl,e1⟩:=I.base.slot b o e n hb J;obtain⟨af,e2⟩:=slot b _ (ab b o e) hb (aa b o e J) e1 (I.base.free b o e n J);exact⟨af,e2⟩
 . obtain⟨o',e1⟩:=I.base.there b o e J;exact free b o' (aa b o e J) e1 (I.base.free b o e n J)
 . obtain⟨o',e1⟩:=I.base.there b o e J;exact there b o' (aa b o e J) e1
 . obtain⟨m1,e1⟩:=I.base.jF b ps e;obtain⟨m2,e2⟩:=jF b _ e1;exact⟨m1++m2,by rw[e2,Array.append_assoc]⟩
 . obtain⟨m,hn,hl⟩:=I.loc;refine⟨m,ns m hn,λi x v e1 e2 e3=>?_⟩;obtain⟨u,r,l⟩:=hl i x v e1 e2 e3;refine⟨u,r,?_⟩;rcases l with l|⟨k,c,e,z⟩
   . exact .inl l
   . exact .inr ⟨k,c,e,Y x c e _ z⟩
 . obtain⟨v,z⟩:=I.cell x c e;exact⟨v,Y x c e v z⟩
 . obtain⟨m,⟨o,_,_,ho,_⟩,_⟩:=I.loc;exact free _ o (λz=>(L _ z).2.1 rfl) ho I.free
 . obtain⟨v,o,ho,hd⟩:=I.cell x c e;exact free c o (λz=>(L c z).2.2.1 x c e rfl) ho (I.iM x c e)
 . obtain⟨e,n,ne,nf,d⟩:=I.pin p hp;have U:p.1 ∉ ch:=λz=>(L p.1 z).2.2.2 p hp rfl;exact⟨keep p.1 p.2 ne nf U e n,free p.1 p.2 U e n,ne,nf,d⟩
theorem Inv.un {t':Nat}(I:Inv X pins σ H s)(u:Un X.fs [] H H' s.heap h')(U:ft X.prog X.w H' h'):Inv X pins σ H' { s with heap:=h',toks:=t' }:=by
 obtain⟨m,⟨o,es,ep,ho,r⟩,_⟩:=id I.loc;obtain⟨sl,hL⟩:=u.any ho I.free (by simp)
 exact I.step (g':=s.gens) (d':=s.drawn) (ch:=[]) (λ_ z=>nomatch z) (λb o _ L _ e n=>u.keep b o e n L (by simp)) (λb o _ L _ e n=>u.slot b o e n L (by simp)) (λb o _ e n=>u.free b o e n (by simp)) (λb o _ e=>u.there b o e (by simp)) u.tups u.ji u.jF (λm' hm=>by
  obtain⟨o',Y,aa,J,r'⟩:=hm;rw[ho] at J;cases J;exact⟨_,Y,aa,hL,r'⟩) U I.bare
theorem Inv.call {g':Array GenState}{t':Nat}{d':Drawn}{ch:List Addr}(I:Inv X pins σ H s)(u:Un (frs X.stack) ch H H' s.heap h')(Y:ft X.prog X.w H' h')(hg:AllBare g')
 (J:∀b∈ch,(b∈X.ex\/X.s₀.heap.objs.size<=b)/\b≠X.env.locals/\(∀x c,X.env.cells.lookup x=some c->c≠b)/\∀p∈X.pn++pins,p.1≠b):
 Inv X pins σ H' { s with heap:=h',gens:=g',drawn:=d',toks:=t' }:=by
 obtain⟨m,⟨o,es,ep,ho,r⟩,_⟩:=id I.loc;obtain⟨sl,U⟩:=u.any ho I.free λz=>(J _ z).2.1 rfl
 exact I.step (ch:=ch) J (λb o U hb hc e n=>u.keep b o e n (λz=>(List.mem_cons.mp (I.nV b z)).elim U hb) hc) (λb o _ _ hc e n=>u.any e n hc) (λb o hc e n=>u.free b o e n hc) (λb o hc e=>u.there b o e hc) u.tups u.ji u.jF (λm' hm=>by
  obtain⟨o',aa,ab,L,r'⟩:=hm;rw[ho] at L;cases L;exact⟨_,aa,ab,U,r'⟩) Y hg
theorem Inv.turned {t':Nat}{it:Addr}(I:Inv X pins σ H s)(k:∀b o,b≠it->s.heap.get? b=some o->h'.get? b=some o)(U:H it=none)(L:it≠X.env.locals)
 (h1:it∈X.ex\/X.s₀.heap.objs.size<=it) (h2:∀x c,X.env.cells.lookup x=some c->c≠it) (Y:∀p∈X.pn++pins,p.1≠it):Inv X pins σ H { s with heap:=h',toks:=t' }:=by
 have J:∀b u,H b=some u->b≠it:=λb u e z=>by rw[z,U] at e;cases e
 refine I.step (g':=s.gens) (d':=s.drawn) (ch:=[it]) (λb hb=>?_) (λb o _ _ hc e _=>k b o (λz=>hc (by simp[z])) e) (λb o _ _ hc e _=>⟨o.slots,k b o (λz=>hc (by simp[z])) e⟩) (λ_ _ _ _ n=>n)
  (λb o hc e=>⟨o,k b o (λz=>hc (by simp[z])) e⟩) (λ_ _ e=>e) (λ_ _ _ e=>e) (λb ps e=>⟨#[],by rw[e];simp⟩) (λm hm=>?_) (λb u e=>?_) I.bare
 . have e:b=it:=by simpa using hb
   subst e;exact⟨h1,L,h2,Y⟩
 . obtain⟨o,es,ep,ho,r⟩:=hm;exact⟨o,es,ep,k _ o (Ne.symm L) ho,r⟩
 . refine(I.hok b u e).stay (λc v hc q=>k c v ?_ q) (λ_ q=>q) λ_ _ q=>q;rcases hc with z|z
   . rw[z];exact J b u e
   . exact J c _ z
theorem Inv.tok (I:Inv X pins σ H s)(t:Nat):Inv X pins σ H { s with toks:=t }:=I.un (h':=s.heap) (t':=t) Un.refl I.hok
theorem Inv.kept {t':Nat}(I:Inv X pins σ H s)(k:∀b u,s.heap.get? b=some u->h'.get? b=some u):Inv X pins σ H { s with heap:=h',toks:=t' }:=I.un (Un.kept k) (I.hok.kept k)
theorem Inv.laid {a:Addr}{o:HO}{t':Nat}(I:Inv X pins σ H s)(k:∀b u,s.heap.get? b=some u->h'.get? b=some u)(hp:s.heap.objs.size<=a)(new:fQ X.prog X.w (upd H a o) h' a o):
 Inv X pins σ (upd H a o) { s with heap:=h',toks:=t' }:=I.un (Un.laid k hp (I.hok.fresh hp)) (I.hok.laid k hp new)
theorem Inv.write {x e:Addr}{o:HO}{t':Nat}(I:Inv X pins σ H s)(mu:nT (H x))(L:e=x\/H e=some (.own x))(k:∀b u,b≠e->s.heap.get? b=some u->h'.get? b=some u)(J:∃u,h'.get? e=some u)
 (new:fQ X.prog X.w (upd H x o) h' x o):Inv X pins σ (upd H x o) { s with heap:=h',toks:=t' }:=I.un (Un.write mu L k J) (I.hok.write mu L k J new)
theorem Inv.weak {J:List (Option V)}(I:Inv X pins σ H s)(hl:J.length=σ.length)(w:∀(i:Nat) v,J[i]? =some (some v)->σ[i]? =some (some v)):Inv X pins J H s:=
 ⟨I.ok,I.os,I.bare,I.base,let⟨m,U,L⟩:=I.loc;⟨m,U,λi x v e1 Y e3=>L i x v e1 (w i v Y) e3⟩,I.cell,I.free,I.iM,I.pin,I.hok,hl.trans I.len⟩
theorem Inv.lO {J:List (Addr × Obj)}(I:Inv X pins σ H s)(h:∀p∈J,s.heap.get? p.1=some p.2/\H p.1=none/\p.1≠X.env.locals/\p.1 ∉ X.fs/\∀v,p.2.data≠ .cell v):Inv X J σ H s:=
 ⟨I.ok,I.os,I.bare,I.base,I.loc,I.cell,I.free,I.iM,λp hp=>(List.mem_append.mp hp).elim (λz=>I.pin p (Q0u _ z)) (h p),I.hok,I.len⟩
theorem yS {N:List Str}(J:N.Nodup){i j:Nat}{x:Str}(a:N[i]? =some x)(b:N[j]? =some x):i=j:=by
 obtain⟨h1,e1⟩:=List.getElem?_eq_some_iff.mp a;obtain⟨h2,L⟩:=List.getElem?_eq_some_iff.mp b;exact(Q19 J).mp (e1.trans L.symm)
theorem EG {M:Model}{A:Around}{E:Value->Shared->Prop}{i:Nat}{x:Str}{v:V}{u:Value}{Q:Unit->Shared->Prop}(I:Inv X pins σ H s)(hN:X.N.Nodup)(hi:X.N[i]? =some x)(U:Loc X.env.scope x)(r:RelV v u)
 (h:∀s',Inv X pins (σ.set i (some v)) H s'->(∃a,Heap.SameBut a s.heap s'.heap/\(a=X.env.locals\/X.env.cells.lookup x=some a))->Q () s') (hf:X.fn x=true\/X.env.scope.names.lookup x=some .local:=by first|exact .inl rfl|exact .inr rfl|assumption):wpAny M A (storeName X.env x u) Q E s:=by
 obtain⟨m,hn,hl⟩:=id I.loc;have ag:(X.env.scope.kind == .class || (X.env.scope.kind == .module && X.env.locals != X.env.globals))=false:=by rw[I.ok.kind];rfl
 have aa:i<σ.length:=by rw[I.len];exact(List.getElem?_eq_some_iff.mp hi).1
 have lN:=I.lN
 have L:∀{a:Addr} {h':Heap},(∃o,s.heap.get? a=some o/\H a=none)->Heap.SameBut a s.heap h'->ft X.prog X.w H h':=λ{a h'} ha J b ob e=>by
  obtain⟨_,_,Y⟩:=ha;refine(I.hok b ob e).stay (λc w' hc q=>(J.2 c ?_).trans q) (λ_ q=>q) λ_ _ q=>q;rintro rfl;rcases hc with rfl|hc
  . rw[Y] at e;cases e
  . rw[Y] at hc;cases hc
 rcases U with hk|hk
 . refine wpAny_storeName_local hk hn (λh' ai J=>?_) ag;obtain⟨oL,_,_,aj,_⟩:=id hn;refine h _ ⟨I.ok,I.os,I.bare,⟨λb o e n hb U=>?_,λb o e n hb U=>?_,I.base.free,λb o e U=>?_,I.base.tups,I.base.ji,I.base.jF⟩,⟨_,ai,λj y v' e1 e2 e3=>?_⟩,λy c e=>?_,I.free,I.iM,λp hp=>?_,L ⟨oL,aj,I.free⟩ J,by simpa using I.len⟩ ⟨_,J,.inl rfl⟩
   . exact(J.2 b (Q0c (Q0g (Q03 e) I.ok.above))).trans (I.base.keep b o e n hb U)
   . obtain⟨sl,e1⟩:=I.base.slot b o e n hb U;exact⟨sl,(J.2 b (Q0c (Q0g (Q03 e) I.ok.above))).trans e1⟩
   . obtain⟨o',e1⟩:=I.base.there b o e U;exact⟨o',(J.2 b (Q0c (Q0g (Q03 e) I.ok.above))).trans e1⟩
   . by_cases hj:j=i
     . subst hj;rw[hi] at e1;cases e1;rw[Q2r aa] at e2
       cases e2;exact⟨u,r,.inl ⟨hk,by simp⟩⟩
     . rw[Q2s (Ne.symm hj)] at e2;obtain⟨u',r',q⟩:=hl j y v' e1 e2 e3;refine⟨u',r',?_⟩;rcases q with⟨k,e⟩|⟨k,c,e,z⟩
       . refine .inl ⟨k,?_⟩;have:y≠x:=λe=>hj (yS hN e1 (e ▸ hi));simp[this,e]
       . exact .inr ⟨k,c,e,z.sameBut J (lN y c e)⟩
   . obtain⟨w',z⟩:=I.cell y c e;exact⟨w',z.sameBut J (lN y c e)⟩
   . obtain⟨e,n,ne,nf,d⟩:=I.pin p hp;exact⟨(J.2 p.1 ne).trans e,n,ne,nf,d⟩
 . have ab:X.fn x=true:=by
    rcases hf with z|z
    . exact z
    . rw[z] at hk;cases hk
   obtain⟨c,hc⟩:=I.ok.has x (.inl hk);obtain⟨w',z⟩:=I.cell x c hc;refine wpAny_storeName_cell I.ok.kind hk hc z (λh' ac J=>?_);obtain⟨oc,ae,ah⟩:=id z;refine h { s with heap:=h' } ⟨I.ok,I.os,I.bare,⟨λb o e n hb U=>?_,λb o e n hb U=>?_,I.base.free,λb o e U=>?_,I.base.tups,I.base.ji,I.base.jF⟩,⟨m,hn.sameBut J (Ne.symm (lN x c hc)),λj y v' e1 e2 e3=>?_⟩,λy c' e=>?_,I.free,I.iM,λp hp=>?_,L ⟨oc,ae,I.iM x c hc⟩ J,by simpa using I.len⟩ ⟨c,J,.inr hc⟩
   . exact(J.2 b (Q0c (Q0g (Q03 e) (I.ok.cab x c ab hc)))).trans (I.base.keep b o e n hb U)
   . obtain⟨sl,e1⟩:=I.base.slot b o e n hb U;exact⟨sl,(J.2 b (Q0c (Q0g (Q03 e) (I.ok.cab x c ab hc)))).trans e1⟩
   . obtain⟨o',e1⟩:=I.base.there b o e U;exact⟨o',(J.2 b (Q0c (Q0g (Q03 e) (I.ok.cab x c ab hc)))).trans e1⟩
   . by_cases hj:j=i
     . subst hj;rw[hi] at e1;cases e1;rw[Q2r aa] at e2
       cases e2;exact⟨u,r,.inr ⟨.inl hk,c,hc,ac⟩⟩
     . rw[Q2s (Ne.symm hj)] at e2;obtain⟨u',r',q⟩:=hl j y v' e1 e2 e3;refine⟨u',r',?_⟩;rcases q with q|⟨k,c',e,z'⟩
       . exact .inl q
       . refine .inr ⟨k,c',e,z'.sameBut J ?_⟩;rintro rfl;exact hj (yS hN e1 (I.ok.inj _ _ _ e hc ▸ hi))
   . by_cases af:c'=c
     . subst af;exact⟨_,ac⟩
     . obtain⟨w2,z2⟩:=I.cell y c' e;exact⟨w2,z2.sameBut J af⟩
   . obtain⟨e,n,ne,nf,d⟩:=I.pin p hp;refine⟨(J.2 p.1 ?_).trans e,n,ne,nf,d⟩;intro q;rw[q,ae] at e;have q':oc=p.2:=Option.some.inj e;exact d w' (by rw[<-q'];exact ah)
theorem pX {M:Model}{A:Around}{E:Value->Shared->Prop}{i:Nat}{x:Str}{v:V}{u:Value}{Q:Unit->Shared->Prop}(I:Inv X pins σ H s)(J:X.N.Nodup)(hi:X.N[i]? =some x)(L:Loc X.env.scope x)(r:RelV v u)
 (h:∀s',Inv X pins (σ.set i (some v)) H s'->Q () s') (U:X.fn x=true\/X.env.scope.names.lookup x=some .local:=by first|exact .inl rfl|exact .inr rfl|assumption):wpAny M A (storeName X.env x u) Q E s:=
 EG I J hi L r (λs' Y _=>h s' Y) U
theorem Inv.call' {s':Shared}{ch:List Addr}(I:Inv X pins σ H s)(U:s'.os=s.os)(u:Un (frs X.stack) ch H H' s.heap s'.heap)(J:ft X.prog X.w H' s'.heap)(Y:AllBare s'.gens)
 (L:∀b∈ch,(b∈X.ex\/X.s₀.heap.objs.size<=b)/\b≠X.env.locals/\(∀x c,X.env.cells.lookup x=some c->c≠b)/\∀p∈X.pn++pins,p.1≠b):Inv X pins σ H' s':=by
 obtain⟨h',g',d',t',o'⟩:=s';have e:o'=s.os:=U;subst e;exact I.call (g':=g') (t':=t') (d':=d') u J Y L
end
noncomputable abbrev XK:=Value->Option Addr->Hp->Prop
noncomputable abbrev St:=List (Option V)
noncomputable abbrev VK:=V->Hp->Prop
noncomputable abbrev TE:=St->Hp->VK->Prop
noncomputable abbrev TT:=St->Hp->(Bool->Hp->Prop)->Prop
noncomputable abbrev TA:=St->Hp->(List V->Hp->Prop)->Prop
structure Ends where
 nx:St->Hp->Prop
 rt:VK
 bk:St->Hp->Prop:=λ_ _=>False
 ct:St->Hp->Prop:=λ_ _=>False
noncomputable abbrev TS:=Ends->St->Hp->Prop
def EP (X:Cx) (pins:List (Addr × Obj)) (σ:St) (Q:VK) (u:Value) (s':Shared):Prop:=∃v H',Inv X pins σ H' s'/\RelV v u/\Q v H'
def TP (X:Cx) (pins:List (Addr × Obj)) (σ:St) (Q:Bool->Hp->Prop) (b:Bool) (s':Shared):Prop:=∃H',Inv X pins σ H' s'/\Q b H'
def AP (X:Cx) (pins:List (Addr × Obj)) (σ:St) (Q:List V->Hp->Prop) (us:List Value) (s':Shared):Prop:=∃vs H',Inv X pins σ H' s'/\Vals vs us/\Q vs H'
def SP (X:Cx) (pins:List (Addr × Obj)) (D:Ends) (f:Flow) (s':Shared):Prop:=
 match f with
 | .next=>∃J H',Inv X pins J H' s'/\D.nx J H'
 | .brk=>∃J H',Inv X pins J H' s'/\D.bk J H'
 | .cont=>∃J H',Inv X pins J H' s'/\D.ct J H'
 | .ret u=>∃v J H',Inv X pins J H' s'/\RelV v u/\D.rt v H'
def PE (X:Cx) (e:Expr) (t:TE):Prop:=
 ∀(pins:List (Addr × Obj)) (s:Shared) (σ:St) (H:Hp) (Q:VK),Inv X pins σ H s->t σ H Q->wpAny (model X.prog X.w) X.A (eval e X.env) (EP X pins σ Q) X.xe s
def PT (X:Cx) (e:Expr) (t:TT):Prop:=
 ∀(pins:List (Addr × Obj)) (s:Shared) (σ:St) (H:Hp) (Q:Bool->Hp->Prop),Inv X pins σ H s->t σ H Q->wpAny (model X.prog X.w) X.A (isTrue e X.env (eval e X.env)) (TP X pins σ Q) X.xe s
def PW (X:Cx) (e:Expr) (t:TT):Prop:=
 ∀(J:Sem Value) (pins:List (Addr × Obj)) (s:Shared) (σ:St) (H:Hp) (Q:Bool->Hp->Prop),Inv X pins σ H s->t σ H Q->wpAny (model X.prog X.w) X.A (isTrue e X.env J) (TP X pins σ Q) X.xe s
theorem PW.pt {X:Cx}{e:Expr}{t:TT}(h:PW X e t):PT X e t:=h _
def PA (X:Cx) (es:List Expr) (t:TA):Prop:=
 ∀(pos:Pos) (pins:List (Addr × Obj)) (s:Shared) (σ:St) (H:Hp) (Q:List V->Hp->Prop),Inv X pins σ H s->t σ H Q->wpAny (model X.prog X.w) X.A (spliced (backTo pos (starEach es X.env))) (AP X pins σ Q) X.xe s
def PS (X:Cx) (st:Stmt) (t:TS):Prop:=
 ∀(pins:List (Addr × Obj)) (s:Shared) (σ:St) (H:Hp) (D:Ends),Inv X pins σ H s->t D σ H->wpAny (model X.prog X.w) X.A (exec st X.env) (SP X pins D) X.xe s
def g9 (X:Cx) (st:List Stmt) (t:TS):Prop:=
 ∀(pins:List (Addr × Obj)) (s:Shared) (σ:St) (H:Hp) (D:Ends),Inv X pins σ H s->t D σ H->wpAny (model X.prog X.w) X.A (execs st X.env) (SP X pins D) X.xe s
theorem dD {α:Type}{t:Sem α}{Q J:α->Shared->Prop}{M:Model}{A:Around}{E:Value->Shared->Prop}{s:Shared}(h:wpAny M A t Q E s)(L:∀a s,Q a s->J a s):wpAny M A t J E s:=Q0v h L λ_ _ x=>x
section
variable {X:Cx}
def eV (i:Nat):TE:=λσ H Q=>∃v,σ[i]? =some (some v)/\Q v H
def tC (v:V):TE:=λ_ H Q=>Q v H
theorem EH {i:Nat}{x:Str}{pos:Pos}(Y:X.N[i]? =some x)(hv:pV X.env.scope x)(L:(x == ("__debug__":Str))=false:=by decide)(U:(x == ("__classdict__":Str))=false:=by decide):PE X (.Name x pos) (eV i):=by
 intro pins s σ H Q I h;obtain⟨v,e,h⟩:=h;obtain⟨m,hn,hl⟩:=I.loc;obtain⟨u,r,l⟩:=hl i x v Y e hv;have fin:EP X pins σ Q u s:=⟨v,H,I,r,h⟩;rcases l with⟨hk,hm⟩|⟨hk,c,hc,J⟩
 . exact wpAny_Name (wpAny_loadName_local I.ok.kind hk hn hm fin) L
 . rcases hk with hk|hk
   . exact wpAny_Name (wpAny_loadName_cell I.ok.kind hk hc J fin) L
   . exact wpAny_Name (wpAny_loadName_free I.ok.kind hk hc J fin U) L
theorem c_ {i j pos}:PE X (.Constant (.int i) j pos) (tC (.int i)):=λ_ _ _ H _ I h=>wpAny_Constant_int ⟨.int i,H,I.tok _,⟨_,rfl⟩,h⟩
theorem jk {b j pos}:PE X (.Constant (.bool b) j pos) (tC (.bl b)):=λ_ _ _ H _ I h=>Constant_bool ⟨.bl b,H,I,rfl,h⟩
theorem EI {j pos}:PE X (.Constant .none j pos) (tC .non):=λ_ _ _ H _ I h=>Constant_none ⟨.non,H,I,rfl,h⟩
theorem dv {x j pos}:PE X (.Constant (.str x) j pos) (tC (.str x)):=λ_ _ _ H _ I h=>Calls.Constant_str ⟨.str x,H,I.tok _,⟨_,rfl⟩,h⟩
def Gl (X:Cx) (x:Str):Prop:=X.env.kindOf x=some .globalImplicit
theorem sA {E:Value->Shared->Prop}{pins:List (Addr × Obj)}{s:Shared}{σ:St}{H:Hp}{x:Str}{u:Value}{pos:Pos}{Q:Value->Shared->Prop}(I:Inv X pins σ H s)(J:Gl X x)(L:X.mg x=some u)(h:Q u s)
 (U:(x == ("__debug__":Str))=false:=by decide):wpAny (model X.prog X.w) X.A (eval (.Name x pos) X.env) Q E s:=
 Calls.Name_function_global I.ok.kind J (Calls.loadGlobal_global (by rw[I.ok.glob];exact I.mod.glob.keeps I.bk) L h) U
theorem j0 {E:Value->Shared->Prop}{pins:List (Addr × Obj)}{s:Shared}{σ:St}{H:Hp}{x:Str}{u:Value}{pos:Pos}{Q:Value->Shared->Prop}(I:Inv X pins σ H s)(J:Gl X x)(L:X.mg x=none)(U:bootBuiltins x=some u)(h:Q u s)
 (Y:x≠"__name__":=by decide) (hd:(x == ("__debug__":Str))=false:=by decide):wpAny (model X.prog X.w) X.A (eval (.Name x pos) X.env) Q E s:=by
 obtain⟨mb,h1,h2⟩:=I.mod.blt;exact Calls.Name_function_global I.ok.kind J (Calls.loadGlobal_builtin (by rw[I.ok.glob];exact I.mod.glob.keeps I.bk) L (by rw[I.ok.blt];exact h1.keeps I.bk) ((h2 x Y).trans U) h) hd
theorem pY {x:Str}{v:V}{u:Value}{pos:Pos}(J:Gl X x)(L:X.mg x=some u)(r:RelV v u)(U:(x == ("__debug__":Str))=false:=by decide):PE X (.Name x pos) (tC v):=
 λ_ _ _ H _ I h=>sA I J L ⟨v,H,I,r,h⟩ U
theorem eW {x:Str}{v:V}{u:Value}{pos:Pos}(J:Gl X x)(L:X.mg x=none)(U:bootBuiltins x=some u)(r:RelV v u)(Y:x≠"__name__":=by decide)(hd:(x == ("__debug__":Str))=false:=by decide):PE X (.Name x pos) (tC v):=
 λ_ _ _ H _ I h=>j0 I J L U ⟨v,H,I,r,h⟩ Y hd
variable {a b:Expr}{ta tb:TE}{pos:Pos}
def PC (X:Cx) (U:CmpOp) (a b:Expr) (t:TE):Prop:=
 ∀(pins:List (Addr × Obj)) (s:Shared) (σ:St) (H:Hp) (Q:VK),Inv X pins σ H s->t σ H Q->
  wpAny (model X.prog X.w) X.A (eval a X.env) (λv J=>wpAny (model X.prog X.w) X.A (eval b X.env) (λu L=>wpAny (model X.prog X.w) X.A (compareOp U v u) (EP X pins σ Q) X.xe L) X.xe J) X.xe s
def tB (t:TE):TT:=λσ H Q=>t σ H λx H1=>∃c,x=.bl c/\Q c H1
theorem EJ {L:CmpOp}{t:TE}(h:PC X L a b t)(h1:behindInMarks L b=false:=by first|exact J _ (by decide) (by decide)|rfl):PE X (.Compare a [L] [b] pos) t:=λpins s σ H Q I hw=>wpAny_Compare1 (h pins s σ H Q I hw) h1
theorem EK {L:CmpOp}{t:TE}(h:PC X L a b t)(h1:behindInMarks L b=false:=by first|exact J _ (by decide) (by decide)|rfl):PT X (.Compare a [L] [b] pos) (tB t):=by
 intro pins s σ H Q I hw;refine wpAny_isTrue_Compare1 (dD (h pins s σ H _ I hw) λv s1 h1=>dD h1 λu s2 h2=>dD h2 λc s3 zq=>?_) h1;obtain⟨x,H1,U,Y,q1⟩:=zq;obtain⟨d,rfl,q⟩:=q1
 cases Y;exact wpAny_truthy_bool ⟨H1,U,q⟩
theorem eN {e:Expr}{t:TE}(h:PE X e t)(L:∀J,isTrue e X.env J=(do let v <-J;standAt e.pos;holding [v] (truthy v)):=by intro _;rfl):PT X e (tB t):=by
 intro pins s σ H Q I hw;refine isTrue_plain (dD (h pins s σ H _ I hw) λv s1 zq=>?_) (L _);obtain⟨x,H1,U,Y,q1⟩:=zq;obtain⟨d,rfl,q⟩:=q1
 cases Y;exact wpAny_truthy_bool ⟨H1,U,q⟩
variable {tA pZ:TT}{rest:List Expr}
def EL (t u:TT):TT:=λσ H Q=>t σ H λc H1=>if c=true then u σ H1 Q else Q false H1
def EM (t u:TT):TT:=λσ H Q=>t σ H λc H1=>if c=true then Q true H1 else u σ H1 Q
def EN (t:TT):TT:=λσ H Q=>t σ H λc H1=>Q (!c) H1
theorem j1 (J:PT X a tA):PW X (.BoolOp .And [a] pos) tA:=by
 intro L pins s σ H Q I h;refine isTrue_and (dD (J pins s σ H Q I h) λc U e=>?_)
 cases c with
 |true=>exact isTrue_and_nil e
 |false=>exact e
theorem iw (J:PT X a tA):PW X (.BoolOp .Or [a] pos) tA:=by
 intro L pins s σ H Q I h;refine isTrue_or (dD (J pins s σ H Q I h) λc U e=>?_)
 cases c with
 |false=>exact isTrue_or_nil e
 |true=>exact e
theorem i8 (U:PT X a tA)(Y:PW X (.BoolOp .And (b::rest) pos) pZ):PW X (.BoolOp .And (a::b::rest) pos) (EL tA pZ):=by
 intro wh pins s σ H Q I h;refine isTrue_and (dD (U pins s σ H _ I h) λc s1 ⟨H1,J,L⟩=>?_)
 cases c with
 |true=>exact Y wh pins s1 σ H1 Q J L
 |false=>exact⟨H1,J,L⟩
theorem ig (U:PT X a tA)(Y:PW X (.BoolOp .Or (b::rest) pos) pZ):PW X (.BoolOp .Or (a::b::rest) pos) (EM tA pZ):=by
 intro wh pins s σ H Q I h;refine isTrue_or (dD (U pins s σ H _ I h) λc s1 ⟨H1,J,L⟩=>?_)
 cases c with
 |true=>exact⟨H1,J,L⟩
 |false=>exact Y wh pins s1 σ H1 Q J L
theorem iN (J:PT X a tA):PT X (.UnaryOp .Not a pos) (EN tA):=by
 intro pins s σ H Q I h;exact isTrue_not (J pins s σ H (λc H1=>Q (!c) H1) I h)
def yT (ta tb:TE):TE:=λσ H Q=>ta σ H λx H1=>∃c,x=.bl c/\if c=true then tb σ H1 Q else Q (.bl false) H1
def EO (ta:TE):TE:=λσ H Q=>ta σ H λx H1=>∃c,x=.bl c/\Q (.bl (!c)) H1
theorem mG {J}{t:TE}(h:PE X a t):PE X (.BoolOp J [a] pos) t:=λpins s σ H Q I hw=>BoolOp_one (h pins s σ H Q I hw)
theorem k9 (U:PE X a ta)(Y:PE X (.BoolOp .And (b::rest) pos) tb):PE X (.BoolOp .And (a::b::rest) pos) (yT ta tb):=by
 intro pins s σ H Q I h;refine BoolOp_and (dD (U pins s σ H _ I h) λv s1 zq=>?_);obtain⟨x,H1,L,r1,J⟩:=zq;obtain⟨c,rfl,J⟩:=J
 cases r1;refine wpAny_truthy_bool ?_
 cases c with
 |true=>exact Y pins s1 σ H1 Q L J
 |false=>exact⟨.bl false,H1,L,rfl,J⟩
theorem yU (L:PE X a ta):PE X (.UnaryOp .Not a pos) (EO ta):=by
 intro pins s σ H Q I h;refine UnaryOp_ (dD (L pins s σ H _ I h) λv s1 zq=>?_);obtain⟨x,H1,U,Y,J⟩:=zq;obtain⟨c,rfl,J⟩:=J
 cases Y;exact not_of (wpAny_truthy_bool ⟨.bl (!c),H1,U,rfl,J⟩)
def ER (t:TT) (ta tb:TE):TE:=λσ H Q=>t σ H λc H1=>if c=true then ta σ H1 Q else tb σ H1 Q
theorem ES {c:Expr}(hc:PT X c tA)(Y:PE X a ta)(hb:PE X b tb):PE X (.IfExp c a b pos) (ER tA ta tb):=by
 intro pins s σ H Q I h;refine wpAny_IfExp (dD (hc pins s σ H _ I h) λd J ⟨H1,L,U⟩=>?_)
 cases d with
 |true=>exact Y pins J σ H1 Q L U
 |false=>exact hb pins J σ H1 Q L U
end
def dy (K:W.Frag) (H:Hp) (a:Addr) (xs:List V):Prop:=
 Rd H a (.lst xs)\/
  ∃(o:Obj) (J:Array Value) (n:Nat),K.lookup a=some o/\o.cls=.type "list"/\o.dict=none/\o.data=.seq J n/\J.size<=sizeLine/\Vals xs J.toList
def du (K:W.Frag) (H:Hp) (a:Addr) (xs:List V):Prop:=
 Rd H a (.tup xs)\/
  ∃(o:Obj) (J:Array Value) (n:Nat),K.lookup a=some o/\o.cls=.type "tuple"/\o.data=.seq J n/\J.size<=sizeLine/\Vals xs J.toList
noncomputable def ET:Value->Option V
 | .none=>some .non
 | .bool b=>some (.bl b)
 | .int i _=>some (.int i)
 | .str x _=>some (.str x)
 | .bytes b _=>some (.jh b)
 | .float b _=>some (.flt b)
 | .ref a=>some (.ref a)
 | .type n=>some (.ty n)
 |_=>none
theorem RelV.abs {x:V}{u:Value}(r:RelV x u):ET u=some x:=by
 cases x with
 |non=>cases r;rfl
 |bl _=>cases r;rfl
 |int _=>obtain⟨t,rfl⟩:=r;rfl
 |str _=>obtain⟨t,rfl⟩:=r;rfl
 |jh _=>obtain⟨t,rfl⟩:=r;rfl
 |flt _=>obtain⟨t,rfl⟩:=r;rfl
 |ref _=>cases r;rfl
 |ty _=>cases r;rfl
theorem RelV.inj {x y:V}{u:Value}(r:RelV x u)(q:RelV y u):x=y:=Option.some.inj (r.abs.symm.trans q.abs)
theorem Vals.inj:∀{xs ys:List V}{us:List Value},Vals xs us->Vals ys us->xs=ys
 |_,_,_,.nil,.nil=>rfl
 |_,_,_,.cons r t,.cons J t'=>by rw[r.inj J,Vals.inj t t']
section
variable {X:Cx}{pins:List (Addr × Obj)}{σ:St}{H:Hp}{s:Shared}{a:Addr}{xs ys:List V}
theorem dy.of {K:W.Frag}(h:H a=some (.lst xs)):dy K H a xs:=.inl (.inl h)
theorem du.of {K:W.Frag}(h:H a=some (.tup xs)):du K H a xs:=.inl (.inl h)
theorem Inv.list (I:Inv X pins σ H s)(h:dy X.K H a xs):∃J:List Value,Vals xs J/\PlainL s.heap a J.toArray/\xs.length<=sizeLine:=by
 rcases h with h|⟨o,J,n,hk,hc,L,U,Y,r⟩
 . obtain⟨z,J,n,r,e⟩:=h.ok I.hok;exact⟨J,r,⟨_,n,e,rfl,rfl,rfl⟩,z⟩
 . refine⟨J.toList,r,⟨o,n,I.fS a o hk,hc,L,by simpa using U⟩,?_⟩;have e:=r.length;simp only[Q1h] at e;omega
theorem Inv.tuple (I:Inv X pins σ H s)(h:du X.K H a xs):∃J:List Value,Vals xs J/\IsTup s.heap a J.toArray/\xs.length<=sizeLine:=by
 rcases h with h|⟨o,J,n,hk,hc,L,U,r⟩
 . obtain⟨z,J,r,p⟩:=h.ok I.hok;exact⟨J,r,p,z⟩
 . refine⟨J.toList,r,⟨o,I.fS a o hk,hc,n,by simpa using L⟩,?_⟩;have e:=r.length;simp only[Q1h] at e;omega
theorem Inv.nW (I:Inv X pins σ H s)(h:dy X.K H a xs)(h':dy X.K H a ys):xs=ys:=by
 obtain⟨J,r,⟨o,n,e,_,_,d⟩,_⟩:=I.list h;obtain⟨its',U,⟨o',n',L,_,_,d'⟩,_⟩:=I.list h';rw[e] at L;cases L;rw[d] at d';injection d' with Y _
 have:J=its':=by simpa using congrArg Array.toList Y
 subst this;exact r.inj U
theorem Inv.p0 (I:Inv X pins σ H s)(h:du X.K H a xs)(h':du X.K H a ys):xs=ys:=by
 obtain⟨J,r,⟨o,e,_,n,d⟩,_⟩:=I.tuple h;obtain⟨its',U,⟨o',L,_,n',d'⟩,_⟩:=I.tuple h';rw[e] at L;cases L;rw[d] at d';injection d' with Y _
 have:J=its':=by simpa using congrArg Array.toList Y
 subst this;exact r.inj U
end
noncomputable abbrev Cx.wish (X:Cx) (E:Value->Shared->Prop):Cx:={ X with xe:=E }
noncomputable abbrev Cx.d8 (X:Cx):Cx:=X.wish λ_ _=>False
theorem Cx.Ok.wish {X:Cx}(ok:X.Ok)(E:Value->Shared->Prop):(X.wish E).Ok:=
 ⟨ok.mod,ok.kind,ok.glob,ok.blt,ok.above,ok.inj,ok.has,ok.cab,ok.hd,ok.frames,ok.stk,ok.yR,ok.bs,ok.jG,ok.nU,ok.pW,ok.i7,ok.k8⟩
theorem Cx.Ok.k_ {X:Cx}{E:Value->Shared->Prop}(ok:(X.wish E).Ok):X.Ok:=
 ⟨ok.mod,ok.kind,ok.glob,ok.blt,ok.above,ok.inj,ok.has,ok.cab,ok.hd,ok.frames,ok.stk,ok.yR,ok.bs,ok.jG,ok.nU,ok.pW,ok.i7,ok.k8⟩
section
variable {X:Cx}{pins:List (Addr × Obj)}{σ:St}{H:Hp}{s:Shared}{E:Value->Shared->Prop}
theorem Inv.wish (I:Inv X pins σ H s)(E:Value->Shared->Prop):Inv (X.wish E) pins σ H s:=⟨I.ok.wish E,I.os,I.bare,I.base,I.loc,I.cell,I.free,I.iM,I.pin,I.hok,I.len⟩
theorem Inv.k_ (I:Inv (X.wish E) pins σ H s):Inv X pins σ H s:=⟨I.ok.k_,I.os,I.bare,I.base,I.loc,I.cell,I.free,I.iM,I.pin,I.hok,I.len⟩
theorem SP.k_ {D:Ends}{f:Flow}{s':Shared}(h:SP (X.wish E) pins D f s'):SP X pins D f s':=by
 cases f with
 |next=>obtain⟨J,H',I,q⟩:=h;exact⟨J,H',I.k_,q⟩
 |brk=>obtain⟨J,H',I,q⟩:=h;exact⟨J,H',I.k_,q⟩
 |cont=>obtain⟨J,H',I,q⟩:=h;exact⟨J,H',I.k_,q⟩
 |ret u=>obtain⟨v,J,H',I,r,q⟩:=h;exact⟨v,J,H',I.k_,r,q⟩
theorem g9.d8 {st:List Stmt}{t:TS}(h:g9 X.d8 st t):g9 X st t:=λpins s σ H D I hw=>
 Q0v (h pins s σ H D (I.wish _) hw) (λ_ _ q=>q.k_) λ_ _ z=>False.elim z
end
section
variable {X:Cx}{st:Stmt}{rest:List Stmt}{t u:TS}{e:Expr}{te:TE}{pos:Pos}
def EU:TS:=λD σ H=>D.nx σ H
def p_ (t u:TS):TS:=λD σ H=>t { D with nx:=u D } σ H
theorem dO:g9 X [] EU:=λ_ _ σ H _ I h=>wpAny_execs_nil ⟨σ,H,I,h⟩
theorem dh (h1:PS X st t)(h2:g9 X rest u):g9 X (st::rest) (p_ t u):=by
 intro pins s σ H D I h;refine wpAny_execs_cons (dD (h1 pins s σ H { D with nx:=u D } I h) λf L q=>?_)
 cases f with
 |next=>
  obtain⟨J,H',U,q⟩:=q;exact h2 pins L J H' D U q
 |ret v=>exact q
 |brk=>exact q
 |cont=>exact q
theorem dq (h1:PS X st t):g9 X [st] t:=by
 intro pins s σ H D I h;refine wpAny_execs_cons (dD (h1 pins s σ H D I h) λf J q=>?_)
 cases f with
 |next=>exact wpAny_execs_nil q
 |ret v=>exact q
 |brk=>exact q
 |cont=>exact q
theorem Inv.quiet {pins:List (Addr × Obj)}{σ:St}{H:Hp}{s:Shared}(I:Inv X pins σ H s):interactive X.env=false:=by simp[interactive,I.ok.kind]
def EV (te:TE):TS:=λD σ H=>te σ H λ_ H1=>D.nx σ H1
theorem fC (J:PE X e te)(L:swapsWith e none pos.line X.env=pure false:=by rfl):PS X (.Expr e pos) (EV te):=by
 intro pins s σ H D I h;exact wpAny_Expr_any (dD (J pins s σ H _ I h) λv s1 ⟨x,H1,U,r1,Y⟩=>⟨σ,H1,U,Y⟩) I.quiet L
def EW (te:TE):TS:=λD σ H=>te σ H D.rt
theorem dF (J:PE X e te):PS X (.Return (some e) pos) (EW te):=by
 intro pins s σ H D I h;exact wpAny_Return_some (dD (J pins s σ H _ I h) λv s1 ⟨x,H1,L,U,Y⟩=>⟨x,σ,H1,L,U,Y⟩)
def lP (c:TT) (t u:TS):TS:=λD σ H=>c σ H λb H1=>if b=true then t D σ H1 else u D σ H1
theorem dM {c:Expr}{a b:List Stmt}{tc:TT}(hc:PT X c tc)(Y:g9 X a t)(hb:g9 X b u):PS X (.If c a b pos) (lP tc t u):=by
 intro pins s σ H D I h;refine wpAny_If (dD (hc pins s σ H _ I h) λd J ⟨H1,L,U⟩=>?_)
 cases d with
 |true=>exact Y pins J σ H1 D L U
 |false=>exact hb pins J σ H1 D L U
def yV:TS:=λ_ _ _=>False
theorem fZ:PS X st yV:=λ_ _ _ _ _ _ h=>h.elim
theorem EX {J:List Stmt}:g9 X J yV:=λ_ _ _ _ _ _ h=>h.elim
end
noncomputable abbrev TG:=V->St->Hp->(St->Hp->Prop)->Prop
noncomputable abbrev lQ:=List V->St->Hp->(St->Hp->Prop)->Prop
def PG (X:Cx) (J:Expr) (t:TG):Prop:=
 ∀(pins:List (Addr × Obj)) (s:Shared) (σ:St) (H:Hp) (v:V) (u:Value) (Q:St->Hp->Prop),Inv X pins σ H s->RelV v u->t v σ H Q->
  wpAny (model X.prog X.w) X.A (assign J X.env u) (λ_ s'=>∃L H',Inv X pins L H' s'/\Q L H') X.xe s
def qa (X:Cx) (L:List Expr) (t:lQ):Prop:=
 ∀(pins:List (Addr × Obj)) (s:Shared) (σ:St) (H:Hp) (vs:List V) (us:List Value) (Q:St->Hp->Prop),Inv X pins σ H s->Vals vs us->t vs σ H Q->
  wpAny (model X.prog X.w) X.A (assignInOrder ((assignEach L X.env).map (·.2)) us) (λ_ s'=>∃J H',Inv X pins J H' s'/\Q J H') X.xe s
noncomputable abbrev sC:=V->V->V->Hp->(Hp->Prop)->Prop
def yW (X:Cx) (t:sC):Prop:=
 ∀(pins:List (Addr × Obj)) (s:Shared) (σ:St) (H:Hp) (o i v:V) (J iv u:Value) (Q:Hp->Prop),Inv X pins σ H s->RelV o J->RelV i iv->RelV v u->t o i v H Q->
  wpAny (model X.prog X.w) X.A (setItem J iv u) (λ_ s'=>∃H',Inv X pins σ H' s'/\Q H') X.xe s
noncomputable abbrev qb:=V->V->Hp->VK->Prop
def yX (X:Cx) (J:Operator) (t:qb):Prop:=
 ∀(pins:List (Addr × Obj)) (s:Shared) (σ:St) (H:Hp) (x y:V) (v u:Value) (Q:VK),Inv X pins σ H s->RelV x v->RelV y u->t x y H Q->
  wpAny (model X.prog X.w) X.A (inplaceOp J v u) (EP X pins σ Q) X.xe s
section
variable {X:Cx}{pos:Pos}
def fU (i:Nat):TG:=λv σ H Q=>Q (σ.set i (some v)) H
theorem e8 {i:Nat}{x:Str}(J:X.N.Nodup)(hi:X.N[i]? =some x)(L:Loc X.env.scope x)(U:X.fn x=true\/X.env.scope.names.lookup x=some .local:=by first|exact .inl rfl|exact .inr rfl|assumption):PG X (.Name x pos) (fU i):=by
 intro pins s σ H v u Q I r h;exact wpAny_assign_Name (pX I J hi L r (λs' Y=>⟨_,H,Y,h⟩) U)
def qf:lQ:=λvs σ H Q=>vs=[]/\Q σ H
def lS (t:TG) (u:lQ):lQ:=λvs σ H Q=>∃v r,vs=v::r/\t v σ H λJ H'=>u r J H' Q
theorem j3:qa X [] qf:=by
 intro pins s σ H vs us Q I r h;obtain⟨e,h⟩:=h;subst e
 cases r;exact assignInOrder_nil ⟨σ,H,I,h⟩
theorem gK {e:Expr}{es:List Expr}{t:TG}{u:lQ}(h1:PG X e t)(h2:qa X es u)
 (L:(assignEach (e::es) X.env).map (·.2)=assign e X.env::(assignEach es X.env).map (·.2):=by rfl):qa X (e::es) (lS t u):=by
 intro pins s σ H vs us Q I r h;obtain⟨v,vr,e1,h⟩:=h;subst e1
 cases r with
 |cons r U=>
  rw[L];refine assignInOrder_cons (dD (h1 pins s σ H _ _ _ I r h) λ_ Y zq=>?_);obtain⟨J,H1,I1,q1⟩:=zq;exact h2 pins Y J H1 _ _ Q I1 U q1
def qg (K:W.Frag) (n:Nat) (t:lQ):TG:=λv σ H Q=>∃a xs,v=.ref a/\du K H a xs/\xs.length=n/\t xs σ H Q
theorem j4 {es:List Expr}{k:Nat}{t:lQ}{n:Nat}(hc:X.calm=true)(h:qa X es t)
 (U:(assignEach es X.env).length=n:=by rfl) (J:(assignEach es X.env).findIdx? (·.1)=none:=by rfl):PG X (.Tuple es k pos) (qg X.K n t):=by
 intro pins s σ H v u Q I r hw;obtain⟨a,xs,e1,Y,hl,hw⟩:=hw;subst e1
 cases r;obtain⟨aa,L,ht,hz⟩:=I.tuple Y;refine assign_Tuple_tuple (I.ok.hd hc) ht (by simp[U,<-hl,L.length]) J λh' hx=>?_;have I1:Inv X pins σ H { s with heap:=h' }:=I.kept (t':=s.toks) λb o e=>hx b o (Q0c (Q03 e)) e;exact h pins _ σ H xs _ Q I1 (by simpa using L) hw
def EY (to J:TE) (t:sC):TG:=λv σ H Q=>to σ H λo H1=>J σ H1 λi H2=>t o i v H2 λL=>Q σ L
theorem EZ {o i:Expr}{to L:TE}{t:sC}(U:PE X o to)(hi:PE X i L)(Y:yW X t)
 (ha:∀v,assign (.Subscript o i pos) X.env v=(do
   let J <-holding [v] (eval o X.env);let iv <-holding [v,J] (eval i X.env)
   standAt pos
   holding [v,J,iv] (setItem J iv v)
   release [v,J,iv] []):=by intro _;rfl):PG X (.Subscript o i pos) (EY to L t):=by
 intro pins s σ H v u Q I r h;rw[ha];refine Q0 (wpAny_holding (dD (U pins s σ H _ I h) λJ s1 zq=>?_));obtain⟨x,H1,I1,r1,q1⟩:=zq;refine Q0 (wpAny_holding (dD (hi pins s1 σ H1 _ I1 q1) λiv s2 zq=>?_));obtain⟨y,H2,I2,r2,q2⟩:=zq;refine Q0 (wpAny_standAt (Q0 (wpAny_holding (dD (Y pins s2 σ H2 x y v J iv u _ I2 r1 r2 r q2) λ_ s3 ⟨H3,I3,q3⟩=>?_))));exact wpAny_release ⟨σ,H3,I3,q3⟩
def nX (te:TE) (g:TG):TS:=λD σ H=>te σ H λx H1=>g x σ H1 D.nx
theorem yY {tg e:Expr}{te:TE}{g:TG}(J:PE X e te)(L:PG X tg g)(U:swapsWithSole [tg] e pos.line X.env=pure false:=by rfl)(hw:swappedStores [tg] e X.env=pure none:=by rfl)
 (h1:(assignEach [tg] X.env).map (·.2)=[assign tg X.env]:=by rfl):PS X (.Assign [tg] e pos) (nX te g):=by
 intro pins s σ H D I h;refine wpAny_Assign_stores (dD (J pins s σ H _ I h) λv Y zq=>?_) U hw;obtain⟨x,H1,I1,r1,q1⟩:=zq;rw[h1];exact dD (L pins Y σ H1 x v _ I1 r1 q1) λ_ s2 q=>q
theorem yZ {i:Nat}{x:Str}{e:Expr}{te:TE}{pos':Pos}(J:X.N.Nodup)(hi:X.N[i]? =some x)(L:Loc X.env.scope x)(U:PE X e te)(Y:swapsWith e (some (.Name x pos')) pos.line X.env=pure false:=by rfl)(hf:X.fn x=true\/X.env.scope.names.lookup x=some .local:=by first|exact .inl rfl|exact .inr rfl|assumption):
 PS X (.Assign [.Name x pos'] e pos) (nX te (fU i)):=by
 intro pins s σ H D I h;refine wpAny_Assign_Name (dD (U pins s σ H _ I h) λv s1 zq=>?_) Y;obtain⟨y,H1,I1,r1,q1⟩:=zq;exact pX I1 J hi L r1 (λs2 I2=>⟨_,H1,I2,q1⟩) hf
def E1 (i:Nat) (te:TE) (J:qb):TS:=λD σ H=>∃x,σ[i]? =some (some x)/\te σ H λy H1=>J x y H1 λz H2=>D.nx (σ.set i (some z)) H2
theorem y7 {i:Nat}{x:Str}{e:Expr}{te:TE}{Y:Operator}{ti:qb}{pos':Pos}(hN:X.N.Nodup)(hi:X.N[i]? =some x)(hx:Loc X.env.scope x)(he:PE X e te)(ho:yX X Y ti)(hf:X.fn x=true\/X.env.scope.names.lookup x=some .local:=by first|exact .inl rfl|exact .inr rfl|assumption):
 PS X (.AugAssign (.Name x pos') Y e pos) (E1 i te ti):=by
 intro pins s σ H D I h;obtain⟨v,e1,h⟩:=h;obtain⟨m,hn,hl⟩:=I.loc;have aa:pV X.env.scope x:=by rcases hx with k|k;exact .inl k;exact .inr (.inl k)
 obtain⟨u,r,l⟩:=hl i x v hi e1 aa;refine wpAny_AugAssign_Name ?_
 have go:wpAny (model X.prog X.w) X.A (eval e X.env) (λw L=>wpAny (model X.prog X.w) X.A (inplaceOp Y u w) (λr U=>wpAny (model X.prog X.w) X.A (storeName X.env x r) (λ_=>SP X pins D .next) X.xe U) X.xe L) X.xe s:=by
  refine dD (he pins s σ H _ I h) λw s1 zq=>?_;obtain⟨y,H1,I1,r1,q1⟩:=zq;refine dD (ho pins s1 σ H1 v y u w _ I1 r r1 q1) λz s2 zq=>?_;obtain⟨zv,H2,I2,r2,q2⟩:=zq;exact pX I2 hN hi hx r2 (λs3 I3=>⟨_,H2,I3,q2⟩) hf
 rcases l with⟨hk,hm⟩|⟨hk,c,hc,J⟩
 . exact wpAny_loadName_local I.ok.kind hk hn hm go
 . rcases hk with hk|hk
   . exact wpAny_loadName_cell I.ok.kind hk hc J go
   . rcases hx with k|k
     . have:X.env.scope.names.lookup x=some .free:=hk;rw[k] at this;cases this
     . have:X.env.scope.names.lookup x=some .free:=hk;rw[k] at this;cases this
noncomputable def E2 (f:Int->Int->Int):qb:=λx y H Q=>∃i j,x=.int i/\y=.int j/\Q (.int (f i j)) H
theorem y8:yX X .Add (E2 λi j=>i+j):=by
 intro pins s σ H x y v u Q I J L h;obtain⟨i,j,e1,U,q⟩:=h;subst e1;subst U;obtain⟨t,rfl⟩:=J;obtain⟨t',rfl⟩:=L;exact iadd_int ⟨.int _,H,I.tok _,⟨_,rfl⟩,q⟩
end
section
variable {X:Cx}{pos:Pos}
def E3 (c:TT) (tb:TS):TS:=λD σ H=>∃W:Nat->St->Hp->Prop,(∃m,W m σ H)/\∀m σ H,W m σ H->
 c σ H λb H1=>if b=true then ∃N:St->Hp->Prop,(∀J H',N J H'->∃L,L<m/\W L J H')/\tb { D with nx:=N,ct:=N,bk:=D.nx } σ H1 else D.nx σ H1
theorem qh {c:Expr}{body:List Stmt}{tc:TT}{tb:TS}(hp:PassesOwn (model X.prog X.w) X.A X.env X.xe)(hc:PT X c tc)(hb:g9 X body tb):PS X (.While c body [] pos) (E3 tc tb):=by
 intro pins s σ H D I h;obtain⟨W,⟨m0,w0⟩,aa⟩:=h;refine wpAny_While (codeAny_whileLoop (λn s'=>∃Y H',Inv X pins Y H' s'/\W n Y H') ?_ m0 ⟨σ,H,I,w0⟩);rintro n s1 ⟨L,H1,I1,w1⟩;refine wpAny_passesOwn hp (dD (hc pins s1 L H1 _ I1 (aa n L H1 w1)) λb s2 ⟨H2,I2,q2⟩=>?_)
 cases b with
 |true=>
  obtain⟨N,hN,q2⟩:=q2;rw[if_pos rfl];refine wpAny_passesOwn hp (dD (hb pins s2 L H2 _ I2 q2) λf s3 q3=>?_)
  cases f with
  |next=>
   obtain⟨J,U,I3,n3⟩:=q3;obtain⟨m',hm,w3⟩:=hN J U n3;exact⟨m',hm,J,U,I3,w3⟩
  |cont=>
   obtain⟨J,U,I3,n3⟩:=q3;obtain⟨m',hm,w3⟩:=hN J U n3;exact⟨m',hm,J,U,I3,w3⟩
  |brk=>exact q3
  |ret v=>exact q3
 |false=>
  rw[if_neg Bool.false_ne_true];exact wpAny_execs_nil ⟨L,H2,I2,q2⟩
end
structure It where
 go:Nat->Hp->Prop
 jH:Nat->Hp->V->Hp->Prop
 stop:Nat->Hp->Prop
def gU (X:Cx) (pins:List (Addr × Obj)) (H:Hp) (b:Addr):Prop:=
 H b=none/\b≠X.env.locals/\b ∉ X.fs/\(b∈X.ex\/X.s₀.heap.objs.size<=b)/\(∀x c,X.env.cells.lookup x=some c->c≠b)/\∀p∈X.pn++pins,p.1≠b
theorem Inv.jI {X:Cx}{pins:List (Addr × Obj)}{σ:St}{H H':Hp}{s:Shared}{b:Addr}(I:Inv X pins σ H s)(J:s.heap.objs.size<=b)(L:H' b=none):gU X pins H' b:=by
 refine⟨L,Q0r (Q0g I.lt J),I.mF J,.inr (Q07 I.sz J),λx c e z=>?_,λp hp z=>?_⟩
 . obtain⟨v,q⟩:=I.cell x c e;exact absurd (Q0g q.lt (by rw[z];exact J)) (Q10 _)
 . exact absurd (Q0g (Q03 (I.pin p hp).1) (by rw[z];exact J)) (Q10 _)
structure Turn (P:Program) (w:World) (K:W.Frag) (tg:Expr) (J:It) (fp:List Addr) (it:Addr) (tn:Nat->Heap->Prop):Prop where
 mem:it∈fp
 obj:∀i h,tn i h->∀b∈fp,∃o,h.get? b=some o/\∀v,o.data≠ .cell v
 keep:∀i h h',tn i h->(∀b∈fp,∀o,h.get? b=some o->h'.get? b=some o)->tn i h'
 item:∀(X:Cx),X.prog=P->X.w=w->X.K=K->X.calm=true->∀(i:Nat) (pins:List (Addr × Obj)) (s:Shared) (σ:St) (H:Hp) (E:Value->Shared->Prop),Inv X pins σ H s->(∀b∈fp,gU X pins H b)->tn i s.heap->J.go i H->
  wpAny (model P w) X.A (pyNext (.ref it)) (λr s1=>∃u,r=some u/\
   wpAny (model P w) X.A (letOwnedTupleGo tg (.ref it) u) (λ_ s2=>∃x H',Inv X pins σ H' s2/\RelV x u/\J.jH i H x H'/\tn (i+1) s2.heap/\∀b∈fp,H' b=none) E s1) E s
 done:∀(X:Cx),X.prog=P->X.w=w->X.K=K->X.calm=true->∀(i:Nat) (pins:List (Addr × Obj)) (s:Shared) (σ:St) (H:Hp) (E:Value->Shared->Prop),Inv X pins σ H s->(∀b∈fp,gU X pins H b)->tn i s.heap->J.stop i H->
  wpAny (model P w) X.A (pyNext (.ref it)) (λr s1=>r=none/\Inv X pins σ H s1) E s
 self:∀(A:Around) (i:Nat) (s:Shared) (Q:Value->Shared->Prop) (E:Value->Shared->Prop),tn i s.heap->Q (.ref it) s->wpAny (model P w) A (pyIter (.ref it)) Q E s
noncomputable abbrev TI:=St->Hp->(It->Hp->Prop)->Prop
def PIE (X:Cx) (pins:List (Addr × Obj)) (σ:St) (tg:Expr) (R:It->Hp->Prop) (L:Value) (U:Shared):Prop:=
 ∃(it:Addr) (fp:List Addr) (Y:Nat->Heap->Prop) (J:It) (H':Hp),L=.ref it/\Inv X pins σ H' U/\Turn X.prog X.w X.K tg J fp it Y/\Y 0 U.heap/\(∀b∈fp,gU X pins H' b)/\R J H'
def PI (X:Cx) (tg iter:Expr) (J:TI):Prop:=
 ∀(pins:List (Addr × Obj)) (s:Shared) (σ:St) (H:Hp) (R:It->Hp->Prop),Inv X pins σ H s->J σ H R->
  wpAny (model X.prog X.w) X.A (eval iter X.env) (λv L=>wpAny (model X.prog X.w) X.A (pyIter v) (PIE X pins σ tg R) X.xe L) X.xe s
theorem nY {M:Model}{A:Around}{E:Value->Shared->Prop}{s:Shared}{tg:Expr}{it:Addr}{u:Value}{o:Obj}{n:String}{vs:Array Value}{Q:Unit->Shared->Prop}(L:s.heap.get? it=some o)(hc:o.cls=.type n)(U:o.data=.fields vs)
 (Y:["enumerate","zip","dict_itemiterator","dict_reverseitemiterator","odict_iterator","itertools.zip_longest","itertools.pairwise"].contains n=false) (J:Q () s):wpAny M A (letOwnedTupleGo tg (.ref it) u) Q E s:=by
 unfold letOwnedTupleGo
 cases tg <;> first
  |exact Q08 J
  |(cases u <;> first
     |exact Q08 J
     |(refine Q0 (wpAny_load L ?_)
       rw[hc,U];show wpAny M A (if(["enumerate","zip","dict_itemiterator","dict_reverseitemiterator","odict_iterator","itertools.zip_longest","itertools.pairwise"].contains n && vs[0]? == some (rawInt _))=true then _ else _) Q E s;rw[if_neg (by intro h;rw[Y,Bool.false_and] at h;cases h)];exact Q08 J))
noncomputable def y9 (K:W.Frag) (a:Addr):It:=
 ⟨λi H=>∃xs x,dy K H a xs/\xs[i]? =some x,λi H x H'=>H'=H/\∀xs,dy K H a xs->xs[i]? =some x,λi H=>∃xs,dy K H a xs/\xs.length<=i⟩
noncomputable def mH (K:W.Frag) (a:Addr):It:=
 ⟨λi H=>∃xs x,du K H a xs/\xs[i]? =some x,λi H x H'=>H'=H/\∀xs,du K H a xs->xs[i]? =some x,λi H=>∃xs,du K H a xs/\xs.length<=i⟩
noncomputable def mI (lo:Int) (n:Nat):It:=⟨λi _=>i<n,λi H x H'=>H'=H/\x=.int (lo+i),λi _=>n<=i⟩
theorem E4 {P:Program}{w:World}{K:W.Frag}{tg:Expr}(a it:Addr):Turn P w K tg (y9 K a) [it] it (λi h=>h.IsListIter it a i) where
 mem:=by simp
 obj:=λi h st b J=>by
  have e:b=it:=by simpa using J
  subst e;obtain⟨o,e,c,d⟩:=st;exact⟨o,e,λv z=>by rw[d] at z;cases z⟩
 keep:=λi h h' st k=>st.at λo e=>k it (by simp) o e
 item:=by
  intro X hP hw hK hc i pins s σ H E I U st hg;subst hP hw hK;obtain⟨xs,x,Y,hx⟩:=hg;obtain⟨aa,rv,p,hz⟩:=I.list Y;obtain⟨u,hu,ru⟩:=rv.get hx;obtain⟨f0,f1,f2,f3,f4,f5⟩:=U it (by simp);refine wpAny_pyNext_list_item st p.isList (x:=u) (by simpa using hu) λh' L sb=>?_;have I1:Inv X pins σ H { s with heap:=h' }:=I.turned (t':=s.toks) (λb o J e=>(sb.2 b J).trans e) f0 f1 f3 f4 f5;obtain⟨o,e,c,d⟩:=id L;exact⟨u,rfl,nY (s:={ s with heap:=h' }) e c d (by decide) ⟨x,H,I1,ru,⟨rfl,λys hy=>by rw[I.nW hy Y];exact hx⟩,L,λb J=>(U b J).1⟩⟩
 done:=by
  intro X hP hw hK hc i pins s σ H E I U st hg;subst hP hw hK;obtain⟨xs,Y,hx⟩:=hg;obtain⟨aa,rv,p,hz⟩:=I.list Y;obtain⟨f0,f1,f2,f3,f4,f5⟩:=U it (by simp);have hl:=rv.length;exact wpAny_pyNext_list_end (I.ok.hd hc) st p.isList (by simp;omega) λh' eb=>⟨rfl,I.turned (t':=s.toks) (λb o J e=>eb b o J e) f0 f1 f3 f4 f5⟩
 self:=λ_ _ _ _ _ st h=>wpAny_pyIter_listiter st h
theorem E5 {P:Program}{w:World}{K:W.Frag}{tg:Expr}(a it:Addr):Turn P w K tg (mH K a) [it] it (λi h=>h.IsTupleIter it a i) where
 mem:=by simp
 obj:=λi h st b J=>by
  have e:b=it:=by simpa using J
  subst e;obtain⟨o,e,c,d⟩:=st;exact⟨o,e,λv z=>by rw[d] at z;cases z⟩
 keep:=λi h h' st k=>st.at λo e=>k it (by simp) o e
 item:=by
  intro X hP hw hK hc i pins s σ H E I Y st hg;subst hP hw hK;obtain⟨xs,x,hq,hx⟩:=hg;obtain⟨L,rv,p,hz⟩:=I.tuple hq;obtain⟨u,hu,ru⟩:=rv.get hx;obtain⟨f0,f1,f2,f3,f4,f5⟩:=Y it (by simp);refine wpAny_pyNext_tuple_item st (show s.heap.IsTuple a L.toArray from p) (x:=u) (by simpa using hu) λh' U sb=>?_;have I1:Inv X pins σ H { s with heap:=h' }:=I.turned (t':=s.toks) (λb o J e=>(sb.2 b J).trans e) f0 f1 f3 f4 f5;obtain⟨o,e,c,d⟩:=id U;exact⟨u,rfl,nY (s:={ s with heap:=h' }) e c d (by decide) ⟨x,H,I1,ru,⟨rfl,λys hy=>by rw[I.p0 hy hq];exact hx⟩,U,λb J=>(Y b J).1⟩⟩
 done:=by
  intro X hP hw hK hc i pins s σ H E I Y st hg;subst hP hw hK;obtain⟨xs,hq,hx⟩:=hg;obtain⟨L,rv,p,hz⟩:=I.tuple hq;obtain⟨f0,f1,f2,f3,f4,f5⟩:=Y it (by simp);have hl:=rv.length;exact wpAny_pyNext_tuple_end (I.ok.hd hc) st (show s.heap.IsTuple a L.toArray from p) (by simp;omega) λh' eb=>⟨rfl,I.turned (t':=s.toks) (λb o J e=>eb b o J e) f0 f1 f3 f4 f5⟩
 self:=λ_ _ _ _ _ st h=>wpAny_pyIter_tupleiter st h
theorem E6 {P:Program}{w:World}{K:PySem.W.Frag}{tg:Expr}(it:Addr)(lo:Int)(n:Nat):Turn P w K tg (mI lo n) [it] it (λi h=>IsRangeIter h it (lo+(i:Nat) * 1) ((n:Int) - (i:Nat)) 1) where
 mem:=by simp
 obj:=λi h st b J=>by
  have e:b=it:=by simpa using J
  subst e
  exact⟨_,st,λv z=>by
   have z':Data.fields _=Data.cell v:=z
   cases z'⟩
 keep:=λi h h' st k=>k it (by simp) _ st
 item:=by
  intro X Y hw hK hc i pins s σ H E I U st hg;subst Y hw hK;obtain⟨f0,f1,f2,f3,f4,f5⟩:=U it (by simp);have W:=Walks.range (prog:=X.prog) (w:=X.w) (I.ok.hd hc) it lo 1 n;refine W.item i s _ _ hg st λv h' tk hv L kk=>?_;obtain⟨t,rfl⟩:=hv;have I1:Inv X pins σ H { s with heap:=h',toks:=tk }:=I.turned (λb o J e=>kk b o (by simpa using J) e) f0 f1 f3 f4 f5;refine⟨_,rfl,nY (s:={ s with heap:=h',toks:=tk }) (n:="range_iterator") L rfl rfl (by decide) ⟨.int (lo+i),H,I1,⟨t,?_⟩,⟨rfl,rfl⟩,L,λb J=>(U b J).1⟩⟩;rw[Int.mul_one]
 done:=by
  intro X Y hw hK hc i pins s σ H E I U st hg;subst Y hw hK;obtain⟨f0,f1,f2,f3,f4,f5⟩:=U it (by simp);exact wpAny_pyNext_range_end (I.ok.hd hc) st (by have:n<=i:=hg;omega) λh' eb=>⟨rfl,I.turned (t':=s.toks) (λb o J e=>eb b o J e) f0 f1 f3 f4 f5⟩
 self:=λ_ _ _ _ _ st h=>wpAny_pyIter_rangeiter st h
section
variable {X:Cx}{tg:Expr}
def E7 (K:W.Frag) (tl:TE):TI:=λσ H R=>tl σ H λx H1=>∃a,x=.ref a/\(∃xs,dy K H1 a xs)/\R (y9 K a) H1
def E8 (K:W.Frag) (tl:TE):TI:=λσ H R=>tl σ H λx H1=>∃a,x=.ref a/\(∃xs,du K H1 a xs)/\R (mH K a) H1
theorem sE {l:Expr}{tl:TE}(hl:PE X l tl):PI X tg l (E7 X.K tl):=by
 intro pins s σ H R I h;refine dD (hl pins s σ H _ I h) λv J zq=>?_;obtain⟨x,H1,L,U,Y⟩:=zq;obtain⟨a,e,⟨xs,hq⟩,q⟩:=Y;subst e
 cases U;obtain⟨aa,rv,p,hz⟩:=L.list hq;refine wpAny_pyIter_list p.isList ?_;refine⟨J.heap.objs.size,[J.heap.objs.size],_,_,H1,rfl,L.kept (t':=J.toks) λb o e=>Q04 _ e,E4 a _,⟨_,Q0f _ rfl,rfl,rfl⟩,λb hb=>?_,q⟩;have e:b=J.heap.objs.size:=by simpa using hb
 subst e;exact L.jI (Q00 _) (L.hok.fresh (Q00 _))
theorem nZ {l:Expr}{tl:TE}(hl:PE X l tl):PI X tg l (E8 X.K tl):=by
 intro pins s σ H R I h;refine dD (hl pins s σ H _ I h) λv J zq=>?_;obtain⟨x,H1,L,Y,q1⟩:=zq;obtain⟨a,e,⟨xs,hq⟩,q⟩:=q1;subst e
 cases Y;obtain⟨U,rv,p,hz⟩:=L.tuple hq;refine wpAny_pyIter_tuple (show J.heap.IsTuple a U.toArray from p) ?_;refine⟨J.heap.objs.size,[J.heap.objs.size],_,_,H1,rfl,L.kept (t':=J.toks) λb o e=>Q04 _ e,E5 a _,⟨_,Q0f _ rfl,rfl,rfl⟩,λb hb=>?_,q⟩;have e:b=J.heap.objs.size:=by simpa using hb
 subst e;exact L.jI (Q00 _) (L.hok.fresh (Q00 _))
theorem E9 {pins:List (Addr × Obj)}{σ:St}{H:Hp}{s:Shared}{R:It->Hp->Prop}{E:Value->Shared->Prop}{lo hi:Int}{t u v:Tok}{tk:Nat}(I:Inv X pins σ H s)(h1: -(2 ^ 62)<=lo)(h2:lo<2 ^ 62)(L: -(2 ^ 62)<=hi)(U:hi<2 ^ 62)
 (q:R (mI lo (hi - lo).toNat) H):wpAny (model X.prog X.w) X.A (pyIter (.ref s.heap.objs.size)) (PIE X pins σ tg R) E { s with heap:=s.heap.push { cls:=.type "range",data:=.fields #[.int lo t,.int hi u,.int 1 v] },toks:=tk }:=by
 refine wpAny_pyIter_range (IsRange.new ..) (small_one h1 h2 L U) ?_;have J:Inv X pins σ H { s with heap:=s.heap.push { cls:=.type "range",data:=.fields #[.int lo t,.int hi u,.int 1 v] },toks:=tk }:=I.kept λb o e=>Q04 _ e
 refine⟨(s.heap.push { cls:=.type "range",data:=.fields #[.int lo t,.int hi u,.int 1 v] }).objs.size,[(s.heap.push { cls:=.type "range",data:=.fields #[.int lo t,.int hi u,.int 1 v] }).objs.size],_,_,H,rfl,
  J.kept (t':=tk) λb o e=>Q04 _ e,E6 _ lo (hi - lo).toNat,?_,λb Y=>?_,q⟩
 . have e1:lo+((0:Nat):Int) * 1=lo:=by simp
   have e2:(((hi - lo).toNat:Nat):Int) - ((0:Nat):Int)=Builtin.Range.rangeSize lo hi 1:=by rw[rangeSize_one];split <;> omega
   show IsRangeIter _ _ (lo+((0:Nat):Int) * 1) ((((hi - lo).toNat:Nat):Int) - ((0:Nat):Int)) 1;rw[e1,e2];exact Q0f _ rfl
 . have e:b=(s.heap.push { cls:=.type "range",data:=.fields #[.int lo t,.int hi u,.int 1 v] }).objs.size:=by simpa using Y
   subst e;exact J.jI (Q00 _) (J.hok.fresh (Q00 _))
def E_ (ta:TA):TI:=λσ H R=>ta σ H λvs H1=>∃j:Int,vs=[.int j]/\ -(2 ^ 62)<=j/\j<2 ^ 62/\R (mI 0 j.toNat) H1
theorem mJ {a:Expr}{ta:TA}{p pos:Pos}(L:Gl X "range")(U:X.mg "range"=none)(Y:PA X [a] ta)(hs:starEach [a] X.env=[(false,eval a X.env)]:=by rfl):PI X tg (.Call (.Name "range" p) [a] [] pos) (E_ ta):=by
 intro pins s σ H R I h;refine Call_ (j0 I L U boot_range (PyProof.Rows.callWith_type1 (dD (Y pos pins s σ H _ I h) λus s1 zq=>?_) hs rfl));obtain⟨vs,H1,I1,r1,J⟩:=zq;obtain⟨j,e,J,q2,q⟩:=J;subst e
 cases r1 with
 |cons r rr=>
  cases rr;obtain⟨t,rfl⟩:=r;exact call_range_1 (E9 I1 (by omega) (by omega) J q2 (by simpa using q))
def Fb (wi:TI) (g:TG) (tb:TS):TS:=λD σ H=>wi σ H λJ H1=>∃W:Nat->Nat->St->Hp->Prop,(∃m,W 0 m σ H1)/\∀i m σ H,W i m σ H->
 (J.stop i H/\D.nx σ H)\/(J.go i H/\∃N:St->Hp->Prop,(∀L H',N L H'->∃Y,Y<m/\W (i+1) Y L H')/\∀x H',J.jH i H x H'->g x σ H' λU H2=>tb { D with nx:=N,ct:=N,bk:=D.nx } U H2)
noncomputable def qi (fp:List Addr) (h:Heap):List (Addr × Obj):=fp.filterMap λb=>(h.get? b).map λo=>(b,o)
theorem n0 {fp:List Addr}{h:Heap}{b:Addr}{o:Obj}(J:b∈fp)(e:h.get? b=some o):(b,o)∈qi fp h:=List.mem_filterMap.mpr ⟨b,J,by rw[e];rfl⟩
theorem Fc {fp:List Addr}{h:Heap}{p:Addr × Obj}(hp:p∈qi fp h):p.1∈fp/\h.get? p.1=some p.2:=by
 obtain⟨b,J,e⟩:=List.mem_filterMap.mp hp
 cases q:h.get? b with
 |none=>rw[q] at e;cases e
 |some o=>
  rw[q] at e;have L:(b,o)=p:=Option.some.inj e;subst L;exact⟨J,q⟩
theorem Inv.pinned {pins:List (Addr × Obj)}{σ:St}{H:Hp}{s:Shared}{fp:List Addr}(I:Inv X pins σ H s)(U:∀b∈fp,gU X pins H b)(Y:∀b∈fp,∃o,s.heap.get? b=some o/\∀v,o.data≠ .cell v):Inv X (pins++qi fp s.heap) σ H s:=
 I.lO λp hp=>(List.mem_append.mp hp).elim (λz=>I.pin p (Q09 _ z)) λz=>by
   obtain⟨J,e⟩:=Fc z;obtain⟨f0,f1,f2,_⟩:=U p.1 J;obtain⟨o,L,d⟩:=Y p.1 J;rw[e] at L;cases L;exact⟨e,f0,f1,f2,d⟩
theorem Inv.kF {pins pl:List (Addr × Obj)}{σ:St}{H:Hp}{s:Shared}(I:Inv X (pins++pl) σ H s):Inv X pins σ H s:=I.lO λp hp=>I.pin p (Q09 _ (Q0u _ hp))
theorem i9 {iter:Expr}{body:List Stmt}{wi:TI}{g:TG}{tb:TS}{pos:Pos}(hp:PassesOwn (model X.prog X.w) X.A X.env X.xe)(hc:X.calm=true)(hi:PI X tg iter wi)(hg:PG X tg g)(U:g9 X body tb)
 (hs:∀x,foldedSetIterable iter X.env x=pure x:=by intro _;rfl):PS X (.For tg iter body [] pos) (Fb wi g tb):=by
 intro pins s σ H D I h;refine wpAny_For (dD (hi pins s σ H _ I h) λv s1 h1=>dD h1 λam s2 h2=>?_) hs;obtain⟨it,fp,tn,J,H2,e,I2,T,ai,f2,W,⟨m0,w0⟩,ah⟩:=h2;subst e;have ac:∀{H':Hp},(∀b∈fp,H' b=none)->∀b∈fp,gU X pins H' b:=λhn b U=>⟨hn b U,(f2 b U).2⟩;refine codeAny_forLoop_any (λn s'=>∃i aa H',Inv X pins aa H' s'/\tn i s'.heap/\(∀b∈fp,H' b=none)/\W i n aa H') ?_ m0 ⟨0,σ,H2,I2,ai,λb U=>(f2 b U).1,w0⟩;intro n s3 zq;obtain⟨i,ab,H3,I3,af,ag,w3⟩:=zq;rcases ah i n ab H3 w3 with⟨stop,qn⟩|⟨go,N,hN,step⟩
 . refine wpAny_passesOwn hp (dD (T.done X rfl rfl rfl hc i pins s3 ab H3 X.xe I3 (ac ag) af stop) λr s4 ⟨hr,I4⟩=>?_);subst hr;exact wpAny_execs_nil ⟨ab,H3,I4,qn⟩
 . refine wpAny_passesOwn hp (dD (T.item X rfl rfl rfl hc i pins s3 ab H3 X.xe I3 (ac ag) af go) λr s4 ⟨u,hr,h4⟩=>?_);subst hr;refine wpAny_passesOwn hp (dD h4 λ_ s5 zq=>?_);obtain⟨x,H5,I5,r5,y5,ae,aj⟩:=zq;have ak:=I5.pinned (ac aj) (T.obj _ _ ae);refine wpAny_passesOwn hp (dD (hg _ s5 ab H5 x u _ ak r5 (step x H5 y5)) λ_ s6 zq=>?_);obtain⟨al,H6,I6,q6⟩:=zq;refine wpAny_passesOwn hp (dD (U _ s6 al H6 _ I6 q6) λf s7 q7=>?_)
   have again:∀{L:St} {Y:Hp},Inv X (pins++qi fp s5.heap) L Y s7->N L Y->∃m,m<n/\∃i aa H',Inv X pins aa H' s7/\tn i s7.heap/\(∀b∈fp,H' b=none)/\W i m aa H':=λ{L Y} I7 n7=>by
    obtain⟨m',hm,w7⟩:=hN L Y n7;refine⟨m',hm,i+1,L,Y,I7.kF,T.keep _ _ _ ae λb U o e=>(I7.pin (b,o) (Q09 _ (Q09 _ (n0 U e)))).1,λb U=>?_,w7⟩;obtain⟨o,e,d⟩:=T.obj _ _ ae b U;exact(I7.pin (b,o) (Q09 _ (Q09 _ (n0 U e)))).2.1
   cases f with
   |next=>obtain⟨L,Y,I7,n7⟩:=q7;exact again I7 n7
   |cont=>obtain⟨L,Y,I7,n7⟩:=q7;exact again I7 n7
   |brk=>obtain⟨L,Y,I7,q7⟩:=q7;exact⟨L,Y,I7.kF,q7⟩
   |ret v=>obtain⟨x7,L,Y,I7,r7,q7⟩:=q7;exact⟨x7,L,Y,I7.kF,r7,q7⟩
end
theorem y_ {K:PySem.W.Frag}{a:Addr}{xs:List V}{g:TG}{tb:TS}{D:Ends}{σ:St}{H:Hp}(Pv:Nat->St->Hp->Prop)(h0:Pv 0 σ H)(hl:∀i σ H,i<=xs.length->Pv i σ H->du K H a xs)
 (hs:∀i x σ H,xs[i]? =some x->Pv i σ H->g x σ H λJ H2=>tb { D with nx:=Pv (i+1),ct:=Pv (i+1),bk:=D.nx } J H2) (hd:∀σ H,Pv xs.length σ H->D.nx σ H):
 ∃W:Nat->Nat->St->Hp->Prop,(∃m,W 0 m σ H)/\∀i m σ H,W i m σ H->
  ((mH K a).stop i H/\D.nx σ H)\/((mH K a).go i H/\∃N:St->Hp->Prop,(∀L H',N L H'->∃Y,Y<m/\W (i+1) Y L H')/\∀x H',(mH K a).jH i H x H'->g x σ H' λJ H2=>tb { D with nx:=N,ct:=N,bk:=D.nx } J H2):=by
 refine⟨λi m σ H=>m=xs.length - i/\i<=xs.length/\Pv i σ H,⟨xs.length,by simp,Q06 _,h0⟩,?_⟩;rintro i m σ H ⟨rfl,hi,p⟩;have q:=hl i σ H hi p;by_cases U:i<xs.length
 . refine .inr ⟨⟨xs,xs[i],q,by simp[U]⟩,Pv (i+1),λL H' p'=>⟨xs.length - (i+1),by omega,rfl,U,p'⟩,λx H' y=>?_⟩;obtain⟨e,y⟩:=y;subst e;exact hs i x σ _ (y xs q) p
 . have e:i=xs.length:=by omega
   subst e;exact .inl ⟨⟨xs,q,Q00 _⟩,hd σ H p⟩
theorem mK {lo:Int}{n:Nat}{g:TG}{tb:TS}{D:Ends}{σ:St}{H:Hp}(Pv:Nat->St->Hp->Prop)(h0:Pv 0 σ H)
 (hs:∀i σ H,i<n->Pv i σ H->g (.int (lo+i)) σ H λJ H2=>tb { D with nx:=Pv (i+1),ct:=Pv (i+1),bk:=D.nx } J H2) (hd:∀σ H,Pv n σ H->D.nx σ H):
 ∃W:Nat->Nat->St->Hp->Prop,(∃m,W 0 m σ H)/\∀i m σ H,W i m σ H->
  ((mI lo n).stop i H/\D.nx σ H)\/((mI lo n).go i H/\∃N:St->Hp->Prop,(∀L H',N L H'->∃Y,Y<m/\W (i+1) Y L H')/\∀x H',(mI lo n).jH i H x H'->g x σ H' λJ H2=>tb { D with nx:=N,ct:=N,bk:=D.nx } J H2):=by
 refine⟨λi m σ H=>m=n - i/\i<=n/\Pv i σ H,⟨n,by simp,Q06 _,h0⟩,?_⟩;rintro i m σ H ⟨rfl,hi,p⟩;by_cases U:i<n
 . refine .inr ⟨U,Pv (i+1),λL H' p'=>⟨n - (i+1),by omega,rfl,U,p'⟩,λx H' y=>?_⟩;obtain⟨e,y⟩:=y;subst e y;exact hs i σ _ U p
 . have e:i=n:=by omega
   subst e;exact .inl ⟨Q00 _,hd σ H p⟩
noncomputable abbrev R2:=V->V->Hp->VK->Prop
def f6 (X:Cx) (f:Value->Value->Sem Value) (r:R2):Prop:=
 ∀(pins:List (Addr × Obj)) (s:Shared) (σ:St) (H:Hp) (x y:V) (v u:Value) (Q:VK),Inv X pins σ H s->RelV x v->RelV y u->r x y H Q->
  wpAny (model X.prog X.w) X.A (f v u) (EP X pins σ Q) X.xe s
def sF (X:Cx) (f:Value->Sem Value) (r:V->Hp->VK->Prop):Prop:=
 ∀(pins:List (Addr × Obj)) (s:Shared) (σ:St) (H:Hp) (x:V) (v:Value) (Q:VK),Inv X pins σ H s->RelV x v->r x H Q->
  wpAny (model X.prog X.w) X.A (f v) (EP X pins σ Q) X.xe s
def jm (X:Cx) (f:Value) (r:List V->Hp->VK->Prop):Prop:=
 ∀(pins:List (Addr × Obj)) (s:Shared) (σ:St) (H:Hp) (xs:List V) (us:List Value) (Q:VK),Inv X pins σ H s->Vals xs us->r xs H Q->
  wpAny (model X.prog X.w) X.A (call f us) (EP X pins σ Q) X.xe s
def gL (r:R2) (ta tb:TE):TE:=λσ H Q=>ta σ H λx H1=>tb σ H1 λy H2=>r x y H2 Q
def Fe (r:V->Hp->VK->Prop) (ta:TE):TE:=λσ H Q=>ta σ H λx H1=>r x H1 Q
def rI (C:Int->Int->Prop) (g:Int->Int->V):R2:=λx y H Q=>∃i j,x=.int i/\y=.int j/\C i j/\Q (g i j) H
def lT (g:Int->Int->V):R2:=λx y H Q=>∃i j,x=.int i/\y=.int j/\Q (g i j) H
def rU (g:Int->V):V->Hp->VK->Prop:=λx H Q=>∃i,x=.int i/\Q (g i) H
section
variable {X:Cx}{a b c:Expr}{ta tb tc:TE}{pos:Pos}
theorem sG (Y:PE X a ta)(hb:PE X b tb){pins:List (Addr × Obj)}{s:Shared}{σ:St}{H:Hp}{R:V->V->Hp->Prop}(I:Inv X pins σ H s)
 (h:ta σ H λx H1=>tb σ H1 λy H2=>R x y H2) {Q:Value->Shared->Prop} {f:Value->Value->Sem Value}
 (hf:∀v u U x y H2,Inv X pins σ H2 U->RelV x v->RelV y u->R x y H2->wpAny (model X.prog X.w) X.A (f v u) Q X.xe U):
 wpAny (model X.prog X.w) X.A (eval a X.env) (λv J=>wpAny (model X.prog X.w) X.A (eval b X.env) (λu L=>wpAny (model X.prog X.w) X.A (f v u) Q X.xe L) X.xe J) X.xe s:=by
 refine dD (Y pins s σ H _ I h) λv s1 zq=>?_;obtain⟨x,H1,I1,r1,q1⟩:=zq;refine dD (hb pins s1 σ H1 _ I1 q1) λu U zq=>?_;obtain⟨y,H2,I2,r2,q2⟩:=zq;exact hf v u U x y H2 I2 r1 r2 q2
theorem dk {J:Operator}{r:R2}(L:f6 X (binaryOp J) r)(U:PE X a ta)(Y:PE X b tb):PE X (.BinOp a J b pos) (gL r ta tb):=by
 intro pins s σ H Q I h;exact wpAny_BinOp (sG U Y I h λv u s2 x y H2 I2 rx ry q=>L pins s2 σ H2 x y v u Q I2 rx ry q)
theorem qj {J:UnaryOp}{r:V->Hp->VK->Prop}(L:sF X (unaryOp J) r)(U:PE X a ta):PE X (.UnaryOp J a pos) (Fe r ta):=by
 intro pins s σ H Q I h;exact UnaryOp_ (dD (U pins s σ H _ I h) λv Y ⟨x,H1,I1,r1,q1⟩=>L pins Y σ H1 x v Q I1 r1 q1)
theorem qk {f:Value->Value->Sem Value}{C:Int->Int->Prop}{g:Int->Int->Int}
 (rule:∀(i j:Int) (t u:Tok) (s:Shared) (Q:Value->Shared->Prop) (E:Value->Shared->Prop),C i j->Q (.int (g i j) s.toks) { s with toks:=s.toks+1 }->wpAny (model X.prog X.w) X.A (f (.int i t) (.int j u)) Q E s):
 f6 X f (rI C λi j=>.int (g i j)):=by
 intro pins s σ H x y v u Q I J L h;obtain⟨i,j,rfl,rfl,hc,q⟩:=h;obtain⟨t,rfl⟩:=J;obtain⟨t',rfl⟩:=L;exact rule i j t t' s _ _ hc ⟨.int (g i j),H,I.tok _,⟨_,rfl⟩,q⟩
theorem zc {f:Value->Value->Sem Value}{g:Int->Int->Int}
 (rule:∀(i j:Int) (t u:Tok) (s:Shared) (Q:Value->Shared->Prop) (E:Value->Shared->Prop),Q (.int (g i j) s.toks) { s with toks:=s.toks+1 }->wpAny (model X.prog X.w) X.A (f (.int i t) (.int j u)) Q E s):
 f6 X f (lT λi j=>.int (g i j)):=by
 intro pins s σ H x y v u Q I J L h;obtain⟨i,j,rfl,rfl,q⟩:=h;obtain⟨t,rfl⟩:=J;obtain⟨t',rfl⟩:=L;exact rule i j t t' s _ _ ⟨.int (g i j),H,I.tok _,⟨_,rfl⟩,q⟩
theorem sH {f:Value->Value->Sem Value}{g:Int->Int->Bool}
 (rule:∀(i j:Int) (t u:Tok) (s:Shared) (Q:Value->Shared->Prop) (E:Value->Shared->Prop),Q (.bool (g i j)) s->wpAny (model X.prog X.w) X.A (f (.int i t) (.int j u)) Q E s):
 f6 X f (lT λi j=>.bl (g i j)):=by
 intro pins s σ H x y v u Q I J L h;obtain⟨i,j,rfl,rfl,q⟩:=h;obtain⟨t,rfl⟩:=J;obtain⟨t',rfl⟩:=L;exact rule i j t t' s _ _ ⟨.bl (g i j),H,I,rfl,q⟩
def Ff (i j:Int):Prop:=0<j/\j<1073741824
def sI (i j:Int):Prop:=0<=j/\j<=1000000/\i.natAbs<2 ^ 64
def sJ (i j:Int):Prop:=(-(2 ^ 64)<i/\i<2 ^ 64)\/(-(2 ^ 64)<j/\j<2 ^ 64)
theorem sJ.ok {i j:Int}(h:sJ i j):IntMulOk i j:=by
 rcases h with⟨h1,h2⟩|⟨h1,h2⟩
 . exact .of_left (intBits_le_64 h1 h2)
 . exact .of_right (intBits_le_64 h1 h2)
theorem gE:f6 X (binaryOp .Add) (lT λi j=>.int (i+j)):=zc λ_ _ _ _ _ _ _ q=>add_int q
theorem jn:f6 X (binaryOp .Sub) (lT λi j=>.int (i - j)):=zc λ_ _ _ _ _ _ _ q=>sub_int q
theorem j5:f6 X (binaryOp .Mult) (rI sJ λi j=>.int (i * j)):=qk λ_ _ _ _ _ _ _ hc q=>mul_int q hc.ok
theorem gj:f6 X (binaryOp .FloorDiv) (rI Ff λi j=>.int (i / j)):=qk λi j _ _ _ _ _ hc q=>by
 have h1:(0:Int)<j:=hc.1;have h2:j<1073741824:=hc.2;exact floordiv_int (by omega) (by rw[Int.fdiv_eq_ediv_of_nonneg i (by omega)];exact q) (.inl (PyProof.noPylong_small (by omega)))
theorem eL:f6 X (binaryOp .Mod) (rI (λ_ j=>0<j) λi j=>.int (i % j)):=qk λi j _ _ _ _ _ hc q=>by
 have h1:(0:Int)<j:=hc;exact mod_int' (by omega) (by rw[Int.fmod_eq_emod_of_nonneg i (by omega)];exact q)
theorem qm:f6 X (binaryOp .Pow) (rI sI λi j=>.int (i ^ j.toNat)):=qk λ_ _ _ _ _ _ _ hc q=>pow_int_small hc.1 hc.2.1 hc.2.2 q
theorem Fg {f:Value->Sem Value}{g:Int->Int}
 (rule:∀(i:Int) (t:Tok) (s:Shared) (Q:Value->Shared->Prop) (E:Value->Shared->Prop),Q (.int (g i) s.toks) { s with toks:=s.toks+1 }->wpAny (model X.prog X.w) X.A (f (.int i t)) Q E s):
 sF X f (rU λi=>.int (g i)):=by
 intro pins s σ H x v Q I J h;obtain⟨i,rfl,q⟩:=h;obtain⟨t,rfl⟩:=J;exact rule i t s _ _ ⟨.int (g i),H,I.tok _,⟨_,rfl⟩,q⟩
theorem qo:sF X (unaryOp .USub) (rU λi=>.int (-i)):=Fg λ_ _ _ _ _ q=>neg_int q
end
noncomputable def sL:V->V->Bool
 | .non,.non=>true| .non,.int _=>true| .int _,.non=>true| .non,.bl _=>true| .bl _,.non=>true| .non,.str _=>true| .str _,.non=>true
 | .int _,.int _=>true| .bl _,.bl _=>true| .str _,.str _=>true| .jh _,.jh _=>true
 | .int _,.str _=>true| .str _,.int _=>true| .bl _,.str _=>true| .str _,.bl _=>true
 |_,_=>false
def qp:R2:=λx y H Q=>sL x y=true/\Q (.bl (decide (x=y))) H
def Fh:R2:=λx y H Q=>sL x y=true/\Q (.bl (!decide (x=y))) H
theorem zi {i j:Int}:decide (V.int i=V.int j)=(i == j):=by
 rw[Bool.eq_iff_iff];simp
theorem zj {i j:Bool}:decide (V.bl i=V.bl j)=(i == j):=by
 rw[Bool.eq_iff_iff];simp
theorem n6 {i j:Str}:decide (V.str i=V.str j)=(i == j):=by
 rw[Bool.eq_iff_iff];simp
theorem zk {i j:Array UInt8}:decide (V.jh i=V.jh j)=(i.toList == j.toList):=by
 rw[Bool.eq_iff_iff]
 cases i
 cases j;simp
section
variable {X:Cx}{a b c:Expr}{ta tb tc:TE}{pos:Pos}
theorem fc {pins:List (Addr × Obj)}{σ:St}{H:Hp}{s:Shared}{Q:VK}{k J:Bool}(I:Inv X pins σ H s)(q:Q (.bl k) H)(e:k=J):EP X pins σ Q (.bool J) s:=by
 subst e;exact⟨.bl k,H,I,rfl,q⟩
theorem eh:f6 X (compareOp .Eq) qp:=by
 intro pins s σ H x y v u Q I U J h;obtain⟨L,q⟩:=h
 cases x with
 |non=>
  cases U
  cases y with
  |non=>cases J;exact PySem.EqNone.eq_none_none (fc I q (by simp))
  |bl j=>cases J;exact PySem.EqNone.eq_none_bool (fc I q (by simp))
  |int j=>obtain⟨t',rfl⟩:=J;exact PySem.EqNone.eq_none_int (fc I q (by simp))
  |str j=>obtain⟨t',rfl⟩:=J;exact PySem.EqNone.eq_none_str (fc I q (by simp))
  |_=>exact absurd (show false=true from L) Bool.false_ne_true
 |bl i=>
  cases U
  cases y with
  |non=>cases J;exact PySem.EqNone.eq_bool_none (fc I q (by simp))
  |bl j=>cases J;exact eq_bool (fc I q zj)
  |str j=>obtain⟨t',rfl⟩:=J;exact PySem.EqMixed.eq_bool_str (fc I q (by simp))
  |_=>exact absurd (show false=true from L) Bool.false_ne_true
 |int i=>
  obtain⟨t,rfl⟩:=U
  cases y with
  |non=>cases J;exact PySem.EqNone.eq_int_none (fc I q (by simp))
  |int j=>obtain⟨t',rfl⟩:=J;exact eq_int (fc I q zi)
  |str j=>obtain⟨t',rfl⟩:=J;exact PySem.EqMixed.eq_int_str (fc I q (by simp))
  |_=>exact absurd (show false=true from L) Bool.false_ne_true
 |str i=>
  obtain⟨t,rfl⟩:=U
  cases y with
  |non=>cases J;exact PySem.EqNone.eq_str_none (fc I q (by simp))
  |bl j=>cases J;exact PySem.EqMixed.eq_str_bool (fc I q (by simp))
  |int j=>obtain⟨t',rfl⟩:=J;exact PySem.EqMixed.eq_str_int (fc I q (by simp))
  |str j=>obtain⟨t',rfl⟩:=J;exact eq_str (fc I q n6)
  |_=>exact absurd (show false=true from L) Bool.false_ne_true
 |jh i=>
  obtain⟨t,rfl⟩:=U
  cases y with
  |jh j=>obtain⟨t',rfl⟩:=J;exact W.eq_bytes (fc I q zk)
  |_=>exact absurd (show false=true from L) Bool.false_ne_true
 |_=>cases y <;> exact absurd (show false=true from L) Bool.false_ne_true
theorem lU:f6 X (compareOp .NotEq) Fh:=by
 intro pins s σ H x y v u Q I U J h;obtain⟨L,q⟩:=h
 cases x with
 |non=>
  cases U
  cases y with
  |non=>cases J;exact PySem.EqNone.ne_none_none (fc I q (by simp))
  |bl j=>cases J;exact PySem.EqNone.ne_none_bool (fc I q (by simp))
  |int j=>obtain⟨t',rfl⟩:=J;exact PySem.EqNone.ne_none_int (fc I q (by simp))
  |str j=>obtain⟨t',rfl⟩:=J;exact PySem.EqNone.ne_none_str (fc I q (by simp))
  |_=>exact absurd (show false=true from L) Bool.false_ne_true
 |bl i=>
  cases U
  cases y with
  |non=>cases J;exact PySem.EqNone.ne_bool_none (fc I q (by simp))
  |bl j=>cases J;exact ne_bool (fc I q (congrArg not zj))
  |str j=>obtain⟨t',rfl⟩:=J;exact PySem.EqMixed.ne_bool_str (fc I q (by simp))
  |_=>exact absurd (show false=true from L) Bool.false_ne_true
 |int i=>
  obtain⟨t,rfl⟩:=U
  cases y with
  |non=>cases J;exact PySem.EqNone.ne_int_none (fc I q (by simp))
  |int j=>obtain⟨t',rfl⟩:=J;exact ne_int (fc I q (congrArg not zi))
  |str j=>obtain⟨t',rfl⟩:=J;exact PySem.EqMixed.ne_int_str (fc I q (by simp))
  |_=>exact absurd (show false=true from L) Bool.false_ne_true
 |str i=>
  obtain⟨t,rfl⟩:=U
  cases y with
  |non=>cases J;exact PySem.EqNone.ne_str_none (fc I q (by simp))
  |bl j=>cases J;exact PySem.EqMixed.ne_str_bool (fc I q (by simp))
  |int j=>obtain⟨t',rfl⟩:=J;exact PySem.EqMixed.ne_str_int (fc I q (by simp))
  |str j=>obtain⟨t',rfl⟩:=J;exact ne_str (fc I q (congrArg not n6))
  |_=>exact absurd (show false=true from L) Bool.false_ne_true
 |jh i=>
  obtain⟨t,rfl⟩:=U
  cases y with
  |jh j=>obtain⟨t',rfl⟩:=J;exact W.ne_bytes (fc I q (congrArg not zk))
  |_=>exact absurd (show false=true from L) Bool.false_ne_true
 |_=>cases y <;> exact absurd (show false=true from L) Bool.false_ne_true
theorem mL:f6 X (compareOp .Lt) (lT λi j=>.bl (decide (i<j))):=sH λ_ _ _ _ _ _ _ q=>lt_int q
theorem zm:f6 X (compareOp .LtE) (lT λi j=>.bl (decide (i<=j))):=sH λ_ _ _ _ _ _ _ q=>le_int q
theorem j6:f6 X (compareOp .Gt) (lT λi j=>.bl (decide (j<i))):=sH λ_ _ _ _ _ _ _ q=>gt_int q
theorem qr:f6 X (compareOp .In) (λx y H Q=>∃i j,x=.str i/\y=.str j/\Q (.bl (!(Builtin.Str.occurrences j i 0 j.length 1).isEmpty)) H):=by
 intro pins s σ H x y v u Q I J L h;obtain⟨i,j,rfl,rfl,q⟩:=h;obtain⟨t,rfl⟩:=J;obtain⟨t',rfl⟩:=L;exact in_str (fc I q rfl)
theorem dP (b:Expr){J:CmpOp}(h:J≠ .In:=by decide)(h2:J≠ .NotIn:=by decide):behindInMarks J b=false:=by
 have e1:(J == CmpOp.In)=false:=by cases J <;> first|rfl|exact absurd rfl h
 have L:(J == CmpOp.NotIn)=false:=by cases J <;> first|rfl|exact absurd rfl h2
 cases b <;> simp[behindInMarks,e1,L]
theorem lW {J:CmpOp}{r:R2}(L:f6 X (compareOp J) r)(U:PE X a ta)(Y:PE X b tb)(hm:behindInMarks J b=false):PE X (.Compare a [J] [b] pos) (gL r ta tb):=by
 intro pins s σ H Q I h;exact wpAny_Compare1 (sG U Y I h λv u s2 x y H2 I2 rx ry q=>L pins s2 σ H2 x y v u Q I2 rx ry q) hm
def qt (t:TE):TT:=λσ H Q=>t σ H λx H'=>∃k,x=.bl k/\Q k H'
theorem dQ {J:CmpOp}{r:R2}(L:f6 X (compareOp J) r)(U:PE X a ta)(Y:PE X b tb)(hm:behindInMarks J b=false):PT X (.Compare a [J] [b] pos) (qt (gL r ta tb)):=by
 intro pins s σ H Q I h
 refine wpAny_isTrue_Compare1 (dD (U pins s σ H _ I h) λv s1 ⟨x,H1,I1,r1,q1⟩=>dD (Y pins s1 σ H1 _ I1 q1) λu s2 ⟨y,H2,I2,r2,q2⟩=>
  dD (L pins s2 σ H2 x y v u _ I2 r1 r2 q2) λc s3 ⟨z,H3,I3,r3,k,e,q3⟩=>?_) hm
 subst e
 cases r3;exact wpAny_truthy_bool ⟨H3,I3,q3⟩
theorem mM:(sizeLine:Nat)<2 ^ 63:=by rw[sizeLine_eq];decide
theorem fe:f6 X (binaryOp .Add) (λx y H Q=>∃i j,x=.str i/\y=.str j/\i.length+j.length<=sizeLine/\Q (.str (i++j)) H):=by
 intro pins s σ H x y v u Q I J L h;obtain⟨i,j,rfl,rfl,U,q⟩:=h;obtain⟨t,rfl⟩:=J;obtain⟨t',rfl⟩:=L;exact add_str (λt' tk=>⟨.str (i++j),H,I.tok _,⟨_,rfl⟩,q⟩) U
theorem vals1 {x:V}{us:List Value}(r:Vals [x] us):∃u,us=[u]/\RelV x u:=by
 cases r with
 |cons J L=>cases L;exact⟨_,rfl,J⟩
theorem vals2 {x y:V}{us:List Value}(r:Vals [x,y] us):∃u J,us=[u,J]/\RelV x u/\RelV y J:=by
 cases r with
 |cons L U=>
  cases U with
  |cons Y r4=>cases r4;exact⟨_,_,rfl,L,Y⟩
theorem Fi (hc:X.calm=true):jm X (.builtin "min") (λxs H Q=>∃i j,xs=[.int i,.int j]/\Q (.int (if j<i then j else i)) H):=by
 intro pins s σ H xs us Q I r h;obtain⟨i,j,rfl,q⟩:=h;obtain⟨u,L,rfl,⟨t,rfl⟩,⟨t',rfl⟩⟩:=vals2 r;refine min_two_ints (I.ok.hd hc) λh' tk k=>⟨_,H,I.kept k,?_,q⟩;by_cases J:j<i
 . rw[if_pos J,if_pos J];exact⟨_,rfl⟩
 . rw[if_neg J,if_neg J];exact⟨_,rfl⟩
end
structure lX (h:Heap) (x dx C:Addr) (mA:Str->Option Value):Prop where
 obj:h.get? x=some (W.instObj C dx)
 ns:h.Ns1 dx mA
 ne:dx≠x
theorem Fj {h:Heap}{dx:Addr}{mA:Str->Option Value}(n:h.Ns1 dx mA):∃L,h.get? dx=some L/\∀name,W.lookIn name L=some (mA name):=by
 obtain⟨o,es,ep,U,Y,hk,_,hm⟩:=n;refine⟨o,U,λname=>?_⟩;have e:=hm name;unfold nsFind findBy at e;rw[<-Array.find?_toList] at e;unfold W.lookIn;rw[Y];dsimp only;split
 . rename_i y q;rw[q] at e;exact congrArg some e
 . rename_i q;rw[q] at e
   have a:es.toList.any (·.refKey)=false:=by
    rw[List.any_eq_false];intro y hy;obtain⟨z,t,J⟩:=hk y (Array.mem_toList_iff.mp hy);simp[DictEntry.refKey,J]
   have a':¬es.toList.any (·.refKey)=true:=by rw[a];exact Bool.false_ne_true
   rw[if_neg a'];exact congrArg some e
theorem lX.look {h:Heap}{x dx C:Addr}{mA:Str->Option Value}(I:lX h x dx C mA):∃J,W.InstAt h x (W.instObj C dx) C (some J)/\∀name,W.lookIn name J=some (mA name):=
 let⟨J,L,hl⟩:=Fj I.ns
 ⟨J,⟨I.obj,rfl,rfl,L⟩,hl⟩
section
variable {prog:Program}{w:World}{A:Around}{E:Value->Shared->Prop}{s:Shared}{K:W.Frag}{x dx C f:Addr}{mA:Str->Option Value}{name:Str}{v:Value}
theorem get_map {L:Bool}{Q:Value->Shared->Prop}(X:K.In s.heap)(I:lX s.heap x dx C mA)(Y:W.plainGet K C name=true)(hh:W.hasDictIn K C=true)
 (ha:W.findIn K (.ref C) name=some none) (hv:mA name=some v) (U:W.handedIn v=true) (h:Q v { s with toks:=s.toks+1 }):
 wpAny (model prog w) A (getAttr (.ref x) name L) Q E s:=by
 obtain⟨od,J,hl⟩:=I.look;exact W.get_value X J (W.plainGet_of Y).1 (W.findObj_own hh ha rfl (by rw[hl,hv])) U h
theorem Fk {pl:Sem Bool}{Q:Value × List Value->Shared->Prop}(X:K.In s.heap)(I:lX s.heap x dx C mA)(L:W.plainGet K C name=true)
 (U:W.findIn K (.ref C) name=some (some (.ref f))) (Y:W.isFn K (.ref f)=true) (hv:mA name=none) (h:Q (.ref f,[.ref x]) s):
 wpAny (model prog w) A (getMethod (.ref x) name pl) Q E s:=by
 obtain⟨od,J,hl⟩:=I.look;exact W.method_fn X J (W.plainGet_of L).1 (W.plainGet_of L).2 U (beq_iff_eq.mp Y) (by show(W.lookIn name od).map (·.isSome)=some false;rw[hl,hv];rfl) h
theorem Fl {ns:List Str}{Q:Unit->Shared->Prop}(X:K.In s.heap)(I:lX s.heap x dx C mA)
 (hs:W.findIn K (.ref C) "__setattr__"=some (some (.builtin "object.__setattr__"))) (hp:W.plainOver K C=true) (ht:W.takerIn K C name=some none) (hh:W.hasDictIn K C=true)
 (hw:PySem.Within mA ns) (hsz:ns.length<=sizeLine)
 (h:∀h',lX h' x dx C (λy=>if y=name then some v else mA y)->Heap.SameBut dx s.heap h'->Q () { s with heap:=h',toks:=s.toks+2 }):
 wpAny (model prog w) A (setAttr (.ref x) name v) Q E s:=by
 obtain⟨od,J,hl⟩:=I.look;refine W.set_plain X J hs (W.osa_open (s:={ s with toks:=s.toks+1 }) (r:=none) X J hp ht λb=>?_);obtain⟨cd,hc,Y⟩:=W.any_some hh;have hx:s.heap.get? x=some ⟨.ref C,some dx,.plain,#[]⟩:=I.obj;refine Q0 (Q08 (Q0 (Q0 (wpAny_loadPart hx (Q0 (W.Looks.here (s:={ s with toks:=s.toks+1 }) (W.looks_clsIn X hc) ?_))))));rw[Y];refine Q08 (a:=some dx) (Q0 (Q08 (Q0 ?_)));refine wpAny_nsSet1 (s:={ s with toks:=s.toks+1 }) I.ns λh' L U=>?_;obtain⟨oD,ae,af,aa,ab,ac⟩:=L.count (PySem.Within.cons name v hw);refine Q0 (wpAny_lookBehind aa (by rw[ab];exact pastItsLine_dict (Q07 ac (by rw[Q02];omega))) ?_);exact Q08 (h _ ⟨(U.2 _ (Ne.symm I.ne)).trans I.obj,L,I.ne⟩ U)
theorem Fm {R:Result->Shared->Prop}{vs:List Value}{J:List (Str × Value)}(X:K.In s.heap)(L:W.makesIn K C=true)
 (hi:W.findIn K (.ref C) "__init__"=some (some (.ref f))) (U:W.typeIn K (.ref f)=some (.type "function"))
 (h:codeAny (model prog w) (A.under (.builtin "type.__call__" ⟨.ref C::vs,J⟩)) (.call (.ref f) ⟨.ref (s.heap.objs.size+1)::vs,J⟩) (W.InitBack (s.heap.objs.size+1) R)
   { s with heap:=(s.heap.push W.emptyDict).push (W.instObj C s.heap.objs.size) }):
 codeAny (model prog w) A (.call (.ref C) ⟨vs,J⟩) R s:=by
 obtain⟨Y,g,d,t,os⟩:=s;exact W.make_core (W.makes_of X L) (W.looks_findIn X hi) (λself=>W.bind_fn X self U) (.inl rfl) h
end
noncomputable def g_ (f:Str) (v:V):List (Str × V)->List (Str × V)
 |[]=>[(f,v)]
 |(g,x)::r=>if g=f then(g,v)::r else(g,x)::g_ f v r
theorem zo (f g:Str)(v:V):∀fs:List (Str × V),(g_ f v fs).lookup g=if g=f then some v else fs.lookup g
 |[]=>by
  show List.lookup g [(f,v)]=_;by_cases h:g=f
  . have J:(g == f)=true:=beq_iff_eq.mpr h;simp only[List.lookup,J,if_pos h]
  . have J:(g == f)=false:=beq_eq_false_iff_ne.mpr h;simp only[List.lookup,J,if_neg h]
 |(k,x)::r=>by
  have L:=zo f g v r;rw[show g_ f v ((k,x)::r)=(if k=f then(k,v)::r else(k,x)::g_ f v r) from rfl];by_cases hk:k=f
  . rw[if_pos hk];by_cases h:g=k
    . have J:(g == k)=true:=beq_iff_eq.mpr h;simp only[List.lookup,J,if_pos (h.trans hk)]
    . have J:(g == k)=false:=beq_eq_false_iff_ne.mpr h;simp only[List.lookup,J,if_neg (λe:g=f=>h (e.trans hk.symm))]
  . rw[if_neg hk];by_cases h:g=k
    . have J:(g == k)=true:=beq_iff_eq.mpr h;simp only[List.lookup,J,if_neg (λe:g=f=>hk (h.symm.trans e))]
    . have J:(g == k)=false:=beq_eq_false_iff_ne.mpr h;simp only[List.lookup,J];exact L
theorem sM (f:Str)(v:V):∀fs:List (Str × V),f∈(g_ f v fs).map (·.1)/\∀g,g∈fs.map (·.1)->g∈(g_ f v fs).map (·.1)
 |[]=>⟨by simp[g_],λg h=>by simp at h⟩
 |(k,x)::r=>by
  obtain⟨J,L⟩:=sM f v r;rw[show g_ f v ((k,x)::r)=(if k=f then(k,v)::r else(k,x)::g_ f v r) from rfl];by_cases hk:k=f
  . rw[if_pos hk];subst hk;exact⟨by simp,λg h=>by simpa using h⟩
  . rw[if_neg hk];refine⟨?_,λg h=>?_⟩
    . rw[Q0y];exact Q0d _ J
    . rw[Q0y] at h ⊢;rcases List.mem_cons.mp h with e|e
      . exact List.mem_cons.mpr (.inl e)
      . exact Q0d _ (L g e)
theorem zp (f:Str)(v:V):∀fs:List (Str × V),(g_ f v fs).length<=fs.length+1
 |[]=>by simp[g_]
 |(k,x)::r=>by
  have J:=zp f v r;rw[show g_ f v ((k,x)::r)=(if k=f then(k,v)::r else(k,x)::g_ f v r) from rfl];by_cases hk:k=f
  . rw[if_pos hk,Q02,Q02];omega
  . rw[if_neg hk,Q02,Q02];omega
theorem ie.some_of {v:V}{o:Option Value}(r:ie (some v) o):∃u,o=some u/\RelV v u:=by
 cases o with
 |none=>exact(show False from r).elim
 |some u=>exact⟨u,rfl,r⟩
theorem ie.none_of {o:Option Value}(r:ie none o):o=none:=by
 cases o with
 |none=>rfl
 |some u=>exact(show False from r).elim
theorem Fn {v:V}{u:Value}(r:RelV v u):W.handedIn u=true:=by
 cases v with
 |non=>cases(show u=Value.none from r);rfl
 |bl b=>cases(show u=Value.bool b from r);rfl
 |int i=>obtain⟨t,e⟩:=(show ∃t,u=Value.int i t from r);cases e;rfl
 |str x=>obtain⟨t,e⟩:=(show ∃t,u=Value.str x t from r);cases e;rfl
 |jh b=>obtain⟨t,e⟩:=(show ∃t,u=Value.bytes b t from r);cases e;rfl
 |flt b=>obtain⟨t,e⟩:=(show ∃t,u=Value.float b t from r);cases e;rfl
 |ref a=>cases(show u=Value.ref a from r);rfl
 |ty n=>cases(show u=Value.type n from r);rfl
section
variable {P:Program}{w:World}{H H':Hp}{h h':Heap}{a C dx:Addr}{fs fs':List (Str × V)}
theorem qu (J:ft P w H h)(e:H a=some (.ins C dx fs)):∃mA,lX h a dx C mA/\(∀f,ie (fs.lookup f) (mA f))/\PySem.Within mA (fs.map (·.1))/\fs.length<=1000/\H dx=some (.own a):=by
 obtain⟨d,z,ne,L,mA,n,r,q⟩:=(show fQ P w H h a (.ins C dx fs) from J a _ e);exact⟨mA,⟨L,n,ne⟩,r,q,z,d⟩
end
structure Cls (K:W.Frag) (C:Addr):Prop where
 pg:W.plainGet K C Str.empty=true
 hd:W.hasDictIn K C=true
 po:W.plainOver K C=true
 sa:W.findIn K (.ref C) "__setattr__"=some (some (.builtin "object.__setattr__"))
theorem Cls.get {K:W.Frag}{C:Addr}(c:Cls K C)(f:Str):W.plainGet K C f=true:=c.pg
def kG (K:W.Frag) (C:Addr) (f:Str):Prop:=W.findIn K (.ref C) f=some none
theorem kG.taker {K:W.Frag}{C:Addr}{f:Str}(n:kG K C f):W.takerIn K C f=some none:=by
 unfold W.takerIn;rw[show W.findIn K (.ref C) f=some none from n];rfl
structure Meth (K:W.Frag) (C:Addr) (m:Str) (f:Addr):Prop where
 at_:W.findIn K (.ref C) m=some (some (.ref f))
 fn:W.isFn K (.ref f)=true
 kp:W.keepIn K (.ref f)=true
section
variable {X:Cx}{pins:List (Addr × Obj)}{σ:St}{H:Hp}{s:Shared}{a C dx:Addr}{fs:List (Str × V)}{f:Str}{v:V}{A:Around}{E:Value->Shared->Prop}
theorem zq {b:Bool}{Q:Value->Shared->Prop}(I:Inv X pins σ H s)(e:H a=some (.ins C dx fs))(c:Cls X.K C)(n:kG X.K C f)(l:fs.lookup f=some v)
 (h:∀u s',Inv X pins σ H s'->RelV v u->Q u s'):wpAny (model X.prog X.w) A (getAttr (.ref a) f b) Q E s:=by
 obtain⟨mA,O,r,_,_,_⟩:=qu I.hok e;obtain⟨u,L,J⟩:=ie.some_of (v:=v) (o:=mA f) (by rw[<-l];exact r f);exact get_map I.fS O (c.get f) c.hd n L (Fn J) (h u _ (I.tok _) J)
theorem sN {m:Str}{g:Addr}{pl:Sem Bool}{Q:Value × List Value->Shared->Prop}(I:Inv X pins σ H s)(e:H a=some (.ins C dx fs))(c:Cls X.K C)(k:Meth X.K C m g)(l:fs.lookup m=none)
 (h:Q (.ref g,[.ref a]) s):wpAny (model X.prog X.w) A (getMethod (.ref a) m pl) Q E s:=by
 obtain⟨mA,O,r,_,_,_⟩:=qu I.hok e;have J:mA m=none:=ie.none_of (by rw[<-l];exact r m);exact Fk I.fS O (c.get m) k.at_ k.fn J h
theorem zr {y:V}{u:Value}{Q:Unit->Shared->Prop}(I:Inv X pins σ H s)(e:H a=some (.ins C dx fs))(c:Cls X.K C)(n:kG X.K C f)(hl:fs.length<1000)(Y:RelV y u)
 (h:∀s',Inv X pins σ (upd H a (.ins C dx (g_ f y fs))) s'->Q () s'):wpAny (model X.prog X.w) A (setAttr (.ref a) f u) Q E s:=by
 obtain⟨mA,O,r,L,_,U⟩:=qu I.hok e;have hz:(fs.map (·.1)).length<=sizeLine:=by rw[Q0b,sizeLine_eq];omega
 refine Fl I.fS O c.sa c.po n.taker c.hd L hz λh' J sb=>h _ ?_;have hd:∃o,h'.get? dx=some o:=let⟨o,_,_,e',_⟩:=J.ns;⟨o,e'⟩
 refine I.write (x:=a) (e:=dx) (by rw[e];exact True.intro) (.inr U) (λb q hb z=>(sb.2 b hb).trans z) hd ?_;refine⟨by rw[dg O.ne];exact U,?_,O.ne,J.obj,_,J.ns,λg=>?_,λg hg=>?_⟩
 . have:=zp f y fs;omega
 . show ie ((g_ f y fs).lookup g) (if g=f then some u else mA g);rw[zo];by_cases q:g=f
   . rw[if_pos q,if_pos q];exact Y
   . rw[if_neg q,if_neg q];exact r g
 . by_cases q:g=f
   . rw[q];exact(sM f y fs).1
   . refine(sM f y fs).2 g (L g λz=>hg ?_);show(if g=f then some u else mA g)=none;rw[if_neg q];exact z
theorem Inv.made (I:Inv X pins σ H s):Inv X pins σ (upd (upd H s.heap.objs.size (.own (s.heap.objs.size+1))) (s.heap.objs.size+1) (.ins C s.heap.objs.size []))
 { s with heap:=(s.heap.push W.emptyDict).push (W.instObj C s.heap.objs.size) }:=by
 have e1:(s.heap.push W.emptyDict).get? s.heap.objs.size=some W.emptyDict:=Q0f s.heap rfl
 have J:((s.heap.push W.emptyDict).push (W.instObj C s.heap.objs.size)).get? (s.heap.objs.size+1)=some (W.instObj C s.heap.objs.size):=by
  have:=Q0f (s.heap.push W.emptyDict) (o:=W.instObj C s.heap.objs.size) rfl
  rwa [Q16] at this
 have L:(s.heap.push W.emptyDict).Ns s.heap.objs.size (λ_=>none):=⟨W.emptyDict,#[],_,e1,rfl,(λe U=>absurd U (by simp)),λ_=>rfl⟩;have Y:=I.laid (a:=s.heap.objs.size) (o:=.own (s.heap.objs.size+1)) (h':=s.heap.push W.emptyDict) (t':=s.toks) (λb u q=>Q04 _ q) (Q00 _) ⟨_,e1⟩;refine Y.laid (a:=s.heap.objs.size+1) (o:=.ins C s.heap.objs.size []) (t':=s.toks) (λb u q=>Q04 _ q) (Q23 (Q16 _ _)) ?_;have ne:s.heap.objs.size≠s.heap.objs.size+1:=Q0c (Q1a _);refine⟨by rw[dg ne,dw],Q06 _,ne,J,λ_=>none,(Heap.Ns1.of_empty L).at λo q=>Q04 _ q,λ_=>True.intro,λy hy=>absurd rfl hy⟩
theorem Fo {prog:Program}{w:World}{env:Env}{e:Expr}{f:Str}{pos:Pos}{s:Shared}{Q:Value->Shared->Prop}(L:attributeBase e f env (eval e env)=eval e env)
 (h:wpAny (model prog w) A (eval e env) (λo J=>wpAny (model prog w) A (getAttr o f true) Q E J) E s):wpAny (model prog w) A (eval (.Attribute e f pos) env) Q E s:=
 Attribute_any_ h (by rw[arm_eval_Attribute,L])
end
def Fp (K:W.Frag) (ta:TE) (f:Str):TE:=λσ H Q=>ta σ H λx H1=>∃a C dx fs v,x=.ref a/\H1 a=some (.ins C dx fs)/\Cls K C/\kG K C f/\fs.lookup f=some v/\Q v H1
def Fq (K:W.Frag) (ta tv:TE) (f:Str):TS:=λD σ H=>tv σ H λy H1=>ta σ H1 λx H2=>∃a C dx fs,x=.ref a/\H2 a=some (.ins C dx fs)/\Cls K C/\kG K C f/\fs.length<1000/\
 D.nx σ (upd H2 a (.ins C dx (g_ f y fs)))
def zt (X:Cx) (J:Operator) (rd:V->V->Hp->VK->Prop):Prop:=
 ∀(pins:List (Addr × Obj)) (s:Shared) (σ:St) (H:Hp) (x y:V) (u v:Value) (Q:VK),Inv X pins σ H s->RelV x u->RelV y v->rd x y H Q->wpAny (model X.prog X.w) X.A (inplaceOp J u v) (EP X pins σ Q) X.xe s
def Ft (K:W.Frag) (ta tv:TE) (rd:V->V->Hp->VK->Prop) (f:Str):TS:=λD σ H=>ta σ H λx H1=>∃a C dx fs v,x=.ref a/\H1 a=some (.ins C dx fs)/\Cls K C/\kG K C f/\fs.lookup f=some v/\
 tv σ H1 λy H2=>rd v y H2 λz L=>∃J fs',L a=some (.ins C J fs')/\fs'.length<1000/\D.nx σ (upd L a (.ins C J (g_ f z fs')))
section
variable {X:Cx}{o e value:Expr}{f:Str}{pos pos' tpos:Pos}{ta tv:TE}
theorem mN (J:PE X e ta)(L:attributeBase e f X.env (eval e X.env)=eval e X.env):PE X (.Attribute e f pos) (Fp X.K ta f):=by
 intro pins s σ H Q I h;refine Fo L (dD (J pins s σ H _ I h) λu s1 zq=>?_);obtain⟨x,H1,U,Y,a,C,dx,fs,v,ex,ea,c,n,l,q⟩:=zq;subst ex;obtain rfl:u=Value.ref a:=Y;exact zq U ea c n l λu' s2 I2 ru=>⟨v,H1,I2,ru,q⟩
theorem zu (J:PE X o ta)(L:PE X value tv)(U:swapsWith value (some (.Attribute o f pos')) pos.line X.env=pure false):PS X (.Assign [.Attribute o f pos'] value pos) (Fq X.K ta tv f):=by
 intro pins s σ H D I h;refine plainObj_wpAny_Assign_Attribute (dD (L pins s σ H _ I h) λu Y ⟨y,H1,I1,ry,q⟩=>dD (J pins Y σ H1 _ I1 q) λov s2 zq=>?_) U;obtain⟨x,H2,I2,rx,a,C,dx,fs,ex,ea,c,n,l,q2⟩:=zq;subst ex;obtain rfl:ov=Value.ref a:=rx;exact zr I2 ea c n l ry λs3 I3=>⟨σ,_,I3,q2⟩
theorem zw {U:Operator}{rd:V->V->Hp->VK->Prop}(Y:PE X o ta)(hv:PE X value tv)(J:zt X U rd):PS X (.AugAssign (.Attribute o f tpos) U value pos) (Ft X.K ta tv rd f):=by
 intro pins s σ H D I h;refine wpAny_AugAssign_AttributeAny (dD (Y pins s σ H _ I h) λov s1 zq=>?_);obtain⟨x,H1,I1,rx,a,C,dx,fs,v,ex,ea,c,n,l,q⟩:=zq;subst ex;obtain rfl:ov=Value.ref a:=rx;refine zq I1 ea c n l λu s2 I2 ru=>dD (hv pins s2 σ H1 _ I2 q) λw3 s3 ⟨y,H2,I3,ry,q3⟩=>dD (J pins s3 σ H2 v y u w3 _ I3 ru ry q3) λw4 s4 zq=>?_;obtain⟨z,H3,I4,rz,aa,fs',L,l',q4⟩:=zq;exact zr I4 L c n l' rz λs5 I5=>⟨σ,_,I5,q4⟩
def Fu:V->V->Hp->VK->Prop:=λx y H Q=>∃i j,x=.int i/\y=.int j/\Q (.int (i+j)) H
theorem zx:zt X .Add Fu:=by
 rintro pins s σ H x y u v Q I J L ⟨i,j,rfl,rfl,q⟩;obtain⟨t,rfl⟩:=(show ∃t,u=Value.int i t from J);obtain⟨t',rfl⟩:=(show ∃t',v=Value.int j t' from L);exact PyProof.Rows.iadd_int ⟨.int (i+j),H,I.tok _,⟨_,rfl⟩,q⟩
end
section
variable {X:Cx}{pins:List (Addr × Obj)}{σ:St}{H:Hp}{s:Shared}{A:Around}{E:Value->Shared->Prop}{Q:Value->Shared->Prop}{c:Value}{b:Bool}
inductive iO (K:W.Frag) (H:Hp):V->Value->Prop where
 |non:iO K H .non (.type "NoneType")
 |bl (x:Bool):iO K H (.bl x) (.type "bool")
 |int (i:Int):iO K H (.int i) (.type "int")
 |str (x:Str):iO K H (.str x) (.type "str")
 |flt (x:UInt64):iO K H (.flt x) (.type "float")
 |lst {a:Addr} {xs:List V} (e:H a=some (.lst xs)):iO K H (.ref a) (.type "list")
 |fb {a:Addr} {o:Obj} {xs:List V} (e:H a=some (.fb o (.lst xs))):iO K H (.ref a) (.type "list")
 |tup {a:Addr} {xs:List V} (e:H a=some (.tup xs)):iO K H (.ref a) (.type "tuple")
 |dK {a:Addr} {kvs:List (Key × V)} (e:H a=some (.dK kvs)):iO K H (.ref a) (.type "dict")
 |dT {a:Addr} {kvs:List (List Key × V)} (e:H a=some (.dT kvs)):iO K H (.ref a) (.type "dict")
 |ins {a C dx:Addr} {fs:List (Str × V)} (e:H a=some (.ins C dx fs)) (cl:Cls K C) (ha:W.findIn K (.ref C) "__class__"=some (some (.builtin "object.__class__")))
   (hn:W.specialIn K (.builtin "object.__class__") "__get__"=some (some (.builtin "getset_descriptor.__get__"))) (htk:W.takesIn K (.builtin "object.__class__")=some true)
   (hm:W.mroIn K C (.type "object")=some true):iO K H (.ref a) (.ref C)
theorem Fv {x:V}{u t:Value}(I:Inv X pins σ H s)(L:RelV x u)(ty:iO X.K H x t)(e:W.kitOne X.K t c=some b)(h:∀tk,Q (.bool b) { s with toks:=tk }):
 wpAny (model X.prog X.w) A (call (.builtin "isinstance") [u,c]) Q E s:=by
 cases ty with
 |non=>cases(show u=Value.none from L);exact W.kia_one W.kitx_none I.fS True.intro e (λz=>nomatch z) h
 |bl y=>cases(show u=Value.bool y from L);exact W.kia_one W.kitx_bool I.fS True.intro e (λz=>nomatch z) h
 |int i=>obtain⟨t,q⟩:=(show ∃t,u=Value.int i t from L);cases q;exact W.kia_one W.kitx_int I.fS True.intro e (λz=>nomatch z) h
 |str y=>obtain⟨t,q⟩:=(show ∃t,u=Value.str y t from L);cases q;exact W.kia_one W.kitx_str I.fS True.intro e (λz=>nomatch z) h
 |flt y=>obtain⟨t,q⟩:=(show ∃t,u=Value.float y t from L);cases q;exact W.kia_one W.kitx_float I.fS True.intro e (λz=>nomatch z) h
 |@lst a xs U=>
  cases(show u=Value.ref a from L);obtain⟨_,_,n,_,h1⟩:=(show fQ X.prog X.w H s.heap a (.lst xs) from I.hok a _ U);exact W.kia_one W.kitx_list I.fS ⟨_,h1,rfl⟩ e (λz=>nomatch z) h
 |@fb a ob xs U=>
  cases(show u=Value.ref a from L);obtain⟨_,_,_,n,_,h1⟩:=(show fQ X.prog X.w H s.heap a (.fb ob (.lst xs)) from I.hok a _ U);exact W.kia_one W.kitx_list I.fS ⟨_,h1,rfl⟩ e (λz=>nomatch z) h
 |@tup a xs U=>
  cases(show u=Value.ref a from L);obtain⟨_,_,_,p⟩:=(show fQ X.prog X.w H s.heap a (.tup xs) from I.hok a _ U);obtain⟨o,h1,h2,_⟩:=p;exact W.kia_one W.kitx_tuple I.fS ⟨o,h1,h2⟩ e (λz=>nomatch z) h
 |@dK a kvs U=>
  cases(show u=Value.ref a from L);obtain⟨_,_,vs,_,p⟩:=(show fQ X.prog X.w H s.heap a (.dK kvs) from I.hok a _ U);obtain⟨o,es,ep,h1,h2,_⟩:=p;exact W.kia_one W.kitx_dict I.fS ⟨o,h1,h2.1⟩ e (λz=>nomatch z) h
 |@dT a kvs U=>
  cases(show u=Value.ref a from L);obtain⟨_,_,xs,_,o,es,ep,h1,h2,_⟩:=(show fQ X.prog X.w H s.heap a (.dT kvs) from I.hok a _ U);exact W.kia_one W.kitx_dict I.fS ⟨o,h1,h2.1⟩ e (λz=>nomatch z) h
 |@ins a C dx fs U cl ha hn Y hm=>
  cases(show u=Value.ref a from L);obtain⟨mA,O,_⟩:=qu I.hok U;obtain⟨od,J,_⟩:=O.look;exact W.kia_one (W.kitx_own (cl.get _) cl.hd ha hn Y hm) I.fS J e (λz=>nomatch z) h
end
structure eJ (k:Nat) (A:Around):Prop where
 hd:A.handled=none
 dp:A.depth+3 * k+5<recursionLimit
 un:A.units+16 * k+200<cLine
theorem eJ.mono {j k:Nat}{A:Around}(r:eJ k A)(h:j<=k):eJ j A:=⟨r.hd,by have:=r.dp;omega,by have:=r.un;omega⟩
theorem eJ.deeper {k:Nat}{A:Around}(r:eJ (k+1) A)(env:Env):eJ k (A.deeper env):=
 ⟨r.hd,by have:=r.dp;show A.depth+1+3 * k+5<_;omega,by have:=r.un;show A.units+3+16 * k+200<_;omega⟩
theorem eJ.in1 {k:Nat}{A:Around}(r:eJ (k+1) A):eJ k A.in1:=
 ⟨r.hd,by have:=r.dp;show A.depth+3 * k+5<_;omega,by have:=r.un;show A.units+1+16 * k+200<_;omega⟩
theorem Fw {A:Around}{C:Addr}{us:List Value}{J:List (Str × Value)}:(A.under (.builtin "type.__call__" ⟨.ref C::us,J⟩)).depth=A.depth+1:=by
 first|rfl|simp[Around.under,Code.weight,Code.isCreation,Code.isGuard,Code.isCaller,Code.frames,Code.isFrame,guardIds]
theorem Fx {A:Around}{C:Addr}{us:List Value}{J:List (Str × Value)}:(A.under (.builtin "type.__call__" ⟨.ref C::us,J⟩)).units=A.units+1:=by
 first|rfl|simp[Around.under,Code.cUnits,Code.frames,Code.isFrame]
theorem eJ.make {k:Nat}{A:Around}(r:eJ (k+1) A)(C:Addr)(us:List Value)(J:List (Str × Value)):eJ k (A.under (.builtin "type.__call__" ⟨.ref C::us,J⟩)):=
 ⟨r.hd,by have:=r.dp;rw[Fw];omega,by have:=r.un;rw[Fx];omega⟩
theorem eJ.depth {k:Nat}{A:Around}(r:eJ k A):A.depth<recursionLimit:=by have:=r.dp;omega
theorem eJ.units {k:Nat}{A:Around}(r:eJ k A):A.units+64<cLine:=by have:=r.un;omega
def hU:TA:=λ_ H Q=>Q [] H
def fF (ta:TE) (J:TA):TA:=λσ H Q=>ta σ H λx H1=>J σ H1 λxs H2=>Q (x::xs) H2
section
variable {X:Cx}{e:Expr}{es:List Expr}{te:TE}{t:TA}{pos:Pos}
theorem b_:PA X [] hU:=λ_ _ _ _ H Q I h=>Calls.spliced_nil ⟨[],H,I,.nil,h⟩
theorem a_ (J:PE X e te)(L:PA X es t)(U:starEach (e::es) X.env=(false,eval e X.env)::starEach es X.env:=by rfl):PA X (e::es) (fF te t):=by
 intro pos pins s σ H Q I h;rw[U];show wpAny _ _ (spliced ((false,eval e X.env)::backTo pos (starEach es X.env))) _ _ s;refine Calls.spliced_cons (dD (J pins s σ H _ I h) λu Y zq=>?_);obtain⟨x,H1,I1,r1,q1⟩:=zq;exact dD (L pos pins Y σ H1 _ I1 q1) λus s2 ⟨xs,H2,I2,r2,q2⟩=>⟨x::xs,H2,I2,.cons r1 r2,q2⟩
def zy (t:TA):TE:=λσ H Q=>t σ H λxs H1=>xs.length<=sizeLine/\∀p,H1 p=none->Q (.ref p) (upd H1 p (.tup xs))
def Fy (t:TA):TE:=λσ H Q=>t σ H λxs H1=>xs.length<=sizeLine/\∀p,H1 p=none->Q (.ref p) (upd H1 p (.lst xs))
theorem f_ {U}(h:PA X es t):PE X (.Tuple es U pos) (zy t):=by
 intro pins s σ H Q I Y;refine wpAny_Tuple_spliced (dD (h pos pins s σ H _ I Y) λus J ⟨xs,H1,L,r,z,q⟩=>⟨by rw[<-r.length];exact z,?_⟩);have hf:H1 J.heap.objs.size=none:=L.hok.fresh (Q00 _);refine⟨.ref J.heap.objs.size,upd H1 J.heap.objs.size (.tup xs),L.laid (t':=J.toks) (λb u e=>Q04 _ e) (Q00 _) ?_,rfl,q _ hf⟩;exact⟨z,us,r,⟨_,Q0f _ rfl,rfl,_,rfl⟩⟩
theorem gm (h:PA X es t):PE X (.List es pos) (Fy t):=by
 intro pins s σ H Q I U;refine wpAny_List_spliced (dD (h pos pins s σ H _ I U) λus J ⟨xs,H1,L,r,z,q⟩=>⟨by rw[<-r.length];exact z,?_⟩);have Y:H1 J.heap.objs.size=none:=L.hok.fresh (Q00 _);refine⟨.ref J.heap.objs.size,upd H1 J.heap.objs.size (.lst xs),L.laid (t':=J.toks) (λb u e=>Q04 _ e) (Q00 _) ?_,rfl,q _ Y⟩;exact⟨z,us,0,r,Q0f _ rfl⟩
end
noncomputable abbrev Sp:=List V->Hp->VK->XK->Prop
noncomputable abbrev jo:=List Env->Hp->Shared->XK->Value->Shared->Prop
structure j7 (P:Program) (w:World) (K:W.Frag) (mg:Str->Option Value) (base:Heap) (A:Around) (outer:List Env) (s:Shared) (H:Hp):Prop where
 frames:A.frames=some outer
 mod:Mod K mg base
 bs:∀b o,base.get? b=some o->s.heap.get? b=some o/\H b=none
 jG:base.objs.size<=s.heap.objs.size
 i7:s.heap.FunFrames base outer
 k8:∀b∈frs outer,H b=none
 hok:ft P w H s.heap
 bare:AllBare s.gens
def CE (outer:List Env) (P:Program) (w:World) (H:Hp) (s:Shared) (Q:VK) (u:Value) (s':Shared):Prop:=
 ∃v H',s'.os=s.os/\AllBare s'.gens/\Un (frs outer) [] H H' s.heap s'.heap/\ft P w H' s'.heap/\RelV v u/\Q v H'
def CR (CX:jo) (outer:List Env) (P:Program) (w:World) (H:Hp) (s:Shared) (Q:VK) (E:XK) (r:Result) (s':Shared):Prop:=
 match r with
 | .ok (.ret u)=>CE outer P w H s Q u s'
 | .ok _=>False
 | .error e=>CX outer H s E e s'
structure dj (P:Program) (w:World) (K:W.Frag) (mg:Str->Option Value) (base:Heap) (CX:jo) (k:Nat) (f:Addr) (fd:FuncData) (ps:List Str) (sp:Sp):Prop where
 len:∀vs H Q E,sp vs H Q E->vs.length=ps.length
 run:∀(A:Around) (outer:List Env) (s:Shared) (H:Hp) (args:Args) (us:List Value) (vs:List V) (Q:VK) (E:XK),eJ k A->j7 P w K mg base A outer s H->BindsTo s fd args (ps.zip us)->Vals vs us->sp vs H Q E->
  codeAny (model P w) A (.call (.ref f) args) (CR CX outer P w H s Q E) s
theorem dj.imp {P:Program}{w:World}{K:W.Frag}{mg:Str->Option Value}{base:Heap}{CX:jo}{k:Nat}{f:Addr}{fd:FuncData}{ps:List Str}{sp J:Sp}(F:dj P w K mg base CX k f fd ps sp)
 (h:∀vs H Q E,J vs H Q E->sp vs H Q E):dj P w K mg base CX k f fd ps J:=
 ⟨λvs H Q E q=>F.len vs H Q E (h _ _ _ _ q),λA outer s H args us vs Q E L U Y hv hs=>F.run A outer s H args us vs Q E L U Y hv (h _ _ _ _ hs)⟩
theorem j7.make {P:Program}{w:World}{K:W.Frag}{mg:Str->Option Value}{base:Heap}{A:Around}{outer:List Env}{s:Shared}{H:Hp}(e:j7 P w K mg base A outer s H)(C:Addr)(us:List Value)(J:List (Str × Value)):
 j7 P w K mg base (A.under (.builtin "type.__call__" ⟨.ref C::us,J⟩)) outer s H:=⟨by first|exact e.frames|(simpa[Around.under,Code.envs,Code.isFrame,pushEnvs] using e.frames),e.mod,e.bs,e.jG,e.i7,e.k8,e.hok,e.bare⟩
section
variable {X:Cx}{pins:List (Addr × Obj)}{σ:St}{H:Hp}{s s':Shared}
theorem Inv.env0 (I:Inv X pins σ H s):j7 X.prog X.w X.K X.mg X.base X.A X.stack s H:=
 ⟨I.ok.frames,I.ok.mod,I.bs,Q07 I.ok.jG I.sz,I.stack,I.sy,I.hok,I.bare⟩
theorem Inv.after {Q:VK}{u:Value}(I:Inv X pins σ H s)(h:CE X.stack X.prog X.w H s Q u s'):EP X pins σ Q u s':=by
 obtain⟨v,H',os,J,un,L,r,q⟩:=h;obtain⟨Y,g,d,t,U⟩:=s';obtain rfl:U=s.os:=os;exact⟨v,H',I.call (h':=Y) (g':=g) (d':=d) (t':=t) (ch:=[]) un L J (λb z=>absurd z (by simp)),r,q⟩
end
def jq (sp:Sp) (gx:List V) (E:XK) (t:TA):TE:=λσ H Q=>t σ H λvs H1=>sp (vs++gx) H1 Q E
def zA (C:Addr) (m:Str) (sp:Sp) (gx:List V) (E:XK) (ta:TE) (t:TA):TE:=λσ H Q=>ta σ H λx H1=>∃a dx fs,x=.ref a/\H1 a=some (.ins C dx fs)/\fs.lookup m=none/\
 t σ H1 λvs H2=>sp (x::(vs++gx)) H2 Q E
def Fz (C:Addr) (sp:Sp) (gx:List V) (E:XK) (t:TA):TE:=λσ H Q=>t σ H λvs H1=>∀x dx,H1 x=none->H1 dx=none->dx≠x->
 sp (.ref x::(vs++gx)) (upd (upd H1 dx (.own x)) x (.ins C dx [])) (λv H2=>v=.non/\Q (.ref x) H2) E
def Binds (K:W.Frag) (fd:FuncData) (ps:List Str) (ds:List Value):Prop:=
 ∀(s:Shared) (us:List Value),K.In s.heap->(us++ds).length=ps.length->BindsTo s fd ⟨us,[]⟩ (ps.zip (us++ds))
theorem Binds.all {K:W.Frag}{fd:FuncData}{ps:List Str}(h:∀us:List Value,us.length=ps.length->bindArgs fd ⟨us,[]⟩=pure (ps.zip us)):Binds K fd ps []:=λs us _ hl=>by
 rw[Q0n] at hl ⊢;exact .of_eq (h us hl)
def Passes (CX:jo) (X:Cx) (E:XK):Prop:=∀(pins:List (Addr × Obj)) (σ:St) (H:Hp) (s:Shared) (e:Value) (s':Shared),Inv X pins σ H s->CX X.stack H s E e s'->X.xe e s'
section
variable {X:Cx}{CX:jo}{k:Nat}{f C:Addr}{fd:FuncData}{ps:List Str}{sp:Sp}{gx:List V}{ds:List Value}{E:XK}{x m:Str}{p pos apos:Pos}{e o:Expr}{es:List Expr}{ta:TE}{t:TA}
theorem sO {pins:List (Addr × Obj)}{σ:St}{H:Hp}{s:Shared}{Q:VK}{us:List Value}{vs:List V}(F:dj X.prog X.w X.K X.mg X.base CX k f fd ps sp)(U:eJ k X.A)(Y:Binds X.K fd ps ds)(hd:Vals gx ds)(hx:Passes CX X E)
 (I:Inv X pins σ H s) (r:Vals vs us) (h:sp (vs++gx) H Q E):wpAny (model X.prog X.w) X.A (call (.ref f) us) (EP X pins σ Q) X.xe s:=by
 have L:Vals (vs++gx) (us++ds):=r.append hd;have hl:(us++ds).length=ps.length:=by rw[<-L.length];exact F.len _ _ _ _ h
 refine wpAny_call (codeAny_mono (F.run X.A X.stack s H ⟨us,[]⟩ (us++ds) (vs++gx) Q E U I.env0 (Y s us I.fS hl) L h) λr s' J=>?_)
 cases r with
 |error e=>exact hx pins σ H s e s' I J
 |ok fl=>
  cases fl with
  |ret u=>exact I.after J
  |next=>exact False.elim J
  |brk=>exact False.elim J
  |cont=>exact False.elim J
theorem zB (F:dj X.prog X.w X.K X.mg X.base CX k f fd ps sp)(Y:eJ k X.A)(hg:Gl X x)(hm:X.mg x=some (.ref f))(hk:W.keepIn X.K (.ref f)=true)(hb:Binds X.K fd ps ds)(hd:Vals gx ds)(hx:Passes CX X E)
 (ha:PA X (e::es) t) (J:(x == ("__debug__":Str))=false:=by decide) (he:starEach (e::es) X.env=(false,eval e X.env)::starEach es X.env:=by rfl) (L:(backTo pos (starEach es X.env)).any (·.1)=false:=by rfl):
 PE X (.Call (.Name x p) (e::es) [] pos) (jq sp gx E t):=by
 intro pins s σ H Q I h;refine wpAny_Call_Name_kw (sA I hg hm ?_ J);refine W.callWith_K (h₀:=X.base) I.ok.mod.lM hk (dD (ha pos pins s σ H _ I h) λus s1 ⟨vs,H1,U,r,q⟩=>⟨U.fS,?_⟩) he L;exact sO F Y hb hd hx U r q
theorem gM {pl:Sem Bool}(he:PE X o ta)(c:Cls X.K C)(U:Meth X.K C m f)(F:dj X.prog X.w X.K X.mg X.base CX k f fd ps sp)(hr:eJ k X.A)(hb:Binds X.K fd ps ds)(hd:Vals gx ds)(hx:Passes CX X E)(ha:PA X (e::es) t)
 (J:starEach (e::es) X.env=(false,eval e X.env)::starEach es X.env:=by rfl) (L:(backTo pos (starEach es X.env)).any (·.1)=false:=by rfl)
 (ht:eval (.Call (.Attribute o m apos) (e::es) [] pos) X.env=(do
   let Y <-eval o X.env
   standAt apos.atName
   let(f,first) <-holding [Y] (getMethod Y m pl)
   callWith pos f first (backTo pos (starEach (e::es) X.env)) (backToKw pos (keywordEach [] X.env))):=by rfl):
 PE X (.Call (.Attribute o m apos) (e::es) [] pos) (zA C m sp gx E ta t):=by
 intro pins s σ H Q I h;refine W.methodCall_KW (pl:=pl) (dD (he pins s σ H _ I h) λu s1 zq=>?_) ht;obtain⟨x,H1,I1,rx,a,dx,fs,ex,ea,l,q⟩:=zq;subst ex;obtain rfl:u=Value.ref a:=rx;refine sN I1 ea c U l ?_;refine W.callWith_K (first:=[.ref a]) (h₀:=X.base) I.ok.mod.lM U.kp (dD (ha pos pins s1 σ H1 _ I1 q) λus s2 ⟨vs,H2,I2,r,q2⟩=>⟨I2.fS,?_⟩) J L;exact sO (us:=.ref a::us) (vs:=.ref a::vs) F hr hb hd hx I2 (.cons rfl r) q2
theorem FC {pl:Sem Bool}(Y:PE X o ta)(c:Cls X.K C)(L:Meth X.K C m f)(F:dj X.prog X.w X.K X.mg X.base CX k f fd ps sp)(hr:eJ k X.A)(hb:Binds X.K fd ps ds)(hd:Vals gx ds)(hx:Passes CX X E)
 (ht:eval (.Call (.Attribute o m apos) [] [] pos) X.env=(do
   let U <-eval o X.env
   standAt apos.atName
   let(f,first) <-holding [U] (getMethod U m pl)
   callWith pos f first (backTo pos (starEach [] X.env)) (backToKw pos (keywordEach [] X.env))):=by rfl):
 PE X (.Call (.Attribute o m apos) [] [] pos) (zA C m sp gx E ta hU):=by
 intro pins s σ H Q I h;refine W.methodCall_KW (pl:=pl) (dD (Y pins s σ H _ I h) λu s1 zq=>?_) ht;obtain⟨x,H1,J,rx,a,dx,fs,ex,ea,l,q⟩:=zq;subst ex;obtain rfl:u=Value.ref a:=rx;refine sN J ea c L l ?_;exact W.callWith_K0 (first:=[.ref a]) J.fS L.kp (sO (us:=[.ref a]) (vs:=[.ref a]) F hr hb hd hx J (.cons rfl .nil) q)
structure Mk (K:W.Frag) (C f:Addr):Prop where
 makes:W.makesIn K C=true
 init:W.findIn K (.ref C) "__init__"=some (some (.ref f))
 fn:W.isFn K (.ref f)=true
 kp:W.keepIn K (.ref C)=true
theorem FD {pins:List (Addr × Obj)}{σ:St}{H:Hp}{s:Shared}{Q:VK}{us:List Value}{vs:List V}(M:Mk X.K C f)(F:dj X.prog X.w X.K X.mg X.base CX k f fd ps sp)(hr:eJ (k+1) X.A)(hb:Binds X.K fd ps ds)(hd:Vals gx ds)
 (hx:Passes CX X E) (I:Inv X pins σ H s) (r:Vals vs us)
 (h:∀x dx,H x=none->H dx=none->dx≠x->sp (.ref x::(vs++gx)) (upd (upd H dx (.own x)) x (.ins C dx [])) (λv H2=>v=.non/\Q (.ref x) H2) E):
 wpAny (model X.prog X.w) X.A (call (.ref C) us) (EP X pins σ Q) X.xe s:=by
 have U:=h (s.heap.objs.size+1) s.heap.objs.size (I.hok.fresh (Q15 _)) (I.hok.fresh (Q00 _)) (Q0c (Q1a _));have L:=Inv.made (C:=C) I;have Y:Vals (V.ref (s.heap.objs.size+1)::(vs++gx)) (Value.ref (s.heap.objs.size+1)::(us++ds)):=.cons rfl (r.append hd)
 have hl:(Value.ref (s.heap.objs.size+1)::us++ds).length=ps.length:=by
  have e:=Y.length;rw[F.len _ _ _ _ U] at e;exact e.symm
 refine wpAny_call (Fm (f:=f) I.fS M.makes M.init (beq_iff_eq.mp M.fn) (codeAny_mono (F.run _ X.stack _ _ ⟨Value.ref (s.heap.objs.size+1)::us,[]⟩ (Value.ref (s.heap.objs.size+1)::(us++ds)) _ _ E (hr.make C us [])
  (L.env0.make C us []) (hb _ (Value.ref (s.heap.objs.size+1)::us) L.fS hl) Y U) λr s' J=>?_))
 cases r with
 |error e=>exact hx pins σ _ _ e s' L J
 |ok fl=>
  cases fl with
  |ret u=>
   obtain⟨v,H',I3,rv,ev,q3⟩:=L.after J;subst ev;exact⟨rv,⟨V.ref (s.heap.objs.size+1),H',I3,rfl,q3⟩⟩
  |next=>exact False.elim J
  |brk=>exact False.elim J
  |cont=>exact False.elim J
theorem FE (M:Mk X.K C f)(F:dj X.prog X.w X.K X.mg X.base CX k f fd ps sp)(Y:eJ (k+1) X.A)(hg:Gl X x)(hm:X.mg x=some (.ref C))(hb:Binds X.K fd ps ds)(hd:Vals gx ds)(hx:Passes CX X E)
 (ha:PA X (e::es) t) (J:(x == ("__debug__":Str))=false:=by decide) (he:starEach (e::es) X.env=(false,eval e X.env)::starEach es X.env:=by rfl) (L:(backTo pos (starEach es X.env)).any (·.1)=false:=by rfl):
 PE X (.Call (.Name x p) (e::es) [] pos) (Fz C sp gx E t):=by
 intro pins s σ H Q I h;refine wpAny_Call_Name_kw (sA I hg hm ?_ J);refine W.callWith_K (h₀:=X.base) I.ok.mod.lM M.kp (dD (ha pos pins s σ H _ I h) λus s1 ⟨vs,H1,U,r,q⟩=>⟨U.fS,?_⟩) he L;exact FD M F Y hb hd hx U r q
end
section
variable {X:Cx}{CX:jo}{k:Nat}{f C:Addr}{fd:FuncData}{ps ks:List Str}{sp:Sp}{E:XK}{x m:Str}{p pos apos kpos:Pos}{e o:Expr}{es:List Expr}{kws:List Keyword}{te ta:TE}{t tk:TA}{nm:Option Str}
variable {g:List Value->List Value->List Value}{gV:List V->List V->List V}
end
structure d9 (N P:List Str) (sc:Scope):Prop where
 kind:sc.kind=.function
 co:sc.isCoroutine=false
 gen:sc.isGenerator=false
 nd:N.Nodup
 pre:N.take P.length=P
 par:∀x∈P,sc.names.lookup x=some .local\/sc.names.lookup x=some .cell
 FF:∀y∈sc.names,y.2≠ .free
theorem LA {N Q:List Str}{sc:Scope}(h1:sc.kind=.function:=by rfl)(h2:sc.isCoroutine=false:=by rfl)(J:sc.isGenerator=false:=by rfl)(L:N.Nodup:=by decide +kernel)(U:N.take Q.length=Q:=by rfl)(Y:∀x∈Q,sc.names.lookup x=some .local\/sc.names.lookup x=some .cell:=by decide +kernel)(h7:∀y∈sc.names,y.2≠ .free:=by decide +kernel):d9 N Q sc:=⟨h1,h2,J,L,U,Y,h7⟩
theorem zC {kindOf:Str->Option NameKind}{x:Str}:∀{binds:List (Str × Value)}{m:Str->Option Value},(∀v,(x,v) ∉ binds)->bindL kindOf binds m x=m x
 |[],_,_=>rfl
 |(n,v)::r,m,h=>by
  unfold bindL;rw[zC λw hw=>h w (Q0d _ hw)];split
  . have:x≠n:=by rintro rfl;exact h v Q05
    simp[this]
  . rfl
theorem zD {kindOf:Str->Option NameKind}{x:Str}:∀{binds:List (Str × Value)}{m:Str->Option Value},(∀v,(x,v) ∉ binds)->bindC kindOf binds m x=m x
 |[],_,_=>rfl
 |(n,v)::r,m,h=>by
  unfold bindC;rw[zD λw hw=>h w (Q0d _ hw)];split
  . rfl
  . have:x≠n:=by rintro rfl;exact h v Q05
    simp[this]
theorem zE {kindOf:Str->Option NameKind}{x:Str}{v:Value}:∀{P:List Str}{vs:List Value}{i:Nat}{m:Str->Option Value},P.Nodup->P[i]? =some x->vs[i]? =some v->kindOf x=some .local->
 bindL kindOf (P.zip vs) m x=some v
 |[],_,_,_,_,h,_,_=>by simp at h
 |_::_,[],_,_,_,_,h,_=>by simp at h
 |p::P,w::vs,0,m,J,h1,h2,hk=>by
  simp at h1 h2;subst h1;subst h2;show bindL kindOf ((p,w)::P.zip vs) m p=_;unfold bindL;rw[zC λv L=>(List.nodup_cons.mp J).1 (Q1u L).1,if_pos hk];simp
 |p::P,w::vs,i+1,m,J,h1,h2,hk=>by
  show bindL kindOf ((p,w)::P.zip vs) m x=_;unfold bindL;exact zE (i:=i) (List.nodup_cons.mp J).2 (by simpa using h1) (by simpa using h2) hk
theorem zF {kindOf:Str->Option NameKind}{x:Str}{v:Value}:∀{P:List Str}{vs:List Value}{i:Nat}{m:Str->Option Value},P.Nodup->P[i]? =some x->vs[i]? =some v->kindOf x≠some .local->
 bindC kindOf (P.zip vs) m x=some v
 |[],_,_,_,_,h,_,_=>by simp at h
 |_::_,[],_,_,_,_,h,_=>by simp at h
 |p::P,w::vs,0,m,J,h1,h2,hk=>by
  simp at h1 h2;subst h1;subst h2;show bindC kindOf ((p,w)::P.zip vs) m p=_;unfold bindC;rw[zD λv L=>(List.nodup_cons.mp J).1 (Q1u L).1,if_neg hk];simp
 |p::P,w::vs,i+1,m,J,h1,h2,hk=>by
  show bindC kindOf ((p,w)::P.zip vs) m x=_;unfold bindC;exact zF (i:=i) (List.nodup_cons.mp J).2 (by simpa using h1) (by simpa using h2) hk
noncomputable def start (N:List Str) (vs:List V):St:=vs.map some++List.replicate (N.length - vs.length) none
noncomputable def d5 (CX:jo) (P:Program) (w:World) (K:W.Frag) (mg:Str->Option Value) (base:Heap) (N:List Str) (qual:Str) (scope:Scope) (f:Addr) (L:Value) (A:Around) (outer:List Env) (s:Shared) (H:Hp) (E:XK):Cx where
 prog:=P
 w:=w
 K:=K
 mg:=mg
 base:=base
 A:=A.deeper (envOfC qual scope s.heap.objs.size f L)
 N:=N
 s₀:=s
 H₀:=H
 env:=envOfC qual scope s.heap.objs.size f L
 outer:=outer
 stack:=envOfC qual scope s.heap.objs.size f L::outer
 ex:=[]
 calm:=true
 fn:=λ_=>true
 pn:=[]
 xe:=λe s'=>wpAny (model P w) (A.deeper (envOfC qual scope s.heap.objs.size f L)) (leaving (envOfC qual scope s.heap.objs.size f L) e) (λ_ J=>CX outer H s E e J) (λU J=>CX outer H s E U J) s'
theorem zG {sc:Scope}{n:Nat}{x:Str}(h:sc.names.lookup x=some .cell):∃c,(cellsFrom n sc.names []).lookup x=some c:=by
 have q:=W.cellsFrom_some sc.names n [] (.inl h);exact Option.isSome_iff_exists.mp q
theorem zH {CX:jo}{P:Program}{w:World}{K:W.Frag}{mg:Str->Option Value}{base:Heap}{N ps:List Str}{qual:Str}{scope:Scope}{f:Addr}{cd:Value}{A:Around}{outer:List Env}{s s1:Shared}{H:Hp}{E:XK}{us:List Value}{vs:List V}
 (S:d9 N ps scope) (hd:A.handled=none) (J:j7 P w K mg base A outer s H) (hl:vs.length=ps.length) (r:Vals vs us)
 (x:InCallC s s.heap.objs.size (bindL (envOfC qual scope s.heap.objs.size f cd).kindOf (ps.zip us) λ_=>none) (cellsFrom (s.heap.objs.size+1) scope.names []) (bindC (envOfC qual scope s.heap.objs.size f cd).kindOf (ps.zip us) λ_=>none) s1):
 Inv (d5 CX P w K mg base N qual scope f cd A outer s H E) [] (start N vs) H s1:=by
 have aa:ps.length<=N.length:=by have:=congrArg List.length S.pre;rw[Q0k] at this;omega
 obtain⟨h1,tk,rfl,hk⟩:=x.done;have U:∀b:Addr,b ∉ (d5 CX P w K mg base N qual scope f cd A outer s H E).ex:=λb z=>absurd (show b∈([]:List Addr) from z) (by simp)
 refine⟨⟨J.mod,S.kind,rfl,rfl,Q00 _,λy z c h1 h2=>?_,λy L=>?_,λy c _ h=>?_,λ_=>hd,Around.frames_deeper J.frames,.inr ⟨rfl,rfl⟩,λb z=>absurd z (U b),J.bs,J.jG,λb _ _=>U b,λb z=>absurd z (U b),J.i7,J.k8⟩,
  rfl,J.bare,Un.kept hk,⟨_,x.toInCall.ns,λi y v h1 h2 h3=>?_⟩,λy c h=>⟨_,x.cell y c h⟩,J.hok.fresh (Q00 _),λy c h=>?_,λp hp=>absurd (show p∈([]:List (Addr × Obj)) from hp) (by simp),J.hok.kept hk,?_⟩
 . exact name_of_addr x.apart (PySem.mem_of_lookup h1) (PySem.mem_of_lookup h2)
 . have L:scope.names.lookup y=some .cell\/scope.names.lookup y=some .free:=L;rcases L with L|L
   . exact zG L
   . exact absurd rfl (S.FF _ (PySem.mem_of_lookup L))
 . exact Q14 (x.above y c (PySem.mem_of_lookup h))
 . have hi:i<vs.length:=by
    unfold start at h2;by_cases hi:i<vs.length
    . exact hi
    . rw[Q1n (by simpa using hi)] at h2;rw[Q2t] at h2;split at h2 <;> cases h2
   have ha:vs[i]? =some v:=by
    unfold start at h2;rw[Q1v (by simpa using hi),Q0o] at h2
    cases e:vs[i]? with
    |none=>rw[e] at h2;cases h2
    |some a=>rw[e] at h2;cases h2;rfl
   obtain⟨u,hu,rv⟩:=r.get ha
   have hp:ps[i]? =some y:=by
    rw[<-S.pre,List.getElem?_take_of_lt (by omega)];exact h1
   have Y:ps.Nodup:=by rw[<-S.pre];exact S.nd.sublist (List.take_sublist _ _)
   refine⟨u,rv,?_⟩;rcases S.par y (Q0x hp) with k|k
   . exact .inl ⟨k,zE Y hp hu k⟩
   . obtain⟨c,e⟩:=zG (n:=s.heap.objs.size+1) k;refine .inr ⟨.inl k,c,e,?_⟩;have q:=x.cell y c e;rw[zF Y hp hu (by show scope.names.lookup y≠_;rw[k];decide)] at q;exact q
 . exact J.hok.fresh (Q14 (x.above y c (PySem.mem_of_lookup h)))
 . unfold start;show _=N.length;rw[Q01,Q0b,Q0w];omega
theorem zI {CX:jo}{P:Program}{w:World}{K:W.Frag}{mg:Str->Option Value}{base:Heap}{k:Nat}{f:Addr}{name qual:Str}{U:Arguments}{body:List Stmt}{scope:Scope}{dV kV ac pm L ct oc:Value}{an od:Option Addr}
 {af:Array (Option Value)} {N ps:List Str} {sp:Sp} (lk:K.lookup f=some ⟨oc,od,.func (W.fnOf name qual U body scope dV kV ac pm an L ct),af⟩) (ag:W.codeIn K L qual=true) (S:d9 N ps scope)
 (len:∀vs H Q E,sp vs H Q E->vs.length=ps.length)
 (aa:∀(A:Around) (outer:List Env) (s:Shared) (H:Hp) (vs:List V) (Q:VK) (E:XK),eJ k (A.deeper (envOfC qual scope s.heap.objs.size f L))->sp vs H Q E->
   ∃t,g9 (d5 CX P w K mg base N qual scope f L A outer s H E) body t/\t { nx:=λ_ H'=>Q .non H',rt:=Q } (start N vs) H):
 dj P w K mg base CX (k+1) f (W.fnOf name qual U body scope dV kV ac pm an L ct) ps sp:=by
 refine⟨len,λA outer s H args us vs Q E hr e0 hb r ae=>?_⟩;have hl:=len _ _ _ _ ae;have KX:K.In s.heap:=e0.mod.lM.keeps λb o e=>(e0.bs b o e).1;have ah:s.heap.NoLimit:=e0.mod.nolimit.keeps λb o e=>(e0.bs b o e).1
 have ab:∀y∈ps.zip us,scope.names.lookup y.1=some .local\/(scope.names.lookup y.1=some .cell/\((cellsFrom (s.heap.objs.size+1) scope.names []).lookup y.1).isSome=true):=λ⟨n,v⟩ hy=>by
  rcases S.par n (Q1u hy).1 with q|q
  . exact .inl q
  . exact .inr ⟨q,W.cellsFrom_some _ _ _ (.inl q)⟩
 refine codeAny_call_function hr.depth (KX _ _ lk) rfl S.co S.gen rfl (W.codeRec_of KX ag) (hb _ _ _ _ ?_);refine wpAny_newFunctionEnv_cells S.kind ab λenv he s1 x=>?_;subst he;refine⟨ah.keeps x.toInCall.keep,codeAny_func ?_⟩;obtain⟨t,ht,hq⟩:=aa A outer s H vs Q E (hr.deeper _) ae;have I:Inv (d5 CX P w K mg base N qual scope f L A outer s H E) [] (start N vs) H s1:=zH S hr.hd e0 hl r x;refine Q0v (ht [] s1 (start N vs) H _ I hq) (λfl s' hs=>?_) λe s' hs=>hs
 have fin:∀{Y:St} {H':Hp} {v:V} {u:Value},Inv (d5 CX P w K mg base N qual scope f L A outer s H E) [] Y H' s'->RelV v u->Q v H'->CE outer P w H s Q u s':=
  λ{Y H' v u} J rv q=>⟨v,H',J.os,J.bare,J.base,J.hok,rv,q⟩
 cases fl with
 |ret u=>
  obtain⟨v,Y,H',J,rv,q⟩:=hs;exact fin J rv q
 |next=>
  obtain⟨Y,H',J,q⟩:=hs;exact fin (v:=V.non) (u:=Value.none) J rfl q
 |brk=>
  obtain⟨_,_,_,q⟩:=hs;exact False.elim q
 |cont=>
  obtain⟨_,_,_,q⟩:=hs;exact False.elim q
section
variable {X:Cx}{x:Str}{p pos:Pos}{e:Expr}{es:List Expr}{t:TA}{id T:String}{r:List V->Hp->VK->Prop}
def zJ (r:List V->Hp->VK->Prop) (t:TA):TE:=λσ H Q=>t σ H λvs H1=>r vs H1 Q
theorem dX (hc:jm X (.builtin id) r)(U:Gl X x)(Y:X.mg x=none)(hv:bootBuiltins x=some (.builtin id))(ha:PA X (e::es) t)(hn:x≠"__name__":=by decide)(J:(x == ("__debug__":Str))=false:=by decide)
 (he:starEach (e::es) X.env=(false,eval e X.env)::starEach es X.env:=by rfl) (L:(backTo pos (starEach es X.env)).any (·.1)=false:=by rfl):PE X (.Call (.Name x p) (e::es) [] pos) (zJ r t):=by
 intro pins s σ H Q I h;refine wpAny_Call_Name_kw (j0 I U Y hv ?_ hn J);exact PyProof.Rows.callWith_builtin1 (dD (ha pos pins s σ H _ I h) λus s1 ⟨vs,H1,I1,r1,q1⟩=>hc pins s1 σ H1 vs us Q I1 r1 q1) he L
theorem n9 (hc:jm X (.type T) r)(U:Gl X x)(Y:X.mg x=none)(hv:bootBuiltins x=some (.type T))(ha:PA X (e::es) t)(hn:x≠"__name__":=by decide)(J:(x == ("__debug__":Str))=false:=by decide)
 (he:starEach (e::es) X.env=(false,eval e X.env)::starEach es X.env:=by rfl) (L:(backTo pos (starEach es X.env)).any (·.1)=false:=by rfl):PE X (.Call (.Name x p) (e::es) [] pos) (zJ r t):=by
 intro pins s σ H Q I h;refine wpAny_Call_Name_kw (j0 I U Y hv ?_ hn J);exact PyProof.Rows.callWith_type1 (dD (ha pos pins s σ H _ I h) λus s1 ⟨vs,H1,I1,r1,q1⟩=>hc pins s1 σ H1 vs us Q I1 r1 q1) he L
end
end L2
local macro_rules|`(tactic|ac_rfl)=>`(tactic|try dsimp only[L2.d5,L2.Cx.d8])
namespace HT
open PyProof.Rows
section
open SeqAt
open PySem.AutoSeq1 (wpAny_loadPart')
open MeetsSeq MeetsSeq2 MeetsSeq3
end
section
variable {prog:Program}{w:World}{A:Around}{E:Value->Shared->Prop}{s:Shared}
noncomputable def iy (n d:Nat):Option Int->Nat
 |none=>d
 |some v=>if v<0 then(v+(n:Int)).toNat else min v.toNat n
end
end HT
namespace L2
open Spec PyProof.Rows
noncomputable abbrev TO:=St->Hp->(Option Int->Hp->Prop)->Prop
def PO (X:Cx) (e:Option Expr) (t:TO):Prop:=
 ∀(pins:List (Addr × Obj)) (s:Shared) (σ:St) (H:Hp) (Q:Option Int->Hp->Prop),Inv X pins σ H s->t σ H Q->
  wpAny (model X.prog X.w) X.A (evalPart e X.env) (λu s'=>∃o H',Inv X pins σ H' s'/\IsPart u o/\Q o H') X.xe s
def FG:TO:=λ_ H Q=>Q none H
def FH (t:TE):TO:=λσ H Q=>t σ H λx H1=>∃i,x=.int i/\Q (some i) H1
section
variable {X:Cx}{e:Expr}{te:TE}{lo hi:Option Expr}{tl th:TO}{pos p2:Pos}
theorem sP:PO X none FG:=by
 intro pins s σ H Q I h;rw[evalPart_none];exact Q08 ⟨none,H,I,.none,h⟩
theorem jJ (h:PE X e te):PO X (some e) (FH te):=by
 intro pins s σ H Q I hw;rw[evalPart_some];refine dD (h pins s σ H _ I hw) λu Y zq=>?_;obtain⟨x,H1,J,L,U⟩:=zq;obtain⟨i,rfl,q⟩:=U;obtain⟨t,rfl⟩:=L;exact⟨some i,H1,J,.int i t,q⟩
def sQ (X:Cx) (r:V->Option Int->Option Int->Hp->VK->Prop):Prop:=
 ∀(pins:List (Addr × Obj)) (s:Shared) (σ:St) (H:Hp) (x:V) (v vl J:Value) (lo hi:Option Int) (sl:Addr) (Q:VK),Inv X pins σ H s->RelV x v->s.heap.IsSliceOf sl vl J .none->IsPart vl lo->IsPart J hi->r x lo hi H Q->
  ∃T id,typeLookup (.type T) "__getitem__"=pure (some (.builtin id))/\s.TypeIs v T/\wpAny (model X.prog X.w) X.A (getItem v (.ref sl)) (EP X pins σ Q) X.xe s
def FI (r:V->Option Int->Option Int->Hp->VK->Prop) (te:TE) (tl th:TO):TE:=λσ H Q=>te σ H λx H1=>tl σ H1 λl H2=>th σ H2 λu J=>r x l u J Q
theorem lY {r:V->Option Int->Option Int->Hp->VK->Prop}(Y:sQ X r)(he:PE X e te)(hl:PO X lo tl)(hu:PO X hi th):PE X (.Subscript e (.Slice lo hi none p2) pos) (FI r te tl th):=by
 intro pins s σ H Q I h;refine Subscript_ (dD (he pins s σ H _ I h) λv s1 zq=>?_);obtain⟨x,H1,I1,r1,q1⟩:=zq;refine wpAny_Slice (dD (hl pins s1 σ H1 _ I1 q1) λvl s2 ⟨l,H2,I2,pl,q2⟩=>dD (hu pins s2 σ H2 _ I2 q2) λL J zq=>?_);obtain⟨u,U,I3,pu,q3⟩:=zq;rw[evalPart_none];refine Q08 ?_;have I4:Inv X pins σ U { J with heap:=J.heap.push { cls:=.type "slice",data:=.fields #[vl,L,.none] } }:=I3.kept (t':=J.toks) λb ob q=>Q04 _ q;obtain⟨T,id,hT,ht,hg⟩:=Y pins { J with heap:=J.heap.push { cls:=.type "slice",data:=.fields #[vl,L,.none] } } σ U x v vl L l u J.heap.objs.size Q I4 r1 (Heap.IsSliceOf.new ..) pl pu q3;show wpAny (model X.prog X.w) X.A (subscriptTail e (.Slice lo hi none p2) v (.ref J.heap.objs.size)) (EP X pins σ Q) X.xe { J with heap:=J.heap.push { cls:=.type "slice",data:=.fields #[vl,L,.none] } };exact tail_any (ops:=[.ref J.heap.objs.size,v]) ht hT hg (by with_unfolding_all rfl)
noncomputable def n_ (xs:List V) (lo hi:Option Int):List V:=(xs.drop (HT.iy xs.length 0 lo)).take (HT.iy xs.length xs.length hi - HT.iy xs.length 0 lo)
theorem FJ (xs:List V)(lo hi:Option Int):(n_ xs lo hi).length<=xs.length:=by
 unfold n_;rw[Q0k,Q0z];omega
end
noncomputable def jr (n:Nat) (i:Int):Option Nat:=if 0<=i then(if i<n then some i.toNat else none) else if -(n:Int)<=i then some (i+n).toNat else none
noncomputable def fg {α:Type}(xs:List α) (i:Int):Option α:=(jr xs.length i).bind λj=>xs[j]?
theorem zK {n:Nat}{i:Int}{j:Nat}(h:jr n i=some j):seqIndex? i n=some j/\j<n/\ -(n:Int)<=i/\i<n:=by
 unfold jr at h;by_cases J:0<=i
 . rw[if_pos J] at h;by_cases h1:i<n
   . rw[if_pos h1] at h;have e:i.toNat=j:=Option.some.inj h;exact⟨by rw[seqIndex_of J h1,e],by omega,by omega,h1⟩
   . rw[if_neg h1] at h;cases h
 . rw[if_neg J] at h;by_cases h1: -(n:Int)<=i
   . rw[if_pos h1] at h;have e:(i+n).toNat=j:=Option.some.inj h;exact⟨by rw[seqIndex_neg (by omega) h1,e],by omega,h1,by omega⟩
   . rw[if_neg h1] at h;cases h
theorem sR {α:Type}{xs:List α}{i:Int}{v:α}(h:fg xs i=some v):∃j,seqIndex? i xs.length=some j/\xs[j]? =some v/\j<xs.length/\ -(xs.length:Int)<=i/\i<xs.length:=by
 unfold fg at h
 cases e:jr xs.length i with
 |none=>rw[e] at h;cases h
 |some j=>
  rw[e] at h;obtain⟨h1,h2,J,L⟩:=zK e;exact⟨j,h1,h,h2,J,L⟩
theorem hV {α:Type}{xs:List α}{j:Nat}{v:α}(h:xs[j]? =some v):fg xs (j:Int)=some v:=by
 have J:j<xs.length:=(List.getElem?_eq_some_iff.mp h).1
 have e:jr xs.length (j:Int)=some j:=by
  unfold jr;rw[if_pos (by omega),if_pos (by omega)];simp
 unfold fg;rw[e];exact h
theorem qw {α:Type}(xs:List α)(v:α):fg (xs++[v]) (-1)=some v:=by
 have hl:(xs++[v]).length=xs.length+1:=by simp
 have e:jr (xs++[v]).length (-1)=some xs.length:=by
  unfold jr;rw[hl,if_neg (by decide),if_pos (by omega)];congr 1;omega
 unfold fg;rw[e];show(xs++[v])[xs.length]? =some v;simp
def sS (b:Expr):Prop:=∀o i,subscripted b false o i=operate [o,i] (getItem o i)
def qx (X:Cx) (r:R2):Prop:=
 ∀(value J:Expr) (pins:List (Addr × Obj)) (s:Shared) (σ:St) (H:Hp) (x y:V) (v u:Value) (Q:VK),Inv X pins σ H s->RelV x v->RelV y u->r x y H Q->
  subscripted J false v u=operate [v,u] (getItem v u)->wpAny (model X.prog X.w) X.A (subscriptTail value J v u) (EP X pins σ Q) X.xe s
def zL (X:Cx) (id:String) (r:V->List V->Hp->VK->Prop):Prop:=
 ∀(pins:List (Addr × Obj)) (s:Shared) (σ:St) (H:Hp) (x:V) (xs:List V) (v:Value) (us:List Value) (Q:VK),Inv X pins σ H s->RelV x v->Vals xs us->r x xs H Q->
  wpAny (model X.prog X.w) X.A (call (.builtin id) (v::us)) (EP X pins σ Q) X.xe s
section
variable {X:Cx}{a b:Expr}{ta tb:TE}{pos:Pos}
theorem ij {r:R2}(J:qx X r)(L:PE X a ta)(U:PE X b tb)(Y:sS b):PE X (.Subscript a b pos) (gL r ta tb):=by
 intro pins s σ H Q I h;exact Subscript_ (sG L U I h λv u s2 x y H2 I2 rx ry q=>J a b pins s2 σ H2 x y v u Q I2 rx ry q (Y _ _))
def zM (K:W.Frag):R2:=λx y H Q=>∃p xs i v,x=.ref p/\y=.int i/\dy K H p xs/\fg xs i=some v/\Q v H
def j8 (K:W.Frag):R2:=λx y H Q=>∃p xs i v,x=.ref p/\y=.int i/\du K H p xs/\fg xs i=some v/\Q v H
def FK:R2:=λx y H Q=>∃z i c,x=.str z/\y=.int i/\z.length<=sizeLine/\fg z.cps.toList i=some c/\Q (.str ⟨#[c]⟩) H
theorem FL:qx X (zM X.K):=by
 intro value Y pins s σ H x y v u Q I rx ry h hs;obtain⟨p,xs,i,z,rfl,rfl,hq,he,q⟩:=h
 cases rx;obtain⟨t,rfl⟩:=ry;obtain⟨L,r,pl,hz⟩:=I.list hq;obtain⟨j,h1,h2,h3,h4,h5⟩:=sR he;obtain⟨w,ew,U⟩:=r.get h2;have hl:=r.length;have hn:=mM;have fin:EP X pins σ Q w s:=⟨z,H,I,U,q⟩;by_cases h0:0<=i
 . have J:i.toNat=j:=by
    rw[seqIndex_of h0 h5] at h1;exact Option.some.inj h1
   exact item_listR pl.isList h0 (by omega) (by rw[J];simpa using ew) fin hs
 . have J:(i+(L.toArray.size:Int)).toNat=j:=by
    rw[seqIndex_neg (by omega) h4] at h1;rw[Q0e,<-hl];exact Option.some.inj h1
   exact subscriptTail_builtinR (x:=w) pl.isList.typeIs slot_list_getitem.lookup
    (wpAny_getItem_list_neg (Q:=λr s'=>r=w/\EP X pins σ Q r s') pl.isList (by omega) (by rw[Q0e] <;> omega) (by omega) (by rw[J];simpa using ew) ⟨rfl,fin⟩) hs
theorem FN:qx X (j8 X.K):=by
 intro value L pins s σ H x y v u Q I U Y h hs;obtain⟨p,xs,i,z,rfl,rfl,hq,he,q⟩:=h
 cases U;obtain⟨t,rfl⟩:=Y;obtain⟨aa,r,pl,hz⟩:=I.tuple hq;obtain⟨j,h1,h2,h3,h4,h5⟩:=sR he;obtain⟨w,ew,J⟩:=r.get h2;have hl:=r.length;have hn:=mM;have fin:EP X pins σ Q w s:=⟨z,H,I,J,q⟩
 exact subscriptTail_builtinR (x:=w) pl.typeIs slot_tuple_getitem.lookup
  (getItem_tuple (j:=j) (Q:=λr s'=>r=w/\EP X pins σ Q r s') pl (by omega) (by omega) (by rw[Q0e,<-hl];exact h1) (by simpa using ew) ⟨rfl,fin⟩) hs
theorem iQ:qx X FK:=by
 intro value J pins s σ H x y v u Q I L U h Y;obtain⟨z,i,c,rfl,rfl,hz,he,q⟩:=h;obtain⟨t,rfl⟩:=L;obtain⟨t',rfl⟩:=U;obtain⟨j,h1,h2,h3,h4,h5⟩:=sR he;have hl:z.cps.toList.length=z.length:=by simp[Str.length]
 rw[hl] at h1 h4 h5;have hn:=mM
 exact tail_any (typeIs_str s z t) slot_str_getitem.lookup (getItem_str (c:=c) (by
  have e1:decide (i< -(2 ^ 63:Int))=false:=decide_eq_false (by omega);have e2:decide (i ≥ 2 ^ 63)=false:=decide_eq_false (by omega);rw[e1,e2,Bool.or_false]) (by rw[h1];simpa using h2) ⟨.str ⟨#[c]⟩,H,I.tok _,⟨_,rfl⟩,q⟩) Y
theorem FO (J:List Value)(n j:Nat)(u:Value):Obj.mapSeq (·.setIfInBounds j u) { cls:=.type "list",data:=.seq J.toArray n }={ cls:=.type "list",data:=.seq (J.set j u).toArray n }:=by
 simp[Obj.mapSeq]
theorem Inv.lst {pins:List (Addr × Obj)}{σ:St}{H:Hp}{s:Shared}{p:Addr}{xs:List V}(I:Inv X pins σ H s)(h:H p=some (.lst xs)):
 ∃(J:List Value) (n:Nat),Vals xs J/\s.heap.get? p=some { cls:=.type "list",data:=.seq J.toArray n }/\xs.length<=sizeLine:=by
 obtain⟨z,J,n,r,e⟩:=I.hok p _ h;exact⟨J,n,r,e,z⟩
theorem Inv.FP {pins:List (Addr × Obj)}{σ:St}{H:Hp}{s:Shared}{p:Addr}{xs ys:List V}{J its':List Value}{n n':Nat}{f:Obj->Obj}(I:Inv X pins σ H s)(h:H p=some (.lst xs))
 (U:s.heap.get? p=some { cls:=.type "list",data:=.seq J.toArray n }) (L:f { cls:=.type "list",data:=.seq J.toArray n }={ cls:=.type "list",data:=.seq its'.toArray n' }) (r:Vals ys its') (Y:ys.length<=sizeLine) (t:Nat):
 Inv X pins σ (upd H p (.lst ys)) { s with heap:=s.heap.update p f,toks:=t }:=by
 have e:(s.heap.update p f).get? p=some { cls:=.type "list",data:=.seq its'.toArray n' }:=by
  rw[Q2u f U (by rw[L] <;> rfl),L]
 refine I.write (x:=p) (e:=p) (by rw[h];trivial) (.inl rfl) (λb u hb q=>(Q2v _ _ (Ne.symm hb)).trans q) ⟨_,e⟩ ?_;exact⟨Y,its',n',r,e⟩
def FQ:V->V->V->Hp->(Hp->Prop)->Prop:=λo i v H Q=>∃p xs k j,o=.ref p/\i=.int k/\H p=some (.lst xs)/\jr xs.length k=some j/\Q (upd H p (.lst (xs.set j v)))
theorem set_list:yW X FQ:=by
 intro pins s σ H o i v ov iv u Q I ro ri rv h;obtain⟨p,xs,k,j,rfl,rfl,hp,hj,q⟩:=h
 cases ro;obtain⟨t,rfl⟩:=ri;obtain⟨J,n,r,L,hz⟩:=I.lst hp;obtain⟨h1,h2,U,Y⟩:=zK hj;have hl:=r.length;have hn:=mM
 have I':Inv X pins σ (upd H p (.lst (xs.set j v))) { s with heap:=s.heap.update p (Obj.mapSeq (·.setIfInBounds j u)) }:=
  I.FP hp L (FO J n j u) (r.set rv j) (by rw[List.length_set];exact hz) s.toks
 by_cases h0:0<=k
 . have hk:k.toNat=j:=by
    rw[seqIndex_of h0 Y] at h1;exact Option.some.inj h1
   exact W.ki_setAt L h0 (by omega) (by rw[Q0e,<-hl];exact Y) (by rw[hk];exact⟨_,I',q⟩)
 . have hk:(k+(J.toArray.size:Int)).toNat=j:=by
    rw[seqIndex_neg (by omega) U] at h1;rw[Q0e,<-hl];exact Option.some.inj h1
   exact W.ki_setBack L (by omega) (by rw[Q0e,<-hl];exact U) (by omega) (by rw[hk];exact⟨_,I',q⟩)
theorem FR (lo hi:Option Int)(n:Nat):(sliceBounds lo hi none n).1=((HT.iy n 0 lo:Nat):Int)/\(sliceBounds lo hi none n).2.1=((HT.iy n n hi:Nat):Int)/\(sliceBounds lo hi none n).2.2=1:=by
 refine⟨?_,?_,rfl⟩
 . cases lo with
   |none=>simp[sliceBounds,HT.iy]
   |some i=>
    simp only[sliceBounds,HT.iy,Q2w,show(1:Int) > 0 by decide,if_true];by_cases h:i<0
    . simp only[h,if_true] <;> omega
    . simp only[h,if_false] <;> omega
 . cases hi with
   |none=>simp[sliceBounds,HT.iy]
   |some i=>
    simp only[sliceBounds,HT.iy,Q2w,show(1:Int) > 0 by decide,if_true];by_cases h:i<0
    . simp only[h,if_true] <;> omega
    . simp only[h,if_false] <;> omega
theorem FT (J:List Value)(lo hi:Option Int):slicePick J.toArray lo hi none=((J.drop (HT.iy J.length 0 lo)).take (HT.iy J.length J.length hi - HT.iy J.length 0 lo)).toArray:=by
 obtain⟨h1,h2,L⟩:=FR lo hi J.toArray.size;unfold slicePick;rw[h1,h2,L];simp only[sliceRange_one,pick_run,Q0e] <;> rfl
def FU (K:W.Frag):V->Option Int->Option Int->Hp->VK->Prop:=λx lo hi H Q=>∃a xs,x=.ref a/\dy K H a xs/\∀p,H p=none->Q (.ref p) (upd H p (.lst (n_ xs lo hi)))
theorem FV:sQ X (FU X.K):=by
 intro pins s σ H x v vl vu lo hi sl Q I U Y pl pu h;obtain⟨a,xs,rfl,hx,q⟩:=h
 cases U;obtain⟨aa,r,L,hz⟩:=I.list hx;have J:=r.length;refine⟨"list",_,slot_list_getitem.lookup,L.isList.typeIs,?_⟩;refine wpAny_getItem_list_slice L.isList Y pl pu .none (by simp) ?_ (by rw[Q0e] <;> omega);rw[FT,<-J];refine⟨.ref s.heap.objs.size,_,I.laid (t':=s.toks) (o:=.lst (n_ xs lo hi)) (λb ob q=>Q04 _ q) (Q00 _) ?_,rfl,q _ (I.hok.fresh (Q00 _))⟩;exact⟨Q07 (FJ xs lo hi) hz,_,0,(r.drop (HT.iy xs.length 0 lo)).take (HT.iy xs.length xs.length hi - HT.iy xs.length 0 lo),Q0f _ rfl⟩
noncomputable def kH:V->Bool
 | .non=>true
 | .bl _=>true
 | .int _=>true
 | .str _=>true
 |_=>false
noncomputable def kI:V->V->Bool
 | .non,.non=>true
 | .bl a,.bl b=>a == b
 | .bl a,.int b=>(if a then 1 else 0) == b
 | .int a,.bl b=>a == (if b then 1 else 0)
 | .int a,.int b=>a == b
 | .str a,.str b=>a == b
 |_,_=>false
theorem FW {A:Around}{s:Shared}{y x:V}{u v:Value}(L:RelV y u)(J:RelV x v)(Y:kH y=true)(U:kH x=true):SeqAt.EqAt A s u v (kI y x):=by
 cases y with
 |non=>
  cases L
  cases x with
  |non=>cases J;exact SeqAt.EqAt.same _
  |bl b=>cases J;exact SeqAt.EqAt.none_bool b
  |int b=>obtain⟨t,rfl⟩:=J;exact SeqAt.EqAt.none_int b t
  |str b=>obtain⟨t,rfl⟩:=J;exact SeqAt.EqAt.none_str b t
  |_=>exact absurd (show false=true from U) Bool.false_ne_true
 |bl a=>
  cases L
  cases x with
  |non=>cases J;exact SeqAt.EqAt.bool_none a
  |bl b=>cases J;exact SeqAt.EqAt.bool_bool a b
  |int b=>obtain⟨t,rfl⟩:=J;exact SeqAt.EqAt.bool_int a b t
  |str b=>obtain⟨t,rfl⟩:=J;exact SeqAt.EqAt.bool_str a b t
  |_=>exact absurd (show false=true from U) Bool.false_ne_true
 |int a=>
  obtain⟨t',rfl⟩:=L
  cases x with
  |non=>cases J;exact SeqAt.EqAt.int_none a t'
  |bl b=>cases J;exact SeqAt.EqAt.int_bool a t' b
  |int b=>obtain⟨t,rfl⟩:=J;exact SeqAt.EqAt.int_int a t' b t
  |str b=>obtain⟨t,rfl⟩:=J;exact SeqAt.EqAt.int_str a t' b t
  |_=>exact absurd (show false=true from U) Bool.false_ne_true
 |str a=>
  obtain⟨t',rfl⟩:=L
  cases x with
  |non=>cases J;exact SeqAt.EqAt.str_none a t'
  |bl b=>cases J;exact SeqAt.EqAt.str_bool a t' b
  |int b=>obtain⟨t,rfl⟩:=J;exact SeqAt.EqAt.str_int a t' b t
  |str b=>obtain⟨t,rfl⟩:=J;exact SeqAt.EqAt.str_str a t' b t
  |_=>exact absurd (show false=true from U) Bool.false_ne_true
 |_=>exact absurd (show false=true from Y) Bool.false_ne_true
noncomputable def iz (x:V) (u:Value):Bool:=match u with
 | .none=>kI .non x
 | .bool b=>kI (.bl b) x
 | .int i _=>kI (.int i) x
 | .str z _=>kI (.str z) x
 |_=>false
theorem zN {x y:V}{u:Value}(r:RelV y u)(f:kH y=true):iz x u=kI y x:=by
 cases y with
 |non=>cases r;rfl
 |bl b=>cases r;rfl
 |int i=>obtain⟨t,rfl⟩:=r;rfl
 |str z=>obtain⟨t,rfl⟩:=r;rfl
 |_=>exact absurd (show false=true from f) Bool.false_ne_true
theorem og {x:V}:∀{xs:List V}{us:List Value},Vals xs us->xs.all kH=true->us.any (iz x)=xs.any λy=>kI y x
 |_,_,.nil,_=>rfl
 |y::xs,u::us,.cons r t,f=>by
  rw[Q24,Bool.and_eq_true] at f;rw[Q1b,Q1b,zN r f.1,og t f.2]
theorem oh {A:Around}{s:Shared}{x:V}{v:Value}(L:RelV x v)(U:kH x=true):∀{xs:List V}{us:List Value},Vals xs us->xs.all kH=true->∀u∈us,SeqAt.EqAt A s u v (iz x u)
 |_,_,.nil,_=>λu J=>by cases J
 |y::xs,u::us,.cons r t,f=>λY J=>by
  rw[Q24,Bool.and_eq_true] at f;rcases List.mem_cons.mp J with rfl|J
  . rw[zN r f.1];exact FW r L f.1 U
  . exact oh L U t f.2 Y J
noncomputable def inV (x:V) (xs:List V):Bool:=xs.any λy=>kI y x
def zO (K:W.Frag) (J:Bool):R2:=λx y H Q=>∃p xs,y=.ref p/\(dy K H p xs\/du K H p xs)/\kH x=true/\xs.all kH=true/\Q (.bl (if J then !inV x xs else inV x xs)) H
theorem FX:f6 X (compareOp .In) (zO X.K false):=by
 intro pins s σ H x y v u Q I U ry h;obtain⟨p,xs,rfl,L,Y,fs,q⟩:=h
 cases ry;rcases L with L|L
 . obtain⟨J,r,pl,hz⟩:=I.list L;refine SeqAt.in_listAt (iz x) pl.isList (λw hw=>oh U Y r fs w (by simpa using hw)) ⟨.bl _,H,I,rfl,?_⟩;rw[show J.toArray.any (iz x)=J.any (iz x) by simp,og r fs];exact q
 . obtain⟨J,r,pl,hz⟩:=I.tuple L;refine SeqAt.in_tupleAt (iz x) pl (λw hw=>oh U Y r fs w (by simpa using hw)) ⟨.bl _,H,I,rfl,?_⟩;rw[show J.toArray.any (iz x)=J.any (iz x) by simp,og r fs];exact q
theorem FY:f6 X (compareOp .NotIn) (zO X.K true):=by
 intro pins s σ H x y v u Q I U ry h;obtain⟨p,xs,rfl,L,Y,fs,q⟩:=h
 cases ry;rcases L with L|L
 . obtain⟨J,r,pl,hz⟩:=I.list L;refine SeqAt.notIn_listAt (iz x) pl.isList (λw hw=>oh U Y r fs w (by simpa using hw)) ⟨.bl _,H,I,rfl,?_⟩;rw[show J.toArray.any (iz x)=J.any (iz x) by simp,og r fs];exact q
 . obtain⟨J,r,pl,hz⟩:=I.tuple L;refine SeqAt.notIn_tupleAt (iz x) pl (λw hw=>oh U Y r fs w (by simpa using hw)) ⟨.bl _,H,I,rfl,?_⟩;rw[show J.toArray.any (iz x)=J.any (iz x) by simp,og r fs];exact q
theorem js:jm X (.builtin "len") (λxs H Q=>∃p ys,xs=[.ref p]/\(dy X.K H p ys\/du X.K H p ys)/\Q (.int ys.length) H):=by
 intro pins s σ H xs us Q I r h;obtain⟨p,ys,rfl,L,q⟩:=h;obtain⟨u,rfl,rx⟩:=vals1 r
 cases rx;have hn:=mM;rcases L with L|L
 . obtain⟨Y,U,pl,hz⟩:=I.list L;have J:=U.length;exact Calls.call_len_list pl.isList (by simp only[Q0e] <;> omega) ⟨.int ys.length,H,I.tok _,⟨s.toks+1,by rw[Q0e,J]⟩,q⟩
 . obtain⟨Y,U,pl,hz⟩:=I.tuple L;have J:=U.length;exact len_tuple pl (by simp only[Q0e] <;> omega) ⟨.int ys.length,H,I.tok _,⟨s.toks+1,by rw[Q0e,J]⟩,q⟩
theorem lZ:jm X (.builtin "len") (λxs H Q=>∃z,xs=[.str z]/\z.length<=sizeLine/\Q (.int z.length) H):=by
 intro pins s σ H xs us Q I r h;obtain⟨z,rfl,J,q⟩:=h;obtain⟨u,rfl,t,rfl⟩:=vals1 r;have L:=mM;exact len_str (by omega) ⟨.int z.length,H,I.tok _,⟨_,rfl⟩,q⟩
theorem zP:jm X (.type "tuple") (λxs H Q=>∃p ys,xs=[.ref p]/\((dy X.K H p ys/\∀l,H l=none->Q (.ref l) (upd H l (.tup ys)))\/(du X.K H p ys/\Q (.ref p) H))):=by
 intro pins s σ H xs us Q I r h;obtain⟨p,ys,rfl,h⟩:=h;obtain⟨u,rfl,rx⟩:=vals1 r
 cases rx;rcases h with⟨L,q⟩|⟨L,q⟩
 . obtain⟨J,U,pl,Y⟩:=I.list L;have aa:=U.length;refine call_tuple_list pl.isList (λh' kp=>?_) (by simp only[Q0e] <;> omega);have I1:Inv X pins σ H { s with heap:=h' }:=I.kept (t':=s.toks) kp
   have I2:Inv X pins σ (upd H h'.objs.size (.tup ys)) { s with heap:=h'.push { cls:=.type "tuple",data:=.seq J.toArray } }:=
    I1.laid (t':=s.toks) (λb o e=>Q04 _ e) (Q00 _) (show fQ X.prog X.w _ _ _ (.tup ys) from⟨Y,J,U,IsTup.new _ _⟩)
   exact⟨.ref h'.objs.size,_,I2,rfl,q _ (I1.hok.fresh (Q00 _))⟩
 . obtain⟨J,U,pl,Y⟩:=I.tuple L;exact call_tuple_same pl ⟨.ref p,H,I,rfl,q⟩
def zQ (K:W.Frag) (T:String) (x:V) (H:Hp):Prop:=match x with
 | .str _=>T="str"
 | .int _=>T="int"
 | .ref p=>(T="list"/\∃xs,dy K H p xs)\/(T="tuple"/\∃o,K.lookup p=some o/\o.cls=.type "tuple"/\o.dict=none)\/
    (T="dict"/\((∃kvs,H p=some (.dK kvs))\/∃kvs,H p=some (.dT kvs)))\/(T="set"/\∃S n,H p=some (.set S n))
 |_=>False
theorem FZ {pins:List (Addr × Obj)}{σ:St}{H:Hp}{s:Shared}{T:String}{x:V}{v:Value}(I:Inv X pins σ H s)(r:RelV x v)(ty:zQ X.K T x H):
 s.TypeIs v T/\∀a,v=.ref a->∃U,s.heap.get? a=some U/\U.dict=none:=by
 cases x with
 |str z=>
  obtain⟨t,rfl⟩:=r
  cases(show T="str" from ty);exact⟨typeIs_str s z t,λ_ e=>nomatch e⟩
 |int i=>
  obtain⟨t,rfl⟩:=r
  cases(show T="int" from ty);exact⟨typeIs_int s i t,λ_ e=>nomatch e⟩
 |ref p=>
  cases r;rcases ty with⟨rfl,xs,Y⟩|⟨rfl,o,hk,hc,J⟩|⟨rfl,hk⟩|⟨rfl,S,n,hk⟩
  . obtain⟨aa,_,pl,_⟩:=I.list Y;refine⟨pl.isList.typeIs,λa e=>?_⟩
    cases e;obtain⟨o,n,e,c,J,_⟩:=pl;exact⟨o,e,J⟩
  . refine⟨⟨o,I.fS p o hk,hc⟩,λa e=>?_⟩
    cases e;exact⟨o,I.fS _ o hk,J⟩
  . have z:∃o,s.heap.get? p=some o/\o.ExactDict:=by
     rcases hk with⟨kvs,hk⟩|⟨kvs,hk⟩
     . obtain⟨_,_,_,_,o,_,_,e,ex,_⟩:=I.hok p _ hk;exact⟨o,e,ex⟩
     . obtain⟨_,_,_,_,o,_,_,e,ex,_⟩:=I.hok p _ hk;exact⟨o,e,ex⟩
    obtain⟨o,e,ex⟩:=z;refine⟨⟨o,e,ex.1⟩,λa L=>?_⟩
    cases L;exact⟨o,e,ex.2.1⟩
  . obtain⟨o,_,_,_,e,ex,_⟩:=I.hok p _ hk;refine⟨⟨o,e,ex.1⟩,λa L=>?_⟩
    cases L;exact⟨o,e,ex.2.1⟩
 |_=>exact False.elim ty
def F0 (K:W.Frag) (T:String) (r:V->List V->Hp->VK->Prop) (to:TE) (t:TA):TE:=λσ H Q=>to σ H λx H1=>zQ K T x H1/\t σ H1 λxs H2=>r x xs H2 Q
variable {o e:Expr}{es:List Expr}{to:TE}{t:TA}{name:Str}{apos cpos:Pos}{T id:String}{r:V->List V->Hp->VK->Prop}
theorem gA (pa:PlainAttrs T)(slot:Slot T name id)(ab:typeOf (.builtin id)=pure (.type "method_descriptor"))(hm:zL X id r)(ho:PE X o to)(ha:PA X (e::es) t)
 (L:attributeBase o name X.env (eval o X.env)=eval o X.env:=by rfl)
 (aa:((backTo cpos (starEach (e::es) X.env)).all (λx=> !x.1) && (backToKw cpos (keywordEach [] X.env)).all (λx=>x.1.isSome)
   && decide ((e::es).length+([]:List Keyword).length+(if([]:List Keyword).isEmpty then 0 else 1)<30))=true:=by rfl)
 (U:(apos.endLine == cpos.line)=true:=by rfl) (hs:starEach (e::es) X.env=(false,eval e X.env)::starEach es X.env:=by rfl) (J:(backTo cpos (starEach es X.env)).any (·.1)=false:=by rfl):
 PE X (.Call (.Attribute o name apos) (e::es) [] cpos) (F0 X.K T r to t):=by
 intro pins s σ H Q I h;refine wpAny_Call_method_late L aa U rfl (dD (ho pins s σ H _ I h) λv s1 zq=>?_);obtain⟨x,H1,I1,r1,ty,q1⟩:=zq;obtain⟨h1,h2⟩:=FZ I1 r1 ty;refine⟨T,id,pa,slot,ab,h1,h2,?_⟩;have hA:=ha cpos pins s1 σ H1 _ I1 q1;rw[hs] at hA ⊢;refine Calls.callWith_builtin (by show(false || (backTo cpos (starEach es X.env)).any (·.1))=false;rw[J] <;> rfl) (Calls.evalArgs_plain ?_);exact dD hA λus s2 ⟨vs,H2,I2,r2,q2⟩=>hm pins s2 σ H2 x vs v us Q I2 r1 r2 q2
/- xs.append(e),list.index on a Y tuple .. ae zL ac of 06m -/
end
def oi (X:Cx) (id:String) (r:V->List V->Hp->VK->Prop):Prop:=
 ∀(pins:List (Addr × Obj)) (s:Shared) (σ:St) (H:Hp) (x:V) (xs:List V) (v:Value) (us:List Value) (Q:VK),Inv X pins σ H s->RelV x v->Vals xs us->r x xs H Q->
  wpAny (model X.prog X.w) X.A (call (.builtin id) (v::us)) (EP X pins σ Q) X.xe s
theorem Vals.one:∀{x:V}{us:List Value},Vals [x] us->∃u,us=[u]/\RelV x u
 |_,_,.cons r .nil=>⟨_,rfl,r⟩
section
variable {X:Cx}{pins:List (Addr × Obj)}{σ:St}{H:Hp}{s:Shared}{l b:Addr}{xs ys zs:List V}
theorem Inv.zR {J its':List Value}{n:Nat}{f:Array Value->Array Value}{t':Nat}(I:Inv X pins σ H s)(L:H l=some (.lst xs))
 (e:s.heap.get? l=some { cls:=.type "list",data:=.seq J.toArray n }) (U:f J.toArray=its'.toArray) (Y:Vals ys its') (hz:ys.length<=sizeLine):
 Inv X pins σ (upd H l (.lst ys)) { s with heap:=s.heap.update l (Obj.mapSeq f),toks:=t' }:=by
 have q:=PySem.IsL.update e f;rw[U] at q;refine I.write (x:=l) (e:=l) (by rw[L];exact trivial) (.inl rfl) (λb' u hb hu=>(Q2v s.heap (Obj.mapSeq f) (Ne.symm hb)).trans hu) ⟨_,q⟩ ?_;exact⟨hz,its',_,Y,q⟩
theorem Inv.F1 {J:List Value}{t':Nat}(I:Inv X pins σ H s)(L:Vals ys J)(U:ys.length<=sizeLine):
 Inv X pins σ (upd H s.heap.objs.size (.lst ys)) { s with heap:=s.heap.push { cls:=.type "list",data:=.seq J.toArray },toks:=t' }:=
 I.laid (λ_ _ q=>Q04 _ q) (Q00 _) ⟨U,J,0,L,Q0f _ rfl⟩
theorem Inv.fresh (I:Inv X pins σ H s):H s.heap.objs.size=none:=I.hok.fresh (Q00 _)
theorem Inv.oj (I:Inv X pins σ H s)(L:H l=some (.lst xs)):xs.length<=sizeLine/\∃(J:List Value) (n:Nat),Vals xs J/\xs.length=J.length/\s.heap.get? l=some { cls:=.type "list",data:=.seq J.toArray n }:=by
 obtain⟨z,J,n,r,e⟩:=I.hok l _ L;exact⟨z,J,n,r,r.length,e⟩
theorem F2 {n:Nat}(h:n<=sizeLine):Builtin.List.listTooLong n=false:=by
 unfold Builtin.List.listTooLong;exact decide_eq_false (by omega)
end
section
variable {X:Cx}
def zS:V->List V->Hp->VK->Prop:=λx vs H Q=>∃l xs y,x=.ref l/\vs=[y]/\H l=some (.lst xs)/\xs.length<sizeLine/\Q .non (upd H l (.lst (xs++[y])))
theorem iA:oi X "list.append" zS:=by
 intro pins s σ H x vs v us Q I U Y h;obtain⟨l,xs,y,rfl,rfl,L,hz,q⟩:=h
 cases U;obtain⟨u,rfl,ru⟩:=Y.one;obtain⟨z,J,n,r,hl,e⟩:=I.oj L;refine call_meets F.slot_list_append ⟨_,e,rfl⟩ F.entry_list_append (F.args_list_append_2 _ _) (PySem.list_append l J.toArray n u (by rw[Q0e];omega)) ⟨e,?_⟩;refine⟨.non,_,I.zR (its':=J++[u]) L e (by simp) (r.append (.cons ru .nil)) ?_,rfl,q⟩;rw[Q01,Q1o];omega
def F3:V->List V->Hp->VK->Prop:=λx vs H Q=>∃l b xs zs,x=.ref l/\vs=[.ref b]/\H l=some (.lst xs)/\H b=some (.lst zs)/\xs.length+zs.length<=sizeLine/\Q .non (upd H l (.lst (xs++zs)))
theorem zT:oi X "list.extend" F3:=by
 intro pins s σ H x vs v us Q I rx rv h;obtain⟨l,b,xs,zs,rfl,rfl,Y,hB,hz,q⟩:=h
 cases rx;obtain⟨u,rfl,ru⟩:=rv.one
 cases ru;obtain⟨z,L,n,r,hl,e⟩:=I.oj Y;obtain⟨z2,J,n2,r2,aa,e2⟩:=I.oj hB;have hsz:L.toArray.size+J.toArray.size<=sizeLine:=by rw[Q0e,Q0e];omega
 have U:¬(!L.toArray.isEmpty && Builtin.List.listTooLong (L.toArray.size+J.toArray.size))=true:=by
  rw[F2 hsz,Bool.and_false];exact Bool.false_ne_true
 refine call_meets F.slot_list_extend ⟨_,e,rfl⟩ F.entry_list_extend (F.args_list_extend_2 _ _)
  (AutoSeq1.list_extend_list_list_0 l L.toArray n b J.toArray n2 U (by rw[Q0e];omega) (by omega)) ⟨e,e2,?_⟩
 refine⟨.non,_,I.zR (its':=L++J) Y e (by simp) (r.append r2) ?_,rfl,q⟩;rw[Q01];omega
def F4:R2:=λx y H Q=>∃l b xs zs,x=.ref l/\y=.ref b/\H l=some (.lst xs)/\H b=some (.lst zs)/\xs.length+zs.length<=sizeLine/\∀p,H p=none->Q (.ref p) (upd H p (.lst (xs++zs)))
theorem jK:f6 X (binaryOp .Add) F4:=by
 intro pins s σ H x y v u Q I U Y h;obtain⟨l,b,xs,zs,rfl,rfl,hH,hB,hz,q⟩:=h
 cases U
 cases Y;obtain⟨z,L,n,r,hl,e⟩:=I.oj hH;obtain⟨z2,J,n2,r2,aa,e2⟩:=I.oj hB;refine PySem.P.add_list e e2 ?_ (by rw[Q0e,Q0e];omega);have ea:L.toArray++J.toArray=(L++J).toArray:=by simp
 rw[ea];exact⟨.ref _,_,I.F1 (t':=s.toks) (r.append r2) (by rw[Q01];omega),rfl,q _ I.fresh⟩
end
section
variable {prog:Program}{w:World}{A:Around}{E:Value->Shared->Prop}{s:Shared}
end
section
variable {X:Cx}
end
section
variable {κ:Type} [DecidableEq κ]
noncomputable def gF (kvs:List (κ × V)) (k:κ):Option V:=(kvs.find? λJ=>decide (J.1=k)).map (·.2)
noncomputable def putK (kvs:List (κ × V)) (k:κ) (v:V):List (κ × V):=
 if(kvs.any λJ=>decide (J.1=k))=true then kvs.map (λJ=>if J.1=k then(J.1,v) else J) else kvs++[(k,v)]
theorem qy {p:κ × V}{r:List (κ × V)}{k:κ}(e:p.1=k):gF (p::r) k=some p.2:=by simp[gF,Q1i,e]
theorem qA {p:κ × V}{r:List (κ × V)}{k:κ}(e:¬p.1=k):gF (p::r) k=gF r k:=by simp[gF,Q1i,e]
theorem om (k:κ):∀kvs:List (κ × V),(kvs.any λJ=>decide (J.1=k))=(gF kvs k).isSome
 |[]=>rfl
 |p::r=>by
  rw[Q1b];by_cases e:p.1=k
  . simp only[qy e,decide_eq_true e,Bool.true_or,Option.isSome_some]
  . rw[qA e,decide_eq_false e,Bool.false_or];exact om k r
theorem zU (kvs:List (κ × V))(k:κ)(v:V):(putK kvs k v).length<=kvs.length+1:=by
 unfold putK;split
 . rw[Q0b];omega
 . rw[Q01,Q02,Q0l];omega
theorem ie.oo {o:Option V}{u:Option Value}(r:ie o u):o.isSome=u.isSome:=by
 cases o with
 |none=>cases u with
  |none=>rfl
  |some _=>exact(show False from r).elim
 |some _=>cases u with
  |none=>exact(show False from r).elim
  |some _=>rfl
theorem KV.val {kvs:List (κ × V)}{vs:List (κ × Value)}(r:KV kvs vs)(k:κ):ie (gF kvs k) (valueAt vs k):=by
 unfold KV at r
 induction r with
 |nil=>exact True.intro
 |@cons p q ps qs h t L=>
  obtain⟨h1,h2⟩:=h;by_cases e:p.1=k
  . have J:q.1=k:=h1.symm.trans e;have b:valueAt (q::qs) k=some q.2:=by simp[valueAt,Q1i,J]
    rw[qy e,b];exact h2
  . have J:¬q.1=k:=λz=>e (h1.trans z);have b:valueAt (q::qs) k=valueAt qs k:=by simp[valueAt,Q1i,J]
    rw[qA e,b];exact L
theorem KV.any {kvs:List (κ × V)}{vs:List (κ × Value)}(r:KV kvs vs)(k:κ):(kvs.any λJ=>decide (J.1=k))=vs.any λJ=>decide (J.1=k):=by
 unfold KV at r
 induction r with
 |nil=>rfl
 |cons h t L=>rw[Q1b,Q1b,L,h.1]
theorem KV.repl {kvs:List (κ × V)}{vs:List (κ × Value)}(r:KV kvs vs)(k:κ){y:V}{u:Value}(L:RelV y u):
 KV (kvs.map λJ=>if J.1=k then(J.1,y) else J) (vs.map λJ=>if J.1=k then(J.1,u) else J):=by
 unfold KV at r ⊢
 induction r with
 |nil=>exact .nil
 |@cons p q ps qs h t U=>
  rw[Q0y,Q0y];refine .cons ?_ U;obtain⟨h1,h2⟩:=h;by_cases e:p.1=k
  . rw[if_pos e,if_pos (h1.symm.trans e)];exact⟨h1,L⟩
  . rw[if_neg e,if_neg (λz=>e (h1.trans z))];exact⟨h1,h2⟩
theorem KV.put {kvs:List (κ × V)}{vs:List (κ × Value)}(r:KV kvs vs)(k:κ){y:V}{u:Value}(J:RelV y u):KV (putK kvs k y) (stored vs k u):=by
 unfold putK stored;rw[r.any k];by_cases e:(vs.any λL=>decide (L.1=k))=true
 . rw[if_pos e,if_pos e];exact r.repl k J
 . rw[if_neg e,if_neg e];exact Paired.snoc r ⟨rfl,J⟩
theorem KV.length {kvs:List (κ × V)}{vs:List (κ × Value)}(r:KV kvs vs):kvs.length=vs.length:=Paired.length r
end
theorem oq {P:Program}{w:World}{k:Key}{u:Value}(r:RelV (kV k) u):(ic P w).is k u=true:=by
 cases k with
 |inl i=>obtain⟨t,e⟩:=(show ∃t,u=Value.int i t from r);subst e;exact Ez P w i t
 |inr x=>obtain⟨t,e⟩:=(show ∃t,u=Value.str x t from r);subst e;exact EA P w x t
theorem zV {P:Program}{w:World}:∀{ks:List Key}{us:List Value},Vals (ks.map kV) us->ItemsAre (ic P w) ks us
 |[],_,r=>by rw[Q25] at r;cases r;exact .nil
 |k::ks,_,r=>by
  rw[Q0y] at r
  cases r with
  |cons h t=>exact .cons (oq h) (zV t)
abbrev KT (H:Hp):List (List Key × V)->List (List Key × Addr × Value)->Prop:=Paired λp q=>p.1=q.1/\H q.2.1=some (.tup (p.1.map kV))/\RelV p.2 q.2.2
theorem KT.val {H:Hp}{kvs:List (List Key × V)}{xs:List (List Key × Addr × Value)}(r:KT H kvs xs)(k:List Key):ie (gF kvs k) ((atKey xs k).map (·.2)):=by
 induction r with
 |nil=>exact True.intro
 |@cons p q ps qs h t L=>
  obtain⟨h1,_,h2⟩:=h;by_cases e:p.1=k
  . have J:q.1=k:=h1.symm.trans e;have b:atKey (q::qs) k=some q.2:=by simp[atKey,Q1i,J]
    rw[qy e,b];exact h2
  . have J:¬q.1=k:=λz=>e (h1.trans z);have b:atKey (q::qs) k=atKey qs k:=by simp[atKey,Q1i,J]
    rw[qA e,b];exact L
theorem KT.repl {H:Hp}{kvs:List (List Key × V)}{xs:List (List Key × Addr × Value)}(r:KT H kvs xs)(k:List Key){y:V}{u:Value}(L:RelV y u):
 KT H (kvs.map λJ=>if J.1=k then(J.1,y) else J) (xs.map (putAt k u)):=by
 induction r with
 |nil=>exact .nil
 |@cons p q ps qs h t U=>
  rw[Q0y,Q0y];refine .cons ?_ U;obtain⟨h1,h2,Y⟩:=h;unfold putAt;by_cases e:p.1=k
  . rw[if_pos e,if_pos (h1.symm.trans e)];exact⟨h1,h2,L⟩
  . rw[if_neg e,if_neg (λz=>e (h1.trans z))];exact⟨h1,h2,Y⟩
theorem KT.put {H:Hp}{kvs:List (List Key × V)}{xs:List (List Key × Addr × Value)}(r:KT H kvs xs)(k:List Key){b:Addr}{y:V}{u:Value}(L:H b=some (.tup (k.map kV)))(J:RelV y u):
 KT H (putK kvs k y) (storedH xs k b u):=by
 have e:(kvs.any λU=>decide (U.1=k))=(atKey xs k).isSome:=by
  rw[om,(r.val k).oo,Q26]
 unfold putK storedH;rw[e];by_cases q:(atKey xs k).isSome=true
 . rw[if_pos q,if_pos q];exact r.repl k J
 . rw[if_neg q,if_neg q];exact Paired.snoc r ⟨rfl,L,J⟩
theorem KT.keeps {H H':Hp}{kvs:List (List Key × V)}{xs:List (List Key × Addr × Value)}(r:KT H kvs xs)(J:∀b ys,H b=some (.tup ys)->H' b=some (.tup ys)):KT H' kvs xs:=
 Paired.pT r λ_ _ z=>⟨z.1,J _ _ z.2.1,z.2.2⟩
section
variable {P:Program}{w:World}{H:Hp}{h:Heap}{a:Addr}
theorem zW {u:HO}(ok:ft P w H h)(e:Rd H a u):fQ P w H h a u:=e.ok ok
theorem mO {kvs:List (Key × V)}(ok:ft P w H h)(e:Rd H a (.dK kvs)):kvs.length<=sizeLine/\(a == sysModules)=false/\∃vs,KV kvs vs/\h.DictOf (ic P w) a vs:=
 show fQ P w H h a (.dK kvs) from zW ok e
theorem F5 {kvs:List (Key × V)}(ok:ft P w H h)(e:H a=some (.dK kvs)):kvs.length<=sizeLine/\(a == sysModules)=false/\∃vs,KV kvs vs/\h.DictOf (ic P w) a vs:=mO ok (.inl e)
theorem ou {ks:List Key}(ok:ft P w H h)(e:H a=some (.tup (ks.map kV))):(tupleKind (ic P w)).is h ks a:=by
 obtain⟨_,J,r,o,h1,h2,n,L⟩:=(show fQ P w H h a (.tup (ks.map kV)) from ok a _ e);exact⟨o,J.toArray,n,h1,h2,L,by simpa using zV r⟩
theorem ow {kvs:List (List Key × V)}(ok:ft P w H h)(e:Rd H a (.dT kvs)):kvs.length<=sizeLine/\(a == sysModules)=false/\
 ∃xs,KT H kvs xs/\h.DictOfH (tupleKind (ic P w)) a xs:=by
 obtain⟨z,y,xs,r,o,es,U,h1,h2,Y,h4,h5⟩:=(show fQ P w H h a (.dT kvs) from zW ok e);refine⟨z,y,xs,r,o,es,U,h1,h2,Y,h4,λx J=>?_,h5⟩
 have all:∀{l:List (List Key × V)} {m:List (List Key × Addr × Value)},KT H l m->∀x∈m,(tupleKind (ic P w)).is h x.1 x.2.1:=by
  intro l m q
  induction q with
  |nil=>intro x J;exact nomatch J
  |@cons p q ps qs L t ih=>
   intro x J;rcases List.mem_cons.mp J with e|J
   . subst e;exact ou ok (by rw[<-L.1];exact L.2.1)
   . exact ih x J
 exact all r x J
theorem F6 {kvs:List (List Key × V)}(ok:ft P w H h)(e:H a=some (.dT kvs)):kvs.length<=sizeLine/\(a == sysModules)=false/\
 ∃xs,KT H kvs xs/\h.DictOfH (tupleKind (ic P w)) a xs:=ow ok (.inl e)
end
def gc (H:Hp) (a:Addr) (y:V) (r:Option V):Prop:=
 (∃kvs k,Rd H a (.dK kvs)/\y=kV k/\r=gF kvs k)\/∃kvs k b,Rd H a (.dT kvs)/\y=.ref b/\H b=some (.tup (k.map kV))/\r=gF kvs k
def lb (H:Hp) (a:Addr) (y v:V) (H':Hp):Prop:=
 (∃kvs k,H a=some (.dK kvs)/\y=kV k/\kvs.length<sizeLine/\H'=upd H a (.dK (putK kvs k v)))\/
 ∃kvs k b,H a=some (.dT kvs)/\y=.ref b/\H b=some (.tup (k.map kV))/\kvs.length<sizeLine/\H'=upd H a (.dT (putK kvs k v))
theorem gc.k {H:Hp}{a:Addr}{kvs:List (Key × V)}{k:Key}(e:H a=some (.dK kvs)):gc H a (kV k) (gF kvs k):=.inl ⟨kvs,k,.inl e,rfl,rfl⟩
theorem lb.k {H:Hp}{a:Addr}{kvs:List (Key × V)}{k:Key}{v:V}(e:H a=some (.dK kvs))(hl:kvs.length<sizeLine):lb H a (kV k) v (upd H a (.dK (putK kvs k v))):=.inl ⟨kvs,k,e,rfl,hl,rfl⟩
section
variable {X:Cx}{pins:List (Addr × Obj)}{σ:St}{H:Hp}{s:Shared}{a:Addr}{y v:V}{u r:Value}{o:Option V}{A:Around}{E:Value->Shared->Prop}
theorem Inv.big (I:Inv X pins σ H s):sysModules<s.heap.objs.size:=by
 have h:mainGlobals<s.heap.objs.size:=(I.mod.glob.keeps I.bk).lt;exact Nat.lt_trans (by decide) h
theorem F7 {Q:Value->Shared->Prop}(hu:A.units+1<cLine)(I:Inv X pins σ H s)(g:gc H a y (some v))(ry:RelV y u)(h:∀U s',Inv X pins σ H s'->RelV v U->Q U s'):
 wpAny (model X.prog X.w) A (getItem (.ref a) u) Q E s:=by
 rcases g with⟨kvs,k,e,Y,l⟩|⟨kvs,k,b,e,Y,eb,l⟩
 . subst Y;obtain⟨z,hd,vs,J,dd⟩:=mO I.hok e;obtain⟨U,hw,L⟩:=ie.some_of (v:=v) (o:=valueAt vs k) (by rw[l];exact J.val k);exact wpAny_getItem_of (oq ry) dd.mapOf hw (h U _ (I.tok _) L)
 . subst Y
   cases(show u=Value.ref b from ry);obtain⟨z,hd,xs,J,dd⟩:=ow I.hok e;obtain⟨U,hw,L⟩:=ie.some_of (v:=v) (o:=(atKey xs k).map (·.2)) (by rw[l];exact J.val k);obtain⟨p,hp,aa⟩:=Option.map_eq_some_iff.mp hw;refine wpAny_getItem_heap (tupleKind_room_in1 hu) (ou I.hok eb) dd hp ?_;rw[aa];exact h U _ (I.tok _) L
theorem F8 {Q:Value->Shared->Prop}(hu:A.units+1<cLine)(I:Inv X pins σ H s)(g:gc H a y o)(ry:RelV y u)(h:∀s',Inv X pins σ H s'->Q (.bool o.isSome) s'):
 wpAny (model X.prog X.w) A (compareOp .In u (.ref a)) Q E s:=by
 rcases g with⟨kvs,k,e,L,l⟩|⟨kvs,k,b,e,L,eb,l⟩
 . subst L;obtain⟨z,U,vs,J,Y⟩:=mO I.hok e;refine wpAny_in_of (oq ry) U Y.mapOf ?_;rw[<-(J.val k).oo,<-l];exact h _ (I.tok _)
 . subst L
   cases(show u=Value.ref b from ry);obtain⟨z,U,xs,J,Y⟩:=ow I.hok e;refine wpAny_in_heap (tupleKind_room_in1 hu) (ou I.hok eb) U Y ?_;have q:=(J.val k).oo;rw[Q26] at q;rw[<-q,<-l];exact h _ (I.tok _)
theorem F9 {Q:Value->Shared->Prop}(hu:A.units+1<cLine)(I:Inv X pins σ H s)(g:gc H a y o)(ry:RelV y u)(h:∀s',Inv X pins σ H s'->Q (.bool (!o.isSome)) s'):
 wpAny (model X.prog X.w) A (compareOp .NotIn u (.ref a)) Q E s:=by
 rcases g with⟨kvs,k,e,L,l⟩|⟨kvs,k,b,e,L,eb,l⟩
 . subst L;obtain⟨z,U,vs,J,Y⟩:=mO I.hok e;refine wpAny_notIn_of (oq ry) U Y.mapOf ?_;rw[<-(J.val k).oo,<-l];exact h _ (I.tok _)
 . subst L
   cases(show u=Value.ref b from ry);obtain⟨z,U,xs,J,Y⟩:=ow I.hok e;refine wpAny_notIn_heap (tupleKind_room_in1 hu) (ou I.hok eb) U Y ?_;have q:=(J.val k).oo;rw[Q26] at q;rw[<-q,<-l];exact h _ (I.tok _)
theorem zX {h':Heap}{t':Nat}{J:HO}(I:Inv X pins σ H s)(mu:nT (H a))(L:Heap.SameBut a s.heap h')(U:∃q,h'.get? a=some q)(new:fQ X.prog X.w (upd H a J) h' a J):
 Inv X pins σ (upd H a J) { s with heap:=h',toks:=t' }:=
 I.write (x:=a) (e:=a) mu (.inl rfl) (λb q Y z=>(L.2 b Y).trans z) U new
theorem F_ {P:Program}{w:World}{H':Hp}{h':Heap}{kvs:List (Key × V)}{vs:List (Key × Value)}(z:kvs.length<=sizeLine)(L:(a == sysModules)=false)(J:KV kvs vs)(U:h'.DictOf (ic P w) a vs):
 fQ P w H' h' a (.dK kvs):=⟨z,L,vs,J,U⟩
theorem Ga {H':Hp}{Q:Unit->Shared->Prop}(hu:A.units+1<cLine)(I:Inv X pins σ H s)(g:lb H a y v H')(ry:RelV y u)(rv:RelV v r)(h:∀s',Inv X pins σ H' s'->Q () s'):
 wpAny (model X.prog X.w) A (setItem (.ref a) u r) Q E s:=by
 rcases g with⟨kvs,k,e,Y,l,eH⟩|⟨kvs,k,b,e,Y,eb,l,eH⟩
 . subst Y eH;obtain⟨z,hd,vs,J,dd⟩:=F5 I.hok e;have hz:vs.length<=sizeLine:=by rw[<-J.length];exact z
   have hl:(putK kvs k v).length<=sizeLine:=by have:=zU kvs k v;omega
   refine wpAny_setItem_pairs (hsz:=hz) (oq ry) dd λh' L hs=>h _ ?_;have he:∃q,h'.get? a=some q:=let⟨q,_,_,U,_⟩:=L;⟨q,U⟩
   exact zX I (by rw[e];exact True.intro) hs he (F_ hl hd (J.put k rv) L)
 . subst Y eH
   cases(show u=Value.ref b from ry);obtain⟨z,hd,xs,J,dd⟩:=F6 I.hok e;have hz:xs.length<=sizeLine:=by rw[<-Paired.length J];exact z
   have hl:(putK kvs k v).length<=sizeLine:=by have:=zU kvs k v;omega
   refine wpAny_setItem_heap (hsz:=hz) (tupleKind_room_in1 hu) (ou I.hok eb) dd λh' L hs=>h _ ?_;obtain⟨q,es,ep,U,h2,h3,h4,_,h5⟩:=L;refine zX I (by rw[e];exact True.intro) hs ⟨q,U⟩ ⟨hl,hd,_,(J.put k eb rv).keeps λc ys ec=>?_,q,es,ep,U,h2,h3,h4,h5⟩;rw[dg (fo ec e (λz=>nomatch z))];exact ec
end
section
variable {X:Cx}{pins:List (Addr × Obj)}{σ:St}{H:Hp}{s:Shared}{a:Addr}{kvs:List (Key × V)}{k:Key}{u:Value}{A:Around}{E:Value->Shared->Prop}
theorem Gc {Q:Value->Shared->Prop}(I:Inv X pins σ H s)(e:Rd H a (.dK kvs))(h:∀t s',Inv X pins σ H s'->Q (.int kvs.length t) s'):wpAny (model X.prog X.w) A (call (.builtin "len") [.ref a]) Q E s:=by
 obtain⟨z,L,vs,J,U⟩:=mO I.hok e;refine call_len_dict L U (by rw[<-J.length];rw[sizeLine_eq] at z;omega) ?_;rw[<-J.length];exact h _ _ (I.tok _)
end
def zY (i:Expr):Prop:=∀J iv,subscripted i false J iv=operate [J,iv] (getItem J iv)
theorem Gd {prog:Program}{w:World}{A:Around}{E:Value->Shared->Prop}{s:Shared}{env:Env}{value J:Expr}{pos:Pos}{T id:String}{Q:Value->Shared->Prop}
 (hl:typeLookup (.type T) "__getitem__"=pure (some (.builtin id))) (hs:zY J)
 (h:wpAny (model prog w) A (eval value env) (λo Y=>wpAny (model prog w) A (eval J env) (λi L=>L.TypeIs o T/\wpAny (model prog w) A (getItem o i) Q E L) E Y) E s):
 wpAny (model prog w) A (eval (.Subscript value J pos) env) Q E s:=by
 refine Subscript_ (Q0v h (λo Y ab=>Q0v ab (λi L U=>?_) λ_ _ x=>x) λ_ _ x=>x);obtain⟨hT,U⟩:=U;unfold subscriptTail;refine Q0 ?_;rw[getitemInPython_of_ne hT.not_modules];refine Q0 (wpAny_specialOf hT hl ?_)
 have fin:wpAny (model prog w) A (subscripted J false o i) (λr aa=>wpAny (model prog w) A (letTemporaryGo value o r >>= λ_=>pure r) Q E aa) E L:=by
  rw[hs o i];exact wpAny_operating (Q0v U (λr aa ac=>Q0 (wpAny_letTemporaryGo (Q08 ac))) λ_ _ x=>x)
 first
  |exact Q08 (Q0 fin)
  |exact Q0 (Q08 (Q0 fin))
  |exact Q0 fin
theorem Ge {X:Cx}{pins:List (Addr × Obj)}{σ:St}{H:Hp}{s:Shared}{a:Addr}{y:V}{o:Option V}(I:Inv X pins σ H s)(g:gc H a y o):s.TypeIs (.ref a) "dict":=by
 rcases g with⟨kvs,k,e,_,_⟩|⟨kvs,k,b,e,_,_,_⟩
 . obtain⟨_,_,vs,_,J⟩:=mO I.hok e;exact J.typeIs
 . obtain⟨_,_,xs,_,J⟩:=ow I.hok e;exact J.typeIs
def qB (td ty:TE):TE:=λσ H Q=>td σ H λx H1=>ty σ H1 λy H2=>∃a v,x=.ref a/\gc H2 a y (some v)/\Q v H2
def Gf (ty td:TE):TE:=λσ H Q=>ty σ H λy H1=>td σ H1 λx H2=>∃a o,x=.ref a/\gc H2 a y o/\Q (.bl o.isSome) H2
def Gg (ty td:TE):TE:=λσ H Q=>ty σ H λy H1=>td σ H1 λx H2=>∃a o,x=.ref a/\gc H2 a y o/\Q (.bl (!o.isSome)) H2
def Gh (td ty tv:TE):TS:=λD σ H=>tv σ H λv H1=>td σ H1 λx H2=>ty σ H2 λy L=>∃a J,x=.ref a/\lb L a y v J/\D.nx σ J
section
variable {X:Cx}{o i e value:Expr}{pos pos' tpos:Pos}{td ty tv:TE}
theorem j9 (U:X.A.units+1<cLine)(Y:PE X o td)(hi:PE X i ty)(hs:zY i):PE X (.Subscript o i pos) (qB td ty):=by
 intro pins s σ H Q I h;refine Gd PySem.F.slot_dict_getitem.lookup hs (dD (Y pins s σ H _ I h) λu s1 ⟨x,H1,I1,rx,q1⟩=>dD (hi pins s1 σ H1 _ I1 q1) λiv s2 zq=>?_);obtain⟨y,H2,L,ry,a,v,ex,g,q2⟩:=zq;subst ex;obtain rfl:u=Value.ref a:=rx;exact⟨Ge L g,F7 U L g ry λw' s3 I3 J=>⟨v,H2,I3,J,q2⟩⟩
theorem Gi (J:X.A.units+1<cLine)(hi:PE X i ty)(L:PE X o td):PC X .In i o (Gf ty td):=by
 intro pins s σ H Q I h;refine dD (hi pins s σ H _ I h) λiv U ⟨y,H1,Y,ry,q1⟩=>dD (L pins U σ H1 _ Y q1) λu s2 zq=>?_;obtain⟨x,H2,I2,rx,a,ov,ex,g,q2⟩:=zq;subst ex;obtain rfl:u=Value.ref a:=rx;exact F8 J I2 g ry λs3 I3=>⟨.bl ov.isSome,H2,I3,rfl,q2⟩
theorem Gj (J:X.A.units+1<cLine)(hi:PE X i ty)(L:PE X o td):PC X .NotIn i o (Gg ty td):=by
 intro pins s σ H Q I h;refine dD (hi pins s σ H _ I h) λiv U ⟨y,H1,Y,ry,q1⟩=>dD (L pins U σ H1 _ Y q1) λu s2 zq=>?_;obtain⟨x,H2,I2,rx,a,ov,ex,g,q2⟩:=zq;subst ex;obtain rfl:u=Value.ref a:=rx;exact F9 J I2 g ry λs3 I3=>⟨.bl (!ov.isSome),H2,I3,rfl,q2⟩
theorem qC (J:X.A.units+1<cLine)(L:PE X o td)(hi:PE X i ty)(U:PE X value tv)(Y:swapsWith value (some (.Subscript o i pos')) pos.line X.env=pure false):
 PS X (.Assign [.Subscript o i pos'] value pos) (Gh td ty tv):=by
 intro pins s σ H D I h;refine wpAny_Assign_Subscript (dD (U pins s σ H _ I h) λr s1 ⟨v,H1,I1,rv,q1⟩=>dD (L pins s1 σ H1 _ I1 q1) λu s2 ⟨x,H2,I2,rx,q2⟩=>dD (hi pins s2 σ H2 _ I2 q2) λiv s3 zq=>?_) Y;obtain⟨y,H3,I3,ry,a,H4,ex,g,q3⟩:=zq;subst ex;obtain rfl:u=Value.ref a:=rx;exact Ga J I3 g ry rv λs4 I4=>⟨σ,H4,I4,q3⟩
end
theorem Gk {P:Program}{w:World}{H:Hp}(h:Heap)(J:sysModules<h.objs.size):fQ P w H (h.push { cls:=.type "dict",data:=.dict #[] }) h.objs.size (.dK []):=
 ⟨Q06 _,beq_eq_false_iff_ne.mpr (Ne.symm (Q0c J)),[],.nil,Heap.DictOf.new h⟩
def Gm:TE:=λ_ H Q=>∀p,H p=none->Q (.ref p) (upd H p (.dK []))
section
variable {X:Cx}{pos:Pos}
theorem qD:PE X (.Dict [] [] pos) Gm:=λpins s σ H Q I h=>
 wpAny_Dict_empty ⟨.ref s.heap.objs.size,_,I.laid (a:=s.heap.objs.size) (o:=.dK []) (t':=s.toks) (λ_ _ q=>Q04 _ q) (Q00 _) (Gk s.heap I.big),rfl,h _ (I.hok.fresh (Q00 _))⟩
end
section
variable {X:Cx}{pins:List (Addr × Obj)}{σ:St}{H:Hp}{s:Shared}{a:Addr}{y d:V}{u r:Value}{o:Option V}{A:Around}{E:Value->Shared->Prop}
end
section
variable {X:Cx}{o e f:Expr}{apos cpos:Pos}{td ty tx:TE}
end
section
variable {X:Cx}{pins:List (Addr × Obj)}{σ:St}{H:Hp}{s:Shared}{a:Addr}{kvs:List (Key × V)}{A:Around}{E:Value->Shared->Prop}
end
section
variable {X:Cx}{pins:List (Addr × Obj)}{σ:St}{H:Hp}{s:Shared}{a:Addr}{y:V}{u:Value}{A:Around}{E:Value->Shared->Prop}
end
end L2
namespace zZ
open W Calls PyProof.Rows
theorem Gn {P:Params}{h:Heap}:∀(ns:List Int) (vs:List Value),WellAll P h vs (ns.map WData.int)->IntsAre vs ns:=by
 intro ns
 induction ns with
 |nil=>
  intro vs w;rw[Q25] at w
  cases w;exact .nil
 |cons n ns J=>
  intro vs w;rw[Q0y] at w
  cases w with
  |cons a b=>
   cases a;exact .cons _ _ (J _ b)
theorem Gq {l:OpenLaw}{n:Nat}(hn:l.most=some n){P:Params}{h:Heap}{args:List WData}{J:List Value}
 (L:l.row.toRowW.claim.pre args=true) (aa:WellAll P h J args):
 ∃a vs ns,J=[Value.ref a]/\args=[WData.list (ns.map WData.int)]/\h.get? a=some { cls:=.type "list",data:=.seq vs.toArray }/\IntsAre vs ns/\ns.length<=n:=by
 have ab:WShape.hasAll [] args [.list .int]=true:=(pre_splitW L).1;have hc:l.pre.holds [] { args:=args }=true:=(pre_splitW L).2;obtain⟨d,r,rfl,h1,h2⟩:=hasAllW_cons ab;obtain rfl:=hasAllW_nil h2;obtain⟨xs,rfl,h3⟩:=hasW_list h1;obtain⟨ns,rfl⟩:=items_int h3
 have U:ns.length<=n:=by
  unfold OpenLaw.pre at hc
  have h4:(WTm.not (.lt (.lit (.int (n:Int))) (.len (.arg 0)))).holds [] { args:=[.list (ns.map .int)] }=true:=by
   have h4:=(holds_andW hc).1;rw[hn] at h4;exact h4
  have h5:=condW_of h4 (w_not (w_lt w_lit (w_len_list (w_arg rfl))));rw[Q0b] at h5;refine Q1j λq=>?_;have q':(n:Int)<((ns.length:Nat):Int):=by omega
  first
   |(rw[decide_eq_true q'] at h5;exact absurd h5 (by decide))
   |(simp at h5;omega)
 cases aa with
 |cons w1 w2=>
  cases w2
  cases w1 with
  |list ho Y=>exact⟨_,_,ns,rfl,rfl,ho,Gn ns _ Y,U⟩
theorem Gr (l:OpenLaw)(args:List WData):l.row.toRowW.claim.post args (.bool true) args=true:=
 postW_of (r:=l.row.toRowW) (X:=(true == true))
  (show WShape.has [] (.bool true) .bool=true by first|rfl|decide|simp[WShape.has,WShape.arms,WShape.armsAll])
  (show(WTm.eq .res (.lit (.bool true))).value [] { args:=args,res:=some (.bool true),after:=args }=some (.bool (true == true)) from w_eq_bool (w_res rfl) w_lit) rfl
theorem Gs {l:OpenLaw}{n:Nat}{q:Program}{loose:List Str}{XP:(Str->Option Value)->Heap->Prop}{YP:World->Heap->Prop}{d:DefRec}
 (hn:l.most=some n) (ae:d.params.defaults=[])
 (call:∀(w:World) (s₀ J:Shared) (mg mb:Str->Option Value) (fa:Addr) (o:Obj) (pm cd L:Value) (a:Addr) (vs:List Value) (ns:List Int),
   Ground q loose [] XP w s₀ mg mb J.heap->YP w J.heap->
   J.heap.get? fa=some o->o.data=.func (docDef d.name d.params d.body d.scope pm cd L)->J.heap.CodeRec cd d.name->mg d.name=some (.ref fa)->
   J.heap.get? a=some { cls:=.type "list",data:=.seq vs.toArray }->IntsAre vs ns->ns.length<=n->J.gens=#[]->
   codeAny (model l.prog w) callerA (.call (.ref fa) ⟨[.ref a],[]⟩) (λr s'=>r=.ok (.ret (.bool true))/\OldK J.heap s'.heap/\s'.os=J.os/\AllBare s'.gens) J):
 WalkO q loose XP YP l.row.toRowW d [] (λf vs=>PySem.call f vs):=by
 intro w s₀ J mg mb G Y fa o pm cd L dV kV ho hd af hD ag hg args ai as aa aj ak ah al;obtain rfl:dV=.none:=Dflts.none hD ae;obtain rfl:kV=.none:=Dflts.noKw hD;obtain⟨a,vs,ns,rfl,rfl,ab,U,ac⟩:=Gq hn aa ah;refine enter_call (codeAny_mono (call w s₀ J mg mb fa o pm cd L a vs ns G Y ho (fd_plain hd) af ag ab U ac hg) λr s' hq=>?_);obtain⟨rfl,h2,h3,h4⟩:=hq;exact⟨.inl ⟨.bool true,.bool true,[],rfl,λ_=>rfl,.bool true,Gr l _,λ_=>⟨List.Pairwise.nil,λ_ hm=>(nomatch hm)⟩⟩,h2,h3,h4⟩
section
variable {prog:Program}{w:World}{A:Around}{E:Value->Shared->Prop}{s:Shared}{K:Frag}
end
end zZ
namespace L2
open Spec PyProof.Rows
theorem z6:∀{vs:List Value}{ns:List Int},IntsAre vs ns->Vals (ns.map V.int) vs
 |_,_,.nil=>.nil
 |_,_,.cons n t h=>.cons ⟨t,rfl⟩ (z6 h)
abbrev dm:jo:=λ_ _ _ _ _ _=>False
abbrev E0:XK:=λ_ _ _=>False
theorem gd {X:Cx}:Passes dm X E0:=λ_ _ _ _ _ _ _ h=>h.elim
structure jt (K:W.Frag) (x qual:Str) (st:Stmt) (f:Addr) (fd:FuncData):Prop where
 ex:∃(oc:Value) (od:Option Addr) (kV doc pm:Value) (an:Option Addr) (cdv ct:Value) (osl:Array (Option Value)),
  fd=W.fnOf x qual (iu st) (gJ st) (dN st) .none kV doc pm an cdv ct/\K.lookup f=some ⟨oc,od,.func fd,osl⟩/\W.codeIn K cdv qual=true
 kp:W.keepIn K (.ref f)=true
variable {P:Program}{w:World}{K:W.Frag}{mg:Str->Option Value}{base:Heap}
def FnBody (P:Program) (w:World) (K:W.Frag) (mg:Str->Option Value) (base:Heap) (N ps:List Str) (qual:Str) (st:Stmt) (f:Addr) (k:Nat) (vs:List V) (H:Hp) (Q:VK) (E:XK):Prop:=vs.length=ps.length/\∀(J:Value) (A:Around) (outer:List Env) (s:Shared),N.Nodup->eJ k (A.deeper (envOfC qual (dN st) s.heap.objs.size f J))->(A.deeper (envOfC qual (dN st) s.heap.objs.size f J)).units+1<cLine->∃t,g9 (d5 dm P w K mg base N qual (dN st) f J A outer s H E).d8 (gJ st) t/\t { nx:=λ_ H'=>Q .non H',rt:=Q } (start N vs) H
theorem jt.ok {x qual:Str}{st:Stmt}{f:Addr}{fd:FuncData}{N ps:List Str}{k:Nat}{sp:Sp}(F:jt K x qual st f fd)(S:d9 N ps (dN st))
 (J:∀(vs:List V) (H:Hp) (Q:VK) (E:XK),sp vs H Q E->FnBody P w K mg base N ps qual st f k vs H Q E):dj P w K mg base dm (k+1) f fd ps sp:=by
 obtain⟨oc,od,kV,aa,pm,an,L,ct,ab,rfl,lk,U⟩:=F.ex;refine zI lk U S (λvs H Q E h=>(J vs H Q E h).1) λA outer s H vs Q E hr Y=>?_;obtain⟨t,h,q⟩:=(J vs H Q E Y).2 L A outer s S.nd hr (Q0q (Q2x (by decide:1<=64) _) hr.units);exact⟨t,h.d8,q⟩
theorem jt.binds {x qual:Str}{st:Stmt}{f:Addr}{fd:FuncData}{ps:List Str}(F:jt K x qual st f fd)
 (h:∀(kV J U:Value) (Y:Option Addr) (L ct:Value) (us:List Value),us.length=ps.length->bindArgs (W.fnOf x qual (iu st) (gJ st) (dN st) .none kV J U Y L ct) ⟨us,[]⟩=pure (ps.zip us)):Binds K fd ps []:=by
 obtain⟨oc,od,kV,J,U,Y,L,ct,aa,rfl,lk,ab⟩:=F.ex;exact .all (h kV J U Y L ct)
theorem sT {x qual:Str}{st:Stmt}{f:Addr}{oc:Value}{od Y:Option Addr}{U:Array (Option Value)}{kV L pm J ct:Value}(l:K.lookup f=some ⟨oc,od,.func (W.fnOf x qual (iu st) (gJ st) (dN st) .none kV L pm Y J ct),U⟩)
 (c:W.codeIn K J qual=true) (k:W.keepIn K (.ref f)=true):jt K x qual st f (W.fnOf x qual (iu st) (gJ st) (dN st) .none kV L pm Y J ct):=⟨⟨oc,od,kV,L,pm,Y,J,ct,U,rfl,l,c⟩,k⟩
theorem sU {A:Around}{k:Nat}(J:eJ k A):A.units+1<cLine:=Q0q (Q2x (by decide:1<=64) _) J.units
theorem hX {n:Nat}(h:n<=1000):n<sizeLine:=Q0q h (by decide)
section
variable {X:Cx}
theorem pv (i:Nat){x:Str}{pos:Pos}(L:X.N[i]? =some x:=by rfl)(U:pV X.env.scope x:=by first|exact Or.inl rfl|exact Or.inr (Or.inl rfl)|exact Or.inr (Or.inr rfl))(Y:(x == ("__debug__":Str))=false:=by decide)
 (J:(x == ("__classdict__":Str))=false:=by decide):PE X (.Name x pos) (eV i):=EH L U Y J
end
theorem dE {A B:Prop}(h:B):if false=true then A else B:=by
 rw[if_neg Bool.false_ne_true];exact h
theorem dS {A B:Prop}(h:A):if true=true then A else B:=by
 rw[if_pos rfl];exact h
theorem eX {c A B:Prop} [Decidable c](h1:c->A)(h2:¬c->B):if c then A else B:=by
 by_cases h:c
 . rw[if_pos h];exact h1 h
 . rw[if_neg h];exact h2 h
theorem qE {c A B:Prop} [Decidable c](hc:c)(h:B):if(!decide c)=true then A else B:=by
 rw[decide_eq_true hc];exact dE h
def Same (H H':Hp):Prop:=∀b o,H b=some o->H' b=some o
theorem Same.refl (H:Hp):Same H H:=λ_ _ h=>h
theorem Same.trans {H H1 H2:Hp}(a:Same H H1)(b:Same H1 H2):Same H H2:=λc o h=>b c o (a c o h)
theorem Same.free {H H':Hp}(e:Same H H'){l:Addr}(h:H' l=Option.none):H l=Option.none:=by
 cases q:H l with
 |none=>rfl
 |some o=>
  rw[e l o q] at h
  cases h
section
variable {X:Cx}
theorem z7:jm X (.builtin "len") (λxs H Q=>∃a kvs,xs=[V.ref a]/\H a=some (.dK kvs)/\Q (.int kvs.length) H):=by
 intro pins s σ H xs us Q I r h;obtain⟨a,kvs,rfl,J,q⟩:=h;obtain⟨u,rfl,L⟩:=vals1 r
 cases L;exact Gc I (.inl J) λt s' U=>⟨.int kvs.length,H,U,⟨t,rfl⟩,q⟩
end
section
variable {κ:Type} [DecidableEq κ]
theorem Gu {kvs:List (κ × V)}{k:κ}{v:V}(h:gF kvs k=some v):k∈kvs.map (·.1):=by
 have q:(kvs.any λJ=>decide (J.1=k))=true:=by
  rw[om,h]
  all_goals rfl
 obtain⟨p,hp,e⟩:=List.any_eq_true.mp q;exact List.mem_map.mpr ⟨p,hp,of_decide_eq_true e⟩
end
theorem z8 {g:Str->NameKind->NameKind}{x:Str}:∀names:List (Str × NameKind),
 (names.map λy=>(y.1,g y.1 y.2)).lookup x=(names.lookup x).map (g x)
 |[]=>rfl
 |(n,k)::r=>by
  show List.lookup x ((n,g n k)::_)=_;rw[Q1p,Q1p,z8 r]
  cases J:x == n with
  |true=>rw[eq_of_beq J];rfl
  |false=>rfl
noncomputable def j_ (env:Env) (n:Str) (k:NameKind):NameKind:=
 if(k == .free && env.scope.kind == .function && env.kindOf n == some .cell)=true then .cell else k
theorem z9 (scope:Scope)(env:Env)(x:Str):
 (relabel scope env).names.lookup x=(scope.names.lookup x).map (j_ env x):=by
 rw[<-z8 (g:=j_ env) scope.names];show List.lookup x (scope.names.map _)=_;congr 1;apply Q27;rintro⟨n,k⟩ _;show(if _ then _ else _)=(n,j_ env n k);unfold j_;split <;> rfl
theorem Gv {env:Env}{x:Str}{k:NameKind}(h:j_ env x k=.local):k=.local:=by
 unfold j_ at h;split at h
 . cases h
 . exact h
theorem Gw {env:Env}{x:Str}{k:NameKind}(h:j_ env x k=.cell):k=.free\/k=.cell:=by
 unfold j_ at h;split at h
 . rename_i c;left;simp only[Bool.and_eq_true] at c;exact eq_of_beq c.1.1
 . exact .inr h
theorem Gx {env:Env}{x:Str}{k:NameKind}(h:j_ env x k=.free):k=.free:=by
 unfold j_ at h;split at h
 . cases h
 . exact h
theorem sV {env:Env}:∀(names:List (Str × NameKind)) (L:List (Str × Addr)),(∀y∈names,y.2=.free->∃c,env.cells.lookup y.1=some c)->
 (∀x c,L.lookup x=some c->env.cells.lookup x=some c)->
 ∃cl:List (Str × Addr),(forIn names L λy cs=>if(y.2 == NameKind.free)=true then(do let a <-cellOf env y.1;pure (ForInStep.yield ((y.1,a)::cs))) else pure (ForInStep.yield cs))=(pure cl:Sem _)/\
  (∀x c,cl.lookup x=some c->env.cells.lookup x=some c)/\(∀x,((x,NameKind.free)∈names\/(L.lookup x).isSome=true)->cl.lookup x=env.cells.lookup x)
 |[],L,_,U=>⟨L,rfl,U,λx J=>by
    rcases J with J|J
    . cases J
    . obtain⟨c,e⟩:=Option.isSome_iff_exists.mp J;rw[e,U x c e]⟩
 |(n,k)::r,L,Y,U=>by
  by_cases hk:k=.free
  . subst hk;obtain⟨c,e⟩:=Y (n,.free) Q05 rfl;have e:env.cells.lookup n=some c:=e
    have aa:∀x d,((n,c)::L).lookup x=some d->env.cells.lookup x=some d:=λx d h=>by
     rw[Q1p] at h
     cases J:x == n with
     |true=>
      rw[J] at h
      cases h;rw[eq_of_beq J];exact e
     |false=>
      rw[J] at h;exact U x d h
    obtain⟨cl,h1,h2,h3⟩:=sV r ((n,c)::L) (λy hy=>Y y (Q0d _ hy)) aa;refine⟨cl,?_,h2,λx J=>h3 x ?_⟩
    . rw[Q1k];have ec:cellOf env n=pure c:=by unfold cellOf;rw[e]
      simp only[beq_self_eq_true,if_true,ec,pure_bind];exact h1
    . rcases J with J|J
      . rcases List.mem_cons.mp J with q|q
        . right
          cases q;rw[Q1p,beq_self_eq_true];rfl
        . exact .inl q
      . right;rw[Q1p]
        cases x == n with
        |true=>rfl
        |false=>exact J
  . obtain⟨cl,h1,h2,h3⟩:=sV r L (λy hy=>Y y (Q0d _ hy)) U;refine⟨cl,?_,h2,λx J=>h3 x ?_⟩
    . rw[Q1k];have eb:(k == NameKind.free)=false:=by simpa using hk
      simp only[eb,Bool.false_eq_true,if_false,pure_bind];exact h1
    . rcases J with J|J
      . rcases List.mem_cons.mp J with q|q
        . cases q;exact absurd rfl hk
        . exact .inl q
      . exact .inr J
theorem qF {scope:Scope}{env:Env}(J:∀y∈scope.names,y.2=.free->∃c,env.cells.lookup y.1=some c):
 ∃cl:List (Str × Addr),closureFor scope env=pure cl/\(∀x c,cl.lookup x=some c->env.cells.lookup x=some c)/\(∀x,(x,NameKind.free)∈scope.names->cl.lookup x=env.cells.lookup x):=by
 obtain⟨cl,h1,h2,L⟩:=sV scope.names [] J (λx c h=>by cases h);refine⟨cl,?_,h2,λx U=>L x (.inl U)⟩;unfold closureFor
 have e:(forIn scope.names ([]:List (Str × Addr)) λy cs=>do
  let mut cs:=cs
  match y with
  |(name,kind)=>if(kind == NameKind.free)=true then cs:=(name,<-cellOf env name)::cs
  pure (ForInStep.yield cs))=(pure cl:Sem _):=by
  rw[<-h1]
 first
  |exact(by simpa using e)
  |(show(forIn scope.names ([]:List (Str × Addr)) _ >>= λcs=>pure cs)=_;rw[bind_pure];exact e)
structure iR (X:Cx) (own:List Str) (scope:Scope):Prop where
 kind:scope.kind=.function
 cell:∀y∈scope.names,y.2≠ .cell
 names:∀y∈scope.names,y.2=.local->scope.names.lookup y.1=some .local
 free:∀y∈scope.names,y.2=.free->X.env.kindOf y.1=some .cell\/X.env.kindOf y.1=some .free
 nd:(own++X.N).Nodup
 outer:∀x∈X.N,scope.names.lookup x≠some .local
noncomputable def gN (X:Cx) (own:List Str) (scope:Scope) (cl:List (Str × Addr)) (C:Addr) (fp:List Addr) (J:Shared) (L:Hp):Cx:=
 { X with N:=own++X.N,s₀:=J,H₀:=L,env:=compEnvC scope cl C X.env,outer:=X.stack,ex:=fp,fn:=λ_=>false,pn:=[],xe:=λ_ _=>False }
def oy (X:Cx) (J:List Expr) (t:TT):Prop:=
 ∀(pins:List (Addr × Obj)) (s:Shared) (σ:St) (H:Hp) (Q:Bool->Hp->Prop),Inv X pins σ H s->t σ H Q->
  wpAny (model X.prog X.w) X.A (forIn J true λc r=>if r=true then do let ok <-isTrue c X.env (eval c X.env);pure (ForInStep.yield ok) else pure (ForInStep.yield r)) (TP X pins σ Q) X.xe s
def ju:TT:=λ_ H Q=>Q true H
theorem kg {X:Cx}:oy X [] ju:=λpins s σ H Q I h=>wpAny_tests_nil ⟨H,I,h⟩
theorem Gy {X:Cx}{c:Expr}{t:TT}(h:PT X c t):oy X [c] t:=λpins s σ H Q I q=>wpAny_tests_one (h pins s σ H Q I q)
def z_ (k:Nat) (wi:TI) (g:TG) (tt:TT) (te:TE):TE:=λσ H Q=>wi σ H λJ H1=>
 ∃W:Nat->Nat->List V->Hp->Prop,(∃m,W 0 m [] H1)/\∀i m ys H,W i m ys H->
  (J.stop i H/\∀p,H p=none->Q (.ref p) (upd H p (.lst ys)))\/
  (J.go i H/\ys.length<sizeLine/\∀x H',J.jH i H x H'->g x (List.replicate k none++σ) H' λL H2=>L.drop k=σ/\
    tt L H2 λb Y=>if b=true then te L Y λy H4=>∃U,U<m/\W (i+1) U (ys++[y]) H4 else ∃U,U<m/\W (i+1) U ys Y)
section
variable {prog:Program}{w:World}{A:Around}{R:Result->Shared->Prop}{s:Shared}
theorem Gz {ah J iter:Expr}{ai:List Expr}{scope:Scope}{pos:Pos}{it ag:Value}{env:Env}(I:Nat->Shared->Prop)
 (aj:∀n s,I n s->wpAny (model prog w) A (pyNext it) (λr L=>
   match r with
   |none=>R (.ok .next) L
   |some v=>wpAny (model prog w) A (letOwnedTupleGo J it v) (λ_ Y=>wpAny (model prog w) A (assign J env v) (λ_ aa=>
     wpAny (model prog w) A (forIn ai true λc r=>if r=true then do let ok <-isTrue c env (eval c env);pure (ForInStep.yield ok) else pure (ForInStep.yield r)) (λok U=>
      if ok=true then wpAny (model prog w) A (eval ah env) (λx ab=>
       wpAny (model prog w) A (call (.builtin "list.append") [ag,x]) (λ_ ac=>∃m,m<n/\I m ac) (λ_ _=>False) ab) (λ_ _=>False) U
      else ∃m,m<n/\I m U) (λ_ _=>False) aa) (λ_ _=>False) Y) (λ_ _=>False) L) (λ_ _=>False) s)
 (n:Nat) (h:I n s):
 codeAny (model prog w) A (.compLoop (.ListComp ah [⟨J,iter,ai,0⟩] scope pos) 0 it ag env) R s:=by
 refine codeAny_loop rfl I (λn s hI=>?_) n h;show wpAny _ A ((compTurn _ 0 it ag env).onRaise _) _ _ s;refine wpAny_noted ?_;rw[compTurn_list]
 have no:∀{α:Type} {t:Sem α} {Q Q':α->Shared->Prop} {E:Value->Shared->Prop} {s:Shared},wpAny (model prog w) A t Q (λ_ _=>False) s->(∀a s,Q a s->Q' a s)->wpAny (model prog w) A t Q' E s:=
  λh k=>Q0v h k λ_ _ z=>z.elim
 refine Q0 (wpAny_standAt (Q0 (no (aj n s hI) λr L ae=>?_)))
 cases r with
 |none=>exact Q08 ae
 |some v=>
  refine Q0 (no ae λ_ Y ak=>?_);refine Q0 (no ak λ_ aa al=>Q0 (no al λok U af=>?_))
  cases ok with
  |false=>exact Q08 ⟨rfl,af⟩
  |true=>
   refine Q0 (Q0 (no af λx ab am=>?_));exact Q0 (no am λ_ ac an=>Q08 (Q08 ⟨rfl,an⟩))
end
noncomputable abbrev iB (us:List Value) (n:Nat):Obj:={ cls:=.type "list",data:=.seq us.toArray n }
section
variable {X:Cx}{own:List Str}{scope:Scope}
theorem iR.cells (S:iR X own scope){pins:List (Addr × Obj)}{σ:St}{H:Hp}{s:Shared}(I:Inv X pins σ H s):
 ∀y∈scope.names,y.2=.free->∃c,X.env.cells.lookup y.1=some c:=λy J L=>I.ok.has y.1 (S.free y J L)
theorem iR.freeOf (S:iR X own scope){x:Str}(h:(relabel scope X.env).names.lookup x=some .cell\/(relabel scope X.env).names.lookup x=some .free):(x,NameKind.free)∈scope.names:=by
 rw[z9] at h
 cases e:scope.names.lookup x with
 |none=>rw[e] at h;rcases h with h|h <;> cases h
 |some k=>
  rw[e] at h;have J:(x,k)∈scope.names:=PySem.mem_of_lookup e
  have hk:k=.free:=by
   rcases h with h|h
   . rcases Gw (Option.some.inj h) with q|q
     . exact q
     . exact absurd q (S.cell _ J)
   . exact Gx (Option.some.inj h)
  rw[<-hk];exact J
theorem iR.GA (S:iR X own scope){x:Str}(J:x∈X.N):(relabel scope X.env).names.lookup x≠some .local:=λh=>by
 rw[z9] at h
 cases e:scope.names.lookup x with
 |none=>rw[e] at h;cases h
 |some k=>
  rw[e] at h;have:=Gv (Option.some.inj h);subst this;exact S.outer x J e
theorem Aa {k:Nat}{σ:St}{i:Nat}{v:V}(h:(List.replicate k none++σ)[i]? =some (some v)):k<=i/\σ[i - k]? =some (some v):=by
 by_cases hi:i<k
 . rw[Q1v (by simpa using hi),Q2t] at h;split at h <;> cases h
 . refine⟨Q1j hi,?_⟩;rw[Q1n (by simpa using hi)] at h;simpa using h
theorem Inv.block {pins:List (Addr × Obj)}{σ:St}{H:Hp}{s:Shared}{fp:List Addr}{cl:List (Str × Addr)}{C D:Addr}{L:Heap}{m:Str->Option Value}{t':Nat}{us:List Value}{n:Nat}(I:Inv X pins σ H s)(S:iR X own scope)
 (hf:∀b∈fp,gU X pins H b) (ag:∀b∈fp,b<s.heap.objs.size)
 (J:∀x c,cl.lookup x=some c->X.env.cells.lookup x=some c) (aa:∀x,(x,NameKind.free)∈scope.names->cl.lookup x=X.env.cells.lookup x)
 (hC:s.heap.objs.size<=C) (hD:s.heap.objs.size<=D) (ah:D≠C) (hn:L.Ns C m) (Y:∀b o,s.heap.get? b=some o->L.get? b=some o) (af:L.get? D=some (iB us n)):
 Inv (gN X own scope cl C fp s H) [(D,iB us n)] (List.replicate own.length none++σ) H { s with heap:=L,toks:=t' }:=by
 have ok:=I.ok
 have mF:∀b:Addr,s.heap.objs.size<=b->b ∉ frs X.stack:=λb U z=>by
  rcases List.mem_cons.mp (I.nV b z) with e|e
  . exact absurd I.lt (by rw[<-e];exact Nat.not_lt.mpr U)
  . exact I.mF U e
 have fresh:∀b:Addr,s.heap.objs.size<=b->H b=none:=λb U=>I.hok.fresh U
 have al:∀x c,cl.lookup x=some c->c<s.heap.objs.size:=λx c e=>by
  obtain⟨v,q⟩:=I.cell x c (J x c e);exact q.lt
 refine⟨⟨ok.mod,S.kind,ok.glob,ok.blt,hC,λx y c e1 e2=>ok.inj x y c (J x c e1) (J y c e2),λx hx=>?_,λx c hx _=>(nomatch hx),ok.hd,ok.frames,.inl rfl,λb U=>?_,I.bs,Q07 ok.jG I.sz,λb o e U=>?_,λb U z=>?_,I.stack,I.sy⟩,
  rfl,I.bare,Un.kept Y,⟨m,hn,λi x v e1 e2 e3=>?_⟩,λx c e=>?_,fresh C hC,λx c e=>?_,λp hp=>?_,I.hok.kept Y,?_⟩
 . have hm:=S.freeOf (x:=x) hx;obtain⟨c,e⟩:=ok.has x (S.free _ hm rfl);exact⟨c,by rw[show(gN X own scope cl C fp s H).env.cells=cl from rfl,aa x hm];exact e⟩
 . refine⟨Q0c (Q0g (ag b U) hC),λx c e z=>?_⟩;exact(hf b U).2.2.2.2.1 x c (J x c e) z
 . rcases(hf b U).2.2.2.1 with z|z
   . exact ok.nU b o e z
   . exact absurd (Q0g (Q03 e) (Q07 ok.jG z)) (Q10 _)
 . rcases List.mem_cons.mp (I.nV b z) with q|q
   . exact(hf b U).2.1 q
   . exact(hf b U).2.2.1 q
 . obtain⟨hk,ai⟩:=Aa e2
   have ab:X.N[i - own.length]? =some x:=by
    have e1:(own++X.N)[i]? =some x:=e1;rw[Q1n hk] at e1;exact e1
   have aj:x∈X.N:=Q0x ab
   have ac:(relabel scope X.env).names.lookup x=some .cell\/(relabel scope X.env).names.lookup x=some .free:=by
    rcases e3 with q|q
    . exact absurd q (S.GA aj)
    . exact q
   have hm:=S.freeOf ac;have ae:=S.free _ hm rfl;obtain⟨mX,am,ak⟩:=I.loc;obtain⟨u,r,lk⟩:=ak _ x v ab ai (.inr ae);refine⟨u,r,.inr ⟨ac,?_⟩⟩;rcases lk with⟨q,_⟩|⟨_,c,ec,hc⟩
   . rcases ae with z|z
     . rw[z] at q;cases q
     . rw[z] at q;cases q
   . obtain⟨o,ho,hd⟩:=hc;exact⟨c,(aa x hm).trans ec,o,Y _ _ ho,hd⟩
 . obtain⟨v,o,ho,hd⟩:=I.cell x c (J x c e);exact⟨v,o,Y _ _ ho,hd⟩
 . exact I.iM x c (J x c e)
 . have e:p=(D,iB us n):=by
    have hp:p∈([]++[(D,iB us n)]:List (Addr × Obj)):=hp;simpa using hp
   subst e
   exact⟨af,fresh D hD,ah,mF D hD,λv z=>by
    have z:Data.seq us.toArray n=Data.cell v:=z
    cases z⟩
 . show _=(own++X.N).length;rw[Q01,Q01,Q0w,I.len]
theorem Inv.unblock {pins:List (Addr × Obj)}{σ aa:St}{H H3:Hp}{s s3:Shared}{fp:List Addr}{cl:List (Str × Addr)}{C D:Addr}{h':Heap}{us:List Value}{n:Nat}{ys:List V}{pl:List (Addr × Obj)}(I:Inv X pins σ H s)
 (hf:∀b∈fp,gU X pins H b) (J:Inv (gN X own scope cl C fp s H) pl aa H3 s3) (ab:(D,iB us n)∈pl) (hC:s.heap.objs.size<=C) (hD:s.heap.objs.size<=D) (ac:D≠C)
 (r:Vals ys us) (hz:ys.length<=sizeLine) (hs:Heap.SameBut C s3.heap h'):Inv X pins σ (upd H3 D (.lst ys)) { s3 with heap:=h' }/\H3 D=none:=by
 obtain⟨eD,Y,_,_,_⟩:=J.pin (D,iB us n) (Q09 _ ab);have nC:H3 C=none:=J.free;have kC:∀b o,b≠C->s3.heap.get? b=some o->h'.get? b=some o:=λb o L e=>(hs.2 b L).trans e;refine⟨I.call' (ch:=fp) J.os ⟨λb o e nb L U=>?_,λb o e nb L U=>?_,λb o e nb U=>?_,λb o e U=>?_,λb xs e=>?_,λb o u e=>?_,λb ps e=>?_⟩ (λb o e=>?_) J.bare (λb L=>?_),Y⟩
 . exact kC b o (Q0c (Q0g (Q03 e) hC)) (J.base.keep b o e nb L U)
 . obtain⟨sl,e1⟩:=J.base.slot b o e nb L U;exact⟨sl,kC b _ (Q0c (Q0g (Q03 e) hC)) e1⟩
 . rw[dg (Q0c (Q0g (Q03 e) hD))];exact J.base.free b o e nb U
 . obtain⟨o',e1⟩:=J.base.there b o e U;exact⟨o',kC b _ (Q0c (Q0g (Q03 e) hC)) e1⟩
 . have q:=J.base.tups b xs e;rw[dg (dA q Y)];exact q
 . have q:=J.base.ji b o u e;rw[dg (dA q Y)];exact q
 . obtain⟨mo,q⟩:=J.base.jF b ps e;exact⟨mo,by rw[dg (dA q Y)];exact q⟩
 . by_cases L:b=D
   . subst L;rw[dw] at e;cases e;exact⟨hz,us,n,r,kC b _ ac eD⟩
   . rw[dg L] at e;refine(J.hok b o e).stay (λc v hc q=>kC c v ?_ q) (λc q=>by rw[dg (dA q Y)];exact q) λc xs q=>by rw[dg (dA q Y)];exact q
     rcases hc with z|z
     . rw[z];exact dA e nC
     . exact dA z nC
 . obtain⟨_,f1,_,f3,f4,f5⟩:=hf b L;exact⟨f3,f1,f4,f5⟩
theorem Ab {tg iter ar:Expr}{au:List Expr}{pos:Pos}{g:TG}{tt:TT}{te:TE}{pins:List (Addr × Obj)}{σ:St}{H2:Hp}{L:Shared}{it:Addr}{fp:List Addr}{tn:Nat->Heap->Prop}{J:It}{cl:List (Str × Addr)}{Fin:List V->Hp->Prop}{W:Nat->Nat->List V->Hp->Prop}{m0:Nat}
 {RR:Value->Addr->Result->Shared->Prop} (hc:X.calm=true) (S:iR X own scope) (ai:∀x c,cl.lookup x=some c->X.env.cells.lookup x=some c) (aG:∀x,(x,NameKind.free)∈scope.names->cl.lookup x=X.env.cells.lookup x)
 (I2:Inv X pins σ H2 L) (T:Turn X.prog X.w X.K tg J fp it tn) (ay:tn 0 L.heap) (f2:∀b∈fp,gU X pins H2 b) (w0:W 0 m0 [] H2)
 (aH:∀i m ys H,W i m ys H->(J.stop i H/\Fin ys H)\/
   (J.go i H/\ys.length<sizeLine/\∀x H',J.jH i H x H'->g x (List.replicate own.length none++σ) H' λav H2=>av.drop own.length=σ/\
     tt av H2 λb H3=>if b=true then te av H3 λy H4=>∃m',m'<m/\W (i+1) m' (ys++[y]) H4 else ∃m',m'<m/\W (i+1) m' ys H3))
 (hg:∀cl C fp ac ae,PG (gN X own scope cl C fp ac ae) tg g) (ht:∀cl C fp ac ae,oy (gN X own scope cl C fp ac ae) au tt) (he:∀cl C fp ac ae,PE (gN X own scope cl C fp ac ae) ar te)
 (aL:∀(C D:Addr) (s5:Shared) (H5:Hp) (ys:List V) (us:List Value) (k:Nat),L.heap.objs.size<=C->L.heap.objs.size<=D->D≠C->Inv (gN X own scope cl C fp L H2) [(D,iB us k)] (List.replicate own.length none++σ) H5 s5->Vals ys us->ys.length<=sizeLine->Fin ys H5->RR (.ref D) C (.ok .next) s5):
 wpAny (model X.prog X.w) X.A (newList []) (λaz af=>wpAny (model X.prog X.w) X.A (newFunctionEnv scope X.env.globals cl [] X.env.qual none .none (some X.env)) (λal aI=>
  codeAny (model X.prog X.w) X.A (.compStart (.ListComp ar [⟨tg,iter,au,0⟩] scope pos) 0 (.ref it) az { al with scope:=relabel scope X.env }) (RR az al.locals) aI) X.xe af) X.xe L:=by
 have ak:∀b∈fp,b<L.heap.objs.size:=λb U=>by
  obtain⟨o,e,_⟩:=T.obj _ _ ay b U;exact Q03 e
 refine wpAny_newObj_type (wpAny_newFunctionEnv S.cell (by intro y hy;simp at hy) (λag aa Y=>?_) S.kind);dsimp only at aa Y ⊢;generalize hG:L.heap.push { cls:=.type "list",dict:=none,data:=.seq ([]:List Value).toArray }=G at aa Y ⊢;have aA:G.objs.size=L.heap.objs.size+1:=by rw[<-hG,Q16]
 have hC:L.heap.objs.size<=G.objs.size:=by rw[aA];exact Q15 _
 have aw:L.heap.objs.size≠G.objs.size:=by rw[aA];exact Q0c (Q1a _)
 have aB:∀b o,L.heap.get? b=some o->ag.get? b=some o:=λb o e=>
  Y.extBut b o (Q0c (Q0g (Q03 e) hC)) (Q04 _ (hG ▸ Q04 _ e))
 have aJ:ag.get? L.heap.objs.size=some (iB [] 0):=Y.extBut _ _ aw (Q04 _ (hG ▸ Q0f _ rfl));have I3:=I2.block (cl:=cl) (t':=L.toks+([]:List (Str × Value)).length) S f2 ak ai aG hC (Q00 _) aw aa aB aJ;have aC:tn 0 ag:=T.keep _ _ _ ay λb _ o e=>aB b o e;have aM:∀b∈fp,H2 b=none:=λb U=>(f2 b U).1
 have aj:∀{H':Hp} {us:List Value} {n:Nat},(∀b∈fp,H' b=none)->∀b∈fp,gU (gN X own scope cl G.objs.size fp L H2) [(L.heap.objs.size,iB us n)] H' b:=λ{H' us n} hn b U=>by
  refine⟨hn b U,Q0c (Q0g (ak b U) hC),λz=>?_,.inl U,λx c e=>(f2 b U).2.2.2.2.1 x c (ai x c e),λp hp=>?_⟩
  . rcases List.mem_cons.mp (I2.nV b z) with q|q
    . exact(f2 b U).2.1 q
    . exact(f2 b U).2.2.1 q
  . have hp:p∈([]++[(L.heap.objs.size,iB us n)]:List (Addr × Obj)):=hp;have e:p=(L.heap.objs.size,iB us n):=by simpa using hp
    subst e;exact Q0r (ak b U)
 have am:∀af:Shared,af={ L with heap:=ag,toks:=L.toks+([]:List (Str × Value)).length }->
  codeAny (model X.prog X.w) X.A (.compLoop (.ListComp ar [⟨tg,iter,au,0⟩] scope pos) 0 (.ref it) (.ref L.heap.objs.size) (compEnvC scope cl G.objs.size X.env))
   (RR (.ref L.heap.objs.size) G.objs.size) af:=by
  rintro af rfl
  refine Gz (λn s'=>∃i ys us k H',Inv (gN X own scope cl G.objs.size fp L H2) [(L.heap.objs.size,iB us k)] (List.replicate own.length none++σ) H' s'/\Vals ys us/\ys.length<=sizeLine/\tn i s'.heap/\(∀b∈fp,H' b=none)/\W i n ys H')
   ?_ m0 ⟨0,[],[],0,H2,I3,.nil,Q06 _,aC,aM,w0⟩
  intro n s4 zq;obtain⟨i,ys,us,k,H4,I4,r4,z4,aD,aE,w4⟩:=zq;rcases aH i n ys H4 w4 with⟨stop,qn⟩|⟨go,aN,step⟩
  . refine dD (T.done (gN X own scope cl G.objs.size fp L H2) rfl rfl rfl hc i _ s4 _ H4 (λ_ _=>False) I4 (aj aE) aD stop) λr s5 ⟨hr,I5⟩=>?_;subst hr;exact aL G.objs.size L.heap.objs.size s5 H4 ys us k hC (Q00 _) aw I5 r4 z4 qn
  . refine dD (T.item (gN X own scope cl G.objs.size fp L H2) rfl rfl rfl hc i _ s4 _ H4 (λ_ _=>False) I4 (aj aE) aD go) λr s5 ⟨u,hr,h5⟩=>?_;subst hr;refine dD h5 λ_ s6 zq=>?_;obtain⟨x,H6,I6,r6,y6,ah,aO⟩:=zq;have aP:=I6.pinned (aj aO) (T.obj _ _ ah);refine dD (hg cl G.objs.size fp L H2 _ s6 _ H6 x u _ aP r6 (step x H6 y6)) λ_ s7 zq=>?_;obtain⟨ab,H7,I7,d7,q7⟩:=zq;refine dD (ht cl G.objs.size fp L H2 _ s7 ab H7 _ I7 q7) λb s8 ⟨H8,I8,q8⟩=>?_;have an:(List.replicate own.length none++σ).length=ab.length:=by rw[I7.len,<-I6.len]
    have ao:∀(j:Nat) v,(List.replicate own.length none++σ)[j]? =some (some v)->ab[j]? =some (some v):=λj v e=>by
     obtain⟨hk,e'⟩:=Aa e;rw[<-d7,Q28] at e';rw[<-e'];congr 1;omega
    cases b with
    |false=>
     have q8:∃m',m'<n/\W (i+1) m' ys H8:=q8;obtain⟨m',hm,w8⟩:=q8;refine⟨m',hm,i+1,ys,us,k,H8,I8.kF.weak an ao,r4,z4,T.keep _ _ _ ah λb U o e=>?_,λb U=>?_,w8⟩
     . exact(I8.pin (b,o) (Q09 _ (Q09 _ (n0 U e)))).1
     . obtain⟨o,e,d⟩:=T.obj _ _ ah b U;exact(I8.pin (b,o) (Q09 _ (Q09 _ (n0 U e)))).2.1
    |true=>
     have q8:te ab H8 λy H9=>∃m',m'<n/\W (i+1) m' (ys++[y]) H9:=q8;show wpAny _ _ _ _ _ _;refine dD (he cl G.objs.size fp L H2 _ s8 ab H8 _ I8 q8) λyv s9 zq=>?_;obtain⟨y,H9,I9,r9,m',hm,w9⟩:=zq;obtain⟨eD,nD,aF,aQ,_⟩:=I9.pin (L.heap.objs.size,iB us k) (Q09 _ (Q0u _ Q05));have hl:=r4.length;refine append_at (hsz:=by rw[Q0e,<-hl];exact z4) eD λax ap aK=>?_
     have aq:∀b∈fp,∀o,s6.heap.get? b=some o->s9.heap.get? b=some o/\H9 b=none:=λb U o e=>by
      have q:=I9.pin (b,o) (Q09 _ (Q09 _ (n0 U e)));exact⟨q.1,q.2.1⟩
     have aS:∀b∈fp,b≠L.heap.objs.size:=λb U=>Q0c (ak b U);have aT:Inv (gN X own scope cl G.objs.size fp L H2) [] ab H9 s9:=I9.lO λp hp=>(nomatch hp)
     have aU:Inv (gN X own scope cl G.objs.size fp L H2) [] ab H9 { s9 with heap:=ax }:=
      aT.turned (t':=s9.toks) (λb o U e=>ap.extBut b o U e) nD aF (.inr (Q00 _)) (λx c e z=>by
        obtain⟨v,q⟩:=I2.cell x c (ai x c e);exact absurd q.lt (by rw[z];exact Q10 _)) λp hp=>(nomatch hp)
     have aW:Inv (gN X own scope cl G.objs.size fp L H2) [(L.heap.objs.size,iB (us++[yv]) (k+1))] ab H9 { s9 with heap:=ax }:=aU.lO λp hp=>by
      have e:p=(L.heap.objs.size,iB (us++[yv]) (k+1)):=by simpa using hp
      subst e
      refine⟨?_,nD,aF,aQ,λv z=>by
       have z:Data.seq (us++[yv]).toArray (k+1)=Data.cell v:=z
       cases z⟩
      show ax.get? _=some { cls:=.type "list",data:=.seq (us++[yv]).toArray (k+1) };rw[<-List.push_toArray];exact aK
     refine⟨m',hm,i+1,ys++[y],us++[yv],k+1,H9,aW.weak an ao,r4.append (.cons r9 .nil),by rw[Q01,Q1o];exact aN,T.keep _ _ _ ah λb U o e=>ap.extBut b o (aS b U) (aq b U o e).1,λb U=>?_,w9⟩;obtain⟨o,e,d⟩:=T.obj _ _ ah b U;exact(aq b U o e).2
 exact codeAny_compStart_list (am _ rfl) (T.self _ 0 _ _ _ aC (am _ rfl))
theorem kJ {tg iter aa:Expr}{ab:List Expr}{pos:Pos}{wi:TI}{g:TG}{tt:TT}{te:TE}(hc:X.calm=true)(S:iR X own scope)(hi:PI X tg iter wi)
 (hg:∀cl C fp L U,PG (gN X own scope cl C fp L U) tg g) (ht:∀cl C fp L U,oy (gN X own scope cl C fp L U) ab tt)
 (he:∀cl C fp L U,PE (gN X own scope cl C fp L U) aa te) (hs:∀x,foldedSetIterable iter X.env x=pure x:=by intro _;rfl):
 PE X (.ListComp aa [⟨tg,iter,ab,0⟩] scope pos) (z_ own.length wi g tt te):=by
 intro pins s σ H Q I h;obtain⟨cl,Y,ac,ae⟩:=qF (S.cells I);rw[eval_ListComp];refine wpAny_comprehension_free (use:=none) rfl hs Y S.kind S.names ?_;refine dD (hi pins s σ H _ I h) λv s1 h1=>dD h1 λal s2 h2=>?_;obtain⟨it,fp,tn,J,H2,ag,I2,T,ah,f2,W,⟨m0,w0⟩,af⟩:=h2;subst ag;refine Ab (RR:=λai C=>compPost (model X.prog X.w) X.A X.xe none (EP X pins σ Q) ai C) hc S ac ae I2 T ah f2 w0 af hg ht he ?_;intro C D s5 H5 ys us k hC hD aj I5 r5 z5 fin;obtain⟨m5,n5,_⟩:=id I5.loc;refine⟨m5,n5,λh' ak=>?_⟩;obtain⟨I6,nD⟩:=I2.unblock f2 I5 Q05 hC hD aj r5 z5 ak;exact⟨.ref D,_,I6,rfl,fin _ nD⟩
theorem Ac {i:Nat}{y:Str}{py Y:Pos}{tg iter aa:Expr}{ab:List Expr}{pos:Pos}{wi:TI}{g:TG}{tt:TT}{te:TE}(hN:X.N.Nodup)(hy:X.N[i]? =some y)(hL:Loc X.env.scope y)(hc:X.calm=true)(S:iR X own scope)(hi:PI X tg iter wi)
 (hg:∀cl C fp L U,PG (gN X own scope cl C fp L U) tg g) (ht:∀cl C fp L U,oy (gN X own scope cl C fp L U) ab tt)
 (he:∀cl C fp L U,PE (gN X own scope cl C fp L U) aa te) (hf:X.fn y=true\/X.env.scope.names.lookup y=some .local:=by first|exact .inl rfl|exact .inr rfl|assumption)
 (al:swapsWith (.ListComp aa [⟨tg,iter,ab,0⟩] scope pos) (some (.Name y py)) Y.line X.env=pure true:=by rfl) (hs:∀x,foldedSetIterable iter X.env x=pure x:=by intro _;rfl):
 PS X (.Assign [.Name y py] (.ListComp aa [⟨tg,iter,ab,0⟩] scope pos) Y) (nX (z_ own.length wi g tt te) (fU i)):=by
 intro pins s σ H E I h;obtain⟨cl,ac,ah,ai⟩:=qF (S.cells I);rw[exec_Assign_Name_used _ _ _ _ al];refine Q0 (wpAny_standAt (Q0 ?_));show wpAny _ _ (do let _ <-comprehension _ scope X.env _ (newList []) false (eval iter X.env) (some (assign (.Name y py) X.env))) _ _ s
 refine Q0 (dD (wpAny_comprehension_free (use:=some (assign (.Name y py) X.env)) (Q:=λ_ s'=>SP X pins E .next s') rfl hs ac S.kind S.names
  (dD (hi pins s σ H _ I h) λv s1 h1=>dD h1 λar s2 h2=>?_)) λ_ s' hq=>Q08 (Q08 hq))
 obtain⟨it,fp,tn,J,H2,am,I2,T,an,f2,W,⟨m0,w0⟩,aj⟩:=h2;subst am;refine Ab (RR:=λao C=>compPost (model X.prog X.w) X.A X.xe (some (assign (.Name y py) X.env)) (λ_ s'=>SP X pins E .next s') ao C) hc S ah ai I2 T an f2 w0 aj hg ht he ?_;intro C D s5 H5 ys us k hC hD af I5 r5 z5 fin;obtain⟨m5,n5,_⟩:=id I5.loc;obtain⟨I6,nD⟩:=I2.unblock f2 I5 Q05 hC hD af r5 z5 (Heap.SameBut.refl C s5.heap);obtain⟨oC,es,ep,eC,dC,rC⟩:=id n5;have nC:upd H5 D (.lst ys) C=none:=by rw[dg (Ne.symm af)];exact I5.free
 have ag:C≠X.env.locals:=Q0r (Q0g I2.lt hC)
 have ae:∀x c,X.env.cells.lookup x=some c->c≠C:=λx c e z=>by
  obtain⟨v,q⟩:=I2.cell x c e;exact absurd q.lt (by rw[z];exact Nat.not_lt.mpr hC)
 have ak:∀p∈X.pn++pins,p.1≠C:=λp hp z=>by
  have:=Q03 (I2.pin p hp).1;rw[z] at this;exact absurd this (Nat.not_lt.mpr hC)
 have I7:Inv X (pins++[(C,oC)]) σ (upd H5 D (.lst ys)) s5:=by
  refine I6.lO λp hp=>?_;rcases List.mem_append.mp hp with z|z
  . exact I6.pin p (Q09 _ z)
  . have e:p=(C,oC):=by simpa using z
    subst e
    exact⟨eC,nC,ag,I2.mF hC,λv z=>by
     have z:oC.data=Data.cell v:=z;rw[dC] at z;cases z⟩
 show wpAny _ _ (assign (.Name y py) X.env (.ref D)) _ _ s5;refine wpAny_assign_Name (pX (v:=.ref D) I7 hN hy hL rfl (λs8 I8=>?_) hf);obtain⟨ap,au,_⟩:=I8.pin (C,oC) (Q09 _ (Q09 _ Q05));refine⟨_,⟨oC,es,ep,ap,dC,rC⟩,λh' aq=>?_⟩
 have I9:Inv X pins (σ.set i (some (.ref D))) (upd H5 D (.lst ys)) { s8 with heap:=h' }:=
  I8.kF.turned (t':=s8.toks) (λb o hb e=>(aq.2 b hb).trans e) nC ag (.inr (Q07 I2.sz hC)) ae ak
 exact⟨_,_,I9,fin _ nD⟩
end
section
variable {X:Cx}
theorem GB {e:Expr}:PT X e (λ_ _ _=>False):=λ_ _ _ _ _ _ h=>h.elim
theorem eY:jm X (.builtin "isinstance") (λxs H Q=>∃x T t b,xs=[x,.ty T]/\iO X.K H x t/\W.kitOne X.K t (.type T)=some b/\Q (.bl b) H):=by
 intro pins s σ H xs us Q I r h;obtain⟨x,T,t,b,rfl,ty,e,q⟩:=h;obtain⟨u,c,rfl,J,L⟩:=vals2 r
 cases L;exact Fv I J ty e λtk=>⟨.bl b,H,I.tok tk,rfl,q⟩
theorem Ad:∀{ss:List Str}{vs:List Value},Vals (ss.map V.str) vs->StrsAre vs ss
 |[],_,r=>by cases r;exact .nil
 |y::r,_,h=>by
  cases h with
  |cons a b=>
   obtain⟨t,e⟩:=a;subst e;exact .cons y t (Ad b)
theorem Ae:∀{vs:List Value}{ss:List Str},StrsAre vs ss->Vals (ss.map V.str) vs
 |_,_,.nil=>.nil
 |_,_,.cons y t h=>.cons ⟨t,rfl⟩ (Ae h)
theorem GC:jm X (.builtin "sorted") (λxs H Q=>∃a ss,xs=[.ref a]/\dy X.K H a (ss.map V.str)/\ss.length<64/\
 ∀p J,H p=none->J.Perm ss->sortedS J=true->Q (.ref p) (upd H p (.lst (J.map V.str)))):=by
 intro pins s σ H xs us Q I r h;obtain⟨a,ss,rfl,Y,aa,q⟩:=h;obtain⟨u,rfl,ru⟩:=vals1 r
 cases ru;obtain⟨L,U,pl,hz⟩:=I.list Y;have hl:L.length=ss.length:=by rw[<-U.length,Q0b]
 refine sorted_strs pl.isList (Ad U) (by omega) λout J h1 h2 h3=>?_;obtain⟨e,he⟩:=sortedAll_at s.heap L out;refine⟨.ref (s.heap.objs.size+1),upd H (s.heap.objs.size+1) (.lst (J.map V.str)),I.laid (t':=s.toks) (λ_ _=>sortedAll_old) (Q15 _) ?_,rfl,q _ J (I.hok.fresh (Q15 _)) h2 h3⟩;refine⟨?_,out.toList,e,Ae h1,he⟩;rw[Q0b,h2.length_eq];have:ss.length<=1000:=by omega
 exact Q14 (hX this)
noncomputable def l4 (J:List Value) (i:Nat):Bool:=match J[i]? with
 |some (.bool b)=>b
 |_=>false
theorem GD:∀{bs:List Bool}{J:List Value},Vals (bs.map V.bl) J->(List.range J.length).all (l4 J)=bs.all id:=by
 intro bs J r
 have key:∀i,i<bs.length->l4 J i=bs.getD i false:=λi hi=>by
  have e:(bs.map V.bl)[i]? =some (.bl bs[i]):=by rw[Q0o,Q0a hi];rfl
  obtain⟨u,U,Y⟩:=r.get e
  cases Y;unfold l4;rw[U,Q0m,Q0a hi];rfl
 have hl:J.length=bs.length:=by rw[<-r.length,Q0b]
 rw[hl,Bool.eq_iff_iff,Q17,Q17];constructor
 . intro h b hb;obtain⟨i,hi,e⟩:=Q1q hb;have q:=h i (List.mem_range.mpr hi);rw[key i hi,Q0m,Q0a hi,Q2y,e] at q;exact q
 . intro h i hi;have L:=List.mem_range.mp hi;rw[key i L,Q0m,Q0a L,Q2y];exact h _ (Q1r L)
theorem sW (hc:X.calm=true):jm X (.builtin "all") (λxs H Q=>∃(a:Addr) (bs:List Bool),xs=[.ref a]/\dy X.K H a (bs.map V.bl)/\Q (.bl (bs.all id)) H):=by
 intro pins s σ H xs us Q I r h;obtain⟨a,bs,rfl,hq,q⟩:=h;obtain⟨u,rfl,ru⟩:=vals1 r
 cases ru;obtain⟨J,Y,pl,hz⟩:=I.list hq;have aa:a<s.heap.objs.size:=by obtain⟨_,e,_⟩:=pl.isList;exact Q03 e
 refine call_all_walk (wpAny_pyIter_list pl.isList ?_);refine⟨s.heap.objs.size,_,_,_,_,_,l4 J,rfl,Walks.list (show X.A.in1.handled=none from I.ok.hd hc) s.heap.objs.size a (Q0c aa) J.toArray,⟨⟨_,Q0f _ rfl,rfl,rfl⟩,pl.isList.push _⟩,λi v s' Q' E' hP hQ=>?_,λh' tk hk=>?_⟩
 . have e:J[i]? =some v:=by simpa using hP
   have hi:i<J.length:=(List.getElem?_eq_some_iff.mp e).1;have hb:i<(bs.map V.bl).length:=by rw[Y.length];exact hi
   obtain⟨w',ew,L⟩:=Y.get (Q0a hb);rw[e] at ew;cases ew;rw[List.getElem_map] at L
   cases L;refine wpAny_truthy_bool ?_;have U:l4 J i=bs[i]'(by simpa using hb):=by unfold l4;rw[e]
   rw[U] at hQ;exact hQ
 . have e:(List.range J.toArray.size).all (l4 J)=bs.all id:=by rw[Q0e];exact GD Y
   rw[e];have ns:H s.heap.objs.size=none:=I.hok.fresh (Q00 _);refine⟨.bl (bs.all id),H,I.kept (h':=h') (t':=tk) λb o U=>hk b o ?_ (Q04 _ U),rfl,q⟩;intro hm;have:b=s.heap.objs.size:=by simpa using hm
   exact absurd (Q03 U) (by rw[this];exact Q10 _)
noncomputable def Ite (K:W.Frag) (a:Addr):It:=
 ⟨λi H=>∃xs x,dy K H a xs/\xs[i]? =some x,
  λi H x H'=>∃p y,H p=none/\x=.ref p/\(∀xs,dy K H a xs->xs[i]? =some y)/\H'=upd H p (.tup [.int i,y]),
  λi H=>∃xs,dy K H a xs/\xs.length<=i⟩
theorem GF {P:Program}{w:World}{K:W.Frag}{ac:List Expr}{k:Nat}{tpos:Pos}{a e it:Addr}(aa:e≠it):
 Turn P w K (.Tuple ac k tpos) (Ite K a) [e,it] e (λi h=>∃L,IsEnum h e it (i:Int) L/\h.IsListIter it a i) where
 mem:=by simp
 obj:=λi h st b J=>by
  obtain⟨L,h1,h2⟩:=st;have J:b=e\/b=it:=by simpa using J
  rcases J with rfl|rfl
  . exact⟨_,h1,λv z=>by
     have z:Data.fields _=Data.cell v:=z
     cases z⟩
  . obtain⟨o,q,c,d⟩:=h2;exact⟨o,q,λv z=>by rw[d] at z;cases z⟩
 keep:=λi h h' st k=>by
  obtain⟨L,h1,h2⟩:=st;exact⟨L,k e (by simp) _ h1,h2.at λo q=>k it (by simp) o q⟩
 item:=by
  intro X hP hw hK hc i pins s σ H E I hf st hg;subst hP hw hK;obtain⟨L,h1,h2⟩:=st;obtain⟨xs,x,hq,hx⟩:=hg;obtain⟨ae,rv,p,hz⟩:=I.list hq;obtain⟨u,hu,ru⟩:=rv.get hx;obtain⟨e0,e1,e2,e3,e4,e5⟩:=hf e (by simp);obtain⟨f0,f1,f2,f3,f4,f5⟩:=hf it (by simp);have Y:H s.heap.objs.size=none:=I.hok.fresh (Q00 _);refine wpAny_pyNext_enum_item h1 h2 p.isList (x:=u) (by simpa using hu) aa λh' q1 q2 q3 q4 q5=>?_;refine⟨_,rfl,wpAny_letOwnedTupleGo_enum (s:={ s with heap:=h',toks:=s.toks+1 }) q1 λU g1 g2=>?_⟩;have af:∀b o,s.heap.get? b=some o->b≠s.heap.objs.size:=λb o q=>Q0c (Q03 q);have kk:∀b o,b≠e->b≠it->s.heap.get? b=some o->U.get? b=some o:=λb o n1 n2 q=>g2.extBut b o n1 (q5 b o n1 n2 q);have pe:s.heap.objs.size≠e:=Q0r (Q03 h1);have tup:U.get? s.heap.objs.size=some { cls:=.type "tuple",data:=.seq #[.int i s.toks,u] }:=g2.extBut _ _ pe q3
  have I1:Inv X pins σ (upd H s.heap.objs.size (.tup [.int i,x])) { s with heap:=U,toks:=s.toks+1 }:=by
   refine I.step (g':=s.gens) (d':=s.drawn) (ch:=[e,it]) (λb J=>?_) (λb o _ _ hc q _=>?_) (λb o _ _ hc q _=>?_) (λb o _ q n=>?_) (λb o hc q=>?_) (λb ys q=>?_) (λb o v q=>?_) (λb ps q=>?_) (λm hm=>?_) (λb o q=>?_) I.bare
   . have J:b=e\/b=it:=by simpa using J
     rcases J with rfl|rfl
     . exact⟨e3,e1,e4,e5⟩
     . exact⟨f3,f1,f4,f5⟩
   . exact kk b o (λz=>hc (by simp[z])) (λz=>hc (by simp[z])) q
   . exact⟨o.slots,kk b o (λz=>hc (by simp[z])) (λz=>hc (by simp[z])) q⟩
   . rw[dg (af b o q)];exact n
   . exact⟨o,kk b o (λz=>hc (by simp[z])) (λz=>hc (by simp[z])) q⟩
   . rw[dg (dA q Y)];exact q
   . rw[dg (dA q Y)];exact q
   . exact⟨#[],by rw[dg (dA q Y),q];simp⟩
   . obtain⟨o,es,ep,ho,r⟩:=hm;exact⟨o,es,ep,kk _ o (Ne.symm e1) (Ne.symm f1) ho,r⟩
   . by_cases J:b=s.heap.objs.size
     . subst J;rw[dw] at q;cases q;refine⟨wq,[.int i s.toks,u],.cons ⟨_,rfl⟩ (.cons ru .nil),?_⟩;exact⟨_,tup,rfl,_,rfl⟩
     . rw[dg J] at q;refine(I.hok b o q).stay (λc v ab z=>kk c v ?_ ?_ z) (λc z=>by rw[dg (dA z Y)];exact z) λc ys z=>by rw[dg (dA z Y)];exact z
       . rcases ab with z|z
         . rw[z];exact dA q e0
         . exact dA z e0
       . rcases ab with z|z
         . rw[z];exact dA q f0
         . exact dA z f0
  refine⟨.ref s.heap.objs.size,_,I1,rfl,⟨s.heap.objs.size,x,Y,rfl,λys hy=>by rw[I.nW hy hq];exact hx,rfl⟩,⟨u,?_,q2.extBut g2.extBut (Ne.symm aa)⟩,λb J=>?_⟩
  . have ei:((i+1:Nat):Int)=(i:Int)+1:=by omega
    show IsEnum U e it ((i+1:Nat):Int) u;rw[ei];exact g1
  . have ag:b=e\/b=it:=by simpa using J
    have ah:b<s.heap.objs.size:=by
     rcases ag with rfl|rfl
     . exact Q03 h1
     . obtain⟨o,q,_⟩:=h2;exact Q03 q
    rw[dg (Q0c ah)];exact(hf b J).1
 done:=by
  intro X hP hw hK hc i pins s σ H E I hf st hg;subst hP hw hK;obtain⟨L,h1,h2⟩:=st;obtain⟨xs,hq,hx⟩:=hg;obtain⟨ae,rv,p,hz⟩:=I.list hq;obtain⟨f0,f1,f2,f3,f4,f5⟩:=hf it (by simp);have hl:=rv.length;exact wpAny_pyNext_enum_end (I.ok.hd hc) h1 h2 p.isList (by simp;omega) λh' eb=>⟨rfl,I.turned (t':=s.toks) (λb o J q=>eb b o J q) f0 f1 f3 f4 f5⟩
 self:=λA i s Q E st q=>by
  obtain⟨L,h1,_⟩:=st;exact wpAny_pyIter_enum h1 q
def GH (K:W.Frag) (ta:TA):TI:=λσ H R=>ta σ H λvs H1=>∃a,vs=[.ref a]/\(∃xs,dy K H1 a xs)/\R (Ite K a) H1
theorem Af:bootBuiltins "enumerate"=some (.type "enumerate"):=by decide +kernel
theorem sX {a:Expr}{ta:TA}{p pos tpos:Pos}{U:List Expr}{k:Nat}(hg:Gl X "enumerate")(hm:X.mg "enumerate"=none)(ha:PA X [a] ta)(hs:starEach [a] X.env=[(false,eval a X.env)]:=by rfl):
 PI X (.Tuple U k tpos) (.Call (.Name "enumerate" p) [a] [] pos) (GH X.K ta):=by
 intro pins s σ H R I h;refine Call_ (j0 I hg hm Af (PyProof.Rows.callWith_type1 (dD (ha pos pins s σ H _ I h) λus J zq=>?_) hs rfl));obtain⟨vs,H1,Y,r1,q1⟩:=zq;obtain⟨l,e,⟨xs,hq⟩,q⟩:=q1;subst e;obtain⟨u,rfl,ru⟩:=vals1 r1
 cases ru;obtain⟨aa,rv,pl,hz⟩:=Y.list hq;refine call_enumerate_list pl.isList λh' q1 q2 q3 q4=>?_;refine wpAny_pyIter_enum q1 ?_;have I2:Inv X pins σ H1 { J with heap:=h' }:=Y.kept (t':=J.toks) q4;refine⟨J.heap.objs.size+1,[J.heap.objs.size+1,J.heap.objs.size],_,_,H1,rfl,I2,GF (Q0r (Q1a _)),⟨.none,q1,q2⟩,λb L=>?_,q⟩
 have L:J.heap.objs.size<=b:=by
  have L:b=J.heap.objs.size+1\/b=J.heap.objs.size:=by simpa using L
  rcases L with z|z
  . rw[z];exact Q15 _
  . rw[z];exact Q00 _
 exact Y.jI L (Y.hok.fresh L)
theorem boot_zip:bootBuiltins "zip"=some (.type "zip"):=by decide +kernel
theorem qG:f6 X (binaryOp .Mult) (λx y H Q=>∃z i,x=.str z/\y=.int i/\MulOk z i/\Q (.str (Txt.mul z i)) H):=by
 intro pins s σ H x y v u Q I J L h;obtain⟨z,i,rfl,rfl,ok,q⟩:=h;obtain⟨t,rfl⟩:=J;obtain⟨t',rfl⟩:=L;exact SB.mul ok λU k=>⟨.str (Txt.mul z i),H,I.tok k,⟨_,rfl⟩,q⟩
theorem Ag {v:Value}{o:Option Int}(h:IsPart v o):(v=.none/\o=none)\/∃i t,v=.int i t/\o=some i:=by
 cases h with
 |none=>exact .inl ⟨rfl,rfl⟩
 |int i t=>exact .inr ⟨i,t,rfl,rfl⟩
theorem mP:sQ X (λx lo hi H Q=>∃z,x=.str z/\z.length<=sizeLine/\Q (.str (Txt.slice z lo hi)) H):=by
 intro pins s σ H x v vl vu lo hi sl Q I rx hs pl pu h;obtain⟨z,rfl,hz,q⟩:=h;obtain⟨t,rfl⟩:=rx
 have fin:∀{lo hi:Option Int} (q:Q (.str (Txt.slice z lo hi)) H),(Txt.slice z lo hi).length<=sizeLine/\∀t' k,EP X pins σ Q (.str (Txt.slice z lo hi) t') { s with toks:=k }:=
  λq=>⟨Q07 (Txt.slice_le z _ _) hz,λt' k=>⟨.str _,H,I.tok k,⟨t',rfl⟩,q⟩⟩
 refine⟨"str",_,F.slot_str_getitem.lookup,typeIs_str _ _ _,?_⟩;obtain⟨o,J,hc,L⟩:=hs;rcases Ag pl with⟨e1,rfl⟩|⟨i,U,e1,rfl⟩ <;> rcases Ag pu with⟨Y,rfl⟩|⟨j,tj,Y,rfl⟩ <;> subst e1 <;> subst Y
 . exact wpAny_getItem_str_slice (l:=none) (u:=none) (st:=none) ⟨o,J,hc,L⟩ rfl (post_val_or_str (fin q))
 . exact wpAny_getItem_str_slice (l:=none) (u:=some (j,tj)) (st:=none) ⟨o,J,hc,L⟩ rfl (post_val_or_str (fin q))
 . exact wpAny_getItem_str_slice (l:=some (i,U)) (u:=none) (st:=none) ⟨o,J,hc,L⟩ rfl (post_val_or_str (fin q))
 . exact wpAny_getItem_str_slice (l:=some (i,U)) (u:=some (j,tj)) (st:=none) ⟨o,J,hc,L⟩ rfl (post_val_or_str (fin q))
end
theorem yes {σ:St}{H:Hp}{Q:Bool->Hp->Prop}(h:Q true H):ju σ H Q:=h
section
variable {K:W.Frag}{σ:St}{H:Hp}{Q:VK}{D:Ends}
theorem kh {i:Nat}{p:Addr}{xs:List V}{a b:Str}{T U:TS}(h:σ[i]? =some (some (.ref p)))(h2:H p=some (.tup xs))(J:xs[0]? =some (.str a))(L:decide (V.str a=V.str b)=true)(q:T D σ H):
 lP (qt (gL qp (gL (j8 K) (eV i) (tC (.int 0))) (tC (.str b)))) T U D σ H:=
 ⟨_,h,p,xs,0,.str a,rfl,rfl,du.of h2,hV (j:=0) J,rfl,_,rfl,by rw[L];exact dS q⟩
theorem fx {i:Nat}{p:Addr}{xs:List V}{a b:Str}{T U:TS}(h:σ[i]? =some (some (.ref p)))(h2:H p=some (.tup xs))(J:xs[0]? =some (.str a))(L:decide (V.str a=V.str b)=false)(q:U D σ H):
 lP (qt (gL qp (gL (j8 K) (eV i) (tC (.int 0))) (tC (.str b)))) T U D σ H:=
 ⟨_,h,p,xs,0,.str a,rfl,rfl,du.of h2,hV (j:=0) J,rfl,_,rfl,by rw[L];exact dE q⟩
end
end L2
namespace L2
noncomputable def sY (own N:List Str) (scope sc:Scope):Bool:=
 scope.names.all (λy=>decide (y.2≠ .cell)) && scope.names.all (λy=>decide (y.2=.local->scope.names.lookup y.1=some .local)) &&
 scope.names.all (λy=>decide (y.2=.free->sc.names.lookup y.1=some .cell\/sc.names.lookup y.1=some .free)) && decide (own++N).Nodup && N.all λx=>decide (scope.names.lookup x≠some .local)
theorem iR.of {X:Cx}{own N:List Str}{scope sc:Scope}(J:X.env.scope=sc)(L:X.N=N)(k:scope.kind=.function)(c:sY own N scope sc=true):iR X own scope:=by
 unfold sY at c;simp only[Bool.and_eq_true,Q17,decide_eq_true_eq] at c;obtain⟨⟨⟨⟨U,Y⟩,c3⟩,c4⟩,c5⟩:=c;exact⟨k,U,Y,λy hy hf=>by rw[show X.env.kindOf y.1=X.env.scope.names.lookup y.1 from rfl,J];exact c3 y hy hf,by rw[L];exact c4,by rw[L];exact c5⟩
end L2
namespace kK
open W PyProof.Rows
noncomputable def d6 {α:Type}(f:Nat->Nat->Bool):KasT α->α
 | .ret a=>a
 | .ask i j k=>d6 f (k (f i j))
theorem mQ {α J:Type}(f:Nat->Nat->Bool)(g:α->KasT J):∀t:KasT α,d6 f (t.bind g)=d6 f (g (d6 f t))
 | .ret _=>rfl
 | .ask i j k=>mQ f g (k (f i j))
def Bn {α:Type}(n:Nat) (R:α->Prop):KasT α->Prop
 | .ret a=>R a
 | .ask i j k=>i<n/\j<n/\∀b,Bn n R (k b)
theorem Bn.bind {α J:Type}{n:Nat}{R:α->Prop}{S:J->Prop}{g:α->KasT J}:∀{t:KasT α},Bn n R t->(∀a,R a->Bn n S (g a))->Bn n S (t.bind g)
 | .ret a,h,k=>k a h
 | .ask i j q,h,k=>⟨h.1,h.2.1,λb=>Bn.bind (h.2.2 b) k⟩
theorem Ah {α:Type}{n:Nat}{R:α->Prop}{f:Nat->Nat->Bool}{J:Nat->Nat->(Bool->Shared->Prop)->Shared->Prop}{Q:α->Shared->Prop}{s:Shared}
 (h:∀i j (C:Bool->Shared->Prop),i<n->j<n->C (f i j) s->J i j C s):∀{t:KasT α},Bn n R t->Q (d6 f t) s->t.kasWp J Q s
 | .ret a,_,q=>q
 | .ask i j k,b,q=>h i j _ b.1 b.2.1 (Ah h (b.2.2 (f i j)) q)
def Lt (n:Nat) (p:Array Nat):Prop:=0<n/\∀x∈p,x<n
theorem Lt.at {n:Nat}{p:Array Nat}(h:Lt n p)(i:Nat):p.getD i 0<n:=by
 rw[Q1s]
 cases e:p[i]? with
 |none=>exact h.1
 |some x=>exact h.2 x (Array.mem_of_getElem? e)
theorem Lt.perm {n:Nat}{p q:Array Nat}(h:Lt n p)(hp:q.Perm p):Lt n q:=⟨h.1,λx J=>h.2 x (hp.mem_iff.mp J)⟩
theorem kL (p:Array Nat)(i j:Nat):(kas_rev p i j).Perm p:=mirror_perm _ _ _ _
theorem GI (p:Array Nat)(i j:Nat):(kas_rev p i j).size=p.size:=mirror_size _ _ _ _
theorem sZ {n:Nat}{p:Array Nat}(h:Lt n p):∀f m,Bn n (λ_=>True) (kas_asc p f m)
 |0,_=>trivial
 |f+1,m=>⟨h.at _,h.at _,λb=>by
   cases b with
   |true=>exact trivial
   |false=>exact sZ h f (m+1)⟩
theorem qH {n:Nat}:∀f (p:Array Nat) m q,Lt n p->Bn n (λr:Array Nat × Nat × Nat=>Lt n r.1) (kas_desc f p m q)
 |0,_,_,_,h=>h
 |f+1,p,m,q,h=>⟨h.at _,h.at _,λb=>by
   cases b with
   |true=>
    show Bn n _ (if q > 0 then kas_desc f (kas_rev p (m - (q+1)) m) (m+1) 0 else kas_desc f p (m+1) 0);split
    . exact qH f _ _ _ (h.perm (kL _ _ _))
    . exact qH f _ _ _ h
   |false=>
    refine⟨h.at _,h.at _,λd=>?_⟩
    cases d with
    |true=>exact h
    |false=>exact qH f _ _ _ h⟩
theorem Ai {n m r:Nat}{p:Array Nat}(h:Lt n p):Bn n (λq:Nat × Array Nat=>Lt n q.2) (kas_tail3 m r p):=
 (sZ (h.perm (kL _ _ _)) _ _).bind λ_ _=>h.perm (kL _ _ _)
theorem Aj {n m r:Nat}{p:Array Nat}(h:Lt n p):Bn n (λq:Nat × Array Nat=>Lt n q.2) (kas_descPart m r p):=by
 refine(qH _ _ _ _ h).bind λa J=>?_;split
 . exact Ai (J.perm (kL _ _ _))
 . exact Ai J
theorem GJ {n r:Nat}{p:Array Nat}(h:Lt n p):Bn n (λq:Nat × Array Nat=>Lt n q.2) (kas_count r p):=by
 refine(sZ h _ _).bind λa _=>?_;split
 . exact h
 split
 . refine⟨h.at _,h.at _,λb=>?_⟩
   cases b with
   |true=>exact h
   |false=>exact Aj (h.perm (kL _ _ _))
 . exact Aj h
theorem s_ {n k:Nat}{p:Array Nat}(h:Lt n p):∀f l r,Bn n (λ_=>True) (kas_place p k f l r)
 |0,_,_=>trivial
 |f+1,l,r=>by
  unfold kas_place;split
  . exact trivial
  . refine⟨h.at _,h.at _,λb=>?_⟩
    cases b with
    |true=>exact s_ h f _ _
    |false=>exact s_ h f _ _
theorem Ak {n:Nat}:∀f (p:Array Nat) k,Lt n p->Bn n (λ_=>True) (kas_bin f p k)
 |0,_,_,_=>trivial
 |f+1,p,k,h=>(s_ h _ _ _).bind λl _=>Ak f _ _ (h.perm (bubble_perm _ _ _))
theorem GK {n:Nat}(J:0<n):Bn n (λ_=>True) (kas_sort n):=by
 have h:Lt n (List.toArray (List.range n)):=⟨J,λx L=>by simpa using L⟩;refine(GJ h).bind λr U=>?_;split
 . exact Ak _ _ _ U
 . exact trivial
section
variable {O:KeyOrd}(key:Nat->O.α)
noncomputable def eE:Nat->Nat->Bool:=λi j=>O.blt (key i) (key j)
noncomputable def Kp (p:Array Nat) (i:Nat):O.α:=key (p.getD i 0)
def iS (p:Array Nat) (k:Nat):Prop:=∀i j,i<=j->j<k->O.kle (Kp key p i) (Kp key p j)
def jv (p:Array Nat) (k:Nat):Prop:=∀i j,i<=j->j<k->O.kle (Kp key p j) (Kp key p i)
variable {key}
theorem iS.succ {p:Array Nat}{n:Nat}(h:iS key p n)(h1:1<=n)(e:O.kle (Kp key p (n - 1)) (Kp key p n)):iS key p (n+1):=by
 intro i j J U;by_cases L:j<n
 . exact h i j J L
 . have:j=n:=by omega
   subst this;by_cases hi:i=j
   . subst hi;exact KeyOrd.kle_refl _
   . exact KeyOrd.kle_trans (h i (j - 1) (by omega) (by omega)) e
theorem jv.succ {p:Array Nat}{n:Nat}(h:jv key p n)(h1:1<=n)(e:O.kle (Kp key p n) (Kp key p (n - 1))):jv key p (n+1):=by
 intro i j J U;by_cases L:j<n
 . exact h i j J L
 . have:j=n:=by omega
   subst this;by_cases hi:i=j
   . subst hi;exact KeyOrd.kle_refl _
   . exact KeyOrd.kle_trans e (h i (j - 1) (by omega) (by omega))
theorem oz {p q:Array Nat}{i j:Nat}(h:p[i]? =q[j]?):Kp key p i=Kp key q j:=by
 unfold Kp;rw[Q1s,Q1s,h]
theorem tm {p:Array Nat}{i j:Nat}(J:j<=p.size)(k:Nat):Kp key (kas_rev p i j) k=if i<=k/\k<j then Kp key p (i+j - 1 - k) else Kp key p k:=by
 have e:=getElem?_mirror_all (i:=i) J k;by_cases h1:i<=k/\k<j
 . rw[if_pos h1] at e ⊢;exact oz e
 . rw[if_neg h1] at e ⊢;exact oz e
theorem tz {p:Array Nat}{i j:Nat}(L:j<=p.size)(J:∀k,i<=k->k<j->Kp key p k=Kp key p (j - 1))(k:Nat):Kp key (kas_rev p i j) k=Kp key p k:=by
 rw[tm L];split
 . rw[J _ (by omega) (by omega),J k (by omega) (by omega)]
 . rfl
theorem GL {p:Array Nat}{src d:Nat}(J:src<p.size)(L:d<=src)(k:Nat):
 Kp key (bubble p src d) k=if k=src - d then Kp key p src else if src - d<k/\k<=src then Kp key p (k - 1) else Kp key p k:=by
 have e:=getElem?_bubble J d L k;by_cases h1:k=src - d
 . rw[if_pos h1] at e ⊢;exact oz e
 . rw[if_neg h1] at e ⊢;by_cases h2:src - d<k/\k<=src
   . rw[if_pos h2] at e ⊢;exact oz e
   . rw[if_neg h2] at e ⊢;exact oz e
theorem jv.congr {p q:Array Nat}{n:Nat}(h:jv key p n)(e:∀k,Kp key q k=Kp key p k):jv key q n:=λi j a b=>by
 rw[e,e];exact h i j a b
theorem tD {p:Array Nat}:∀f n,1<=n->iS key p n->n<=d6 (eE key) (kas_asc p f n)/\d6 (eE key) (kas_asc p f n)<=n+f/\iS key p (d6 (eE key) (kas_asc p f n))/\
 (d6 (eE key) (kas_asc p f n)<n+f->O.klt (Kp key p (d6 (eE key) (kas_asc p f n))) (Kp key p (d6 (eE key) (kas_asc p f n) - 1)))
 |0,n,_,h=>⟨Q00 _,Q00 _,h,λz=>absurd z (Q10 _)⟩
 |f+1,n,h1,h=>by
  have e:d6 (eE key) (kas_asc p (f+1) n)=d6 (eE key) (if O.blt (Kp key p n) (Kp key p (n - 1))=true then .ret n else kas_asc p f (n+1)):=rfl;rw[e]
  cases c:O.blt (Kp key p n) (Kp key p (n - 1)) with
  |true=>
   rw[if_pos rfl];exact⟨Q00 _,Q11 _ _,h,λ_=>c⟩
  |false=>
   rw[if_neg (by simp)];obtain⟨U,Y,J,L⟩:=tD f (n+1) (by omega) (h.succ h1 c);exact⟨by omega,by omega,J,λz=>L (by omega)⟩
structure DI (O:KeyOrd) (key:Nat->O.α) (p₀:Array Nat) (p:Array Nat) (n q:Nat):Prop where
 perm:p.Perm p₀
 non:jv key p n
 one:q+1<=n
 size:n<=p.size
 eq:∀k,n - (q+1)<=k->k<n->Kp key p k=Kp key p (n - 1)
theorem qI {J:Array Nat}:∀f (p:Array Nat) n q,DI O key J p n q->n+f<=J.size->
 ∃L n' U,d6 (eE key) (kas_desc f p n q)=(L,n',U)/\DI O key J L n' U/\n'<=n+f
 |0,p,n,q,d,_=>⟨p,n,q,rfl,d,Q00 _⟩
 |f+1,p,n,q,d,hs=>by
  have hsz:p.size=J.size:=d.perm.size_eq
  have e:d6 (eE key) (kas_desc (f+1) p n q)=d6 (eE key) (if O.blt (Kp key p n) (Kp key p (n - 1))=true then(if q > 0 then kas_desc f (kas_rev p (n - (q+1)) n) (n+1) 0 else kas_desc f p (n+1) 0)
   else .ask (p.getD (n - 1) 0) (p.getD n 0) λd=>if d=true then .ret (p,n,q) else kas_desc f p (n+1) (q+1)):=rfl
  rw[e];have one:=d.one
  cases c:O.blt (Kp key p n) (Kp key p (n - 1)) with
  |true=>
   rw[if_pos rfl];have cl:O.kle (Kp key p n) (Kp key p (n - 1)):=KeyOrd.kle_of_klt c;by_cases hq:q > 0
   . rw[if_pos hq];have ek:∀k,Kp key (kas_rev p (n - (q+1)) n) k=Kp key p k:=tz d.size d.eq
     have d':DI O key J (kas_rev p (n - (q+1)) n) (n+1) 0:=⟨(kL _ _ _).trans d.perm,(d.non.succ (by omega) cl).congr ek,by omega,by rw[GI];omega,λk h1 h2=>by
      have:k=n:=by omega
      subst this;rfl⟩
     obtain⟨L,n',U,Y,r2,r3⟩:=qI f _ _ _ d' (by omega);exact⟨L,n',U,Y,r2,by omega⟩
   . rw[if_neg hq]
     have d':DI O key J p (n+1) 0:=⟨d.perm,d.non.succ (by omega) cl,by omega,by omega,λk h1 h2=>by
      have:k=n:=by omega
      subst this;rfl⟩
     obtain⟨L,n',U,Y,r2,r3⟩:=qI f _ _ _ d' (by omega);exact⟨L,n',U,Y,r2,by omega⟩
  |false=>
   rw[if_neg (by simp)];have e2:d6 (eE key) (.ask (p.getD (n - 1) 0) (p.getD n 0) λd=>if d=true then .ret (p,n,q) else kas_desc f p (n+1) (q+1))=d6 (eE key) (if O.blt (Kp key p (n - 1)) (Kp key p n)=true then .ret (p,n,q) else kas_desc f p (n+1) (q+1)):=rfl;rw[e2]
   cases c2:O.blt (Kp key p (n - 1)) (Kp key p n) with
   |true=>
    rw[if_pos rfl];exact⟨p,n,q,rfl,d,by omega⟩
   |false=>
    rw[if_neg (by simp)];have ee:Kp key p n=Kp key p (n - 1):=O.total _ _ c c2
    have d':DI O key J p (n+1) (q+1):=⟨d.perm,d.non.succ (by omega) (by rw[ee];exact KeyOrd.kle_refl _),by omega,by omega,λk h1 h2=>by
     show Kp key p k=Kp key p n;by_cases hk:k=n
     . rw[hk]
     . rw[ee];exact d.eq k (by omega) (by omega)⟩
    obtain⟨L,n',U,Y,r2,r3⟩:=qI f _ _ _ d' (by omega);exact⟨L,n',U,Y,r2,by omega⟩
def oA (O:KeyOrd) (key:Nat->O.α) (J:Array Nat) (nrem:Nat) (r:Nat × Array Nat):Prop:=r.2.Perm J/\1<=r.1/\r.1<=nrem/\iS key r.2 r.1
theorem Al {J p:Array Nat}{n nrem:Nat}(hp:p.Perm J)(h1:1<=n)(hn:n<=nrem)(hs:nrem<=J.size)(h:jv key p n):oA O key J nrem (d6 (eE key) (kas_tail3 n nrem p)):=by
 have hsz:p.size=J.size:=hp.size_eq;unfold kas_tail3;rw[mQ]
 have L:iS key (kas_rev p 0 n) n:=λi j Y hj=>by
  rw[tm (by omega),tm (by omega),if_pos (by omega),if_pos (by omega)];exact h _ _ (by omega) (by omega)
 obtain⟨a1,a2,U,_⟩:=tD (key:=key) (p:=kas_rev p 0 n) (nrem - n) n h1 L;exact⟨(kL _ _ _).trans hp,by show 1<=d6 _ _;omega,by show d6 _ _<=nrem;omega,U⟩
theorem Am {J p:Array Nat}{n nrem:Nat}(hp:p.Perm J)(h1:1<=n)(hn:n+1<=nrem)(hs:nrem<=J.size)(h:jv key p (n+1)):oA O key J nrem (d6 (eE key) (kas_descPart n nrem p)):=by
 have hsz:p.size=J.size:=hp.size_eq;unfold kas_descPart;rw[mQ]
 have d:DI O key J p (n+1) 0:=⟨hp,h,by omega,by omega,λk h1 h2=>by
  have:k=n:=by omega
  subst this;rfl⟩
 obtain⟨U,n',Y,r1,L,r3⟩:=qI (key:=key) (nrem - (n+1)) p (n+1) 0 d (by omega);rw[r1];have o:=L.one;have sz:=L.size;have aa:U.size=J.size:=L.perm.size_eq;by_cases hq:Y > 0
 . show oA O key J nrem (d6 (eE key) (if Y > 0 then kas_tail3 n' nrem (kas_rev U (n' - (Y+1)) n') else kas_tail3 n' nrem U));rw[if_pos hq];exact Al ((kL _ _ _).trans L.perm) (by omega) (by omega) hs (L.non.congr (tz L.size L.eq))
 . show oA O key J nrem (d6 (eE key) (if Y > 0 then kas_tail3 n' nrem (kas_rev U (n' - (Y+1)) n') else kas_tail3 n' nrem U));rw[if_neg hq];exact Al L.perm (by omega) (by omega) hs L.non
theorem GN {p:Array Nat}{nrem:Nat}(h1:1<=nrem)(hs:nrem<=p.size):oA O key p nrem (d6 (eE key) (kas_count nrem p)):=by
 unfold kas_count;rw[mQ]
 obtain⟨J,a2,U,a4⟩:=tD (key:=key) (p:=p) (nrem - 1) 1 (Q00 _) (λi j L hj=>by
  have e1:i=0:=by omega
  have Y:j=0:=by omega
  subst e1;subst Y;exact KeyOrd.kle_refl _)
 generalize d6 (eE key) (kas_asc p (nrem - 1) 1)=n at *;by_cases hn:n=nrem
 . rw[if_pos (by simpa using hn)];exact⟨Array.Perm.refl _,J,by show n<=nrem;omega,U⟩
 . rw[if_neg (by simpa using hn)];have cl:O.klt (Kp key p n) (Kp key p (n - 1)):=a4 (by omega);by_cases hg:n > 1
   . rw[if_pos hg]
     have e:d6 (eE key) (.ask (p.getD 0 0) (p.getD (n - 1) 0) λc=>if c=true then .ret (n,p) else kas_descPart n nrem (kas_rev p 0 n))=
      d6 (eE key) (if O.blt (Kp key p 0) (Kp key p (n - 1))=true then .ret (n,p) else kas_descPart n nrem (kas_rev p 0 n)):=rfl
     rw[e]
     cases c:O.blt (Kp key p 0) (Kp key p (n - 1)) with
     |true=>
      rw[if_pos rfl];exact⟨Array.Perm.refl _,J,by show n<=nrem;omega,U⟩
     |false=>
      rw[if_neg (by simp)]
      have all:∀k,0<=k->k<n->Kp key p k=Kp key p (n - 1):=λk _ hk=>by
       have c':O.kle (Kp key p (n - 1)) (Kp key p 0):=c;exact KeyOrd.kle_antisymm (U k (n - 1) (by omega) (by omega)) (KeyOrd.kle_trans c' (U 0 k (by omega) hk))
      have ek:∀k,Kp key (kas_rev p 0 n) k=Kp key p k:=tz (by omega) all;refine Am (kL _ _ _) J (by omega) hs (jv.congr (jv.succ (n:=n) (λi j L hj=>?_) J (KeyOrd.kle_of_klt cl)) ek);rw[all i (by omega) (by omega),all j (by omega) (by omega)];exact KeyOrd.kle_refl _
   . rw[if_neg hg];have:n=1:=by omega
     subst this;refine Am (Array.Perm.refl _) J (by omega) hs (jv.succ (n:=1) (λi j L hj=>?_) J (KeyOrd.kle_of_klt cl));have e1:i=0:=by omega
     have Y:j=0:=by omega
     subst e1;subst Y;exact KeyOrd.kle_refl _
theorem tE {p:Array Nat}{k:Nat}(h:iS key p k):∀f l r,l<=r->r<=k->r - l<=f->(∀i,i<l->O.kle (Kp key p i) (Kp key p k))->(∀i,r<=i->i<k->O.klt (Kp key p k) (Kp key p i))->
 ∃m,d6 (eE key) (kas_place p k f l r)=m/\m<=k/\(∀i,i<m->O.kle (Kp key p i) (Kp key p k))/\(∀i,m<=i->i<k->O.klt (Kp key p k) (Kp key p i))
 |0,l,r,h1,h2,Y,J,L=>⟨l,rfl,by omega,J,λi a b=>L i (by omega) b⟩
 |f+1,l,r,h1,h2,Y,J,L=>by
  by_cases U:l ≥ r
  . refine⟨l,?_,by omega,J,λi a b=>L i (by omega) b⟩;unfold kas_place;rw[if_pos U];rfl
  . have e:d6 (eE key) (kas_place p k (f+1) l r)=d6 (eE key) (if O.blt (Kp key p k) (Kp key p ((l+r) / 2))=true then kas_place p k f l ((l+r) / 2) else kas_place p k f ((l+r) / 2+1) r):=by
     show d6 (eE key) (if l ≥ r then .ret l else _)=_;rw[if_neg U];rfl
    rw[e]
    cases c:O.blt (Kp key p k) (Kp key p ((l+r) / 2)) with
    |true=>
     rw[if_pos rfl];exact tE h f _ _ (by omega) (by omega) (by omega) J λi a b=>KeyOrd.klt_of_klt_of_kle (show O.klt _ _ from c) (h _ _ a b)
    |false=>
     rw[if_neg (by simp)];exact tE h f _ _ (by omega) h2 (by omega) (λi a=>KeyOrd.kle_trans (h i ((l+r) / 2) (by omega) (by omega)) (show O.kle _ _ from c)) L
theorem An:∀f (p:Array Nat) k,iS key p k->k+f<=p.size->(d6 (eE key) (kas_bin f p k)).Perm p/\iS key (d6 (eE key) (kas_bin f p k)) (k+f)
 |0,p,k,h,_=>⟨Array.Perm.refl _,h⟩
 |f+1,p,k,h,hs=>by
  have e:d6 (eE key) (kas_bin (f+1) p k)=d6 (eE key) (kas_bin f (bubble p k (k - d6 (eE key) (kas_place p k k 0 k))) (k+1)):=by
   show d6 (eE key) ((kas_place p k k 0 k).bind λl=>kas_bin f (bubble p k (k - l)) (k+1))=_;rw[mQ]
  rw[e];obtain⟨m,em,m1,m2,m3⟩:=tE h k 0 k (Q06 _) (Q00 _) (Q00 _) (λi z=>absurd z (Q1w _)) (λi a b=>absurd a (by omega));rw[em];have kb:=λi=>GL (key:=key) (p:=p) (src:=k) (d:=k - m) (by omega) (by omega) i;have hm:k - (k - m)=m:=by omega
  rw[hm] at kb
  have hS:iS key (bubble p k (k - m)) (k+1):=by
   intro i j L hj;rw[kb i,kb j];by_cases U:i=m
   . rw[if_pos U];by_cases J:j=m
     . rw[if_pos J];exact KeyOrd.kle_refl _
     . rw[if_neg J,if_pos (by omega)];exact KeyOrd.kle_of_klt (m3 _ (by omega) (by omega))
   . rw[if_neg U];by_cases Y:m<i/\i<=k
     . rw[if_pos Y,if_neg (by omega),if_pos (by omega)];exact h _ _ (by omega) (by omega)
     . rw[if_neg Y];by_cases J:j=m
       . rw[if_pos J];exact m2 i (by omega)
       . rw[if_neg J];by_cases lj:m<j/\j<=k
         . rw[if_pos lj];exact h _ _ (by omega) (by omega)
         . rw[if_neg lj];exact h _ _ L (by omega)
  obtain⟨b1,b2⟩:=An f (bubble p k (k - m)) (k+1) hS (by rw[bubble_size];omega);exact⟨b1.trans (bubble_perm _ _ _),by rw[show k+(f+1)=k+1+f by omega];exact b2⟩
theorem GO {n:Nat}(hn:1<=n):(d6 (eE key) (kas_sort n)).toList.Perm (List.range n)/\((d6 (eE key) (kas_sort n)).toList.map key).Pairwise O.kle:=by
 have hz:(List.toArray (List.range n)).size=n:=by simp
 obtain⟨J,c2,c3,c4⟩:=GN (key:=key) (p:=List.toArray (List.range n)) (nrem:=n) hn (by omega)
 have main:(d6 (eE key) (kas_sort n)).Perm (List.toArray (List.range n))/\iS key (d6 (eE key) (kas_sort n)) n:=by
  unfold kas_sort;rw[mQ];generalize d6 (eE key) (kas_count n (List.toArray (List.range n)))=r at *;obtain⟨m,p⟩:=r;have hsz:p.size=n:=by rw[J.size_eq,hz]
  by_cases hm:m<n
  . show(d6 (eE key) (if m<n then kas_bin (n - max m 1) p (max m 1) else .ret p)).Perm _/\iS key (d6 (eE key) (if m<n then kas_bin (n - max m 1) p (max m 1) else .ret p)) n;rw[if_pos hm];have c2:1<=m:=c2;have em:max m 1=m:=by omega
    rw[em];obtain⟨b1,b2⟩:=An (key:=key) (n - m) p m c4 (by omega);exact⟨b1.trans J,by rw[show n=m+(n - m) by omega];rw[show m+(n - m) - m=n - m by omega];exact b2⟩
  . show(d6 (eE key) (if m<n then kas_bin (n - max m 1) p (max m 1) else .ret p)).Perm _/\iS key (d6 (eE key) (if m<n then kas_bin (n - max m 1) p (max m 1) else .ret p)) n;rw[if_neg hm];have c3:m<=n:=c3;have:m=n:=by omega
    subst this;exact⟨J,c4⟩
 refine⟨Array.perm_iff_toList_perm.mp main.1,?_⟩;have hsz:(d6 (eE key) (kas_sort n)).size=n:=by rw[main.1.size_eq,hz]
 rw[Q2z,List.pairwise_iff_getElem];intro i j hi hj L;have U:i<(d6 (eE key) (kas_sort n)).size:=by simpa using hi
 have Y:j<(d6 (eE key) (kas_sort n)).size:=by simpa using hj
 have q:=main.2 i j (Q14 L) (by omega);unfold Kp at q;rw[Q1s,Q1s,Q3 U,Q3 Y] at q;simpa using q
end
end kK
namespace L2
open Spec PyProof.Rows
def lg (c':Addr) (qual:Str):Heap->Prop:=λh=>h.CodeRec (.ref c') qual
def gO (P:Addr) (pos:Pos) (qual:Str) (c':Addr) (H:Hp):Prop:=H P=some (.fm #[rawInt pos.line,rawInt pos.col,.ref c'])/\H c'=some (.ext (lg c' qual))
def d_ (P:Addr) (pos:Pos) (qual:Str) (H:Hp):Prop:=H P=some (.fm #[])\/∃c',gO P pos qual c' H
theorem gO.mono {P:Addr}{pos:Pos}{qual:Str}{c':Addr}{H H':Hp}(h:gO P pos qual c' H)(k:∀b o,(b=P\/b=c')->H b=some o->H' b=some o):gO P pos qual c' H':=⟨k _ _ (.inl rfl) h.1,k _ _ (.inr rfl) h.2⟩
def BM (mg:Str->Option Value) (base:Heap):Prop:=
 ∃J o,mg "__builtins__"=some (.ref J)/\J≠builtinsNs/\J≠mainGlobals/\base.get? J=some o/\o.cls=.type "module"/\o.dict=some builtinsNs/\o.data=.plain
def GP (P:Addr) (pos:Pos) (qual:Str) (ps:Array Value) (H:Hp):Prop:=H P=some (.fm ps)/\TriplesOk ps.toList/\(codeAmong pos ps.toList=none\/∃c',codeAmong pos ps.toList=some (.ref c')/\H c'=some (.ext (lg c' qual)))
def GQ (P:Addr) (pos:Pos) (qual:Str) (ps:Array Value) (c':Addr) (H:Hp):Prop:=((codeAmong pos ps.toList=none/\H P=some (.fm (ps++#[rawInt pos.line,rawInt pos.col,.ref c'])))\/(codeAmong pos ps.toList=some (.ref c')/\H P=some (.fm ps)))/\H c'=some (.ext (lg c' qual))
section
variable {X:Cx}{pins:List (Addr × Obj)}{σ:St}{H:Hp}{s:Shared}
theorem Inv.Ao (I:Inv X pins σ H s){P b:Addr}{o:HO}{u:Obj}(e:H P=some o)(J:X.base.get? b=some u):b≠P:=λz=>by
 have:=(I.bs b u J).2;rw[z,e] at this;cases this
theorem Inv.Ap (I:Inv X pins σ H s)(B:BM X.mg X.base){P:Addr}{o:HO}(e:H P=some o):s.heap.BuiltinsAt X.mg P:=by
 obtain⟨J,L,Y,b2,b3,U,b5⟩:=B;exact⟨J,L,Y,b2,b3,I.Ao e U,(I.bs J L U).1,b5⟩
theorem Inv.adopt {b:Addr}{o:HO}{h':Heap}{t':Nat}(I:Inv X pins σ H s)(f:gU X pins H b)(k:∀c u,c≠b->s.heap.get? c=some u->h'.get? c=some u)(new:fQ X.prog X.w (upd H b o) h' b o):
 Inv X pins σ (upd H b o) { s with heap:=h',toks:=t' }:=by
 obtain⟨Y,U,f2,f3,f4,f5⟩:=f;have J:∀c u,H c=some u->c≠b:=λc u e=>dA e Y
 refine I.step (g':=s.gens) (d':=s.drawn) (ch:=[b]) (λc hc=>?_) (λc u _ _ hc e _=>k c u (λz=>hc (by simp[z])) e) (λc u _ _ hc e _=>⟨u.slots,k c u (λz=>hc (by simp[z])) e⟩) (λc u hc e n=>?_)
  (λc u hc e=>⟨u,k c u (λz=>hc (by simp[z])) e⟩) (λc xs e=>?_) (λc L u e=>?_) (λc ps e=>⟨#[],?_⟩) (λm hm=>?_) (λc u e=>?_) I.bare
 . have e:c=b:=by simpa using hc
   subst e;exact⟨f3,U,f4,f5⟩
 . rw[dg (λz=>hc (by simp[z]))];exact n
 . rw[dg (J _ _ e)];exact e
 . rw[dg (J _ _ e)];exact e
 . rw[dg (J _ _ e),e];simp
 . obtain⟨L,es,ep,ho,r⟩:=hm;exact⟨L,es,ep,k _ L (Ne.symm U) ho,r⟩
 . by_cases hc:c=b
   . subst hc;rw[dw] at e;cases e;exact new
   . rw[dg hc] at e;refine(I.hok c u e).stay (λd v hd q=>k d v ?_ q) (λd q=>by rw[dg (J _ _ q)];exact q) λd xs q=>by rw[dg (J _ _ q)];exact q
     rcases hd with z|z
     . rw[z];exact hc
     . exact J _ _ z
theorem Inv.own {b:Addr}{h':Heap}{t':Nat}(I:Inv X pins σ H s)(f:gU X pins H b)(J:Heap.SameBut b s.heap h'):Inv X pins σ H { s with heap:=h',toks:=t' }:=
 I.turned (t':=t') (λc u hc e=>(J.2 c hc).trans e) f.1 f.2.1 f.2.2.2.1 f.2.2.2.2.1 f.2.2.2.2.2
theorem qJ {jL:Array Value}{name qual:Str}{L:Arguments}{body:Expr}{scope:Scope}{pos:Pos}{U:Nat}{cl:List (Str × Addr)}{c P:Addr}{Q:Value->Shared->Prop}{E:Value->Shared->Prop}(I:Inv X pins σ H s)(aa:X.env.code=.ref c)(C:W.CodeHd X.base c P)
 (B:BM X.mg X.base) (T:GP P pos qual jL H) (ac:closureFor scope X.env=pure cl)
 (h:∀(f c':Addr) (pm Y:Value) (H':Hp) (s':Shared),Inv X (pins++[(f,W.kla_obj name qual L body scope cl pm c' Y)]) σ H' s'->GQ P pos qual jL c' H'->(∀b o,b≠P->H b=some o->H' b=some o)->Q (.ref f) s'):
 wpAny (model X.prog X.w) X.A (makeFunction name qual L (.expr body) scope X.env [] [] [] pos U) Q E s:=by
 have hg:s.heap.Ns mainGlobals X.mg:=I.mod.glob.keeps I.bk;have C':=C.keeps I.bk
 have ae:∀{H':Hp} {s':Shared} {f:Addr} {o:Obj},Inv X pins σ H' s'->s'.heap.get? f=some o->H' f=none->s.heap.objs.size<=f->(∀v,o.data≠ .cell v)->Inv X (pins++[(f,o)]) σ H' s':=λ{H' s' f o} J e n hz d=>
  J.lO λp hp=>(List.mem_append.mp hp).elim (λz=>J.pin p (Q09 _ z)) λz=>by
    have:p=(f,o):=by simpa using z
    subst this;exact⟨e,n,Q0r (Q0g I.lt hz),I.mF hz,d⟩
 obtain⟨e,af,ag|⟨c',e1,e2⟩⟩:=T
 . have hP:s.heap.get? P=some (W.tabObj jL):=I.hok P _ e;have ah:P<s.heap.objs.size:=Q03 hP
   have am:mainGlobals≠P:=by
    obtain⟨o,es,ep,eo,_⟩:=I.mod.glob;exact I.Ao e eo
   refine W.kla_makeFunction (mg:=X.mg) ac I.ok.glob hg aa C' hP af ag am (I.Ap B e) λc' Y h' tk hx ab ai al aj=>?_;have ak:c'≠P:=Q0r (Q0g ah ab);have an:H c'=none:=I.hok.fresh ab
   have nP:∀b u,H b=some u->u≠ .fm jL->b≠P:=λb u q d z=>by
    rw[z,e] at q;exact d (Option.some.inj q).symm
   have nC:∀b u,H b=some u->b≠c':=λb u q=>dA q an;have kk:∀(ob:Obj) b u,b≠P->s.heap.get? b=some u->(h'.push ob).get? b=some u:=λob b u hb q=>Q04 _ (hx b u hb q)
   have I1:Inv X pins σ (upd (upd H P (.fm (jL++#[rawInt pos.line,rawInt pos.col,.ref c']))) c' (.ext (lg c' qual))) { s with heap:=h'.push (W.kla_obj name qual L body scope cl ((X.mg "__name__").getD .none) c' Y),toks:=tk }:=by
    refine I.step (g':=s.gens) (d':=s.drawn) (ch:=[]) (λ_ z=>nomatch z) (λb o _ _ _ q n=>kk _ b o (λz=>by rw[z,e] at n;cases n) q) (λb o _ _ _ q n=>⟨o.slots,kk _ b o (λz=>by rw[z,e] at n;cases n) q⟩)
     (λb o _ q n=>?_) (λb o _ q=>?_) (λb xs q=>?_) (λb o u q=>?_) (λb ps q=>?_) (λm hm=>?_) (λb o q=>?_) I.bare
    . have b1:b≠P:=λz=>by rw[z,e] at n;cases n
      have b2:b≠c':=Q0c (Q0g (Q03 q) ab);rw[dg b2,dg b1];exact n
    . by_cases hb:b=P
      . subst hb;exact⟨_,Q04 _ aj⟩
      . exact⟨o,kk _ b o hb q⟩
    . rw[dg (nC _ _ q),dg (nP _ _ q (by intro z;cases z))];exact q
    . rw[dg (nC _ _ q),dg (nP _ _ q (by intro z;cases z))];exact q
    . by_cases hb:b=P
      . subst hb;rw[e] at q;cases q;exact⟨_,by rw[dg (Ne.symm ak),dw]⟩
      . exact⟨#[],by rw[dg (nC _ _ q),dg hb,q];simp⟩
    . obtain⟨o,es,ep,ho,r⟩:=hm;exact⟨o,es,ep,kk _ _ o (λz=>by have:=I.free;rw[z,e] at this;cases this) ho,r⟩
    . by_cases hb:b=c'
      . subst hb;rw[dw] at q;cases q;obtain⟨aq,oc,vs,t,z1,z2,z3,z4⟩:=al
        cases z1;refine⟨⟨_,oc,vs,t,rfl,Q04 _ z2,z3,z4⟩,⟨oc,Q04 _ z2⟩,λh1 h2 y hy=>?_⟩;obtain⟨ar,ao,ap,t',y1,y2,y3,y4⟩:=y
        cases y1;exact⟨_,ao,ap,t',rfl,hy _ y2,y3,y4⟩
      . rw[dg hb] at q;by_cases hp:b=P
        . subst hp;rw[dw] at q;cases q;show(h'.push _).get? b=some { cls:=.none,data:=.fields _ };exact Q04 _ aj
        . rw[dg hp] at q;refine(I.hok b o q).stay (λd v hd y=>kk _ d v ?_ y) (λd y=>by rw[dg (nC _ _ y),dg (nP _ _ y (by intro z;cases z))];exact y) λd xs y=>by rw[dg (nC _ _ y),dg (nP _ _ y (by intro z;cases z))];exact y
          rcases hd with z|z
          . rw[z];exact hp
          . exact nP _ _ z (by intro z;cases z)
   have fz:s.heap.objs.size<=h'.objs.size:=Q14 (Q0q ab ai)
   have fn:upd (upd H P (.fm (jL++#[rawInt pos.line,rawInt pos.col,.ref c']))) c' (.ext (lg c' qual)) h'.objs.size=none:=by
    rw[dg (Q0r ai),dg (Q0r (Q0g ah fz))];exact I.hok.fresh fz
   refine h h'.objs.size c' ((X.mg "__name__").getD .none) Y _ _ (ae I1 (Q0f _ rfl) fn fz (by intro v z;cases z)) ⟨.inl ⟨ag,by rw[dg (Ne.symm ak),dw]⟩,dw⟩ λb o hb q=>?_;rw[dg (nC _ _ q),dg hb];exact q
 . have hP:s.heap.get? P=some (W.tabObj jL):=I.hok P _ e;refine W.kla_makeFunctionHit (mg:=X.mg) (cv:=.ref c') ac I.ok.glob hg aa C' hP af e1 (I.Ap B e) λY h' tk hk hsz=>?_;exact h h'.objs.size c' ((X.mg "__name__").getD .none) Y H _ (ae (I.kept λb u q=>Q04 _ (hk b u q)) (Q0f _ rfl) (I.hok.fresh hsz) hsz (by intro v z;cases z)) ⟨.inr ⟨e1,e⟩,e2⟩ λb o _ q=>q
theorem GR {name qual:Str}{aa:Arguments}{body:Expr}{scope:Scope}{pos:Pos}{Y:Nat}{cl:List (Str × Addr)}{c P:Addr}{Q:Value->Shared->Prop}{E:Value->Shared->Prop}(I:Inv X pins σ H s)(ac:X.env.code=.ref c)(C:W.CodeHd X.base c P)
 (B:BM X.mg X.base) (T:d_ P pos qual H) (ae:closureFor scope X.env=pure cl)
 (h:∀(f c':Addr) (pm ab:Value) (H':Hp) (s':Shared),Inv X (pins++[(f,W.kla_obj name qual aa body scope cl pm c' ab)]) σ H' s'->gO P pos qual c' H'->(∀b o,b≠P->H b=some o->H' b=some o)->Q (.ref f) s'):
 wpAny (model X.prog X.w) X.A (makeFunction name qual aa (.expr body) scope X.env [] [] [] pos Y) Q E s:=by
 rcases T with e|⟨U,e,ec⟩
 . refine qJ (jL:=#[]) I ac C B ⟨e,by simp[TriplesOk],.inl rfl⟩ ae λf c' pm ab H' s' J L m=>h f c' pm ab H' s' J ?_ m;obtain⟨z|z,y⟩:=L
   . exact⟨z.2,y⟩
   . cases z.1
 . refine qJ (jL:=#[rawInt pos.line,rawInt pos.col,.ref U]) I ac C B ⟨e,by simp[TriplesOk,rawInt],.inr ⟨U,by simp[codeAmong,rawInt],ec⟩⟩ ae λf c' pm ab H' s' J L m=>h f c' pm ab H' s' J ?_ m;have hc:codeAmong pos [rawInt pos.line,rawInt pos.col,.ref U]=some (.ref U):=by simp[codeAmong,rawInt]
   obtain⟨z|z,y⟩:=L
   . exact absurd (hc.symm.trans z.1) (by intro z;cases z)
   . have:U=c':=by
      have:=hc.symm.trans z.1
      cases this;rfl
     subst this;exact⟨z.2,y⟩
structure ki (X:Cx) (x:Str) (N':List Str) (scope:Scope):Prop where
 kind:scope.kind=.function
 co:scope.isCoroutine=false
 gen:scope.isGenerator=false
 cell:∀y∈scope.names,y.2≠ .cell
 loc:scope.names.lookup x=some .local
 free:∀y∈scope.names,y.2=.free->X.env.kindOf y.1=some .cell\/X.env.kindOf y.1=some .free
 len:N'.length=X.N.length
 outer:∀(i:Nat) (y:Str),N'[i]? =some y->scope.names.lookup y=none\/(X.N[i]? =some y/\scope.names.lookup y≠some .local)
noncomputable def l5 (scope:Scope):List Str->List Str->Bool
 |[],[]=>true
 |y::r,z::q=>(decide (scope.names.lookup y=none) || (decide (z=y) && decide (scope.names.lookup y≠some .local))) && l5 scope r q
 |_,_=>false
theorem Aq {scope:Scope}:∀{N' N:List Str},l5 scope N' N=true->N'.length=N.length
 |[],[],_=>rfl
 |y::r,z::q,h=>by
  simp only[l5,Bool.and_eq_true] at h;rw[Q02,Q02,Aq h.2]
theorem Ar {scope:Scope}:∀{N' N:List Str},l5 scope N' N=true->∀(i:Nat) (y:Str),N'[i]? =some y->scope.names.lookup y=none\/(N[i]? =some y/\scope.names.lookup y≠some .local)
 |[],[],_,i,y,e=>by simp at e
 |w::r,z::q,h,0,y,e=>by
  simp only[l5,Bool.and_eq_true,Bool.or_eq_true,decide_eq_true_eq] at h;have e:some w=some y:=e
  cases e;rcases h.1 with h1|⟨h1,h2⟩
  . exact .inl h1
  . subst h1;exact .inr ⟨rfl,h2⟩
 |w::r,z::q,h,i+1,y,e=>by
  simp only[l5,Bool.and_eq_true] at h;have:=Ar h.2 i y (by simpa using e);simpa using this
noncomputable def As (x:Str) (N' N:List Str) (scope sc:Scope):Bool:=
 scope.names.all (λy=>decide (y.2≠ .cell)) && decide (scope.names.lookup x=some .local) && scope.names.all (λy=>decide (y.2=.free->sc.names.lookup y.1=some .cell\/sc.names.lookup y.1=some .free)) && l5 scope N' N
theorem ki.of {x:Str}{N' N:List Str}{scope sc:Scope}(J:X.env.scope=sc)(L:X.N=N)(k:scope.kind=.function)(Y:scope.isCoroutine=false)(c2:scope.isGenerator=false)(c:As x N' N scope sc=true):ki X x N' scope:=by
 unfold As at c;simp only[Bool.and_eq_true,Q17,decide_eq_true_eq] at c;obtain⟨⟨⟨a1,a2⟩,a3⟩,U⟩:=c;exact⟨k,Y,c2,a1,a2,λy hy hf=>by rw[show X.env.kindOf y.1=X.env.scope.names.lookup y.1 from rfl,J];exact a3 y hy hf,by rw[L];exact Aq U,by rw[L];exact Ar U⟩
noncomputable abbrev kj (qual:Str) (scope:Scope) (cl:List (Str × Addr)) (f c':Addr) (s:Shared):Env:=W.envX qual scope s.heap.objs.size f (.ref c') cl
noncomputable def qK (X:Cx) (x:Str) (N':List Str) (scope:Scope) (cl:List (Str × Addr)) (qual:Str) (f c':Addr) (s:Shared) (H:Hp):Cx:=
 { X with A:=X.A.in1.in1.deeper (kj qual scope cl f c' s),N:=x::N',s₀:=s,H₀:=H,env:=kj qual scope cl f c' s,outer:=X.stack,stack:=kj qual scope cl f c' s::X.stack,ex:=[],fn:=λ_=>false,pn:=[],calm:=true,xe:=λ_ _=>False }
theorem Inv.lam {x:Str}{N':List Str}{scope:Scope}{cl:List (Str × Addr)}{qual:Str}{f c':Addr}{v:V}{u:Value}{L:Heap}{t':Nat}(I:Inv X pins σ H s)(S:ki X x N' scope)(hd:X.A.handled=none)
 (J:∀y c,cl.lookup y=some c->X.env.cells.lookup y=some c) (ab:∀y,(y,NameKind.free)∈scope.names->cl.lookup y=X.env.cells.lookup y) (r:RelV v u)
 (hn:L.Ns s.heap.objs.size (λy=>([(x,u)]:List (Str × Value)).reverse.lookup y)) (aa:∀b o,s.heap.get? b=some o->L.get? b=some o):
 Inv (qK X x N' scope cl qual f c' s H) [] (some v::σ) H { s with heap:=L,toks:=t' }:=by
 have ok:=I.ok
 have U:∀y,(scope.names.lookup y=some .cell\/scope.names.lookup y=some .free)->(y,NameKind.free)∈scope.names:=λy Y=>by
  rcases Y with Y|Y
  . exact absurd rfl (S.cell _ (PySem.mem_of_lookup Y))
  . exact PySem.mem_of_lookup Y
 refine⟨⟨ok.mod,S.kind,rfl,rfl,Q00 _,λy z c e1 e2=>ok.inj y z c (J y c e1) (J z c e2),λy Y=>?_,λy c Y _=>(nomatch Y),λ_=>hd,Around.frames_deeper (show X.A.in1.in1.frames=some X.stack from ok.frames),.inr ⟨rfl,rfl⟩,λb hb=>absurd (show b∈([]:List Addr) from hb) (by simp),I.bs,Q07 ok.jG I.sz,
  λb o _ hb=>absurd (show b∈([]:List Addr) from hb) (by simp),λb hb=>absurd (show b∈([]:List Addr) from hb) (by simp),I.stack,I.sy⟩,
  rfl,I.bare,Un.kept aa,⟨_,hn,λi y v' e1 e2 e3=>?_⟩,λy c e=>?_,I.hok.fresh (Q00 _),λy c e=>I.iM y c (J y c e),λp hp=>absurd (show p∈([]:List (Addr × Obj)) from hp) (by simp),I.hok.kept aa,?_⟩
 . have hm:=U y Y;obtain⟨c,e⟩:=ok.has y (S.free _ hm rfl);exact⟨c,by rw[show(qK X x N' scope cl qual f c' s H).env.cells=cl from rfl,ab y hm];exact e⟩
 . cases i with
   |zero=>
    have e1:some x=some y:=e1
    cases e1;have e2:some (some v)=some (some v'):=e2
    cases e2;exact⟨u,r,.inl ⟨S.loc,by simp⟩⟩
   |succ i=>
    have e1:N'[i]? =some y:=by
     have e1:(x::N')[i+1]? =some y:=e1;simpa using e1
    have e2:σ[i]? =some (some v'):=by simpa using e2
    have ho:X.N[i]? =some y/\scope.names.lookup y≠some .local:=by
     have e3:scope.names.lookup y=some .local\/scope.names.lookup y=some .cell\/scope.names.lookup y=some .free:=e3;rcases S.outer i y e1 with q|q
     . rw[q] at e3;rcases e3 with z|z|z <;> cases z
     . exact q
    have ae:scope.names.lookup y=some .cell\/scope.names.lookup y=some .free:=by
     rcases e3 with q|q
     . exact absurd q ho.2
     . exact q
    have hm:=U y ae;have af:=S.free _ hm rfl;obtain⟨mX,ah,ag⟩:=I.loc;obtain⟨u',r',lk⟩:=ag i y v' ho.1 e2 (.inr af);refine⟨u',r',.inr ⟨ae,?_⟩⟩;rcases lk with⟨q,_⟩|⟨_,c,ec,hc⟩
    . rcases af with z|z
      . rw[z] at q;cases q
      . rw[z] at q;cases q
    . obtain⟨o,ho,ac⟩:=hc;exact⟨c,(ab y hm).trans ec,o,aa _ _ ho,ac⟩
 . obtain⟨w',o,ho,ac⟩:=I.cell y c (J y c e);exact⟨w',o,aa _ _ ho,ac⟩
 . show _=(x::N').length;rw[Q02,Q02,I.len,S.len]
theorem GS {x:Str}{N':List Str}{name qual:Str}{L:Arguments}{body:Expr}{scope:Scope}{cl:List (Str × Addr)}{f c':Addr}{pm U:Value}{v:V}{u:Value}{te:TE}{Q:VK}{E:Value->Shared->Prop}(I:Inv X pins σ H s)(S:ki X x N' scope)(hd:X.A.handled=none)(aa:X.A.depth<recursionLimit)
 (ab:∀y c,cl.lookup y=some c->X.env.cells.lookup y=some c) (ac:∀y,(y,NameKind.free)∈scope.names->cl.lookup y=X.env.cells.lookup y) (hf:(f,W.kla_obj name qual L body scope cl pm c' U)∈pins) (hc:H c'=some (.ext (lg c' qual)))
 (hb:∀u:Value,bindArgs (W.kla_fn name qual L body scope cl pm (.ref c') U) ⟨[u],[]⟩=pure [(x,u)]) (r:RelV v u) (he:∀(s:Shared) (H:Hp),PE (qK X x N' scope cl qual f c' s H) body te) (h:te (some v::σ) H Q):
 wpAny (model X.prog X.w) X.A.in1.in1 (call (.ref f) [u]) (EP X pins σ Q) E s:=by
 obtain⟨p1,p2,p3,p4,p5⟩:=I.pin _ (Q09 _ hf);refine wpAny_call (W.kla_callFunE aa p1 rfl S.co S.gen rfl (I.hok c' _ hc).1 ?_);rw[hb];refine Q08 (wpAny_newFunctionEnv S.cell (λy hy=>?_) (λae af ag=>?_) S.kind)
 . have e:y=(x,u):=by simpa using hy
   subst e;exact S.loc
 have Y:∀b o,s.heap.get? b=some o->ae.get? b=some o:=λb o e=>ag.extBut b o (Q0c (Q03 e)) (Q04 _ e);refine⟨I.nolimit.keeps Y,?_⟩;show codeAny _ _ (.expr body (kj qual scope cl f c' s)) _ _;have J:=I.lam (t':=s.toks+([(x,u)]:List (Str × Value)).length) (qual:=qual) (f:=f) (c':=c') S hd ab ac r af Y;refine W.kla_codeExpr (Q0v (he s H [] _ _ H Q J h) (λu' s' hq=>?_) λe s' hF=>hF.elim);obtain⟨v',H',J',rv,q⟩:=hq;exact I.after ⟨v',H',J'.os,J'.bare,J'.base,J'.hok,rv,q⟩
end
section
variable {X:Cx}{pins:List (Addr × Obj)}{σ:St}{H:Hp}{s:Shared}
def Asks (prog:Program) (w:World) (A:Around) (s:Shared) (us:List Value) {O:KeyOrd}(key:Nat->O.α):Prop:=
 2<=us.length->wpAny (model prog w) A (keyKind' us.toArray) (λκ s'=>s'=s/\∀(i j:Nat) (C:Bool->Shared->Prop),i<us.length->j<us.length->C (O.blt (key i) (key j)) s->W.kas_ask prog w A κ us i j C s) (λ_ _=>False) s
theorem Au {xs:List V}{vs:List Value}(r:Vals xs vs):∀p:List Nat,Vals (p.map λi=>xs.getD i .non) (p.map λi=>vs.getD i Value.none)
 |[]=>.nil
 |i::p=>by
  refine .cons ?_ (Au r p);show RelV (xs.getD i .non) (vs.getD i Value.none);rw[Q0m,Q0m]
  cases e:xs[i]? with
  |none=>
   rw[r.none_of e];exact rfl
  |some x=>
   obtain⟨u,J,L⟩:=r.get e;rw[J];exact L
theorem GU {α:Type}(a0:α)(l:List α):((List.range l.length).map λi=>l.getD i a0)=l:=by
 apply Q30
 . simp
 . intro i h1 h2;simp[h2]
theorem GV {us vs:List Value}(hl:us.length=vs.length):((List.toArray us).zip (List.toArray vs)).map (·.2)=List.toArray vs:=by
 apply Array.toList_inj.mp;rw[Array.toList_map,ksk_zip];show List.map Prod.snd (us.zip vs)=vs;exact List.map_snd_zip (by omega)
theorem GW {α:Type}{R:α->α->Prop}(key:Nat->α){n:Nat}(h:n<2):((List.range n).map key).Pairwise R:=by
 have:n=0\/n=1:=by omega
 rcases this with rfl|rfl
 . exact List.Pairwise.nil
 . exact Q29 _ _
noncomputable abbrev lo (xs:List Value) (n:Nat):Obj:=seqObj "list" (List.toArray xs) n
theorem Av {E:Value->Shared->Prop}{J D:Addr}{us:List Value}{e e1:Nat}{st:SortSt}{out:List Value}{outV:List V}{P:PySem.Fin->Shared->Prop}{A:Around}(I:Inv X (pins++[(J,lo us e),(D,lo [] e1)]) σ H s)(fK:gU X pins H J)(fD:gU X pins H D)(aa:J≠D)(ac:us.length<64)(ho:out.length<64)
 (U:(arrOf st).map (·.2)=List.toArray out) (hf:failedOf st=none) (rv:Vals outV out)
 (h:∀s',Inv X pins σ (upd H D (.lst outV)) s'->P (.done (.ret .none)) s'):wpAny (model X.prog X.w) A (ksk_tail D false e1 (.ref J) st) P E s:=by
 have nk:=(I.pin (J,lo us e) (Q09 _ (Q09 _ (Q05)))).1;have nD:=(I.pin (D,lo [] e1) (Q09 _ (Q09 _ (Q0d _ Q05)))).1;have s1:=Heap.SameBut.update s.heap J (Obj.mapSeq λ_=>(#[]:Array Value));have L:(s.heap.update J (Obj.mapSeq λ_=>(#[]:Array Value))).get? D=some (lo [] e1):=(s1.2 D aa.symm).trans nD;have s2:=Heap.SameBut.update (s.heap.update J (Obj.mapSeq λ_=>(#[]:Array Value))) D (Obj.mapSeq λ_=>List.toArray out);obtain⟨Y,ab⟩:∃Y,((s.heap.update J (Obj.mapSeq λ_=>(#[]:Array Value))).update D (Obj.mapSeq λ_=>List.toArray out)).get? D=some (lo out Y):=⟨_,get?_update_seq L λ_=>List.toArray out⟩;have I1:Inv X pins σ H { s with heap:=s.heap.update J (Obj.mapSeq λ_=>(#[]:Array Value)) }:=I.kF.own (t':=s.toks) fK s1
 have I2:Inv X pins σ (upd H D (.lst outV)) { s with heap:=(s.heap.update J (Obj.mapSeq λ_=>(#[]:Array Value))).update D (Obj.mapSeq λ_=>List.toArray out) }:=
  I1.adopt (t':=s.toks) fD (λc u hc q=>(s2.2 c hc).trans q) ⟨by rw[rv.length];exact Q14 (hX (by omega)),out,Y,rv,ab⟩
 unfold ksk_tail
 try dsimp only
 rw[U];refine Q0 (listUpdate_at nk rfl ?_ (by rw[Q0e,sizeLine_eq];omega) (Q06 _));refine Q0 (wpAny_letGo ?_);refine Q0 (seqEpoch_at L rfl ?_);refine Q0 (listUpdate_at L rfl ?_ (Q06 _) (by show(List.toArray out).size<=_;rw[Q0e,sizeLine_eq];omega));rw[hf];simp only[bne_self_eq_false,Bool.false_eq_true,if_false];exact Q08 (h _ I2)
theorem GX {E:Value->Shared->Prop}{kS D:Addr}{us vs:List Value}{xs:List V}{e e1:Nat}{P:PySem.Fin->Shared->Prop}{A:Around}{O:KeyOrd}{key:Nat->O.α}(I:Inv X (pins++[(kS,lo us e),(D,lo [] e1)]) σ H s)(fK:gU X pins H kS)(fD:gU X pins H D)(ab:kS≠D)
 (hl:us.length=vs.length) (Y:vs.length<64) (rv:Vals xs vs) (ask:Asks X.prog X.w A s us key)
 (h:∀(p:List Nat),p.Perm (List.range vs.length)->(p.map key).Pairwise O.kle->∀s',Inv X pins σ (upd H D (.lst (p.map λi=>xs.getD i .non))) s'->P (.done (.ret .none)) s'):
 wpAny (model X.prog X.w) A (ksk_end D false (List.toArray vs) e1 (.ref kS) (List.toArray us)) P E s:=by
 unfold ksk_end
 try dsimp only
 simp only[Bool.false_eq_true,if_false];by_cases h2:vs.toArray.size<2
 . rw[if_pos h2,if_pos h2];have aa:vs.length<2:=by simpa using h2
   refine Q0 (Q08 ?_);rw[StateT.run_pure];refine Q0 (Q08 ?_)
   try dsimp only
   have ac:xs.length=vs.length:=rv.length
   have ez:((List.range vs.length).map λi=>xs.getD i .non)=xs:=by
    rw[<-ac];exact GU _ xs
   refine Av (out:=vs) (outV:=xs) (st:=SortSt.mk' general' ((List.toArray us).zip (List.toArray vs)) #[] 7 none) I fK fD ab (by omega) Y (GV hl) rfl rv λs' J=>?_;have q:=h (List.range vs.length) (List.Perm.refl _) (GW key aa) s';rw[ez] at q;exact q J
 . rw[if_neg h2,if_neg h2];have aa:2<=vs.length:=by simpa using h2
   refine Q0 (Q0v (ask (by omega)) (λκ s' hk=>?_) λ_ _ hF=>hF.elim);obtain⟨rfl,hk⟩:=hk;obtain⟨k1,k2⟩:=kK.GO (key:=key) (n:=vs.length) (by omega)
   refine Q0 (Q0v (W.kat_run (κ:=κ) (ks:=us) (vs:=vs) (Q:=λU L=>L=s'/\arrOf U=(kK.d6 (kK.eE key) (W.kas_sort vs.length)).map (W.kas_item ((List.toArray us).zip vs.toArray))/\failedOf U=none)
    (G:=λp L=>L=s'/\p=kK.d6 (kK.eE key) (W.kas_sort vs.length)) hl aa Y (λp U L _ a2 a3 a4=>⟨a4.1,by rw[a2,a4.2],a3⟩)
    (kK.Ah (f:=kK.eE key) (λi j C hi hj q=>hk i j C (by omega) (by omega) q) (kK.GK (by omega)) ⟨rfl,rfl⟩)) ?_ λ_ _ x=>x)
   rintro⟨⟨⟩,U⟩ L ⟨rfl,ae,af⟩
   try dsimp only
   refine Av I fK fD ab (by omega) (by rw[Q0b,k1.length_eq,Q1x];exact Y) (W.kat_snds hl ae) af (Au rv _) λs' J=>h _ k1 k2 s' J
theorem GY {prog:Program}{w:World}{A:Around}{E:Value->Shared->Prop}{s:Shared}{l:Addr}{vs:List Value}{Q:List Value->Shared->Prop}(hl:IsTup s.heap l vs.toArray)
 (h:Q vs { s with heap:=(s.heap.push (seqObj "list" #[] 0)).update s.heap.objs.size (Obj.mapSeq (· ++vs.toArray)) }) (hsz:vs.length<=sizeLine):
 wpAny (model prog w) A (collect (.ref l)) Q E s:=by
 obtain⟨o,L,hc,n,U⟩:=id hl;unfold collect;refine Q0 (wpAny_runValue (codeAny_builtin entry_proto_collect' ?_));refine Q0 (wpAny_newList (Q08 ⟨Code.quiet_builtin _ (by decide +kernel),codeAny_builtin entry_list_iadd' ?_⟩));change wpAny _ _ (Builtin.List.listExtendWith (.ref s.heap.objs.size) (.ref l) (.ref s.heap.objs.size)) _ _ { s with heap:=s.heap.push (seqObj "list" #[] 0) };unfold Builtin.List.listExtendWith;have J:(s.heap.push (seqObj "list" #[] 0)).get? l=some o:=Q04 _ L;refine Q0 (wpAny_typeOf (T:="tuple") ⟨o,J,hc⟩ ?_);have Y:(Value.type "tuple" == Value.type "tuple")=true:=by rfl
 rw[if_pos (by rw[Y];simp)];refine Q0 (listItems_at J U ?_);refine Q0 (listItems_at (xs:=#[]) (n:=0) (Q0f _ rfl) rfl ?_);rw[if_neg (by simp)];refine Q0 (listUpdate_at (xs:=#[]) (n:=0) (Q0f _ rfl) rfl ?_ (Q06 _) (by show(#[]++vs.toArray).size<=sizeLine+1;simp only[Array.size_append,Q0e,Q0l];omega));refine Q08 ?_;refine Q0 (wpAny_load (get?_update_seq (Q0f _ rfl) _) ?_);change wpAny _ _ (pure ((#[]:Array Value)++vs.toArray).toList) Q E _;rw[show((#[]:Array Value)++vs.toArray).toList=vs by simp];exact Q08 h
theorem GZ {E:Value->Shared->Prop}{f a:Addr}{xs:List V}{Q:VK}{W:List V->Hp->Prop}(I:Inv X pins σ H s)(hq:dy X.K H a xs\/du X.K H a xs)(av:xs.length<64)(w0:W [] H)
 (am:∀(pl:List (Addr × Obj)) (s':Shared) (H':Hp) (ks:List V) (y:V) (u:Value),Inv X (pins++pl) σ H' s'->W ks H'->xs[ks.length]? =some y->RelV y u->
   wpAny (model X.prog X.w) X.A.in1.in1 (call (.ref f) [u]) (EP X (pins++pl) σ λk ab=>W (ks++[k]) ab) (λ_ _=>False) s')
 (fin:∀(pl:List (Addr × Obj)) (s':Shared) (H':Hp) (ks:List V) (us:List Value),Inv X (pins++pl) σ H' s'->W ks H'->ks.length=xs.length->Vals ks us->∃(O:KeyOrd) (key:Nat->O.α),Asks X.prog X.w X.A.in1.in1 s' us key/\
   ∀p:List Nat,p.Perm (List.range xs.length)->(p.map key).Pairwise O.kle->∀D,H' D=none->Q (.ref D) (upd H' D (.lst (p.map λi=>xs.getD i .non)))):
 wpAny (model X.prog X.w) X.A (call (.builtin "sorted") [.ref a] [(Str.ofString "key",.ref f)]) (EP X pins σ Q) E s:=by
 obtain⟨vs,rv,an⟩:∃vs,Vals xs vs/\∀{A:Around} {E:Value->Shared->Prop} {Q:List Value->Shared->Prop},Q vs { s with heap:=(s.heap.push (seqObj "list" #[] 0)).update s.heap.objs.size (Obj.mapSeq (· ++vs.toArray)) }->vs.length<=sizeLine->wpAny (model X.prog X.w) A (collect (.ref a)) Q E s:=by
  rcases hq with hq|hq
  . obtain⟨vs,rv,pl,hz⟩:=I.list hq;exact⟨vs,rv,λh1 h2=>collect_list pl.isList h1 h2⟩
  . obtain⟨vs,rv,pl,hz⟩:=I.tuple hq;exact⟨vs,rv,λh1 h2=>GY pl h1 h2⟩
 have hl:xs.length=vs.length:=rv.length;refine call_function_entry_kw kind_sorted plain_sorted entry_sorted (ksk_s1 _ _) ?_;unfold Builtin.«sorted»;refine Q0 (m:=checkCount "sorted" 1 1 _) (Q08 ?_);refine Q0 (an ?_ (by rw[sizeLine_eq];omega));refine Q0 (wpAny_newList ?_ (by rw[sizeLine_eq];omega))
 have hsz:((s.heap.push (seqObj "list" #[] 0)).update s.heap.objs.size (Obj.mapSeq (· ++vs.toArray))).objs.size=s.heap.objs.size+1:=by
  rw[Q31,size_push']
 have Y:(((s.heap.push (seqObj "list" #[] 0)).update s.heap.objs.size (Obj.mapSeq (· ++vs.toArray))).push (seqObj "list" vs.toArray 0)).get? (s.heap.objs.size+1)=some (seqObj "list" vs.toArray 0):=by
  rw[<-hsz];exact Q0f _ rfl
 have keep:∀b o,s.heap.get? b=some o->(((s.heap.push (seqObj "list" #[] 0)).update s.heap.objs.size (Obj.mapSeq (· ++vs.toArray))).push (seqObj "list" vs.toArray 0)).get? b=some o:=λb o q=>by
  have ae:b<s.heap.objs.size:=Q03 q;rw[Q32 _ _ _ (by rw[hsz];exact Q0c (Nat.lt_succ_of_lt ae)),Heap.get?_update_ne _ _ _ _ (Q0c ae),Q32 _ _ _ (Q0c ae)];exact q
 show wpAny _ _ _ _ _ { s with heap:=((s.heap.push (seqObj "list" #[] 0)).update s.heap.objs.size (Obj.mapSeq (· ++vs.toArray))).push (seqObj "list" vs.toArray 0) };rw[hsz];generalize hG:((s.heap.push (seqObj "list" #[] 0)).update s.heap.objs.size (Obj.mapSeq (· ++vs.toArray))).push (seqObj "list" vs.toArray 0)=G at Y keep ⊢;have ao:G.objs.size=s.heap.objs.size+2:=by rw[<-hG,size_push',hsz]
 have I1:Inv X pins σ H { s with heap:=G }:=I.kept (t':=s.toks) keep;refine Q0 (wpAny_holding (wpAny_call_entry_kw slot_list_sort ⟨_,Y,rfl⟩ entry_list_sort ?body (ksk_l1 _ _)))
 case body=>
  show wpAny (model X.prog X.w) X.A.in1.in1 (Builtin.«list.sort» ⟨[.ref (s.heap.objs.size+1)],[(Str.ofString "key",.ref f)]⟩) _ _ _;rw[ksk_t1];unfold ksk_tree;generalize hD:s.heap.objs.size+1=D at Y ⊢;have ag:s.heap.objs.size<=D:=by omega
  have s1:=Heap.SameBut.update G D (Obj.mapSeq λ_=>(#[]:Array Value));obtain⟨e1,ah⟩:∃e1,(G.update D (Obj.mapSeq λ_=>(#[]:Array Value))).get? D=some (lo [] e1):=⟨_,get?_update_seq Y λ_=>#[]⟩;refine Q0 (listItems_at Y rfl ?_);refine Q0 (listUpdate_at Y rfl ?_ (by rw[Q0e,sizeLine_eq];omega) (Q06 _));refine Q0 (seqEpoch_at ah rfl ?_);refine Q0 (wpAny_newTuple ?_ (by show vs.length<=_;rw[sizeLine_eq];omega));refine Q0 (wpAny_newList ?_ (Q06 _));refine wpAny_holding ?_;show wpAny (model X.prog X.w) X.A.in1.in1 _ _ _ { s with heap:=((G.update D (Obj.mapSeq λ_=>(#[]:Array Value))).push (seqObj "tuple" vs.toArray 0)).push (seqObj "list" #[] 0) };generalize ai:((G.update D (Obj.mapSeq λ_=>(#[]:Array Value))).push (seqObj "tuple" vs.toArray 0)).objs.size=U;have au:U=s.heap.objs.size+3:=by rw[<-ai,size_push',Q31,ao]
  have aj:U≠D:=by omega
  have L:gU X pins H D:=I.jI ag (I.hok.fresh ag);have ac:gU X pins H U:=I.jI (by omega) (I.hok.fresh (by omega))
  have af:∀b o,b≠D->G.get? b=some o->(((G.update D (Obj.mapSeq λ_=>(#[]:Array Value))).push (seqObj "tuple" vs.toArray 0)).push (seqObj "list" #[] 0)).get? b=some o:=λb o hb q=>
   Q04 _ (Q04 _ ((s1.2 b hb).trans q))
  have I2:Inv X pins σ H { s with heap:=((G.update D (Obj.mapSeq λ_=>(#[]:Array Value))).push (seqObj "tuple" vs.toArray 0)).push (seqObj "list" #[] 0) }:=
   Inv.turned (s:={ s with heap:=G }) (t':=s.toks) (it:=D) I1 af L.1 L.2.1 L.2.2.2.1 L.2.2.2.2.1 L.2.2.2.2.2
  have hK:(((G.update D (Obj.mapSeq λ_=>(#[]:Array Value))).push (seqObj "tuple" vs.toArray 0)).push (seqObj "list" #[] 0)).get? U=some (lo [] 0):=by rw[<-ai];exact Q0f _ rfl
  have ak:(((G.update D (Obj.mapSeq λ_=>(#[]:Array Value))).push (seqObj "tuple" vs.toArray 0)).push (seqObj "list" #[] 0)).get? D=some (lo [] e1):=Q04 _ (Q04 _ ah);generalize ((G.update D (Obj.mapSeq λ_=>(#[]:Array Value))).push (seqObj "tuple" vs.toArray 0)).push (seqObj "list" #[] 0)=G2 at I2 hK ak ⊢
  have pinned:∀{H':Hp} {s':Shared} {us:List Value} {e:Nat},Inv X pins σ H' s'->s'.heap.get? U=some (lo us e)->s'.heap.get? D=some (lo [] e1)->H' U=none->H' D=none->Inv X (pins++[(U,lo us e),(D,lo [] e1)]) σ H' s':=λ{H' s' us e} J k1 k2 n1 n2=>
   J.lO λp hp=>(List.mem_append.mp hp).elim (λz=>J.pin p (Q09 _ z)) λz=>by
     have z:p=(U,lo us e)\/p=(D,lo [] e1):=by simpa using z
     rcases z with rfl|rfl
     . exact⟨k1,n1,ac.2.1,ac.2.2.1,by intro v z;cases z⟩
     . exact⟨k2,n2,L.2.1,L.2.2.1,by intro v z;cases z⟩
  have own:∀{H':Hp} {b:Addr},(b=U\/b=D)->H' b=none->gU X pins H' b:=λ{H' b} hb n=>by
   rcases hb with rfl|rfl
   . exact⟨n,ac.2⟩
   . exact⟨n,L.2⟩
  unfold ksk_rest;refine Q0 (wpAny_rule ?_)
  first
   |rw[List.forIn_toArray]
   |(rw[<-Q33];simp only[List.toList_toArray])
   |rw[<-Q33]
  refine Q0 (ksk_fold (λi s'=>∃ks us e H',Inv X (pins++[(U,lo us e),(D,lo [] e1)]) σ H' s'/\Vals ks us/\ks.length=i/\i<=vs.length/\W ks H') vs 0 _
   ⟨[],[],0,H,pinned I2 hK ak ac.1 L.1,.nil,rfl,Q06 _,w0⟩ (λj x s' hx hJ=>?_) λs' hJ=>?_)
  . obtain⟨ks,us,e,H',J,rk,hi,ap,wk⟩:=hJ;have hi:ks.length=j:=by omega
    have hj:j<vs.length:=(List.getElem?_eq_some_iff.mp hx).1;have al:j<xs.length:=by omega
    obtain⟨u,hu,ru⟩:=rv.get (Q0a al);rw[hx] at hu;cases hu;refine Q0 (wpAny_attempt (Q0v (am _ s' H' ks (xs[j]) x J wk (by rw[hi];exact Q0a al) ru) (λk aa hk=>?_) λ_ _ hF=>hF.elim));obtain⟨kv,ab,J',aq,w'⟩:=hk;have pk:=J'.pin (U,lo us e) (Q09 _ (Q09 _ (Q05)));have pD:=J'.pin (D,lo [] e1) (Q09 _ (Q09 _ (Q0d _ Q05)));have aw:us.length=ks.length:=rk.length.symm;have s2:=Heap.SameBut.update aa.heap U (Obj.mapSeq (·.push k));have ea:(List.toArray us).push k=List.toArray (us++[k]):=by simp
    obtain⟨c2,ar⟩:∃c2,(aa.heap.update U (Obj.mapSeq (·.push k))).get? U=some (lo (us++[k]) c2):=⟨_,by show _=some (seqObj "list" (List.toArray (us++[k])) _);rw[<-ea];exact get?_update_seq pk.1 (·.push k)⟩
    try dsimp only
    refine Q0 (listUpdate_at pk.1 rfl ?_ (by rw[Q0e,sizeLine_eq];omega) (Q07 (Q23 (Array.size_push ..)) (by rw[Q0e,sizeLine_eq];omega)));have J2:Inv X pins σ ab { aa with heap:=aa.heap.update U (Obj.mapSeq (·.push k)) }:=J'.kF.own (t':=aa.toks) (own (.inl rfl) pk.2.1) s2;refine Q08 ⟨rfl,ks++[kv],us++[k],c2,ab,pinned J2 ar ((s2.2 D aj.symm).trans pD.1) pk.2.1 pD.2.1,rk.append (.cons aq .nil),by rw[Q01,Q1o];omega,by omega,w'⟩
  . obtain⟨ks,us,e,H',J,rk,hi,ap,wk⟩:=hJ;have hi:ks.length=vs.length:=by omega
    have pk:=J.pin (U,lo us e) (Q09 _ (Q09 _ (Q05)));have pD:=J.pin (D,lo [] e1) (Q09 _ (Q09 _ (Q0d _ Q05)))
    try dsimp only
    refine Q0 (listItems_at pk.1 rfl ?_);obtain⟨O,key,ask,q⟩:=fin _ s' H' ks us J wk (by omega) rk;refine GX J (own (.inl rfl) pk.2.1) (own (.inr rfl) pD.2.1) aj (by rw[<-rk.length];exact hi) (by omega) rv ask λp p1 p2 aa J'=>?_;exact⟨_,rfl,Q08 ⟨_,rfl,.ref D,_,J',rfl,q p (by rw[hl];exact p1) p2 D pD.2.1⟩⟩
theorem G9 {E:Value->Shared->Prop}{f a:Addr}{xs:List V}{Q:VK}{W:List V->Hp->Prop}(I:Inv X pins σ H s)(Y:dy X.K H a xs)(L:xs.length<64)(w0:W [] H)
 (J:∀(pl:List (Addr × Obj)) (s':Shared) (H':Hp) (ks:List V) (y:V) (u:Value),Inv X (pins++pl) σ H' s'->W ks H'->xs[ks.length]? =some y->RelV y u->
   wpAny (model X.prog X.w) X.A.in1.in1 (call (.ref f) [u]) (EP X (pins++pl) σ λk U=>W (ks++[k]) U) (λ_ _=>False) s')
 (fin:∀(pl:List (Addr × Obj)) (s':Shared) (H':Hp) (ks:List V) (us:List Value),Inv X (pins++pl) σ H' s'->W ks H'->ks.length=xs.length->Vals ks us->∃(O:KeyOrd) (key:Nat->O.α),Asks X.prog X.w X.A.in1.in1 s' us key/\
   ∀p:List Nat,p.Perm (List.range xs.length)->(p.map key).Pairwise O.kle->∀D,H' D=none->Q (.ref D) (upd H' D (.lst (p.map λi=>xs.getD i .non)))):
 wpAny (model X.prog X.w) X.A (call (.builtin "sorted") [.ref a] [(Str.ofString "key",.ref f)]) (EP X pins σ Q) E s:=GZ I (.inl Y) L w0 J fin
end
noncomputable def iC:Key->Key->Bool
 | .inl i,.inl j=>decide (i<j)
 | .inl _,.inr _=>true
 | .inr _,.inl _=>false
 | .inr x,.inr y=>decide (x.cps.toList<y.cps.toList)
theorem G_ (a:Key):iC a a=false:=by
 cases a with
 |inl i=>simp[iC]
 |inr x=>simpa[iC] using Q34 x.cps.toList
theorem Ha {a b c:Key}(h1:iC a b=true)(h2:iC b c=true):iC a c=true:=by
 cases a <;> cases b <;> cases c <;> simp only[iC,decide_eq_true_eq,Bool.false_eq_true] at * <;> first|omega|exact List.lt_trans h1 h2
theorem Hb {x y:Str}(h:x.cps.toList=y.cps.toList):x=y:=by
 cases x;cases y;simp only[Str.mk.injEq];exact Array.toList_inj.mp h
theorem Hc (a b:Key):iC a b=true\/a=b\/iC b a=true:=by
 cases a with
 |inl i=>
  cases b with
  |inl j=>
   simp only[iC,decide_eq_true_eq];rcases Int.lt_trichotomy i j with h|h|h
   . exact .inl h
   . exact .inr (.inl (by rw[h]))
   . exact .inr (.inr h)
  |inr y=>exact .inl rfl
 |inr x=>
  cases b with
  |inl j=>exact .inr (.inr rfl)
  |inr y=>
   simp only[iC,decide_eq_true_eq];by_cases h1:x.cps.toList<y.cps.toList
   . exact .inl h1
   . by_cases h2:y.cps.toList<x.cps.toList
     . exact .inr (.inr h2)
     . exact .inr (.inl (by rw[Hb (List.le_antisymm (List.not_lt.mp h2) (List.not_lt.mp h1))]))
theorem Hd {a b:Key}(h:iC a b=true):a≠b:=λe=>by
 rw[e,G_] at h;cases h
noncomputable def gf:List Key->List Key->Bool
 |[],[]=>false
 |[],_::_=>true
 |_::_,[]=>false
 |x::xs,y::ys=>if x=y then gf xs ys else iC x y
theorem qL:∀a:List Key,gf a a=false
 |[]=>rfl
 |x::xs=>by
  show(if x=x then gf xs xs else iC x x)=false;rw[if_pos rfl];exact qL xs
theorem oB (x y:Key)(xs ys:List Key):gf (x::xs) (y::ys)=if x=y then gf xs ys else iC x y:=rfl
theorem mR:∀(a b c:List Key),gf a b=true->gf b c=true->gf a c=true
 |[],[],_,h,_=>by cases h
 |[],_::_,[],_,h=>by cases h
 |[],_::_,_::_,_,_=>rfl
 |_::_,[],_,h,_=>by cases h
 |_::_,_::_,[],_,h=>by cases h
 |x::xs,y::ys,z::zs,h1,h2=>by
  rw[oB] at *;by_cases e1:x=y
  . subst e1;rw[if_pos rfl] at h1;by_cases J:x=z
    . rw[if_pos J] at h2 ⊢;exact mR xs ys zs h1 h2
    . rw[if_neg J] at h2 ⊢;exact h2
  . rw[if_neg e1] at h1;by_cases J:y=z
    . subst J;rw[if_neg e1];exact h1
    . rw[if_neg J] at h2;have q:=Ha h1 h2;rw[if_neg (Hd q)];exact q
theorem oE:∀a b:List Key,gf a b=true\/a=b\/gf b a=true
 |[],[]=>.inr (.inl rfl)
 |[],_::_=>.inl rfl
 |_::_,[]=>.inr (.inr rfl)
 |x::xs,y::ys=>by
  rw[oB,oB];by_cases e:x=y
  . subst e;rw[if_pos rfl,if_pos rfl];rcases oE xs ys with h|h|h
    . exact .inl h
    . exact .inr (.inl (by rw[h]))
    . exact .inr (.inr h)
  . rw[if_neg e,if_neg (λz=>e z.symm)];rcases Hc x y with h|h|h
    . exact .inl h
    . exact absurd h e
    . exact .inr (.inr h)
@[reducible] noncomputable def qM:KeyOrd where
  α:=List Key
  blt:=gf
  irrefl:=qL
  trans:=mR
  negTrans a b c h:=by
   rcases oE a b with q|q|q
   . exact .inl q
   . exact .inr (by rw[<-q];exact h)
   . exact .inr (mR b a c q h)
  total a b h1 h2:=by
   rcases oE a b with q|q|q
   . rw[h1] at q;cases q
   . exact q
   . rw[h2] at q;cases q
def km (a b:List Key):Prop:=gf b a=false
noncomputable def ik:Key->Bool
 | .inl _=>true
 | .inr _=>false
def Aw (J:List (List Key)):Prop:=∃L:List Bool,L≠[]/\∀U∈J,U.map ik=L
def mS (H:Hp):List V->List (List Key)->Prop:=Paired λk J=>∃p,k=.ref p/\H p=some (.tup (J.map kV))
section
variable {X:Cx}{pins:List (Addr × Obj)}{σ:St}{H:Hp}{s:Shared}
theorem tG {k:Key}{u:Value}(r:RelV (kV k) u):(∃i t,k=.inl i/\u=.int i t)\/∃x t,k=.inr x/\u=.str x t:=by
 cases k with
 |inl i=>
  obtain⟨t,rfl⟩:=r;exact .inl ⟨i,t,rfl,rfl⟩
 |inr x=>
  obtain⟨t,rfl⟩:=r;exact .inr ⟨x,t,rfl,rfl⟩
theorem tH {prog:Program}{w:World}{A:Around}{C:Bool->Shared->Prop}:∀(U Y:List Key) (J L:List Value) (i:Nat),Vals (U.map kV) J->Vals (Y.map kV) L->U.map ik=Y.map ik->C (gf U Y) s->
 W.KatLex prog w A true false C (J.zip L) i s
 |[],[],J,L,i,r1,r2,_,q=>by
  cases r1;cases r2;exact W.kat_nil q
 |[],_::_,_,_,_,_,_,h,_=>by cases h
 |_::_,[],_,_,_,_,_,h,_=>by cases h
 |x::xs,y::ys,J,L,i,r1,r2,h,q=>by
  cases r1 with
  |cons a1 b1=>
  cases r2 with
  |cons a2 b2=>
  have h1:ik x=ik y:=(List.cons.inj h).1;have h2:xs.map ik=ys.map ik:=(List.cons.inj h).2;rw[oB] at q;rcases tG a1 with⟨m,t,rfl,rfl⟩|⟨m,t,rfl,rfl⟩ <;> rcases tG a2 with⟨n,t',rfl,rfl⟩|⟨n,t',rfl,rfl⟩
  . refine W.kat_cons (wpAny_eqBool_int ?_);by_cases e:m=n
    . subst e;rw[if_pos rfl] at q;rw[beq_self_eq_true];exact W.kat_yes (tH xs ys _ _ (i+1) b1 b2 h2 q)
    . rw[if_neg (λz=>e (Sum.inl.inj z))] at q;rw[beq_false_of_ne e];refine W.kat_no ?_
      cases hi:(i == 0) with
      |true=>exact oneLt_int q
      |false=>exact W.kat_one _ _ (lt_int q)
  . cases h1
  . cases h1
  . refine W.kat_cons (wpAny_eqBool_str ?_);by_cases e:m=n
    . subst e;rw[if_pos rfl] at q;rw[decide_eq_true rfl];exact W.kat_yes (tH xs ys _ _ (i+1) b1 b2 h2 q)
    . rw[if_neg (λz=>e (Sum.inr.inj z))] at q;rw[decide_eq_false e];refine W.kat_no ?_
      cases hi:(i == 0) with
      |true=>exact oneLt_str q
      |false=>exact W.kat_one _ _ (lt_str q)
theorem Ax {ks:List V}{us:List Value}{J:List (List Key)}(I:Inv X pins σ H s)(r:Vals ks us)(hk:mS H ks J){i:Nat}(hi:i<us.length):
 ∃p L,us.getD i Value.none=.ref p/\IsTup s.heap p (List.toArray L)/\Vals ((J.getD i []).map kV) L/\J.getD i []∈J:=by
 have hl:=r.length;have aa:ks.length=J.length:=Paired.length hk;have e1:ks[i]? =some (ks[i]'(by omega)):=Q0a (by omega);obtain⟨u,hu,U⟩:=r.get e1;have Y:J.getD i []=J[i]'(by omega):=by rw[Q0m,Q0a (by omega)];rfl
 have key:∀(ks:List V) (J:List (List Key)),mS H ks J->∀i (h1:i<ks.length) (h2:i<J.length),∃p,ks[i]=.ref p/\H p=some (.tup (J[i].map kV)):=by
  intro ks J hk
  induction hk with
  |nil=>intro i h1;simp at h1
  |cons a b ih=>
   intro i h1 h2
   cases i with
   |zero=>exact a
   |succ i=>simpa using ih i (by simpa using h1) (by simpa using h2)
 obtain⟨p,hp,hH⟩:=key ks J hk i (by omega) (by omega);rw[hp] at U
 cases U;obtain⟨L,rv,tp,_⟩:=I.tuple (du.of hH);refine⟨p,L,by rw[Q0m,hu];rfl,tp,by rw[Y];exact rv,by rw[Y];exact Q1r _⟩
theorem Ay (I:Inv X pins σ H s){t:Bool}:∀{ks:List V}{us:List Value}{J:List (List Key)},Vals ks us->mS H ks J->(∀L∈J,∃k r,L=k::r/\ik k=t)->
 ∃fs,W.KatTups s.heap us fs/\fs.length=us.length/\∀v∈fs,(t=true/\∃i tk,v=.int i tk)\/(t=false/\∃x tk,v=.str x tk)
 |_,_,_,.nil,.nil,_=>⟨[],W.KatTups.nil,rfl,λv U=>nomatch U⟩
 |_,_,_,.cons a r,.cons b q,h=>by
  obtain⟨p,rfl,hp⟩:=b
  cases a;obtain⟨fs,Y,f2,f3⟩:=Ay I r q λL hm=>h L (Q0d _ hm);obtain⟨k,rr,rfl,hk⟩:=h _ Q05;obtain⟨aa,rv,⟨o,ho,hc,n,hd⟩,_⟩:=I.tuple (du.of hp)
  cases rv with
  |cons a1 b1=>
   refine⟨_::fs,W.KatTups.cons ho hc hd (by simp;rfl) Y,by rw[Q02,Q02,f2],λv U=>?_⟩;rcases List.mem_cons.mp U with e|e
   . subst e;rcases tG a1 with⟨i,tk,rfl,rfl⟩|⟨x,tk,rfl,rfl⟩
     . exact .inl ⟨hk.symm,i,tk,rfl⟩
     . exact .inr ⟨hk.symm,x,tk,rfl⟩
   . exact f3 v e
theorem He {A:Around}{ks:List V}{us:List Value}{J:List (List Key)}(I:Inv X pins σ H s)(r:Vals ks us)(hk:mS H ks J)(aa:Aw J):Asks X.prog X.w A s us (O:=qM) (λi=>J.getD i []):=by
 intro h2;obtain⟨ts,ab,L⟩:=aa
 obtain⟨t,tr,rfl⟩:∃t tr,ts=t::tr:=by
  cases ts with
  |nil=>exact absurd rfl ab
  |cons t tr=>exact⟨t,tr,rfl⟩
 have hh:∀kl∈J,∃k r,kl=k::r/\ik k=t:=λkl hm=>by
  have e:=L kl hm
  cases kl with
  |nil=>cases e
  |cons k r=>exact⟨k,r,rfl,(List.cons.inj e).1⟩
 obtain⟨fs,f1,f2,f3⟩:=Ay I r hk hh
 have fin:∀(i j:Nat) (C:Bool->Shared->Prop),i<us.length->j<us.length->C (gf (J.getD i []) (J.getD j [])) s->W.kas_ask X.prog X.w A (tuples' true) us i j C s:=by
  intro i j C hi hj q;unfold W.kas_ask;obtain⟨p,U,e1,⟨o,ho,hc,n,hd⟩,rv,m1⟩:=Ax I r hk hi;obtain⟨p',its',ac,⟨o',ae,ag,n',af⟩,Y,m2⟩:=Ax I r hk hj;rw[e1,ac];have ht:(J.getD i []).map ik=(J.getD j []).map ik:=(L _ m1).trans (L _ m2).symm
  have hl:U.length=its'.length:=by
   have:=congrArg List.length ht;rw[Q0b,Q0b] at this;rw[<-rv.length,<-Y.length,Q0b,Q0b,this]
  refine W.kat_lt ho hd ae af ?_;have ef:decide ((List.toArray U).size<(List.toArray its').size)=false:=by rw[Q0e,Q0e,hl];simp
  rw[ef];exact tH _ _ _ _ 0 rv Y ht q
 cases t with
 |true=>
  refine W.kat_kind (T:=.type "int") f1 (by omega) (λv hv=>?_) rfl ⟨rfl,fin⟩;rcases f3 v hv with⟨_,i,tk,rfl⟩|⟨z,_⟩
  . exact W.Looks.of_pure rfl
  . cases z
 |false=>
  refine W.kat_kind (T:=.type "str") f1 (by omega) (λv hv=>?_) rfl ⟨rfl,fin⟩;rcases f3 v hv with⟨z,_⟩|⟨_,x,tk,rfl⟩
  . cases z
  . exact W.Looks.of_pure rfl
end
def tJ (K:PySem.W.Frag) (P:Addr) (U:Pos) (qual:Str) (te:TE) (σ:St) (Q:VK):VK:=λx H1=>∃a xs,x=.ref a/\dy K H1 a xs/\xs.length<64/\d_ P U qual H1/\
 ∀c' H2,gO P U qual c' H2->(∀b o,b≠P->H1 b=some o->H2 b=some o)->
 ∃W:List V->Hp->Prop,W [] H2/\(∀ks J,W ks J->gO P U qual c' J)/\(∀ks J y,W ks J->xs[ks.length]? =some y->te (some y::σ) J λk Y=>W (ks++[k]) Y)/\
 ∀ks J,W ks J->ks.length=xs.length->∃L,mS J ks L/\Aw L/\∀p:List Nat,p.Perm (List.range xs.length)->(p.map λi=>L.getD i []).Pairwise km->∀D,J D=none->Q (.ref D) (upd J D (.lst (p.map λi=>xs.getD i .non)))
def Hf (K:W.Frag) (P:Addr) (J:Pos) (qual:Str) (tl te:TE):TE:=λσ H Q=>tl σ H (tJ K P J qual te σ Q)
section
variable {X:Cx}
theorem Hg {x:Str}{N':List Str}{l body:Expr}{L:Arguments}{scope:Scope}{lp kp p pos:Pos}{qual:Str}{c P:Addr}{tl te:TE}{k:Nat}(hg:Gl X "sorted")(hm:X.mg "sorted"=none)(hv:bootBuiltins "sorted"=some (.builtin "sorted"))(hr:eJ k X.A)(hq:X.env.qual++"<lambda>"=qual)(Y:X.env.code=.ref c)(C:PySem.W.CodeHd X.base c P)
 (B:BM X.mg X.base) (S:ki X x N' scope) (ab:defaultsOf L X.env=([],[])) (hb:∀(cl:List (Str × Addr)) (pm:Value) (c':Addr) (U u:Value),bindArgs (PySem.W.kla_fn "<lambda>" qual L body scope cl pm (.ref c') U) ⟨[u],[]⟩=pure [(x,u)])
 (hl:PE X l tl) (he:∀(cl:List (Str × Addr)) (f c':Addr) (s:Shared) (H:Hp),PE (qK X x N' scope cl qual f c' s H) body te) (hs:starEach [l] X.env=[(false,eval l X.env)]:=by rfl):
 PE X (.Call (.Name "sorted" p) [l] [⟨some "key",.Lambda L body scope lp,kp⟩] pos) (Hf X.K P lp qual tl te):=by
 intro pins s σ H Q I h;refine wpAny_Call_Name_kw (j0 I hg hm hv ?_);have ha:PA X [l] (fF tl hU):=a_ hl b_ (by rw[hs];rfl);refine callWith_kw (dD (ha pos pins s σ H (λvs H1=>match vs with|[x]=>tJ X.K P lp qual te σ Q x H1|_=>False) I h) λus s1 zq=>?_) (by rw[hs];rfl) (by rw[hs];rfl);obtain⟨vs,H1,I1,r1,q1⟩:=zq
 obtain⟨x',rfl⟩:∃x',vs=[x']:=by
  match vs,q1 with
  |[x'],_=>exact⟨x',rfl⟩
 have q1:tJ X.K P lp qual te σ Q x' H1:=q1;obtain⟨a,xs,rfl,ag,ah,T,cont⟩:=q1;obtain⟨u,rfl,ru⟩:=vals1 r1
 cases ru;show wpAny _ _ (evalAll [do let v <-eval (.Lambda L body scope lp) X.env;standAt pos;pure v]) _ _ s1;obtain⟨cl,aa,ac,ae⟩:=qF (scope:=scope) (env:=X.env) λy hy hf=>I1.ok.has y.1 (S.free y hy hf);refine wpAny_evalAll_cons (Q0 (PySem.W.kla_eval ab ?_));rw[hq];refine GR I1 Y C B T aa λf c' pm U H2 s2 I2 ai mono=>?_;refine Q0 (wpAny_standAt (Q08 (wpAny_evalAll_nil ?_)));show wpAny _ _ (call (.builtin "sorted") [.ref a] [(Str.ofString "key",.ref f)]) _ _ s2;obtain⟨W,w0,wL,wt,wf⟩:=cont c' H2 ai mono
 have aj:∃ps,H1 P=some (.fm ps):=by
  rcases T with e|⟨al,e,_⟩
  . exact⟨_,e⟩
  . exact⟨_,e⟩
 have ak:dy X.K H2 a xs:=by
  obtain⟨ps,hP⟩:=aj;rcases ag with(z|⟨o,z⟩)|z
  . exact .inl (.inl (mono a _ (fo z hP (by intro z;cases z)) z))
  . exact .inl (.inr ⟨o,mono a _ (fo z hP (by intro z;cases z)) z⟩)
  . exact .inr z
 refine dD (G9 (Q:=Q) (W:=W) I2 ak ah w0 (λpl s' H' ks y u J wk hy ry=>?_) λpl s' H' ks us J wk af rk=>?_) λr s' ⟨v,H',J,rv,q⟩=>⟨v,H',J.kF,rv,q⟩
 . exact GS J S hr.hd hr.depth ac ae (Q0u _ (Q09 _ Q05)) (wL ks H' wk).2 (hb cl pm c' U) ry (he cl f c') (wt ks H' y wk hy)
 . obtain⟨am,k1,k2,k3⟩:=wf ks H' wk af;exact⟨qM,_,He J rk k1 k2,λp p1 p2 D hD=>k3 p p1 p2 D hD⟩
end
noncomputable def Az (K:W.Frag) (a b:Addr):It:=
 ⟨λi H=>∃xs ys x y,dy K H a xs/\dy K H b ys/\xs[i]? =some x/\ys[i]? =some y,
  λi H v H'=>∃p x y,H p=none/\v=.ref p/\(∀xs,dy K H a xs->xs[i]? =some x)/\(∀ys,dy K H b ys->ys[i]? =some y)/\H'=upd H p (.tup [x,y]),
  λi H=>∃xs ys,dy K H a xs/\dy K H b ys/\(xs.length<=i\/ys.length<=i)⟩
theorem Hh {P:Program}{w:World}{K:W.Frag}{ai:List Expr}{k:Nat}{tpos:Pos}{z TI TO J L l1 l2:Addr}(D:ZipApart z TI TO J L l1 l2):
 Turn P w K (.Tuple ai k tpos) (Az K l1 l2) [z,TI,TO,J,L] z (λi h=>∃oa ob,IsZip h z TI TO .none/\IsPair h TI (.ref J) (.ref L)/\IsPair h TO oa ob/\h.IsListIter J l1 i/\h.IsListIter L l2 i) where
 mem:=by simp
 obj:=λi h st b U=>by
  obtain⟨oa,ob,h1,h2,h3,h4,h5⟩:=st;have U:b=z\/b=TI\/b=TO\/b=J\/b=L:=by simpa using U
  rcases U with rfl|rfl|rfl|rfl|rfl
  . exact⟨_,h1,λv y=>by
     have y:Data.fields _=Data.cell v:=y
     cases y⟩
  . exact⟨_,h2,λv y=>by
     have y:Data.seq _ _=Data.cell v:=y
     cases y⟩
  . exact⟨_,h3,λv y=>by
     have y:Data.seq _ _=Data.cell v:=y
     cases y⟩
  . obtain⟨o,q,c,d⟩:=h4;exact⟨o,q,λv y=>by rw[d] at y;cases y⟩
  . obtain⟨o,q,c,d⟩:=h5;exact⟨o,q,λv y=>by rw[d] at y;cases y⟩
 keep:=λi h h' st k=>by
  obtain⟨oa,ob,h1,h2,h3,h4,h5⟩:=st;exact⟨oa,ob,k z (by simp) _ h1,k TI (by simp) _ h2,k TO (by simp) _ h3,h4.at λo q=>k J (by simp) o q,h5.at λo q=>k L (by simp) o q⟩
 item:=by
  intro X hP hw hK hc i pins s σ H E I Y st hg;subst hP hw hK;obtain⟨oa,ob,h1,h2,h3,h4,h5⟩:=st;obtain⟨xs,ys,x,y,aa,ab,hx,hy⟩:=hg;obtain⟨aj,ae,p1,am⟩:=I.list aa;obtain⟨ak,af,p2,an⟩:=I.list ab;obtain⟨u1,ao,ap⟩:=ae.get hx;obtain⟨u2,aq,ar⟩:=af.get hy;have fr:H s.heap.objs.size=none:=I.hok.fresh (Q00 _);refine wpAny_pyNext_zip_item D h1 h2 h3 h4 h5 p1.isList p2.isList (x:=u1) (y:=u2) (by simpa using ao) (by simpa using aq) λh' q1 q2 q3 q4 q5 q6 q7=>?_;refine⟨_,rfl,wpAny_letOwnedTupleGo_zip (s:={ s with heap:=h' }) q1 λac g1 g2=>?_⟩
  have au:∀b∈[z,TI,TO,J,L],b<s.heap.objs.size:=λb U=>by
   have U:b=z\/b=TI\/b=TO\/b=J\/b=L:=by simpa using U
   rcases U with rfl|rfl|rfl|rfl|rfl
   . exact Q03 h1
   . exact Q03 h2
   . exact Q03 h3
   . obtain⟨o,q,_⟩:=h4;exact Q03 q
   . obtain⟨o,q,_⟩:=h5;exact Q03 q
  have av:∀b o,s.heap.get? b=some o->b≠s.heap.objs.size:=λb o q=>Q0c (Q03 q);have kk:∀b o,b≠z->b≠TO->b≠J->b≠L->s.heap.get? b=some o->ac.get? b=some o:=λb o n1 n2 n3 n4 q=>g2.extBut b o n1 (q7 b o n1 n2 n3 n4 q);have kn:∀b o,b ∉ [z,TO,J,L]->s.heap.get? b=some o->ac.get? b=some o:=λb o n q=>kk b o (λy=>n (by simp[y])) (λy=>n (by simp[y])) (λy=>n (by simp[y])) (λy=>n (by simp[y])) q;have tup:ac.get? s.heap.objs.size=some { cls:=.type "tuple",data:=.seq #[u1,u2] }:=g2.extBut _ _ (Q0r (Q03 h1)) q5
  have I1:Inv X pins σ (upd H s.heap.objs.size (.tup [x,y])) { s with heap:=ac }:=by
   refine I.step (g':=s.gens) (d':=s.drawn) (t':=s.toks) (ch:=[z,TO,J,L]) (λb U=>?_) (λb o _ _ hc q _=>kn b o hc q) (λb o _ _ hc q _=>⟨o.slots,kn b o hc q⟩) (λb o _ q n=>?_) (λb o hc q=>⟨o,kn b o hc q⟩) (λb ws q=>?_) (λb o v q=>?_) (λb ps q=>?_) (λm hm=>?_) (λb o q=>?_) I.bare
   . have ag:b∈[z,TI,TO,J,L]:=by
      have U:b=z\/b=TO\/b=J\/b=L:=by simpa using U
      rcases U with rfl|rfl|rfl|rfl <;> simp
     obtain⟨f0,f1,f2,f3,f4,f5⟩:=Y b ag;exact⟨f3,f1,f4,f5⟩
   . rw[dg (av b o q)];exact n
   . rw[dg (dA q fr)];exact q
   . rw[dg (dA q fr)];exact q
   . exact⟨#[],by rw[dg (dA q fr),q];simp⟩
   . obtain⟨o,es,ep,ho,r⟩:=hm;exact⟨o,es,ep,kk _ o (Ne.symm (Y z (by simp)).2.1) (Ne.symm (Y TO (by simp)).2.1) (Ne.symm (Y J (by simp)).2.1) (Ne.symm (Y L (by simp)).2.1) ho,r⟩
   . by_cases U:b=s.heap.objs.size
     . subst U;rw[dw] at q;cases q;exact⟨wq,[u1,u2],.cons ap (.cons ar .nil),⟨_,tup,rfl,_,rfl⟩⟩
     . rw[dg U] at q
       have nn:∀c v,H c=some v->c ∉ [z,TO,J,L]:=λc v e hm=>by
        have aw:c∈[z,TI,TO,J,L]:=by
         have hm:c=z\/c=TO\/c=J\/c=L:=by simpa using hm
         rcases hm with rfl|rfl|rfl|rfl <;> simp
        have:=(Y c aw).1;rw[e] at this;cases this
       refine(I.hok b o q).stay (λc v ah y=>kn c v ?_ y) (λc y=>by rw[dg (dA y fr)];exact y) λc ws y=>by rw[dg (dA y fr)];exact y
       rcases ah with y|y
       . rw[y];exact nn b o q
       . exact nn c _ y
  refine⟨.ref s.heap.objs.size,_,I1,rfl,⟨s.heap.objs.size,x,y,fr,rfl,λws hw=>by rw[I.nW hw aa];exact hx,λws hw=>by rw[I.nW hw ab];exact hy,rfl⟩,⟨u1,u2,g1,?_,?_,?_,?_⟩,λb U=>?_⟩
  . exact kk TI _ D.TIz D.TITO D.TIi1 D.TIi2 h2
  . exact g2.extBut _ _ D.TOz q2
  . exact q3.at λo q=>g2.extBut _ _ D.i1z q
  . exact q4.at λo q=>g2.extBut _ _ D.i2z q
  . rw[dg (Q0c (au b U))];exact(Y b U).1
 done:=by
  intro X hP hw hK hc i pins s σ H E I Y st hg;subst hP hw hK;obtain⟨oa,ob,h1,h2,h3,h4,h5⟩:=st;obtain⟨xs,ys,aa,ab,al⟩:=hg;obtain⟨aj,ae,p1,am⟩:=I.list aa;obtain⟨ak,af,p2,an⟩:=I.list ab;have e1:=ae.length;have e2:=af.length
  refine wpAny_pyNext_zip_end (I.ok.hd hc) D h1 h2 h3 h4 h5 p1.isList p2.isList (by
   rcases al with q|q
   . exact .inl (by simp;omega)
   . exact .inr (by simp;omega)) λh' hk=>⟨rfl,?_⟩
  refine I.step (g':=s.gens) (d':=s.drawn) (t':=s.toks) (ch:=[z,TO,J,L]) (λb U=>?_) (λb o _ _ hc q _=>?_) (λb o _ _ hc q _=>?_) (λb o _ q n=>n) (λb o hc q=>?_) (λb ys q=>q) (λb o v q=>q) (λb ps q=>⟨#[],by rw[q];simp⟩) (λm hm=>?_) (λb o q=>?_) I.bare
  . have ag:b∈[z,TI,TO,J,L]:=by
     have U:b=z\/b=TO\/b=J\/b=L:=by simpa using U
     rcases U with rfl|rfl|rfl|rfl <;> simp
    obtain⟨f0,f1,f2,f3,f4,f5⟩:=Y b ag;exact⟨f3,f1,f4,f5⟩
  . exact hk b o (λy=>hc (by simp[y])) (λy=>hc (by simp[y])) (λy=>hc (by simp[y])) (λy=>hc (by simp[y])) q
  . exact⟨o.slots,hk b o (λy=>hc (by simp[y])) (λy=>hc (by simp[y])) (λy=>hc (by simp[y])) (λy=>hc (by simp[y])) q⟩
  . exact⟨o,hk b o (λy=>hc (by simp[y])) (λy=>hc (by simp[y])) (λy=>hc (by simp[y])) (λy=>hc (by simp[y])) q⟩
  . obtain⟨o,es,ep,ho,r⟩:=hm;exact⟨o,es,ep,hk _ o (Ne.symm (Y z (by simp)).2.1) (Ne.symm (Y TO (by simp)).2.1) (Ne.symm (Y J (by simp)).2.1) (Ne.symm (Y L (by simp)).2.1) ho,r⟩
  . have nn:∀c v,H c=some v->∀y∈[z,TI,TO,J,L],c≠y:=λc v e y hy=>dA e (Y y hy).1;refine(I.hok b o q).stay (λc v ah y=>hk c v ?_ ?_ ?_ ?_ y) (λ_ y=>y) λ_ _ y=>y <;> (rcases ah with y|y)
    all_goals first
     |(rw[y];exact nn b o q _ (by simp))
     |exact nn c _ y _ (by simp)
 self:=λA i s Q E st q=>by
  obtain⟨oa,ob,h1,_⟩:=st;exact wpAny_pyIter_zip h1 q
def Hi (K:W.Frag) (ta:TA):TI:=λσ H R=>ta σ H λvs H1=>∃a b,vs=[.ref a,.ref b]/\(∃xs,dy K H1 a xs)/\(∃ys,dy K H1 b ys)/\R (Az K a b) H1
section
variable {X:Cx}
theorem Hj {aa:List Expr}{k:Nat}{tpos:Pos}{a b:Expr}{ta:TA}{p pos:Pos}(hg:Gl X "zip")(hm:X.mg "zip"=none)(ha:PA X [a,b] ta)(hs:starEach [a,b] X.env=[(false,eval a X.env),(false,eval b X.env)]:=by rfl)
 (Y:starEach [b] X.env=[(false,eval b X.env)]:=by rfl):PI X (.Tuple aa k tpos) (.Call (.Name "zip" p) [a,b] [] pos) (Hi X.K ta):=by
 intro pins s σ H R I h;refine Call_ (j0 I hg hm boot_zip (PyProof.Rows.callWith_type1 (dD (ha pos pins s σ H _ I h) λus J zq=>?_) (by rw[hs,Y]) (by rw[Y];rfl)));obtain⟨vs,H1,U,r1,q1⟩:=zq;obtain⟨l1,l2,e,⟨xs,ab⟩,⟨ys,ac⟩,q⟩:=q1;subst e;obtain⟨u1,u2,rfl,ae,af⟩:=vals2 r1
 cases ae
 cases af;obtain⟨ag,ai,p1,aj⟩:=U.list ab;obtain⟨ah,ak,p2,al⟩:=U.list ac;have a1:l1<J.heap.objs.size:=by obtain⟨_,e,_⟩:=p1.isList;exact Q03 e
 have a2:l2<J.heap.objs.size:=by obtain⟨_,e,_⟩:=p2.isList;exact Q03 e
 refine call_zip_2 p1.isList p2.isList λh' q1 q2 q3 q4 q5 q6 q7=>?_;refine wpAny_pyIter_zip q1 ?_;have I2:Inv X pins σ H1 { J with heap:=h' }:=U.kept (t':=J.toks) q7
 have Dz:ZipApart (J.heap.objs.size+4) (J.heap.objs.size+2) (J.heap.objs.size+3) J.heap.objs.size (J.heap.objs.size+1) l1 l2:=by
  have b1:@LT.lt Nat _ l1 J.heap.objs.size:=a1;have b2:@LT.lt Nat _ l2 J.heap.objs.size:=a2;constructor <;> (intro z;have z':(_:Nat)=_:=z;omega)
 refine⟨J.heap.objs.size+4,[J.heap.objs.size+4,J.heap.objs.size+2,J.heap.objs.size+3,J.heap.objs.size,J.heap.objs.size+1],_,_,H1,rfl,I2,Hh Dz,⟨.none,.none,q1,q2,q3,q4,q5⟩,λb L=>?_,q⟩
 have L:J.heap.objs.size<=b:=by
  have L:b=J.heap.objs.size+4\/b=J.heap.objs.size+2\/b=J.heap.objs.size+3\/b=J.heap.objs.size\/b=J.heap.objs.size+1:=by simpa using L
  rcases L with z|z|z|z|z <;> rw[z]
  . exact Q11 _ _
  . exact Q11 _ _
  . exact Q11 _ _
  . exact Q00 _
  . exact Q11 _ _
 exact U.jI L (U.hok.fresh L)
end
end L2
namespace HT
open PyProof.Rows L2
section
open SeqAt
open PySem.AutoSeq1 (wpAny_loadPart')
open MeetsSeq MeetsSeq2 MeetsSeq3
end
section
variable {prog:Program}{w:World}{A:Around}{E:Value->Shared->Prop}{s:Shared}
end
end HT
namespace L2
open Spec PyProof.Rows
section
variable {X:Cx}
end
section
variable {X:Cx}{pins:List (Addr × Obj)}{σ:St}{H:Hp}{s:Shared}
end
section
variable {M:Model}{A:Around}{E:Value->Shared->Prop}{s:Shared}
structure Tr (h:Heap) (e T:Addr) (cls fl:Value):Prop where
 ex:∃oe vs,h.get? e=some oe/\oe.cls=cls/\oe.dict=none/\oe.data=.fields vs/\vs[1]? =some (.ref T)
 tb:∃oT ts,h.get? T=some oT/\oT.data=.fields ts/\ts[3]? =some fl
 ne:T≠e
end
section
variable {X:Cx}{pins:List (Addr × Obj)}{σ:St}{H:Hp}{s:Shared}
end
section
variable {M:Model}{A:Around}{E:Value->Shared->Prop}{s:Shared}
end
section
variable {X:Cx}{pins:List (Addr × Obj)}{σ:St}{H:Hp}{s:Shared}
end
section
variable {X:Cx}{k:Nat}{f:Addr}{fd:FuncData}{ps:List Str}{sp:Sp}{gx:List V}{ds:List Value}{Ek:XK}{x:Str}{p pos:Pos}{e:Expr}{es:List Expr}{t:TA}{te:TE}
end
end L2
namespace L2
open Spec PyProof.Rows W
end L2
namespace L2
open Spec PyProof.Rows
section
variable {X:Cx}{pins:List (Addr × Obj)}{σ:St}{H:Hp}{s:Shared}
end
end L2
namespace L2
open Spec Calls PyProof.Rows W Builtin Builtin.ObjectAttr Builtin.Getset_descriptor
section
variable {prog:Program}{w:World}{A:Around}{E:Value->Shared->Prop}{K:Frag}{h:Heap}{g:Array GenState}{d:Drawn}{t:Nat}{os:OsState}{a C:Addr}{o:Obj}
end
end L2
namespace L2
open Spec PyProof.Rows
section
variable {X:Cx}{es:List Expr}{n k:Nat}{t:St->Hp->Prop}{pos:Pos}
end
noncomputable def gW (x:Str):List Key:=[Sum.inr x]
theorem Hk (x y:Str):gf (gW x) (gW y)=decide (x.cps.toList<y.cps.toList):=by
 unfold gW;rw[oB];by_cases e:(Sum.inr x:Key)=Sum.inr y
 . rw[if_pos e];have e:=Sum.inr.inj e;subst e;have h:¬x.cps.toList<x.cps.toList:=Q34 _;rw[decide_eq_false h];rfl
 . rw[if_neg e];rfl
section
variable {X:Cx}
end
variable {P:Program}{w:World}{K:W.Frag}{mg:Str->Option Value}{base:Heap}
section
variable {prog:Program}{w:World}{A:Around}{E:Value->Shared->Prop}{hp:Heap}{g:Array GenState}{dr:Drawn}{tk:Nat}{os:OsState}{C fI:Addr}{LB:List Value}{B nid LD:String}
end
end L2
namespace L2
open Spec Calls PyProof.Rows W Builtin Builtin.ObjectAttr
section
variable {prog:Program}{w:World}{A:Around}{E:Value->Shared->Prop}{s:Shared}{K:Frag}{x C:Addr}{ox:Obj}{name:Str}{v:Value}
end
end L2
namespace L2
open Spec Calls PyProof.Rows W Builtin Builtin.ObjectAttr Builtin.Getset_descriptor
section
variable {prog:Program}{w:World}{A:Around}{E:Value->Shared->Prop}{K:Frag}{h:Heap}{g:Array GenState}{d:Drawn}{t:Nat}{os:OsState}{a C dx:Addr}{o:Obj}{vs:Array Value}{mA:Str->Option Value}{name:Str}{v:Value}
end
end L2
namespace L2
open Spec PyProof.Rows
section
variable {M:Model}{A:Around}{E:Value->Shared->Prop}{s:Shared}
structure qN (h:Heap) (e T:Addr) (cls:Value) (dd:Option Addr) (fl:Value):Prop where
 ex:∃oe vs,h.get? e=some oe/\oe.cls=cls/\oe.dict=dd/\oe.data=.fields vs/\vs[1]? =some (.ref T)
 tb:∃oT ts,h.get? T=some oT/\oT.data=.fields ts/\ts[3]? =some fl
 ne:T≠e
end
section
variable {X:Cx}{pins:List (Addr × Obj)}{σ:St}{H:Hp}{s:Shared}
end
section
variable {M:Model}{A:Around}{E:Value->Shared->Prop}{s:Shared}
end
section
variable {X:Cx}{pins:List (Addr × Obj)}{σ:St}{H:Hp}{s:Shared}
end
section
variable {X:Cx}{k:Nat}{f:Addr}{fd:FuncData}{ps:List Str}{sp:Sp}{gx:List V}{ds:List Value}{Ek:XK}{x:Str}{p pos:Pos}{e:Expr}{es:List Expr}{t:TA}{te:TE}
end
section
variable {X:Cx}{pins:List (Addr × Obj)}{σ:St}{H:Hp}{s:Shared}
end
section
variable {X:Cx}
end
section
variable {X:Cx}{k:Nat}{f C:Addr}{fd:FuncData}{ps:List Str}{sp:Sp}{Ek:XK}{m:Str}{p pos apos:Pos}{e o:Expr}{es:List Expr}{t:TA}{te ta:TE}
end
noncomputable def hk (l:List Key) (q:Key):Bool:=l.any λx=>decide (x=q)
section
variable {prog:Program}{w:World}{A:Around}{R:Result->Shared->Prop}{I:Addr}{fp wr:List Addr}{G:Array GenState->Array GenState->Prop}{n:Nat}{Pp:Nat->Value->Prop}{St':Nat->Shared->Prop}
end
section
variable {X:Cx}
end
end L2
namespace L2
open StrLaws Builtin Builtin.Str
theorem sub_one (s:Str)(c i:Nat):subAt s ⟨#[c]⟩ i=decide (s.cps.toList[i]? =some c):=by
 unfold subAt
 have e:s.cps.extract i (i+Str.length ⟨#[c]⟩)=((s.cps.toList.drop i).take 1).toArray:=by
  show s.cps.extract i (i+1)=_;apply Array.ext';rw[Array.toList_extract,List.extract_eq_take_drop];simp
 rw[e]
 cases h:s.cps.toList[i]? with
 |none=>
  rw[Q35 (by rw[List.getElem?_eq_none_iff] at h;exact h)];rfl
 |some d=>
  obtain⟨hi,J⟩:=List.getElem?_eq_some_iff.mp h;rw[Q1c hi,J];show(#[d] == #[c])=_;simp;rfl
theorem occ_first (s:Str)(c hi:Nat):∀(l:List Nat) (free:Nat),(∀i∈l,free<=i)->
 (forIn l ((#[]:Array Nat),free) (occBody s ⟨#[c]⟩ hi 1)).run.fst.toList=(l.find? λi=>decide (i+1<=hi) && decide (s.cps.toList[i]? =some c)).toList
 |[],free,_=>rfl
 |a::l,free,U=>by
  rw[Q1k];unfold occBody;have Y:free<=a:=U a Q05;by_cases hc:a+1<=hi/\s.cps.toList[a]? =some c
  . rw[if_pos (⟨⟨⟨by simp,Y⟩,hc.1⟩,by rw[sub_one];exact decide_eq_true hc.2⟩)];rw[Q36 (by rw[decide_eq_true hc.1,decide_eq_true hc.2];rfl)]
    have J:∀(l:List Nat) (L:Nat),(forIn l ((#[a]:Array Nat),L) (occBody s ⟨#[c]⟩ hi 1)).run.fst=#[a]:=by
     intro l
     induction l with
     |nil=>intro L;rfl
     |cons b l ih=>
      intro L;rw[Q1k];unfold occBody;rw[if_neg (by rintro⟨⟨⟨h,_⟩,_⟩,_⟩;exact absurd h (by simp))];exact ih L
    show(forIn l ((#[a]:Array Nat),_) (occBody s ⟨#[c]⟩ hi 1)).run.fst.toList=_;rw[J];rfl
  . rw[if_neg (by rintro⟨⟨_,h1⟩,h2⟩;rw[sub_one] at h2;exact hc ⟨h1,of_decide_eq_true h2⟩)]
    rw[Q37 (by
     intro h;rw[Bool.and_eq_true] at h;exact hc ⟨of_decide_eq_true h.1,of_decide_eq_true h.2⟩)]
    exact occ_first s c hi l free λi hi=>U i (Q0d _ hi)
theorem Hl (s:Str)(c lo:Nat)(aa:lo<=s.length):Txt.find3 s ⟨#[c]⟩ lo=if((s.cps.toList.drop lo).takeWhile λd=>d != c).length=(s.cps.toList.drop lo).length then -1 else((lo+((s.cps.toList.drop lo).takeWhile λd=>d != c).length:Nat):Int):=by
 have U:fromIndex s.length (lo:Int)=lo:=by
  unfold fromIndex;rw[if_neg (by omega)];omega
 unfold Txt.find3;rw[U,occ_eq,occ_first _ _ _ _ _ (λi h=>by rw[List.mem_range'] at h;obtain⟨k,_,rfl⟩:=h;omega)];have J:s.cps.toList.length=s.length:=Q1h
 have key:∀(r:List Nat) (p:Nat),s.cps.toList.drop p=r->p+r.length=s.length->((List.range' p (s.length+1 - p)).find? λi=>decide (i+1<=s.length) && decide (s.cps.toList[i]? =some c))=if(r.takeWhile λd=>d != c).length=r.length then none else some (p+(r.takeWhile λd=>d != c).length):=by
  intro r
  induction r with
  |nil=>
   intro p L hp;have:s.length+1 - p=1:=by simp at hp;omega
   rw[this];simp at hp
   rw[List.find?_eq_none.mpr (by
    intro x hx;rw[List.mem_range'] at hx;obtain⟨k,hk,rfl⟩:=hx;rw[decide_eq_false (by omega),Bool.false_and];decide)]
   simp
  |cons d r ih=>
   intro p L hp;have ab:p<s.length:=by rw[Q02] at hp;omega
   have hd:s.cps.toList[p]? =some d:=by
    have:=congrArg List.head? L;rw[List.head?_drop] at this;exact this
   have Y:s.cps.toList.drop (p+1)=r:=by
    have:=congrArg List.tail L;rw[List.tail_drop] at this;exact this
   have hs:s.length+1 - p=(s.length+1 - (p+1))+1:=by omega
   rw[hs,List.range'_succ];by_cases e:d=c
   . rw[Q36 (by rw[decide_eq_true (show p+1<=s.length by omega),hd,e,decide_eq_true rfl];rfl)];rw[Q1t (by rw[e];simp),if_neg (by simp)];rfl
   . rw[Q37 (by rw[hd,decide_eq_false (show ¬some d=some c by intro z;injection z with z;exact e z),Bool.and_false];decide)];rw[ih (p+1) Y (by rw[Q02] at hp;omega),Q2a (by rw[bne_iff_ne];exact e)];rw[Q02,Q02];by_cases z:(r.takeWhile λd=>d != c).length=r.length
     . rw[if_pos z,if_pos (by omega)]
     . rw[if_neg z,if_neg (by omega)];congr 1;omega
 rw[key (s.cps.toList.drop lo) lo rfl (by rw[Q0z,J];omega)];by_cases z:((s.cps.toList.drop lo).takeWhile λd=>d != c).length=(s.cps.toList.drop lo).length
 . rw[if_pos z,if_pos z];rfl
 . rw[if_neg z,if_neg z];rfl
end L2
namespace L2
open NumText
theorem AA:∀(fs:List Nat) (a:Array Nat) (b:Bool),(∀c∈fs,48<=c/\c<=57)->∃ds,fs.foldlM (NumText.step 10) (a,b)=some (ds,if fs=[] then b else true)
 |[],a,b,_=>⟨a,rfl⟩
 |c::fs,a,b,h=>by
  obtain⟨h1,h2⟩:=h c Q05;obtain⟨ds,e⟩:=AA fs (a.push (c - 48)) true λd J=>h d (Q0d _ J);refine⟨ds,?_⟩
  have L:NumText.step 10 (a,b) c=some (a.push (c - 48),true):=by
   unfold NumText.step;rw[if_neg (by simp;omega)]
   have J:digit? c=some (c - 48):=by
    unfold digit?;rw[if_pos (by simp;omega)]
   rw[J];show(if c - 48<10 then _ else _)=_;rw[if_pos (by omega)]
  rw[List.foldlM_cons,L];show fs.foldlM (NumText.step 10) (a.push (c - 48),true)=_;rw[e,if_neg (Q12 c fs)];simp
theorem int_text {x:Str}{sg:Bool}{fs:List Nat}(hx:x.cps.toList=(if sg then [45] else [])++fs)(L:∀c∈fs,48<=c/\c<=57)(h0:fs≠[])(h6:fs.length<=640):(intText? x).isSome=true:=by
 have Y:x.cps.all (· <128)=true:=by
  rw[<-Array.all_toList,hx,List.all_append,Bool.and_eq_true];constructor
  . cases sg <;> rfl
  . rw[Q17];intro c hc;have:=L c hc;exact decide_eq_true (by omega)
 have ht:numTextOf x=(if sg then [45] else [])++fs:=by
  show(if x.cps.all (· <128)=true then x.cps.toList else _)=_;rw[if_pos Y,hx]
 have aa:∀c∈(if sg then [45] else [])++fs,(c != 0)=true:=by
  intro c hc;rw[List.mem_append] at hc;rcases hc with hc|hc
  . cases sg
    . cases hc
    . rw[List.mem_singleton.mp hc];rfl
  . have:=L c hc;rw[bne_iff_ne];omega
 have hs:numSeenOf x=(if sg then [45] else [])++fs:=by
  show(numTextOf x).takeWhile (· != 0)=_;rw[ht];have:=Q2b (p:=(· != 0)) (l₁:=(if sg then [45] else [])++fs) (l₂:=[]) aa;rw[Q0n] at this;rw[this];simp
 have nb:∀c,(48<=c/\c<=57)->blank c=false:=by
  intro c h;unfold blank;rw[Bool.or_eq_false_iff,Bool.and_eq_false_iff];refine⟨by simp;omega,?_⟩;right;exact decide_eq_false (by omega)
 have ab:((if sg then [45] else [])++fs).dropWhile blank=(if sg then [45] else [])++fs:=by
  cases sg with
  |true=>rfl
  |false=>
   cases fs with
   |nil=>rfl
   |cons c fs=>exact Q38 (by rw[nb c (L c Q05)];decide)
 have ac:(sign ((if sg then [45] else [])++fs)).2=fs:=by
  cases sg with
  |true=>rfl
  |false=>
   cases fs with
   |nil=>exact absurd rfl h0
   |cons c fs=>
    have:=L c Q05;show(sign (c::fs)).2=c::fs;unfold sign;split
    . rename_i e;injection e with e _;omega
    . rename_i e;injection e with e _;omega
    . rfl
 have J:core ((if sg then [45] else [])++fs)=fs:=by
  unfold core;rw[ab,ac]
  have:fs.reverse.dropWhile blank=fs.reverse:=by
   cases e:fs.reverse with
   |nil=>rfl
   |cons c r=>
    exact Q38 (by rw[nb c (L c (by rw[<-List.mem_reverse,e];exact Q05))];decide)
  rw[this,List.reverse_reverse]
 obtain⟨ds,hd⟩:=AA fs #[] false L;rw[if_neg h0] at hd
 have U:digits? 10 fs=some ds:=by
  unfold digits?;rw[hd];rfl
 unfold intText?;rw[hs,ht,if_pos (by simp),J,U];have hz:=digits_size U;show(if ds.size<=4300 then some _ else none).isSome=true;rw[if_pos (by omega)];rfl
end L2
namespace L2
end L2
namespace L2
open Builtin Builtin.Str
theorem oF (x:List Nat):∀(k a:Nat),a+k<=x.length->((List.range k).map λi=>a+i).filterMap (x[·]?)=(x.drop a).take k
 |0,a,_=>by simp
 |k+1,a,h=>by
  rw[List.range_succ_eq_map,Q0y,Q1m];have h1:x[a+0]? =some (x[a]'(by omega)):=Q0a (by omega);rw[h1];have J:=oF x k (a+1) (by omega);rw[Q1c (show a<x.length by omega),List.take_succ_cons,<-J,List.map_map]
  have e:(List.range k).map ((λi=>a+i) ∘ Nat.succ)=(List.range k).map λi=>a+1+i:=Q27 λi _=>by
   show a+(i+1)=a+1+i;omega
  rw[e]
theorem Hm (x:Str)(l u:Option Nat):(Txt.slice x (l.map Int.ofNat) (u.map Int.ofNat)).cps.toList=(x.cps.toList.take (u.getD x.length)).drop (l.getD 0):=by
 have J:x.cps.toList.length=x.length:=Q1h
 have L:strSliceIndices (l.map Int.ofNat) (u.map Int.ofNat) 1 x.length=(List.range (min (u.getD x.length) x.length - min (l.getD 0) x.length)).map λi=>min (l.getD 0) x.length+i:=by
  unfold strSliceIndices
  have Y:∀(o:Option Nat) (d:Nat),d<=x.length->(match o.map Int.ofNat with|none=>(d:Int)|some i=>max 0 (min (if i<0 then i+(x.length:Int) else i) (x.length:Int)))=((min (o.getD d) x.length:Nat):Int):=by
   intro o d hd
   cases o with
   |none=>show(d:Int)=((min d x.length:Nat):Int);rw[Nat.min_eq_left hd]
   |some i=>
    show max 0 (min (if(Int.ofNat i)<0 then _ else Int.ofNat i) (x.length:Int))=((min i x.length:Nat):Int);rw[if_neg (by simp)];show max 0 (min (i:Int) (x.length:Int))=_;omega
  have e1:=Y l 0 (Q06 _);have e2:=Y u x.length (Q00 _);have hs:(1:Int) > 0:=by decide
  have E:sliceRange (match l.map Int.ofNat with|none=>((0:Nat):Int)|some i=>max 0 (min (if i<0 then i+(x.length:Int) else i) (x.length:Int))) (match u.map Int.ofNat with|none=>(x.length:Int)|some i=>max 0 (min (if i<0 then i+(x.length:Int) else i) (x.length:Int))) 1=sliceRange ((min (l.getD 0) x.length:Nat):Int) ((min (u.getD x.length) x.length:Nat):Int) 1:=by rw[e1,e2]
  refine Eq.trans (by cases l <;> cases u <;> rfl) (Eq.trans E ?_);unfold sliceRange;simp only[hs,if_true];generalize min (l.getD 0) x.length=a;generalize min (u.getD x.length) x.length=b
  have hc:(if(a:Int)<(b:Int) then((b:Int) - (a:Int)+1 - 1) / 1 else 0).toNat=b - a:=by
   split
   . rw[Int.ediv_one];omega
   . show(0:Int).toNat=_;omega
  rw[hc];apply Q27;intro i _;omega
 have U:((strSliceIndices (l.map Int.ofNat) (u.map Int.ofNat) 1 x.length).filterMap (x.cps[·]?))=(x.cps.toList.take (u.getD x.length)).drop (l.getD 0):=by
  rw[L];have:=oF x.cps.toList (min (u.getD x.length) x.length - min (l.getD 0) x.length) (min (l.getD 0) x.length);have e:(λi:Nat=>x.cps[i]?)=λi=>x.cps.toList[i]? :=by funext i;simp
  rw[e];rcases Nat.le_total (min (l.getD 0) x.length) (min (u.getD x.length) x.length) with h|h
  . rw[this (by rw[J];omega)];apply List.ext_getElem?;intro i;rw[Q39,Q28,Q28,Q39];by_cases Y:l.getD 0+i<x.length
    . by_cases c2:l.getD 0+i<u.getD x.length
      . rw[if_pos (by omega),if_pos c2];congr 1;omega
      . rw[if_neg (by omega),if_neg c2]
    . have n1:∀j,x.length<=j->x.cps.toList[j]? =none:=λj hj=>List.getElem?_eq_none_iff.mpr (by omega);rw[n1 (l.getD 0+i) (by omega)];split
      . rw[n1 _ (by omega)];split <;> rfl
      . split <;> rfl
  . rw[show min (u.getD x.length) x.length - min (l.getD 0) x.length=0 by omega];show []=_
    symm
    apply Q35;rw[Q0k,J];omega
 unfold Txt.slice;split
 . rename_i h
   have hl:(strSliceIndices (l.map Int.ofNat) (u.map Int.ofNat) 1 x.length).length=x.length:=by
    rw[Bool.and_eq_true] at h;exact of_decide_eq_true (by simpa using h.2)
   rw[<-U,L];rw[L,Q0b,Q1x] at hl;have e:(λi:Nat=>x.cps[i]?)=λi=>x.cps.toList[i]? :=by funext i;simp
   rw[e,hl];rcases Nat.eq_zero_or_pos x.length with z|z
   . rw[z];have:x.cps.toList=[]:=List.length_eq_zero_iff.mp (by rw[J];exact z);rw[this];rfl
   . have h0:min (l.getD 0) x.length=0:=by omega
     rw[h0,oF _ _ _ (by omega),List.drop_zero,Q1d (by omega)]
 . exact U
end L2
namespace L2
open Spec PyProof.Rows
section
variable {X:Cx}
theorem AB:f6 X (compareOp .GtE) (λx y H Q=>∃i j,x=.str i/\y=.str j/\Q (.bl (!decide (i.cps.toList<j.cps.toList))) H):=by
 intro pins s σ H x y v u Q I J L h;obtain⟨i,j,rfl,rfl,q⟩:=h;obtain⟨t,rfl⟩:=J;obtain⟨t',rfl⟩:=L;exact PySem.P.ge_str (fc I q rfl)
theorem AD:f6 X (compareOp .LtE) (λx y H Q=>∃i j,x=.str i/\y=.str j/\Q (.bl (!decide (j.cps.toList<i.cps.toList))) H):=by
 intro pins s σ H x y v u Q I J L h;obtain⟨i,j,rfl,rfl,q⟩:=h;obtain⟨t,rfl⟩:=J;obtain⟨t',rfl⟩:=L;exact PySem.P.le_str (fc I q rfl)
theorem AF {a b:Nat}:(([a]:List Nat)<[b])↔a<b:=by
 rw[List.cons_lt_cons_iff];simp
theorem Hn:oi X "str.find" (λx vs H Q=>∃z y,∃i:Int,x=.str z/\vs=[.str y,.int i]/\Q (.int (Txt.find3 z y i)) H):=by
 intro pins s σ H x vs v us Q I J L h;obtain⟨z,y,i,rfl,rfl,q⟩:=h;obtain⟨t,rfl⟩:=J;obtain⟨u1,u2,rfl,U,Y⟩:=vals2 L;obtain⟨t1,rfl⟩:=U;obtain⟨t2,rfl⟩:=Y;exact SC.find3 ⟨.int _,H,I.tok _,⟨_,rfl⟩,q⟩
theorem Ho:jm X (.type "int") (λxs H Q=>∃z n,xs=[.str z]/\z.length<=640/\intText? z=some n/\Q (.int n) H):=by
 intro pins s σ H xs us Q I r h;obtain⟨z,n,rfl,hl,J,q⟩:=h;obtain⟨u,rfl,t,rfl⟩:=vals1 r;exact W.KIN.call_text J hl ⟨.int n,H,I.tok _,⟨_,rfl⟩,q⟩
theorem AG:jm X (.type "str") (λxs H Q=>∃i:Int,xs=[.int i]/\i.natAbs.log2<1920/\Q (.str (Str.ofString (toString i))) H):=by
 intro pins s σ H xs us Q I r h;obtain⟨i,rfl,hl,q⟩:=h;obtain⟨u,rfl,t,rfl⟩:=vals1 r;exact PySem.P.str_of_int hl ⟨.str _,H,I.tok _,⟨_,rfl⟩,q⟩
end
variable {P:Program}{w:World}{K:W.Frag}{mg:Str->Option Value}{base:Heap}
theorem jt.AH {x qual:Str}{st:Stmt}{f c:Addr}{fd:FuncData}{N ps:List Str}{k:Nat}{sp:Sp}(F:jt K x qual st f fd)(hc:fd.code=.ref c)(S:d9 N ps (dN st))(len:∀vs H Q E,sp vs H Q E->vs.length=ps.length)
 (J:∀(A:Around) (outer:List Env) (s:Shared) (H:Hp) (vs:List V) (Q:VK) (E:XK),eJ k (A.deeper (envOfC qual (dN st) s.heap.objs.size f (.ref c)))->sp vs H Q E->
   ∃t,g9 (d5 dm P w K mg base N qual (dN st) f (.ref c) A outer s H E).d8 (gJ st) t/\t { nx:=λ_ H'=>Q .non H',rt:=Q } (start N vs) H):dj P w K mg base dm (k+1) f fd ps sp:=by
 obtain⟨oc,od,kV,aa,pm,an,L,ct,ab,rfl,lk,U⟩:=F.ex;have hc:L=.ref c:=hc;subst hc;refine zI lk U S len λA outer s H vs Q E hr Y=>?_;obtain⟨t,h,q⟩:=J A outer s H vs Q E hr Y;exact⟨t,h.d8,q⟩
def qO (J:List Addr) (H:Hp):Prop:=∀b,H b=none\/(∃o xs,H b=some (.fb o (.lst xs)))\/(b∈J/\H b=some (.fm #[]))
theorem Hq {P:Program}{w:World}{K:W.Frag}{mg mb:Str->Option Value}{CX:jo}{k:Nat}{fa a:Addr}{fd:FuncData}{x:Str}{sp:Sp}{J:Shared}{vs:List Value}{ns:List Int}{L:List (Addr × Addr)}
 (KX:K.In J.heap) (hT:W.TabsAt L J.heap) (aq:W.noTabs K=true) (ar:BM mg J.heap) (ai:J.heap.Ns mainGlobals mg) (U:J.heap.Ns builtinsNs mb) (au:∀x:Str,x≠"__name__"->mb x=bootBuiltins x) (an:J.heap.NoLimit) (hg:J.gens=#[])
 (ha:J.heap.get? a=some { cls:=.type "list",data:=.seq vs.toArray }) (hi:IntsAre vs ns) (hl:ns.length<=sizeLine) (hr:eJ k callerA)
 (F:∀base:Heap,K.In base->base.Ns mainGlobals mg->BM mg base->dj P w K mg base CX k fa fd [x] sp) (ah:∀(s:Shared) (u:Value),BindsTo s fd ⟨[u],[]⟩ [(x,u)])
 (av:∀H:Hp,qO (L.map (·.2)) H->(∀q∈L,H q.2=some (.fm #[]))->dy K H a (ns.map V.int)->sp [.ref a] H (λv _=>v=.bl true) λ_ _ _=>False)
 (aw:∀H e s',CX [] H J (λ_ _ _=>False) e s'->False):
 codeAny (model P w) callerA (.call (.ref fa) ⟨[.ref a],[]⟩) (λr s'=>r=.ok (.ret (.bool true))/\OldK J.heap s'.heap/\s'.os=J.os/\AllBare s'.gens) J:=by
 have rv:=z6 hi;have ao:=hi.length
 have aa:∀b,b∈L.map (·.2)->J.heap.get? b=some (W.tabObj #[]):=λb hm=>by
  obtain⟨q,hq,rfl⟩:=List.mem_map.mp hm;exact(hT q hq).2
 have aj:a ∉ L.map (·.2):=λhm=>by
  have:=aa a hm;rw[ha] at this;cases this
 have core:∀H:Hp,qO (L.map (·.2)) H->(∀q∈L,H q.2=some (.fm #[]))->dy K H a (ns.map V.int)->ft P w H J.heap->(∀b,H b≠none->b=a\/b∈L.map (·.2))->(H a≠none->K.lookup a=none)->
  codeAny (model P w) callerA (.call (.ref fa) ⟨[.ref a],[]⟩) (λr s'=>r=.ok (.ret (.bool true))/\OldK J.heap s'.heap/\s'.os=J.os/\AllBare s'.gens) J:=by
  intro H hO ak hS al hA hK;have Y:∀{b:Addr} {o:Obj},J.heap.get? b=some o->H b=none->(jZ J.heap H).get? b=some o:=λe n=>EC e n
  have ac:∀{b:Addr} {o:Obj},J.heap.get? b=some o->(∀us n,o.data≠ .seq us n)->(∀us,o.data≠ .fields us)->H b=none:=λ{b o} e d1 d2=>by
   cases q:H b with
   |none=>rfl
   |some u=>
    rcases hA b (by rw[q];simp) with e'|e'
    . subst e';rw[ha] at e;cases e;exact absurd rfl (d1 _ _)
    . rw[aa b e'] at e;cases e;exact absurd rfl (d2 _)
  have af:∀{b:Addr} {m:Str->Option Value},J.heap.Ns b m->(jZ J.heap H).Ns b m:=λ{b m} ⟨o,es,ep,e,d,r⟩=>⟨o,es,ep,Y e (ac e (by rw[d];intro us n z;cases z) (by rw[d];intro us z;cases z)),d,r⟩
  have am:K.In (jZ J.heap H):=λb o e=>Y (KX b o e) (by
   cases q:H b with
   |none=>rfl
   |some u=>
    rcases hA b (by rw[q];simp) with e'|e'
    . subst e';rw[hK (by rw[q];simp)] at e;cases e
    . have e2:=KX b o e;rw[aa b e'] at e2;cases e2;have:=List.all_eq_true.mp aq _ (W.mem_of_lookupK e);simp at this)
  have hM:Mod K mg (jZ J.heap H):=⟨am,af ai,⟨mb,af U,au⟩,let⟨mc,h1,h2⟩:=an;⟨mc,af h1,h2⟩⟩
  have ax:BM mg (jZ J.heap H):=by
   obtain⟨bm,o,b1,b2,b3,b4,b5,b6,b7⟩:=ar;exact⟨bm,o,b1,b2,b3,Y b4 (ac b4 (by rw[b7];intro us n z;cases z) (by rw[b7];intro us z;cases z)),b5,b6,b7⟩
  have e0:j7 P w K mg (jZ J.heap H) callerA [] J H:=⟨rfl,hM,λb o e=>ED e,Q23 (EB _ _),trivial,λb U=>absurd (show b∈([]:List Addr) from U) (by simp),al,.of_eq hg⟩;refine codeAny_mono ((F _ am (af ai) ax).run callerA [] J H ⟨[.ref a],[]⟩ [.ref a] [.ref a] _ _ hr e0 (ah J (.ref a)) (.cons rfl .nil) (av H hO ak hS)) λr s' h=>?_
  cases r with
  |error e=>exact(aw H e s' h).elim
  |ok fl=>
   cases fl with
   |next=>exact False.elim h
   |brk=>exact False.elim h
   |cont=>exact False.elim h
   |ret u=>
    obtain⟨v,H',os,ap,un,ag,r',q⟩:=h;have q':v=.bl true:=q;subst q';obtain rfl:u=Value.bool true:=r'
    have ae:∀b,b∈L.map (·.2)->∃ps,s'.heap.get? b=some (W.tabObj ps):=λb hm=>by
     obtain⟨q,hq,rfl⟩:=List.mem_map.mp hm;obtain⟨ay,e⟩:=un.jF _ _ (ak q hq);exact⟨_,ag _ _ e⟩
    have keep:∀b o,b ∉ L.map (·.2)->J.heap.get? b=some o->s'.heap.get? b=some o:=λb o U e=>by
     cases q:H b with
     |none=>exact un.keep b o e q (by intro z;exact absurd (show b∈([]:List Addr) from z) (by simp)) (by simp)
     |some u=>
      rcases hO b with z|⟨ob,xs,z⟩|⟨z,_⟩
      . rw[q] at z;cases z
      . have z2:=un.ji b ob _ z;obtain⟨e1,_⟩:=al b _ z;obtain⟨e2,_⟩:=ag b _ z2;rw[e] at e1;cases e1;exact e2
      . exact absurd z U
    refine⟨rfl,⟨λb o e=>?_,λb o e=>?_⟩,os,ap⟩
    . by_cases U:b∈L.map (·.2)
      . obtain⟨ps,hP⟩:=ae b U;have e2:=aa b U;rw[e] at e2;cases e2;obtain⟨q,hq,rfl⟩:=List.mem_map.mp U;exact .inr (.inl ⟨((hT q hq).1.tab (hT q hq).2).isCodeTable,rfl,#[],ps,rfl,by rw[Q2q];exact hP⟩)
      . exact .inl (keep b o U e)
    . by_cases U:b∈L.map (·.2)
      . obtain⟨ps,hP⟩:=ae b U;exact⟨_,hP⟩
      . exact⟨o,keep b o U e⟩
 cases hk:K.lookup a with
 |some o=>
  have e:=KX a o hk;rw[ha] at e
  cases e;refine core (λb=>if b∈L.map (·.2) then some (.fm #[]) else none) (λb=>?_) (λq hq=>if_pos (Q1y hq)) (.inr ⟨_,vs.toArray,_,hk,rfl,rfl,rfl,by rw[Q0e,ao];exact hl,by simpa using rv⟩) (λb u z=>?_) (λb z=>?_) λz=>absurd (if_neg aj) z
  . by_cases U:b∈L.map (·.2)
    . exact .inr (.inr ⟨U,if_pos U⟩)
    . exact .inl (if_neg U)
  . by_cases U:b∈L.map (·.2)
    . have z':=(if_pos U).symm.trans z
      cases z';exact aa b U
    . have z':=(if_neg U).symm.trans z
      cases z'
  . by_cases U:b∈L.map (·.2)
    . exact .inr U
    . exact absurd (if_neg U) z
 |none=>
  refine core (λb=>if b∈L.map (·.2) then some (.fm #[]) else if b=a then some (.fb { cls:=.type "list",data:=.seq vs.toArray } (.lst (ns.map V.int))) else none) (λb=>?_) (λq hq=>if_pos (Q1y hq))
   (.inl (.inr ⟨{ cls:=.type "list",data:=.seq vs.toArray },(if_neg aj).trans (if_pos rfl)⟩)) (λb u z=>?_) (λb z=>?_) λ_=>hk
  . by_cases U:b∈L.map (·.2)
    . exact .inr (.inr ⟨U,if_pos U⟩)
    . by_cases ab:b=a
      . exact .inr (.inl ⟨_,_,(if_neg U).trans (if_pos ab)⟩)
      . exact .inl ((if_neg U).trans (if_neg ab))
  . by_cases U:b∈L.map (·.2)
    . have z':=(if_pos U).symm.trans z
      cases z';exact aa b U
    . have z:=(if_neg U).symm.trans z;by_cases ab:b=a
      . have z':=(if_pos ab).symm.trans z
        cases z';subst ab;exact⟨ha,by rw[Q0b];exact hl,vs,_,rv,ha⟩
      . have z':=(if_neg ab).symm.trans z
        cases z'
  . by_cases U:b∈L.map (·.2)
    . exact .inr U
    . by_cases ab:b=a
      . exact .inl ab
      . exact absurd ((if_neg U).trans (if_neg ab)) z
theorem Hr {l:W.OpenLaw}{n k:Nat}{q:Program}{loose:List Str}{XP:(Str->Option Value)->Heap->Prop}{YP:World->Heap->Prop}{d:DefRec}{K:Params->W.Frag}{sp:World->List (Addr × Addr)->Sp}{x:Str}{names:List Str}
 (hn:l.most=some n) (ae:n<=sizeLine) (af:d.params.defaults=[]) (hr:eJ k callerA)
 (hY:∀(w:World) (h:Heap),YP w h->(K w.params).In h) (ag:∀w:World,W.noTabs (K w.params)=true)
 (tb:∀w:World,∃J:List (Addr × Addr),(∀q'∈J,∃y∈names,W.tabIn (K w.params) y=some q')/\
   (∀(mg:Str->Option Value) (fa:Addr) (h:Heap),(K w.params).In h->h.Ns mainGlobals mg->mg d.name=some (.ref fa)->
   ∃fd:FuncData,(∀(s:Shared) (u:Value),BindsTo s fd ⟨[u],[]⟩ [(x,u)])/\
    ∀base:Heap,(K w.params).In base->base.Ns mainGlobals mg->BM mg base->dj l.prog w (K w.params) mg base dm k fa fd [x] (sp w J)))
 (ab:∀y∈names,∃d',(recsOf q).find? (λe=>e.name == y)=some d')
 (ah:∀(w:World) (J:List (Addr × Addr)) (H:Hp) (a:Addr) (ns:List Int),ns.length<=n->qO (J.map (·.2)) H->(∀q∈J,H q.2=some (.fm #[]))->dy (K w.params) H a (ns.map V.int)->sp w J [.ref a] H (λv _=>v=.bl true) λ_ _ _=>False):
 W.WalkO q loose XP YP l.row.toRowW d [] (λf vs=>PySem.call f vs):=by
 refine zZ.Gs hn af λw s₀ L mg mb fa o pm cd am a vs ns G Y ho hd an ai ac aa U hg=>?_;have KX:=hY w _ Y;obtain⟨J,ht,F⟩:=tb w;obtain⟨fd,hb,hF⟩:=F mg fa _ KX G.T.g ai
 have hT:W.TabsAt J L.heap:=λq' hq=>by
  obtain⟨y,hy,aj⟩:=ht q' hq;obtain⟨d',ak⟩:=ab y hy;exact W.tab_of G.T KX ak aj
 have al:BM mg L.heap:=by
  obtain⟨bm,ob,b1,b2,b3,b4,b5,b6⟩:=G.T.bmain;refine⟨bm,ob,b1,b2,λz=>?_,b3,b4,b5,b6⟩;obtain⟨o',es,ep,e,hd,_⟩:=G.T.g;rw[z,e] at b3;cases b3;rw[hd] at b6;cases b6
 exact Hq KX hT (ag w) al G.T.g G.T.b G.T.builtins G.T.nolimit hg ac aa (Q07 U ae) hr hF hb (λH hO hP hS=>ah w J H a ns U hO hP hS) λH e s' h=>h.elim
end L2
namespace Pb
open L2 PyProof.Rows
mutual
inductive Kd where
 |num
 |eM
 |dG (fs:Fs)
 |rows (key by_:Str) (fs:Fs)
 |tree (k:Kd)
 |eR (fs:Fs)
inductive Fs where
 |nil
 |cons (x:Str) (k:Kd) (r:Fs)
end
mutual
inductive D where
 |int (z:Int)
 |str (x:Str)
 |tup (xs:Ds)
 |lst (xs:Ds)
 |dct (m:Ds)
inductive Ds where
 |nil
 |cons (x:Str) (d:D) (r:Ds)
end
mutual
noncomputable def Kd.dep:Kd->Nat
 | .num=>1
 | .eM=>1
 | .dG fs=>fs.dep+1
 | .rows _ _ fs=>fs.dep+1
 | .tree k=>k.dep+1
 | .eR fs=>fs.dep+1
noncomputable def Fs.dep:Fs->Nat
 | .nil=>0
 | .cons _ k r=>max k.dep r.dep
end
mutual
noncomputable def D.dep:D->Nat
 | .int _=>1
 | .str _=>1
 | .tup xs=>xs.dep+1
 | .lst xs=>xs.dep+1
 | .dct m=>m.dep+1
noncomputable def Ds.dep:Ds->Nat
 | .nil=>0
 | .cons _ d r=>max d.dep r.dep
end
theorem Kd.gB (k:Kd):1<=k.dep:=by cases k <;> simp[Kd.dep]
theorem D.gB (d:D):1<=d.dep:=by cases d <;> simp[D.dep]
noncomputable def Fs.names:Fs->List Str
 | .nil=>[]
 | .cons x _ r=>x::r.names
noncomputable def Fs.get:Fs->Str->Option Kd
 | .nil,_=>none
 | .cons y k r,x=>if x=y then some k else r.get x
noncomputable def Fs.at:Fs->Nat->Option (Str × Kd)
 | .nil,_=>none
 | .cons x k _,0=>some (x,k)
 | .cons _ _ r,i+1=>r.at i
noncomputable def Fs.snoc:Fs->Str->Kd->Fs
 | .nil,x,k=>.cons x k .nil
 | .cons y q r,x,k=>.cons y q (r.snoc x k)
noncomputable def Fs.take:Fs->Nat->Fs
 | .nil,_=>.nil
 | .cons _ _ _,0=>.nil
 | .cons x k r,i+1=>.cons x k (r.take i)
theorem Fs.tK:∀(fs:Fs) (x:Str) (k:Kd),(fs.snoc x k).names=fs.names++[x]
 | .nil,_,_=>rfl
 | .cons y q r,x,k=>by
   show y::(r.snoc x k).names=_;rw[Fs.tK r x k];rfl
theorem Fs.tN:∀(fs:Fs) (x:Str) (k:Kd),(fs.snoc x k).dep=max fs.dep k.dep
 | .nil,_,k=>by simp[Fs.snoc,Fs.dep]
 | .cons y q r,x,k=>by
   show max q.dep (r.snoc x k).dep=max (max q.dep r.dep) k.dep;rw[Fs.tN r x k,Nat.max_assoc]
theorem Fs.iD:∀(fs:Fs) (i:Nat),fs.names[i]? =(fs.at i).map (·.1)
 | .nil,i=>by simp[Fs.names,Fs.at]
 | .cons x k r,0=>by simp[Fs.names,Fs.at]
 | .cons x k r,i+1=>by
   show(x::r.names)[i+1]? =_;rw[List.getElem?_cons_succ,Fs.iD r i];rfl
theorem Fs.lh:∀{fs:Fs}{i:Nat},i<fs.names.length->∃x k,fs.at i=some (x,k)
 | .nil,i,h=>by simp[Fs.names] at h
 | .cons x k r,0,h=>⟨x,k,rfl⟩
 | .cons x k r,i+1,h=>Fs.lh (fs:=r) (i:=i) (by simpa[Fs.names] using h)
theorem Fs.iU:∀{fs:Fs}{i:Nat}{x:Str}{k:Kd},fs.at i=some (x,k)->k.dep<=fs.dep
 | .nil,_,_,_,h=>by cases h
 | .cons x k r,0,_,_,h=>by
   cases h;exact Q2c _ _
 | .cons x k r,i+1,_,_,h=>Q07 (Fs.iU (fs:=r) (i:=i) h) (Q2d _ _)
theorem Fs.mT:∀{fs:Fs}{i:Nat}{x:Str}{k:Kd},fs.names.Nodup->fs.at i=some (x,k)->fs.get x=some k
 | .nil,_,_,_,_,h=>by cases h
 | .cons y q r,0,x,k,_,h=>by
   cases h;simp[Fs.get]
 | .cons y q r,i+1,x,k,J,h=>by
   have J:(y::r.names).Nodup:=J;obtain⟨L,U⟩:=List.nodup_cons.mp J;have h:r.at i=some (x,k):=h;have Y:x∈r.names:=Q0x (i:=i) (by rw[Fs.iD,h];rfl);show(if x=y then some q else r.get x)=some k;rw[if_neg (λe=>L (by rw[<-e];exact Y))];exact Fs.mT U h
theorem Fs.take_succ:∀{fs:Fs}{i:Nat}{x:Str}{k:Kd},fs.at i=some (x,k)->fs.take (i+1)=(fs.take i).snoc x k
 | .nil,_,_,_,h=>by cases h
 | .cons y q r,0,x,k,h=>by
   cases h
   cases r <;> rfl
 | .cons y q r,i+1,x,k,h=>by
   show Fs.cons y q (r.take (i+1))=Fs.cons y q ((r.take i).snoc x k);rw[Fs.take_succ (fs:=r) (i:=i) h]
theorem Fs.take_zero (fs:Fs):fs.take 0=.nil:=by cases fs <;> rfl
theorem Fs.take_all:∀(fs:Fs),fs.take fs.names.length=fs
 | .nil=>rfl
 | .cons x k r=>by
   show Fs.cons x k (r.take r.names.length)=_;rw[Fs.take_all r]
def mU:Kd->Prop
 | .num=>True
 | .eM=>True
 |_=>False
def Fs.pl (fs:Fs) (x:Str):Prop:=∃k,fs.get x=some k/\mU k
def jM (x:Str):Prop:=x.cps.toList≠[]/\x.cps.toList.length<=12/\∀c∈x.cps.toList,97<=c/\c<=122
theorem jM.ne {x:Str}(h:jM x):x≠"":=λe=>h.1 (by rw[e];rfl)
mutual
def Kd.W:Kd->Prop
 | .num=>True
 | .eM=>True
 | .dG fs=>fs.names.Nodup/\fs.names.length<=3/\fs.W
 | .rows key J fs=>fs.names.Nodup/\fs.names.length<=3/\fs.W/\fs.pl key/\(J=""\/fs.pl J)
 | .tree k=>k.W
 | .eR fs=>fs.names.Nodup/\fs.names.length<=3/\1<=fs.names.length/\fs.W
def Fs.W:Fs->Prop
 | .nil=>True
 | .cons x k r=>k.W/\jM x/\r.W
end
theorem Fs.l6:∀{fs:Fs}{i:Nat}{x:Str}{k:Kd},fs.W->fs.at i=some (x,k)->k.W
 | .nil,_,_,_,_,h=>by cases h
 | .cons x k r,0,_,_,w,h=>by
   unfold Fs.W at w
   cases h;exact w.1
 | .cons x k r,i+1,_,_,w,h=>by
   unfold Fs.W at w;exact Fs.l6 (fs:=r) (i:=i) w.2.2 h
theorem Fs.tO {x:Str}{k:Kd}(hk:k.W)(J:jM x):∀{fs:Fs},fs.W->(fs.snoc x k).W
 | .nil,_=>by
   show(Fs.cons x k .nil).W;unfold Fs.W;exact⟨hk,J,by unfold Fs.W;trivial⟩
 | .cons y q r,h=>by
   unfold Fs.W at h;show(Fs.cons y q (r.snoc x k)).W;unfold Fs.W;exact⟨h.1,h.2.1,Fs.tO hk J h.2.2⟩
noncomputable def Ds.get:Ds->Str->Option D
 | .nil,_=>none
 | .cons y d r,x=>if x=y then some d else r.get x
noncomputable def keyOf (m:Ds) (x:Str):Key:=match m.get x with
 |some (.int z)=>.inl z
 |some (.str s)=>.inr s
 |_=>.inl 0
noncomputable def rankOf (key J:Str) (m:Ds):List Key:=if J="" then [keyOf m key] else [keyOf m J,keyOf m key]
theorem Hs {key J:Str}{a b:Ds}(h:rankOf key J a=rankOf key J b):keyOf a key=keyOf b key:=by
 unfold rankOf at h;split at h
 . exact(List.cons.inj h).1
 . exact(List.cons.inj (List.cons.inj h).2).1
def qP (key J:Str) (a b:Ds):Prop:=gf (rankOf key J a) (rankOf key J b)=true
def l7 (key J:Str) (a b:Ds):Prop:=km (rankOf key J a) (rankOf key J b)
noncomputable def ins (key J:Str) (m:Ds):List Ds->List Ds
 |[]=>[m]
 |y::q=>if gf (rankOf key J y) (rankOf key J m)=true then y::ins key J m q else m::y::q
noncomputable def kM (key J:Str):List Ds->List Ds
 |[]=>[]
 |m::r=>ins key J m (kM key J r)
theorem tQ (key J:Str)(m:Ds):∀l:List Ds,(ins key J m l).Perm (m::l)
 |[]=>List.Perm.refl _
 |y::q=>by
  unfold ins;split
  . exact((tQ key J m q).cons y).trans (List.Perm.swap m y q)
  . exact List.Perm.refl _
theorem ko (key J:Str):∀l:List Ds,(kM key J l).Perm l
 |[]=>List.Perm.refl _
 |m::r=>(tQ key J m _).trans ((ko key J r).cons m)
theorem Hu {a b:List Key}(h:gf a b=true):km a b:=KeyOrd.kle_of_klt (O:=qM) h
theorem Hv {a b c:List Key}(h1:km a b)(h2:km b c):km a c:=KeyOrd.kle_trans (O:=qM) h1 h2
theorem AI (key J:Str)(m:Ds):∀{l:List Ds},l.Pairwise (l7 key J)->(ins key J m l).Pairwise (l7 key J)
 |[],_=>Q29 _ _
 |y::q,h=>by
  obtain⟨h1,h2⟩:=List.pairwise_cons.mp h;unfold ins;by_cases c:gf (rankOf key J y) (rankOf key J m)=true
  . rw[if_pos c];refine List.pairwise_cons.mpr ⟨λz L=>?_,AI key J m h2⟩;rcases List.mem_cons.mp ((tQ key J m q).mem_iff.mp L) with e|e
    . rw[e];exact Hu c
    . exact h1 z e
  . rw[if_neg c];have c':l7 key J m y:=by unfold l7 km;simpa using c
    refine List.pairwise_cons.mpr ⟨λz L=>?_,h⟩;rcases List.mem_cons.mp L with e|e
    . rw[e];exact c'
    . exact Hv c' (h1 z e)
theorem tR (key J:Str):∀l:List Ds,(kM key J l).Pairwise (l7 key J)
 |[]=>List.Pairwise.nil
 |m::r=>AI key J m (tR key J r)
theorem tT {key J:Str}{l:List Ds}(h:l.Pairwise (l7 key J))(U:(l.map λm=>keyOf m key).Nodup):l.Pairwise (qP key J):=by
 have L:l.Pairwise λa b=>keyOf a key≠keyOf b key:=List.pairwise_map.mp U;refine(h.and L).imp λ{a b} ⟨h1,h2⟩=>?_;rcases oE (rankOf key J a) (rankOf key J b) with q|q|q
 . exact q
 . exact absurd (Hs q) h2
 . have h1:gf (rankOf key J b) (rankOf key J a)=false:=h1;rw[h1] at q;cases q
theorem AJ {key J:Str}:∀{U L:List Ds},U.Perm L->U.Pairwise (qP key J)->L.Pairwise (qP key J)->U=L
 |[],L,p,_,_=>by rw[p.nil_eq]
 |a::r,[],p,_,_=>absurd p.length_eq (by simp)
 |a::r,b::q,p,h1,h2=>by
  obtain⟨a1,a2⟩:=List.pairwise_cons.mp h1;obtain⟨b1,b2⟩:=List.pairwise_cons.mp h2
  have e:a=b:=by
   have ha:a∈b::q:=p.mem_iff.mp Q05;have hb:b∈a::r:=p.mem_iff.mpr Q05;rcases List.mem_cons.mp ha with e|e
   . exact e
   . rcases List.mem_cons.mp hb with Y|Y
     . exact Y.symm
     . have z:=mR _ _ _ (a1 b Y) (b1 a e);rw[qL] at z;cases z
  subst e;rw[AJ ((List.perm_cons a).mp p) a2 b2]
theorem Hw {key J:Str}{l z:List Ds}(p:z.Perm l)(h:z.Pairwise (l7 key J))(L:(l.map λm=>keyOf m key).Nodup):z=kM key J l:=
 AJ (p.trans (ko key J l).symm) (tT h ((p.map _).nodup_iff.mpr L)) (tT (tR key J l) (((ko key J l).map _).nodup_iff.mpr L))
noncomputable def iE:List Ds->Ds
 |[]=>.nil
 |m::r=>.cons "" (.dct m) (iE r)
noncomputable abbrev pairD (a b:D):D:=.tup (.cons "" a (.cons "" b .nil))
mutual
def Tree (P:D->Prop):D->Prop
 | .tup xs=>tU P xs
 |_=>False
def tU (P:D->Prop):Ds->Prop
 | .cons _ t (.cons _ (.lst as) .nil)=>P t/\mV P as
 |_=>False
def mV (P:D->Prop):Ds->Prop
 | .nil=>True
 | .cons _ d r=>Tree P d/\mV P r
end
mutual
def i_:Kd->D->Prop
 | .num,d=>∃z,d=.int z
 | .eM,d=>∃x,d=.str x
 | .dG fs,d=>∃m,d=.dct m/\gP fs m
 | .rows key L fs,d=>∃J:List Ds,d=.lst (iE J)/\(∀m∈J,gP fs m)/\J.Pairwise (qP key L)/\(J.map λm=>keyOf m key).Nodup
 | .tree k,d=>Tree (i_ k) d
 | .eR fs,d=>∃x v,d=pairD (.str x) v/\ll fs x v
def gP:Fs->Ds->Prop
 | .nil,m=>m=.nil
 | .cons x k r,m=>∃d q,m=.cons x d q/\i_ k d/\gP r q
def ll:Fs->Str->D->Prop
 | .nil,_,_=>False
 | .cons y k r,x,v=>(x=y/\i_ k v)\/(x≠y/\ll r x v)
end
theorem gP.get:∀{fs:Fs}{m:Ds}{x:Str}{k:Kd},gP fs m->fs.get x=some k->∃d,m.get x=some d/\i_ k d
 | .nil,_,_,_,_,h=>by cases h
 | .cons y q r,m,x,k,f,h=>by
   unfold gP at f;obtain⟨d,t,rfl,J,L⟩:=f;have h:(if x=y then some q else r.get x)=some k:=h;by_cases e:x=y
   . rw[if_pos e] at h
     cases h;exact⟨d,by show(if x=y then some d else t.get x)=_;rw[if_pos e],J⟩
   . rw[if_neg e] at h;obtain⟨d',U,Y⟩:=gP.get L h;exact⟨d',by show(if x=y then some d else t.get x)=_;rw[if_neg e];exact U,Y⟩
theorem gP.plain {fs:Fs}{m:Ds}{x:Str}(f:gP fs m)(h:fs.pl x):(m.get x=some (.int 0)\/True)/\((∃z,m.get x=some (.int z)/\keyOf m x=.inl z/\fs.get x=some .num)\/∃s,m.get x=some (.str s)/\keyOf m x=.inr s/\fs.get x=some .eM):=by
 refine⟨.inr trivial,?_⟩;obtain⟨k,h1,h2⟩:=h;obtain⟨d,J,L⟩:=f.get h1
 cases k with
 |num=>
  unfold i_ at L;obtain⟨z,rfl⟩:=L;exact .inl ⟨z,J,by unfold keyOf;rw[J],h1⟩
 |eM=>
  unfold i_ at L;obtain⟨s,rfl⟩:=L;exact .inr ⟨s,J,by unfold keyOf;rw[J],h1⟩
 |dG _=>exact h2.elim
 |rows _ _ _=>exact h2.elim
 |tree _=>exact h2.elim
 |eR _=>exact h2.elim
theorem AK:∀{fs:Fs}{x:Str}{v:D},ll fs x v->x∈fs.names
 | .nil,_,_,h=>by unfold ll at h;exact h.elim
 | .cons y k r,x,v,h=>by
   unfold ll at h;rcases h with⟨e,_⟩|⟨_,h⟩
   . rw[e];exact Q05
   . exact Q0d _ (AK h)
noncomputable def l8:Option Kd->Bool
 |some .num=>true
 |_=>false
theorem gP.tag {fs:Fs}{m:Ds}{x:Str}(f:gP fs m)(h:fs.pl x):ik (keyOf m x)=l8 (fs.get x):=by
 rcases(f.plain h).2 with⟨z,_,e,g⟩|⟨s,_,e,g⟩ <;> rw[e,g] <;> rfl
theorem Hx {fs:Fs}{key J:Str}{m:Ds}(f:gP fs m)(h1:fs.pl key)(h2:J=""\/fs.pl J):(rankOf key J m).map ik=if J="" then [l8 (fs.get key)] else [l8 (fs.get J),l8 (fs.get key)]:=by
 unfold rankOf;split
 . show [ik (keyOf m key)]=_;rw[f.tag h1]
 . rename_i e;rcases h2 with z|z
   . exact absurd z e
   . show [ik (keyOf m J),ik (keyOf m key)]=_;rw[f.tag h1,f.tag z]
noncomputable def cellAt (ns:List Int) (n:Int):Int:=if 0<ns.length then ns.getD (n % (ns.length:Int)).toNat 0 else 0
noncomputable def nx (ns:List Int) (n:Int):Int:=
 ((cellAt ns n % 2147483647+n * n * 7919+11) * 48271 % 2147483647) * ((cellAt ns n % 2147483647+n * n * 7919+11) * 48271 % 2147483647) % 1999999973
theorem tV (ns:List Int)(n:Int):0<=nx ns n:=Q0i _ (by decide)
theorem tW (ns:List Int)(n:Int):nx ns n<1999999973:=Q0h _ (by decide)
noncomputable def num (ns:List Int) (n:Int):Int:=
 if nx ns n % 3=0 then nx ns n / 3 % 7 - 3 else(cellAt ns n % 10 ^ 40+nx ns n * 10 ^ 29) % (2 * 10 ^ 40) - 10 ^ 40
noncomputable def iV:Str:=" !#$&'()*+,-./0123456789:;<=>?@ABCDEFGHIJKLMNOPQRSTUVWXYZ"++"[\\]^_`abcdefghijklmnopqrstuvwxyz{|}~"
noncomputable def jw (m:Int):Nat->Str
 |0=>""
 |k+1=>jw m k++⟨#[(iV.cps.toList.getD ((m / 145+(k:Int) * (k:Int) * (m / 7 % 3)) % 93).toNat 0)]⟩
noncomputable def eM (ns:List Int) (n:Int):Str:=jw (nx ns n) (if nx ns n / 5 % 29=0 then 40 else(nx ns n % 5).toNat)
noncomputable def times (g:Int->D × Int):Nat->Int->Ds × Int
 |0,n=>(.nil,n)
 |m+1,n=>(.cons "" (g n).1 (times g m (g n).2).1,(times g m (g n).2).2)
noncomputable def fh (ns:List Int) (f:Nat->Int->D × Int):Nat->Nat->Int->D × Int
 |0,_,n=>(.int 0,n)
 |fu+1,J,n=>
  (pairD (f (J / 2) n).1 (.lst (times (fh ns f fu (J / 2)) (nx ns ((f (J / 2) n).2+1) % ((J:Int)+1)).toNat ((f (J / 2) n).2+1)).1),
    (times (fh ns f fu (J / 2)) (nx ns ((f (J / 2) n).2+1) % ((J:Int)+1)).toNat ((f (J / 2) n).2+1)).2)
noncomputable def mW (key:Str) (l:List Ds) (k:Key):Bool:=l.any λr=>decide (keyOf r key=k)
noncomputable def eF (g:Int->Ds × Int) (key:Str):Nat->List Ds->Int->List Ds × Int
 |0,J,n=>(J,n)
 |m+1,J,n=>if mW key J (keyOf (g n).1 key)=true then eF g key m J (g n).2 else eF g key m (J++[(g n).1]) (g n).2
mutual
noncomputable def val (ns:List Int):Kd->Nat->Int->D × Int
 | .num,_,n=>(.int (num ns (n+1)),n+1)
 | .eM,_,n=>(.str (eM ns (n+1)),n+1)
 | .dG fs,J,n=>(.dct (dW ns fs J n).1,(dW ns fs J n).2)
 | .rows key L fs,J,n=>
   (.lst (iE (kM key L (eF (dW ns fs (J / 2)) key (nx ns (n+1) % ((J:Int)+1)).toNat [] (n+1)).1)),(eF (dW ns fs (J / 2)) key (nx ns (n+1) % ((J:Int)+1)).toNat [] (n+1)).2)
 | .tree k,J,n=>fh ns (val ns k) 4 J n
 | .eR fs,J,n=>gg ns fs (nx ns (n+1) % (fs.names.length:Int)).toNat J (n+1)
noncomputable def dW (ns:List Int):Fs->Nat->Int->Ds × Int
 | .nil,_,n=>(.nil,n)
 | .cons x k r,J,n=>(.cons x (val ns k J n).1 (dW ns r J (val ns k J n).2).1,(dW ns r J (val ns k J n).2).2)
noncomputable def gg (ns:List Int):Fs->Nat->Nat->Int->D × Int
 | .nil,_,_,n=>(.int 0,n)
 | .cons x k _,0,J,n=>(pairD (.str x) (val ns k J n).1,(val ns k J n).2)
 | .cons _ _ r,i+1,J,n=>gg ns r i J n
end
theorem qQ {g:Int->Ds × Int}{key:Str}:∀(m:Nat) (J:List Ds) (n:Int),(J.map λr=>keyOf r key).Nodup->((eF g key m J n).1.map λr=>keyOf r key).Nodup
 |0,_,_,h=>h
 |m+1,J,n,h=>by
  unfold eF;split
  . exact qQ m J _ h
  . rename_i c;refine qQ m _ _ ?_;rw[Q0p];refine List.nodup_append.mpr ⟨h,by simp,λa L b U=>?_⟩;have:b=keyOf (g n).1 key:=by simpa using U
    rw[this];obtain⟨r,Y,e⟩:=List.mem_map.mp L;exact λe2=>c (List.any_eq_true.mpr ⟨r,Y,decide_eq_true (e.trans e2)⟩)
theorem l9 {g:Int->Ds × Int}{key:Str}{R:Ds->Prop}(L:∀n,R (g n).1):∀(m:Nat) (J:List Ds) (n:Int),(∀r∈J,R r)->∀r∈(eF g key m J n).1,R r
 |0,_,_,h=>h
 |m+1,J,n,h=>by
  unfold eF;split
  . exact l9 L m J _ h
  . refine l9 L m _ _ λr U=>?_;rcases List.mem_append.mp U with q|q
    . exact h r q
    . have:r=(g n).1:=by simpa using q
      rw[this];exact L n
theorem AL {P:D->Prop}{g:Int->D × Int}(J:∀n,Tree P (g n).1):∀(m:Nat) (n:Int),mV P (times g m n).1
 |0,_=>by unfold times mV;trivial
 |m+1,n=>by
  unfold times mV;exact⟨J n,AL J m _⟩
theorem AN {ns:List Int}{P:D->Prop}{f:Nat->Int->D × Int}(L:∀J n,J<8->P (f J n).1):∀(fu J:Nat) (n:Int),J<8->J<2 ^ fu->Tree P (fh ns f (fu+1) J n).1
 |0,J,n,_,h=>by
  have e:J=0:=by simpa using h
  subst e;unfold fh
  have U:(nx ns ((f (0 / 2) n).2+1) % (((0:Nat):Int)+1)).toNat=0:=by
   have:nx ns ((f (0 / 2) n).2+1) % (((0:Nat):Int)+1)=0:=by
    show _ % (1:Int)=0;exact Int.emod_one _
   rw[this];rfl
  rw[U];unfold Tree tU;exact⟨L _ _ (by decide),by unfold times mV;trivial⟩
 |fu+1,J,n,h8,h=>by
  have Y:=λm=>AN (ns:=ns) L fu (J / 2) m (by omega) (by rw[Q2e] at h;omega);unfold fh;unfold Tree tU;exact⟨L _ _ (by omega),AL Y _ _⟩
mutual
theorem tX (ns:List Int):∀(k:Kd),k.W->∀(J:Nat) (n:Int),J<8->i_ k (val ns k J n).1
 | .num,_,J,n,_=>by unfold val i_;exact⟨_,rfl⟩
 | .eM,_,J,n,_=>by unfold val i_;exact⟨_,rfl⟩
 | .dG fs,w,J,n,h=>by
   unfold Kd.W at w;unfold val i_;exact⟨_,rfl,oG ns fs w.2.2 J n h⟩
 | .rows key L fs,w,J,n,h=>by
   unfold Kd.W at w;unfold val i_;have U:=qQ (g:=dW ns fs (J / 2)) (key:=key) (nx ns (n+1) % ((J:Int)+1)).toNat [] (n+1) Q1e;refine⟨_,rfl,λm Y=>?_,?_,?_⟩
   . exact l9 (R:=gP fs) (λn=>oG ns fs w.2.2.1 (J / 2) n (by omega)) _ _ _ (λr hr=>absurd hr (by simp)) m ((ko key L _).mem_iff.mp Y)
   . exact tT (tR key L _) (((ko key L _).map _).nodup_iff.mpr U)
   . exact((ko key L _).map _).nodup_iff.mpr U
 | .tree k,w,J,n,h=>by
   unfold Kd.W at w;unfold val i_;exact AN (λJ n h=>tX ns k w J n h) 3 J n h (by simpa using h)
 | .eR fs,w,J,n,h=>by
   unfold Kd.W at w;unfold val i_
   have hl:(nx ns (n+1) % (fs.names.length:Int)).toNat<fs.names.length:=by
    have:=Q0h (nx ns (n+1)) (show(0:Int)<fs.names.length by omega);have:=Q0i (nx ns (n+1)) (show(fs.names.length:Int)≠0 by omega);omega
   exact AO ns fs w.2.2.2 w.1 _ J _ h hl
theorem oG (ns:List Int):∀(fs:Fs),fs.W->∀(J:Nat) (n:Int),J<8->gP fs (dW ns fs J n).1
 | .nil,_,_,_,_=>by unfold dW gP;rfl
 | .cons x k r,w,J,n,h=>by
   unfold Fs.W at w;unfold dW gP;exact⟨_,_,rfl,tX ns k w.1 J n h,oG ns r w.2.2 J _ h⟩
theorem AO (ns:List Int):∀(fs:Fs),fs.W->fs.names.Nodup->∀(i J:Nat) (n:Int),J<8->i<fs.names.length->∃x v,(gg ns fs i J n).1=pairD (.str x) v/\ll fs x v
 | .nil,_,_,i,_,_,_,hi=>by simp[Fs.names] at hi
 | .cons x k r,w,L,0,J,n,h,hi=>by
   unfold Fs.W at w;unfold gg;exact⟨x,_,rfl,by unfold ll;exact .inl ⟨rfl,tX ns k w.1 J n h⟩⟩
 | .cons x k r,w,L,i+1,J,n,h,hi=>by
   unfold Fs.W at w;unfold gg;have L:(x::r.names).Nodup:=L;obtain⟨U,Y⟩:=List.nodup_cons.mp L;obtain⟨y,v,e,f⟩:=AO ns r w.2.2 Y i J n h (by simpa[Fs.names] using hi);refine⟨y,v,e,?_⟩;unfold ll;exact .inr ⟨λz=>U (by rw[<-z];exact AK f),f⟩
end
mutual
noncomputable def Kd.dB:Kd->Nat
 | .num=>1
 | .eM=>1
 | .dG fs=>fs.dB+1
 | .rows _ _ fs=>fs.dB+2
 | .tree k=>k.dB+10
 | .eR fs=>fs.dB+2
noncomputable def Fs.dB:Fs->Nat
 | .nil=>0
 | .cons _ k r=>max k.dB r.dB
end
mutual
noncomputable def Kd.cB:Kd->Nat
 | .num=>1
 | .eM=>1
 | .dG fs=>fs.cB
 | .rows _ _ fs=>8 * fs.cB+1
 | .tree k=>(k.cB+1) * 585
 | .eR fs=>fs.cB+1
noncomputable def Fs.cB:Fs->Nat
 | .nil=>0
 | .cons _ k r=>k.cB+r.cB
end
theorem AQ:∀{l:List Ds}{n:Nat},(∀m∈l,m.dep<=n)->(iE l).dep<=n+1
 |[],n,_=>by simp[iE,Ds.dep]
 |m::r,n,h=>by
  have h1:=h m Q05;have h2:=AQ (l:=r) (n:=n) λx J=>h x (Q0d _ J);simp only[iE,Ds.dep,D.dep];omega
theorem AR {g:Int->D × Int}{N:Nat}(J:∀n,(g n).1.dep<=N):∀(m:Nat) (n:Int),(times g m n).1.dep<=N
 |0,_=>by simp[times,Ds.dep]
 |m+1,n=>by
  have h1:=J n;have h2:=AR J m (g n).2;simp only[times,Ds.dep];omega
theorem AS {ns:List Int}{f:Nat->Int->D × Int}{N:Nat}(h1:1<=N)(L:∀J n,(f J n).1.dep<=N):∀(fu J:Nat) (n:Int),(fh ns f fu J n).1.dep<=N+2 * fu
 |0,_,_=>by simp[fh,D.dep];omega
 |fu+1,J,n=>by
  have a:=L (J / 2) n;have b:=AR (g:=fh ns f fu (J / 2)) (N:=N+2 * fu) (λn=>AS h1 L fu (J / 2) n) (nx ns ((f (J / 2) n).2+1) % ((J:Int)+1)).toNat ((f (J / 2) n).2+1);simp only[fh,D.dep,Ds.dep];omega
theorem Kd.Hy (k:Kd):1<=k.dB:=by cases k <;> simp[Kd.dB]
mutual
theorem qR (ns:List Int):∀(k:Kd) (J:Nat) (n:Int),(val ns k J n).1.dep<=k.dB
 | .num,_,_=>by simp[val,D.dep,Kd.dB]
 | .eM,_,_=>by simp[val,D.dep,Kd.dB]
 | .dG fs,J,n=>by
   have:=tY ns fs J n;simp only[val,D.dep,Kd.dB];omega
 | .rows key L fs,J,n=>by
   have:=AQ (l:=kM key L (eF (dW ns fs (J / 2)) key (nx ns (n+1) % ((J:Int)+1)).toNat [] (n+1)).1) (n:=fs.dB) λm U=>
    l9 (R:=λm=>m.dep<=fs.dB) (λn=>tY ns fs (J / 2) n) _ _ _ (λr Y=>absurd Y (by simp)) m ((ko key L _).mem_iff.mp U)
   simp only[val,D.dep,Kd.dB];omega
 | .tree k,J,n=>by
   have:=AS (ns:=ns) (f:=val ns k) k.Hy (λJ n=>qR ns k J n) 4 J n;simp only[val,Kd.dB];omega
 | .eR fs,J,n=>by
   have:=AU ns fs (nx ns (n+1) % (fs.names.length:Int)).toNat J (n+1);simp only[val,Kd.dB];omega
theorem tY (ns:List Int):∀(fs:Fs) (J:Nat) (n:Int),(dW ns fs J n).1.dep<=fs.dB
 | .nil,_,_=>by simp[dW,Ds.dep]
 | .cons x k r,J,n=>by
   have a:=qR ns k J n;have b:=tY ns r J (val ns k J n).2;simp only[dW,Ds.dep,Fs.dB];omega
theorem AU (ns:List Int):∀(fs:Fs) (i J:Nat) (n:Int),(gg ns fs i J n).1.dep<=fs.dB+2
 | .nil,_,_,_=>by simp[gg,D.dep]
 | .cons x k r,0,J,n=>by
   have a:=qR ns k J n;simp only[gg,D.dep,Ds.dep,Fs.dB];omega
 | .cons x k r,i+1,J,n=>by
   have a:=AU ns r i J n;simp only[gg,Fs.dB];omega
end
theorem mod_le {a:Int}{J:Nat}(h:J<8):(a % ((J:Int)+1)).toNat<=J:=by
 have:=Q0h a (show(0:Int)<(J:Int)+1 by omega);have:=Q0i a (show((J:Int)+1)≠0 by omega);omega
theorem tZ {g:Int->D × Int}{N:Nat}(J:∀n,n<=(g n).2/\(g n).2<=n+N):∀(m:Nat) (n:Int),n<=(times g m n).2/\(times g m n).2<=n+(m * N:Nat)
 |0,n=>by simp[times]
 |m+1,n=>by
  obtain⟨L,U⟩:=J n;obtain⟨Y,b2⟩:=tZ J m (g n).2;have e:(m+1) * N=m * N+N:=Q1f m N;simp only[times];rw[e];omega
noncomputable def kq:Nat->Nat
 |0=>0
 |n+1=>8 * kq n+1
theorem mY {ns:List Int}{f:Nat->Int->D × Int}{N:Nat}(L:∀J n,J<8->n<=(f J n).2/\(f J n).2<=n+N):∀(fu J:Nat) (n:Int),J<8->n<=(fh ns f fu J n).2/\(fh ns f fu J n).2<=n+((N+1) * kq fu:Nat)
 |0,_,n,_=>by simp[fh,kq]
 |fu+1,J,n,h=>by
  obtain⟨U,Y⟩:=L (J / 2) n (by omega);obtain⟨b1,b2⟩:=tZ (g:=fh ns f fu (J / 2)) (N:=(N+1) * kq fu) (λn=>mY L fu (J / 2) n (by omega)) (nx ns ((f (J / 2) n).2+1) % ((J:Int)+1)).toNat ((f (J / 2) n).2+1);have c:=mod_le (a:=nx ns ((f (J / 2) n).2+1)) h;have d:(nx ns ((f (J / 2) n).2+1) % ((J:Int)+1)).toNat * ((N+1) * kq fu)<=8 * ((N+1) * kq fu):=Q1 _ (by omega)
  have e:(N+1) * kq (fu+1)=8 * ((N+1) * kq fu)+(N+1):=by
   show(N+1) * (8 * kq fu+1)=_;rw[Nat.mul_add,Q3a,Nat.mul_one]
  simp only[fh];rw[e];omega
theorem qS {g:Int->Ds × Int}{key:Str}{N:Nat}(L:∀n,n<=(g n).2/\(g n).2<=n+N):∀(m:Nat) (J:List Ds) (n:Int),n<=(eF g key m J n).2/\(eF g key m J n).2<=n+(m * N:Nat)
 |0,_,n=>by simp[eF]
 |m+1,J,n=>by
  obtain⟨a1,a2⟩:=L n;have e:(m+1) * N=m * N+N:=Q1f m N;unfold eF;rw[e];split
  . obtain⟨U,Y⟩:=qS (key:=key) L m J (g n).2;omega
  . obtain⟨U,Y⟩:=qS (key:=key) L m (J++[(g n).1]) (g n).2;omega
mutual
theorem mZ (ns:List Int):∀(k:Kd) (J:Nat) (n:Int),J<8->n<=(val ns k J n).2/\(val ns k J n).2<=n+k.cB
 | .num,_,_,_=>by simp only[val,Kd.cB];omega
 | .eM,_,_,_=>by simp only[val,Kd.cB];omega
 | .dG fs,J,n,h=>by
   have:=oH ns fs J n h;simp only[val,Kd.cB];omega
 | .rows key L fs,J,n,h=>by
   obtain⟨U,Y⟩:=qS (g:=dW ns fs (J / 2)) (key:=key) (N:=fs.cB) (λn=>oH ns fs (J / 2) n (by omega)) (nx ns (n+1) % ((J:Int)+1)).toNat [] (n+1);have c:=mod_le (a:=nx ns (n+1)) h;have d:(nx ns (n+1) % ((J:Int)+1)).toNat * fs.cB<=8 * fs.cB:=Q1 _ (by omega);simp only[val,Kd.cB];omega
 | .tree k,J,n,h=>by
   have:=mY (ns:=ns) (f:=val ns k) (N:=k.cB) (λJ n h=>mZ ns k J n h) 4 J n h;have e:kq 4=585:=rfl;rw[e] at this;simp only[val,Kd.cB];omega
 | .eR fs,J,n,h=>by
   have:=AV ns fs (nx ns (n+1) % (fs.names.length:Int)).toNat J (n+1) h;simp only[val,Kd.cB];omega
theorem oH (ns:List Int):∀(fs:Fs) (J:Nat) (n:Int),J<8->n<=(dW ns fs J n).2/\(dW ns fs J n).2<=n+fs.cB
 | .nil,_,_,_=>by simp[dW,Fs.cB]
 | .cons x k r,J,n,h=>by
   have a:=mZ ns k J n h;have b:=oH ns r J (val ns k J n).2 h;simp only[dW,Fs.cB];omega
theorem AV (ns:List Int):∀(fs:Fs) (i J:Nat) (n:Int),J<8->n<=(gg ns fs i J n).2/\(gg ns fs i J n).2<=n+fs.cB
 | .nil,_,_,_,_=>by simp[gg,Fs.cB]
 | .cons x k r,0,J,n,h=>by
   have a:=mZ ns k J n h;simp only[gg,Fs.cB];omega
 | .cons x k r,i+1,J,n,h=>by
   have a:=AV ns r i J n h;simp only[gg,Fs.cB];omega
end
noncomputable def CB:Nat->Nat
 |0=>1
 |d+1=>1200 * CB d
theorem m4:∀d,1<=CB d
 |0=>Q00 _
 |d+1=>by have:=m4 d;show 1<=1200 * CB d;omega
mutual
theorem t7:∀(k:Kd) (d:Nat),k.W->k.dep<=d+1->k.cB<=CB d
 | .num,d,_,_=>m4 d
 | .eM,d,_,_=>m4 d
 | .dG fs,0,_,h=>by
   simp only[Kd.dep] at h
   cases fs with
   |nil=>simp[Kd.cB,Fs.cB]
   |cons x k r=>have:=k.gB;simp only[Fs.dep] at h;omega
 | .dG fs,d+1,w,h=>by
   unfold Kd.W at w;simp only[Kd.dep] at h;have:=qT fs d w.2.2 (by omega);have e:fs.names.length * CB d<=12 * CB d:=Q1 _ (Q07 w.2.1 (by decide));show fs.cB<=1200 * CB d;omega
 | .rows key J fs,0,w,h=>by
   simp only[Kd.dep] at h
   cases fs with
   |nil=>simp[Kd.cB,Fs.cB,CB]
   |cons x k r=>have:=k.gB;simp only[Fs.dep] at h;omega
 | .rows key J fs,d+1,w,h=>by
   unfold Kd.W at w;simp only[Kd.dep] at h;have:=qT fs d w.2.2.1 (by omega);have e:fs.names.length * CB d<=12 * CB d:=Q1 _ (Q07 w.2.1 (by decide));have p:=m4 d;show 8 * fs.cB+1<=1200 * CB d;omega
 | .tree k,0,w,h=>by
   have:=k.gB;simp only[Kd.dep] at h;omega
 | .tree k,d+1,w,h=>by
   unfold Kd.W at w;simp only[Kd.dep] at h;have:=t7 k d w (by omega);have p:=m4 d;show(k.cB+1) * 585<=1200 * CB d;omega
 | .eR fs,0,w,h=>by
   simp only[Kd.dep] at h
   cases fs with
   |nil=>simp[Kd.cB,Fs.cB,CB]
   |cons x k r=>have:=k.gB;simp only[Fs.dep] at h;omega
 | .eR fs,d+1,w,h=>by
   unfold Kd.W at w;simp only[Kd.dep] at h;have:=qT fs d w.2.2.2 (by omega);have e:fs.names.length * CB d<=12 * CB d:=Q1 _ (Q07 w.2.1 (by decide));have p:=m4 d;show fs.cB+1<=1200 * CB d;omega
theorem qT:∀(fs:Fs) (d:Nat),fs.W->fs.dep<=d+1->fs.cB<=fs.names.length * CB d
 | .nil,d,_,_=>by simp[Fs.cB]
 | .cons x k r,d,w,h=>by
   unfold Fs.W at w;simp only[Fs.dep] at h;have a:=t7 k d w.1 (by omega);have b:=qT r d w.2.2 (by omega);show k.cB+r.cB<=(r.names.length+1) * CB d;rw[Q1f];omega
end
mutual
theorem t8:∀(k:Kd),k.dB+8<=10 * k.dep
 | .num=>by simp[Kd.dB,Kd.dep]
 | .eM=>by simp[Kd.dB,Kd.dep]
 | .dG fs=>by have:=qU fs;simp only[Kd.dB,Kd.dep];omega
 | .rows _ _ fs=>by have:=qU fs;simp only[Kd.dB,Kd.dep];omega
 | .tree k=>by have:=t8 k;simp only[Kd.dB,Kd.dep];omega
 | .eR fs=>by have:=qU fs;simp only[Kd.dB,Kd.dep];omega
theorem qU:∀(fs:Fs),fs.dB<=10 * fs.dep - 8
 | .nil=>by simp[Fs.dB]
 | .cons x k r=>by
   have a:=t8 k;have b:=qU r;simp only[Fs.dB,Fs.dep];have c:=Nat.le_max_left k.dep r.dep;have d:=Nat.le_max_right k.dep r.dep;generalize max k.dep r.dep=e at c d ⊢;exact Nat.max_le.mpr (And.intro (by omega) (by omega))
end
end Pb
namespace Pb
open L2
mutual
def KA (H:Hp):V->Kd->Prop
 |v,.num=>∃a,v=.ref a/\H a=some (.tup [.str "number"])
 |v,.eM=>∃a,v=.ref a/\H a=some (.tup [.str "word"])
 |v,.dG fs=>∃a b vs,v=.ref a/\H a=some (.tup [.str "record",.ref b])/\H b=some (.tup vs)/\FA H vs fs
 |v,.rows key J fs=>∃a b vs,v=.ref a/\H a=some (.tup [.str "rows",.str key,.str J,.ref b])/\H b=some (.tup vs)/\FA H vs fs
 |v,.tree k=>∃a u,v=.ref a/\H a=some (.tup [.str "tree",u])/\KA H u k
 |v,.eR fs=>∃a b vs,v=.ref a/\H a=some (.tup [.str "either",.ref b])/\H b=some (.tup vs)/\FA H vs fs
def FA (H:Hp):List V->Fs->Prop
 |vs,.nil=>vs=[]
 |vs,.cons x k r=>∃c u J,vs=.ref c::J/\H c=some (.tup [.str x,u])/\KA H u k/\FA H J r
end
def Tu (H H':Hp):Prop:=∀a xs,H a=some (.tup xs)->H' a=some (.tup xs)
theorem Tu.trans {H H1 H2:Hp}(a:Tu H H1)(b:Tu H1 H2):Tu H H2:=λc xs h=>b c xs (a c xs h)
theorem Tu.of {H H':Hp}(s:Same H H'):Tu H H':=λa xs h=>s a _ h
theorem Tu.wr {H:Hp}{p:Addr}{o:HO}(h:∀xs,H p≠some (.tup xs)):Tu H (upd H p o):=λa xs e=>by
 rw[dg (λz=>h xs (by rw[<-z];exact e))];exact e
mutual
theorem KA.mono {H H':Hp}(t:Tu H H'):∀{v:V}(k:Kd),KA H v k->KA H' v k
 |v,.num,h=>by
  unfold KA at h ⊢;obtain⟨a,e,q⟩:=h;exact⟨a,e,t _ _ q⟩
 |v,.eM,h=>by
  unfold KA at h ⊢;obtain⟨a,e,q⟩:=h;exact⟨a,e,t _ _ q⟩
 |v,.dG fs,h=>by
  unfold KA at h ⊢;obtain⟨a,b,vs,e,J,L,f⟩:=h;exact⟨a,b,vs,e,t _ _ J,t _ _ L,FA.mono t fs f⟩
 |v,.rows key U fs,h=>by
  unfold KA at h ⊢;obtain⟨a,b,vs,e,J,L,f⟩:=h;exact⟨a,b,vs,e,t _ _ J,t _ _ L,FA.mono t fs f⟩
 |v,.tree k,h=>by
  unfold KA at h ⊢;obtain⟨a,u,e,q,f⟩:=h;exact⟨a,u,e,t _ _ q,KA.mono t k f⟩
 |v,.eR fs,h=>by
  unfold KA at h ⊢;obtain⟨a,b,vs,e,J,L,f⟩:=h;exact⟨a,b,vs,e,t _ _ J,t _ _ L,FA.mono t fs f⟩
theorem FA.mono {H H':Hp}(t:Tu H H'):∀{vs:List V}(fs:Fs),FA H vs fs->FA H' vs fs
 |vs,.nil,h=>by
  unfold FA at h ⊢;exact h
 |vs,.cons x k r,h=>by
  unfold FA at h ⊢;obtain⟨c,u,J,e,q,f,g⟩:=h;exact⟨c,u,J,e,t _ _ q,KA.mono t k f,FA.mono t r g⟩
end
theorem FA.len {H:Hp}:∀{vs:List V}(fs:Fs),FA H vs fs->vs.length=fs.names.length
 |vs,.nil,h=>by
  unfold FA at h;rw[h];rfl
 |vs,.cons x k r,h=>by
  unfold FA at h;obtain⟨c,u,J,e,_,_,g⟩:=h;rw[e];show J.length+1=r.names.length+1;rw[FA.len r g]
theorem FA.get {H:Hp}:∀{vs:List V}(fs:Fs) {i:Nat}{v:V},FA H vs fs->vs[i]? =some v->∃c u x k,v=.ref c/\fs.at i=some (x,k)/\H c=some (.tup [.str x,u])/\KA H u k
 |vs,.nil,i,v,h,e=>by
  unfold FA at h;rw[h] at e;simp at e
 |vs,.cons x k r,0,v,h,e=>by
  unfold FA at h;obtain⟨c,u,L,J,q,f,_⟩:=h;rw[J] at e;have e:some (V.ref c)=some v:=e
  cases e;exact⟨c,u,x,k,rfl,rfl,q,f⟩
 |vs,.cons x k r,i+1,v,h,e=>by
  unfold FA at h;obtain⟨c,u,L,J,_,_,g⟩:=h;rw[J] at e;exact FA.get r (i:=i) g (by simpa using e)
theorem FA.at {H:Hp}{vs:List V}{fs:Fs}{i:Nat}{x:Str}{k:Kd}(h:FA H vs fs)(e:fs.at i=some (x,k)):∃c u,vs[i]? =some (.ref c)/\H c=some (.tup [.str x,u])/\KA H u k:=by
 have hl:=FA.len fs h
 have hi:i<fs.names.length:=by
  have:fs.names[i]? =some x:=by rw[Fs.iD,e];rfl
  exact(List.getElem?_eq_some_iff.mp this).1
 have J:vs[i]? =some (vs[i]'(by omega)):=Q0a (by omega);obtain⟨c,u,x',Y,h1,h2,L,U⟩:=FA.get fs h J;rw[e] at h2;cases h2;exact⟨c,u,by rw[J,h1],L,U⟩
theorem FA.snoc {H:Hp}{c:Addr}{u:V}{x:Str}{k:Kd}(hc:H c=some (.tup [.str x,u]))(hk:KA H u k):∀{vs:List V}(fs:Fs),FA H vs fs->FA H (vs++[.ref c]) (fs.snoc x k)
 |vs,.nil,h=>by
  unfold FA at h;subst h;show FA H [.ref c] (.cons x k .nil);unfold FA;exact⟨c,u,[],rfl,hc,hk,by unfold FA;rfl⟩
 |vs,.cons y q r,h=>by
  unfold FA at h;obtain⟨d,w,J,e,h1,h2,L⟩:=h;subst e;show FA H (.ref d::(J++[.ref c])) (.cons y q (r.snoc x k));unfold FA;exact⟨d,w,J++[.ref c],rfl,h1,h2,FA.snoc hc hk r L⟩
mutual
def Own (H:Hp):V->D->List Addr->Prop
 |v,.int z,fp=>v=.int z/\fp=[]
 |v,.str x,fp=>v=.str x/\fp=[]
 |v,.tup xs,fp=>∃a vs,v=.ref a/\H a=some (.tup vs)/\dz H vs xs fp
 |v,.lst xs,fp=>∃a vs J,v=.ref a/\H a=some (.lst vs)/\fp=a::J/\dz H vs xs J
 |v,.dct m,fp=>∃a kvs J,v=.ref a/\H a=some (.dK kvs)/\fp=a::J/\dH H kvs m J
def dz (H:Hp):List V->Ds->List Addr->Prop
 |vs,.nil,fp=>vs=[]/\fp=[]
 |vs,.cons _ d r,fp=>∃v q J L,vs=v::q/\fp=J++L/\Own H v d J/\dz H q r L
def dH (H:Hp):List (Key × V)->Ds->List Addr->Prop
 |kvs,.nil,fp=>kvs=[]/\fp=[]
 |kvs,.cons x d r,fp=>∃v q J L,kvs=(Sum.inr x,v)::q/\fp=J++L/\Own H v d J/\dH H q r L
end
mutual
theorem Own.keep {H H':Hp}(t:Tu H H'):∀{v:V}(d:D) {fp:List Addr},(∀a∈fp,∀o,H a=some o->H' a=some o)->Own H v d fp->Own H' v d fp
 |v,.int z,fp,k,h=>by unfold Own at h ⊢;exact h
 |v,.str x,fp,k,h=>by unfold Own at h ⊢;exact h
 |v,.tup xs,fp,k,h=>by
  unfold Own at h ⊢;obtain⟨a,vs,e,q,f⟩:=h;exact⟨a,vs,e,t _ _ q,dz.keep t xs k f⟩
 |v,.lst xs,fp,k,h=>by
  unfold Own at h ⊢;obtain⟨a,vs,J,e,q,rfl,f⟩:=h;exact⟨a,vs,J,e,k a Q05 _ q,rfl,dz.keep t xs (λb L=>k b (Q0d _ L)) f⟩
 |v,.dct m,fp,k,h=>by
  unfold Own at h ⊢;obtain⟨a,vs,J,e,q,rfl,f⟩:=h;exact⟨a,vs,J,e,k a Q05 _ q,rfl,dH.keep t m (λb L=>k b (Q0d _ L)) f⟩
theorem dz.keep {H H':Hp}(t:Tu H H'):∀{vs:List V}(xs:Ds) {fp:List Addr},(∀a∈fp,∀o,H a=some o->H' a=some o)->dz H vs xs fp->dz H' vs xs fp
 |vs,.nil,fp,k,h=>by unfold dz at h ⊢;exact h
 |vs,.cons x d r,fp,k,h=>by
  unfold dz at h ⊢;obtain⟨v,q,L,U,e,rfl,Y,g2⟩:=h;exact⟨v,q,L,U,e,rfl,Own.keep t d (λb J=>k b (Q0u _ J)) Y,dz.keep t r (λb J=>k b (Q09 _ J)) g2⟩
theorem dH.keep {H H':Hp}(t:Tu H H'):∀{kvs:List (Key × V)}(m:Ds) {fp:List Addr},(∀a∈fp,∀o,H a=some o->H' a=some o)->dH H kvs m fp->dH H' kvs m fp
 |kvs,.nil,fp,k,h=>by unfold dH at h ⊢;exact h
 |kvs,.cons x d r,fp,k,h=>by
  unfold dH at h ⊢;obtain⟨v,q,L,U,e,rfl,Y,g2⟩:=h;exact⟨v,q,L,U,e,rfl,Own.keep t d (λb J=>k b (Q0u _ J)) Y,dH.keep t r (λb J=>k b (Q09 _ J)) g2⟩
end
theorem Own.same {H H':Hp}{v:V}{d:D}{fp:List Addr}(s:Same H H')(h:Own H v d fp):Own H' v d fp:=h.keep (Tu.of s) d λa _ o e=>s a o e
theorem dz.same {H H':Hp}{v:List V}{d:Ds}{fp:List Addr}(s:Same H H')(h:dz H v d fp):dz H' v d fp:=h.keep (Tu.of s) d λa _ o e=>s a o e
theorem dH.same {H H':Hp}{v:List (Key × V)}{d:Ds}{fp:List Addr}(s:Same H H')(h:dH H v d fp):dH H' v d fp:=h.keep (Tu.of s) d λa _ o e=>s a o e
def Mu (H:Hp) (a:Addr):Prop:=(∃xs,H a=some (.lst xs))\/∃kvs,H a=some (.dK kvs)
mutual
theorem Own.alive {H:Hp}:∀{v:V}(d:D) {fp:List Addr},Own H v d fp->∀a∈fp,Mu H a
 |v,.int z,fp,h=>by unfold Own at h;rw[h.2];intro a J;exact absurd J (by simp)
 |v,.str x,fp,h=>by unfold Own at h;rw[h.2];intro a J;exact absurd J (by simp)
 |v,.tup xs,fp,h=>by
  unfold Own at h;obtain⟨a,vs,e,q,f⟩:=h;exact dz.alive xs f
 |v,.lst xs,fp,h=>by
  unfold Own at h;obtain⟨a,vs,U,e,q,rfl,f⟩:=h;intro b L;rcases List.mem_cons.mp L with z|z
  . rw[z];exact .inl ⟨_,q⟩
  . exact dz.alive xs f b z
 |v,.dct m,fp,h=>by
  unfold Own at h;obtain⟨a,vs,U,e,q,rfl,f⟩:=h;intro b L;rcases List.mem_cons.mp L with z|z
  . rw[z];exact .inr ⟨_,q⟩
  . exact dH.alive m f b z
theorem dz.alive {H:Hp}:∀{vs:List V}(xs:Ds) {fp:List Addr},dz H vs xs fp->∀a∈fp,Mu H a
 |vs,.nil,fp,h=>by unfold dz at h;rw[h.2];intro a J;exact absurd J (by simp)
 |vs,.cons x d r,fp,h=>by
  unfold dz at h;obtain⟨v,q,f1,f2,e,rfl,L,U⟩:=h;intro b Y;rcases List.mem_append.mp Y with z|z
  . exact Own.alive d L b z
  . exact dz.alive r U b z
theorem dH.alive {H:Hp}:∀{kvs:List (Key × V)}(m:Ds) {fp:List Addr},dH H kvs m fp->∀a∈fp,Mu H a
 |kvs,.nil,fp,h=>by unfold dH at h;rw[h.2];intro a J;exact absurd J (by simp)
 |kvs,.cons x d r,fp,h=>by
  unfold dH at h;obtain⟨v,q,f1,f2,e,rfl,L,U⟩:=h;intro b Y;rcases List.mem_append.mp Y with z|z
  . exact Own.alive d L b z
  . exact dH.alive r U b z
end
theorem Mu.ex {H:Hp}{a:Addr}(h:Mu H a):∃o,H a=some o:=by
 rcases h with⟨_,h⟩|⟨_,h⟩ <;> exact⟨_,h⟩
theorem Mu.ne {H:Hp}{a b:Addr}(h:Mu H a)(e:H b=none):a≠b:=λz=>by
 obtain⟨o,q⟩:=h.ex;rw[z,e] at q;cases q
theorem Mu.t9 {H:Hp}{a:Addr}(h:Mu H a)(xs:List V):H a≠some (.tup xs):=λz=>by
 rcases h with⟨_,h⟩|⟨_,h⟩ <;> rw[h] at z <;> cases z
noncomputable def Ds.len:Ds->Nat
 | .nil=>0
 | .cons _ _ r=>r.len+1
noncomputable def Ds.names:Ds->List Str
 | .nil=>[]
 | .cons x _ r=>x::r.names
noncomputable def Ds.at:Ds->Nat->Option D
 | .nil,_=>none
 | .cons _ d _,0=>some d
 | .cons _ _ r,i+1=>r.at i
noncomputable def Ds.snoc:Ds->Str->D->Ds
 | .nil,x,d=>.cons x d .nil
 | .cons y e r,x,d=>.cons y e (r.snoc x d)
theorem Ds.iU:∀{xs:Ds}{i:Nat}{d:D},xs.at i=some d->d.dep<=xs.dep
 | .nil,_,_,h=>by cases h
 | .cons _ d r,0,_,h=>by cases h;exact Q2c _ _
 | .cons _ d r,i+1,_,h=>Q07 (Ds.iU (xs:=r) (i:=i) h) (Q2d _ _)
theorem Ds.oI:∀{xs:Ds}{x:Str}{d:D},xs.get x=some d->d.dep<=xs.dep
 | .nil,_,_,h=>by cases h
 | .cons y e r,x,d,h=>by
   have h:(if x=y then some e else r.get x)=some d:=h;by_cases c:x=y
   . rw[if_pos c] at h;cases h;exact Q2c _ _
   . rw[if_neg c] at h;exact Q07 (Ds.oI h) (Q2d _ _)
theorem dz.len {H:Hp}:∀{vs:List V}(xs:Ds) {fp:List Addr},dz H vs xs fp->vs.length=xs.len
 |vs,.nil,fp,h=>by unfold dz at h;rw[h.1];rfl
 |vs,.cons x d r,fp,h=>by
  unfold dz at h;obtain⟨v,q,L,U,rfl,rfl,Y,J⟩:=h;show q.length+1=r.len+1;rw[dz.len r J]
theorem dz.get {H:Hp}:∀{vs:List V}(xs:Ds) {fp:List Addr}{i:Nat}{v:V},dz H vs xs fp->vs[i]? =some v->∃d f,xs.at i=some d/\Own H v d f/\∀a∈f,a∈fp
 |vs,.nil,fp,i,v,h,e=>by
  unfold dz at h;rw[h.1] at e;simp at e
 |vs,.cons x d r,fp,0,v,h,e=>by
  unfold dz at h;obtain⟨w,q,L,f2,rfl,rfl,U,Y⟩:=h;have e:some w=some v:=e
  cases e;exact⟨d,L,rfl,U,λa J=>Q0u _ J⟩
 |vs,.cons x d r,fp,i+1,v,h,e=>by
  unfold dz at h;obtain⟨w,q,L,f2,rfl,rfl,U,Y⟩:=h;obtain⟨d',f,h1,h2,h3⟩:=dz.get r (i:=i) Y (by simpa using e);exact⟨d',f,h1,h2,λa J=>Q09 _ (h3 a J)⟩
theorem dz.snoc {H:Hp}{v:V}{d:D}{g:List Addr}{y:Str}(J:Own H v d g):∀{vs:List V}(xs:Ds) {fp:List Addr},dz H vs xs fp->dz H (vs++[v]) (xs.snoc y d) (fp++g)
 |vs,.nil,fp,h=>by
  unfold dz at h;obtain⟨rfl,rfl⟩:=h;show dz H [v] (.cons y d .nil) g;unfold dz;exact⟨v,[],g,[],rfl,by simp,J,by unfold dz;exact⟨rfl,rfl⟩⟩
 |vs,.cons x e r,fp,h=>by
  unfold dz at h;obtain⟨w,q,L,U,rfl,rfl,Y,g2⟩:=h;show dz H (w::(q++[v])) (.cons x e (r.snoc y d)) (L++U++g);unfold dz;exact⟨w,q++[v],L,U++g,rfl,by rw[Q0j],Y,dz.snoc J r g2⟩
theorem dH.snoc {H:Hp}{v:V}{d:D}{g:List Addr}{y:Str}(J:Own H v d g):∀{kvs:List (Key × V)}(xs:Ds) {fp:List Addr},dH H kvs xs fp->dH H (kvs++[(Sum.inr y,v)]) (xs.snoc y d) (fp++g)
 |kvs,.nil,fp,h=>by
  unfold dH at h;obtain⟨rfl,rfl⟩:=h;show dH H [(Sum.inr y,v)] (.cons y d .nil) g;unfold dH;exact⟨v,[],g,[],rfl,by simp,J,by unfold dH;exact⟨rfl,rfl⟩⟩
 |kvs,.cons x e r,fp,h=>by
  unfold dH at h;obtain⟨w,q,L,U,rfl,rfl,Y,g2⟩:=h;show dH H ((Sum.inr x,w)::(q++[(Sum.inr y,v)])) (.cons x e (r.snoc y d)) (L++U++g);unfold dH;exact⟨w,q++[(Sum.inr y,v)],L,U++g,rfl,by rw[Q0j],Y,dH.snoc J r g2⟩
theorem dH.keys {H:Hp}:∀{kvs:List (Key × V)}(m:Ds) {fp:List Addr},dH H kvs m fp->kvs.map (·.1)=m.names.map Sum.inr
 |kvs,.nil,fp,h=>by unfold dH at h;rw[h.1];rfl
 |kvs,.cons x d r,fp,h=>by
  unfold dH at h;obtain⟨v,q,L,U,rfl,rfl,Y,J⟩:=h;show Sum.inr x::q.map (·.1)=Sum.inr x::r.names.map Sum.inr;rw[dH.keys r J]
theorem dH.len {H:Hp}{kvs:List (Key × V)}{m:Ds}{fp:List Addr}(h:dH H kvs m fp):kvs.length=m.names.length:=by
 have:=congrArg List.length (dH.keys m h);simpa using this
theorem dH.val {H:Hp}:∀{kvs:List (Key × V)}(m:Ds) {fp:List Addr}{x:Str}{d:D},dH H kvs m fp->m.get x=some d->∃v f,gF kvs (Sum.inr x)=some v/\Own H v d f/\∀a∈f,a∈fp
 |kvs,.nil,fp,x,d,h,e=>by cases e
 |kvs,.cons y e r,fp,x,d,h,J=>by
  unfold dH at h;obtain⟨v,q,U,f2,rfl,rfl,Y,g2⟩:=h;have J:(if x=y then some e else r.get x)=some d:=J;by_cases c:x=y
  . rw[if_pos c] at J
    cases J;exact⟨v,U,qy (by rw[c]),Y,λa L=>Q0u _ L⟩
  . rw[if_neg c] at J;obtain⟨w,f,h1,h2,h3⟩:=dH.val r g2 J;exact⟨w,f,by rw[qA (λz=>c (Sum.inr.inj z).symm)];exact h1,h2,λa L=>Q09 _ (h3 a L)⟩
theorem dH.t_ {H:Hp}{kvs:List (Key × V)}{m:Ds}{fp:List Addr}{x:Str}(h:dH H kvs m fp)(J:x ∉ m.names):gF kvs (Sum.inr x)=none:=by
 cases e:gF kvs (Sum.inr x) with
 |none=>rfl
 |some v=>
  have:=Gu e;rw[dH.keys m h] at this;obtain⟨y,L,U⟩:=List.mem_map.mp this
  cases U;exact absurd L J
theorem qV {kvs:List (Key × V)}{k:Key}{v:V}(h:gF kvs k=none):putK kvs k v=kvs++[(k,v)]:=by
 unfold putK;rw[if_neg];rw[om,h];simp
def Kp (S:Addr->Prop) (H H':Hp):Prop:=∀c o,¬S c->H c=some o->H' c=some o
theorem Kp.refl (S:Addr->Prop)(H:Hp):Kp S H H:=λ_ _ _ h=>h
theorem Kp.trans {S:Addr->Prop}{H H1 H2:Hp}(x:Kp S H H1)(y:Kp S H1 H2):Kp S H H2:=λc o n h=>y c o n (x c o n h)
theorem Kp.of {S:Addr->Prop}{H H':Hp}(s:Same H H'):Kp S H H':=λc o _ h=>s c o h
theorem Kp.jx {S:Addr->Prop}{H H':Hp}{a:Addr}(x:Kp S H H')(J:¬S a)(h:H' a=none):H a=none:=by
 cases e:H a with
 |none=>rfl
 |some o=>rw[x a o J e] at h;cases h
inductive A3 {α β γ:Type} (R:α->β->γ->Prop):List α->List β->List γ->Prop
 |nil:A3 R [] [] []
 |cons {a:α} {b:β} {c:γ} {as:List α} {bs:List β} {cs:List γ}:R a b c->A3 R as bs cs->A3 R (a::as) (b::bs) (c::cs)
theorem A3.snoc {α J L:Type}{R:α->J->L->Prop}{a:α}{b:J}{c:L}(h:R a b c):∀{as:List α}{bs:List J}{cs:List L},A3 R as bs cs->A3 R (as++[a]) (bs++[b]) (cs++[c])
 |_,_,_,.nil=>.cons h .nil
 |_,_,_,.cons x r=>.cons x (A3.snoc h r)
theorem A3.len {α J L:Type}{R:α->J->L->Prop}:∀{as:List α}{bs:List J}{cs:List L},A3 R as bs cs->as.length=bs.length/\as.length=cs.length
 |_,_,_,.nil=>⟨rfl,rfl⟩
 |_,_,_,.cons x r=>by
  obtain⟨h1,h2⟩:=A3.len r;simp only[Q02];omega
theorem A3.at {α J L:Type}{R:α->J->L->Prop}{a0:α}{b0:J}{c0:L}:∀{as:List α}{bs:List J}{cs:List L},A3 R as bs cs->∀i,i<as.length->R (as.getD i a0) (bs.getD i b0) (cs.getD i c0)
 |_,_,_,.nil,i,h=>absurd h (by simp)
 |_,_,_,.cons x r,0,h=>x
 |_,_,_,.cons x r,i+1,h=>by
  have:=A3.at (a0:=a0) (b0:=b0) (c0:=c0) r i (by simpa using h);simpa using this
theorem A3.pick {α J L:Type}{R:α->J->L->Prop}{a0:α}{b0:J}{c0:L}{as:List α}{bs:List J}{cs:List L}(h:A3 R as bs cs):∀p:List Nat,(∀i∈p,i<as.length)->A3 R (p.map λi=>as.getD i a0) (p.map λi=>bs.getD i b0) (p.map λi=>cs.getD i c0)
 |[],_=>.nil
 |i::p,hp=>.cons (h.at i (hp i Q05)) (A3.pick h p λj U=>hp j (Q0d _ U))
theorem oF {α:Type}(a0:α):∀l:List α,((List.range l.length).map λi=>l.getD i a0)=l:=λl=>by
 apply Q30
 . simp
 . intro i h1 h2;simp[h2]
theorem AW {α:Type}(a0:α){l:List α}{p:List Nat}(h:p.Perm (List.range l.length)):(p.map λi=>l.getD i a0).Perm l:=by
 have:=h.map (λi=>l.getD i a0)
 rwa [oF] at this
theorem Hz {α:Type}{J L:List (List α)}(h:J.Perm L):J.flatten.Perm L.flatten:=by
 induction h with
 |nil=>exact List.Perm.refl _
 |cons x _ U=>exact U.append_left x
 |swap x y l=>
  show(y++(x++l.flatten)).Perm (x++(y++l.flatten));rw[<-Q0j,<-Q0j];exact List.perm_append_comm.append_right _
 |trans _ _ a b=>exact a.trans b
abbrev fW (H:Hp):List V->List Ds->List (List Addr)->Prop:=A3 λv m f=>Own H v (.dct m) f
theorem fW.own {H:Hp}:∀{vs:List V}{J:List Ds}{fs:List (List Addr)},fW H vs J fs->dz H vs (iE J) fs.flatten
 |_,_,_,.nil=>by unfold iE dz;exact⟨rfl,rfl⟩
 |_,_,_,.cons h r=>by
  unfold iE dz;exact⟨_,_,_,_,rfl,rfl,h,fW.own r⟩
theorem HA:∀j:Nat,j<26->(("abcdefghijklmnopqrstuvwxyz":Str)).cps.toList[j]? =some (97+j):=by decide +kernel
theorem HC:(("abcdefghijklmnopqrstuvwxyz":Str)).cps.toList.length=26:=by decide +kernel
theorem HD {z:Int}(J:0<=z)(h1:z<26):fg (("abcdefghijklmnopqrstuvwxyz":Str)).cps.toList z=some (97+z.toNat):=by
 unfold fg jr;rw[HC,if_pos J,if_pos (show z<((26:Nat):Int) by omega)];exact HA z.toNat (by omega)
theorem HE {z:Int}(J:0<=z)(h1:z<6):fg [V.int 1,.int 3,.int 5,.int 7,.int 9,.int 11] z=some (.int (2 * z+1)):=by
 obtain⟨n,rfl⟩:=Q1z J;have h:=Int.ofNat_lt.mp h1;clear J h1;revert n
 decide
theorem AX (x y:Str):(x++y).length=x.length+y.length:=by
 show(x.cps++y.cps).size=x.cps.size+y.cps.size;simp
theorem HF {f:Nat->Str}:∀{n:Nat},(∀i j,i<n->j<n->f i=f j->i=j)->((List.range n).map f).Nodup:=by
 intro n h;refine List.pairwise_map.mpr (List.Pairwise.imp_of_mem (λ{a b} L U J=>?_) (List.nodup_range (n:=n)));intro e;exact J (h a b (List.mem_range.mp L) (List.mem_range.mp U) e)
end Pb
noncomputable abbrev Pb.Tx:=List Nat
namespace Pb
noncomputable def gn (c:Nat):Bool:=decide (97<=c) && decide (c<=122)
noncomputable def isF (c:Nat):Bool:=decide (48<=c) && decide (c<=57)
noncomputable def marks:Tx:=[123,125,91,93,40,41,60,62,58,44]
inductive Th where
 |int (i:Int)
 |str (x:Tx)
structure Pc where
 sort:Nat
 th:Th
 b:Nat
 e:Nat
noncomputable def kN (p:Nat) (r:Tx):Pc:=⟨1,.str [],p,p+r.length⟩
noncomputable def sgn (r:Tx):Nat:=if r.head? =some 45 then 1 else 0
noncomputable def dZ (r:Tx):Nat:=((r.drop (sgn r)).takeWhile isF).length
noncomputable def numAt (iv:Tx->Int) (p:Nat) (r:Tx):Pc:=
 if dZ r=0\/80<dZ r then kN p r
 else if(r.drop (sgn r)).head? =some 48/\r.take (sgn r+dZ r)≠[48] then kN p r
 else⟨5,.int (iv (r.take (sgn r+dZ r))),p,p+(sgn r+dZ r)⟩
noncomputable def ip (r:Tx):Nat:=(r.takeWhile gn).length
noncomputable def l_ (p:Nat) (r:Tx):Pc:=if 12<ip r then kN p r else⟨4,.str (r.take (ip r)),p,p+ip r⟩
noncomputable def unq (r:Tx):Nat:=(r.takeWhile λc=>c != 34).length
noncomputable def wordAt (p:Nat) (r:Tx):Pc:= -- r J U first L
 if unq r=r.length\/40<unq r then kN p (34::r) else⟨3,.str (r.take (unq r)),p,p+(unq r+2)⟩
noncomputable def fj (iv:Tx->Int) (p:Nat) (c:Nat) (r:Tx):Pc:=
 if c∈marks then⟨2,.str [c],p,p+1⟩
 else if c=34 then wordAt p r
 else if gn c=true then l_ p (c::r)
 else numAt iv p (c::r)
noncomputable def toks (iv:Tx->Int):Nat->Nat->Tx->List Pc
 |_,p,[]=>[⟨0,.str [],p,p⟩]
 |0,_,_::_=>[]
 |f+1,p,c::r=>if c=32 then toks iv f (p+1) r else fj iv p c r::toks iv f (fj iv p c r).e ((c::r).drop ((fj iv p c r).e - p))
theorem m7 (f:Nat->Bool)(r:Tx):(r.takeWhile f).length<=r.length:=(Q3b f).length_le
theorem qW {p r}:(kN p r).e=p+r.length:=rfl
theorem ub {iv p c r}:p<(fj iv p c r).e/\(fj iv p c r).e<=p+(r.length+1):=by
 unfold fj;split
 . exact⟨by show p<p+1;omega,by show p+1<=_;omega⟩
 split
 . unfold wordAt;split
   . rw[qW];simp
   . rename_i h;have:=m7 (λc=>c != 34) r;have e:unq r<=r.length:=this;exact⟨by show p<p+(unq r+2);omega,by show p+(unq r+2)<=_;omega⟩
 split
 . rename_i h;have e1:ip (c::r)=ip r+1:=by unfold ip;rw[Q2a h];rfl
   have e:ip r<=r.length:=m7 _ r;unfold l_;split
   . rw[qW];simp
   . exact⟨by show p<p+ip (c::r);omega,by show p+ip (c::r)<=_;omega⟩
 . unfold numAt;split
   . rw[qW];simp
   split
   . rw[qW];simp
   . rename_i h1 h2;have e:dZ (c::r)<=((c::r).drop (sgn (c::r))).length:=m7 _ _;rw[Q0z] at e;have J:(c::r).length=r.length+1:=rfl;exact⟨by show p<p+(_+dZ (c::r));omega,by show p+(_+dZ (c::r))<=_;omega⟩
theorem uc (iv:Tx->Int):∀(f g p:Nat) (r:Tx),r.length<=f->r.length<=g->toks iv f p r=toks iv g p r
 |f,g,p,[],_,_=>by cases f <;> cases g <;> rfl
 |f+1,g+1,p,c::r,J,L=>by
  have h1:r.length<=f:=by simpa using J
  have h2:r.length<=g:=by simpa using L
  show(if c=32 then toks iv f (p+1) r else _::toks iv f _ _)=(if c=32 then toks iv g (p+1) r else _::toks iv g _ _);have⟨e1,Y⟩:=ub (iv:=iv) (p:=p) (c:=c) (r:=r);have U:((c::r).drop ((fj iv p c r).e - p)).length<=r.length:=by rw[Q0z];show r.length+1 - _<=_;omega
  rw[uc iv f g (p+1) r h1 h2,uc iv f g _ _ (Q07 U h1) (Q07 U h2)]
 |0,_,_,_::_,J,_=>absurd J (by simp)
 |_+1,0,_,_::_,_,L=>absurd L (by simp)
noncomputable def gy (iv:Tx->Int) (p:Nat) (r:Tx):List Pc:=toks iv r.length p r
theorem AY {iv p}:gy iv p []=[⟨0,.str [],p,p⟩]:=rfl
theorem AZ {iv p r}:gy iv p (32::r)=gy iv (p+1) r:=by
 unfold gy;rw[Q02,toks,if_pos rfl]
theorem A0 {iv p c r}(h:c≠32):gy iv p (c::r)=fj iv p c r::gy iv (fj iv p c r).e ((c::r).drop ((fj iv p c r).e - p)):=by
 have⟨e1,L⟩:=ub (iv:=iv) (p:=p) (c:=c) (r:=r);have J:((c::r).drop ((fj iv p c r).e - p)).length<=r.length:=by rw[Q0z];show r.length+1 - _<=_;omega
 unfold gy;rw[Q02,toks,if_neg h,uc iv r.length _ _ _ J (Q00 _)]
theorem ud {iv}:∀(k p:Nat) (r:Tx),gy iv p (List.replicate k 32++r)=gy iv (p+k) r
 |0,p,r=>rfl
 |k+1,p,r=>by
  rw[Q2f,Q1l,AZ,ud k,Nat.add_assoc,Nat.add_comm 1 k]
theorem ue:∀c,isF c=true->c ∉ marks/\c≠34/\gn c≠true/\c≠32/\c≠45:=by
 intro c h;unfold isF at h;unfold gn marks;simp only[Bool.and_eq_true,decide_eq_true_eq] at h;simp only[ne_eq,Bool.and_eq_true,decide_eq_true_eq,Q0s,Q0t,or_false];refine⟨?_,?_,?_,?_,?_⟩ <;> omega
theorem HG {w r:Tx}(hw:34 ∉ w):unq (w++34::r)=w.length:=by
 unfold unq;rw[Q2b (by intro c hc;rw[bne_iff_ne];intro z;exact hw (z ▸ hc)),Q1t (by decide)];simp
theorem HH {iv:Tx->Int}(p j:Nat):gy iv p (List.replicate j 32)=[⟨0,.str [],p+j,p+j⟩]:=by
 have:=ud (iv:=iv) j p [];rw[Q0n] at this;rw[this,AY]
theorem HI:∀c,gn c=true->c ∉ marks/\c≠34/\c≠32:=by
 intro c h;unfold gn at h;unfold marks;simp only[Bool.and_eq_true,decide_eq_true_eq] at h;simp only[ne_eq,Q0s,Q0t,or_false];refine⟨?_,?_,?_⟩ <;> omega
end Pb
namespace L2
open Spec PyProof.Rows
section
variable {X:Cx}
end
end L2
namespace Pb
open L2 PyProof.Rows Spec StrLaws Builtin Builtin.Str
def sle (x y:Str):Prop:=km (gW x) (gW y)
def slt (x y:Str):Prop:=gf (gW x) (gW y)=true
theorem HJ (x y:Str)(h:slt x y):¬slt y x:=λh2=>by
 have z:=mR _ _ _ h h2;rw[qL] at z
 cases z
theorem HK {x y:Str}(h:gW x=gW y):x=y:=Sum.inr.inj (List.cons.inj h).1
theorem A1 {x y:Str}(h:sle x y):slt x y\/x=y:=by
 rcases oE (gW x) (gW y) with q|q|q
 . exact .inl q
 . exact .inr (HK q)
 . have h:gf (gW y) (gW x)=false:=h;rw[h] at q;cases q
theorem HL {x y:Str}(h:slt x y):sle x y:=by
 unfold sle km
 cases e:gf (gW y) (gW x) with
 |false=>rfl
 |true=>exact absurd e (HJ _ _ h)
theorem HM {x y z:Str}(h1:sle x y)(h2:sle y z):sle x z:=by
 rcases A1 h1 with a|a
 . rcases A1 h2 with b|b
   . exact HL (mR _ _ _ a b)
   . rw[<-b];exact h1
 . rw[a];exact h2
theorem HN (x y:Str):ltCps x.cps.toList y.cps.toList=gf (gW x) (gW y):=by
 rw[Hk];exact ltCps_eq _ _
theorem A2:∀{ss:List Str},sortedS ss=true->ss.Pairwise sle
 |[],_=>.nil
 |[x],_=>Q29 _ _
 |x::y::r,h=>by
  have h:(!ltCps y.cps.toList x.cps.toList && risingS y r)=true:=h;obtain⟨h1,h2⟩:=Bool.and_eq_true_iff.mp h;have L:(y::r).Pairwise sle:=A2 (ss:=y::r) h2
  have J:sle x y:=by
   rw[HN] at h1;unfold sle km
   cases e:gf (gW y) (gW x) with
   |false=>rfl
   |true=>rw[e] at h1;cases h1
  refine .cons (λz U=>?_) L;rcases List.mem_cons.mp U with e|e
  . rw[e];exact J
  . exact HM J ((List.pairwise_cons.mp L).1 z e)
end Pb
namespace Pb
open L2
theorem boot_isinstance:bootBuiltins "isinstance"=some (.builtin "isinstance"):=by decide +kernel
theorem boot_sorted:bootBuiltins "sorted"=some (.builtin "sorted"):=by decide +kernel
theorem boot_reversed:bootBuiltins "reversed"=some (.type "reversed"):=by decide +kernel
theorem boot_all:bootBuiltins "all"=some (.builtin "all"):=by decide +kernel
theorem boot_int:bootBuiltins "int"=some (.type "int"):=by decide +kernel
theorem boot_bool:bootBuiltins "bool"=some (.type "bool"):=by decide +kernel
theorem boot_str:bootBuiltins "str"=some (.type "str"):=by decide +kernel
theorem boot_list:bootBuiltins "list"=some (.type "list"):=by decide +kernel
theorem boot_tuple:bootBuiltins "tuple"=some (.type "tuple"):=by decide +kernel
theorem boot_min:bootBuiltins "min"=some (.builtin "min"):=by decide +kernel
theorem boot_dict:bootBuiltins "dict"=some (.type "dict"):=by decide +kernel
structure Tb (mg:Str->Option Value):Prop where
 gG:mg "len"=none
 eZ:mg "isinstance"=none
 A4:mg "sorted"=none
 uf:mg "all"=none
 m8:mg "range"=none
 oJ:mg "enumerate"=none
 A5:mg "zip"=none
 ug:mg "int"=none
 A6:mg "bool"=none
 lq:mg "str"=none
 ku:mg "list"=none
 jN:mg "tuple"=none
 me:mg "dict"=none
 HP:mg "min"=none
 HQ:mg "reversed"=none
structure Dn (K:W.Frag) (mg:Str->Option Value) (x:Str) (ps:List Str) (st:Stmt) (f:Addr) (fd:FuncData):Prop where
 F:jt K x x st f fd
 b:Binds K fd ps []
 m:mg x=some (.ref f)
theorem dJ {X:Cx}{k U:Nat}{f:Addr}{fd:FuncData}{ps:List Str}{sp:Sp}{x:Str}{p pos:Pos}{e:Expr}{es:List Expr}{t:TA}{st:Stmt}(F:dj X.prog X.w X.K X.mg X.base dm k f fd ps sp)(Y:eJ U X.A)(D:Dn X.K X.mg x ps st f fd)(ha:PA X (e::es) t)(hg:Gl X x:=by rfl)(J:(x == ("__debug__":Str))=false:=by decide)(he:starEach (e::es) X.env=(false,eval e X.env)::starEach es X.env:=by rfl)(L:(backTo pos (starEach es X.env)).any (·.1)=false:=by rfl)(hk:k<=U:=by first|decide|omega):PE X (.Call (.Name x p) (e::es) [] pos) (jq sp [] E0 t):=zB F (Y.mono hk) hg D.m D.F.kp D.b .nil gd ha J he L
theorem dI {X:Cx}(i:Nat){x:Str}{e:Expr}{te:TE}{pos J:Pos}(L:X.N.Nodup)(U:PE X e te)(hi:X.N[i]? =some x:=by rfl)(Y:Loc X.env.scope x:=by exact Or.inl rfl)(hs:swapsWith e (some (.Name x J)) pos.line X.env=pure false:=by rfl)(hf:X.fn x=true\/X.env.scope.names.lookup x=some .local:=by first|exact .inl rfl|exact .inr rfl|assumption):PS X (.Assign [.Name x J] e pos) (nX te (fU i)):=yZ L hi Y U hs hf
theorem LF {X:Cx}(i:Nat){x:Str}{e:Expr}{te:TE}{pos J:Pos}(L:X.N.Nodup)(U:PE X e te)(hi:X.N[i]? =some x:=by rfl)(Y:Loc X.env.scope x:=by exact Or.inr rfl)(hs:swapsWith e (some (.Name x J)) pos.line X.env=pure false:=by rfl)(hf:X.fn x=true\/X.env.scope.names.lookup x=some .local:=by first|exact .inl rfl|exact .inr rfl|assumption):PS X (.Assign [.Name x J] e pos) (nX te (fU i)):=yZ L hi Y U hs hf
theorem lr:0<=sizeLine:=by decide
theorem iW:1<=sizeLine:=by decide
theorem gC:2<=sizeLine:=by decide
theorem LG:3<=sizeLine:=by decide
theorem jy:4<=sizeLine:=by decide
theorem LH:5<=sizeLine:=by decide
theorem A7:6<=sizeLine:=by decide
theorem dR {X:Cx}{a b:Expr}{ta tb:TE}{pos:Pos}(J:PE X a ta)(L:PE X b tb)(U:sS b:=by exact λ_ _=>rfl):PE X (.Subscript a b pos) (gL (j8 X.K) ta tb):=ij FN J L U
theorem gX {X:Cx}{a b:Expr}{ta tb:TE}{pos:Pos}(J:PE X a ta)(L:PE X b tb)(U:sS b:=by exact λ_ _=>rfl):PE X (.Subscript a b pos) (gL (zM X.K) ta tb):=ij FL J L U
theorem jO {X:Cx}{own N:List Str}{scope sc:Scope}(J:X.env.scope=sc:=by rfl)(L:X.N=N:=by rfl)(k:scope.kind=.function:=by rfl)(c:sY own N scope sc=true:=by decide +kernel):iR X own scope:=iR.of J L k c
theorem gh {α:Type}{a:α}{p:Prop}:a=a\/p:=Or.inl rfl
theorem eG {N P:List Str}{sc:Scope}(h:(sc.kind == .function && !sc.isCoroutine && !sc.isGenerator && decide N.Nodup && N.take P.length == P && P.all (λx=>sc.names.lookup x == some .local || sc.names.lookup x == some .cell) && sc.names.all (λy=>y.2 != .free))=true:=by decide +kernel):d9 N P sc:=by
 simp only[Bool.and_eq_true,Q17,Bool.or_eq_true,beq_iff_eq,bne_iff_ne,decide_eq_true_eq,Bool.not_eq_true',ne_eq] at h;obtain⟨⟨⟨⟨⟨⟨h1,h2⟩,J⟩,L⟩,U⟩,Y⟩,h7⟩:=h;exact⟨h1,h2,J,L,U,Y,h7⟩
abbrev ed:List Str:=XA
abbrev gq:List Str:=XC
abbrev gQ:List Str:=Xb
abbrev gY:List Str:=XH
abbrev hZ:List Str:=XD
abbrev iF:List Str:=XS
abbrev iX:List Str:=XB
abbrev jP:List Str:=Xc
abbrev jQ:List Str:=["kind","value"]
abbrev jR:List Str:=XU
abbrev kx:List Str:=XO
abbrev kO:List Str:=XT
abbrev lu:List Str:=["fields","name"]
abbrev mf:List Str:=["self","sort"]
abbrev mh:List Str:=["self","names"]
abbrev mi:List Str:=["kind","tree"]
abbrev mj:List Str:=XE
abbrev ml:List Str:=XX
abbrev m9:List Str:=XZ
abbrev oK:List Str:=XQ
abbrev oM:List Str:=XY
abbrev oN:List Str:=XR
abbrev oO:List Str:=XM
abbrev qX:List Str:=Xd
abbrev qY:List Str:=["_law_pieces"]
abbrev qZ:List Str:=XN
abbrev q9:List Str:=["kind","text"]
abbrev uh:List Str:=XG
def iY (K:W.Frag) (H:Hp) (a:Addr) (ns:List Int):Prop:=
 (∃o,H a=some (.fb o (.lst (ns.map V.int))))\/
   ∃(o:Obj) (J:Array Value) (n:Nat),K.lookup a=some o/\o.cls=.type "list"/\o.dict=none/\o.data=.seq J n/\J.size<=sizeLine/\Vals (ns.map V.int) J.toList
theorem iY.sq {K:W.Frag}{H:Hp}{a:Addr}{ns:List Int}(h:iY K H a ns):dy K H a (ns.map V.int):=by
 rcases h with⟨o,h⟩|h
 . exact .inl (.inr ⟨o,h⟩)
 . exact .inr h
def SB (b:Addr) (H H':Hp):Prop:=∀c o,c≠b->H c=some o->H' c=some o
theorem SB.trans {b:Addr}{H H1 H2:Hp}(x:SB b H H1)(y:SB b H1 H2):SB b H H2:=λc o n h=>y c o n (x c o n h)
theorem SB.of {b:Addr}{H H':Hp}(s:Same H H'):SB b H H':=λc o _ h=>s c o h
theorem SB.wr {b:Addr}{H:Hp}{o:HO}:SB b H (upd H b o):=λc u n h=>by rw[dg n];exact h
theorem SB.new {b p:Addr}{H:Hp}{o:HO}(h:H p=none):SB b H (upd H p o):=λc u n q=>by rw[dg (dA q h)];exact q
structure G0 (K:W.Frag) (H:Hp) (a b:Addr) (ns:List Int) (n:Int):Prop where
 jS:iY K H a ns
 len:ns.length<=63
 at_:H b=some (.lst [.int n])
 pos:0<=n
theorem SB.jS {K:W.Frag}{b:Addr}{H H':Hp}{a:Addr}{ns:List Int}{n:Int}(x:SB b H H')(J:H b=some (.lst [.int n]))(h:iY K H a ns):iY K H' a ns:=by
 rcases h with⟨o,h⟩|h
 . exact .inl ⟨o,x a _ (fo h J (by intro z;cases z)) h⟩
 . exact .inr h
theorem SB.tu {b:Addr}{H H':Hp}{n:Int}(x:SB b H H')(J:H b=some (.lst [.int n])):Tu H H':=λc xs h=>x c _ (fo h J (by intro z;cases z)) h
theorem G0.go {K:W.Frag}{H H':Hp}{a b:Addr}{ns:List Int}{n n':Int}(g:G0 K H a b ns n)(x:SB b H H')(h:H' b=some (.lst [.int n']))(J:n<=n'):G0 K H' a b ns n':=
 ⟨x.jS g.at_ g.jS,g.len,h,by have:=g.pos;omega⟩
theorem Same.new {H:Hp}{p:Addr}{o:HO}(h:H p=none):Same H (upd H p o):=λc u q=>by rw[dg (dA q h)];exact q
theorem int_at {ns:List Int}{z:Int}(J:0<=z)(h1:z<ns.length):fg (ns.map V.int) z=some (.int (ns.getD z.toNat 0)):=by
 obtain⟨j,rfl⟩:∃j:Nat,z=(j:Int):=⟨z.toNat,by omega⟩;rw[Q2];exact hV (by rw[Q0o,Q0m,Q0a (by omega)];rfl)
def m_ (K:W.Frag):Sp:=λvs H Q _=>∃a b ns n,vs=[.ref a,.ref b]/\G0 K H a b ns n/\n<=1000000000000/\
 ∀(H':Hp),SB b H H'->H' b=some (.lst [.int (n+1)])->Q (.int (nx ns (n+1))) H'
def kP (K:W.Frag):Sp:=λvs H Q _=>∃a b ns n,vs=[.ref a,.ref b]/\G0 K H a b ns n/\n<=1000000000000/\
 ∀(r:Int) (H':Hp),0<=r->r<1999999973->SB b H H'->H' b=some (.lst [.int (n+1)])->Q (.int r) H'
theorem q_ {P:Program}{w:World}{K:W.Frag}{mg:Str->Option Value}{base:Heap}{CX:jo}{k:Nat}{f:Addr}{fd:FuncData}{ps:List Str}(F:dj P w K mg base CX k f fd ps (m_ K)):dj P w K mg base CX k f fd ps (kP K):=
 F.imp λvs H Q E ⟨a,b,ns,n,e,g,J,q⟩=>⟨a,b,ns,n,e,g,J,λH' L h1=>q _ H' (tV _ _) (tW _ _) L h1⟩
def oP (K:W.Frag):Sp:=λvs H Q _=>∃a b ns n,vs=[.ref a,.ref b]/\G0 K H a b ns n/\n<=1000000000000/\
 ∀(v:V) (k:Kd) (H':Hp),SB b H H'->H' b=some (.lst [.int (n+1)])->KA H' v k->k.dep<=1->mU k->k.W->Q v H'
def ra (K:W.Frag):Sp:=λvs H Q _=>∃a b ns n,∃m:Nat,vs=[.ref a,.ref b,.int m]/\m<=12/\G0 K H a b ns n/\n<=1000000000000/\
 ∀(p:Addr) (ss:List Str) (H':Hp),SB b H H'->H' b=some (.lst [.int (n+1)])->p≠b->H' p=some (.lst (ss.map V.str))->ss.length=m->ss.Nodup->(∀x∈ss,jM x)->ss.Pairwise sle->Q (.ref p) H'
noncomputable def ck:Nat->Nat
 |0=>2
 |d+1=>3 * ck d+6
def lx (K:W.Frag) (d:Nat):Sp:=λvs H Q _=>∃a b ns n,vs=[.ref a,.ref b,.int d]/\G0 K H a b ns n/\n+ck d<=1000000000000/\
 ∀(v:V) (k:Kd) (n':Int) (H':Hp),SB b H H'->H' b=some (.lst [.int n'])->n<=n'->n'<=n+ck d->KA H' v k->k.dep<=d+1->k.W->Q v H'
def A8 (K:W.Frag) (d:Nat):Sp:=λvs H Q _=>∃a b ns n,∃m:Nat,vs=[.ref a,.ref b,.int m,.int d]/\m<=3/\G0 K H a b ns n/\n+1+3 * ck d<=1000000000000/\
 ∀(t:Addr) (xs:List V) (fs:Fs) (n':Int) (H':Hp),SB b H H'->H' b=some (.lst [.int n'])->n<=n'->n'<=n+1+3 * ck d->H' t=some (.tup xs)->FA H' xs fs->fs.names.Nodup->fs.names.length=m->fs.dep<=d+1->fs.W->Q (.ref t) H'
def A9 (K:W.Frag) (d:Nat):Sp:=λvs H Q _=>∃a b ns n,∃m:Nat,vs=[.ref a,.ref b,.int m,.int d]/\1<=m/\m<=3/\G0 K H a b ns n/\n+5+3 * ck d<=1000000000000/\
 ∀(v:V) (k:Kd) (n':Int) (H':Hp),SB b H H'->H' b=some (.lst [.int n'])->n<=n'->n'<=n+5+3 * ck d->KA H' v k->k.dep<=d+2->k.W->Q v H'
def A_ (K:W.Frag) (d:Nat):Sp:=λvs H Q _=>∃a b ns n,∃m:Nat,vs=[.ref a,.ref b,.int m,.int d]/\1<=m/\m<=3/\G0 K H a b ns n/\n+2+(m:Int) * (ck d+1)<=1000000000000/\
 ∀(v:V) (key J:Str) (fs:Fs) (n':Int) (H':Hp),SB b H H'->H' b=some (.lst [.int n'])->n<=n'->n'<=n+2+(m:Int) * (ck d+1)->KA H' v (.rows key J fs)->(Kd.rows key J fs).dep<=d+2->(Kd.rows key J fs).W->fs.names.length=m->(fs.names.Pairwise sle/\J≠key)->Q v H'
def Ba (K:W.Frag):Sp:=λvs H Q _=>∃a b ns n,vs=[.ref a,.ref b]/\G0 K H a b ns n/\n<=1000000000000/\
 ∀(H':Hp),SB b H H'->H' b=some (.lst [.int (n+1)])->Q (.int (num ns (n+1))) H'
def Bb (K:W.Frag):Sp:=λvs H Q _=>∃a b ns n,vs=[.ref a,.ref b]/\G0 K H a b ns n/\n<=1000000000000/\
 ∀(H':Hp),SB b H H'->H' b=some (.lst [.int (n+1)])->Q (.str (eM ns (n+1))) H'
variable {P:Program}{w:World}{K:W.Frag}{mg:Str->Option Value}{base:Heap}
theorem HS:d9 ["_law_script","_law_at","_law_cell","_law_m"] XA (dN (top 29)):=eG
theorem oQ (T:Tb mg)(J:Dn K mg "_law_next" ed (top 29) L U):dj P w K mg base dm (1) L U ed (m_ K):=by
 refine J.F.ok HS λvs H Q E h=>?_;obtain⟨a,b,ns,n,rfl,g,hn,q⟩:=h;refine⟨rfl,λaa A outer s nd hr hu=>?_⟩
 refine⟨_,(dh (yY (dk gE (gX (pv 1) c_) c_) (EZ (pv 1) c_ set_list))
  (dh (dI 2 nd c_)
  (dh (dM (dQ j6 (dX js (by rfl) T.gG PySem.boot_len (a_ (pv 0) b_)) c_ (dP _)) (dq (dI 2 nd (gX (pv 0) (dk eL (gX (pv 1) c_) (dX js (by rfl) T.gG PySem.boot_len (a_ (pv 0) b_)))))) dO)
  (dh (dI 3 nd (dk eL (dk j5 (dk gE (dk gE (dk eL (pv 2) c_) (dk j5 (dk j5 (gX (pv 1) c_) (gX (pv 1) c_)) c_)) c_) c_) c_))
  (dq (dF (dk eL (dk j5 (pv 3) (pv 3)) c_))))))),?_⟩
 ac_rfl
 have hb:=g.at_;have hp:=g.pos;have hS:dy K (upd H b (.lst [.int (n+1)])) a (ns.map V.int):=(SB.wr.jS hb g.jS).sq;have Y:upd H b (.lst [.int (n+1)]) b=some (.lst [.int (n+1)]):=dw;refine⟨_,rfl,b,_,_,_,rfl,rfl,dy.of hb,rfl,_,_,rfl,rfl,_,rfl,b,_,_,0,rfl,rfl,hb,rfl,?_⟩;refine⟨_,rfl,a,_,rfl,.inl hS,_,_,rfl,rfl,_,rfl,?_⟩;have hl:(ns.map V.int).length=ns.length:=Q0b _;refine eX (λc=>?_) (λc=>?_)
 . have c':(0:Int)<((ns.map V.int).length:Nat):=of_decide_eq_true c;rw[hl] at c';have i0:=Q0i (n+1) (show(ns.length:Int)≠0 by omega);have i1:=Q0h (n+1) c'
   have hz:fg (ns.map V.int) ((n+1) % (((ns.map V.int).length:Nat):Int))=some (.int (cellAt ns (n+1))):=by
    rw[hl,int_at i0 i1];unfold cellAt;rw[if_pos (by omega)]
   refine⟨_,rfl,_,rfl,b,_,_,_,rfl,rfl,dy.of Y,rfl,_,rfl,a,_,rfl,.inl hS,_,_,rfl,rfl,by rw[hl];exact c',a,_,_,_,rfl,rfl,hS,hz,?_⟩
   refine⟨_,rfl,_,_,rfl,rfl,(by show(0:Int)<_;decide),_,rfl,b,_,_,_,rfl,rfl,dy.of Y,rfl,_,rfl,b,_,_,_,rfl,rfl,dy.of Y,rfl,_,_,rfl,rfl,.inl ⟨by omega,by omega⟩,_,_,rfl,rfl,.inr ⟨by decide,by decide⟩,
    _,_,rfl,rfl,_,_,rfl,rfl,_,_,rfl,rfl,.inr ⟨by decide,by decide⟩,_,_,rfl,rfl,(by show(0:Int)<_;decide),?_⟩
   refine⟨_,rfl,_,rfl,_,_,rfl,rfl,.inl ⟨?_,?_⟩,_,_,rfl,rfl,(by show(0:Int)<_;decide),q _ SB.wr Y⟩
   . exact Q3c (by decide) (Q0i _ (by decide))
   . exact Int.lt_trans (Q0h _ (by decide)) (by decide)
 . have c':¬(0:Int)<((ns.map V.int).length:Nat):=λz=>c (decide_eq_true z);rw[hl] at c'
   have hz:cellAt ns (n+1)=0:=by
    unfold cellAt;rw[if_neg (by omega)]
   have q':Q (.int (((0:Int) % 2147483647+(n+1) * (n+1) * 7919+11) * 48271 % 2147483647 * (((0:Int) % 2147483647+(n+1) * (n+1) * 7919+11) * 48271 % 2147483647) % 1999999973)) (upd H b (.lst [.int (n+1)])):=by
    have:=q _ SB.wr Y;unfold nx at this;rw[hz] at this;exact this
   refine⟨_,rfl,_,_,rfl,rfl,(by show(0:Int)<_;decide),_,rfl,b,_,_,_,rfl,rfl,dy.of Y,rfl,_,rfl,b,_,_,_,rfl,rfl,dy.of Y,rfl,_,_,rfl,rfl,.inl ⟨by omega,by omega⟩,_,_,rfl,rfl,.inr ⟨by decide,by decide⟩,
    _,_,rfl,rfl,_,_,rfl,rfl,_,_,rfl,rfl,.inr ⟨by decide,by decide⟩,_,_,rfl,rfl,(by show(0:Int)<_;decide),?_⟩
   refine⟨_,rfl,_,rfl,_,_,rfl,rfl,.inl ⟨?_,?_⟩,_,_,rfl,rfl,(by show(0:Int)<_;decide),q'⟩
   . exact Q3c (by decide) (Q0i _ (by decide))
   . exact Int.lt_trans (Q0h _ (by decide)) (by decide)
theorem HU:d9 XA XA (dN (top 33)):=eG
theorem ui (T:Tb mg)(J:Dn K mg "_law_plain" ed (top 33) L U)(Y:Dn K mg "_law_next" ed (top 29) aa ab)(ac:dj P w K mg base dm (1) aa ab ed (kP K)):dj P w K mg base dm (2) L U ed (oP K):=by
 refine J.F.ok HU λvs H Q E h=>?_;obtain⟨a,b,ns,n,rfl,g,hn,q⟩:=h;refine⟨rfl,λaf A outer s nd hr hu=>?_⟩
 refine⟨_,(dh (dM (dQ eh (dk eL (dJ ac hr Y (a_ (pv 0) (a_ (pv 1) b_))) c_) c_ (dP _)) (dq (dF (f_ (a_ dv b_)))) dO)
  (dq (dF (f_ (a_ dv b_))))),?_⟩
 ac_rfl
 refine⟨_,rfl,_,rfl,a,b,ns,n,rfl,g,hn,λr H1 r0 r1 s1 h1=>?_⟩;refine⟨_,_,rfl,rfl,(by show(0:Int)<_;decide),rfl,_,rfl,?_⟩
 have fin:∀(x:Str) (k:Kd),(∀(p:Addr) (H2:Hp),H2 p=some (.tup [.str x])->KA H2 (.ref p) k)->k.dep<=1->mU k->k.W->∀p,H1 p=none->Q (.ref p) (upd H1 p (.tup [.str x])):=λx k hk hd hp hw p ae=>
  q _ k _ (s1.trans (SB.new ae)) (by rw[dg (dA h1 ae)];exact h1) (hk p _ dw) hd hp hw
 refine eX (λc=>?_) (λc=>?_)
 . exact⟨iW,λp hp=>fin _ .num (λp H2 e=>by unfold KA;exact⟨p,rfl,e⟩) (Q00 _) trivial (by unfold Kd.W;trivial) p hp⟩
 . exact⟨iW,λp hp=>fin _ .eM (λp H2 e=>by unfold KA;exact⟨p,rfl,e⟩) (Q00 _) trivial (by unfold Kd.W;trivial) p hp⟩
theorem HV:d9 ["_law_script","_law_at","_law_m","_law_cell"] XA (dN (top 30)):=eG
theorem HW (T:Tb mg)(J:Dn K mg "_law_number" ed (top 30) L U)(Y:Dn K mg "_law_next" ed (top 29) aa ab)(ac:dj P w K mg base dm (1) aa ab ed (m_ K)):dj P w K mg base dm (2) L U ed (Ba K):=by
 refine J.F.ok HV λvs H Q E h=>?_;obtain⟨a,b,ns,n,rfl,g,hn,q⟩:=h;refine⟨rfl,λaf A outer s nd hr hu=>?_⟩
 refine⟨_,(dh (dI 2 nd (dJ ac hr Y (a_ (pv 0) (a_ (pv 1) b_))))
  (dh (dI 3 nd c_)
  (dh (dM (dQ j6 (dX js (by rfl) T.gG PySem.boot_len (a_ (pv 0) b_)) c_ (dP _)) (dq (dI 3 nd (gX (pv 0) (dk eL (gX (pv 1) c_) (dX js (by rfl) T.gG PySem.boot_len (a_ (pv 0) b_)))))) dO)
  (dh (dM (dQ eh (dk eL (pv 2) c_) c_ (dP _)) (dq (dF (dk jn (dk eL (dk gj (pv 2) c_) c_) c_))) dO)
  (dq (dF (dk jn (dk eL (dk gE (dk eL (pv 3) (dk qm c_ c_)) (dk j5 (pv 2) (dk qm c_ c_))) (dk j5 c_ (dk qm c_ c_))) (dk qm c_ c_)))))))),?_⟩
 ac_rfl
 refine⟨_,rfl,_,rfl,a,b,ns,n,rfl,g,hn,λH1 s1 h1=>?_⟩;have g1:=g.go s1 h1 (by omega);have hS:=g1.jS.sq;have r0:=tV ns (n+1);have r1:=tW ns (n+1);have hl:(ns.map V.int).length=ns.length:=Q0b _;have hq:∀e,num ns (n+1)=e->Q (.int e) H1:=λe he=>by rw[<-he];exact q _ s1 h1
 unfold num at hq;refine⟨_,rfl,a,_,rfl,.inl hS,_,_,rfl,rfl,_,rfl,?_⟩;have pw:sI 10 40:=⟨by decide,by decide,by decide⟩;have ae:sI 10 29:=⟨by decide,by decide,by decide⟩;refine eX (λc=>?_) (λc=>?_)
 . have c':(0:Int)<((ns.map V.int).length:Nat):=of_decide_eq_true c;rw[hl] at c';have i0:=Q0i (n+1) (show(ns.length:Int)≠0 by omega);have i1:=Q0h (n+1) c'
   have hz:fg (ns.map V.int) ((n+1) % (((ns.map V.int).length:Nat):Int))=some (.int (cellAt ns (n+1))):=by
    rw[hl,int_at i0 i1];unfold cellAt;rw[if_pos (by omega)]
   refine⟨_,rfl,_,rfl,b,_,_,_,rfl,rfl,dy.of h1,rfl,_,rfl,a,_,rfl,.inl hS,_,_,rfl,rfl,by rw[hl];exact c',a,_,_,_,rfl,rfl,hS,hz,?_⟩;refine⟨_,rfl,_,_,rfl,rfl,(by show(0:Int)<_;decide),rfl,_,rfl,eX (λc2=>?_) (λc2=>?_)⟩
   . have c3:nx ns (n+1) % 3=0:=by
      have:=of_decide_eq_true c2;injection this
     refine⟨_,rfl,_,_,rfl,rfl,⟨by decide,by decide⟩,_,_,rfl,rfl,(by show(0:Int)<_;decide),_,_,rfl,rfl,hq _ (by rw[if_pos c3])⟩
   . have c3:¬nx ns (n+1) % 3=0:=λz=>c2 (decide_eq_true (show V.int (nx ns (n+1) % 3)=V.int 0 by rw[z]));refine⟨_,rfl,_,_,rfl,rfl,pw,_,_,rfl,rfl,(by show(0:Int)<_;decide),_,rfl,_,_,rfl,rfl,ae,_,_,rfl,rfl,.inl ⟨by omega,by omega⟩,_,_,rfl,rfl,_,_,rfl,rfl,pw,_,_,rfl,rfl,.inl ⟨by decide,by decide⟩,_,_,rfl,rfl,(by show(0:Int)<_;decide),_,_,rfl,rfl,pw,_,_,rfl,rfl,hq _ (by rw[if_neg c3];rfl)⟩
 . have c':¬(0:Int)<((ns.map V.int).length:Nat):=λz=>c (decide_eq_true z);rw[hl] at c'
   have hz:cellAt ns (n+1)=0:=by
    unfold cellAt;rw[if_neg (by omega)]
   refine⟨_,rfl,_,_,rfl,rfl,(by show(0:Int)<_;decide),rfl,_,rfl,eX (λc2=>?_) (λc2=>?_)⟩
   . have c3:nx ns (n+1) % 3=0:=by
      have:=of_decide_eq_true c2;injection this
     refine⟨_,rfl,_,_,rfl,rfl,⟨by decide,by decide⟩,_,_,rfl,rfl,(by show(0:Int)<_;decide),_,_,rfl,rfl,hq _ (by rw[if_pos c3])⟩
   . have c3:¬nx ns (n+1) % 3=0:=λz=>c2 (decide_eq_true (show V.int (nx ns (n+1) % 3)=V.int 0 by rw[z]));refine⟨_,rfl,_,_,rfl,rfl,pw,_,_,rfl,rfl,(by show(0:Int)<_;decide),_,rfl,_,_,rfl,rfl,ae,_,_,rfl,rfl,.inl ⟨by omega,by omega⟩,_,_,rfl,rfl,_,_,rfl,rfl,pw,_,_,rfl,rfl,.inl ⟨by decide,by decide⟩,_,_,rfl,rfl,(by show(0:Int)<_;decide),_,_,rfl,rfl,pw,_,_,rfl,rfl,hq _ (by rw[if_neg c3,hz];rfl)⟩
theorem ng:iV.length=93:=by decide +kernel
theorem Bc {z:Int}(J:0<=z)(h1:z<93):fg iV.cps.toList z=some (iV.cps.toList.getD z.toNat 0):=by
 have hl:iV.cps.toList.length=93:=by
  have:=ng;rw[Q1h];exact this
 unfold fg jr;rw[hl,if_pos J,if_pos (show z<((93:Nat):Int) by omega)];show iV.cps.toList[z.toNat]? =_;rw[Q0m,Q0a (by omega)];rfl
theorem uj (m:Int):∀k,(jw m k).length=k
 |0=>rfl
 |k+1=>by
  show(jw m k++_).length=_;rw[AX,uj m k];rfl
noncomputable def σW (a b:Addr) (m:Int) (k:Int) (w:Str) (y z:Option V):St:=[some (.ref a),some (.ref b),some (.str iV),some (.int m),some (.int k),some (.str w),y,z]
theorem HX:d9 ["_law_script","_law_at","_law_signs","_law_m","_law_many","_law_word_here","_law_k","_law_place"] XA (dN (top 31)):=eG
theorem HY (T:Tb mg)(J:Dn K mg "_law_word" ed (top 31) L U)(Y:Dn K mg "_law_next" ed (top 29) aa ab)(ac:dj P w K mg base dm (1) aa ab ed (m_ K)):dj P w K mg base dm (2) L U ed (Bb K):=by
 refine J.F.ok HX λvs H Q E h=>?_;obtain⟨a,b,ns,n,rfl,g,hn,q⟩:=h;refine⟨rfl,λaf A outer s nd hr hu=>?_⟩
 refine⟨_,(dh (dI 2 nd dv)
  (dh (dI 2 nd (dk fe (pv 2) dv))
  (dh (dI 3 nd (dJ ac hr Y (a_ (pv 0) (a_ (pv 1) b_))))
  (dh (dI 4 nd (dk eL (pv 3) c_))
  (dh (dM (dQ eh (dk eL (dk gj (pv 3) c_) c_) c_ (dP _)) (dq (dI 4 nd c_)) dO)
  (dh (dI 5 nd dv)
  (dh (i9 PassesOwn.never rfl (mJ rfl T.m8 (a_ (pv 4) b_)) (e8 (i:=6) nd rfl gh) (dh (dI 7 nd (dk gE (dk gj (pv 3) c_) (dk j5 (dk j5 (pv 6) (pv 6)) (dk eL (dk gj (pv 3) c_) c_))))
  (dq (dI 5 nd (dk fe (pv 5) (ij iQ (pv 2) (dk eL (pv 7) (dX lZ (by rfl) T.gG PySem.boot_len (a_ (pv 2) b_))) (λ_ _=>rfl)))))))
  (dq (dF (pv 5)))))))))),?_⟩
 ac_rfl
 have ae:(iV).length<=sizeLine:=by rw[ng];decide
 refine⟨_,rfl,_,_,rfl,rfl,ae,?_⟩;refine⟨_,rfl,_,rfl,a,b,ns,n,rfl,g,hn,λH1 s1 h1=>?_⟩;have r0:=tV ns (n+1);have r1:=tW ns (n+1);have hq:∀e,eM ns (n+1)=e->Q (.str e) H1:=λe he=>by rw[<-he];exact q _ s1 h1
 unfold eM at hq;generalize nx ns (n+1)=m at *;refine⟨_,rfl,_,_,rfl,rfl,(by show(0:Int)<_;decide),?_⟩;refine⟨_,rfl,_,_,rfl,rfl,⟨by decide,by decide⟩,_,_,rfl,rfl,(by show(0:Int)<_;decide),rfl,_,rfl,eX (λc=>?_) (λc=>?_)⟩
 . have c3:m / 5 % 29=0:=by
    have:=of_decide_eq_true c;injection this
   rw[if_pos c3] at hq;refine⟨_,rfl,_,rfl,by decide,by decide,mK (n:=Int.toNat 40) (λi σ H'=>∃y z,σ=σW a b m 40 (jw m i) y z/\H'=H1) ⟨_,_,rfl,rfl⟩ ?_ ?_⟩
   . rintro i σ H' hi ⟨y,z,rfl,rfl⟩;have hi:i<40:=hi;have e0:(0:Int)+(i:Int)=(i:Int):=by omega
     have l3:0<=(m / 145+((0:Int)+(i:Int)) * ((0:Int)+(i:Int)) * (m / 7 % 3)) % 93/\(m / 145+((0:Int)+(i:Int)) * ((0:Int)+(i:Int)) * (m / 7 % 3)) % 93<93:=⟨Q0i _ (by decide),Q0h _ (by decide)⟩;refine⟨_,rfl,_,_,rfl,rfl,⟨by decide,by decide⟩,_,rfl,_,rfl,_,_,rfl,rfl,.inl ⟨by omega,by omega⟩,_,rfl,_,_,rfl,rfl,⟨by decide,by decide⟩,_,_,rfl,rfl,(by show(0:Int)<_;decide),_,_,rfl,rfl,.inr ⟨by omega,by omega⟩,_,_,rfl,rfl,?_⟩;refine⟨_,rfl,_,rfl,_,rfl,_,rfl,_,rfl,ae,_,_,rfl,rfl,(by show(0:Int)<((iV.length:Nat):Int);rw[ng];decide),iV,_,_,rfl,rfl,ae,(by rw[ng];exact Bc l3.1 l3.2),_,_,rfl,rfl,?_,?_⟩
     . rw[uj];show i+1<=sizeLine;exact Q14 (hX (by omega))
     . rw[e0];exact⟨_,_,rfl,rfl⟩
   . rintro σ H' ⟨y,z,rfl,rfl⟩;exact⟨_,rfl,hq _ rfl⟩
 . have c3:¬m / 5 % 29=0:=λz=>c (decide_eq_true (show V.int (m / 5 % 29)=V.int 0 by rw[z]));rw[if_neg c3] at hq;have h5:0<=m % 5/\m % 5<5:=by omega
   refine⟨_,rfl,_,rfl,by omega,by omega,mK (n:=Int.toNat (m % 5)) (λi σ H'=>∃y z,σ=σW a b m (m % 5) (jw m i) y z/\H'=H1) ⟨_,_,rfl,rfl⟩ ?_ ?_⟩
   . rintro i σ H' hi ⟨y,z,rfl,rfl⟩;have hi:i<40:=by omega
     have e0:(0:Int)+(i:Int)=(i:Int):=by omega
     have l3:0<=(m / 145+((0:Int)+(i:Int)) * ((0:Int)+(i:Int)) * (m / 7 % 3)) % 93/\(m / 145+((0:Int)+(i:Int)) * ((0:Int)+(i:Int)) * (m / 7 % 3)) % 93<93:=⟨Q0i _ (by decide),Q0h _ (by decide)⟩;refine⟨_,rfl,_,_,rfl,rfl,⟨by decide,by decide⟩,_,rfl,_,rfl,_,_,rfl,rfl,.inl ⟨by omega,by omega⟩,_,rfl,_,_,rfl,rfl,⟨by decide,by decide⟩,_,_,rfl,rfl,(by show(0:Int)<_;decide),_,_,rfl,rfl,.inr ⟨by omega,by omega⟩,_,_,rfl,rfl,?_⟩;refine⟨_,rfl,_,rfl,_,rfl,_,rfl,_,rfl,ae,_,_,rfl,rfl,(by show(0:Int)<((iV.length:Nat):Int);rw[ng];decide),iV,_,_,rfl,rfl,ae,(by rw[ng];exact Bc l3.1 l3.2),_,_,rfl,rfl,?_,?_⟩
     . rw[uj];show i+1<=sizeLine;exact Q14 (hX (by omega))
     . rw[e0];exact⟨_,_,rfl,rfl⟩
   . rintro σ H' ⟨y,z,rfl,rfl⟩;exact⟨_,rfl,hq _ rfl⟩
end Pb
namespace Pb
open L2 PyProof.Rows
structure Dm (K:W.Frag) (x qual:Str) (ps:List Str) (st:Stmt) (f:Addr) (fd:FuncData):Prop where
 F:jt K x qual st f fd
 b:Binds K fd ps []
noncomputable def di (x:Tx):Str:=⟨x.toArray⟩
theorem ja (x:Tx):(di x).cps.toList=x:=rfl
theorem fH (x:Tx):(di x).length=x.length:=Q0e
theorem jb (z:Str):di z.cps.toList=z:=by cases z;rfl
theorem kQ {x y:Tx}(h:di x=di y):x=y:=by have:=congrArg (λz:Str=>z.cps.toList) h;exact this
theorem fy (x y:Tx):di x++di y=di (x++y):=by
 show(⟨x.toArray++y.toArray⟩:Str)=⟨(x++y).toArray⟩;rw[List.append_toArray]
noncomputable def Th.V:Th->V
 | .int i=>.int i
 | .str x=>.str (di x)
noncomputable def jz:Nat->Str
 |0=>"end"
 |1=>"none"
 |2=>"mark"
 |3=>"word"
 |4=>"name"
 |_=>"number"
noncomputable def iv (x:Tx):Int:=(intText? (di x)).getD 0
noncomputable def Bd (q:Pc):List V:=[.str (jz q.sort),q.th.V,.int q.b,.int q.e]
abbrev jT (H:Hp) (v:V) (q:Pc):Prop:=∃a,v=.ref a/\H a=some (.tup (Bd q))
inductive h9 (H:Hp):List V->List Pc->Prop
 |nil:h9 H [] []
 |cons {v:V} {q:Pc} {vs:List V} {qs:List Pc} (h:jT H v q) (t:h9 H vs qs):h9 H (v::vs) (q::qs)
theorem h9.tu {H H':Hp}(u:Tu H H'):∀{vs:List V}{qs:List Pc},h9 H vs qs->h9 H' vs qs
 |_,_,.nil=>.nil
 |_,_,.cons ⟨a,e,h⟩ t=>.cons ⟨a,e,u _ _ h⟩ (h9.tu u t)
theorem h9.snoc {H:Hp}{v:V}{q:Pc}(h:jT H v q):∀{vs:List V}{qs:List Pc},h9 H vs qs->h9 H (vs++[v]) (qs++[q])
 |_,_,.nil=>.cons h .nil
 |_,_,.cons g t=>.cons g (h9.snoc h t)
noncomputable def inR (lo hi c:Nat):Bool:=decide (lo<=c) && decide (c<=hi)
def rb:Sp:=λvs H Q _=>∃t:Tx,∃p:Nat,vs=[.str (di t),.int p]/\t.length<=100000/\p<=t.length/\∀v H',Same H H'->jT H' v (kN p (t.drop p))->Q v H'
def uk:Sp:=λvs H Q _=>∃t:Tx,∃p lo hi:Nat,vs=[.str (di t),.int p,.str (di [lo]),.str (di [hi])]/\t.length<=100000/\p<=t.length/\Q (.int ((p+((t.drop p).takeWhile (inR lo hi)).length:Nat):Int)) H
def Be:Sp:=λvs H Q _=>∃t:Tx,∃p:Nat,vs=[.str (di t),.int p]/\t.length<=100000/\t[p]? =some 34/\∀v H',Same H H'->jT H' v (wordAt p (t.drop (p+1)))->Q v H'
def Bf:Sp:=λvs H Q _=>∃t:Tx,∃p:Nat,vs=[.str (di t),.int p]/\t.length<=100000/\p<t.length/\∀v H',Same H H'->jT H' v (l_ p (t.drop p))->Q v H'
def Bg:Sp:=λvs H Q _=>∃t:Tx,∃p:Nat,vs=[.str (di t),.int p]/\t.length<=100000/\p<t.length/\∀v H',Same H H'->jT H' v (numAt iv p (t.drop p))->Q v H'
def Bh:Sp:=λvs H Q _=>∃t:Tx,∃p c:Nat,vs=[.str (di t),.int p]/\t.length<=100000/\t[p]? =some c/\∀v H',Same H H'->jT H' v (fj iv p c (t.drop (p+1)))->Q v H'
def Bi:Sp:=λvs H Q _=>∃t:Tx,vs=[.str (di t)]/\t.length<=100000/\∀l us H',Same H H'->H l=none->H' l=some (.lst us)->h9 H' us (gy iv 0 t)->Q (.ref l) H'
theorem mn {n:Nat}(h:n<=100000):n<=sizeLine:=Q07 h (by decide)
theorem rf (a b:Nat):(!decide ((di [a]).cps.toList<(di [b]).cps.toList))=decide (b<=a):=by
 rw[ja,ja];by_cases h:b<=a
 . rw[decide_eq_true h,decide_eq_false (λz=>by have:=AF.mp z;omega)];rfl
 . rw[decide_eq_false h,decide_eq_true (AF.mpr (by omega))];rfl
variable {P:Program}{w:World}{K:W.Frag}{mg:Str->Option Value}{base:Heap}
theorem HZ:d9 XC XC (dN (top 13)):=eG
theorem H_ (T:Tb mg)(J:Dn K mg "no_piece" gq (top 13) ly lz):dj P w K mg base dm (1) ly lz gq (rb):=by
 refine J.F.ok HZ λvs H Q E h=>?_;obtain⟨t,p,rfl,hl,hp,q⟩:=h;refine⟨rfl,λY A outer s nd hr hu=>?_⟩;refine⟨_,(dq (dF (f_ (a_ dv (a_ dv (a_ (pv 1) (a_ (dX lZ (by rfl) T.gG PySem.boot_len (a_ (pv 0) b_)) b_))))))),?_⟩
 ac_rfl
 have L:(di t).length<=sizeLine:=by rw[fH];exact mn hl
 refine⟨_,rfl,_,rfl,_,rfl,L,jy,λa U=>q _ _ (Same.new U) ⟨a,rfl,?_⟩⟩;rw[dw];have e:((di t).length:Int)=((p+(t.drop p).length:Nat):Int):=by rw[fH,Q0z];omega
 show some (HO.tup [.str "none",.str "",.int p,.int (di t).length])=some (HO.tup [.str "none",.str (di []),.int p,.int ((p+(t.drop p).length:Nat):Int)]);rw[e];rfl
theorem Ia:d9 ["text","place","least","most","end"] XZ (dN (top 14)):=eG
theorem Ib (T:Tb mg)(J:Dn K mg "run_end" m9 (top 14) nh ni):dj P w K mg base dm (1) nh ni m9 (uk):=by
 refine J.F.ok Ia λvs H Q E h=>?_;obtain⟨t,p,lo,hi,rfl,hl,hp,q⟩:=h;refine⟨rfl,λab A outer s nd hr hu=>?_⟩
 refine⟨_,(dh (dI 4 nd (pv 1))
  (dh (qh PassesOwn.never (PW.pt (i8 (dQ mL (pv 4) (dX lZ (by rfl) T.gG PySem.boot_len (a_ (pv 0) b_)) (dP _)) (i8 (dQ AB (ij iQ (pv 0) (pv 4) (λ_ _=>rfl)) (pv 2) (dP _)) (j1 (dQ AD (ij iQ (pv 0) (pv 4) (λ_ _=>rfl)) (pv 3) (dP _)))))) (dq (y7 (i:=4) nd rfl gh c_ y8)))
  (dq (dF (pv 4))))),?_⟩
 ac_rfl
 refine⟨_,rfl,?_⟩;refine⟨λm σ H'=>∃e:Nat,m=t.length - e/\H'=H/\p<=e/\e<=t.length/\σ=[some (.str (di t)),some (.int p),some (.str (di [lo])),some (.str (di [hi])),some (.int e)]/\e+((t.drop e).takeWhile (inR lo hi)).length=p+((t.drop p).takeWhile (inR lo hi)).length,⟨_,p,rfl,rfl,Q00 _,hp,rfl,rfl⟩,?_⟩;intro m σ H' zq;obtain⟨e,rfl,rfl,h1,h2,rfl,U⟩:=zq;have hz:(di t).length<=sizeLine:=by rw[fH];exact mn hl
 refine⟨_,rfl,_,rfl,_,rfl,hz,_,_,rfl,rfl,_,rfl,?_⟩;rw[fH];refine eX (λc=>?_) (λc=>?_)
 . have c':e<t.length:=by have:=of_decide_eq_true c;omega
   have hd:t[e]? =some (t[e]'c'):=Q0a c';have Y:fg (di t).cps.toList (e:Int)=some (t[e]'c'):=hV (by rw[ja];exact hd);have L:t.drop e=t[e]'c'::t.drop (e+1):=Q1c c';refine⟨_,rfl,_,rfl,_,_,_,rfl,rfl,hz,Y,_,rfl,_,_,rfl,rfl,_,rfl,?_⟩
   have stop:∀e':Nat,¬inR lo hi (t[e]'c')=true->Q (.int (e:Int)) H':=λ_ hn=>by
    rw[L,Q1t hn] at U;have:(p+((t.drop p).takeWhile (inR lo hi)).length:Nat)=e:=by rw[<-U];rfl
    rw[this] at q;exact q
   have g1:(!decide ((⟨#[t[e]'c']⟩:Str).cps.toList<(di [lo]).cps.toList))=decide (lo<=t[e]'c'):=rf _ _;have g2:(!decide ((di [hi]).cps.toList<(⟨#[t[e]'c']⟩:Str).cps.toList))=decide (t[e]'c'<=hi):=rf _ _;show if(!decide ((⟨#[t[e]'c']⟩:Str).cps.toList<(di [lo]).cps.toList))=true then _ else _
   rw[g1];refine eX (λc1=>?_) (λc1=>?_)
   . refine⟨_,rfl,_,rfl,_,_,_,rfl,rfl,hz,Y,_,rfl,_,_,rfl,rfl,_,rfl,?_⟩;show if(!decide ((di [hi]).cps.toList<(⟨#[t[e]'c']⟩:Str).cps.toList))=true then _ else _
     rw[g2];refine eX (λc2=>?_) (λc2=>?_)
     . have aa:inR lo hi (t[e]'c')=true:=by unfold inR;rw[c1,c2];rfl
       refine⟨_,λ_ _ z=>z,?_⟩;refine⟨_,rfl,_,_,rfl,rfl,t.length - (e+1),by omega,e+1,rfl,rfl,by omega,by omega,rfl,?_⟩;rw[<-U,L,Q2a aa,Q02];omega
     . exact⟨_,rfl,stop e λz=>by unfold inR at z;rw[Bool.and_eq_true] at z;exact c2 z.2⟩
   . show if false=true then _ else _
     rw[if_neg Bool.false_ne_true];exact⟨_,rfl,stop e λz=>by unfold inR at z;rw[Bool.and_eq_true] at z;exact c1 z.1⟩
 . have c':e=t.length:=by
    have:¬(e:Int)<(t.length:Int):=λz=>c (decide_eq_true z);omega
   show if false=true then _ else _
   rw[if_neg Bool.false_ne_true];refine⟨_,rfl,?_⟩;rw[c',Q3d] at U;have:(p+((t.drop p).takeWhile (inR lo hi)).length:Nat)=e:=by rw[<-U,c'];rfl
   rw[this] at q;exact q
structure Gb (mg:Str->Option Value) (tM tL tF tS:Tok):Prop where
 ma:mg "MARKS"=some (.str "{}[]()<>:," tM)
 le:mg "MOST_LETTERS"=some (.int 12 tL)
 fi:mg "MOST_FIGURES"=some (.int 80 tF)
 si:mg "MOST_SIGNS"=some (.int 40 tS)
theorem Ic:(Str.ofString "\"")=(⟨#[34]⟩:Str):=by decide +kernel
theorem um {t:Tx}{p c:Nat}(h:t[p]? =some c):p<t.length:=by
 rcases Q2g p t.length with z|z
 . exact z
 . rw[Q3e z] at h;cases h
theorem uo {t:Tx}{p c:Nat}(h:t[p]? =some c):t.drop p=c::t.drop (p+1):=by
 have hp:=um h;rw[Q1c hp];rw[Q0a hp] at h;injection h with h
 rw[h]
theorem rg (t:Tx)(a b:Nat):Txt.slice (di t) (some (a:Int)) (some (b:Int))=di ((t.take b).drop a):=by
 have:=Hm (di t) (some a) (some b);rw[<-jb (Txt.slice _ _ _)];exact congrArg di this
theorem Bj (r:Tx)(J:dZ r≠0)(L:dZ r<=640):(intText? (di (r.take (sgn r+dZ r)))).isSome=true:=by
 have U:r.take (sgn r+dZ r)=(if r.head? =some 45 then [45] else [])++(r.drop (sgn r)).takeWhile isF:=by
  have Y:(r.drop (sgn r)).take (dZ r)=(r.drop (sgn r)).takeWhile isF:=by
   unfold dZ;exact(List.prefix_iff_eq_take.mp (Q3b isF)).symm
  rw[List.take_add,Y];congr 1;unfold sgn
  cases r with
  |nil=>rfl
  |cons c r=>
   by_cases z:(c::r).head? =some 45
   . rw[if_pos z,if_pos z];injection z with z
     rw[z];rfl
   . rw[if_neg z,if_neg z];rfl
 have e:(if r.head? =some 45 then [45] else []:Tx)=if decide (r.head? =some 45)=true then [45] else []:=by
  by_cases z:r.head? =some 45
  . rw[if_pos z,decide_eq_true z];rfl
  . rw[if_neg z,decide_eq_false z];rfl
 rw[U,e];refine int_text (sg:=decide (r.head? =some 45)) (fs:=(r.drop (sgn r)).takeWhile isF) rfl (λc hc=>?_) (λz=>J ?_) L
 . have:=List.all_takeWhile (p:=isF) (l:=r.drop (sgn r));rw[Q17] at this;have:=this c hc;unfold isF at this;rw[Bool.and_eq_true] at this;exact⟨of_decide_eq_true this.1,of_decide_eq_true this.2⟩
 . unfold dZ;rw[z];rfl
section
variable {P:Program}{w:World}{K:W.Frag}{mg:Str->Option Value}{base:Heap}
variable {ly nh oR oS oU oV oW:Addr}{lz ni oX oY oZ o3 o4:FuncData}{tM tL tF tS:Tok}
theorem Ie:d9 ["text","place","end"] XC (dN (top 15)):=eG
theorem Ig (T:Tb mg)(TG:Gb mg tM tL tF tS)(Y:Dn K mg "word_at" gq (top 15) oR oX)(L:Dn K mg "no_piece" gq (top 13) ly lz)(U:dj P w K mg base dm (1) ly lz gq (rb)):dj P w K mg base dm (2) oR oX gq (Be):=by
 have J:=TG.si;refine Y.F.ok Ie λvs H Q E h=>?_;obtain⟨t,p,rfl,hl,aa,q⟩:=h;refine⟨rfl,λae A outer s nd hr hu=>?_⟩;have hp:=um aa
 refine⟨_,(dh (dI 2 nd (gA PySem.F.plainAttrs_str PySem.F.slot_str_find PySem.F.type_str_find Hn (pv 0) (a_ dv (a_ (dk gE (pv 1) c_) b_))))
  (dh (dM (PW.pt (ig (dQ eh (pv 2) (qj qo c_) (dP _)) (iw (dQ j6 (dk jn (dk jn (pv 2) (pv 1)) c_) (pY (v:=.int 40) rfl J ⟨_,rfl⟩) (dP _))))) (dq (dF (dJ U hr L (a_ (pv 0) (a_ (pv 1) b_))))) dO)
  (dq (dF (f_ (a_ dv (a_ (lY mP (pv 0) (jJ (dk gE (pv 1) c_)) (jJ (pv 2))) (a_ (pv 1) (a_ (dk gE (pv 2) c_) b_))))))))),?_⟩
 ac_rfl
 have hz:(di t).length<=sizeLine:=by rw[fH];exact mn hl
 have hf:Txt.find3 (di t) "\"" ((p:Int)+1)=if unq (t.drop (p+1))=(t.drop (p+1)).length then -1 else((p+1+unq (t.drop (p+1)):Nat):Int):=by
  have:=Hl (di t) 34 (p+1) (by rw[fH];omega);rw[Ic];exact this
 refine⟨_,rfl,rfl,_,rfl,_,_,rfl,rfl,_,_,_,rfl,rfl,?_⟩;rw[hf];have hu:unq (t.drop (p+1))<=(t.drop (p+1)).length:=m7 _ _;have ac:=uo aa
 have ab:∀v H',Same H H'->jT H' v (kN p (t.drop p))->(unq (t.drop (p+1))=(t.drop (p+1)).length\/40<unq (t.drop (p+1)))->Q v H':=λv H' s1 hv hc=>q v H' s1 (by
  unfold wordAt;rw[if_pos hc,<-ac];exact hv)
 by_cases z:unq (t.drop (p+1))=(t.drop (p+1)).length
 . rw[if_pos z];refine⟨_,rfl,_,rfl,rfl,_,rfl,?_⟩;rw[decide_eq_true rfl];exact dS (dS ⟨_,rfl,_,rfl,t,p,rfl,hl,by omega,λv H' s1 hv=>ab v H' s1 hv (.inl z)⟩)
 . rw[if_neg z];refine⟨_,rfl,_,rfl,rfl,_,rfl,?_⟩;rw[decide_eq_false (λe=>by injection e with e;omega)];refine dE ⟨_,rfl,_,rfl,_,_,rfl,rfl,_,_,rfl,rfl,_,_,rfl,rfl,_,rfl,?_⟩;refine eX (λc=>?_) (λc=>?_)
   . have c':=of_decide_eq_true c;exact⟨_,rfl,_,rfl,t,p,rfl,hl,by omega,λv H' s1 hv=>ab v H' s1 hv (.inr (by omega))⟩
   . have c':¬(40:Int)<_:=λe=>c (decide_eq_true e);refine⟨_,rfl,_,rfl,_,_,rfl,rfl,_,rfl,_,rfl,_,rfl,_,rfl,hz,?_⟩;refine⟨_,rfl,_,rfl,_,_,rfl,rfl,jy,λa ha=>q _ _ (Same.new ha) ⟨a,rfl,?_⟩⟩;rw[dw];unfold wordAt;rw[if_neg (by rintro(h|h);exact z h;omega)]
     have e1:Txt.slice (di t) (some ((p:Int)+1)) (some ((p+1+unq (t.drop (p+1)):Nat):Int))=di ((t.drop (p+1)).take (unq (t.drop (p+1)))):=by
      have:=rg t (p+1) (p+1+unq (t.drop (p+1)));rw[Q20];exact this
     have e2:((p+1+unq (t.drop (p+1)):Nat):Int)+1=((p+(unq (t.drop (p+1))+2):Nat):Int):=by omega
     show some (HO.tup [.str "word",.str (Txt.slice (di t) (some ((p:Int)+1)) (some ((p+1+unq (t.drop (p+1)):Nat):Int))),.int p,.int (((p+1+unq (t.drop (p+1)):Nat):Int)+1)])=_;rw[e1,e2];rfl
theorem Ih:d9 ["text","place","end"] XC (dN (top 16)):=eG
theorem Ii (T:Tb mg)(TG:Gb mg tM tL tF tS)(Y:Dn K mg "name_at" gq (top 16) oS oY)(L:Dn K mg "no_piece" gq (top 13) ly lz)(U:dj P w K mg base dm (1) ly lz gq (rb))(aa:Dn K mg "run_end" m9 (top 14) nh ni)(ab:dj P w K mg base dm (1) nh ni m9 (uk)):dj P w K mg base dm (2) oS oY gq (Bf):=by
 have J:=TG.le;refine Y.F.ok Ih λvs H Q E h=>?_;obtain⟨t,p,rfl,hl,hp,q⟩:=h;refine⟨rfl,λac A outer s nd hr hu=>?_⟩
 refine⟨_,(dh (dI 2 nd (dJ ab hr aa (a_ (pv 0) (a_ (pv 1) (a_ dv (a_ dv b_))))))
  (dh (dM (dQ j6 (dk jn (pv 2) (pv 1)) (pY (v:=.int 12) rfl J ⟨_,rfl⟩) (dP _)) (dq (dF (dJ U hr L (a_ (pv 0) (a_ (pv 1) b_))))) dO)
  (dq (dF (f_ (a_ dv (a_ (lY mP (pv 0) (jJ (pv 1)) (jJ (pv 2))) (a_ (pv 1) (a_ (pv 2) b_))))))))),?_⟩
 ac_rfl
 have hz:(di t).length<=sizeLine:=by rw[fH];exact mn hl
 refine⟨_,rfl,_,rfl,t,p,97,122,rfl,hl,by omega,?_⟩;have hn:((t.drop p).takeWhile (inR 97 122)).length=ip (t.drop p):=rfl;rw[hn];refine⟨_,rfl,_,rfl,_,_,rfl,rfl,_,_,rfl,rfl,_,rfl,?_⟩;refine eX (λc=>?_) (λc=>?_)
 . have c':=of_decide_eq_true c;refine⟨_,rfl,_,rfl,t,p,rfl,hl,by omega,λv H' s1 hv=>q v H' s1 ?_⟩;unfold l_;rw[if_pos (by omega)];exact hv
 . have c':¬(12:Int)<_:=λe=>c (decide_eq_true e);refine⟨_,rfl,_,rfl,_,rfl,_,rfl,_,rfl,_,rfl,hz,?_⟩;refine⟨_,rfl,_,rfl,jy,λa ha=>q _ _ (Same.new ha) ⟨a,rfl,?_⟩⟩;rw[dw];unfold l_;rw[if_neg (by omega)]
   have e1:Txt.slice (di t) (some (p:Int)) (some ((p+ip (t.drop p):Nat):Int))=di ((t.drop p).take (ip (t.drop p))):=by
    rw[Q20];exact rg t p _
   show some (HO.tup [.str "name",.str (Txt.slice (di t) (some (p:Int)) (some ((p+ip (t.drop p):Nat):Int))),.int p,.int ((p+ip (t.drop p):Nat):Int)])=_;rw[e1];rfl
theorem Ij:d9 ["text","place","first","end"] XC (dN (top 17)):=eG
theorem Ik (T:Tb mg)(TG:Gb mg tM tL tF tS)(ac:Dn K mg "number_at" gq (top 17) oU oZ)(L:Dn K mg "no_piece" gq (top 13) ly lz)(U:dj P w K mg base dm (1) ly lz gq (rb))(ag:Dn K mg "run_end" m9 (top 14) nh ni)(ah:dj P w K mg base dm (1) nh ni m9 (uk)):dj P w K mg base dm (2) oU oZ gq (Bg):=by
 have Y:=TG.fi;refine ac.F.ok Ij λvs H Q E h=>?_;obtain⟨t,p,rfl,hl,hp,q⟩:=h;refine⟨rfl,λaq A outer s nd hr hu=>?_⟩
 refine⟨_,(dh (dI 2 nd (ES (dQ eh (ij iQ (pv 0) (pv 1) (λ_ _=>rfl)) dv (dP _)) (dk gE (pv 1) c_) (pv 1)))
  (dh (dI 3 nd (dJ ah hr ag (a_ (pv 0) (a_ (pv 2) (a_ dv (a_ dv b_))))))
  (dh (dM (PW.pt (ig (dQ eh (pv 3) (pv 2) (dP _)) (iw (dQ j6 (dk jn (pv 3) (pv 2)) (pY (v:=.int 80) rfl Y ⟨_,rfl⟩) (dP _))))) (dq (dF (dJ U hr L (a_ (pv 0) (a_ (pv 1) b_))))) dO)
  (dh (dM (PW.pt (i8 (dQ eh (ij iQ (pv 0) (pv 2) (λ_ _=>rfl)) dv (dP _)) (j1 (dQ lU (lY mP (pv 0) (jJ (pv 1)) (jJ (pv 3))) dv (dP _))))) (dq (dF (dJ U hr L (a_ (pv 0) (a_ (pv 1) b_))))) dO)
  (dq (dF (f_ (a_ dv (a_ (n9 Ho (by rfl) T.ug boot_int (a_ (lY mP (pv 0) (jJ (pv 1)) (jJ (pv 3))) b_)) (a_ (pv 1) (a_ (pv 3) b_))))))))))),?_⟩
 ac_rfl
 have hz:(di t).length<=sizeLine:=by rw[fH];exact mn hl
 have an:∀e (h:e<t.length),fg (di t).cps.toList (e:Int)=some (t[e]'h):=λe h=>hV (by rw[ja];exact Q0a h);have ap:t.drop p=t[p]'hp::t.drop (p+1):=Q1c hp;refine⟨_,rfl,_,rfl,_,_,_,rfl,rfl,hz,an p hp,rfl,_,rfl,?_⟩;by_cases c:t[p]'hp=45
 . have aa:sgn (t.drop p)=1:=by unfold sgn;rw[ap,c];rfl
   rw[decide_eq_true (show V.str (⟨#[t[p]'hp]⟩:Str)=V.str "-" by rw[c];rfl)];refine dS ⟨_,rfl,_,_,rfl,rfl,?_⟩;have ao:dZ (t.drop p)<=((t.drop p).drop (sgn (t.drop p))).length:=m7 _ _;rw[aa,Q1g,Q0z] at ao;refine⟨_,rfl,_,rfl,t,p+1,48,57,rfl,hl,by omega,?_⟩
   have hn:((t.drop (p+1)).takeWhile (inR 48 57)).length=dZ (t.drop p):=by
    unfold dZ;rw[aa,Q1g];rfl
   rw[hn];refine⟨_,rfl,_,rfl,rfl,_,rfl,?_⟩
   have ai:∀v H',Same H H'->jT H' v (kN p (t.drop p))->(dZ (t.drop p)=0\/80<dZ (t.drop p))->Q v H':=λv H' s1 hv hc=>q v H' s1 (by
    unfold numAt;rw[if_pos hc];exact hv)
   by_cases z:dZ (t.drop p)=0
   . rw[decide_eq_true (show V.int ((p+1+dZ (t.drop p):Nat):Int)=V.int ((p:Int)+1) by rw[z];rfl)];exact dS (dS ⟨_,rfl,_,rfl,t,p,rfl,hl,by omega,λv H' s1 hv=>ai v H' s1 hv (.inl z)⟩)
   rw[decide_eq_false (λe=>by injection e with e;omega)];refine dE ⟨_,rfl,_,rfl,_,_,rfl,rfl,_,_,rfl,rfl,_,rfl,?_⟩;refine eX (λc2=>?_) (λc2=>?_)
   . have c':=of_decide_eq_true c2;exact⟨_,rfl,_,rfl,t,p,rfl,hl,by omega,λv H' s1 hv=>ai v H' s1 hv (.inr (by omega))⟩
   have c':¬(80:Int)<_:=λe=>c2 (decide_eq_true e);have J:p+1<t.length:=by omega
   have aj:¬(dZ (t.drop p)=0\/80<dZ (t.drop p)):=by rintro(h|h);exact z h;omega
   have ae:Txt.slice (di t) (some (p:Int)) (some ((p+1+dZ (t.drop p):Nat):Int))=di ((t.drop p).take (sgn (t.drop p)+dZ (t.drop p))):=by
    rw[aa,Q20,rg];congr 2;congr 1;omega
   have ak:(t.drop p).drop (sgn (t.drop p))=t[p+1]'J::t.drop (p+1+1):=by rw[aa,Q1g];exact Q1c J
   refine⟨_,rfl,_,rfl,_,_,_,rfl,rfl,hz,an (p+1) J,rfl,_,rfl,?_⟩
   have fin:¬((t.drop p).drop (sgn (t.drop p))).head? =some 48\/(t.drop p).take (sgn (t.drop p)+dZ (t.drop p))=[48]->∀a,H a=none->Q (.ref a) (upd H a (.tup [.str "number",.int (iv ((t.drop p).take (sgn (t.drop p)+dZ (t.drop p)))),.int p,.int ((p+1+dZ (t.drop p):Nat):Int)])):=λhh a ha=>q _ _ (Same.new ha) ⟨a,rfl,by
    rw[dw];unfold numAt;rw[if_neg aj,if_neg (by rintro⟨h1,h2⟩;rcases hh with hh|hh;exact hh h1;exact h2 hh),aa];have e:((p+1+dZ (t.drop p):Nat):Int)=((p+(1+dZ (t.drop p)):Nat):Int):=by omega
    rw[e];rfl⟩
   have am:=Bj (t.drop p) z (by omega);obtain⟨n,af⟩:=Option.isSome_iff_exists.mp am
   have ab:(di ((t.drop p).take (sgn (t.drop p)+dZ (t.drop p)))).length<=640:=by
    rw[fH,Q0k];have:sgn (t.drop p)<=1:=by unfold sgn;split <;> omega
    omega
   have al:n=iv ((t.drop p).take (sgn (t.drop p)+dZ (t.drop p))):=by unfold iv;rw[af];rfl
   by_cases y:t[p+1]'J=48
   . rw[decide_eq_true (show V.str (⟨#[t[p+1]'J]⟩:Str)=V.str "0" by rw[y];rfl)];refine dS ⟨_,rfl,_,rfl,_,rfl,_,rfl,_,rfl,_,rfl,hz,?_⟩;rw[ae];refine⟨rfl,_,rfl,?_⟩;by_cases x:(t.drop p).take (sgn (t.drop p)+dZ (t.drop p))=[48]
     . rw[decide_eq_true (show V.str (di ((t.drop p).take (sgn (t.drop p)+dZ (t.drop p))))=V.str "0" by rw[x];rfl)];refine dE ⟨_,rfl,_,rfl,_,rfl,_,rfl,_,rfl,_,rfl,hz,?_⟩;rw[ae];refine⟨_,n,rfl,ab,af,_,rfl,_,rfl,jy,λa ha=>?_⟩;rw[al];exact fin (.inr x) a ha
     . rw[decide_eq_false (λe=>by injection e with e;exact x (kQ e))]
       exact dS ⟨_,rfl,_,rfl,t,p,rfl,hl,by omega,λv H' s1 hv=>q v H' s1 (by
        unfold numAt;rw[if_neg aj,if_pos ⟨by rw[ak,y];rfl,x⟩];exact hv)⟩
   . rw[decide_eq_false (λe=>by injection e with e;have:=kQ (x:=[t[p+1]'J]) (y:=[48]) e;injection this with this _;exact y this)];refine dE (dE ⟨_,rfl,_,rfl,_,rfl,_,rfl,_,rfl,_,rfl,hz,?_⟩);rw[ae];refine⟨_,n,rfl,ab,af,_,rfl,_,rfl,jy,λa ha=>?_⟩;rw[al];exact fin (.inl (by rw[ak];intro e;injection e with e;exact y e)) a ha
 . have aa:sgn (t.drop p)=0:=by unfold sgn;rw[ap,if_neg (by intro e;injection e with e;exact c e)]
   rw[decide_eq_false (λe=>by injection e with e;have:=kQ (x:=[t[p]'hp]) (y:=[45]) e;injection this with this _;exact c this)];refine dE ⟨_,rfl,?_⟩;have ao:dZ (t.drop p)<=((t.drop p).drop (sgn (t.drop p))).length:=m7 _ _;rw[aa,Q1g,Q0z] at ao;refine⟨_,rfl,_,rfl,t,p,48,57,rfl,hl,by omega,?_⟩
   have hn:((t.drop (p)).takeWhile (inR 48 57)).length=dZ (t.drop p):=by
    unfold dZ;rw[aa,Q1g];rfl
   rw[hn];refine⟨_,rfl,_,rfl,rfl,_,rfl,?_⟩
   have ai:∀v H',Same H H'->jT H' v (kN p (t.drop p))->(dZ (t.drop p)=0\/80<dZ (t.drop p))->Q v H':=λv H' s1 hv hc=>q v H' s1 (by
    unfold numAt;rw[if_pos hc];exact hv)
   by_cases z:dZ (t.drop p)=0
   . rw[decide_eq_true (show V.int ((p+dZ (t.drop p):Nat):Int)=V.int ((p:Int)) by rw[z];rfl)];exact dS (dS ⟨_,rfl,_,rfl,t,p,rfl,hl,by omega,λv H' s1 hv=>ai v H' s1 hv (.inl z)⟩)
   rw[decide_eq_false (λe=>by injection e with e;omega)];refine dE ⟨_,rfl,_,rfl,_,_,rfl,rfl,_,_,rfl,rfl,_,rfl,?_⟩;refine eX (λc2=>?_) (λc2=>?_)
   . have c':=of_decide_eq_true c2;exact⟨_,rfl,_,rfl,t,p,rfl,hl,by omega,λv H' s1 hv=>ai v H' s1 hv (.inr (by omega))⟩
   have c':¬(80:Int)<_:=λe=>c2 (decide_eq_true e);have J:p<t.length:=by omega
   have aj:¬(dZ (t.drop p)=0\/80<dZ (t.drop p)):=by rintro(h|h);exact z h;omega
   have ae:Txt.slice (di t) (some (p:Int)) (some ((p+dZ (t.drop p):Nat):Int))=di ((t.drop p).take (sgn (t.drop p)+dZ (t.drop p))):=by
    rw[aa,Q20,rg];congr 2;congr 1;omega
   have ak:(t.drop p).drop (sgn (t.drop p))=t[p]'J::t.drop (p+1):=by rw[aa,Q1g];exact Q1c J
   refine⟨_,rfl,_,rfl,_,_,_,rfl,rfl,hz,an (p) J,rfl,_,rfl,?_⟩
   have fin:¬((t.drop p).drop (sgn (t.drop p))).head? =some 48\/(t.drop p).take (sgn (t.drop p)+dZ (t.drop p))=[48]->∀a,H a=none->Q (.ref a) (upd H a (.tup [.str "number",.int (iv ((t.drop p).take (sgn (t.drop p)+dZ (t.drop p)))),.int p,.int ((p+dZ (t.drop p):Nat):Int)])):=λhh a ha=>q _ _ (Same.new ha) ⟨a,rfl,by
    rw[dw];unfold numAt;rw[if_neg aj,if_neg (by rintro⟨h1,h2⟩;rcases hh with hh|hh;exact hh h1;exact h2 hh),aa];have e:((p+dZ (t.drop p):Nat):Int)=((p+(0+dZ (t.drop p)):Nat):Int):=by omega
    rw[e];rfl⟩
   have am:=Bj (t.drop p) z (by omega);obtain⟨n,af⟩:=Option.isSome_iff_exists.mp am
   have ab:(di ((t.drop p).take (sgn (t.drop p)+dZ (t.drop p)))).length<=640:=by
    rw[fH,Q0k];have:sgn (t.drop p)<=1:=by unfold sgn;split <;> omega
    omega
   have al:n=iv ((t.drop p).take (sgn (t.drop p)+dZ (t.drop p))):=by unfold iv;rw[af];rfl
   by_cases y:t[p]'J=48
   . rw[decide_eq_true (show V.str (⟨#[t[p]'J]⟩:Str)=V.str "0" by rw[y];rfl)];refine dS ⟨_,rfl,_,rfl,_,rfl,_,rfl,_,rfl,_,rfl,hz,?_⟩;rw[ae];refine⟨rfl,_,rfl,?_⟩;by_cases x:(t.drop p).take (sgn (t.drop p)+dZ (t.drop p))=[48]
     . rw[decide_eq_true (show V.str (di ((t.drop p).take (sgn (t.drop p)+dZ (t.drop p))))=V.str "0" by rw[x];rfl)];refine dE ⟨_,rfl,_,rfl,_,rfl,_,rfl,_,rfl,_,rfl,hz,?_⟩;rw[ae];refine⟨_,n,rfl,ab,af,_,rfl,_,rfl,jy,λa ha=>?_⟩;rw[al];exact fin (.inr x) a ha
     . rw[decide_eq_false (λe=>by injection e with e;exact x (kQ e))]
       exact dS ⟨_,rfl,_,rfl,t,p,rfl,hl,by omega,λv H' s1 hv=>q v H' s1 (by
        unfold numAt;rw[if_neg aj,if_pos ⟨by rw[ak,y];rfl,x⟩];exact hv)⟩
   . rw[decide_eq_false (λe=>by injection e with e;have:=kQ (x:=[t[p]'J]) (y:=[48]) e;injection this with this _;exact y this)];refine dE (dE ⟨_,rfl,_,rfl,_,rfl,_,rfl,_,rfl,_,rfl,hz,?_⟩);rw[ae];refine⟨_,n,rfl,ab,af,_,rfl,_,rfl,jy,λa ha=>?_⟩;rw[al];exact fin (.inl (by rw[ak];intro e;injection e with e;exact y e)) a ha
end
theorem Il (c:Nat):(!(Builtin.Str.occurrences (Str.ofString "{}[]()<>:,") ⟨#[c]⟩ 0 (Str.ofString "{}[]()<>:,").length 1).isEmpty)=decide (c∈marks):=by
 rw[PySem.StrLaws.found_one];have:(Str.ofString "{}[]()<>:,").cps.toList=marks:=by decide +kernel
 rw[this]
section
variable {P:Program}{w:World}{K:W.Frag}{mg:Str->Option Value}{base:Heap}
variable {oR oS oU oV oW:Addr}{oX oY oZ o3 o4:FuncData}{tM tL tF tS:Tok}
theorem Im:d9 ["text","place","sign"] XC (dN (top 12)):=eG
theorem Io (T:Tb mg)(TG:Gb mg tM tL tF tS)(U:Dn K mg "piece_at" gq (top 12) oV o3)(Y:Dn K mg "word_at" gq (top 15) oR oX)(aa:dj P w K mg base dm (2) oR oX gq (Be))(ab:Dn K mg "name_at" gq (top 16) oS oY)(ac:dj P w K mg base dm (2) oS oY gq (Bf))(J:Dn K mg "number_at" gq (top 17) oU oZ)(L:dj P w K mg base dm (2) oU oZ gq (Bg)):dj P w K mg base dm (3) oV o3 gq (Bh):=by
 have ae:=TG.ma;refine U.F.ok Im λvs H Q E h=>?_;obtain⟨t,p,c,rfl,hl,hc,q⟩:=h;refine⟨rfl,λai A outer s nd hr hu=>?_⟩
 refine⟨_,(dh (dI 2 nd (ij iQ (pv 0) (pv 1) (λ_ _=>rfl)))
  (dh (dM (dQ qr (pv 2) (pY (v:=.str "{}[]()<>:,") rfl ae ⟨_,rfl⟩) (by with_unfolding_all rfl)) (dq (dF (f_ (a_ dv (a_ (pv 2) (a_ (pv 1) (a_ (dk gE (pv 1) c_) b_))))))) dO)
  (dh (dM (dQ eh (pv 2) dv (dP _)) (dq (dF (dJ aa hr Y (a_ (pv 0) (a_ (pv 1) b_))))) dO)
  (dh (dM (PW.pt (i8 (dQ AB (pv 2) dv (dP _)) (j1 (dQ AD (pv 2) dv (dP _))))) (dq (dF (dJ ac hr ab (a_ (pv 0) (a_ (pv 1) b_))))) dO)
  (dq (dF (dJ L hr J (a_ (pv 0) (a_ (pv 1) b_))))))))),?_⟩
 ac_rfl
 have hz:(di t).length<=sizeLine:=by rw[fH];exact mn hl
 have hp:=um hc;have ag:=uo hc;have ah:fg (di t).cps.toList (p:Int)=some c:=hV (by rw[ja];exact hc);refine⟨_,rfl,_,rfl,_,_,_,rfl,rfl,hz,ah,?_⟩;refine⟨_,rfl,_,_,rfl,rfl,_,rfl,?_⟩;rw[Il];by_cases h1:c∈marks
 . rw[decide_eq_true h1];refine dS ⟨_,rfl,_,rfl,_,rfl,_,_,rfl,rfl,jy,λa ha=>q _ _ (Same.new ha) ⟨a,rfl,?_⟩⟩;rw[dw];unfold fj;rw[if_pos h1];rfl
 rw[decide_eq_false h1];refine dE ⟨_,rfl,rfl,_,rfl,?_⟩;by_cases h2:c=34
 . rw[decide_eq_true (show V.str (⟨#[c]⟩:Str)=V.str "\"" by rw[h2];rfl)];refine dS ⟨_,rfl,_,rfl,t,p,rfl,hl,by rw[hc,h2],λv H' s1 hv=>q v H' s1 ?_⟩;unfold fj;rw[if_neg h1,if_pos h2];exact hv
 rw[decide_eq_false (λe=>by injection e with e;have:=kQ (x:=[c]) (y:=[34]) e;injection this with this _;exact h2 this)];refine dE ⟨_,rfl,_,_,rfl,rfl,_,rfl,?_⟩;have g1:(!decide ((⟨#[c]⟩:Str).cps.toList<(Str.ofString "a").cps.toList))=decide (97<=c):=rf c 97;have g2:(!decide ((Str.ofString "z").cps.toList<(⟨#[c]⟩:Str).cps.toList))=decide (c<=122):=rf 122 c
 have af:gn c≠true->∀v H',Same H H'->jT H' v (numAt iv p (t.drop p))->Q v H':=λh3 v H' s1 hv=>q v H' s1 (by
  unfold fj;rw[if_neg h1,if_neg h2,if_neg h3,<-ag];exact hv)
 rw[g1];refine eX (λc1=>?_) (λc1=>?_)
 . refine⟨_,rfl,_,_,rfl,rfl,_,rfl,?_⟩;rw[g2];refine eX (λc2=>?_) (λc2=>?_)
   . refine⟨_,rfl,_,rfl,t,p,rfl,hl,hp,λv H' s1 hv=>q v H' s1 ?_⟩;unfold fj;rw[if_neg h1,if_neg h2,if_pos (by unfold gn;rw[c1,c2];rfl),<-ag];exact hv
   . exact⟨_,rfl,_,rfl,t,p,rfl,hl,hp,af λz=>by unfold gn at z;rw[Bool.and_eq_true] at z;exact c2 z.2⟩
 . exact dE ⟨_,rfl,_,rfl,t,p,rfl,hl,hp,af λz=>by unfold gn at z;rw[Bool.and_eq_true] at z;exact c1 z.1⟩
theorem Ip:d9 ["text","pieces","place"] ["text"] (dN (top 11)):=eG
theorem Iq (T:Tb mg)(J:Dn K mg "pieces_of" ["text"] (top 11) oW o4)(U:Dn K mg "piece_at" gq (top 12) oV o3)(Y:dj P w K mg base dm (3) oV o3 gq (Bh)):dj P w K mg base dm (4) oW o4 ["text"] (Bi):=by
 refine J.F.ok Ip λvs H Q E h=>?_;obtain⟨t,rfl,hl,q⟩:=h;refine⟨rfl,λak A outer s nd hr hu=>?_⟩
 refine⟨_,(dh (dI 1 nd (gm b_))
  (dh (dI 2 nd c_)
  (dh (qh PassesOwn.never (dQ mL (pv 2) (dX lZ (by rfl) T.gG PySem.boot_len (a_ (pv 0) b_)) (dP _)) (dq (dM (dQ eh (ij iQ (pv 0) (pv 2) (λ_ _=>rfl)) dv (dP _)) (dq (y7 (i:=2) nd rfl gh c_ y8)) (dh (fC (gA PySem.F.plainAttrs_list PySem.F.slot_list_append PySem.F.type_list_append iA (pv 1) (a_ (dJ Y hr U (a_ (pv 0) (a_ (pv 2) b_))) b_)))
  (dq (dI 2 nd (dR (gX (pv 1) (qj qo c_)) c_)))))))
  (dh (fC (gA PySem.F.plainAttrs_list PySem.F.slot_list_append PySem.F.type_list_append iA (pv 1) (a_ (f_ (a_ dv (a_ dv (a_ (dX lZ (by rfl) T.gG PySem.boot_len (a_ (pv 0) b_)) (a_ (dX lZ (by rfl) T.gG PySem.boot_len (a_ (pv 0) b_)) b_))))) b_)))
  (dq (dF (pv 1))))))),?_⟩
 ac_rfl
 have hz:(di t).length<=sizeLine:=by rw[fH];exact mn hl
 refine⟨lr,λl ac=>?_⟩;refine⟨λm σ H'=>∃p:Nat,∃us qs,m=t.length - p/\p<=t.length/\σ=[some (.str (di t)),some (.ref l),some (.int p)]/\(∀c o,H c=some o->H' c=some o)/\H' l=some (.lst us)/\h9 H' us qs/\us.length<=p/\qs++gy iv p (t.drop p)=gy iv 0 t,⟨_,0,[],[],rfl,Q06 _,rfl,Same.new ac,dw,.nil,Q06 _,rfl⟩,?_⟩;intro m σ H' zq;obtain⟨p,us,qs,rfl,hp,rfl,hs,L,hL,ai,af⟩:=zq;refine⟨_,rfl,_,rfl,_,rfl,hz,_,_,rfl,rfl,_,rfl,?_⟩;rw[fH];refine eX (λc=>?_) (λc=>?_)
 . have c':p<t.length:=by have:=of_decide_eq_true c;omega
   have hd:t[p]? =some (t[p]'c'):=Q0a c';have aj:fg (di t).cps.toList (p:Int)=some (t[p]'c'):=hV (by rw[ja];exact hd);have ag:=uo hd;refine⟨_,λ_ _ z=>z,?_⟩;refine⟨_,rfl,_,rfl,_,_,_,rfl,rfl,hz,aj,rfl,_,rfl,?_⟩;by_cases y:t[p]'c'=32
   . rw[decide_eq_true (show V.str (⟨#[t[p]'c']⟩:Str)=V.str " " by rw[y];rfl)];refine dS ⟨_,rfl,_,_,rfl,rfl,t.length - (p+1),by omega,p+1,us,qs,rfl,by omega,rfl,hs,L,hL,by omega,?_⟩;rw[<-af,ag,y,AZ]
   . rw[decide_eq_false (λe=>by injection e with e;have:=kQ (x:=[t[p]'c']) (y:=[32]) e;injection this with this _;exact y this)];refine dE ⟨_,rfl,.inl ⟨rfl,_,dy.of L⟩,_,rfl,_,rfl,t,p,t[p]'c',rfl,hl,hd,λv H1 s1 hv=>?_⟩;have ae:=s1 _ _ L;refine⟨l,us,v,rfl,rfl,ae,Q0q (Q07 ai (Q07 hp hl)) (by decide),?_⟩;obtain⟨a,rfl,ha⟩:=hv;have ab:a≠l:=fo ha ae (by intro z;cases z);have⟨b1,b2⟩:=ub (iv:=iv) (p:=p) (c:=t[p]'c') (r:=t.drop (p+1));rw[Q0z] at b2;have ah:fg (us++[V.ref a]) (-1)=some (.ref a):=qw _ _;refine⟨_,rfl,_,rfl,l,_,_,_,rfl,rfl,dy.of dw,ah,a,_,_,_,rfl,rfl,du.of (by rw[dg ab];exact ha),rfl,?_⟩;refine⟨t.length - (fj iv p (t[p]'c') (t.drop (p+1))).e,by omega,(fj iv p (t[p]'c') (t.drop (p+1))).e,us++[.ref a],qs++[fj iv p (t[p]'c') (t.drop (p+1))],rfl,by omega,rfl,λc o e=>?_,dw,?_,?_,?_⟩
     . have aa:c≠l:=λz=>by rw[z,ac] at e;cases e
       rw[dg aa];exact s1 _ _ (hs _ _ e)
     . have tu:Tu H' (upd H1 l (.lst (us++[.ref a]))):=λc xs e=>by
        have aa:c≠l:=fo e L (by intro z;cases z);rw[dg aa];exact s1 _ _ e
       exact(hL.tu tu).snoc ⟨a,rfl,by rw[dg ab];exact ha⟩
     . rw[Q01];show us.length+1<=_;omega
     . rw[<-af,ag,A0 y,Q0j];show qs++(_::gy iv _ _)=_;rw[<-ag,Q1g,show p+((fj iv p (t[p]'c') (t.drop (p+1))).e - p)=(fj iv p (t[p]'c') (t.drop (p+1))).e by omega]
 . have c':p=t.length:=by
    have:¬(p:Int)<(t.length:Int):=λz=>c (decide_eq_true z);omega
   refine⟨_,rfl,.inl ⟨rfl,_,dy.of L⟩,_,rfl,_,rfl,hz,_,rfl,_,rfl,hz,jy,λa ha=>?_⟩;have ab:l≠a:=dA L ha;refine⟨l,us,.ref a,rfl,rfl,by rw[dg ab];exact L,Q0q (Q07 ai (Q07 hp hl)) (by decide),_,rfl,?_⟩;refine q l (us++[.ref a]) _ (λc o e=>?_) ac dw ?_
   . have aa:c≠l:=λz=>by rw[z,ac] at e;cases e
     rw[dg aa,dg (dA (hs _ _ e) ha)];exact hs _ _ e
   . have tu:∀o,Tu H' (upd (upd H' a o) l (.lst (us++[.ref a]))):=λo c xs e=>by
      have aa:c≠l:=fo e L (by intro z;cases z);rw[dg aa,dg (dA e ha)];exact e
     rw[<-af,c',Q3d,AY];refine(hL.tu (tu _)).snoc ⟨a,rfl,?_⟩;rw[dg (Ne.symm ab),dw,fH];rfl
end
structure iG (K:W.Frag) (mg:Str->Option Value) (C fI fA fT fG fP fM fE fL:Addr):Prop where
 ct:Cls K C
 n1:kG K C "pieces"
 n2:kG K C "reached"
 Ir:Mk K C fI
 m:mg "Reader"=some (.ref C)
 a:Meth K C "is_at" fA
 t:Meth K C "taken" fT
 g:Meth K C "taken_among" fG
 p:Meth K C "passed" fP
 k:Meth K C "pass_mark" fM
 e:Meth K C "ask_end" fE
 l:Meth K C "listed" fL
structure iZ (H:Hp) (C r dx l:Addr) (us:List V) (qs:List Pc) (i:Nat):Prop where
 ob:H r=some (.ins C dx [("pieces",.ref l),("reached",.int i)])
 ls:H l=some (.lst us)
 pl:h9 H us qs
 le:qs.length<=200000
theorem h9.at {H:Hp}:∀{us:List V}{qs:List Pc}{i:Nat}{q:Pc},h9 H us qs->qs[i]? =some q->∃a,us[i]? =some (.ref a)/\H a=some (.tup (Bd q))
 |_,_,i,q,.nil,e=>by simp at e
 |_,_,0,q,.cons ⟨a,J,h⟩ t,e=>by
  injection e with e
  subst e;exact⟨a,by rw[J];rfl,h⟩
 |_,_,i+1,q,.cons _ t,e=>by
  obtain⟨a,h1,h2⟩:=h9.at (i:=i) t e;exact⟨a,h1,h2⟩
def Mv (H H':Hp) (C r dx l:Addr) (i:Nat):Prop:=(∀c o,c≠r->H c=some o->H' c=some o)/\H' r=some (.ins C dx [("pieces",.ref l),("reached",.int i)])
theorem iZ.mv {H H':Hp}{C r dx l:Addr}{us:List V}{qs:List Pc}{i j:Nat}(h:iZ H C r dx l us qs i)(m:Mv H H' C r dx l j):iZ H' C r dx l us qs j:=by
 have hl:l≠r:=fo h.ls h.ob (by intro z;cases z);exact⟨m.2,m.1 _ _ hl h.ls,h.pl.tu λc xs e=>m.1 _ _ (fo e h.ob (by intro z;cases z)) e,h.le⟩
theorem iZ.same {H H':Hp}{C r dx l:Addr}{us:List V}{qs:List Pc}{i:Nat}(h:iZ H C r dx l us qs i)(m:Same H H'):iZ H' C r dx l us qs i:=
 ⟨m _ _ h.ob,m _ _ h.ls,h.pl.tu (Tu.of m),h.le⟩
def Bk (C:Addr):Sp:=λvs H Q _=>∃x dx,∃t:Tx,vs=[.ref x,.str (di t)]/\t.length<=100000/\H x=some (.ins C dx [])/\∀l us H',(∀c o,c≠x->H c=some o->H' c=some o)->iZ H' C x dx l us (gy iv 0 t) 0->Q .non H'
def rh (C:Addr):Sp:=λvs H Q _=>∃r dx l us qs i q J th,vs=[.ref r,.str J,.str th]/\iZ H C r dx l us qs i/\qs[i]? =some q/\Q (.bl (decide (jz q.sort=J) && decide (q.th.V=.str th))) H
def uq (C:Addr):Sp:=λvs H Q _=>∃r dx l us qs i q J,vs=[.ref r,.str J]/\iZ H C r dx l us qs i/\qs[i]? =some q/\jz q.sort=J/\∀H',Mv H H' C r dx l (i+1)->Q q.th.V H'
def ur (K:W.Frag) (C:Addr):Sp:=λvs H Q _=>∃r dx l us qs i q n,∃ss:List Str,∃x:Str,vs=[.ref r,.ref n]/\dy K H n (ss.map V.str)/\iZ H C r dx l us qs i/\qs[i]? =some q/\q.sort=4/\q.th.V=.str x/\x∈ss/\∀H',Mv H H' C r dx l (i+1)->Q (.str x) H'
theorem Iu {x:Str}{ss:List Str}:inV (.str x) (ss.map V.str)=decide (x∈ss):=by
 unfold inV;rw[Q2h];have:∀y:Str,((λy=>kI y (V.str x)) ∘ V.str) y=decide (y=x):=λy=>rfl
 induction ss with
 |nil=>rfl
 |cons y r J=>
  rw[Q1b,J,this];by_cases e:y=x
  . rw[decide_eq_true e,decide_eq_true (show x∈y::r by rw[e];exact Q05)];rfl
  . rw[decide_eq_false e];by_cases h:x∈r
    . rw[decide_eq_true h,decide_eq_true (Q0d _ h)];rfl
    . rw[decide_eq_false h,decide_eq_false λz=>(List.mem_cons.mp z).elim (λz=>e z.symm) h];rfl
theorem Bm:∀{ss:List Str},(ss.map V.str).all kH=true
 |[]=>rfl
 |x::r=>by rw[Q0y,Q24,Bm];rfl
def rj (C:Addr):Sp:=λvs H Q _=>∃r dx l us qs i q J th,vs=[.ref r,.str J,.str th]/\iZ H C r dx l us qs i/\qs[i]? =some q/\(((jz q.sort=J/\q.th.V=.str th)/\∀H',Mv H H' C r dx l (i+1)->Q (.bl true) H')\/(¬(jz q.sort=J/\q.th.V=.str th)/\Q (.bl false) H))
def o5 (C:Addr):Sp:=λvs H Q _=>∃r dx l us qs i q th,vs=[.ref r,.str th]/\iZ H C r dx l us qs i/\qs[i]? =some q/\(jz q.sort="mark"/\q.th.V=.str th)/\∀H',Mv H H' C r dx l (i+1)->Q .non H'
def Bo (C:Addr):Sp:=λvs H Q _=>∃r dx l us qs i q,vs=[.ref r]/\iZ H C r dx l us qs i/\qs[i]? =some q/\(jz q.sort="end"/\q.th.V=.str "")/\Q .non H
theorem uu (iv:Tx->Int):∀(f p:Nat) (r:Tx),(toks iv f p r).length<=f+1
 |f,p,[]=>by cases f <;> exact Nat.le_add_left _ _
 |0,p,_::_=>Q06 _
 |f+1,p,c::r=>by
  show(if c=32 then toks iv f (p+1) r else _::toks iv f _ _).length<=_;split
  . have:=uu iv f (p+1) r;omega
  . have:=uu iv f (fj iv p c r).e ((c::r).drop ((fj iv p c r).e - p));rw[Q02];omega
theorem Iv (iv:Tx->Int)(p:Nat)(r:Tx):(gy iv p r).length<=r.length+1:=uu iv _ _ _
theorem Iw (t:Th)(x:Str):sL t.V (.str x)=true:=by cases t <;> rfl
theorem n6 (a b:Str):decide (V.str a=V.str b)=decide (a=b):=by
 by_cases h:a=b
 . rw[decide_eq_true h,decide_eq_true (by rw[h])]
 . rw[decide_eq_false h,decide_eq_false (λe=>by injection e with e;exact h e)]
section
variable {P:Program}{w:World}{K:W.Frag}{mg:Str->Option Value}{base:Heap}
variable {C:Addr}
theorem Iy:d9 Xd Xd (dN (dU 18 0)):=eG
theorem Iz (T:Tb mg)(RD:iG K mg C J ah ai ab af ac ae ag)(L:Dm K "__init__" "Reader.__init__" qX (dU 18 0) J U)(Y:Dn K mg "pieces_of" ["text"] (top 11) oW o4)(aa:dj P w K mg base dm (4) oW o4 ["text"] (Bi)):dj P w K mg base dm (5) J U qX (Bk C):=by
 refine L.F.ok Iy λvs H Q E h=>?_;obtain⟨x,dx,t,rfl,hl,hx,q⟩:=h;refine⟨rfl,λam A outer s nd hr hu=>?_⟩
 refine⟨_,(dh (zu (pv 0) (dJ aa hr Y (a_ (pv 1) b_)) rfl)
  (dq (zu (pv 0) c_ rfl))),?_⟩
 ac_rfl
 refine⟨_,rfl,t,rfl,hl,λl us H1 s1 an ak hL=>?_⟩;have aj:=s1 _ _ hx;have al:l≠x:=fo ak aj (by intro z;cases z);refine⟨_,rfl,x,C,dx,[],rfl,aj,RD.ct,RD.n1,by decide,?_⟩;refine⟨_,rfl,x,C,dx,_,rfl,dw,RD.ct,RD.n2,by show 1<1000;decide,?_⟩;have hk:∀o1 o2 c o,c≠x->H1 c=some o->upd (upd H1 x o1) x o2 c=some o:=λo1 o2 c o hc e=>by rw[dg hc,dg hc];exact e
 refine q l us _ (λc o hc e=>hk _ _ c o hc (s1 _ _ e)) ⟨dw,hk _ _ _ _ al ak,hL.tu λc xs e=>hk _ _ _ _ (fo e aj (by intro z;cases z)) e,?_⟩;have:=Iv iv 0 t;omega
theorem IB:d9 ["self","sort","thing","piece"] XH (dN (dU 18 1)):=eG
theorem Bp (T:Tb mg)(RD:iG K mg C ab J ag Y ae aa ac af)(L:Dm K "is_at" "Reader.is_at" gY (dU 18 1) J U):dj P w K mg base dm (1) J U gY (rh C):=by
 refine L.F.ok IB λvs H Q E h=>?_;obtain⟨r,dx,l,us,qs,i,q,ah,th,rfl,hR,hq,fin⟩:=h;refine⟨rfl,λai A outer s nd hr hu=>?_⟩
 refine⟨_,(dh (dI 3 nd (gX (mN (pv 0) rfl) (mN (pv 0) rfl)))
  (dq (dF (k9 (lW eh (dR (pv 3) c_) (pv 1) (dP _)) (mG (lW eh (dR (pv 3) c_) (pv 2) (dP _))))))),?_⟩
 ac_rfl
 obtain⟨a,hu,ha⟩:=hR.pl.at hq;refine⟨_,rfl,r,C,dx,_,_,rfl,hR.ob,RD.ct,RD.n1,rfl,_,rfl,r,C,dx,_,_,rfl,hR.ob,RD.ct,RD.n2,rfl,l,us,_,_,rfl,rfl,dy.of hR.ls,hV hu,?_⟩;refine⟨_,rfl,a,_,_,_,rfl,rfl,du.of ha,rfl,_,rfl,rfl,?_⟩;rw[n6];refine⟨_,rfl,?_⟩;by_cases h1:jz q.sort=ah
 . rw[decide_eq_true h1] at fin ⊢;refine dS ⟨_,rfl,a,_,_,_,rfl,rfl,du.of ha,rfl,_,rfl,Iw _ _,?_⟩;exact fin
 . rw[decide_eq_false h1] at fin ⊢;exact dE fin
theorem IC:d9 ["self","sort","piece"] ["self","sort"] (dN (dU 18 3)):=eG
theorem ID (T:Tb mg)(RD:iG K mg C ab ag J Y ae aa ac af)(L:Dm K "taken" "Reader.taken" mf (dU 18 3) J U):dj P w K mg base dm (1) J U mf (uq C):=by
 refine L.F.ok IC λvs H Q E h=>?_;obtain⟨r,dx,l,us,qs,i,q,ai,rfl,hR,hq,h1,fin⟩:=h;refine⟨rfl,λaj A outer s nd hr hu=>?_⟩
 refine⟨_,(dh (dI 2 nd (gX (mN (pv 0) rfl) (mN (pv 0) rfl)))
  (dh (dM (dQ lU (dR (pv 2) c_) (pv 1) (dP _)) (dq fZ) dO)
  (dh (zw (pv 0) c_ zx)
  (dq (dF (dR (pv 2) c_)))))),?_⟩
 ac_rfl
 obtain⟨a,hu,ha⟩:=hR.pl.at hq;refine⟨_,rfl,r,C,dx,_,_,rfl,hR.ob,RD.ct,RD.n1,rfl,_,rfl,r,C,dx,_,_,rfl,hR.ob,RD.ct,RD.n2,rfl,l,us,_,_,rfl,rfl,dy.of hR.ls,hV hu,?_⟩;refine⟨_,rfl,a,_,_,_,rfl,rfl,du.of ha,rfl,_,rfl,rfl,_,rfl,?_⟩;rw[n6,decide_eq_true h1];refine dE ⟨_,rfl,r,C,dx,_,_,rfl,hR.ob,RD.ct,RD.n2,rfl,_,_,rfl,rfl,dx,_,hR.ob,by show 2<1000;decide,?_⟩;have ah:a≠r:=fo ha hR.ob (by intro z;cases z);exact⟨_,rfl,a,_,_,_,rfl,rfl,du.of (by rw[dg ah];exact ha),rfl,fin _ ⟨λc o hc e=>by rw[dg hc];exact e,dw⟩⟩
theorem IE:d9 ["self","names","piece"] ["self","names"] (dN (dU 18 4)):=eG
theorem IF (T:Tb mg)(RD:iG K mg C af ak L J ah ae ag ai)(U:Dm K "taken_among" "Reader.taken_among" mh (dU 18 4) J Y)(aa:Dm K "taken" "Reader.taken" mf (dU 18 3) L ab)(ac:dj P w K mg base dm (1) L ab mf (uq C)):dj P w K mg base dm (2) J Y mh (ur K C):=by
 have CT:=RD.ct;have aj:=RD.t;refine U.F.ok IE λvs H Q E h=>?_;obtain⟨r,dx,l,us,qs,i,q,n,ss,x,rfl,hn,hR,hq,h4,hx,al,fin⟩:=h;refine⟨rfl,λan A outer s nd hr hu=>?_⟩
 refine⟨_,(dh (dI 2 nd (gX (mN (pv 0) rfl) (mN (pv 0) rfl)))
  (dh (dM (dQ FY (dR (pv 2) c_) (pv 1) (by with_unfolding_all rfl)) (dq fZ) dO)
  (dq (dF (gM (pv 0) CT aj ac (hr.mono (by decide)) aa.b .nil gd (a_ dv b_)))))),?_⟩
 ac_rfl
 obtain⟨a,hu,ha⟩:=hR.pl.at hq;have am:H a=some (.tup [.str (jz q.sort),.str x,.int q.b,.int q.e]):=by rw[ha,<-hx];rfl
 refine⟨_,rfl,r,C,dx,_,_,rfl,hR.ob,RD.ct,RD.n1,rfl,_,rfl,r,C,dx,_,_,rfl,hR.ob,RD.ct,RD.n2,rfl,l,us,_,_,rfl,rfl,dy.of hR.ls,hV hu,?_⟩;refine⟨_,rfl,a,_,_,_,rfl,rfl,du.of am,rfl,_,rfl,n,_,rfl,.inl hn,rfl,Bm,_,rfl,?_⟩;rw[Iu,decide_eq_true al];exact dE ⟨_,rfl,r,dx,_,rfl,hR.ob,rfl,r,dx,l,us,qs,i,q,"name",rfl,hR,hq,by rw[h4];rfl,λH' m=>by rw[hx];exact fin H' m⟩
theorem IG:d9 XH XH (dN (dU 18 5)):=eG
theorem IH (T:Tb mg)(RD:iG K mg C ag L ak ae J af ah ai)(U:Dm K "passed" "Reader.passed" gY (dU 18 5) J Y)(aa:Dm K "is_at" "Reader.is_at" gY (dU 18 1) L ab)(ac:dj P w K mg base dm (1) L ab gY (rh C)):dj P w K mg base dm (2) J Y gY (rj C):=by
 have CT:=RD.ct;have aj:=RD.a;refine U.F.ok IG λvs H Q E h=>?_;obtain⟨r,dx,l,us,qs,i,q,al,th,rfl,hR,hq,fin⟩:=h;refine⟨rfl,λam A outer s nd hr hu=>?_⟩
 refine⟨_,(dh (dM (iN (eN (gM (pv 0) CT aj ac (hr.mono (by decide)) aa.b .nil gd (a_ (pv 1) (a_ (pv 2) b_))))) (dq (dF jk)) dO)
  (dh (zw (pv 0) c_ zx)
  (dq (dF jk)))),?_⟩
 ac_rfl
 refine⟨_,rfl,r,dx,_,rfl,hR.ob,rfl,_,rfl,_,rfl,r,dx,l,us,qs,i,q,al,th,rfl,hR,hq,?_⟩;refine⟨_,rfl,?_⟩;rw[<-Bool.decide_and];rcases fin with⟨h1,fin⟩|⟨h1,fin⟩
 . rw[decide_eq_true h1];exact dE ⟨_,rfl,r,C,dx,_,_,rfl,hR.ob,RD.ct,RD.n2,rfl,_,_,rfl,rfl,dx,_,hR.ob,by show 2<1000;decide,fin _ ⟨λc o hc e=>by rw[dg hc];exact e,dw⟩⟩
 . rw[decide_eq_false h1];exact dS fin
theorem II:d9 Xc Xc (dN (dU 18 6)):=eG
theorem IJ (T:Tb mg)(RD:iG K mg C af aj ak ae L J ah ai)(U:Dm K "pass_mark" "Reader.pass_mark" jP (dU 18 6) J Y)(aa:Dm K "passed" "Reader.passed" gY (dU 18 5) L ab)(ac:dj P w K mg base dm (2) L ab gY (rj C)):dj P w K mg base dm (3) J Y jP (o5 C):=by
 have CT:=RD.ct;have ag:=RD.p;refine U.F.ok II λvs H Q E h=>?_;obtain⟨r,dx,l,us,qs,i,q,th,rfl,hR,hq,h1,fin⟩:=h;refine⟨rfl,λal A outer s nd hr hu=>?_⟩;refine⟨_,(dq (dM (iN (eN (gM (pv 0) CT ag ac (hr.mono (by decide)) aa.b .nil gd (a_ dv (a_ (pv 1) b_))))) (dq fZ) dO)),?_⟩
 ac_rfl
 exact⟨_,rfl,r,dx,_,rfl,hR.ob,rfl,_,rfl,r,dx,l,us,qs,i,q,"mark",th,rfl,hR,hq,.inl ⟨h1,λH' m=>⟨_,rfl,dE (fin H' m)⟩⟩⟩
theorem IK:d9 ["self"] ["self"] (dN (dU 18 7)):=eG
theorem IL (T:Tb mg)(RD:iG K mg C ag L ak ae ah af J ai)(U:Dm K "ask_end" "Reader.ask_end" ["self"] (dU 18 7) J Y)(aa:Dm K "is_at" "Reader.is_at" gY (dU 18 1) L ab)(ac:dj P w K mg base dm (1) L ab gY (rh C)):dj P w K mg base dm (2) J Y ["self"] (Bo C):=by
 have CT:=RD.ct;have aj:=RD.a;refine U.F.ok IK λvs H Q E h=>?_;obtain⟨r,dx,l,us,qs,i,q,rfl,hR,hq,h1,fin⟩:=h;refine⟨rfl,λal A outer s nd hr hu=>?_⟩;refine⟨_,(dq (dM (iN (eN (gM (pv 0) CT aj ac (hr.mono (by decide)) aa.b .nil gd (a_ dv (a_ dv b_))))) (dq fZ) dO)),?_⟩
 ac_rfl
 refine⟨_,rfl,r,dx,_,rfl,hR.ob,rfl,r,dx,l,us,qs,i,q,"end","",rfl,hR,hq,_,rfl,?_⟩;rw[<-Bool.decide_and,decide_eq_true h1];exact dE fin
end
theorem Bq (f:Nat->Bool){x r:Tx}(J:∀c∈x,f c=true)(L:∀d,r.head? =some d->f d=false):(x++r).takeWhile f=x:=by
 rw[Q2b J]
 cases r with
 |nil=>simp
 |cons d r=>rw[Q1t (by rw[L d rfl];decide)];simp
structure Tk where
 sort:Nat
 th:Th
 tx:Tx
def Br (J:Nat) (r:Tx):Prop:=∀d,r.head? =some d->(J=4->gn d=false)/\(J=5->isF d=false)
def lA (t:Tk):Prop:=∃c x',t.tx=c::x'/\c≠32/\∀p r,Br t.sort r->fj iv p c (x'++r)=⟨t.sort,t.th,p,p+t.tx.length⟩
noncomputable def mkT (c:Nat):Tk:=⟨2,.str [c],[c]⟩
noncomputable def kT (x:Tx):Tk:=⟨4,.str x,x⟩
noncomputable def o6 (w:Tx):Tk:=⟨3,.str w,34::(w++[34])⟩
noncomputable def gz (i:Int):Tx:=(Str.ofString (toString i)).cps.toList
noncomputable def mq (i:Int):Tk:=⟨5,.int i,gz i⟩
theorem IM {c:Nat}(h:c∈marks):lA (mkT c):=by
 refine⟨c,[],rfl,?_,λp r _=>?_⟩
 . rintro rfl;revert h;decide
 . unfold fj;rw[if_pos h];rfl
def lB (x:Tx):Prop:=x≠[]/\x.length<=12/\∀c∈x,gn c=true
theorem IP {x:Tx}(h:lB x):lA (kT x):=by
 obtain⟨J,h1,h2⟩:=h
 cases x with
 |nil=>exact absurd rfl J
 |cons c x=>
  have hc:=HI c (h2 c Q05);refine⟨c,x,rfl,hc.2.2,λp r L=>?_⟩;have U:(c::x++r).takeWhile gn=c::x:=Bq gn h2 λd Y=>(L d Y).1 rfl;have hn:ip (c::(x++r))=(c::x).length:=by unfold ip;rw[<-Q1l,U]
  unfold fj;rw[if_neg hc.1,if_neg hc.2.1,if_pos (h2 c Q05)];unfold l_;rw[hn,if_neg (Nat.not_lt.mpr h1),<-Q1l,List.take_left' rfl];rfl
theorem IQ {w:Tx}(h1:w.length<=40)(h2:34 ∉ w):lA (o6 w):=by
 refine⟨34,w++[34],rfl,by decide,λp r _=>?_⟩
 have e:fj iv p 34 (w++[34]++r)=wordAt p (w++34::r):=by
  unfold fj;rw[if_neg (by decide),if_pos rfl,Q0j];rfl
 rw[e];unfold wordAt;have J:¬(w.length=(w++34::r).length\/40<w.length):=by rw[Q01];simp;omega
 rw[HG h2,if_neg J,List.take_left' rfl];show Pc.mk _ _ _ _=Pc.mk _ _ _ _;congr 1;show p+(w.length+2)=p+(34::(w++[34])).length;rw[Q02,Q01];rfl
theorem Bs {sg:Bool}{fs:Tx}(L:∀c∈fs,isF c=true){p:Nat}{r:Tx}(hr:∀d,r.head? =some d->isF d=false){c:Nat}{x':Tx}(e:(if sg then [45] else [])++fs=c::x')(h1:fs≠[])(h2:fs.length<=80)(h3:¬(fs.head? =some 48/\c::x'≠[48])):
 fj iv p c (x'++r)=⟨5,.int (iv (c::x')),p,p+(c::x').length⟩:=by
 have hc:c ∉ marks/\c≠34/\gn c≠true:=by
  cases sg with
  |true=>injection e with e1 J;subst e1;decide
  |false=>
   cases fs with
   |nil=>cases e
   |cons d t=>injection e with e1 J;subst e1;have:=ue _ (L _ (Q05));exact⟨this.1,this.2.1,this.2.2.1⟩
 unfold fj;rw[if_neg hc.1,if_neg hc.2.1,if_neg hc.2.2]
 have Y:sgn (c::(x'++r))=if sg then 1 else 0:=by
  unfold sgn
  cases sg with
  |true=>injection e with e1 J;subst e1;rfl
  |false=>
   cases fs with
   |nil=>cases e
   |cons d t=>
    injection e with e1 J;subst e1
    have:=ue _ (L _ (Q05));rw[if_neg (by simp;exact this.2.2.2.2)];rfl
 have hd:(c::(x'++r)).drop (sgn (c::(x'++r)))=fs++r:=by
  rw[Y]
  cases sg with
  |true=>injection e with e1 J;subst J;rfl
  |false=>
   cases fs with
   |nil=>cases e
   |cons d t=>injection e with e1 J;subst e1 J;rfl
 have hg:dZ (c::(x'++r))=fs.length:=by
  unfold dZ;rw[hd,Bq isF L hr]
 have hl:sgn (c::(x'++r))+fs.length=(c::x').length:=by
  rw[Y,<-e]
  cases sg <;> simp;omega
 have ht:(c::(x'++r)).take (sgn (c::(x'++r))+fs.length)=c::x':=by
  rw[hl,<-Q1l,List.take_left'];rfl
 have hh:(fs++r).head? =fs.head?:=by
  cases fs with
  |nil=>exact absurd rfl h1
  |cons d t=>rfl
 have U:¬(fs.length=0\/80<fs.length):=by
  have:=List.length_pos_iff.mpr h1;omega
 unfold numAt;rw[hg,hd,ht,if_neg U,hh,if_neg h3,hl]
theorem Bt (m:Nat):0<m->((Nat.toDigits 10 m).map Char.toNat).head?≠some 48:=by
 induction m using Nat.strongRecOn with
 |_ m L=>
  intro Y;by_cases h:m<10
  . rw[Nat.toDigits_of_lt_base h];exact(by decide:∀m<10,0<m->([Nat.digitChar m].map Char.toNat).head?≠some 48) m h Y
  . have U:m % 10<10:=Nat.mod_lt m (by decide);have t:Nat.toDigits 10 (m / 10)++Nat.toDigits 10 (m % 10)=Nat.toDigits 10 (10 * (m / 10)+m % 10):=Nat.toDigits_append_toDigits (by decide) (by omega) U;rw[Nat.div_add_mod] at t;have J:=L (m / 10) (by omega) (by omega);rw[<-t,Q0p]
    cases e:(Nat.toDigits 10 (m / 10)).map Char.toNat with
    |nil=>
     have:=List.map_eq_nil_iff.mp e;have h2:=Q3f (n:=m / 10) (b:=10);exact absurd this h2
    |cons c r=>rw[e] at J;exact J
theorem o7 (m:Nat)(h:m<10 ^ 60):(∀c∈(Nat.toDigits 10 m).map Char.toNat,isF c=true/\48<=c/\c<=57)/\(Nat.toDigits 10 m).map Char.toNat≠[]/\((Nat.toDigits 10 m).map Char.toNat).length<=60:=by
 refine⟨?_,?_,?_⟩
 . intro c hc;obtain⟨d,L,rfl⟩:=List.mem_map.mp hc;have:=Nat.isDigit_of_mem_toDigits (by decide) (by decide) L;unfold Char.isDigit at this;simp only[Bool.and_eq_true,decide_eq_true_eq] at this;have h1:=UInt32.le_iff_toNat_le.mp this.1;have h2:=UInt32.le_iff_toNat_le.mp this.2;have J:48<=d.toNat/\d.toNat<=57:=⟨h1,h2⟩;refine⟨?_,J⟩;unfold isF;rw[decide_eq_true J.1,decide_eq_true J.2];rfl
 . intro e;exact absurd (List.map_eq_nil_iff.mp e) Q3f
 . rw[Q0b];exact(Nat.length_toDigits_le_iff (b:=10) (n:=m) (k:=60) (by decide) (by decide)).mpr h
theorem uw (m:Nat):gz (-((m+1:Nat):Int))=45::(Nat.toDigits 10 (m+1)).map Char.toNat:=by
 unfold gz;rw[Str.ofString_eq_toList];show((toString (Int.negSucc m)).toList).map Char.toNat=_
 have:(toString (Int.negSucc m)).toList='-'::Nat.toDigits 10 (m+1):=by
  show("-"++Nat.repr (m+1)).toList=_;rw[String.toList_append,Nat.toList_repr];rfl
 rw[this];rfl
theorem uy {i:Int}(h:i.natAbs<10 ^ 60):lA (mq i)/\gz i≠[]/\(gz i).length<=61:=by
 by_cases h0:0<=i
 . obtain⟨m,rfl⟩:=Q1z h0;have e:gz ((m:Nat):Int)=(Nat.toDigits 10 m).map Char.toNat:=W.KIN.signs_num m;obtain⟨U,Y,d3⟩:=o7 m (by simpa using h)
   have hv:iv (gz (m:Int))=m:=by
    unfold iv;have:=PySem.intText_digits (x:=di (gz (m:Int))) (by rw[ja,e];intro c hc;exact(U c hc).2) (by rw[ja,e];exact Y) (by rw[fH,e];omega);rw[this,ja,e,W.KIN.val_back];rfl
   cases J:(Nat.toDigits 10 m).map Char.toNat with
   |nil=>exact absurd J Y
   |cons c x'=>
    refine⟨⟨c,x',by show gz (m:Int)=_;rw[e,J],?_,λp r hr=>?_⟩,by rw[e,J];exact Q12 _ _,by rw[e];omega⟩
    . exact(ue c (U c (by rw[J];exact Q05)).1).2.2.2.1
    . have:=Bs (sg:=false) (fs:=c::x') (λd L=>(U d (by rw[J];exact L)).1) (p:=p) (r:=r) (λd L=>(hr d L).2 rfl) (c:=c) (x':=x') rfl (Q12 _ _) (by rw[<-J];omega) (λz=>?_)
      . rw[this];show Pc.mk _ _ _ _=Pc.mk _ _ _ (p+(gz (m:Int)).length);rw[e,J,<-J,<-e,hv];rfl
      . by_cases hm:m=0
        . subst hm;exact z.2 (J.symm.trans (by decide))
        . exact Bt m (by omega) (by rw[J];exact z.1)
 . obtain⟨m,rfl⟩:∃m:Nat,i= -((m+1:Nat):Int):=⟨i.natAbs - 1,by omega⟩;have e:=uw m;obtain⟨U,Y,d3⟩:=o7 (m+1) (by omega)
   have hv:iv (gz (-((m+1:Nat):Int)))= -((m+1:Nat):Int):=by
    unfold iv;have:=PySem.intText_neg (x:=di (gz (-((m+1:Nat):Int)))) (cs:=(Nat.toDigits 10 (m+1)).map Char.toNat) (by rw[ja,e]) (by intro c hc;exact(U c hc).2) Y (by rw[fH,e,Q02];omega);rw[this,W.KIN.val_back];rfl
   refine⟨⟨45,_,e,by decide,λp r hr=>?_⟩,by rw[e];exact Q12 _ _,by rw[e,Q02];omega⟩;have:=Bs (sg:=true) (fs:=(Nat.toDigits 10 (m+1)).map Char.toNat) (λd L=>(U d L).1) (p:=p) (r:=r) (λd L=>(hr d L).2 rfl) (c:=45) (x':=(Nat.toDigits 10 (m+1)).map Char.toNat) rfl Y (by omega) (λz=>Bt (m+1) (by omega) z.1);rw[this];show Pc.mk _ _ _ _=Pc.mk _ _ _ (p+(gz (-((m+1:Nat):Int))).length);rw[<-e,hv];rfl
noncomputable def spread:List (Nat × Tk)->Nat->Tx
 |[],j=>List.replicate j 32
 |(b,t)::r,j=>List.replicate b 32++(t.tx++spread r j)
def rl:List (Nat × Tk)->Prop
 |[]=>True
 |[_]=>True
 |t::u::r=>((t.2.sort≠4/\t.2.sort≠5)\/u.2.sort=2\/1<=u.1)/\rl (u::r)
def eS (qs:List Pc) (i:Nat) (J:List Tk):Prop:=∀k t,J[k]? =some t->∃q,qs[i+k]? =some q/\q.sort=t.sort/\q.th=t.th
theorem eS.app {qs:List Pc}{i:Nat}{J us:List Tk}(h:eS qs i (J++us)):eS qs i J/\eS qs (i+J.length) us:=by
 refine⟨λk t e=>?_,λk t e=>?_⟩
 . obtain⟨hk,L⟩:=List.getElem?_eq_some_iff.mp e;exact h k t (by rw[Q1v hk];exact e)
 . have:=h (J.length+k) t (by rw[Q1n (Q11 _ _),Q3g];exact e);rw[<-Nat.add_assoc] at this;exact this
theorem eS.cons {qs:List Pc}{i:Nat}{t:Tk}{us:List Tk}(h:eS qs i (t::us)):(∃q,qs[i]? =some q/\q.sort=t.sort/\q.th=t.th)/\eS qs (i+1) us:=by
 refine⟨h 0 t rfl,λk u e=>?_⟩;have:=h (k+1) u e;rw[show i+1+k=i+(k+1) by omega];exact this
theorem IS {t:Tk}(h:lA t)(h2:t.sort=2){d:Nat}(L:t.tx.head? =some d):gn d=false/\isF d=false:=by
 obtain⟨c,x',e,_,h⟩:=h;rw[e] at L
 cases L;have:=h 0 [] (λd L=>by cases L);have J:(fj iv 0 d (x'++[])).sort=2:=by rw[this];exact h2
 unfold fj at J;split at J
 . rename_i U;unfold marks at U;simp only[Q0s,Q0t,or_false] at U;rcases U with e|e|e|e|e|e|e|e|e|e <;> subst e <;> decide
 . split at J
   . unfold wordAt at J;split at J <;> cases J
   . split at J
     . unfold l_ at J;split at J <;> cases J
     . unfold numAt at J;split at J
       . cases J
       . split at J <;> cases J
theorem Bu:∀(U:List (Nat × Tk)) (j p:Nat),(∀t∈U,lA t.2)->rl U->eS (gy iv p (spread U j)) 0 (U.map (·.2))/\∃q,(gy iv p (spread U j))[U.length]? =some q/\q.sort=0/\q.th=.str []
 |[],j,p,_,_=>by
  unfold spread;rw[HH];exact⟨(λk t e=>by simp at e),_,rfl,rfl,rfl⟩
 |(b,t)::r,j,p,L,Y=>by
  obtain⟨c,x',e,hc,hp⟩:=L (b,t) Q05;have e':t.tx=c::x':=e
  have aa:Br t.sort (spread r j):=by
   intro d J
   cases r with
   |nil=>
    unfold spread at J
    cases j with
    |zero=>cases J
    |succ j=>cases J;exact⟨λ_=>by decide,λ_=>by decide⟩
   |cons u r=>
    obtain⟨bu,u⟩:=u;unfold spread at J
    cases bu with
    |succ bu=>cases J;exact⟨λ_=>by decide,λ_=>by decide⟩
    |zero=>
     have hu:=L (0,u) (Q0d _ Q05)
     have ae:u.tx.head? =some d:=by
      obtain⟨c2,x2,e2,_⟩:=hu;have e3:u.tx=c2::x2:=e2;rw[e3] at J ⊢;exact J
     rcases Y.1 with h|h|h
     . exact⟨λz=>absurd z h.1,λz=>absurd z h.2⟩
     . have:=IS hu h ae;exact⟨λ_=>this.1,λ_=>this.2⟩
     . have h:1<=0:=h;omega
  have ab:rl r:=by
   cases r with
   |nil=>trivial
   |cons u r=>exact Y.2
  have af:=hp (p+b) (spread r j) aa
  have ac:gy iv p (spread ((b,t)::r) j)=⟨t.sort,t.th,p+b,p+b+t.tx.length⟩::gy iv (p+b+t.tx.length) (spread r j):=by
   show gy iv p (List.replicate b 32++(t.tx++spread r j))=_;rw[ud,e',Q1l,A0 hc,af];show _::gy iv (p+b+t.tx.length) ((c::(x'++spread r j)).drop (p+b+t.tx.length - (p+b)))=_;rw[Q3g,e',<-Q1l,List.drop_left' rfl]
  obtain⟨ag,ah⟩:=Bu r j (p+b+t.tx.length) (λu hu=>L u (Q0d _ hu)) ab;rw[ac];refine⟨λk u eu=>?_,?_⟩
  . cases k with
    |zero=>cases eu;exact⟨_,rfl,rfl,rfl⟩
    |succ k=>
     have:=ag k u eu;rw[Q22] at this ⊢;exact this
  . exact ah
noncomputable def closers:List Tx:=[[44],[58],[93],[125],[41],[62]]
noncomputable def openers:List Nat:=[91,123,40,60]
noncomputable def lst (c:Nat) (x:Tx):Nat:=x.getLast?.getD c
noncomputable def iq (c:Nat) (x:Tx):Bool:=decide (x∈closers) || decide (c∈openers)
noncomputable def jc (J:Tx):List Tx->Tx
 |[]=>[]
 |[x]=>x
 |x::y::r=>x++(J++jc J (y::r))
def Mid (x:Tx):Prop:=x ∉ closers/\∀c,lst c x ∉ openers
theorem Bv {c:Nat}{x:Tx}(h:x ∉ closers)(hc:c ∉ openers):iq c x=false:=by
 unfold iq;rw[decide_eq_false h,decide_eq_false hc];rfl
theorem uz {c:Nat}{x:Tx}(hc:c∈openers):iq c x=true:=by
 unfold iq;rw[decide_eq_true hc,Bool.or_true]
theorem Bw {c:Nat}{x:Tx}(h:x∈closers):iq c x=true:=by
 unfold iq;rw[decide_eq_true h];rfl
theorem Bx {c:Nat}{x:Tx}(h:x≠[]):lst c x∈x:=by
 unfold lst;rw[Q2i h];exact List.getLast_mem h
theorem By {d:Nat}(h:gn d=true):d ∉ openers/\[d] ∉ closers:=by
 unfold gn at h;simp only[Bool.and_eq_true,decide_eq_true_eq] at h;unfold openers closers;simp only[Q0s,Q0t,or_false,List.cons.injEq,and_true];constructor <;> (rintro(e|e|e|e) <;> omega) <;> (rintro(e|e|e|e|e|e) <;> omega)
theorem Bz {x:Tx}(J:x≠[])(h1:∀c,lst c x ∉ openers)(h2:∀d,x=[d]->[d] ∉ closers):Mid x:=by
 refine⟨λh=>?_,h1⟩
 have:∃d,x=[d]:=by
  unfold closers at h;simp only[Q0s,Q0t,or_false] at h;rcases h with e|e|e|e|e|e <;> exact⟨_,e⟩
 obtain⟨d,e⟩:=this;exact h2 d e (e ▸ h)
theorem uA {x:Tx}(h:lB x):Mid x:=by
 refine Bz h.1 (λc=>(By (h.2.2 _ (Bx h.1))).1) λd e=>(By (h.2.2 d (by rw[e];exact Q05))).2
end Pb
namespace L2
open Spec PyProof.Rows
end L2
namespace L2
open PyProof.Rows
open Builtin Builtin.Str Builtin.Int
theorem BA:∀{ss:List Str}{J:List Value},Vals (ss.map V.str) J->∃l:List (Str × Tok),strValues l=J/\l.map (·.1)=ss
 |[],[],.nil=>⟨[],rfl,rfl⟩
 |s::ss,_::_,.cons r t=>by
  obtain⟨k,rfl⟩:=r;obtain⟨l,rfl,rfl⟩:=BA t;exact⟨(s,k)::l,rfl,rfl⟩
section
variable {X:Cx}
theorem uB:oi X "str.join" (λx vs H Q=>∃z a ss,x=.str z/\vs=[.ref a]/\dy X.K H a (ss.map V.str)/\JoinOk z ss=true/\Q (.str (Txt.join z ss)) H):=by
 intro pins s σ H x vs v us Q I L U h;obtain⟨z,a,ss,rfl,rfl,Y,J,q⟩:=h;obtain⟨t,rfl⟩:=L;obtain⟨u1,rfl,r1⟩:=vals1 U
 cases r1;obtain⟨aa,r',pl,hz⟩:=I.list Y;obtain⟨l,rfl,rfl⟩:=BA r';exact SC.join pl.isList rfl J λt' k=>⟨.str _,H,I.tok _,⟨_,rfl⟩,q⟩
theorem IT:oi X "str.lstrip" (λx vs H Q=>∃z y,x=.str z/\vs=[.str y]/\z.length<=sizeLine/\Q (.str (Txt.lstripChars z y)) H):=by
 intro pins s σ H x vs v us Q I J L h;obtain⟨z,y,rfl,rfl,U,q⟩:=h;obtain⟨t,rfl⟩:=J;obtain⟨Y,rfl,t1,rfl⟩:=vals1 L;exact SC.lstripChars (λt' k=>⟨.str _,H,I.tok _,⟨_,rfl⟩,q⟩) U
end
end L2
namespace Pb
open L2 PyProof.Rows
noncomputable def SX (x:Tx):V:=.str (di x)
theorem fX {x y:Tx}(h:x.length+y.length<=1000000):(di x).length+(di y).length<=sizeLine:=by
 rw[fH,fH];exact Q07 h (by decide)
noncomputable def PV (J:List Tk):List V:=J.map λt=>SX t.tx
theorem uC {K:PySem.W.Frag}{a:Addr}{xs:List V}{g:TG}{tb:TS}{D:Ends}{σ:L2.St}{H:Hp}(Pv:Nat->L2.St->Hp->Prop)(h0:Pv 0 σ H)(hl:∀i σ H,i<=xs.length->Pv i σ H->dy K H a xs)
 (hs:∀(i:Nat) y σ H p,xs[i]? =some y->Pv i σ H->H p=none->g (.ref p) σ (upd H p (.tup [.int i,y])) λJ H2=>tb { D with nx:=Pv (i+1),ct:=Pv (i+1),bk:=D.nx } J H2) (hd:∀σ H,Pv xs.length σ H->D.nx σ H):
 ∃W:Nat->Nat->L2.St->Hp->Prop,(∃m,W 0 m σ H)/\∀i m σ H,W i m σ H->
  ((Ite K a).stop i H/\D.nx σ H)\/((Ite K a).go i H/\∃N:L2.St->Hp->Prop,(∀L H',N L H'->∃Y,Y<m/\W (i+1) Y L H')/\∀x H',(Ite K a).jH i H x H'->g x σ H' λJ H2=>tb { D with nx:=N,ct:=N,bk:=D.nx } J H2):=by
 refine⟨λi m σ H=>m=xs.length - i/\i<=xs.length/\Pv i σ H,⟨xs.length,by simp,Q06 _,h0⟩,?_⟩;rintro i m σ H ⟨rfl,hi,p⟩;by_cases U:i<xs.length
 . refine .inr ⟨⟨xs,xs[i],hl i σ H hi p,by simp[U]⟩,Pv (i+1),λL H' p'=>⟨xs.length - (i+1),by omega,rfl,U,p'⟩,λx H' y=>?_⟩;obtain⟨q,y,hq,rfl,hy,rfl⟩:=y;exact hs i y σ H q (hy xs (hl i σ H hi p)) p hq
 . have e:i=xs.length:=by omega
   subst e;exact .inl ⟨⟨xs,hl _ σ H (Q00 _) p,Q00 _⟩,hd σ H p⟩
theorem BC (c:Nat):∀(n:Nat) (b:Array Nat),((List.replicate n #[c]).foldl (· ++ ·) b).toList=b.toList++List.replicate n c
 |0,b=>by simp
 |n+1,b=>by
  rw[Q2f,List.foldl_cons,BC c n,Q3h,Q0j];rfl
theorem BD (c k:Nat):Txt.mul (di [c]) ((k:Int)+1)=di (List.replicate (k+1) c):=by
 rw[<-jb (Txt.mul _ _)];refine congrArg di ?_;unfold Txt.mul;rw[if_neg (by omega)];by_cases h:(((k:Int)+1 == 1) || (di [c]).length == 0)=true
 . rw[if_pos h]
   have hk:k=0:=by
    rw[fH] at h;simp at h;omega
   subst hk;rfl
 . rw[if_neg h];have e:((k:Int)+1).toNat=k+1:=by omega
   rw[e];show((List.replicate (k+1) #[c]).foldl (· ++ ·) #[]).toList=_;rw[BC];rfl
theorem IU (c j:Nat):Txt.mul (di [c]) (j:Int)=di (List.replicate j c):=by
 cases j with
 |zero=>rfl
 |succ j=>exact BD c j
theorem o8 {A B:TS}{D:Ends}{σ:L2.St}{H:Hp}(Pv:L2.St->Hp->Prop)(L:∀J H',Pv J H'->B D J H')(U:(∀J H',Pv J H'->B D J H')->A { D with nx:=B D } σ H):p_ A B D σ H:=U L
noncomputable abbrev sl (x:Str):Tx:=x.cps.toList
theorem jM.v {x:Str}(h:jM x):lB (sl x):=⟨h.1,h.2.1,λc hc=>by
 have:=h.2.2 c hc;unfold gn;simp only[Bool.and_eq_true,decide_eq_true_eq];exact this⟩
theorem lB.p {x:Str}(h:lB (sl x)):jM x:=⟨h.1,h.2.1,λc hc=>by
 have:=h.2.2 c hc;unfold gn at this;simp only[Bool.and_eq_true,decide_eq_true_eq] at this;exact this⟩
theorem IV {c c':Nat}{x:Tx}(h:x≠[]):lst c x=lst c' x:=by
 unfold lst;rw[Q2i h];rfl
theorem qw {x:Tx}(h:x≠[]):fg (di x).cps.toList (-1)=some (lst 0 x):=by
 rw[ja];have hl:=List.length_pos_iff.mpr h;unfold fg jr;rw[if_neg (by decide),if_pos (by omega)];show x[(-1+(x.length:Int)).toNat]? =_;rw[show(-1+(x.length:Int)).toNat=x.length - 1 by omega];unfold lst;rw[<-List.getLast?_eq_getElem?,Q2i h];rfl
theorem IW (c:Nat):(!(Builtin.Str.occurrences (Str.ofString "[{(<") ⟨#[c]⟩ 0 (Str.ofString "[{(<").length 1).isEmpty)=decide (c∈openers):=by
 rw[PySem.StrLaws.found_one];have:(Str.ofString "[{(<").cps.toList=openers:=by decide +kernel
 rw[this]
noncomputable abbrev mr:List V:=[.str ",",.str ":",.str "]",.str "}",.str ")",.str ">"]
theorem str_beq (x y:Tx):(di x == di y)=decide (x=y):=by
 by_cases h:x=y
 . subst h;simp
 . rw[decide_eq_false h];exact beq_eq_false_iff_ne.mpr λe=>h (kQ e)
theorem IX (x:Tx):inV (SX x) mr=decide (x∈closers):=by
 have e:mr=closers.map SX:=by decide +kernel
 rw[e];unfold inV closers;simp only[Q0y,Q25,Q1b,List.any_nil,Bool.or_false,Q0s,Q0t,or_false];show(di [44] == di x || (di [58] == di x || (di [93] == di x || (di [125] == di x || (di [41] == di x || di [62] == di x)))))=_;rw[str_beq,str_beq,str_beq,str_beq,str_beq,str_beq];by_cases h1:[44]=x
 . subst h1;rfl
 by_cases h2:[58]=x
 . subst h2;rfl
 by_cases J:[93]=x
 . subst J;rfl
 by_cases L:[125]=x
 . subst L;rfl
 by_cases U:[41]=x
 . subst U;rfl
 by_cases Y:[62]=x
 . subst Y;rfl
 rw[decide_eq_false h1,decide_eq_false h2,decide_eq_false J,decide_eq_false L,decide_eq_false U,decide_eq_false Y,decide_eq_false (by
  rintro(e|e|e|e|e|e)
  . exact h1 e.symm
  . exact h2 e.symm
  . exact J e.symm
  . exact L e.symm
  . exact U e.symm
  . exact Y e.symm)];rfl
noncomputable abbrev LP:=Bool × Tk
noncomputable def eO (p:LP):Tx:=(if p.1=true then [33] else [])++p.2.tx
noncomputable def dn (c:Nat):LP:=(false,mkT c)
noncomputable def gu (x:Str):LP:=(false,kT (sl x))
noncomputable def tgt:LP:=(true,mkT 40)
noncomputable def Ds.col:Ds->List LP
 | .nil=>[]
 | .cons _ _ _=>[dn 58]
mutual
noncomputable def D.tk:D->Kd->List LP
 | .int i,_=>[(false,mq i)]
 | .str x,_=>[(false,o6 (sl x))]
 | .dct m,.dG fs=>dn 123::(m.fY fs++[dn 125])
 | .lst xs,.rows _ _ fs=>dn 91::(xs.er (.dG fs)++[dn 93])
 | .tup xs,.tree k=>xs.uD k
 | .tup xs,.eR fs=>xs.uE fs
 |_,_=>[]
noncomputable def Ds.uD:Ds->Kd->List LP
 | .cons _ t (.cons _ (.lst as) .nil),k=>dn 60::(t.tk k++(as.col++(as.er (.tree k)++[dn 62])))
 |_,_=>[]
noncomputable def Ds.uE:Ds->Fs->List LP
 | .cons _ (.str x) (.cons _ d .nil),fs=>gu x::tgt::(d.tk ((fs.get x).getD .num)++[dn 41])
 |_,_=>[]
noncomputable def Ds.fY:Ds->Fs->List LP
 | .cons _ d r,.cons x k fs=>gu x::dn 58::(d.tk k++r.fJ fs)
 |_,_=>[]
noncomputable def Ds.fJ:Ds->Fs->List LP
 | .cons _ d r,.cons x k fs=>dn 44::gu x::dn 58::(d.tk k++r.fJ fs)
 |_,_=>[]
noncomputable def Ds.er:Ds->Kd->List LP
 | .nil,_=>[]
 | .cons _ d r,k=>d.tk k++r.gv k
noncomputable def Ds.gv:Ds->Kd->List LP
 | .nil,_=>[]
 | .cons _ d r,k=>dn 44::(d.tk k++r.gv k)
end
mutual
noncomputable def D.wr:D->Kd->Tx
 | .int i,_=>gz i
 | .str x,_=>34::(sl x++[34])
 | .dct m,.dG fs=>123::(m.i3 fs++[125])
 | .lst xs,.rows _ _ fs=>91::(xs.iH (.dG fs)++[93])
 | .tup xs,.tree k=>xs.BE k
 | .tup xs,.eR fs=>xs.BF fs
 |_,_=>[]
noncomputable def Ds.BE:Ds->Kd->Tx
 | .cons _ t (.cons _ (.lst as) .nil),k=>60::(t.wr k++(as.lC (.tree k)++[62]))
 |_,_=>[]
noncomputable def Ds.BF:Ds->Fs->Tx
 | .cons _ (.str x) (.cons _ d .nil),fs=>sl x++40::(d.wr ((fs.get x).getD .num)++[41])
 |_,_=>[]
noncomputable def Ds.i3:Ds->Fs->Tx
 | .cons _ d r,.cons x k fs=>sl x++58::32::(d.wr k++r.gZ fs)
 |_,_=>[]
noncomputable def Ds.gZ:Ds->Fs->Tx
 | .cons _ d r,.cons x k fs=>44::32::(sl x++58::32::(d.wr k++r.gZ fs))
 |_,_=>[]
noncomputable def Ds.iH:Ds->Kd->Tx
 | .nil,_=>[]
 | .cons _ d r,k=>d.wr k++r.iI k
noncomputable def Ds.iI:Ds->Kd->Tx
 | .nil,_=>[]
 | .cons _ d r,k=>44::32::(d.wr k++r.iI k)
noncomputable def Ds.lC:Ds->Kd->Tx
 | .nil,_=>[]
 | .cons _ d r,k=>58::32::(d.wr k++r.iI k)
end
mutual
def eA:D->Kd->Prop
 | .int i,.num=>i.natAbs<10 ^ 60
 | .str x,.eM=>(sl x).length<=40/\34 ∉ sl x
 | .dct m,.dG fs=>d4 m fs
 | .lst xs,.rows _ _ fs=>eP xs (.dG fs)
 | .tup xs,.tree k=>uF xs k
 | .tup xs,.eR fs=>uG xs fs
 |_,_=>False
def uF:Ds->Kd->Prop
 | .cons _ t (.cons _ (.lst as) .nil),k=>eA t k/\eP as (.tree k)
 |_,_=>False
def uG:Ds->Fs->Prop
 | .cons _ (.str x) (.cons _ d .nil),fs=>x∈fs.names/\eA d ((fs.get x).getD .num)
 |_,_=>False
def d4:Ds->Fs->Prop
 | .nil,.nil=>True
 | .cons y d r,.cons x k fs=>y=x/\eA d k/\d4 r fs
 |_,_=>False
def eP:Ds->Kd->Prop
 | .nil,_=>True
 | .cons _ d r,k=>eA d k/\eP r k
end
theorem eA.inv {d:D}{k:Kd}(h:eA d k):match k with
 | .num=>∃i,d=.int i/\i.natAbs<10 ^ 60
 | .eM=>∃x,d=.str x/\(sl x).length<=40/\34 ∉ sl x
 | .dG fs=>∃m,d=.dct m/\d4 m fs
 | .rows _ _ fs=>∃xs,d=.lst xs/\eP xs (.dG fs)
 | .tree k=>∃a b t as,d=.tup (.cons a t (.cons b (.lst as) .nil))/\eA t k/\eP as (.tree k)
 | .eR fs=>∃a b x v,d=.tup (.cons a (.str x) (.cons b v .nil))/\x∈fs.names/\eA v ((fs.get x).getD .num):=by
 unfold eA at h;split at h
 . exact⟨_,rfl,h⟩
 . exact⟨_,rfl,h⟩
 . exact⟨_,rfl,h⟩
 . exact⟨_,rfl,h⟩
 . unfold uF at h;split at h
   . exact⟨_,_,_,_,rfl,h⟩
   . exact h.elim
 . unfold uG at h;split at h
   . exact⟨_,_,_,_,rfl,h⟩
   . exact h.elim
 . exact h.elim
theorem rm {a b:Str}{t:D}{as:Ds}{k:Kd}:(D.tup (.cons a t (.cons b (.lst as) .nil))).tk (.tree k)=dn 60::(t.tk k++(as.col++(as.er (.tree k)++[dn 62]))):=by rw[D.tk,Ds.uD]
theorem rn {a b:Str}{x:Str}{v:D}{fs:Fs}:(D.tup (.cons a (.str x) (.cons b v .nil))).tk (.eR fs)=gu x::tgt::(v.tk ((fs.get x).getD .num)++[dn 41]):=by rw[D.tk,Ds.uE]
theorem BG {a b:Str}{t:D}{as:Ds}{k:Kd}:(D.tup (.cons a t (.cons b (.lst as) .nil))).wr (.tree k)=60::(t.wr k++(as.lC (.tree k)++[62])):=by rw[D.wr,Ds.BE]
theorem BH {a b:Str}{x:Str}{v:D}{fs:Fs}:(D.tup (.cons a (.str x) (.cons b v .nil))).wr (.eR fs)=sl x++40::(v.wr ((fs.get x).getD .num)++[41]):=by rw[D.wr,Ds.BF]
theorem BI {a b:Str}{t:D}{as:Ds}{k:Kd}:eA (D.tup (.cons a t (.cons b (.lst as) .nil))) (.tree k)↔eA t k/\eP as (.tree k):=by rw[eA,uF]
theorem IY {a b:Str}{x:Str}{v:D}{fs:Fs}:eA (D.tup (.cons a (.str x) (.cons b v .nil))) (.eR fs)↔x∈fs.names/\eA v ((fs.get x).getD .num):=by rw[eA,uG]
noncomputable def dY:Nat->List LP->Tx
 |_,[]=>[]
 |c,p::r=>(if(p.1 || iq c p.2.tx)=true then p.2.tx else 32::p.2.tx)++dY (lst c p.2.tx) r
noncomputable def nj:Nat->List LP->List (Nat × Tk)
 |_,[]=>[]
 |c,p::r=>((if(p.1 || iq c p.2.tx)=true then 0 else 1),p.2)::nj (lst c p.2.tx) r
theorem BJ:∀(c:Nat) (l:List LP),(nj c l).map (·.2)=l.map (·.2)
 |_,[]=>rfl
 |c,p::r=>by show p.2::(nj _ r).map (·.2)=_;rw[BJ];rfl
theorem uH:∀(c:Nat) (l:List LP),spread (nj c l) 0=dY c l
 |_,[]=>rfl
 |c,p::r=>by
  show List.replicate (if(p.1 || iq c p.2.tx)=true then 0 else 1) 32++(p.2.tx++spread (nj _ r) 0)=(if(p.1 || iq c p.2.tx)=true then p.2.tx else 32::p.2.tx)++dY _ r;rw[uH]
  cases(p.1 || iq c p.2.tx) <;> rfl
noncomputable def bl (c:Nat):Tx:=if c∈openers then [] else [32]
theorem nq {c:Nat}(h:c∈openers):bl c=[]:=if_pos h
theorem nr {c:Nat}(h:c ∉ openers):bl c=[32]:=if_neg h
theorem nu {c:Nat}{t:Tk}{r:List LP}(h:t.tx ∉ closers):dY c ((false,t)::r)=bl c++(t.tx++dY (lst c t.tx) r):=by
 show(if(false || iq c t.tx)=true then t.tx else 32::t.tx)++_=_;rw[Bool.false_or];by_cases hc:c∈openers
 . rw[uz hc,nq hc];rfl
 . rw[Bv h hc,nr hc];rfl
theorem jU {c e:Nat}{r:List LP}(h:[e]∈closers):dY c (dn e::r)=e::dY e r:=by
 show(if(false || iq c [e])=true then [e] else 32::[e])++dY (lst c [e]) r=_;rw[Bool.false_or,Bw h];rfl
theorem uI {c e:Nat}{r:List LP}(h:[e] ∉ closers):dY c (dn e::r)=bl c++(e::dY e r):=nu (t:=mkT e) h
theorem IZ {c:Nat}{r:List LP}:dY c (tgt::r)=40::dY 40 r:=rfl
theorem I0 {i:Int}(h:i.natAbs<10 ^ 60):Mid (gz i):=by
 have key:gz i≠[]/\∀c∈gz i,c=45\/(48<=c/\c<=57):=by
  by_cases U:0<=i
  . obtain⟨m,rfl⟩:=Q1z U;have e:gz ((m:Nat):Int)=(Nat.toDigits 10 m).map Char.toNat:=W.KIN.signs_num m;obtain⟨J,L,Y⟩:=o7 m (by simpa using h);rw[e];exact⟨L,λc hc=>.inr (J c hc).2⟩
  . obtain⟨m,rfl⟩:∃m:Nat,i= -((m+1:Nat):Int):=⟨i.natAbs - 1,by omega⟩;obtain⟨J,L,Y⟩:=o7 (m+1) (by omega);rw[uw m];refine⟨Q12 _ _,λc hc=>?_⟩;rcases List.mem_cons.mp hc with e|e
    . exact .inl e
    . exact .inr (J c e).2
 refine Bz key.1 (λc z=>?_) λd e z=>?_
 . have:=key.2 _ (Bx (c:=c) key.1);unfold openers at z;simp only[Q0s,Q0t,or_false] at z;omega
 . have:=key.2 d (by rw[e];exact Q05);unfold closers at z;simp only[Q0s,Q0t,or_false,List.cons.injEq,and_true] at z;omega
theorem I_ (w:Tx):Mid (34::(w++[34])):=by
 refine⟨λz=>?_,λc z=>?_⟩
 . unfold closers at z;simp only[Q0s,Q0t,or_false,List.cons.injEq] at z;omega
 . have e:lst c (34::(w++[34]))=34:=by
    unfold lst;rw[show 34::(w++[34])=(34::w)++[34] from rfl,List.getLast?_concat];rfl
   rw[e] at z;exact absurd z (by decide)
theorem Fs.nv:∀{fs:Fs}{x:Str}{k:Kd},fs.W->fs.get x=some k->k.W
 | .nil,_,_,_,h=>by cases h
 | .cons y q r,x,k,w,h=>by
   unfold Fs.W at w;have h:(if x=y then some q else r.get x)=some k:=h;split at h
   . cases h;exact w.1
   . exact Fs.nv w.2.2 h
theorem Fs.ny:∀{fs:Fs}{x:Str},x∈fs.names->∃k,fs.get x=some k
 | .nil,_,h=>nomatch h
 | .cons y q r,x,h=>by
   show ∃k,(if x=y then some q else r.get x)=some k;by_cases e:x=y
   . rw[if_pos e];exact⟨_,rfl⟩
   . rw[if_neg e];exact Fs.ny ((List.mem_cons.mp h).resolve_left e)
theorem Fs.uJ:∀{fs:Fs}{x:Str},fs.W->x∈fs.names->jM x
 | .nil,_,_,h=>nomatch h
 | .cons y q r,x,w,h=>by
   unfold Fs.W at w;rcases List.mem_cons.mp h with e|e
   . rw[e];exact w.2.1
   . exact Fs.uJ w.2.2 e
noncomputable def Ds.rp (c:Nat):Ds->Tx
 | .nil=>[]
 | .cons _ _ _=>bl c
def o9 (n:Nat):Prop:=∀(d:D) (k:Kd),d.dep<=n->eA d k->k.W->∀(c:Nat) (r:List LP),∃e,e ∉ openers/\dY c (d.tk k++r)=bl c++(d.wr k++dY e r)
section
variable {n:Nat}
theorem BK (J:o9 n):∀(m:Ds) (fs:Fs),m.dep<=n->d4 m fs->fs.W->∀(c:Nat) (r:List LP),dY c (m.fJ fs++dn 125::r)=m.gZ fs++125::dY 125 r
 | .nil,fs,_,h,_,c,r=>by
   unfold Ds.fJ Ds.gZ;exact jU (by decide)
 | .cons y d q,.nil,_,h,_,c,r=>by unfold d4 at h;exact h.elim
 | .cons y d q,.cons x k fs,L,h,w,c,r=>by
   unfold d4 at h;unfold Fs.W at w;unfold Ds.dep at L;have U:=uA w.2.1.v;unfold Ds.fJ Ds.gZ;obtain⟨e,he,Y⟩:=J d k (by omega) h.2.1 w.1 58 (q.fJ fs++dn 125::r);have hR:=BK J q fs (by omega) h.2.2 w.2.2 e r;show dY c (dn 44::gu x::dn 58::((d.tk k++q.fJ fs)++dn 125::r))=44::32::((sl x++58::32::(d.wr k++q.gZ fs))++125::dY 125 r);rw[jU (by decide),show dY 44 (gu x::dn 58::((d.tk k++q.fJ fs)++dn 125::r))=_ from nu (t:=kT (sl x)) U.1,nr (by decide),jU (by decide),Q0j,Y,nr (by decide),hR];simp[kT]
theorem Ja (J:o9 n):∀(m:Ds) (fs:Fs),m.dep<=n->d4 m fs->fs.W->∀(r:List LP),dY 123 (m.fY fs++dn 125::r)=m.i3 fs++125::dY 125 r
 | .nil,fs,_,h,_,r=>by
   unfold Ds.fY Ds.i3;exact jU (by decide)
 | .cons y d q,.nil,_,h,_,r=>by unfold d4 at h;exact h.elim
 | .cons y d q,.cons x k fs,L,h,w,r=>by
   unfold d4 at h;unfold Fs.W at w;unfold Ds.dep at L;have U:=uA w.2.1.v;unfold Ds.fY Ds.i3;obtain⟨e,he,Y⟩:=J d k (by omega) h.2.1 w.1 58 (q.fJ fs++dn 125::r);have hR:=BK J q fs (by omega) h.2.2 w.2.2 e r;show dY 123 (gu x::dn 58::((d.tk k++q.fJ fs)++dn 125::r))=((sl x++58::32::(d.wr k++q.gZ fs))++125::dY 125 r);rw[show dY 123 (gu x::dn 58::((d.tk k++q.fJ fs)++dn 125::r))=_ from nu (t:=kT (sl x)) U.1,nq (by decide),jU (by decide),Q0j,Y,nr (by decide),hR];simp[kT]
theorem BL (J:o9 n){e:Nat}(L:[e]∈closers):∀(xs:Ds) (k:Kd),xs.dep<=n->eP xs k->k.W->∀(c:Nat) (r:List LP),dY c (xs.gv k++dn e::r)=xs.iI k++e::dY e r
 | .nil,k,_,h,_,c,r=>by
   unfold Ds.gv Ds.iI;exact jU L
 | .cons y d q,k,U,h,w,c,r=>by
   unfold eP at h;unfold Ds.dep at U;unfold Ds.gv Ds.iI;obtain⟨Y,aa,ee⟩:=J d k (by omega) h.1 w 44 (q.gv k++dn e::r);have hR:=BL J L q k (by omega) h.2 w Y r;show dY c (dn 44::((d.tk k++q.gv k)++dn e::r))=_;rw[jU (by decide),Q0j,ee,nr (by decide),hR];simp
theorem BN (J:o9 n){e:Nat}(L:[e]∈closers)(xs:Ds)(k:Kd)(U:xs.dep<=n)(h:eP xs k)(w:k.W)(c:Nat)(r:List LP):dY c (xs.er k++dn e::r)=xs.rp c++(xs.iH k++e::dY e r):=by
 cases xs with
 |nil=>
  unfold Ds.er Ds.iH Ds.rp;exact jU L
 |cons y d q=>
  unfold eP at h;unfold Ds.dep at U;unfold Ds.er Ds.iH;obtain⟨Y,aa,ee⟩:=J d k (by omega) h.1 w c (q.gv k++dn e::r);have hR:=BL J L q k (by omega) h.2 w Y r;rw[Q0j,ee,hR];simp[Ds.rp]
end
theorem BO:∀n:Nat,o9 n
 |0=>λd k L=>absurd d.gB (by omega)
 |n+1=>λd k L h w c r=>by
  have U:=BO n;have inv:=h.inv
  cases k with
  |num=>
   obtain⟨i,rfl,hi⟩:=inv;have J:=I0 hi;exact⟨_,J.2 c,by unfold D.tk D.wr;exact nu (t:=mq i) J.1⟩
  |eM=>
   obtain⟨x,rfl,hx⟩:=inv;have J:=I_ (sl x);exact⟨_,J.2 c,by unfold D.tk D.wr;exact nu (t:=o6 (sl x)) J.1⟩
  |dG fs=>
   obtain⟨m,rfl,J⟩:=inv;unfold D.dep at L;unfold Kd.W at w;refine⟨125,by decide,?_⟩;unfold D.tk D.wr;show dY c (dn 123::((m.fY fs++[dn 125])++r))=_;rw[uI (by decide),Q0j];show _++123::dY 123 (m.fY fs++dn 125::r)=_;rw[Ja U m fs (by omega) J w.2.2];simp
  |rows key ab fs=>
   obtain⟨xs,rfl,J⟩:=inv;unfold D.dep at L;unfold Kd.W at w;refine⟨93,by decide,?_⟩;unfold D.tk D.wr;show dY c (dn 91::((xs.er (.dG fs)++[dn 93])++r))=_;rw[uI (by decide),Q0j];show _++91::dY 91 (xs.er (.dG fs)++dn 93::r)=_;rw[BN U (by decide) xs (.dG fs) (by omega) J (by unfold Kd.W;exact⟨w.1,w.2.1,w.2.2.1⟩)];have e0:xs.rp 91=[]:=by cases xs <;> first|rfl|exact nq (by decide)
   rw[e0];simp
  |tree k=>
   obtain⟨a,b,t,as,rfl,ht,aa⟩:=inv;simp only[D.dep,Ds.dep] at L;have w':k.W:=by unfold Kd.W at w;exact w
   refine⟨62,by decide,?_⟩;rw[rm,BG];show dY c (dn 60::((t.tk k++(as.col++(as.er (.tree k)++[dn 62])))++r))=_;rw[uI (by decide),Q0j];obtain⟨e,he,ee⟩:=U t k (by omega) ht w' 60 ((as.col++(as.er (.tree k)++[dn 62]))++r);rw[ee,show bl 60=[] from nq (by decide)]
   have:dY e ((as.col++(as.er (.tree k)++[dn 62]))++r)=as.lC (.tree k)++62::dY 62 r:=by
    rw[Q0j,Q0j];show dY e (as.col++(as.er (.tree k)++dn 62::r))=_
    cases as with
    |nil=>
     unfold Ds.col Ds.er Ds.lC;exact jU (by decide)
    |cons y d q=>
     unfold Ds.col;show dY e (dn 58::((Ds.cons y d q).er (.tree k)++dn 62::r))=_;rw[jU (by decide),BN U (by decide) _ (.tree k) (by omega) aa w];show _::(bl 58++_)=_;rw[nr (by decide)];unfold Ds.lC Ds.iH;simp
   rw[this];simp
  |eR fs=>
   obtain⟨a,b,x,v,rfl,hx,hv⟩:=inv;simp only[D.dep,Ds.dep] at L;unfold Kd.W at w;obtain⟨k',Y⟩:=Fs.ny hx;have J:=uA (Fs.uJ w.2.2.2 hx).v;have w':((fs.get x).getD .num).W:=by rw[Y];exact Fs.nv w.2.2.2 Y
   refine⟨41,by decide,?_⟩;rw[rn,BH];show dY c (gu x::tgt::((v.tk ((fs.get x).getD .num)++[dn 41])++r))=_;obtain⟨e,he,ee⟩:=U v ((fs.get x).getD .num) (by omega) hv w' 40 (dn 41::r);rw[show dY c (gu x::tgt::((v.tk ((fs.get x).getD .num)++[dn 41])++r))=_ from nu (t:=kT (sl x)) J.1,IZ,Q0j];show _++(_++40::dY 40 (v.tk ((fs.get x).getD .num)++dn 41::r))=_;rw[ee,show bl 40=[] from nq (by decide),jU (by decide)];simp[kT]
theorem D.joined {d:D}{k:Kd}(h:eA d k)(w:k.W):dY 40 (d.tk k)=d.wr k:=by
 obtain⟨e,_,J⟩:=BO d.dep d k (Q00 _) h w 40 [];rw[Q0n] at J;rw[J,nq (by decide)];simp[dY]
def o_ (t:Tk):Prop:=(∃c,c∈marks/\c≠33/\t=mkT c)\/(∃x,lB x/\t=kT x)\/(∃w:Tx,w.length<=40/\34 ∉ w/\t=o6 w)\/∃i:Int,i.natAbs<10 ^ 60/\t=mq i
def jd (p:LP):Prop:=o_ p.2/\(p.1=true->p.2=mkT 40)
theorem o_.ok {t:Tk}(h:o_ t):lA t:=by
 rcases h with⟨c,hc,_,rfl⟩|⟨x,J,rfl⟩|⟨w,h1,h2,rfl⟩|⟨i,hi,rfl⟩
 . exact IM hc
 . exact IP J
 . exact IQ h1 h2
 . exact(uy hi).1
def BP (t:Tk):Prop:=t.tx≠[]/\t.tx.head?≠some 33/\t.tx.length<=61
theorem Jb {i:Int}(h:i.natAbs<10 ^ 60):(gz i).head?≠some 33:=by
 intro z;by_cases J:0<=i
 . obtain⟨m,rfl⟩:=Q1z J;have e:gz ((m:Nat):Int)=(Nat.toDigits 10 m).map Char.toNat:=W.KIN.signs_num m;obtain⟨L,U,Y⟩:=o7 m (by simpa using h);rw[e] at z;have:=(L 33 (Q3i z)).2;omega
 . obtain⟨m,rfl⟩:∃m:Nat,i= -((m+1:Nat):Int):=⟨i.natAbs - 1,by omega⟩;rw[uw m] at z
   cases z
theorem o_.tt {t:Tk}(h:o_ t):BP t:=by
 rcases h with⟨c,hc,L,rfl⟩|⟨x,J,rfl⟩|⟨w,h1,h2,rfl⟩|⟨i,hi,rfl⟩
 . exact⟨Q12 _ _,λe=>by injection e with e;exact L e,by show 1<=61;decide⟩
 . refine⟨J.1,λe=>?_,Q07 J.2.1 (by decide)⟩;have:=J.2.2 33 (Q3i e);exact absurd this (by decide)
 . refine⟨Q12 _ _,λe=>by injection e with e;exact absurd e (by decide),?_⟩;show(34::(w++[34])).length<=61;simp only[Q02,Q01,Q0l];omega
 . exact⟨(uy hi).2.1,Jb hi,(uy hi).2.2⟩
theorem Jc {c:Nat}(h:c∈marks/\c≠33):jd (dn c):=⟨.inl ⟨c,h.1,h.2,rfl⟩,λz=>by cases z⟩
theorem BQ {x:Str}(h:jM x):jd (gu x):=⟨.inr (.inl ⟨_,h.v,rfl⟩),λz=>by cases z⟩
theorem Jd:jd tgt:=⟨.inl ⟨40,by decide,by decide,rfl⟩,λ_=>rfl⟩
def Alt:List LP->Prop
 |[]=>True
 |[_]=>True
 |a::b::r=>(a.2.sort=2\/b.2.sort=2)/\Alt (b::r)
theorem BR {a:LP}{r:List LP}(h:a.2.sort=2)(J:Alt r):Alt (a::r):=by
 cases r with
 |nil=>trivial
 |cons b q=>exact⟨.inl h,J⟩
theorem BS {a b:LP}{r:List LP}(h:b.2.sort=2)(J:Alt (b::r)):Alt (a::b::r):=⟨.inr h,J⟩
theorem BU:∀{a b:List LP},Alt a->Alt b->(∀p,b.head? =some p->p.2.sort=2)->Alt (a++b)
 |[],b,_,J,_=>J
 |[x],[],_,_,_=>trivial
 |[x],y::r,_,J,h=>⟨.inr (h y rfl),J⟩
 |x::y::r,b,L,J,h=>⟨L.1,BU L.2 J h⟩
def nz (b:List LP):Prop:=∀p,b.head? =some p->p.2.sort=2
theorem lD {c:Nat}{r:List LP}:nz (dn c::r):=λp e=>by cases e;rfl
theorem BV:nz []:=λp e=>by cases e
def Gp (l:List LP):Prop:=(∀p∈l,jd p)/\Alt l
theorem Gp.nil:Gp []:=⟨λp hp=>(nomatch hp),trivial⟩
theorem Gp.mk {c:Nat}{r:List LP}(h:c∈marks/\c≠33)(J:Gp r):Gp (dn c::r):=⟨λp hp=>(List.mem_cons.mp hp).elim (λe=>by rw[e];exact Jc h) (J.1 p),BR rfl J.2⟩
theorem Gp.nm {c:Nat}{x:Str}{r:List LP}(L:jM x)(J:Gp (dn c::r)):Gp (gu x::dn c::r):=⟨λp hp=>(List.mem_cons.mp hp).elim (λe=>by rw[e];exact BQ L) (J.1 p),BS rfl J.2⟩
theorem Gp.app {a b:List LP}(J:Gp a)(L:Gp b)(h:nz b):Gp (a++b):=⟨λp hp=>(List.mem_append.mp hp).elim (J.1 p) (L.1 p),BU J.2 L.2 h⟩
theorem Gp.one {p:LP}(h:jd p):Gp [p]:=⟨λq J=>by rw[List.mem_singleton.mp J];exact h,trivial⟩
theorem BW (m:Ds)(fs:Fs):nz (m.fJ fs):=by
 unfold Ds.fJ;split
 . exact lD
 . exact BV
theorem BX (m:Ds)(k:Kd):nz (m.gv k):=by
 unfold Ds.gv;split
 . exact BV
 . exact lD
def pd (n:Nat):Prop:=∀(d:D) (k:Kd),d.dep<=n->eA d k->k.W->Gp (d.tk k)
section
variable {n:Nat}
theorem BY (J:pd n):∀(m:Ds) (fs:Fs),m.dep<=n->d4 m fs->fs.W->Gp (m.fJ fs)
 | .nil,fs,_,h,_=>by unfold Ds.fJ;exact Gp.nil
 | .cons y d q,.nil,_,h,_=>by unfold d4 at h;exact h.elim
 | .cons y d q,.cons x k fs,L,h,w=>by
   unfold d4 at h;unfold Fs.W at w;unfold Ds.dep at L;unfold Ds.fJ;exact Gp.mk (by decide) (Gp.nm w.2.1 (Gp.mk (by decide) (Gp.app (J d k (by omega) h.2.1 w.1) (BY J q fs (by omega) h.2.2 w.2.2) (BW _ _))))
theorem Je (J:pd n):∀(m:Ds) (fs:Fs),m.dep<=n->d4 m fs->fs.W->Gp (m.fY fs)
 | .nil,fs,_,h,_=>by unfold Ds.fY;exact Gp.nil
 | .cons y d q,.nil,_,h,_=>by unfold d4 at h;exact h.elim
 | .cons y d q,.cons x k fs,L,h,w=>by
   unfold d4 at h;unfold Fs.W at w;unfold Ds.dep at L;unfold Ds.fY;exact Gp.nm w.2.1 (Gp.mk (by decide) (Gp.app (J d k (by omega) h.2.1 w.1) (BY J q fs (by omega) h.2.2 w.2.2) (BW _ _)))
theorem BZ (J:pd n):∀(xs:Ds) (k:Kd),xs.dep<=n->eP xs k->k.W->Gp (xs.gv k)
 | .nil,k,_,h,_=>by unfold Ds.gv;exact Gp.nil
 | .cons y d q,k,L,h,w=>by
   unfold eP at h;unfold Ds.dep at L;unfold Ds.gv;exact Gp.mk (by decide) (Gp.app (J d k (by omega) h.1 w) (BZ J q k (by omega) h.2 w) (BX _ _))
theorem B0 (J:pd n)(xs:Ds)(k:Kd)(L:xs.dep<=n)(h:eP xs k)(w:k.W):Gp (xs.er k):=by
 cases xs with
 |nil=>unfold Ds.er;exact Gp.nil
 |cons y d q=>
  unfold eP at h;unfold Ds.dep at L;unfold Ds.er;exact Gp.app (J d k (by omega) h.1 w) (BZ J q k (by omega) h.2 w) (BX _ _)
end
theorem B1:∀n:Nat,pd n
 |0=>λd k J=>absurd d.gB (by omega)
 |n+1=>λd k J h w=>by
  have L:=B1 n;have inv:=h.inv
  cases k with
  |num=>
   obtain⟨i,rfl,hi⟩:=inv;unfold D.tk;exact Gp.one ⟨.inr (.inr (.inr ⟨i,hi,rfl⟩)),λz=>by cases z⟩
  |eM=>
   obtain⟨x,rfl,U⟩:=inv;unfold D.tk;exact Gp.one ⟨.inr (.inr (.inl ⟨_,U.1,U.2,rfl⟩)),λz=>by cases z⟩
  |dG fs=>
   obtain⟨m,rfl,hm⟩:=inv;unfold D.dep at J;unfold Kd.W at w;unfold D.tk;exact Gp.mk (by decide) (Gp.app (Je L m fs (by omega) hm w.2.2) (Gp.mk (by decide) Gp.nil) lD)
  |rows key ab fs=>
   obtain⟨xs,rfl,hm⟩:=inv;unfold D.dep at J;unfold Kd.W at w;unfold D.tk;exact Gp.mk (by decide) (Gp.app (B0 L xs (.dG fs) (by omega) hm (by unfold Kd.W;exact⟨w.1,w.2.1,w.2.2.1⟩)) (Gp.mk (by decide) Gp.nil) lD)
  |tree k=>
   obtain⟨a,b,t,as,rfl,ht,aa⟩:=inv;simp only[D.dep,Ds.dep] at J;have w':k.W:=by unfold Kd.W at w;exact w
   rw[rm];have e1:Gp (as.er (.tree k)++[dn 62]):=Gp.app (B0 L as (.tree k) (by omega) aa w) (Gp.mk (by decide) Gp.nil) lD
   have e2:Gp (as.col++(as.er (.tree k)++[dn 62]))/\nz (as.col++(as.er (.tree k)++[dn 62])):=by
    cases as with
    |nil=>unfold Ds.col Ds.er;exact⟨Gp.mk (by decide) Gp.nil,lD⟩
    |cons y d q=>unfold Ds.col;exact⟨Gp.mk (by decide) e1,lD⟩
   exact Gp.mk (by decide) (Gp.app (L t k (by omega) ht w') e2.1 e2.2)
  |eR fs=>
   obtain⟨a,b,x,v,rfl,U,hv⟩:=inv;simp only[D.dep,Ds.dep] at J;unfold Kd.W at w;obtain⟨k',Y⟩:=Fs.ny U;have w':((fs.get x).getD .num).W:=by rw[Y];exact Fs.nv w.2.2.2 Y
   rw[rn];have e1:Gp (v.tk ((fs.get x).getD .num)++[dn 41]):=Gp.app (L v _ (by omega) hv w') (Gp.mk (by decide) Gp.nil) lD;exact⟨λp hp=>(List.mem_cons.mp hp).elim (λe=>by rw[e];exact BQ (Fs.uJ w.2.2.2 U)) λhp=>(List.mem_cons.mp hp).elim (λe=>by rw[e];exact Jd) (e1.1 p),BS rfl (BR rfl e1.2)⟩
theorem D.gp {d:D}{k:Kd}(h:eA d k)(w:k.W):Gp (d.tk k):=B1 d.dep d k (Q00 _) h w
theorem B4:∀(zs:List (Nat × Tk)) (l:List LP),zs.map (·.2)=l.map (·.2)->Alt l->rl zs
 |[],_,_,_=>trivial
 |[_],_,_,_=>trivial
 |z::u::r,[],e,_=>by simp at e
 |z::u::r,[p],e,_=>by simp at e
 |z::u::r,p::q::l,e,h=>by
  have e:z.2::u.2::r.map (·.2)=p.2::q.2::l.map (·.2):=e;injection e with e1 J
  refine⟨?_,B4 (u::r) (q::l) J h.2⟩;injection J with J _
  rw[e1,J];rcases h.1 with g|g
  . exact .inl (by rw[g];decide)
  . exact .inr (.inl g)
theorem Jf (ns:List Int)(n:Int):(num ns n).natAbs<10 ^ 60:=by
 unfold num;split
 . have:0<=nx ns n / 3 % 7:=Q0i _ (by decide);have:nx ns n / 3 % 7<7:=Q0h _ (by decide);have:(10:Nat) ^ 60 > 10:=by decide
   omega
 . have h1:=Q0i (cellAt ns n % 10 ^ 40+nx ns n * 10 ^ 29) (b:=2 * 10 ^ 40) (by decide);have h2:=Q0h (cellAt ns n % 10 ^ 40+nx ns n * 10 ^ 29) (b:=2 * 10 ^ 40) (by decide);generalize (cellAt ns n % 10 ^ 40+nx ns n * 10 ^ 29) % (2 * 10 ^ 40)=z at h1 h2;have e:(10:Nat) ^ 60=1000000000000000000000000000000000000000000000000000000000000:=by decide
   have J:(10:Int) ^ 40=10000000000000000000000000000000000000000:=by decide
   rw[e];rw[J] at h2 ⊢;omega
theorem Jg:∀i:Nat,i<93->iV.cps.toList.getD i 0≠34:=by decide +kernel
theorem B7 (m:Int):∀k:Nat,(sl (jw m k)).length=k/\34 ∉ sl (jw m k)
 |0=>by
  show(sl ("":Str)).length=0/\34 ∉ sl ("":Str)
  decide +kernel
 |k+1=>by
  obtain⟨h1,h2⟩:=B7 m k
  have e:sl (jw m (k+1))=sl (jw m k)++[iV.cps.toList.getD ((m / 145+(k:Int) * (k:Int) * (m / 7 % 3)) % 93).toNat 0]:=by
   show(jw m k++(⟨#[_]⟩:Str)).cps.toList=_;show((jw m k).cps++#[_]).toList=_;rw[Q3h]
  rw[e];refine⟨by rw[Q01,h1];rfl,λz=>?_⟩;rcases List.mem_append.mp z with z|z
  . exact h2 z
  . have a:=Q0i (m / 145+(k:Int) * (k:Int) * (m / 7 % 3)) (b:=93) (by decide);have b:=Q0h (m / 145+(k:Int) * (k:Int) * (m / 7 % 3)) (b:=93) (by decide);exact Jg _ (by omega) (List.mem_singleton.mp z).symm
theorem Jh (ns:List Int)(n:Int):(sl (eM ns n)).length<=40/\34 ∉ sl (eM ns n):=by
 unfold eM;have:=B7 (nx ns n) (if nx ns n / 5 % 29=0 then 40 else(nx ns n % 5).toNat);refine⟨?_,this.2⟩;rw[this.1];split
 . exact Q00 _
 . have:=Q0h (nx ns n) (b:=5) (by decide);omega
theorem B8 {g:Int->D × Int}{k:Kd}(J:∀n,eA (g n).1 k):∀(m:Nat) (n:Int),eP (times g m n).1 k
 |0,n=>by unfold times eP;trivial
 |m+1,n=>by unfold times;rw[eP];exact⟨J n,B8 J m _⟩
theorem B9 {ns:List Int}{f:Nat->Int->D × Int}{k:Kd}(L:∀J n,J<8->eA (f J n).1 k):∀(fu J:Nat) (n:Int),J<8->J<2 ^ fu->eA (fh ns f (fu+1) J n).1 (.tree k)
 |fu,J,n,Y,U=>by
  unfold fh;rw[BI];refine⟨L _ _ (by omega),?_⟩
  cases fu with
  |zero=>
   have e:J=0:=by omega
   subst e
   have:(nx ns ((f (0 / 2) n).2+1) % (((0:Nat):Int)+1)).toNat=0:=by
    have:=Q0h (nx ns ((f (0 / 2) n).2+1)) (b:=((0:Nat):Int)+1) (by decide);omega
   rw[this];unfold times eP;trivial
  |succ fu=>exact B8 (λn=>B9 L fu (J / 2) n (by omega) (by rw[Q2e] at U;omega)) _ _
theorem B_ {fs:Fs}:∀{l:List Ds},(∀m∈l,d4 m fs)->eP (iE l) (.dG fs)
 |[],_=>by unfold iE eP;trivial
 |m::r,h=>by
  unfold iE;rw[eP,eA];exact⟨h m Q05,B_ λq J=>h q (Q0d _ J)⟩
theorem Fs.get_mem:∀{fs:Fs}{x:Str}{k:Kd},fs.get x=some k->x∈fs.names
 | .nil,_,_,h=>by cases h
 | .cons y q r,x,k,h=>by
   have h:(if x=y then some q else r.get x)=some k:=h;split at h
   . rename_i e;rw[e];exact Q05
   . exact Q0d _ (Fs.get_mem h)
mutual
theorem rq (ns:List Int):∀(k:Kd),k.W->∀(J:Nat) (n:Int),J<8->eA (val ns k J n).1 k
 | .num,_,J,n,_=>by unfold val;rw[eA];exact Jf _ _
 | .eM,_,J,n,_=>by unfold val;rw[eA];exact Jh _ _
 | .dG fs,w,J,n,h=>by
   unfold Kd.W at w;unfold val;rw[eA];exact uK ns fs w.2.2 J n h
 | .rows key U fs,w,J,n,h=>by
   unfold Kd.W at w;unfold val;rw[eA];refine B_ λm Y=>?_;exact l9 (R:=λm=>d4 m fs) (λn=>uK ns fs w.2.2.1 (J / 2) n (by omega)) _ [] _ (λ_ h=>nomatch h) m ((ko key U _).mem_iff.mp Y)
 | .tree k,w,J,n,h=>by
   unfold Kd.W at w;unfold val;exact B9 (λJ n h=>rq ns k w J n h) 3 J n h (by omega)
 | .eR fs,w,J,n,h=>by
   unfold Kd.W at w;unfold val;have L:(0:Int)<(fs.names.length:Int):=by omega
   have:=Q0h (nx ns (n+1)) L;have h0:=Q0i (nx ns (n+1)) (b:=(fs.names.length:Int)) (by omega);obtain⟨x,v,e,k,hk,hv⟩:=Ca ns fs w.2.2.2 w.1 (nx ns (n+1) % (fs.names.length:Int)).toNat J (n+1) h (by omega);rw[e,IY];exact⟨Fs.get_mem hk,by rw[hk];exact hv⟩
theorem uK (ns:List Int):∀(fs:Fs),fs.W->∀(J:Nat) (n:Int),J<8->d4 (dW ns fs J n).1 fs
 | .nil,_,J,n,_=>by unfold dW d4;trivial
 | .cons x k r,w,J,n,h=>by
   unfold Fs.W at w;unfold dW;rw[d4];exact⟨rfl,rq ns k w.1 J n h,uK ns r w.2.2 J _ h⟩
theorem Ca (ns:List Int):∀(fs:Fs),fs.W->fs.names.Nodup->∀(i J:Nat) (n:Int),J<8->i<fs.names.length->∃x v,(gg ns fs i J n).1=pairD (.str x) v/\∃k,fs.get x=some k/\eA v k
 | .nil,_,_,i,J,n,_,hi=>by simp[Fs.names] at hi
 | .cons x k r,w,L,0,J,n,h,_=>by
   unfold Fs.W at w;refine⟨x,(val ns k J n).1,by unfold gg;rfl,k,by simp[Fs.get],rq ns k w.1 J n h⟩
 | .cons x k r,w,L,i+1,J,n,h,hi=>by
   unfold Fs.W at w;have L:(x::r.names).Nodup:=L;obtain⟨Y,n2⟩:=List.nodup_cons.mp L;obtain⟨y,v,e,q,U,hv⟩:=Ca ns r w.2.2 n2 i J n h (by simpa[Fs.names] using hi);refine⟨y,v,by unfold gg;exact e,q,?_,hv⟩;show(if y=x then some k else r.get y)=some q;rw[if_neg λz=>Y (by rw[<-z];exact Fs.get_mem U)];exact U
end
noncomputable def D.isStr:D->Bool
 | .str _=>true
 |_=>false
noncomputable def nA (b:Bool):Ds->Ds
 | .nil=>.nil
 | .cons x d r=>if b=true then .cons "" d (.cons x d r) else .cons x d r
mutual
noncomputable def D.eQ (b:Bool):D->D
 | .lst xs=>.lst (nA b (xs.gw b .nil))
 | .dct m=>.dct (m.gH b)
 | .tup xs=>.tup (xs.nB b)
 | .int i=>.int i
 | .str x=>.str x
noncomputable def Ds.gw (b:Bool):Ds->Ds->Ds
 | .nil,J=>J
 | .cons _ d r,J=>r.gw b (.cons "" (d.eQ b) J)
noncomputable def Ds.gH (b:Bool):Ds->Ds
 | .nil=>.nil
 | .cons x d r=>.cons x (d.eQ b) (r.gH b)
noncomputable def Ds.nB (b:Bool):Ds->Ds
 | .cons a t (.cons c (.lst as) .nil)=>.cons a (if t.isStr=true then t else t.eQ b) (.cons c (.lst as) .nil)
 |xs=>xs
end
def qN (b:Bool) (n:Nat):Prop:=∀(d:D) (k:Kd),d.dep<=n->eA d k->eA (d.eQ b) k/\(d.eQ b).dep<=d.dep
section
variable {n:Nat}{b:Bool}
theorem Cb (U:qN b n):∀(xs:Ds) (k:Kd) (J:Ds) (e:Nat),xs.dep<=n->eP xs k->eP J k->xs.dep<=e->J.dep<=e->eP (xs.gw b J) k/\(xs.gw b J).dep<=e
 | .nil,k,J,e,_,_,L,_,Y=>by unfold Ds.gw;exact⟨L,Y⟩
 | .cons x d r,k,J,e,hd,h,L,h1,h2=>by
   rw[eP] at h;unfold Ds.dep at hd h1;unfold Ds.gw;obtain⟨i1,i2⟩:=U d k (by omega) h.1;refine Cb U r k _ e (by omega) h.2 (by rw[eP];exact⟨i1,L⟩) (by omega) ?_;unfold Ds.dep;omega
theorem Cc (J:qN b n):∀(m:Ds) (fs:Fs),m.dep<=n->d4 m fs->d4 (m.gH b) fs/\(m.gH b).dep<=m.dep
 | .nil,.nil,_,_=>by unfold Ds.gH;exact⟨by unfold d4;trivial,Q00 _⟩
 | .nil,.cons _ _ _,_,h=>by unfold d4 at h;exact h.elim
 | .cons y d r,.nil,_,h=>by unfold d4 at h;exact h.elim
 | .cons y d r,.cons x k fs,L,h=>by
   rw[d4] at h;unfold Ds.dep at L;unfold Ds.gH;obtain⟨U,i2⟩:=J d k (by omega) h.2.1;obtain⟨Y,j2⟩:=Cc J r fs (by omega) h.2.2;refine⟨by rw[d4];exact⟨h.1,U,Y⟩,?_⟩;unfold Ds.dep;omega
end
theorem Ji {b:Bool}{xs:Ds}{k:Kd}(h:eP xs k):eP (nA b xs) k/\(nA b xs).dep<=xs.dep:=by
 cases xs with
 |nil=>exact⟨h,Q00 _⟩
 |cons x d r=>
  have h':=h;rw[eP] at h';show eP (if b=true then .cons "" d (.cons x d r) else .cons x d r) k/\(if b=true then Ds.cons "" d (.cons x d r) else .cons x d r).dep<=_;by_cases J:b=true
  . rw[if_pos J];refine⟨by rw[eP];exact⟨h'.1,h⟩,?_⟩;simp only[Ds.dep];omega
  . rw[if_neg J];exact⟨h,Q00 _⟩
theorem Ce (b:Bool):∀n:Nat,qN b n
 |0=>λd k J=>absurd d.gB (by omega)
 |n+1=>λd k J h=>by
  have L:=Ce b n;have inv:=h.inv
  cases k with
  |num=>
   obtain⟨i,rfl,hi⟩:=inv;unfold D.eQ;exact⟨h,Q00 _⟩
  |eM=>
   obtain⟨x,rfl,hx⟩:=inv;unfold D.eQ;exact⟨h,Q00 _⟩
  |dG fs=>
   obtain⟨m,rfl,U⟩:=inv;unfold D.dep at J;obtain⟨Y,j2⟩:=Cc L m fs (by omega) U;unfold D.eQ;refine⟨by rw[eA];exact Y,?_⟩;simp only[D.dep];omega
  |rows key ab fs=>
   obtain⟨xs,rfl,U⟩:=inv;unfold D.dep at J;obtain⟨Y,j2⟩:=Cb L xs (.dG fs) .nil xs.dep (by omega) U (by unfold eP;trivial) (Q00 _) (by simp[Ds.dep]);obtain⟨k1,k2⟩:=Ji (b:=b) Y;unfold D.eQ;refine⟨by rw[eA];exact k1,?_⟩;simp only[D.dep];omega
  |tree k=>
   obtain⟨x,y,t,as,rfl,ht,aa⟩:=inv;have ac:=J;simp only[D.dep,Ds.dep] at J;obtain⟨i1,i2⟩:=L t k (by omega) ht;unfold D.eQ Ds.nB;by_cases e:t.isStr=true
   . rw[if_pos e];exact⟨h,Q00 _⟩
   . rw[if_neg e];refine⟨by rw[BI];exact⟨i1,aa⟩,?_⟩;simp only[D.dep,Ds.dep];omega
  |eR fs=>
   obtain⟨x,y,z,v,rfl,hx,hv⟩:=inv
   have e:(D.tup (.cons x (.str z) (.cons y v .nil))).eQ b=.tup (.cons x (.str z) (.cons y v .nil)):=by
    unfold D.eQ
    cases v <;> (unfold Ds.nB;rfl)
   rw[e];exact⟨h,Q00 _⟩
theorem D.Jj {b:Bool}{d:D}{k:Kd}(h:eA d k):eA (d.eQ b) k/\(d.eQ b).dep<=d.dep:=Ce b d.dep d k (Q00 _) h
mutual
noncomputable def D.cn (w:Nat):D->Nat
 | .int _=>1
 | .str _=>1
 | .dct m=>2+m.cn w 3
 | .lst xs=>2+w * xs.cn w 1
 | .tup xs=>4+xs.cn w 0
noncomputable def Ds.cn (w:Nat):Ds->Nat->Nat
 | .nil,_=>0
 | .cons _ d r,e=>e+d.cn w+r.cn w e
end
theorem Jk (m:Ds)(fs:Fs):(m.fY fs).length<=(m.fJ fs).length:=by
 cases m with
 |nil=>unfold Ds.fY Ds.fJ;exact Q00 _
 |cons y d r=>
  cases fs with
  |nil=>unfold Ds.fY Ds.fJ;exact Q00 _
  |cons x k fs=>rw[Ds.fY,Ds.fJ];simp only[Q02];omega
theorem Cf (xs:Ds)(k:Kd):(xs.er k).length<=(xs.gv k).length:=by
 cases xs with
 |nil=>unfold Ds.er Ds.gv;exact Q00 _
 |cons y d r=>rw[Ds.er,Ds.gv];simp only[Q02];omega
def uL (n:Nat):Prop:=∀(d:D) (k:Kd),d.dep<=n->(d.tk k).length<=d.cn 1
section
variable {n:Nat}
theorem Cg (J:uL n):∀(m:Ds) (fs:Fs),m.dep<=n->(m.fJ fs).length<=m.cn 1 3
 | .nil,fs,_=>by unfold Ds.fJ;exact Q06 _
 | .cons y d q,.nil,_=>by unfold Ds.fJ;exact Q06 _
 | .cons y d q,.cons x k fs,L=>by
   unfold Ds.dep at L;have a:=J d k (by omega);have b:=Cg J q fs (by omega);rw[Ds.fJ,Ds.cn];simp only[Q02,Q01];omega
theorem uM (J:uL n):∀(xs:Ds) (k:Kd),xs.dep<=n->(xs.gv k).length<=xs.cn 1 1
 | .nil,k,_=>by unfold Ds.gv;exact Q06 _
 | .cons y d q,k,L=>by
   unfold Ds.dep at L;have a:=J d k (by omega);have b:=uM J q k (by omega);rw[Ds.gv,Ds.cn];simp only[Q02,Q01];omega
end
theorem uN:∀n:Nat,uL n
 |0=>λd k J=>absurd d.gB (by omega)
 |n+1=>λd k J=>by
  have L:=uN n;unfold D.tk;split
  . exact Q00 _
  . exact Q00 _
  . rename_i m fs;unfold D.dep at J;have a:=Jk m fs;have b:=Cg L m fs (by omega);rw[D.cn];simp only[Q02,Q01,Q0l];omega
  . rename_i xs _ _ fs;unfold D.dep at J;have a:=Cf xs (.dG fs);have b:=uM L xs (.dG fs) (by omega);rw[D.cn];simp only[Q02,Q01,Q0l];omega
  . rename_i xs k;unfold Ds.uD;split
    . rename_i _ t _ as;simp only[D.dep,Ds.dep] at J;have a:=L t k (by omega);have b:=Cf as (.tree k);have c:=uM L as (.tree k) (by omega);have e:as.col.length<=1:=by cases as <;> simp[Ds.col]
      simp only[D.cn,Ds.cn,Q02,Q01,Q0l];omega
    . exact Q06 _
  . rename_i xs fs;unfold Ds.uE;split
    . rename_i _ x _ d;simp only[D.dep,Ds.dep] at J;have a:=L d ((fs.get x).getD .num) (by omega);simp only[D.cn,Ds.cn,Q02,Q01,Q0l];omega
    . exact Q06 _
  . exact Q06 _
mutual
theorem D.jV:∀d:D,d.cn 1<=d.cn 2
 | .int _=>Q00 _
 | .str _=>Q00 _
 | .dct m=>by have:=Ds.jV m 3;simp only[D.cn];omega
 | .lst xs=>by have:=Ds.jV xs 1;simp only[D.cn];omega
 | .tup xs=>by have:=Ds.jV xs 0;simp only[D.cn];omega
theorem Ds.jV:∀(xs:Ds) (e:Nat),xs.cn 1 e<=xs.cn 2 e
 | .nil,_=>Q00 _
 | .cons _ d r,e=>by have:=D.jV d;have:=Ds.jV r e;simp only[Ds.cn];omega
end
theorem Jl {b:Bool}(xs:Ds):(nA b xs).cn 1 1<=2 * xs.cn 1 1:=by
 cases xs with
 |nil=>exact Q06 _
 |cons x d r=>
  show(if b=true then Ds.cons "" d (.cons x d r) else .cons x d r).cn 1 1<=_;by_cases J:b=true
  . rw[if_pos J];simp only[Ds.cn];omega
  . rw[if_neg J];omega
def uO (b:Bool) (n:Nat):Prop:=∀d:D,d.dep<=n->(d.eQ b).cn 1<=d.cn 2
section
variable {n:Nat}{b:Bool}
theorem Ci (L:uO b n):∀(xs J:Ds),xs.dep<=n->(xs.gw b J).cn 1 1<=xs.cn 2 1+J.cn 1 1
 | .nil,J,_=>by unfold Ds.gw;simp[Ds.cn]
 | .cons x d r,J,U=>by
   unfold Ds.dep at U;unfold Ds.gw;have a:=L d (by omega);have c:=Ci L r (.cons "" (d.eQ b) J) (by omega);simp only[Ds.cn] at c ⊢;omega
theorem Cj (J:uO b n):∀(m:Ds),m.dep<=n->(m.gH b).cn 1 3<=m.cn 2 3
 | .nil,_=>by unfold Ds.gH;exact Q00 _
 | .cons x d r,L=>by
   unfold Ds.dep at L;unfold Ds.gH;have a:=J d (by omega);have c:=Cj J r (by omega);simp only[Ds.cn];omega
end
theorem uP (b:Bool):∀n:Nat,uO b n
 |0=>λd J=>absurd d.gB (by omega)
 |n+1=>λd J=>by
  have L:=uP b n
  cases d with
  |int i=>unfold D.eQ;exact Q00 _
  |str x=>unfold D.eQ;exact Q00 _
  |dct m=>
   unfold D.dep at J;have:=Cj L m (by omega);unfold D.eQ;simp only[D.cn];omega
  |lst xs=>
   unfold D.dep at J;have a:=Ci L xs .nil (by omega);have c:=Jl (b:=b) (xs.gw b .nil);unfold D.eQ;simp only[D.cn,Ds.cn] at a ⊢;omega
  |tup xs=>
   unfold D.dep at J;have c:=Ds.jV xs 0;unfold D.eQ;unfold Ds.nB;split
   . rename_i x t y as;simp only[D.dep,Ds.dep] at J;have a:=L t (by omega);have e:=D.jV t;have U:=Ds.jV as 1;split
     . simp only[D.cn,Ds.cn] at c ⊢;omega
     . simp only[D.cn,Ds.cn] at c ⊢;omega
   . simp only[D.cn];omega
noncomputable def TB (f:Nat->Nat):Nat->Nat->Nat
 |0,_=>1
 |fu+1,J=>6+f (J / 2)+2 * (J * (1+TB f fu (J / 2)))
noncomputable def PB:Nat->Nat->Nat
 |0,_=>2
 |d+1,J=>max (2+3 * (3+PB d J)) (max (2+2 * (J * (3+3 * (3+PB d (J / 2))))) (max (TB (PB d) 4 J) (5+PB d J)))
theorem Ck (d J:Nat):1<=PB d J:=by
 cases d with
 |zero=>exact Q15 _
 |succ d=>unfold PB;omega
theorem Cm {g:Int->D × Int}{N:Nat}(J:∀n,(g n).1.cn 2<=N):∀(m:Nat) (n:Int),(times g m n).1.cn 2 1<=m * (1+N)
 |0,n=>by unfold times;exact Q06 _
 |m+1,n=>by
  have a:=J n;have b:=Cm J m (g n).2;unfold times;simp only[Ds.cn];rw[Q1f];omega
theorem Cn (z:Int)(J:Nat):(z % ((J:Int)+1)).toNat<=J:=by
 have:=Q0h z (b:=(J:Int)+1) (by omega);omega
theorem Co {ns:List Int}{f:Nat->Int->D × Int}{N:Nat->Nat}(L:∀J n,(f J n).1.cn 2<=N J):∀(fu J:Nat) (n:Int),(fh ns f fu J n).1.cn 2<=TB N fu J
 |0,J,n=>by unfold fh TB;exact Q00 _
 |fu+1,J,n=>by
  unfold fh TB;have a:=L (J / 2) n;have b:=Cm (g:=fh ns f fu (J / 2)) (λn=>Co (ns:=ns) L fu (J / 2) n) (nx ns ((f (J / 2) n).2+1) % ((J:Int)+1)).toNat ((f (J / 2) n).2+1);have c:(nx ns ((f (J / 2) n).2+1) % ((J:Int)+1)).toNat * (1+TB N fu (J / 2))<=J * (1+TB N fu (J / 2)):=Q1 _ (Cn _ _);simp only[D.cn,Ds.cn];omega
theorem Cp {B:Nat}:∀{l:List Ds},(∀m∈l,m.cn 2 3<=B)->(iE l).cn 2 1<=l.length * (3+B)
 |[],_=>Q06 _
 |m::r,h=>by
  have a:=h m Q05;have b:=Cp (l:=r) λq J=>h q (Q0d _ J);unfold iE;simp only[Ds.cn,D.cn,Q02];rw[Q1f];omega
theorem uQ {g:Int->Ds × Int}{key:Str}:∀(m:Nat) (J:List Ds) (n:Int),(eF g key m J n).1.length<=J.length+m
 |0,J,n=>Q00 _
 |m+1,J,n=>by
  unfold eF;split
  . have:=uQ (g:=g) (key:=key) m J (g n).2;omega
  . have:=uQ (g:=g) (key:=key) m (J++[(g n).1]) (g n).2;rw[Q01,Q1o] at this;omega
def uR (ns:List Int) (d:Nat):Prop:=∀(k:Kd),k.W->k.dep<=d+1->∀(J:Nat) (n:Int),(val ns k J n).1.cn 2<=PB d J
theorem uS {ns:List Int}{d:Nat}(L:uR ns d):∀(fs:Fs),fs.W->fs.dep<=d+1->∀(J:Nat) (n:Int),(dW ns fs J n).1.cn 2 3<=fs.names.length * (3+PB d J)
 | .nil,_,_,J,n=>by unfold dW;exact Q06 _
 | .cons x k r,w,U,J,n=>by
   unfold Fs.W at w;unfold Fs.dep at U;have a:=L k w.1 (by omega) J n;have b:=uS L r w.2.2 (by omega) J (val ns k J n).2;unfold dW;simp only[Ds.cn,Fs.names,Q02];rw[Q1f];omega
theorem Cq {ns:List Int}{d:Nat}(U:uR ns d):∀(fs:Fs),fs.W->fs.dep<=d+1->∀(i J:Nat) (n:Int),(gg ns fs i J n).1.cn 2<=5+PB d J
 | .nil,_,_,i,J,n=>by unfold gg;show 1<=_;omega
 | .cons x k r,w,L,0,J,n=>by
   unfold Fs.W at w;unfold Fs.dep at L;have a:=U k w.1 (by omega) J n;unfold gg;simp only[D.cn,Ds.cn];omega
 | .cons x k r,w,L,i+1,J,n=>by
   unfold Fs.W at w;unfold Fs.dep at L;unfold gg;exact Cq U r w.2.2 (by omega) i J n
theorem Cr (ns:List Int):∀d:Nat,uR ns d
 |0=>λk w L J n=>by
  cases k with
  |num=>unfold val;exact Q15 _
  |eM=>unfold val;exact Q15 _
  |dG fs=>
   unfold Kd.dep at L
   cases fs with
   |nil=>unfold val dW;exact Q00 _
   |cons x k r=>unfold Fs.dep at L;have:=k.gB;omega
  |rows key U fs=>
   unfold Kd.dep at L;unfold Kd.W at w
   cases fs with
   |nil=>obtain⟨k,hk,_⟩:=w.2.2.2.1;cases hk
   |cons x k r=>unfold Fs.dep at L;have:=k.gB;omega
  |tree k=>unfold Kd.dep at L;have:=k.gB;omega
  |eR fs=>
   unfold Kd.dep at L;unfold Kd.W at w
   cases fs with
   |nil=>have:=w.2.2.1;simp[Fs.names] at this
   |cons x k r=>unfold Fs.dep at L;have:=k.gB;omega
 |d+1=>λk w L J n=>by
  have Y:=Cr ns d
  cases k with
  |num=>unfold val;exact Ck _ _
  |eM=>unfold val;exact Ck _ _
  |dG fs=>
   unfold Kd.dep at L;unfold Kd.W at w;have a:=uS Y fs w.2.2 (by omega) J n;have b:fs.names.length * (3+PB d J)<=3 * (3+PB d J):=Q1 _ w.2.1;unfold val PB;simp only[D.cn];exact Q07 (Nat.add_le_add_left (Q07 a b) 2) (Nat.le_max_left _ _)
  |rows key U fs=>
   unfold Kd.dep at L;unfold Kd.W at w;have b:fs.names.length * (3+PB d (J / 2))<=3 * (3+PB d (J / 2)):=Q1 _ w.2.1;unfold val PB;simp only[D.cn]
   have e:=Cp (B:=3 * (3+PB d (J / 2))) (l:=kM key U (eF (dW ns fs (J / 2)) key (nx ns (n+1) % ((J:Int)+1)).toNat [] (n+1)).1) λm hm=>by
    refine l9 (R:=λm=>m.cn 2 3<=3 * (3+PB d (J / 2))) (λn=>?_) _ [] _ (λ_ h=>nomatch h) m ((ko key U _).mem_iff.mp hm);exact Q07 (uS Y fs w.2.2.1 (by omega) (J / 2) n) b
   have l:=uQ (g:=dW ns fs (J / 2)) (key:=key) (nx ns (n+1) % ((J:Int)+1)).toNat [] (n+1);have l2:=Cn (nx ns (n+1)) J;rw[(ko key U _).length_eq] at e;have f:(eF (dW ns fs (J / 2)) key (nx ns (n+1) % ((J:Int)+1)).toNat [] (n+1)).1.length * (3+3 * (3+PB d (J / 2)))<=J * (3+3 * (3+PB d (J / 2))):=Q1 _ (by rw[Q0l] at l;omega);exact Q07 (Nat.add_le_add_left (Nat.mul_le_mul_left 2 (Q07 e f)) 2) (Q07 (Nat.le_max_left _ _) (Nat.le_max_right _ _))
  |tree k=>
   unfold Kd.dep at L;unfold Kd.W at w;have:=Co (ns:=ns) (N:=PB d) (λJ n=>Y k w (by omega) J n) 4 J n;unfold val PB;exact Q07 this (Q07 (Nat.le_max_left _ _) (Q07 (Nat.le_max_right _ _) (Nat.le_max_right _ _)))
  |eR fs=>
   unfold Kd.dep at L;unfold Kd.W at w;have:=Cq Y fs w.2.2.2 (by omega) (nx ns (n+1) % (fs.names.length:Int)).toNat J (n+1);unfold val PB;exact Q07 this (Q07 (Nat.le_max_right _ _) (Q07 (Nat.le_max_right _ _) (Nat.le_max_right _ _)))
theorem Jm (ns:List Int){k:Kd}(w:k.W)(h:k.dep<=3)(n:Int):(val ns k 3 n).1.cn 2<=1000:=Q07 (Cr ns 2 k w h 3 n) (by decide +kernel)
theorem D.Jn {d:D}{k:Kd}(h:d.cn 2<=1000):(d.tk k).length<=1000:=Q07 (uN d.dep d k (Q00 _)) (Q07 d.jV h)
theorem D.Jo {b:Bool}{d:D}{k:Kd}(h:d.cn 2<=1000):((d.eQ b).tk k).length<=1000:=Q07 (uN _ _ k (Q00 _)) (Q07 (uP b d.dep d (Q00 _)) h)
noncomputable def PL (l:List LP):List V:=l.map λp=>SX (eO p)
theorem gI (l:List LP):(PL l).length=l.length:=Q0b _
theorem jA (a b:List LP):PL (a++b)=PL a++PL b:=Q0p
noncomputable def ky:Nat->List LP->Nat
 |c,[]=>c
 |c,p::r=>ky (lst c p.2.tx) r
theorem Cs:∀(c:Nat) (xs ys:List LP),dY c (xs++ys)=dY c xs++dY (ky c xs) ys
 |_,[],_=>rfl
 |c,p::r,ys=>by
  show _++dY (lst c p.2.tx) (r++ys)=(_++dY (lst c p.2.tx) r)++dY (ky (lst c p.2.tx) r) ys;rw[Cs,Q0j]
theorem Ct:∀(c:Nat) (xs ys:List LP),ky c (xs++ys)=ky (ky c xs) ys
 |_,[],_=>rfl
 |c,p::r,ys=>by show ky (lst c p.2.tx) (r++ys)=_;rw[Ct];rfl
theorem uT:∀{c:Nat}{xs:List LP},(∀p∈xs,p.2.tx.length<=61)->(dY c xs).length<=62 * xs.length
 |_,[],_=>Q06 _
 |c,p::r,h=>by
  have a:=h p Q05;have b:=uT (c:=lst c p.2.tx) (xs:=r) λq J=>h q (Q0d _ J);show((if(p.1 || iq c p.2.tx)=true then p.2.tx else 32::p.2.tx)++dY (lst c p.2.tx) r).length<=_;rw[Q01,Q02];split
  . omega
  . rw[Q02];omega
theorem jd.tt {p:LP}(h:jd p):BP p.2:=h.1.tt
theorem rA {p:LP}(h:p.1=false):eO p=p.2.tx:=by unfold eO;rw[h];rfl
theorem rB {p:LP}(h:jd p)(e:p.1=true):eO p=[33,40]:=by unfold eO;rw[e,h.2 e];rfl
theorem Jp {p:LP}(h:jd p):lst 0 (eO p)=lst 0 p.2.tx:=by
 cases e:p.1 with
 |false=>rw[rA e]
 |true=>rw[rB h e,h.2 e];rfl
theorem mw {p:LP}(h:jd p):eO p≠[]/\(eO p).length<=62:=by
 cases e:p.1 with
 |false=>rw[rA e];exact⟨h.tt.1,Nat.le_succ_of_le h.tt.2.2⟩
 |true=>rw[rB h e];exact⟨Q12 _ _,by decide⟩
theorem Cu:∀(r:List (Nat × Tk)) (j:Nat),spread r j=spread r 0++List.replicate j 32
 |[],j=>rfl
 |(b,t)::r,j=>by
  show List.replicate b 32++(t.tx++spread r j)=(List.replicate b 32++(t.tx++spread r 0))++_;rw[Cu r j];simp
theorem Cv:∀(r:List (Nat × Tk)) (m:Nat) (t:Tk),spread (r++[(m,t)]) 0=(spread r 0++List.replicate m 32)++t.tx
 |[],m,t=>by show List.replicate m 32++(t.tx++[])=([]++_)++_;simp
 |(b,u)::r,m,t=>by
  show List.replicate b 32++(u.tx++spread (r++[(m,t)]) 0)=((List.replicate b 32++(u.tx++spread r 0))++_)++_;rw[Cv r m t];simp
theorem Cw:∀(r:List (Nat × Tk)) (j:Nat),(∀z∈r,z.1<=2/\z.2.tx.length<=61)->(spread r j).length<=63 * r.length+j
 |[],j,_=>by show(List.replicate j 32).length<=_;rw[Q0w];omega
 |(b,t)::r,j,h=>by
  have a:=h (b,t) Q05;have c:=Cw r j λz J=>h z (Q0d _ J);show(List.replicate b 32++(t.tx++spread r j)).length<=63 * (r.length+1)+j;rw[Q01,Q01,Q0w];have L:b<=2:=a.1;have U:t.tx.length<=61:=a.2;omega
theorem Jq {x:Tx}(h:x.head?≠some 33):Txt.lstripChars (di x) "!"=di x:=by
 have e:Str.ofString "!"=⟨#[33]⟩:=by decide +kernel
 unfold Txt.lstripChars Txt.stripBy;rw[e]
 have:stripSame (λc=>(#[33]:Array Nat).contains c) true false (di x)=true:=by
  unfold stripSame stripLo stripHi;rw[if_pos rfl,if_neg (by decide)];rw[ja]
  have:x.takeWhile (λc=>(#[33]:Array Nat).contains c)=[]:=by
   cases x with
   |nil=>rfl
   |cons c r=>
    rw[Q1t];intro hc;have:c=33:=by simpa using hc
    exact h (by rw[this];rfl)
  rw[this];simp
 exact if_pos this
theorem Jr {p:LP}(h:jd p):Txt.lstripChars (di (eO p)) "!"=di p.2.tx:=by
 cases e:p.1 with
 |false=>rw[rA e];exact Jq h.tt.2.1
 |true=>rw[rB h e,h.2 e];decide +kernel
def Cy (K:W.Frag):Sp:=λvs H Q _=>∃a b l ns n,∃J:List LP,vs=[.ref a,.ref b,.ref l]/\G0 K H a b ns n/\n+2000<=1000000000000/\H l=some (.lst (PL J))/\(∀t∈J,jd t)/\J.length<=1000/\
 ∀(zs:List (Nat × Tk)) (j:Nat) (p q:Addr) (n':Int) (H':Hp),SB b H H'->H' b=some (.lst [.int n'])->n<=n'->n'<=n+2000->zs.map (·.2)=J.map (·.2)->(spread zs j).length<=64000->H' p=some (.tup [SX (spread zs j),.ref q])->Q (.ref p) H'
def Cz:Sp:=λvs H Q _=>∃l J,vs=[.ref l]/\H l=some (.lst (PL J))/\(∀t∈J,jd t)/\J.length<=1000/\∀H',Same H H'->Q (SX (dY 40 J)) H'
variable {P:Program}{w:World}{K:W.Frag}{mg:Str->Option Value}{base:Heap}
theorem Js:d9 ["_law_pieces","_law_text","_law_k","_law_piece"] ["_law_pieces"] (dN (top 41)):=eG
theorem Jt (T:Tb mg)(J:Dn K mg "_law_joined" qY (top 41) L U):dj P w K mg base dm (1) L U qY (Cz):=by
 refine J.F.ok Js λvs H Q E h=>?_;obtain⟨l,Y,rfl,hl,af,hn,fin⟩:=h;refine⟨rfl,λap A outer s nd hr hu=>?_⟩
 refine⟨_,(dh (dI 1 nd dv)
  (dh (i9 PassesOwn.never rfl (sX rfl T.oJ (a_ (pv 0) b_)) (j4 rfl (gK (e8 (i:=2) nd rfl gh) (gK (e8 (i:=3) nd rfl gh) j3))) (dq (dM (dQ eh (pv 3) dv (dP _)) (dq (dI 1 nd (dk fe (pv 1) dv))) (dq (dM (PW.pt (ig (dQ eh (pv 2) c_ (dP _)) (ig (dQ FX (pv 3) (f_ (a_ dv (a_ dv (a_ dv (a_ dv (a_ dv (a_ dv b_))))))) (by with_unfolding_all rfl)) (iw (dQ qr (ij iQ (gX (pv 0) (dk jn (pv 2) c_)) (qj qo c_) (λ_ _=>rfl)) dv (by with_unfolding_all rfl)))))) (dq (dI 1 nd (dk fe (pv 1) (pv 3)))) (dq (dI 1 nd (dk fe (dk fe (pv 1) dv) (pv 3)))))))))
  (dq (dF (pv 1))))),?_⟩
 ac_rfl
 have q1:Str.ofString " "=di [32]:=by decide +kernel
 have jl:∀i,(dY 40 (Y.take i)).length<=62000:=λi=>by
  have:=uT (c:=40) (xs:=Y.take i) λp hp=>(af p (Q2j hp)).tt.2.2;rw[Q0k] at this;have:min i Y.length<=1000:=by omega
  omega
 refine⟨_,rfl,l,rfl,⟨_,dy.of hl⟩,uC (xs:=PL Y) (λi σ H'=>Same H H'/\∃x y,σ=[some (.ref l),some (SX (dY 40 (Y.take i))),x,y]) ⟨Same.refl _,_,_,rfl⟩ ?_ ?_ ?_⟩
 . rintro i σ H' _ ⟨s1,_⟩;exact dy.of (s1 _ _ hl)
 . rintro i y σ H' pp hy ⟨s1,x0,y0,rfl⟩ ai;unfold PL at hy;rw[Q0o] at hy;obtain⟨t,ht,rfl⟩:=Option.map_eq_some_iff.mp hy;have ab:=af t (Q0x ht);have ex:Y.take (i+1)=Y.take i++[t]:=by rw[Q18,ht];rfl
   have s2:Same H' (upd H' pp (.tup [.int i,SX (eO t)])):=Same.new ai;have p2:upd H' pp (.tup [.int i,SX (eO t)]) pp=some (.tup [.int i,SX (eO t)]):=dw;have sa:=s1.trans s2;generalize upd H' pp (.tup [.int i,SX (eO t)])=H2 at *
   have ac:dY 40 (Y.take (i+1))=dY 40 (Y.take i)++(if(t.1 || iq (ky 40 (Y.take i)) t.2.tx)=true then t.2.tx else 32::t.2.tx):=by
    rw[ex,Cs];congr 1;show _++[]=_;rw[Q0n]
   have an:=jl i;have ao:=ab.tt.2.2;refine⟨pp,_,rfl,du.of p2,rfl,_,_,rfl,_,_,rfl,rfl,?_⟩;refine⟨_,rfl,rfl,_,rfl,?_⟩
   cases et:t.1 with
   |true=>
    have aj:=ab.2 et;rw[rB ab et];rw[decide_eq_true (show SX [33,40]=V.str "!(" by decide +kernel)];have ah:Str.ofString "("=di [40]:=by decide +kernel
    refine dS ⟨_,rfl,_,_,rfl,rfl,by rw[ah];exact fX (by show _+1<=_;omega),sa,some (.int i),some (SX [33,40]),?_⟩;rw[ah,fy,ac,et,aj];rfl
   |false=>
   rw[rA et]
   have ak:decide (SX t.2.tx=V.str "!(")=false:=decide_eq_false λe=>by
    have:V.str (di t.2.tx)=V.str (di [33,40]):=e;injection this with this
    have:=kQ this;exact ab.tt.2.1 (by rw[this];rfl)
   rw[ak];refine dE ?_;rw[et,Bool.false_or] at ac;have plain:∀H3,Same H2 H3->iq (ky 40 (Y.take i)) t.2.tx=true->Same H H3/\∃x y,[some (V.ref l),some (V.str (di (dY 40 (Y.take i))++di t.2.tx)),some (.int i),some (SX t.2.tx)]=[some (.ref l),some (SX (dY 40 (Y.take (i+1)))),x,y]:=λH3 s3 hb=>⟨sa.trans s3,_,_,by rw[ac,hb,fy];rfl⟩;have sz:(di (dY 40 (Y.take i))).length+(di t.2.tx).length<=sizeLine:=fX (by omega);by_cases al:i=0
   . subst al;refine⟨_,rfl,rfl,_,rfl,dS ⟨_,rfl,_,rfl,_,_,rfl,rfl,sz,plain H2 (Same.refl _) ?_⟩⟩;exact uz (show(40:Nat)∈openers by decide)
   . refine⟨_,rfl,rfl,_,rfl,?_⟩;rw[decide_eq_false (show ¬V.int (i:Int)=V.int 0 from λe=>by injection e with e;omega)];refine dE ⟨_,rfl,A7,λk hk=>?_⟩;have s3:Same H2 (upd H2 k (.tup mr)):=Same.new hk;have k3:upd H2 k (.tup mr) k=some (.tup mr):=dw;refine⟨k,mr,rfl,.inr (du.of k3),rfl,rfl,_,rfl,?_⟩;show if inV (SX t.2.tx) mr=true then _ else _
     rw[IX];obtain⟨tp,ag⟩:∃tp,Y[i - 1]? =some tp:=⟨_,Q0a (by have:=(List.getElem?_eq_some_iff.mp ht).1;omega)⟩;have ae:=af tp (Q0x ag)
     have aa:ky 40 (Y.take i)=lst 0 (eO tp):=by
      have e1:Y.take i=Y.take (i - 1)++[tp]:=by
       conv=>lhs;rw[show i=i - 1+1 by omega]
       rw[Q18,ag];rfl
      rw[e1,Ct,Jp ae];show lst _ tp.2.tx=_;exact IV ae.tt.1
     by_cases hc:t.2.tx∈closers
     . rw[decide_eq_true hc];exact dS ⟨_,rfl,_,rfl,_,_,rfl,rfl,sz,plain _ s3 (Bw hc)⟩
     . rw[decide_eq_false hc];refine dE ⟨_,rfl,_,rfl,_,_,rfl,rfl,?_⟩
       have am:fg (PL Y) ((i:Int) - 1)=some (SX (eO tp)):=by
        have:((i - 1:Nat):Int)=(i:Int) - 1:=by omega
        rw[<-this];exact hV (by unfold PL;rw[Q0o,ag];rfl)
       refine⟨l,_,_,_,rfl,rfl,dy.of ((sa.trans s3) _ _ hl),am,_,rfl,_,_,_,rfl,rfl,?_,qw (mw ae).1,_,_,rfl,rfl,_,rfl,?_⟩
       . rw[fH];have:=(mw ae).2;exact Q07 this (by decide)
       rw[IW];by_cases ho:lst 0 (eO tp)∈openers
       . rw[decide_eq_true ho];exact dS ⟨_,rfl,_,rfl,_,_,rfl,rfl,sz,plain _ s3 (uz (by rw[aa];exact ho))⟩
       . rw[decide_eq_false ho];refine dE ⟨_,rfl,_,_,rfl,rfl,by rw[q1];exact fX (by show _+1<=_;omega),?_⟩;rw[q1,fy];refine⟨_,rfl,_,_,rfl,rfl,fX (by rw[Q01];show _+1+_<=_;omega),sa.trans s3,some (.int i),some (SX t.2.tx),?_⟩;rw[fy,ac,Bv hc (by rw[aa];exact ho)];have e5:dY 40 (Y.take i)++[32]++t.2.tx=dY 40 (Y.take i)++32::t.2.tx:=by simp
         rw[e5];rfl
 . rintro σ H' ⟨s1,x0,y0,rfl⟩;rw[gI];refine⟨_,rfl,?_⟩;rw[Q13];exact fin H' s1
theorem Ju:d9 ["_law_script","_law_at","_law_pieces","_law_letters","_law_text","_law_places","_law_k","_law_piece","_law_many"] XN (dN (top 42)):=eG
theorem Jv (T:Tb mg)(U:Dn K mg "_law_loose" qZ (top 42) Y aa)(J:Dn K mg "_law_next" ed (top 29) ab ac)(L:dj P w K mg base dm (1) ab ac ed (kP K)):dj P w K mg base dm (2) Y aa qZ (Cy K):=by
 refine U.F.ok Ju λvs H Q E h=>?_;obtain⟨a,b,l,ns,n,ts,rfl,g,hn,hl,ai,aI,fin⟩:=h;refine⟨rfl,λaJ A outer s nd hr hu=>?_⟩
 refine⟨_,(dh (dI 3 nd dv)
  (dh (dI 4 nd dv)
  (dh (dI 5 nd (gm b_))
  (dh (i9 PassesOwn.never rfl (sX rfl T.oJ (a_ (pv 2) b_)) (j4 rfl (gK (e8 (i:=6) nd rfl gh) (gK (e8 (i:=7) nd rfl gh) j3))) (dh (dI 8 nd (dk gj (dk eL (dJ L hr J (a_ (pv 0) (a_ (pv 1) b_))) c_) c_))
  (dh (dM (PW.pt (i8 (dQ j6 (pv 6) c_ (dP _)) (i8 (dQ qr (ij iQ (pv 7) c_ (λ_ _=>rfl)) (pv 3) (by with_unfolding_all rfl)) (j1 (dQ qr (ij iQ (gX (pv 2) (dk jn (pv 6) c_)) (qj qo c_) (λ_ _=>rfl)) (pv 3) (by with_unfolding_all rfl)))))) (dq (dI 8 nd (dk gE (pv 8) c_))) dO)
  (dh (dI 4 nd (dk fe (pv 4) (dk qG dv (pv 8))))
  (dh (fC (gA PySem.F.plainAttrs_list PySem.F.slot_list_append PySem.F.type_list_append iA (pv 5) (a_ (dX lZ (by rfl) T.gG PySem.boot_len (a_ (pv 4) b_)) b_)))
  (dq (dI 4 nd (dk fe (pv 4) (gA PySem.F.plainAttrs_str PySem.F.slot_str_lstrip PySem.F.type_str_lstrip IT (pv 7) (a_ dv b_))))))))))
  (dq (dF (f_ (a_ (dk fe (pv 4) (dk qG dv (dk eL (dJ L hr J (a_ (pv 0) (a_ (pv 1) b_))) c_))) (a_ (pv 5) b_))))))))),?_⟩
 ac_rfl
 have hb:=g.at_
 have aw:l≠b:=by
  intro e;rw[e,hb] at hl;injection hl with hl
  injection hl with hl
  cases ts with
  |nil=>cases hl
  |cons t r=>injection hl with hl _;cases hl
 have ax:Str.ofString " "=di [32]:=by decide +kernel
 generalize aK:Str.ofString "abcdefghijklmnopqrstuvwxyz"=LT
 have mo:∀m:Nat,m<=2->MulOk (Str.ofString " ") (m:Int):=λm hm=>by
  have:m=0\/m=1\/m=2:=by omega
  rcases this with e|e|e <;> subst e
  . exact⟨by decide +kernel,λh=>absurd (by decide) h,λh=>absurd (by decide) h⟩
  . exact⟨by decide +kernel,λ_ _=>by decide +kernel,λ_ _=>by decide +kernel⟩
  . exact⟨by decide +kernel,λ_ _=>by decide +kernel,λ_ _=>by decide +kernel⟩
 have aj:∀m:Nat,Txt.mul (Str.ofString " ") (m:Int)=di (List.replicate m 32):=λm=>by rw[ax];exact IU 32 m
 have ah:∀{zs:List (Nat × Tk)} {i:Nat},zs.map (·.2)=(ts.take i).map (·.2)->(∀z∈zs,z.1<=2)->∀j,(spread zs j).length<=63000+j:=λ{zs i} e hz j=>by
  have h1:=Cw zs j λz al=>⟨hz z al,by
   have:z.2∈(ts.take i).map (·.2):=by rw[<-e];exact List.mem_map.mpr ⟨z,al,rfl⟩
   obtain⟨p,hp,e2⟩:=List.mem_map.mp this;rw[<-e2];exact(ai _ (Q2j hp)).tt.2.2⟩
  have h2:zs.length=(ts.take i).length:=by rw[<-Q0b (f:=λz:Nat × Tk=>z.2),e,Q0b]
  rw[Q0k] at h2;omega
 refine⟨lr,λq hq=>?_⟩;have ak:b≠q:=dA hb hq;have ay:l≠q:=dA hl hq;have am:∀H':Hp,SB b H H'->H' l=some (.lst (PL ts)):=λH' s1=>s1 _ _ aw hl;refine⟨_,rfl,l,rfl,⟨_,dy.of (by rw[dg ay];exact hl)⟩,uC (xs:=PL ts) (λi σ H'=>SB b H H'/\H' b=some (.lst [.int (n+i)])/\∃zs:List (Nat × Tk),∃ps:List V,∃x y z,zs.map (·.2)=(ts.take i).map (·.2)/\(∀z∈zs,z.1<=2)/\ps.length=i/\H' q=some (.lst ps)/\σ=[some (.ref a),some (.ref b),some (.ref l),some (.str LT),some (SX (spread zs 0)),some (.ref q),x,y,z]) ⟨SB.new hq,by rw[dg ak,hb];simp,[],[],_,_,_,rfl,(λ_ h=>by cases h),rfl,dw,rfl⟩ ?_ ?_ ?_⟩
 . rintro i σ H' _ ⟨s1,_⟩;exact dy.of (am _ s1)
 . rintro i y σ H' pp hy ⟨s1,h1,zs,ps,x0,y0,z0,ae,af,an,ao,rfl⟩ az;unfold PL at hy;rw[Q0o] at hy;obtain⟨t,ht,rfl⟩:=Option.map_eq_some_iff.mp hy;have ag:=ai t (Q0x ht);have hi:i<ts.length:=(List.getElem?_eq_some_iff.mp ht).1;have ex:ts.take (i+1)=ts.take i++[t]:=by rw[Q18,ht];rfl
   have s2:Same H' (upd H' pp (.tup [.int i,SX (eO t)])):=Same.new az;have p2:upd H' pp (.tup [.int i,SX (eO t)]) pp=some (.tup [.int i,SX (eO t)]):=dw;have sa:=s1.trans (SB.of s2);have h2:=s2 _ _ h1;have aA:=s2 _ _ ao;generalize upd H' pp (.tup [.int i,SX (eO t)])=H2 at *;refine⟨pp,_,rfl,du.of p2,rfl,_,_,rfl,_,_,rfl,rfl,?_⟩;have g2:G0 K H2 a b ns (n+i):=g.go sa h2 (by omega);refine⟨_,rfl,_,rfl,a,b,ns,n+i,rfl,g2,by omega,λr H3 r0 r1 s3 h3=>⟨_,_,rfl,rfl,(by show(0:Int)<4;decide),_,_,rfl,rfl,⟨by decide,by decide⟩,?_⟩⟩;have sb:=sa.trans s3;have ap:=s3 _ _ (λe=>ak e.symm) aA;have i0:=Q0i r (show(4:Int)≠0 by decide);have i1:=Q0h r (show(0:Int)<4 by decide);obtain⟨m,hm⟩:∃m:Nat,r % 4 / 2=(m:Int):=⟨(r % 4 / 2).toNat,by omega⟩;have aL:m<=1:=by omega
   dsimp only[fU];refine o8 (λaq H'=>H'=H3/\∃v:Int,∃k:Nat,k<=2/\v=k/\aq=[some (.ref a),some (.ref b),some (.ref l),some (.str LT),some (SX (spread zs 0)),some (.ref q),some (.int i),some (SX (eO t)),some (.int v)]) ?_ (λhB=>?_)
   . intro aq _ zq;obtain⟨rfl,_,k,hk,rfl,rfl⟩:=zq;have aG:=ah ae af 0;have aH:=ag.tt.2.2;have aB:(spread zs 0++List.replicate k 32).length<=63002:=by rw[Q01,Q0w];omega
     refine⟨_,rfl,_,rfl,_,_,rfl,rfl,mo k hk,_,_,rfl,rfl,by rw[aj];exact fX (by rw[Q0w];omega),?_⟩;rw[aj,fy];refine⟨_,rfl,.inl ⟨rfl,_,dy.of ap⟩,_,rfl,_,rfl,by rw[fH];exact Q07 aB (by decide),q,_,_,rfl,rfl,ap,Q0q (show ps.length<=1000 by omega) (by decide),?_⟩;refine⟨_,rfl,_,rfl,rfl,_,_,rfl,rfl,by rw[fH];exact Q07 (mw ag).2 (by decide),?_⟩;rw[Jr ag];refine⟨_,_,rfl,rfl,fX (by omega),?_⟩;rw[fy,<-Cv];refine⟨?_,?_,zs++[(k,t.2)],_,_,_,_,?_,?_,?_,dw,rfl⟩
     . intro c o hc e;rw[dg (dA e hq)];exact sb _ _ hc e
     . rw[dg ak,h3];congr 4;omega
     . rw[Q0p,ae,ex,Q0p];rfl
     . intro z hz;rcases List.mem_append.mp hz with hz|hz
       . exact af z hz
       . rw[List.mem_singleton.mp hz];exact hk
     . rw[Q01,an];rfl
   . refine⟨_,rfl,_,_,rfl,rfl,_,rfl,eX (λc=>?_) (λc=>hB _ _ ⟨rfl,_,m,by omega,hm,rfl⟩)⟩;have ci:(0:Int)<(i:Int):=of_decide_eq_true c;obtain⟨c0,aC⟩:∃c0,(eO t)[0]? =some c0:=⟨_,Q0a (List.length_pos_iff.mpr (mw ag).1)⟩;have aD:fg (di (eO t)).cps.toList 0=some c0:=by rw[ja];exact hV (j:=0) aC
     obtain⟨tp,ar⟩:∃tp,ts[i - 1]? =some tp:=⟨_,Q0a (by omega)⟩;have au:=ai tp (Q0x ar)
     have aE:fg (PL ts) ((i:Int) - 1)=some (SX (eO tp)):=by
      have:((i - 1:Nat):Int)=(i:Int) - 1:=by omega
      rw[<-this];exact hV (by unfold PL;rw[Q0o,ar];rfl)
     refine⟨_,rfl,_,_,_,rfl,rfl,by rw[fH];have:=(mw ag).2;exact Q07 this (by decide),aD,_,rfl,_,_,rfl,rfl,_,rfl,eX (λc1=>?_) (λc1=>hB _ _ ⟨rfl,_,m,by omega,hm,rfl⟩)⟩;refine⟨_,rfl,_,rfl,_,_,rfl,rfl,l,_,_,_,rfl,rfl,dy.of (am _ sb),aE,_,rfl,_,_,_,rfl,rfl,by rw[fH];have:=(mw au).2;exact Q07 this (by decide),qw (mw au).1,_,rfl,_,_,rfl,rfl,_,rfl,eX (λc2=>?_) (λc2=>hB _ _ ⟨rfl,_,m,by omega,hm,rfl⟩)⟩;exact⟨_,rfl,_,_,rfl,rfl,hB _ _ ⟨rfl,_,m+1,by omega,by rw[hm];rfl,rfl⟩⟩
 . intro σ H' zq;obtain⟨s1,h1,zs,ps,x0,y0,z0,ae,af,an,ao,rfl⟩:=zq;rw[gI] at h1;rw[gI,Q13] at ae;have g1:G0 K H' a b ns (n+ts.length):=g.go s1 h1 (by omega);refine⟨_,rfl,_,rfl,_,rfl,a,b,ns,n+ts.length,rfl,g1,by omega,λr H3 r0 r1 s3 h3=>⟨_,_,rfl,rfl,(by show(0:Int)<3;decide),?_⟩⟩;have i0:=Q0i r (show(3:Int)≠0 by decide);have i1:=Q0h r (show(0:Int)<3 by decide);obtain⟨j,hj⟩:∃j:Nat,r % 3=(j:Int):=⟨(r % 3).toNat,by omega⟩;have aF:j<=2:=by omega
   have av:Txt.mul (Str.ofString " ") (r % 3)=di (List.replicate j 32):=by rw[hj];exact aj j
   have aM:=ah (i:=ts.length) (by rw[Q13];exact ae) af j;have aN:=ah (i:=ts.length) (by rw[Q13];exact ae) af 0;refine⟨_,_,rfl,rfl,(by rw[hj];exact mo j aF),_,_,rfl,rfl,by rw[av];exact fX (by rw[Q0w];omega),?_⟩;rw[av,fy,<-Cu];refine⟨_,rfl,gC,λp hp=>?_⟩;refine fin zs j p q (n+ts.length+1) _ ((s1.trans s3).trans (SB.new hp)) (by rw[dg (dA h3 hp)];exact h3) (by omega) (by omega) ae (by omega) dw
theorem CA (J:Tx):∀p:List Tx,Str.join (di J) (p.map di)=di (jc J p)
 |[]=>rfl
 |[x]=>rfl
 |x::y::r=>by
  show di x++di J++Str.join (di J) ((y::r).map di)=_;rw[CA J (y::r),fy,fy];congr 1;show x++J++_=x++(J++_);rw[Q0j]
theorem Jw (J:Tx)(p:List Tx):Txt.join (di J) (p.map di)=di (jc J p):=by
 show Builtin.Str.glued _ _=_;rw[StrLaws.glued_eq_join];exact CA J p
theorem uU (p:List Tx):p.map SX=(p.map di).map V.str:=by rw[List.map_map];rfl
theorem pf:∀p:List Tx,((p.map di).map (·.length)).sum+2 * p.length<=(jc [44,32] p).length+2
 |[]=>Q06 _
 |[x]=>by show(di x).length+0+2<=x.length+2;rw[fH];omega
 |x::y::r=>by
  have:=pf (y::r);show(di x).length+(((y::r).map di).map (·.length)).sum+2 * ((y::r).length+1)<=(x++([44,32]++jc [44,32] (y::r))).length+2;rw[fH,Q01,Q01];show _<=x.length+(2+_)+2;omega
theorem joinOk_of {p:List Tx}(h:(jc [44,32] p).length<=100000):JoinOk (Str.ofString ", ") (p.map di)=true:=by
 unfold JoinOk;rw[StrLaws.joinTotal];have a:=pf p;have e:(Str.ofString ", ").length=2:=by decide +kernel
 have d:Builtin.Str.tooLong (((p.map di).map (·.length)).sum+(p.map di).length * (Str.ofString ", ").length)=false:=by
  unfold Builtin.Str.tooLong;refine decide_eq_false (Nat.not_lt.mpr (Q07 (show _<=200000 from ?_) (by decide)));rw[e,Q0b];omega
 rw[d];rfl
theorem uV (p:List Tx):Txt.join (Str.ofString ", ") (p.map di)=di (jc [44,32] p):=by
 have:Str.ofString ", "=di [44,32]:=by decide +kernel
 rw[this];exact Jw _ p
noncomputable def Ds.gi:Ds->Kd->List Tx
 | .nil,_=>[]
 | .cons _ d r,k=>d.wr k::r.gi k
noncomputable def Ds.gR:Ds->Fs->List Tx
 | .cons _ d r,.cons x k fs=>(sl x++58::32::d.wr k)::r.gR fs
 |_,_=>[]
theorem CC (k:Kd):∀(xs:Ds) (t:Tx),jc [44,32] (t::xs.gi k)=t++xs.iI k
 | .nil,t=>by unfold Ds.gi Ds.iI;show t=t++[];rw[Q0n]
 | .cons x d r,t=>by
   unfold Ds.gi Ds.iI;show t++([44,32]++jc [44,32] (d.wr k::r.gi k))=_;rw[CC k r];rfl
theorem nE (k:Kd)(xs:Ds):jc [44,32] (xs.gi k)=xs.iH k:=by
 cases xs with
 |nil=>unfold Ds.gi Ds.iH;rfl
 |cons x d r=>unfold Ds.gi Ds.iH;exact CC k r _
theorem CD:∀(m:Ds) (fs:Fs) (t:Tx),jc [44,32] (t::m.gR fs)=t++m.gZ fs
 | .nil,fs,t=>by unfold Ds.gR Ds.gZ;show t=t++[];rw[Q0n]
 | .cons x d r,.nil,t=>by unfold Ds.gR Ds.gZ;show t=t++[];rw[Q0n]
 | .cons y d r,.cons x k fs,t=>by
   unfold Ds.gR Ds.gZ;show t++([44,32]++jc [44,32] ((sl x++58::32::d.wr k)::r.gR fs))=_;rw[CD r fs];simp
theorem uW (m:Ds)(fs:Fs):jc [44,32] (m.gR fs)=m.i3 fs:=by
 cases m with
 |nil=>unfold Ds.gR Ds.i3;rfl
 |cons y d r=>
  cases fs with
  |nil=>unfold Ds.gR Ds.i3;rfl
  |cons x k fs=>unfold Ds.gR Ds.i3;rw[CD];simp
theorem CF (xs:Ds)(k:Kd):(xs.iI k).length<=(xs.iH k).length+2:=by
 cases xs with
 |nil=>unfold Ds.iI;exact Q06 _
 |cons x d r=>unfold Ds.iI Ds.iH;exact Q00 _
theorem Jx (m:Ds)(fs:Fs):(m.gZ fs).length<=(m.i3 fs).length+2:=by
 cases m with
 |nil=>unfold Ds.gZ;exact Q06 _
 |cons y d r=>
  cases fs with
  |nil=>unfold Ds.gZ;exact Q06 _
  |cons x k fs=>unfold Ds.gZ Ds.i3;exact Q00 _
theorem eP.at:∀{xs:Ds}{k:Kd}{i:Nat}{d:D},eP xs k->xs.at i=some d->eA d k/\(xs.gi k)[i]? =some (d.wr k)/\(d.wr k).length+2<=(xs.iI k).length
 | .nil,_,_,_,_,e=>by cases e
 | .cons x d r,k,0,_,h,e=>by
   rw[eP] at h
   cases e;unfold Ds.gi Ds.iI;refine⟨h.1,rfl,?_⟩;simp only[Q02,Q01];omega
 | .cons x d r,k,i+1,d',h,e=>by
   rw[eP] at h;obtain⟨a,b,c⟩:=eP.at (xs:=r) (i:=i) h.2 e;unfold Ds.gi Ds.iI;refine⟨a,b,?_⟩;simp only[Q02,Q01];omega
theorem ph (k:Kd):∀xs:Ds,(xs.gi k).length=xs.len
 | .nil=>rfl
 | .cons x d r=>by unfold Ds.gi;show(r.gi k).length+1=r.len+1;rw[ph k r]
theorem d4.names:∀{m:Ds}{fs:Fs},d4 m fs->m.names=fs.names
 | .nil,.nil,_=>rfl
 | .nil,.cons _ _ _,h=>by unfold d4 at h;exact h.elim
 | .cons _ _ _,.nil,h=>by unfold d4 at h;exact h.elim
 | .cons y d r,.cons x k fs,h=>by
   rw[d4] at h;show y::r.names=x::fs.names;rw[h.1,d4.names h.2.2]
theorem d4.at:∀{m:Ds}{fs:Fs}{i:Nat}{x:Str}{k:Kd},d4 m fs->fs.names.Nodup->fs.at i=some (x,k)->∃d,m.get x=some d/\m.at i=some d/\eA d k/\(m.gR fs)[i]? =some (sl x++58::32::d.wr k)/\(sl x).length+(d.wr k).length+4<=(m.gZ fs).length
 | .nil,.nil,_,_,_,_,_,e=>by cases e
 | .nil,.cons _ _ _,_,_,_,h,_,_=>by unfold d4 at h;exact h.elim
 | .cons _ _ _,.nil,_,_,_,h,_,_=>by unfold d4 at h;exact h.elim
 | .cons y d r,.cons z q fs,0,x,k,h,J,e=>by
   rw[d4] at h
   cases e;refine⟨d,?_,rfl,h.2.1,?_,?_⟩
   . show(if z=y then some d else r.get z)=some d;rw[if_pos h.1.symm]
   . unfold Ds.gR;rfl
   . unfold Ds.gZ;simp only[Q02,Q01];omega
 | .cons y d r,.cons z q fs,i+1,x,k,h,J,e=>by
   rw[d4] at h;have J:(z::fs.names).Nodup:=J;obtain⟨L,U⟩:=List.nodup_cons.mp J;have e:fs.at i=some (x,k):=e;obtain⟨d',Y,a2,a3,a4,a5⟩:=d4.at (m:=r) h.2.2 U e;have hx:x∈fs.names:=Q0x (i:=i) (by rw[Fs.iD,e];rfl);refine⟨d',?_,a2,a3,?_,?_⟩
   . show(if x=y then some d else r.get x)=some d';rw[if_neg λz'=>L (by rw[<-h.1,<-z'];exact hx)];exact Y
   . unfold Ds.gR;exact a4
   . unfold Ds.gZ;simp only[Q02,Q01];omega
theorem CG:∀{m:Ds}{fs:Fs},d4 m fs->(m.gR fs).length=fs.names.length
 | .nil,.nil,_=>rfl
 | .nil,.cons _ _ _,h=>by unfold d4 at h;exact h.elim
 | .cons _ _ _,.nil,h=>by unfold d4 at h;exact h.elim
 | .cons y d r,.cons x k fs,h=>by
   rw[d4] at h;unfold Ds.gR;show(r.gR fs).length+1=fs.names.length+1;rw[CG h.2.2]
def uX:Sp:=λvs H Q _=>∃b x xs fs k,vs=[.ref b,.str x]/\H b=some (.tup xs)/\FA H xs fs/\fs.names.Nodup/\fs.get x=some k/\∀u,KA H u k->u≠ .non->Q u H
def mx (n:Nat):Sp:=λvs H Q _=>∃J v k d fp,vs=[J,v]/\KA H J k/\k.W/\Own H v d fp/\eA d k/\d.dep<=n/\(d.wr k).length<=100000/\∀H',Same H H'->Q (SX (d.wr k)) H'
def CH (n:Nat):Sp:=λvs H Q _=>∃b v xs fs m fp,vs=[.ref b,v]/\H b=some (.tup xs)/\FA H xs fs/\fs.names.Nodup/\fs.W/\Own H v (.dct m) fp/\d4 m fs/\m.dep<=n/\(m.i3 fs).length<=100000/\∀H',Same H H'->Q (SX (123::(m.i3 fs++[125]))) H'
def pj (n:Nat):Sp:=λvs H Q _=>∃a u v k d fp,vs=[.ref a,v]/\H a=some (.tup [.str "tree",u])/\KA H u k/\k.W/\Own H v d fp/\eA d (.tree k)/\d.dep<=n/\(d.wr (.tree k)).length<=100000/\∀H',Same H H'->Q (SX (d.wr (.tree k))) H'
theorem rD {H:Hp}{v:V}{a b:Str}{x y:D}{fp:List Addr}(h:Own H v (.tup (.cons a x (.cons b y .nil))) fp):∃t u w f g,v=.ref t/\H t=some (.tup [u,w])/\Own H u x f/\Own H w y g:=by
 unfold Own at h;obtain⟨t,vs,rfl,L,J⟩:=h;unfold dz at J;obtain⟨u,q,U,f2,rfl,_,Y,J⟩:=J;unfold dz at J;obtain⟨w,q,f3,f4,rfl,_,hw,J⟩:=J;unfold dz at J;obtain⟨rfl,_⟩:=J;exact⟨t,u,w,U,f3,rfl,L,Y,hw⟩
theorem jB {H:Hp}{v:V}{xs:Ds}{fp:List Addr}(h:Own H v (.lst xs) fp):∃t vs f,v=.ref t/\H t=some (.lst vs)/\dz H vs xs f:=by
 unfold Own at h;obtain⟨t,vs,f,e,J,_,L⟩:=h;exact⟨t,vs,f,e,J,L⟩
theorem kU {H:Hp}{v:V}{m:Ds}{fp:List Addr}(h:Own H v (.dct m) fp):∃t kvs f,v=.ref t/\H t=some (.dK kvs)/\dH H kvs m f:=by
 unfold Own at h;obtain⟨t,vs,f,e,J,_,L⟩:=h;exact⟨t,vs,f,e,J,L⟩
theorem i4 {H:Hp}{v:V}{x:Str}{fp:List Addr}(h:Own H v (.str x) fp):v=.str x:=by unfold Own at h;exact h.1
theorem jW {H:Hp}{v:V}{i:Int}{fp:List Addr}(h:Own H v (.int i) fp):v=.int i:=by unfold Own at h;exact h.1
theorem KA.Jy {H:Hp}:∀{u:V}{k:Kd},KA H u k->u≠ .non
 |_,.num,h=>by unfold KA at h;obtain⟨a,rfl,_⟩:=h;intro z;cases z
 |_,.eM,h=>by unfold KA at h;obtain⟨a,rfl,_⟩:=h;intro z;cases z
 |_,.dG _,h=>by unfold KA at h;obtain⟨a,b,vs,rfl,_⟩:=h;intro z;cases z
 |_,.rows _ _ _,h=>by unfold KA at h;obtain⟨a,b,vs,rfl,_⟩:=h;intro z;cases z
 |_,.tree _,h=>by unfold KA at h;obtain⟨a,b,rfl,_⟩:=h;intro z;cases z
 |_,.eR _,h=>by unfold KA at h;obtain⟨a,b,vs,rfl,_⟩:=h;intro z;cases z
theorem Jz:d9 ["fields","name","pair"] ["fields","name"] (dN (top 5)):=eG
theorem CI (T:Tb mg)(J:Dn K mg "kind_at" lu (top 5) L U):dj P w K mg base dm (1) L U lu (uX):=by
 refine J.F.ok Jz λvs H Q E h=>?_;obtain⟨b,x,xs,fs,k,rfl,hb,ab,ae,Y,q⟩:=h;refine⟨rfl,λag A outer s nd hr hu=>?_⟩
 refine⟨_,(dh (i9 PassesOwn.never rfl (nZ (pv 0)) (e8 (i:=2) nd rfl gh) (dq (dM (dQ eh (dR (pv 2) c_) (pv 1) (dP _)) (dq (dF (dR (pv 2) c_))) dO)))
  (dq (dF EI))),?_⟩
 ac_rfl
 refine⟨_,rfl,b,rfl,⟨_,du.of hb⟩,y_ (xs:=xs) (λi σ H'=>H'=H/\(∃z,σ=[some (.ref b),some (.str x),z])/\∀j,j<i->fs.names[j]? ≠some x) ⟨rfl,⟨_,rfl⟩,λj hj=>absurd hj (by omega)⟩ ?_ ?_ ?_⟩
 . rintro i σ H' _ ⟨rfl,_⟩;exact du.of hb
 . rintro i v σ H' hv ⟨rfl,⟨z,rfl⟩,aa⟩;obtain⟨c,u,nm,k',rfl,ac,hc,hk⟩:=FA.get fs ab hv;have af:fs.names[i]? =some nm:=by rw[Fs.iD,ac];rfl
   refine⟨_,rfl,c,_,_,_,rfl,rfl,du.of hc,rfl,_,rfl,rfl,_,rfl,eX (λcc=>?_) (λcc=>?_)⟩
   . have e:nm=x:=by
      have:=of_decide_eq_true cc;injection this
     subst e;have ek:=Fs.mT ae ac;rw[Y] at ek
     cases ek;exact⟨_,rfl,c,_,_,_,rfl,rfl,du.of hc,rfl,q u hk hk.Jy⟩
   . refine⟨rfl,⟨_,rfl⟩,λj hj=>?_⟩;by_cases e:j<i
     . exact aa j e
     . have:j=i:=by omega
       subst this;rw[af];intro z
       cases z;exact cc (decide_eq_true rfl)
 . rintro σ H' ⟨rfl,_,aa⟩;obtain⟨j,hj,e⟩:=Q1q (Fs.get_mem Y);exact absurd (by rw[Q0a hj,e]) (aa j (by rw[FA.len fs ab];exact hj))
theorem JA:d9 XQ XQ (dN (top 26)):=eG
theorem JB (n:Nat)(T:Tb mg)(J:Dn K mg "written_record" oK (top 26) L U)(Y:Dn K mg "written_value" jQ (top 25) aa ab)(ac:dj P w K mg base dm (3 * n+3) aa ab jQ (mx n)):dj P w K mg base dm (3 * n+4) L U oK (CH n):=by
 refine J.F.ok JA λvs H Q E h=>?_;obtain⟨b,v,ws,fs,m,fp,rfl,hb,hA,ag,hW,hO,hS,ah,ai,fin⟩:=h;refine⟨rfl,λan A outer s nd hr hu=>?_⟩;refine⟨_,(dq (dF (dk fe (dk fe dv (gA PySem.F.plainAttrs_str PySem.F.slot_str_join PySem.F.type_str_join uB dv (a_ (kJ (g:=(qg K 2 (lS (fU 0) (lS (fU 1) qf)))) (tt:=ju) (te:=(gL _ (gL _ (eV 0) (tC (.str ": "))) (jq _ _ _ (fF (eV 1) (fF (qB (eV 3) (eV 0)) hU))))) (own:=["name","inner"]) rfl (jO (N:=XQ) (sc:=dN (top 26))) (nZ (pv 0)) (λ_ _ _ _ _=>(j4 rfl (gK (e8 (i:=0) (show(["name","inner","fields","record"]:List Str).Nodup by decide +kernel) rfl (Or.inl rfl) (.inr rfl)) (gK (e8 (i:=1) (show(["name","inner","fields","record"]:List Str).Nodup by decide +kernel) rfl (Or.inl rfl) (.inr rfl)) j3)))) (λ_ _ _ _ _=>kg) (λ_ _ _ _ _=>(dk fe (dk fe (pv 0) dv) (dJ ac hr Y (a_ (pv 1) (a_ (j9 hu (pv 3) (pv 0) (λ_ _=>rfl)) b_)))))) b_))) dv))),?_⟩
 ac_rfl
 obtain⟨r,kvs,ao,rfl,aj,hO⟩:=kU hO;have hR:=Jx m fs;have ak:ws.length=(m.gR fs).length:=by rw[FA.len fs hA,CG hS]
 have hn:ws.length<=100002:=by have:=pf (m.gR fs);rw[uW] at this;omega
 refine⟨rfl,_,rfl,b,rfl,⟨_,du.of hb⟩,λi m' zs H'=>m'=ws.length - i/\i<=ws.length/\zs=((m.gR fs).take i).map SX/\Same H H',⟨ws.length,rfl,Q06 _,rfl,Same.refl _⟩,?_⟩;rintro i m' zs H' ⟨rfl,ap,rfl,s2⟩;by_cases hi:i<ws.length
 . refine .inr ⟨⟨_,_,du.of (s2 _ _ hb),Q0a hi⟩,by rw[Q0b,Q0k];exact Q0q (show _<=200000 by omega) (by decide),λv H1 y=>?_⟩;obtain⟨rfl,y⟩:=y;have hv:=y _ (du.of (s2 _ _ hb));obtain⟨c,u,x,k,rfl,ae,hc,hk⟩:=FA.get fs hA hv;obtain⟨d,hg,aq,al,ht,ar⟩:=hS.at ag ae;obtain⟨vd,fd,af,am,_⟩:=hO.val m hg;have g1:gc H1 r (.str x) (some vd):=by have:=gc.k (k:=Sum.inr x) (s2 _ _ aj);rw[af] at this;exact this
   refine⟨c,_,rfl,du.of (s2 _ _ hc),rfl,_,_,rfl,_,_,rfl,rfl,rfl,L2.yes (dS ?_)⟩;have q1:Str.ofString ": "=di [58,32]:=by decide +kernel
   have ho:x.cps.toList.length=(sl x).length:=rfl;refine⟨_,rfl,_,_,rfl,rfl,by rw[q1,<-jb x];exact fX (by show _+2<=_;omega),?_⟩;rw[q1];have ex:x++di [58,32]=di (sl x++[58,32]):=by rw[<-fy,jb]
   rw[ex];refine⟨_,rfl,_,rfl,_,rfl,r,vd,rfl,g1,u,vd,k,d,fd,rfl,KA.mono (Tu.of s2) k hk,Fs.l6 hW ae,am.same s2,al,Q07 (Ds.oI hg) ah,by omega,λH3 s3=>?_⟩;refine⟨_,_,rfl,rfl,fX (by rw[Q01];show _+2+_<=_;omega),?_⟩;rw[fy];refine⟨ws.length - (i+1),by omega,rfl,hi,?_,s2.trans s3⟩;rw[Q18,ht,Q0p];have e:sl x++[58,32]++d.wr k=sl x++58::32::d.wr k:=by simp
   rw[e];rfl
 . have ei:i=ws.length:=by omega
   subst ei;refine .inl ⟨⟨_,du.of (s2 _ _ hb),Q00 _⟩,λp hp=>?_⟩;rw[ak,Q13];refine⟨_,p,(m.gR fs).map di,rfl,rfl,dy.of (by rw[dw,uU]),joinOk_of (by rw[uW];exact ai),?_⟩;rw[uV,uW];have q1:Str.ofString "{"=di [123]:=by decide +kernel
   have q2:Str.ofString "}"=di [125]:=by decide +kernel
   refine⟨_,_,rfl,rfl,by rw[q1];exact fX (by show 1+_<=_;omega),?_⟩;rw[q1,fy];refine⟨_,_,rfl,rfl,by rw[q2];exact fX (by rw[Q01];show 1+_+1<=_;omega),?_⟩;rw[q2,fy];exact fin _ (s2.trans (Same.new hp))
theorem JC (as:Ds)(k:Kd)(h:as≠ .nil):as.lC k=58::32::as.iH k:=by
 cases as with
 |nil=>exact absurd rfl h
 |cons x d r=>unfold Ds.lC Ds.iH;rfl
theorem JD:d9 ["kind","tree","told"] ["kind","tree"] (dN (top 27)):=eG
theorem JE (n:Nat)(T:Tb mg)(J:Dn K mg "written_tree" mi (top 27) L U)(ae:dj P w K mg base dm (3 * n+2) L U mi (pj n))(Y:Dn K mg "written_value" jQ (top 25) aa ab)(ac:dj P w K mg base dm (3 * n+3) aa ab jQ (mx n)):dj P w K mg base dm ((3 * n+4)+1) L U mi (pj (n+1)):=by
 refine J.F.ok JD λvs H Q E h=>?_;obtain⟨a,u,v,k,d,fp,rfl,ha,hk,hW,hO,hS,al,ah,fin⟩:=h;refine⟨rfl,λav A outer s nd hr hu=>?_⟩
 refine⟨_,(dh (dI 2 nd (dJ ac hr Y (a_ (dR (pv 0) c_) (a_ (dR (pv 1) c_) b_))))
  (dh (dM (dQ eh (dX js (by rfl) T.gG PySem.boot_len (a_ (dR (pv 1) c_) b_)) c_ (dP _)) (dq (dF (dk fe (dk fe dv (pv 2)) dv))) dO)
  (dq (dF (dk fe (dk fe (dk fe (dk fe dv (pv 2)) dv) (gA PySem.F.plainAttrs_str PySem.F.slot_str_join PySem.F.type_str_join uB dv (a_ (kJ (g:=(fU 0)) (tt:=ju) (te:=(jq _ _ _ (fF (eV 1) (fF (eV 0) hU)))) (own:=["arm"]) rfl (jO (N:=["kind","tree","told"]) (sc:=dN (top 27))) (sE (dR (pv 1) c_)) (λ_ _ _ _ _=>(e8 (i:=0) (show(["arm","kind","tree","told"]:List Str).Nodup by decide +kernel) rfl (Or.inl rfl) (.inr rfl))) (λ_ _ _ _ _=>kg) (λ_ _ _ _ _=>(dJ ae hr J (a_ (pv 1) (a_ (pv 0) b_))))) b_))) dv))))),?_⟩
 ac_rfl
 obtain⟨y,z,t,as,rfl,am,an⟩:=hS.inv;obtain⟨tr,ut,ua,f1,f2,rfl,ai,ao,ap⟩:=rD hO;obtain⟨la,vs,f3,rfl,af,aj⟩:=jB ap;rw[BG] at ah fin;simp only[D.dep,Ds.dep] at al;simp only[Q02,Q01] at ah;have q1:Str.ofString "<"=di [60]:=by decide +kernel
 have q2:Str.ofString ">"=di [62]:=by decide +kernel
 have q3:Str.ofString ": "=di [58,32]:=by decide +kernel
 refine⟨_,rfl,a,_,_,_,rfl,rfl,du.of ha,rfl,_,rfl,tr,_,_,_,rfl,rfl,du.of ai,rfl,u,ut,k,t,f1,rfl,hk,hW,ao,am,by omega,by omega,λH1 s1=>?_⟩;have ag:=dz.len as aj;have e1:di [60]++di (t.wr k)=di (60::t.wr k):=fy _ _;refine⟨_,rfl,tr,_,_,_,rfl,rfl,du.of (s1 _ _ ai),rfl,la,vs,rfl,.inl (dy.of (s1 _ _ af)),rfl,_,rfl,?_⟩
 cases as with
 |nil=>
  have:vs=[]:=by
   have:vs.length=0:=ag;exact List.length_eq_zero_iff.mp this
  subst this;rw[decide_eq_true (show V.int (([]:List V).length:Int)=V.int 0 from rfl)];refine dS ⟨_,rfl,_,_,rfl,rfl,by rw[q1];exact fX (by show 1+_<=_;omega),?_⟩;rw[q1,e1];refine⟨_,_,rfl,rfl,by rw[q2];exact fX (by show _+1+1<=_;omega),?_⟩;rw[q2,fy];have:=fin H1 s1;unfold Ds.lC at this;exact this
 |cons y' d' r'=>
  rw[JC _ _ (by intro z;cases z)] at ah fin;have au:vs.length=r'.len+1:=ag;rw[decide_eq_false (show ¬V.int (vs.length:Int)=V.int 0 from λe=>by injection e with e;omega)];generalize Ds.cons y' d' r'=as at *;simp only[Q02] at ah;refine dE ⟨_,rfl,_,_,rfl,rfl,by rw[q1];exact fX (by show 1+_<=_;omega),?_⟩;rw[q1,e1];refine⟨_,_,rfl,rfl,by rw[q3];exact fX (by show _+1+2<=_;omega),?_⟩;rw[q3,fy];have hT:=CF as (.tree k);have hn:vs.length<=100002:=by have:=pf (as.gi (.tree k));rw[nE,ph] at this;omega
  refine⟨rfl,_,rfl,tr,_,_,_,rfl,rfl,du.of (s1 _ _ ai),rfl,la,rfl,⟨_,dy.of (s1 _ _ af)⟩,λi m' zs H'=>m'=vs.length - i/\i<=vs.length/\zs=((as.gi (.tree k)).take i).map SX/\Same H H',⟨vs.length,rfl,Q06 _,rfl,s1⟩,?_⟩;rintro i m' zs H' ⟨rfl,aw,rfl,s2⟩;by_cases hi:i<vs.length
  . refine .inr ⟨⟨_,_,dy.of (s2 _ _ af),Q0a hi⟩,by rw[Q0b,Q0k];exact Q0q (show _<=200000 by omega) (by decide),λv H1 y=>?_⟩;obtain⟨rfl,y⟩:=y;have hv:=y _ (dy.of (s2 _ _ af));obtain⟨d,f,ak,aq,_⟩:=dz.get as aj hv;obtain⟨ar,ht,ax⟩:=an.at ak;have ay:=Ds.iU ak;refine⟨rfl,L2.yes (dS ?_)⟩;refine⟨_,rfl,_,rfl,a,u,v,k,d,f,rfl,s2 _ _ ha,KA.mono (Tu.of s2) k hk,hW,aq.same s2,ar,by omega,by omega,λH3 s3=>?_⟩;refine⟨vs.length - (i+1),by omega,rfl,hi,?_,s2.trans s3⟩;rw[Q18,ht,Q0p];rfl
  . have ei:i=vs.length:=by omega
    subst ei;refine .inl ⟨⟨_,dy.of (s2 _ _ af),Q00 _⟩,λp hp=>?_⟩;have e0:(as.gi (.tree k)).take vs.length=as.gi (.tree k):=Q1d (by rw[ph,ag];exact Q00 _);rw[e0];refine⟨_,p,(as.gi (.tree k)).map di,rfl,rfl,dy.of (by rw[dw,uU]),joinOk_of (by rw[nE];omega),?_⟩;rw[uV,nE];refine⟨_,_,rfl,rfl,fX (by rw[Q01,Q02];show _+1+2+_<=_;omega),?_⟩;rw[fy];refine⟨_,_,rfl,rfl,by rw[q2];exact fX (by rw[Q01,Q01,Q02];show _+1+2+_+1<=_;omega),?_⟩;rw[q2,fy];have:=fin _ (s2.trans (Same.new (o:=.lst ((as.gi (.tree k)).map SX)) hp));have e5:60::t.wr k++[58,32]++as.iH (.tree k)++[62]=60::(t.wr k++(58::32::as.iH (.tree k)++[62])):=by simp
    rw[e5];exact this
theorem fB {s t:Str}(h:s≠t):decide (V.str s=V.str t)=false:=decide_eq_false λe=>by injection e with e;exact h e
theorem log2_small {i:Int}(h:i.natAbs<10 ^ 60):i.natAbs.log2<1920:=by
 by_cases J:i.natAbs=0
 . rw[J];decide
 . exact(Nat.log2_lt J).mpr (Q0g h (by decide +kernel))
theorem JF:d9 ["kind","value","form"] ["kind","value"] (dN (top 25)):=eG
theorem JG (n:Nat)(T:Tb mg)(U:Dn K mg "written_value" jQ (top 25) Y aa)(ae:dj P w K mg base dm (3 * n+3) Y aa jQ (mx n))(J:Dn K mg "written_record" oK (top 26) ab ac)(L:dj P w K mg base dm (3 * n+4) ab ac oK (CH n))(af:Dn K mg "written_tree" mi (top 27) ag ah)(ai:dj P w K mg base dm (3 * n+5) ag ah mi (pj (n+1)))(ak:Dn K mg "kind_at" lu (top 5) al am)(an:dj P w K mg base dm (1) al am lu (uX)):dj P w K mg base dm ((3 * n+5)+1) Y aa jQ (mx (n+1)):=by
 refine U.F.ok JF λvs H Q E h=>?_;obtain⟨kv,v,k,d,fp,rfl,hk,hW,hO,hS,aq,aj,fin⟩:=h;refine⟨rfl,λaK A outer s nd hr hu=>?_⟩
 refine⟨_,(dh (dI 2 nd (dR (pv 0) c_))
  (dh (dM (dQ eh (pv 2) dv (dP _)) (dq (dF (n9 AG (by rfl) T.lq boot_str (a_ (pv 1) b_)))) dO)
  (dh (dM (dQ eh (pv 2) dv (dP _)) (dq (dF (dk fe (dk fe dv (pv 1)) dv))) dO)
  (dh (dM (dQ eh (pv 2) dv (dP _)) (dq (dF (dJ L hr J (a_ (dR (pv 0) c_) (a_ (pv 1) b_))))) dO)
  (dh (dM (dQ eh (pv 2) dv (dP _)) (dq (dF (dk fe (dk fe dv (gA PySem.F.plainAttrs_str PySem.F.slot_str_join PySem.F.type_str_join uB dv (a_ (kJ (g:=(fU 0)) (tt:=ju) (te:=(jq _ _ _ (fF (gL (j8 K) (eV 1) (tC (.int 3))) (fF (eV 0) hU)))) (own:=["row"]) rfl (jO (N:=["kind","value","form"]) (sc:=dN (top 25))) (sE (pv 1)) (λ_ _ _ _ _=>(e8 (i:=0) (show(["row","kind","value","form"]:List Str).Nodup by decide +kernel) rfl (Or.inl rfl) (.inr rfl))) (λ_ _ _ _ _=>kg) (λ_ _ _ _ _=>(dJ L hr J (a_ (dR (pv 1) c_) (a_ (pv 0) b_))))) b_))) dv))) dO)
  (dh (dM (dQ eh (pv 2) dv (dP _)) (dq (dF (dJ ai hr af (a_ (pv 0) (a_ (pv 1) b_))))) dO)
  (dq (dF (dk fe (dk fe (dk fe (dR (pv 1) c_) dv) (dJ ae hr U (a_ (dJ an hr ak (a_ (dR (pv 0) c_) (a_ (dR (pv 1) c_) b_))) (a_ (dR (pv 1) c_) b_)))) dv))))))))),?_⟩
 ac_rfl
 have inv:=hS.inv
 cases k with
 |num=>
  obtain⟨i,rfl,hi⟩:=inv;rw[jW hO];unfold KA at hk;obtain⟨a,rfl,ha⟩:=hk;refine⟨_,rfl,a,_,_,_,rfl,rfl,du.of ha,rfl,_,rfl,rfl,_,rfl,dS ⟨_,rfl,i,rfl,log2_small hi,?_⟩⟩;have:=fin H (Same.refl _);unfold D.wr gz at this;have e:SX (Str.ofString (toString i)).cps.toList=V.str (Str.ofString (toString i)):=by unfold SX;rw[jb]
  rw[e] at this;exact this
 |eM=>
  obtain⟨x,rfl,hx⟩:=inv;rw[i4 hO];unfold KA at hk;obtain⟨a,rfl,ha⟩:=hk;refine⟨_,rfl,a,_,_,_,rfl,rfl,du.of ha,rfl,_,rfl,rfl,_,rfl,?_⟩;rw[fB (by decide +kernel)];refine dE ⟨_,rfl,rfl,_,rfl,dS ?_⟩;have q1:Str.ofString "\""=di [34]:=by decide +kernel
  have aL:(sl x).length<=40:=hx.1;refine⟨_,rfl,_,_,rfl,rfl,by rw[q1,<-jb x];exact fX (by show 1+(sl x).length<=_;omega),?_⟩;have e1:Str.ofString "\""++x=di (34::sl x):=by rw[q1,<-jb x];exact fy _ _
  rw[e1];refine⟨_,_,rfl,rfl,by rw[q1];exact fX (by show _+1+1<=_;omega),?_⟩;rw[q1,fy];have:=fin H (Same.refl _);unfold D.wr at this;exact this
 |dG fs=>
  obtain⟨m,rfl,hm⟩:=inv;unfold KA at hk;obtain⟨a,b,xs,rfl,ha,hb,ao⟩:=hk;unfold Kd.W at hW;unfold D.dep at aq;have e:(D.dct m).wr (.dG fs)=123::(m.i3 fs++[125]):=by rw[D.wr]
  rw[e] at aj fin;simp only[Q02,Q01] at aj;refine⟨_,rfl,a,_,_,_,rfl,rfl,du.of ha,rfl,_,rfl,rfl,_,rfl,?_⟩;rw[fB (by decide +kernel)];refine dE ⟨_,rfl,rfl,_,rfl,?_⟩;rw[fB (by decide +kernel)];exact dE ⟨_,rfl,rfl,_,rfl,dS ⟨_,rfl,a,_,_,_,rfl,rfl,du.of ha,rfl,_,rfl,b,_,xs,fs,m,fp,rfl,hb,ao,hW.1,hW.2.2,hO,hm,by omega,by omega,fin⟩⟩
 |rows key aA fs=>
  obtain⟨as,rfl,aB⟩:=inv;unfold KA at hk;obtain⟨a,b,xs,rfl,ha,hb,ao⟩:=hk;unfold Kd.W at hW;unfold D.dep at aq;have e:(D.lst as).wr (.rows key aA fs)=91::(as.iH (.dG fs)++[93]):=by rw[D.wr]
  rw[e] at aj fin;simp only[Q02,Q01] at aj;obtain⟨la,vs,f3,rfl,ar,aw⟩:=jB hO;have az:=dz.len as aw;have q1:Str.ofString "["=di [91]:=by decide +kernel
  have q2:Str.ofString "]"=di [93]:=by decide +kernel
  refine⟨_,rfl,a,_,_,_,rfl,rfl,du.of ha,rfl,_,rfl,rfl,_,rfl,?_⟩;rw[fB (by decide +kernel)];refine dE ⟨_,rfl,rfl,_,rfl,?_⟩;rw[fB (by decide +kernel)];refine dE ⟨_,rfl,rfl,_,rfl,?_⟩;rw[fB (by decide +kernel)];refine dE ⟨_,rfl,rfl,_,rfl,dS ?_⟩;have hT:=CF as (.dG fs);have hn:vs.length<=100002:=by have:=pf (as.gi (.dG fs));rw[nE,ph] at this;omega
  refine⟨rfl,_,rfl,la,rfl,⟨_,dy.of ar⟩,λi m' zs H'=>m'=vs.length - i/\i<=vs.length/\zs=((as.gi (.dG fs)).take i).map SX/\Same H H',⟨vs.length,rfl,Q06 _,rfl,Same.refl _⟩,?_⟩;rintro i m' zs H' ⟨rfl,aM,rfl,s2⟩;by_cases hi:i<vs.length
  . refine .inr ⟨⟨_,_,dy.of (s2 _ _ ar),Q0a hi⟩,by rw[Q0b,Q0k];exact Q0q (show _<=200000 by omega) (by decide),λv H1 y=>?_⟩;obtain⟨rfl,y⟩:=y;have hv:=y _ (dy.of (s2 _ _ ar));obtain⟨d,f,ax,aC,_⟩:=dz.get as aw hv;obtain⟨aD,ht,ay⟩:=aB.at ax;have aE:=Ds.iU ax;obtain⟨m,rfl,hm⟩:=aD.inv;have e2:(D.dct m).wr (.dG fs)=123::(m.i3 fs++[125]):=by rw[D.wr]
    rw[e2] at ht ay;simp only[Q02,Q01] at ay;unfold D.dep at aE;refine⟨rfl,L2.yes (dS ?_)⟩;refine⟨_,rfl,a,_,_,_,rfl,rfl,du.of (s2 _ _ ha),rfl,_,rfl,b,v,xs,fs,m,f,rfl,s2 _ _ hb,FA.mono (Tu.of s2) fs ao,hW.1,hW.2.2.1,aC.same s2,hm,by omega,by omega,λH3 s3=>?_⟩;refine⟨vs.length - (i+1),by omega,rfl,hi,?_,s2.trans s3⟩;rw[Q18,ht,Q0p];rfl
  . have ei:i=vs.length:=by omega
    subst ei;refine .inl ⟨⟨_,dy.of (s2 _ _ ar),Q00 _⟩,λp hp=>?_⟩;have e0:(as.gi (.dG fs)).take vs.length=as.gi (.dG fs):=Q1d (by rw[ph,az];exact Q00 _);rw[e0];refine⟨_,p,(as.gi (.dG fs)).map di,rfl,rfl,dy.of (by rw[dw,uU]),joinOk_of (by rw[nE];omega),?_⟩;rw[uV,nE];refine⟨_,_,rfl,rfl,by rw[q1];exact fX (by show 1+_<=_;omega),?_⟩;rw[q1,fy];refine⟨_,_,rfl,rfl,by rw[q2];exact fX (by rw[Q01];show 1+_+1<=_;omega),?_⟩;rw[q2,fy];exact fin _ (s2.trans (Same.new hp))
 |tree k=>
  have ap:=hk;unfold KA at hk;obtain⟨a,u,rfl,ha,aF⟩:=hk;have aG:k.W:=by unfold Kd.W at hW;exact hW
  refine⟨_,rfl,a,_,_,_,rfl,rfl,du.of ha,rfl,_,rfl,rfl,_,rfl,?_⟩;rw[fB (by decide +kernel)];refine dE ⟨_,rfl,rfl,_,rfl,?_⟩;rw[fB (by decide +kernel)];refine dE ⟨_,rfl,rfl,_,rfl,?_⟩;rw[fB (by decide +kernel)];refine dE ⟨_,rfl,rfl,_,rfl,?_⟩;rw[fB (by decide +kernel)];exact dE ⟨_,rfl,rfl,_,rfl,dS ⟨_,rfl,_,rfl,a,u,v,k,d,fp,rfl,ha,aF,aG,hO,hS,aq,aj,fin⟩⟩
 |eR fs=>
  obtain⟨y,z,x,vd,rfl,hx,au⟩:=inv;obtain⟨tr,ux,uv,f1,f2,rfl,av,aH,aI⟩:=rD hO;rw[i4 aH] at av;unfold KA at hk;obtain⟨a,b,xs,rfl,ha,hb,ao⟩:=hk;unfold Kd.W at hW;obtain⟨k',ap⟩:=Fs.ny hx;rw[ap] at au;rw[BH,ap] at aj fin;have au:eA vd k':=au;have aj:(sl x++40::(vd.wr k'++[41])).length<=100000:=aj;simp only[D.dep,Ds.dep] at aq;simp only[Q02,Q01] at aj;have q1:Str.ofString "("=di [40]:=by decide +kernel
  have q2:Str.ofString ")"=di [41]:=by decide +kernel
  refine⟨_,rfl,a,_,_,_,rfl,rfl,du.of ha,rfl,_,rfl,rfl,_,rfl,?_⟩;rw[fB (by decide +kernel)];refine dE ⟨_,rfl,rfl,_,rfl,?_⟩;rw[fB (by decide +kernel)];refine dE ⟨_,rfl,rfl,_,rfl,?_⟩;rw[fB (by decide +kernel)];refine dE ⟨_,rfl,rfl,_,rfl,?_⟩;rw[fB (by decide +kernel)];refine dE ⟨_,rfl,rfl,_,rfl,?_⟩;rw[fB (by decide +kernel)];refine dE ⟨_,rfl,tr,_,_,_,rfl,rfl,du.of av,rfl,_,_,rfl,rfl,by rw[q1,<-jb x];exact fX (by show(sl x).length+1<=_;omega),?_⟩;have e1:x++Str.ofString "("=di (sl x++[40]):=by rw[q1,<-fy,jb]
  rw[e1];refine⟨_,rfl,a,_,_,_,rfl,rfl,du.of ha,rfl,_,rfl,tr,_,_,_,rfl,rfl,du.of av,rfl,b,x,xs,fs,k',rfl,hb,ao,hW.1,ap,λu aJ aN=>?_⟩;refine⟨_,rfl,tr,_,_,_,rfl,rfl,du.of av,rfl,u,uv,k',vd,f2,rfl,aJ,Fs.nv hW.2.2.2 ap,aI,au,by omega,by omega,λH1 s1=>?_⟩;refine⟨_,_,rfl,rfl,fX (by rw[Q01];show(sl x).length+1+_<=_;omega),?_⟩;rw[fy];refine⟨_,_,rfl,rfl,by rw[q2];exact fX (by rw[Q01,Q01];show(sl x).length+1+_+1<=_;omega),?_⟩;rw[q2,fy];have:=fin H1 s1;have e5:sl x++[40]++vd.wr k'++[41]=sl x++40::(vd.wr k'++[41]):=by simp
  rw[e5];exact this
theorem CJ (T:Tb mg)(J:Dn K mg "written_value" jQ (top 25) aa ab)(L:Dn K mg "written_record" oK (top 26) af ag)(U:Dn K mg "written_tree" mi (top 27) ac ae)(Y:Dn K mg "kind_at" lu (top 5) ah ai):∀n:Nat,dj P w K mg base dm (3 * n+3) aa ab jQ (mx n)/\dj P w K mg base dm (3 * n+2) ac ae mi (pj n)
 |0=>by
  have n1:∀vs H Q E,¬mx 0 vs H Q E:=λvs H Q E ⟨kv,v,k,d,fp,_,_,_,_,_,hd,_⟩=>absurd d.gB (by omega);have n2:∀vs H Q E,¬pj 0 vs H Q E:=λvs H Q E ⟨a,u,v,k,d,fp,_,_,_,_,_,_,hd,_⟩=>absurd d.gB (by omega);exact⟨⟨λvs H Q E h=>absurd h (n1 vs H Q E),λA outer s H args us vs Q E _ _ _ _ h=>absurd h (n1 vs H Q E)⟩,⟨λvs H Q E h=>absurd h (n2 vs H Q E),λA outer s H args us vs Q E _ _ _ _ h=>absurd h (n2 vs H Q E)⟩⟩
 |n+1=>by
  obtain⟨V_,T_⟩:=CJ T J L U Y n;have Tr:=JE n T U T_ J V_;exact⟨JG n T J V_ L (JB n T L J V_) U Tr Y (CI T Y),Tr⟩
noncomputable def iT:List (List LP)->List LP
 |[]=>[]
 |b::r=>dn 44::(b++iT r)
noncomputable def iP:List (List LP)->List LP
 |[]=>[]
 |b::r=>b++iT r
noncomputable def Ds.fk:Ds->Fs->List (List LP)
 | .cons _ d r,.cons x k fs=>(gu x::dn 58::d.tk k)::r.fk fs
 |_,_=>[]
noncomputable def Ds.eI:Ds->Kd->List (List LP)
 | .nil,_=>[]
 | .cons _ d r,k=>d.tk k::r.eI k
theorem CK:∀(m:Ds) (fs:Fs),m.fJ fs=iT (m.fk fs)
 | .nil,fs=>by unfold Ds.fJ Ds.fk;rfl
 | .cons _ d r,.nil=>by unfold Ds.fJ Ds.fk;rfl
 | .cons _ d r,.cons x k fs=>by
   rw[Ds.fJ,Ds.fk,iT,CK r fs];rfl
theorem CL (m:Ds)(fs:Fs):m.fY fs=iP (m.fk fs):=by
 cases m with
 |nil=>unfold Ds.fY Ds.fk;rfl
 |cons y d r=>
  cases fs with
  |nil=>unfold Ds.fY Ds.fk;rfl
  |cons x k fs=>rw[Ds.fY,Ds.fk,iP,CK r fs];rfl
theorem CM (k:Kd):∀xs:Ds,xs.gv k=iT (xs.eI k)
 | .nil=>by unfold Ds.gv Ds.eI;rfl
 | .cons _ d r=>by rw[Ds.gv,Ds.eI,iT,CM k r]
theorem px (k:Kd)(xs:Ds):xs.er k=iP (xs.eI k):=by
 cases xs with
 |nil=>unfold Ds.er Ds.eI;rfl
 |cons y d r=>rw[Ds.er,Ds.eI,iP,CM k r]
theorem CN (b:List LP):∀l:List (List LP),iT (l++[b])=iT l++dn 44::b
 |[]=>by show dn 44::(b++[])=_;rw[Q0n];rfl
 |c::r=>by show dn 44::(c++iT (r++[b]))=dn 44::(c++iT r)++_;rw[CN b r];simp
theorem my {l:List (List LP)}{i:Nat}{b:List LP}(h:l[i]? =some b):iP (l.take (i+1))=iP (l.take i)++((if i=0 then [] else [dn 44])++b):=by
 rw[Q18,h];show iP (l.take i++[b])=_;by_cases J:i=0
 . subst J;rw[if_pos rfl];show b++[]=[]++b;rw[Q0n];rfl
 . rw[if_neg J]
   cases e:l.take i with
   |nil=>
    have h1:(l.take i).length=0:=by rw[e];rfl
    rw[Q0k] at h1;have h2:=(List.getElem?_eq_some_iff.mp h).1;omega
   |cons c r=>
    show c++iT (r++[b])=(c++iT r)++_;rw[CN];simp
theorem CO:∀(l:List (List LP)) (i:Nat),(iT (l.take i)).length<=(iT l).length
 |[],i=>by rw[Q2k];exact Q00 _
 |b::r,0=>Q06 _
 |b::r,i+1=>by
  have:=CO r i;show(dn 44::(b++iT (r.take i))).length<=(dn 44::(b++iT r)).length;simp only[Q02,Q01];omega
theorem uY (l:List (List LP))(i:Nat):(iP (l.take i)).length<=(iP l).length:=by
 cases l with
 |nil=>rw[Q2k];exact Q00 _
 |cons b r=>
  cases i with
  |zero=>exact Q06 _
  |succ i=>
   have:=CO r i;show(b++iT (r.take i)).length<=(b++iT r).length;simp only[Q01];omega
theorem uZ:∀{m:Ds}{fs:Fs}{i:Nat}{x:Str}{k:Kd}{d:D},d4 m fs->fs.at i=some (x,k)->m.at i=some d->(m.fk fs)[i]? =some (gu x::dn 58::d.tk k)
 | .nil,.nil,_,_,_,_,_,e,_=>by cases e
 | .nil,.cons _ _ _,_,_,_,_,h,_,_=>by unfold d4 at h;exact h.elim
 | .cons _ _ _,.nil,_,_,_,_,h,_,_=>by unfold d4 at h;exact h.elim
 | .cons y d r,.cons z q fs,0,x,k,d',h,e,J=>by
   cases e;cases J;unfold Ds.fk;rfl
 | .cons y d r,.cons z q fs,i+1,x,k,d',h,e,J=>by
   rw[d4] at h;unfold Ds.fk;exact uZ (m:=r) (i:=i) h.2.2 e J
theorem u0:∀{m:Ds}{fs:Fs},d4 m fs->(m.fk fs).length=fs.names.length
 | .nil,.nil,_=>rfl
 | .nil,.cons _ _ _,h=>by unfold d4 at h;exact h.elim
 | .cons _ _ _,.nil,h=>by unfold d4 at h;exact h.elim
 | .cons y d r,.cons x k fs,h=>by
   rw[d4] at h;unfold Ds.fk;show(r.fk fs).length+1=fs.names.length+1;rw[u0 h.2.2]
theorem pz {k:Kd}:∀{xs:Ds}{i:Nat}{d:D},xs.at i=some d->(xs.eI k)[i]? =some (d.tk k)
 | .nil,_,_,e=>by cases e
 | .cons x d r,0,_,e=>by cases e;unfold Ds.eI;rfl
 | .cons x d r,i+1,d',e=>by unfold Ds.eI;exact pz (xs:=r) (i:=i) e
theorem rE (k:Kd):∀xs:Ds,(xs.eI k).length=xs.len
 | .nil=>rfl
 | .cons x d r=>by unfold Ds.eI;show(r.eI k).length+1=r.len+1;rw[rE k r]
theorem u3 (x:Str):di (sl x)=x:=jb x
end Pb
namespace L2
open Spec PyProof.Rows
section
variable {prog:Program}{w:World}{A:Around}{E:Value->Shared->Prop}{s:Shared}
theorem rF {j a:Addr}{i:Nat}{vs:Array Value}{v:Value}{Q:Value->Shared->Prop}(h1:s.heap.IsTupleIter j a i)(h2:s.heap.IsTuple a vs)(U:vs[i]? =some v)(q:∀h',h'.IsTupleIter j a (i+1)->Heap.SameBut j s.heap h'->Q v { s with heap:=h' }):
 wpAny (model prog w) A (Builtin.SmallTypes.nextOf (.ref j)) Q E s:=by
 obtain⟨ob,L,Y,J⟩:=id h1;obtain⟨ot,k1,_,nt,k2⟩:=h2;unfold Builtin.SmallTypes.nextOf;refine Q0 (wpAny_callSpecial?_slot (name:=Str.ofString "__next__") h1.typeIs F.slot_tuple_iterator_next (wpAny_call_entry F.slot_tuple_iterator_next h1.typeIs F.entry_tuple_iterator_next ?_ (F.args_tuple_iterator_next_1 _)));show wpAny _ _ (field (.ref j) 0 >>= _) _ _ s;refine Q0 (wpAny_field L J (x:=.ref a) rfl ?_);show wpAny _ _ (if(Value.ref a == Value.none)=true then _ else _) _ _ s;rw[if_neg (show ¬((Value.ref a == Value.none)=true) from Bool.false_ne_true)];show wpAny _ _ (field (.ref j) 1 >>= _) _ _ s;refine Q0 (wpAny_field L J (x:=.int i 0) rfl ?_);show wpAny _ _ (seqItems? (.ref a) >>= _) _ _ s;refine Q0 (wpAny_seqItems k1 k2 ?_);simp only[Q2,U];refine Q0 (wpAny_setField L J (by simp) (Q08 ⟨v,rfl,Q08 (q _ ?_ (Heap.SameBut.update ..))⟩));exact⟨_,Q2u _ L (Obj.isFreed_of_fields (Obj.data_mapFields J _)),(Obj.cls_mapFields ..).trans Y,by rw[Obj.data_mapFields J];simp[rawInt]⟩
theorem u4 {j a:Addr}{i:Nat}{vs:Array Value}{Q:Value->Shared->Prop}(U:A.handled=none)(h1:s.heap.IsTupleIter j a i)(h2:s.heap.IsTuple a vs)(Y:vs[i]? =none)
 (q:∀h' e,Heap.ExtBut j s.heap h'->(∃o,h'.get? e=some o/\o.cls=.type "StopIteration")->E (.ref e) { s with heap:=h' }):wpAny (model prog w) A (Builtin.SmallTypes.nextOf (.ref j)) Q E s:=by
 obtain⟨ob,J,g2,L⟩:=id h1;obtain⟨ot,k1,_,nt,k2⟩:=h2;unfold Builtin.SmallTypes.nextOf;refine Q0 (wpAny_callSpecial?_slot (name:=Str.ofString "__next__") h1.typeIs F.slot_tuple_iterator_next (wpAny_call_entry F.slot_tuple_iterator_next h1.typeIs F.entry_tuple_iterator_next ?_ (F.args_tuple_iterator_next_1 _)));show wpAny _ _ (field (.ref j) 0 >>= _) _ _ s;refine Q0 (wpAny_field J L (x:=.ref a) rfl ?_);show wpAny _ _ (if(Value.ref a == Value.none)=true then _ else _) _ _ s;rw[if_neg (show ¬((Value.ref a == Value.none)=true) from Bool.false_ne_true)];show wpAny _ _ (field (.ref j) 1 >>= _) _ _ s;refine Q0 (wpAny_field J L (x:=.int i 0) rfl ?_);show wpAny _ _ (seqItems? (.ref a) >>= _) _ _ s;refine Q0 (wpAny_seqItems k1 k2 ?_);simp only[Q2,Y];refine Q0 (wpAny_rule (Q0 (wpAny_setField J L (by simp) ?_)));show wpAny _ _ (newExc (.type "StopIteration") [] >>= _) _ _ _;refine Q0 ?_;simp only[newExc,newTuple];refine Q0 (wpAny_newObj_type ?_ (by size_fits));refine Q0 (m:=firstArgMember _ _) (wpAny_of_eq (a:=Value.none) (by first|rfl|(simp only[firstArgMember];rfl)) ?_);refine wpAny_newObj_type ?_ (by size_fits);simp only[raiseNew];refine Q0 (wpAny_handled ?_)
 (first|rw[show A.in1.handled=none from U]|rw[U]);refine Q0 (Q08 (wpAny_throw ?_))
 exact q _ _ (((Heap.SameBut.update ..).extBut.push _).push _) ⟨_,Q0f _ rfl,rfl⟩
end
theorem CP {prog:Program}{w:World}{A:Around}(Y:A.handled=none)(j a:Addr)(L:a≠j)(vs:Array Value):Draws prog w A j [j,a] vs.size (λi v=>vs[i]? =some v) (λi h=>h.IsTupleIter j a i/\h.IsTuple a vs) where
 live:=λ_ _ st=>let⟨o,J,_⟩:=st.1;⟨o,J⟩
 frame:=λ_ _ _ st hk=>⟨(let⟨o,J,r⟩:=st.1;⟨o,hk j (by simp) o J,r⟩),(let⟨o,J,r⟩:=st.2;⟨o,hk a (by simp) o J,r⟩)⟩
 item:=λi s Q E hi st hQ=>rF st.1 st.2 (v:=vs[i]) (by simp[hi]) λh' g1 U=>hQ _ h' s.toks (by simp[hi]) ⟨g1,st.2.extBut U.extBut L⟩ U
 done:=λs Q E st hE=>u4 Y st.1 st.2 (by simp) hE
theorem JH (l:Addr)(J:Array Value)(n:Nat)(dct:Option Addr)(sl:Array (Option Value)):
 Meets (Builtin.«enumerate.__new__» ⟨[.type "enumerate",.ref l],[]⟩) (λ_ R s=>s.heap.get? l=some { cls:=.type "tuple",dict:=dct,data:=.seq J n,slots:=sl }/\
  R (.ok (.ret (.ref (s.heap.push { cls:=.type "tuple_iterator",data:=.fields #[.ref l,.int 0 0] }).objs.size)))
    { s with heap:=(s.heap.push { cls:=.type "tuple_iterator",data:=.fields #[.ref l,.int 0 0] }).push { cls:=.type "enumerate",data:=.fields #[.none,.bool false,.ref s.heap.objs.size,rawInt 0,.none,.none] } }):=
 .of_wp λprog w A R s h=>by
   obtain⟨hp,g,d,tk,os⟩:=s;obtain⟨L,h⟩:=h;have U:=sub_enumerate;have tL:Heap.IsTuple (Shared.heap ⟨hp,g,d,tk,os⟩) l J:=⟨_,L,rfl,n,rfl⟩
   wp_walk using AutoSeq1.wpAny_loadPart' L
   refine wpAny_stack_any λst=>Q08 ?_;split
   . rename_i c _ _ _ _ _;cases(c == Value.type "enumerate")
     . wp_walk using AutoSeq1.wpAny_loadPart' L,wpAny_pyIter_tuple tL
       exact⟨_,rfl,h⟩
     . wp_walk using AutoSeq1.wpAny_loadPart' L,wpAny_pyIter_tuple tL
       exact⟨_,rfl,h⟩
   . wp_walk using AutoSeq1.wpAny_loadPart' L,wpAny_pyIter_tuple tL
     exact⟨_,rfl,h⟩
theorem JI {prog:Program}{w:World}{A:Around}{E:Value->Shared->Prop}{s:Shared}{l:Addr}{J:Array Value}{Q:Value->Shared->Prop}(hT:s.heap.IsTuple l J)
 (h:∀h',IsEnum h' (s.heap.objs.size+1) s.heap.objs.size 0 .none->h'.IsTupleIter s.heap.objs.size l 0->(∀b o,s.heap.get? b=some o->h'.get? b=some o)->Q (.ref (s.heap.objs.size+1)) { s with heap:=h' }):wpAny (model prog w) A (call (.type "enumerate") [.ref l]) Q E s:=by
 obtain⟨⟨c,dct,dt,sl⟩,e1,L,n,U⟩:=hT;have L:c=.type "tuple":=L;have U:dt=.seq J n:=U;subst L U;refine callType_new F.called_enumerate (by decide) (F.typeCall_enumerate_1 _) (F.newCall_enumerate_1 _) (λobj=>F.args_object_init_2 obj _) F.entry_enumerate_new (JH l J n dct sl) ⟨e1,?_⟩;have sz:(s.heap.push { cls:=.type "tuple_iterator",data:=.fields #[.ref l,.int 0 0] }).objs.size=s.heap.objs.size+1:=Q16 ..;show _/\_;rw[sz]
 have Y:IsEnum ((s.heap.push { cls:=.type "tuple_iterator",data:=.fields #[.ref l,.int 0 0] }).push { cls:=.type "enumerate",data:=.fields #[.none,.bool false,.ref s.heap.objs.size,rawInt 0,.none,.none] }) (s.heap.objs.size+1) s.heap.objs.size 0 .none:=by
  have:=Q0f (s.heap.push { cls:=.type "tuple_iterator",data:=.fields #[.ref l,.int 0 0] }) (o:={ cls:=.type "enumerate",data:=.fields #[.none,.bool false,.ref s.heap.objs.size,rawInt 0,.none,.none] }) rfl;rw[sz] at this;exact this
 exact⟨⟨_,Y,rfl⟩,h _ Y ⟨_,Q04 _ (Q0f _ rfl),rfl,rfl⟩ λb o x=>Q04 _ (Q04 _ x)⟩
noncomputable def pA (K:W.Frag) (a:Addr):It:=
 ⟨λi H=>∃xs x,du K H a xs/\xs[i]? =some x,
  λi H x H'=>∃p y,H p=none/\x=.ref p/\(∀xs,du K H a xs->xs[i]? =some y)/\H'=upd H p (.tup [.int i,y]),
  λi H=>∃xs,du K H a xs/\xs.length=i⟩
theorem JJ {P:Program}{w:World}{K:W.Frag}{af:List Expr}{k:Nat}{tpos:Pos}{a e it:Addr}(aa:e≠it):
 Turn P w K (.Tuple af k tpos) (pA K a) [e,it] e (λi h=>∃U,IsEnum h e it (i:Int) U/\h.IsTupleIter it a i) where
 mem:=by simp
 obj:=λi h st b L=>by
  obtain⟨U,h1,h2⟩:=st;have L:b=e\/b=it:=by simpa using L
  rcases L with rfl|rfl
  . exact⟨_,h1,λv z=>by
     have z:Data.fields _=Data.cell v:=z
     cases z⟩
  . obtain⟨o,q,c,d⟩:=h2;exact⟨o,q,λv z=>by rw[d] at z;cases z⟩
 keep:=λi h h' st k=>by
  obtain⟨U,h1,h2⟩:=st;obtain⟨o,q,r⟩:=h2;exact⟨U,k e (by simp) _ h1,o,k it (by simp) o q,r⟩
 item:=by
  intro X hP hw hK hc i pins s σ H E I hf st hg;subst hP hw hK;obtain⟨U,h1,h2⟩:=st;obtain⟨xs,x,hq,hx⟩:=hg;obtain⟨J,rv,p,hz⟩:=I.tuple hq;obtain⟨u,hu,ru⟩:=rv.get hx;obtain⟨e0,e1,e2,e3,e4,e5⟩:=hf e (by simp);obtain⟨f0,f1,f2,f3,f4,f5⟩:=hf it (by simp);have fr:H s.heap.objs.size=none:=I.hok.fresh (Q00 _);have tp:s.heap.IsTuple a J.toArray:=p
  have ea:e≠a:=λz=>by
   obtain⟨o,q,c,_⟩:=tp;rw[<-z,h1] at q
   cases q;exact absurd (show Value.type "enumerate"=Value.type "tuple" from c) (by decide)
  have ia:a≠it:=λz=>by
   obtain⟨o,q,c,_⟩:=tp;obtain⟨o',q',c',_⟩:=h2;rw[z,q'] at q
   cases q;rw[c] at c';exact absurd c' (by decide)
  have il:i<J.toArray.size:=by
   have:=(List.getElem?_eq_some_iff.mp hu).1;rw[Q0e];exact this
  refine wpAny_pyNext_enum_itemD (CP (show X.A.in1.handled=none from I.ok.hd hc) it a ia J.toArray) h1 ⟨h2,tp⟩ il aa (by simp[aa,ea]) λu' h' tk ab q1 q2 q3 qz q5=>?_
  have eu:u'=u:=by
   have ab:J.toArray[i]? =some u':=ab;have ac:J.toArray[i]? =some u:=by simpa using hu
   rw[ab] at ac;exact Option.some.inj ac
  subst eu;refine⟨_,rfl,wpAny_letOwnedTupleGo_enum (s:={ s with heap:=h',toks:=tk+1 }) q1 λY g1 g2=>?_⟩;have ag:∀b o,s.heap.get? b=some o->b≠s.heap.objs.size:=λb o q=>Q0c (Q03 q);have kk:∀b o,b≠e->b≠it->s.heap.get? b=some o->Y.get? b=some o:=λb o n1 n2 q=>g2.extBut b o n1 (q5 b o n1 n2 q);have pe:s.heap.objs.size≠e:=Q0r (Q03 h1);have tup:Y.get? s.heap.objs.size=some { cls:=.type "tuple",data:=.seq #[.int i tk,u'] }:=g2.extBut _ _ pe q3
  have I1:Inv X pins σ (upd H s.heap.objs.size (.tup [.int i,x])) { s with heap:=Y,toks:=tk+1 }:=by
   refine I.step (g':=s.gens) (d':=s.drawn) (ch:=[e,it]) (λb L=>?_) (λb o _ _ hc q _=>?_) (λb o _ _ hc q _=>?_) (λb o _ q n=>?_) (λb o hc q=>?_) (λb ys q=>?_) (λb o v q=>?_) (λb ps q=>?_) (λm hm=>?_) (λb o q=>?_) I.bare
   . have L:b=e\/b=it:=by simpa using L
     rcases L with rfl|rfl
     . exact⟨e3,e1,e4,e5⟩
     . exact⟨f3,f1,f4,f5⟩
   . exact kk b o (λz=>hc (by simp[z])) (λz=>hc (by simp[z])) q
   . exact⟨o.slots,kk b o (λz=>hc (by simp[z])) (λz=>hc (by simp[z])) q⟩
   . rw[dg (ag b o q)];exact n
   . exact⟨o,kk b o (λz=>hc (by simp[z])) (λz=>hc (by simp[z])) q⟩
   . rw[dg (dA q fr)];exact q
   . rw[dg (dA q fr)];exact q
   . exact⟨#[],by rw[dg (dA q fr),q];simp⟩
   . obtain⟨o,es,ep,ho,r⟩:=hm;exact⟨o,es,ep,kk _ o (Ne.symm e1) (Ne.symm f1) ho,r⟩
   . by_cases L:b=s.heap.objs.size
     . subst L;rw[dw] at q;cases q;refine⟨Pb.gC,[.int i tk,u'],.cons ⟨_,rfl⟩ (.cons ru .nil),?_⟩;exact⟨_,tup,rfl,_,rfl⟩
     . rw[dg L] at q;refine(I.hok b o q).stay (λc v ae z=>kk c v ?_ ?_ z) (λc z=>by rw[dg (dA z fr)];exact z) λc ys z=>by rw[dg (dA z fr)];exact z
       . rcases ae with z|z
         . rw[z];exact dA q e0
         . exact dA z e0
       . rcases ae with z|z
         . rw[z];exact dA q f0
         . exact dA z f0
  refine⟨.ref s.heap.objs.size,_,I1,rfl,⟨s.heap.objs.size,x,fr,rfl,λys hy=>by rw[I.p0 hy hq];exact hx,rfl⟩,⟨u',?_,q2.1.extBut g2.extBut (Ne.symm aa)⟩,λb L=>?_⟩
  . have ei:((i+1:Nat):Int)=(i:Int)+1:=by omega
    show IsEnum Y e it ((i+1:Nat):Int) u';rw[ei];exact g1
  . have ah:b=e\/b=it:=by simpa using L
    have ai:b<s.heap.objs.size:=by
     rcases ah with rfl|rfl
     . exact Q03 h1
     . obtain⟨o,q,_⟩:=h2;exact Q03 q
    rw[dg (Q0c ai)];exact(hf b L).1
 done:=by
  intro X hP hw hK hc i pins s σ H E I hf st hg;subst hP hw hK;obtain⟨U,h1,h2⟩:=st;obtain⟨xs,hq,hx⟩:=hg;obtain⟨J,rv,p,hz⟩:=I.tuple hq;obtain⟨f0,f1,f2,f3,f4,f5⟩:=hf it (by simp);have hl:=rv.length;have tp:s.heap.IsTuple a J.toArray:=p
  have ia:a≠it:=λz=>by
   obtain⟨o,q,c,_⟩:=tp;obtain⟨o',q',c',_⟩:=h2;rw[z,q'] at q
   cases q;rw[c] at c';exact absurd c' (by decide)
  have ei:i=J.toArray.size:=by rw[Q0e];omega
  subst ei;exact wpAny_pyNext_enum_endD (CP (show X.A.in1.handled=none from I.ok.hd hc) it a ia J.toArray) h1 ⟨h2,tp⟩ λh' eb=>⟨rfl,I.turned (t':=s.toks) (λb o L q=>eb b o L q) f0 f1 f3 f4 f5⟩
 self:=λA i s Q E st q=>by
  obtain⟨U,h1,_⟩:=st;exact wpAny_pyIter_enum h1 q
def JK (K:W.Frag) (ta:TA):TI:=λσ H R=>ta σ H λvs H1=>∃a,vs=[.ref a]/\(∃xs,du K H1 a xs)/\R (pA K a) H1
section
variable {X:Cx}
theorem CQ {a:Expr}{ta:TA}{p pos tpos:Pos}{U:List Expr}{k:Nat}(hg:Gl X "enumerate")(hm:X.mg "enumerate"=none)(ha:PA X [a] ta)(hs:starEach [a] X.env=[(false,eval a X.env)]:=by rfl):
 PI X (.Tuple U k tpos) (.Call (.Name "enumerate" p) [a] [] pos) (JK X.K ta):=by
 intro pins s σ H R I h;refine Call_ (j0 I hg hm Af (PyProof.Rows.callWith_type1 (dD (ha pos pins s σ H _ I h) λus J zq=>?_) hs rfl));obtain⟨vs,H1,Y,r1,q1⟩:=zq;obtain⟨l,e,⟨xs,hq⟩,q⟩:=q1;subst e;obtain⟨u,rfl,ru⟩:=vals1 r1
 cases ru;obtain⟨aa,rv,pl,hz⟩:=Y.tuple hq;refine JI (show J.heap.IsTuple l aa.toArray from pl) λh' q1 q2 q4=>?_;refine wpAny_pyIter_enum q1 ?_;have I2:Inv X pins σ H1 { J with heap:=h' }:=Y.kept (t':=J.toks) q4;refine⟨J.heap.objs.size+1,[J.heap.objs.size+1,J.heap.objs.size],_,_,H1,rfl,I2,JJ (Q0r (Q1a _)),⟨.none,q1,q2⟩,λb L=>?_,q⟩
 have L:J.heap.objs.size<=b:=by
  have L:b=J.heap.objs.size+1\/b=J.heap.objs.size:=by simpa using L
  rcases L with z|z
  . rw[z];exact Q15 _
  . rw[z];exact Q00 _
 exact Y.jI L (Y.hok.fresh L)
end
end L2
namespace Pb
open L2
theorem CS {K:PySem.W.Frag}{a:Addr}{xs:List V}{g:TG}{tb:TS}{D:Ends}{σ:St}{H:Hp}(Pv:Nat->St->Hp->Prop)(h0:Pv 0 σ H)(hl:∀i σ H,i<=xs.length->Pv i σ H->du K H a xs)
 (hs:∀(i:Nat) y σ H p,xs[i]? =some y->Pv i σ H->H p=none->g (.ref p) σ (upd H p (.tup [.int i,y])) λJ H2=>tb { D with nx:=Pv (i+1),ct:=Pv (i+1),bk:=D.nx } J H2) (hd:∀σ H,Pv xs.length σ H->D.nx σ H):
 ∃W:Nat->Nat->St->Hp->Prop,(∃m,W 0 m σ H)/\∀i m σ H,W i m σ H->
  ((pA K a).stop i H/\D.nx σ H)\/((pA K a).go i H/\∃N:St->Hp->Prop,(∀L H',N L H'->∃Y,Y<m/\W (i+1) Y L H')/\∀x H',(pA K a).jH i H x H'->g x σ H' λJ H2=>tb { D with nx:=N,ct:=N,bk:=D.nx } J H2):=by
 refine⟨λi m σ H=>m=xs.length - i/\i<=xs.length/\Pv i σ H,⟨xs.length,by simp,Q06 _,h0⟩,?_⟩;rintro i m σ H ⟨rfl,hi,p⟩;by_cases U:i<xs.length
 . refine .inr ⟨⟨xs,xs[i],hl i σ H hi p,by simp[U]⟩,Pv (i+1),λL H' p'=>⟨xs.length - (i+1),by omega,rfl,U,p'⟩,λx H' y=>?_⟩;obtain⟨q,y,hq,rfl,hy,rfl⟩:=y;exact hs i y σ H q (hy xs (hl i σ H hi p)) p hq
 . have e:i=xs.length:=by omega
   subst e;exact .inl ⟨⟨xs,hl _ σ H (Q00 _) p,rfl⟩,hd σ H p⟩
end Pb
namespace Pb
open L2 PyProof.Rows
def mz (n:Nat):Sp:=λvs H Q _=>∃J v k d fp,vs=[J,v]/\KA H J k/\k.W/\Own H v d fp/\eA d k/\d.dep<=n/\(d.tk k).length<=1000/\∀p H',Same H H'->H p=none->H' p=some (.lst (PL (d.tk k)))->Q (.ref p) H'
def CU (n:Nat):Sp:=λvs H Q _=>∃b v xs fs m fp,vs=[.ref b,v]/\H b=some (.tup xs)/\FA H xs fs/\fs.names.Nodup/\fs.W/\fs.names.length<=3/\Own H v (.dct m) fp/\d4 m fs/\m.dep<=n/\(m.fY fs).length+2<=1000/\∀p H',Same H H'->H p=none->H' p=some (.lst (PL (dn 123::(m.fY fs++[dn 125]))))->Q (.ref p) H'
def CV (n:Nat):Sp:=λvs H Q _=>∃J v k xs l f,vs=[J,.ref l]/\KA H J k/\k.W/\H l=some (.lst v)/\dz H v xs f/\eP xs k/\xs.dep<=n/\(xs.er k).length<=1000/\∀p H',Same H H'->H p=none->H' p=some (.lst (PL (xs.er k)))->Q (.ref p) H'
theorem pB {H H1:Hp}{p:Addr}{o:HO}(s:Same H H1)(h:H p=none):Same H (upd H1 p o):=λc u e=>by
 rw[dg (dA e h)];exact s c u e
theorem CY:V.str (Str.ofString ",")=SX (eO (dn 44)):=by decide +kernel
theorem CZ:V.str (Str.ofString ":")=SX (eO (dn 58)):=by decide +kernel
theorem C0 (x:Str):V.str x=SX (eO (gu x)):=by show _=V.str (di (sl x));rw[u3]
theorem jC {n:Nat}(h:n<=4000):n<=sizeLine:=Q07 h (by decide)
variable {P:Program}{w:World}{K:W.Frag}{mg:Str->Option Value}{base:Heap}
theorem JL:d9 ["_law_kind_here","_law_values","_law_pieces","_law_k","_law_value_here"] XY (dN (top 44)):=eG
theorem JM (n:Nat)(T:Tb mg)(aa:Dn K mg "_law_many_pieces" oM (top 44) ab ac)(J:Dn K mg "_law_value_pieces" jR (top 45) L U)(Y:dj P w K mg base dm (3 * n+3) L U jR (mz n)):dj P w K mg base dm (3 * n+4) ab ac oM (CV n):=by
 refine aa.F.ok JL λvs H Q E h=>?_;obtain⟨kv,v,k,xs,l,f,rfl,hk,hW,hl,hO,hS,au,ak,fin⟩:=h;refine⟨rfl,λav A outer s nd hr hu=>?_⟩
 refine⟨_,(dh (dI 2 nd (gm b_))
  (dh (i9 PassesOwn.never rfl (sX rfl T.oJ (a_ (pv 1) b_)) (j4 rfl (gK (e8 (i:=3) nd rfl gh) (gK (e8 (i:=4) nd rfl gh) j3))) (dh (dM (dQ j6 (pv 3) c_ (dP _)) (dq (fC (gA PySem.F.plainAttrs_list PySem.F.slot_list_append PySem.F.type_list_append iA (pv 2) (a_ dv b_)))) dO)
  (dq (fC (gA PySem.F.plainAttrs_list PySem.F.slot_list_extend PySem.F.type_list_extend zT (pv 2) (a_ (dJ Y hr J (a_ (pv 0) (a_ (pv 4) b_))) b_))))))
  (dq (dF (pv 2))))),?_⟩
 ac_rfl
 have ai:=dz.len xs hO;rw[px] at ak fin;refine⟨lr,λp hp=>?_⟩;refine⟨_,rfl,l,rfl,⟨_,dy.of (by rw[dg (dA hl hp)];exact hl)⟩,uC (xs:=v) (λi σ H'=>Same H H'/\H' p=some (.lst (PL (iP ((xs.eI k).take i))))/\∃x y,σ=[some kv,some (.ref l),some (.ref p),x,y]) ⟨Same.new hp,dw,_,_,rfl⟩ ?_ ?_ ?_⟩
 . rintro i σ H' _ ⟨s1,_⟩;exact dy.of (s1 _ _ hl)
 . rintro i y σ H' pp hy ⟨s1,ae,x0,y0,rfl⟩ al;obtain⟨d,fd,af,am,_⟩:=dz.get xs hO hy;obtain⟨an,_,_⟩:=hS.at af;have aw:=Ds.iU af;have hb:=pz (k:=k) af;have et:=my hb;have ao:=uY (xs.eI k) (i+1);have ar:=uY (xs.eI k) i
   have hsz:(iP ((xs.eI k).take i)).length+((if i=0 then [] else [dn 44]):List LP).length+(d.tk k).length<=1000:=by
    rw[et,Q01,Q01] at ao;omega
   have s2:Same H' (upd H' pp (.tup [.int i,y])):=Same.new al;have p2:upd H' pp (.tup [.int i,y]) pp=some (.tup [.int i,y]):=dw;have sa:=s1.trans s2;have ag:=s2 _ _ ae;generalize upd H' pp (.tup [.int i,y])=H2 at *;refine⟨pp,_,rfl,du.of p2,rfl,_,_,rfl,_,_,rfl,rfl,?_⟩;dsimp only[fU];refine o8 (A:=lP _ _ _) (λap H'=>ap=[some kv,some (.ref l),some (.ref p),some (.int i),some y]/\Same H H'/\H' p=some (.lst (PL (iP ((xs.eI k).take i)++if i=0 then [] else [dn 44])))) ?_ (λhB=>?_)
   . rintro _ H3 ⟨rfl,s3,ah⟩;refine⟨_,rfl,.inl ⟨rfl,_,dy.of ah⟩,_,rfl,_,rfl,kv,y,k,d,fd,rfl,KA.mono (Tu.of s3) k hk,hW,am.same s3,an,by omega,by omega,λp4 H4 s4 aj aq=>?_⟩;have ax:p≠p4:=dA ah aj;refine⟨p,p4,_,_,rfl,rfl,s4 _ _ ah,aq,?_,?_⟩
     . rw[gI,gI,Q01];exact jC (by omega)
     . refine⟨pB (s3.trans s4) hp,?_,_,_,rfl⟩;rw[dw,et,<-jA,Q0j]
   . refine⟨_,rfl,_,_,rfl,rfl,_,rfl,?_⟩;by_cases h0:i=0
     . subst h0;rw[decide_eq_false (show ¬(0:Int)<((0:Nat):Int) by decide)];refine dE (hB _ _ ⟨rfl,sa,?_⟩);rw[if_pos rfl,Q0n];exact ag
     . rw[decide_eq_true (show(0:Int)<(i:Int) by omega)];refine dS ⟨_,rfl,.inl ⟨rfl,_,dy.of ag⟩,p,_,_,rfl,rfl,ag,?_,?_⟩
       . rw[gI];exact Q0q (show _<=1000 by omega) (by decide)
       . refine hB _ _ ⟨rfl,pB sa hp,?_⟩;rw[dw,if_neg h0,jA,CY];rfl
 . rintro σ H' ⟨s1,ae,x0,y0,rfl⟩;have e:(xs.eI k).take v.length=xs.eI k:=Q1d (by rw[rE,ai];exact Q00 _);rw[e] at ae;exact⟨_,rfl,fin p H' s1 hp ae⟩
theorem JN:d9 ["_law_fields_here","_law_value_here","_law_pieces","_law_k","_law_pair"] XR (dN (top 43)):=eG
theorem JP (n:Nat)(T:Tb mg)(J:Dn K mg "_law_record_pieces" oN (top 43) L U)(Y:Dn K mg "_law_value_pieces" jR (top 45) aa ab)(ac:dj P w K mg base dm (3 * n+3) aa ab jR (mz n)):dj P w K mg base dm (3 * n+4) L U oN (CU n):=by
 refine J.F.ok JN λvs H Q E h=>?_;obtain⟨b,v,xs,fs,m,fp,rfl,hb,hA,ao,hW,h3,hO,hS,ap,aq,fin⟩:=h;refine⟨rfl,λaH A outer s nd hr hu=>?_⟩
 refine⟨_,(dh (dI 2 nd (gm (a_ dv b_)))
  (dh (i9 PassesOwn.never rfl (CQ rfl T.oJ (a_ (pv 0) b_)) (j4 rfl (gK (e8 (i:=3) nd rfl gh) (gK (e8 (i:=4) nd rfl gh) j3))) (dh (dM (dQ j6 (pv 3) c_ (dP _)) (dq (fC (gA PySem.F.plainAttrs_list PySem.F.slot_list_append PySem.F.type_list_append iA (pv 2) (a_ dv b_)))) dO)
  (dq (fC (gA PySem.F.plainAttrs_list PySem.F.slot_list_extend PySem.F.type_list_extend zT (pv 2) (a_ (dk jK (gm (a_ (dR (pv 4) c_) (a_ dv b_))) (dJ ac hr Y (a_ (dR (pv 4) c_) (a_ (j9 hu (pv 1) (dR (pv 4) c_) (λ_ _=>rfl)) b_)))) b_))))))
  (dq (dF (dk jK (pv 2) (gm (a_ dv b_))))))),?_⟩
 ac_rfl
 obtain⟨r,kvs,aI,rfl,ar,hO⟩:=kU hO;rw[CL] at aq fin;have au:xs.length=(m.fk fs).length:=by rw[FA.len fs hA,u0 hS]
 have al:V.str (Str.ofString "{")=SX (eO (dn 123)):=by decide +kernel
 have am:V.str (Str.ofString "}")=SX (eO (dn 125)):=by decide +kernel
 refine⟨iW,λp hp=>?_⟩;refine⟨_,rfl,b,rfl,⟨_,du.of (by rw[dg (dA hb hp)];exact hb)⟩,CS (xs:=xs) (λi σ H'=>Same H H'/\H' p=some (.lst (PL (dn 123::iP ((m.fk fs).take i))))/\∃x y,σ=[some (.ref b),some (.ref r),some (.ref p),x,y]) ⟨Same.new hp,by rw[dw,al];rfl,_,_,rfl⟩ ?_ ?_ ?_⟩
 . rintro i σ H' _ ⟨s1,_⟩;exact du.of (s1 _ _ hb)
 . rintro i y σ H' pp hy ⟨s1,af,x0,y0,rfl⟩ av;obtain⟨c,u,x,k,rfl,ai,hc,hk⟩:=FA.get fs hA hy;obtain⟨d,hg,aw,ax,_,_⟩:=hS.at ao ai;obtain⟨vd,fd,an,ay,_⟩:=hO.val m hg;have kz:=uZ hS ai aw;have et:=my kz;have az:=uY (m.fk fs) (i+1)
   have hsz:(iP ((m.fk fs).take i)).length+((if i=0 then [] else [dn 44]):List LP).length+((d.tk k).length+2)<=998:=by
    rw[et,Q01,Q01,Q02,Q02] at az;omega
   have s2:Same H' (upd H' pp (.tup [.int i,.ref c])):=Same.new av;have p2:upd H' pp (.tup [.int i,.ref c]) pp=some (.tup [.int i,.ref c]):=dw;have sa:=s1.trans s2;have aj:=s2 _ _ af;generalize upd H' pp (.tup [.int i,.ref c])=H2 at *;refine⟨pp,_,rfl,du.of p2,rfl,_,_,rfl,_,_,rfl,rfl,?_⟩;dsimp only[fU];refine o8 (A:=lP _ _ _) (λaA H'=>aA=[some (.ref b),some (.ref r),some (.ref p),some (.int i),some (.ref c)]/\Same H H'/\H' p=some (.lst (PL (dn 123::(iP ((m.fk fs).take i)++if i=0 then [] else [dn 44]))))) ?_ (λhB=>?_)
   . rintro _ H3 ⟨rfl,s3,ak⟩;refine⟨_,rfl,.inl ⟨rfl,_,dy.of ak⟩,_,rfl,c,_,_,_,rfl,rfl,du.of (s3 _ _ hc),rfl,gC,λpq ag=>?_⟩;have sq:Same H3 (upd H3 pq (.lst [.str x,.str ":"])):=Same.new ag;have aB:upd H3 pq (.lst [.str x,.str ":"]) pq=some (.lst [.str x,.str ":"]):=dw;have aC:=sq _ _ ak;have s4:=s3.trans sq;generalize upd H3 pq (.lst [.str x,.str ":"])=H4 at *;have g1:gc H4 r (.str x) (some vd):=by have:=gc.k (k:=Sum.inr x) (s4 _ _ ar);rw[an] at this;exact this
     refine⟨_,rfl,c,_,_,_,rfl,rfl,du.of (s4 _ _ hc),rfl,_,rfl,_,rfl,c,_,_,_,rfl,rfl,du.of (s4 _ _ hc),rfl,r,vd,rfl,g1,u,vd,k,d,fd,rfl,KA.mono (Tu.of s4) k hk,Fs.l6 hW ai,ay.same s4,ax,Q07 (Ds.oI hg) ap,by omega,λp5 H5 s5 aG aD=>?_⟩;refine⟨pq,p5,_,_,rfl,rfl,s5 _ _ aB,aD,by rw[gI];show 2+_<=sizeLine;exact jC (by omega),λpr ae=>?_⟩;have ah:=s5 _ _ aC;have aE:p≠pr:=dA ah ae
     have ep:[V.str x,V.str ":"]++PL (d.tk k)=PL (gu x::dn 58::d.tk k):=by
      show V.str x::V.str ":"::PL (d.tk k)=SX (eO (gu x))::SX (eO (dn 58))::PL (d.tk k);rw[C0 x,CZ]
     rw[ep];refine⟨p,pr,_,_,rfl,rfl,by rw[dg aE];exact ah,dw,?_,?_⟩
     . rw[gI,gI,Q02,Q01,Q02,Q02];exact jC (by omega)
     . refine⟨pB ((s4.trans s5).trans (Same.new ae)) hp,?_,_,_,rfl⟩;rw[dw,et,<-jA];simp
   . refine⟨_,rfl,_,_,rfl,rfl,_,rfl,?_⟩;by_cases h0:i=0
     . subst h0;rw[decide_eq_false (show ¬(0:Int)<((0:Nat):Int) by decide)];refine dE (hB _ _ ⟨rfl,sa,?_⟩);rw[if_pos rfl,Q0n];exact aj
     . rw[decide_eq_true (show(0:Int)<(i:Int) by omega)];refine dS ⟨_,rfl,.inl ⟨rfl,_,dy.of aj⟩,p,_,_,rfl,rfl,aj,?_,?_⟩
       . rw[gI,Q02];exact Q0q (show _<=1001 by omega) (by decide)
       . refine hB _ _ ⟨rfl,pB sa hp,?_⟩;rw[dw,if_neg h0,show dn 123::(iP ((m.fk fs).take i)++[dn 44])=(dn 123::iP ((m.fk fs).take i))++[dn 44] from rfl,jA,CY];rfl
 . rintro σ H' ⟨s1,af,x0,y0,rfl⟩;rw[au,Q13] at af;refine⟨_,rfl,iW,λpq ag=>?_⟩;have aF:p≠pq:=dA af ag;refine⟨p,pq,_,_,rfl,rfl,by rw[dg aF];exact af,dw,?_,λpr ae=>?_⟩
   . rw[gI,Q02];show _+1<=_;exact jC (by omega)
   refine fin pr _ ((s1.trans (Same.new ag)).trans (Same.new ae)) ?_ ?_
   . cases e:H pr with
     |none=>rfl
     |some o=>
      have:=((s1.trans (Same.new (o:=.lst [.str "}"]) ag)) _ _ e);rw[this] at ae;cases ae
   . rw[dw,show dn 123::(iP (m.fk fs)++[dn 125])=(dn 123::iP (m.fk fs))++[dn 125] from rfl,jA,am];rfl
end Pb
namespace Pb
open L2
def rG (J:It) (H:Hp) (xs:List V):Prop:=(∀i x,xs[i]? =some x->J.go i H)/\(∀i x H',J.jH i H x H'->H'=H/\xs[i]? =some x)/\J.stop xs.length H
theorem C1 {K:W.Frag}{H:Hp}{a:Addr}{xs:List V}(h:du K H a xs):rG (mH K a) H xs:=⟨λ_ _ e=>⟨_,_,h,e⟩,λ_ _ _ y=>⟨y.1,y.2 _ h⟩,_,h,Q00 _⟩
def CW (F:Nat->List V) (n:Nat) (H:Hp) (i m:Nat) (ys:List V) (H':Hp):Prop:=m=n - i/\i<=n/\ys=F i/\(F i).length<=i/\H'=H
theorem C2 {J:It}{H:Hp}{xs:List V}{S:List V->Hp->Prop}{C:(Nat->Nat->List V->Hp->Prop)->Nat->Nat->List V->V->Hp->Prop}(hJ:rG J H xs)(F:Nat->List V)(aa:xs.length<=1000)
 (q:S (F xs.length) H) (step:∀i x,xs[i]? =some x->(∀y,F (i+1)=F i++[y]->∃Y,Y<xs.length - i/\CW F xs.length H (i+1) Y (F i++[y]) H)->(F (i+1)=F i->∃Y,Y<xs.length - i/\CW F xs.length H (i+1) Y (F i) H)->C (CW F xs.length H) i (xs.length - i) (F i) x H) (h0:F 0=[]:=by rfl):
 ∃W:Nat->Nat->List V->Hp->Prop,(∃m,W 0 m [] H)/\∀i m ys H',W i m ys H'->(J.stop i H'/\S ys H')\/(J.go i H'/\ys.length<sizeLine/\∀x U,J.jH i H' x U->C W i m ys x U):=by
 refine⟨CW F xs.length H,⟨_,rfl,Q06 _,h0.symm,by rw[h0];exact Q00 0,rfl⟩,?_⟩;rintro i m ys H' ⟨rfl,hi,rfl,hl,rfl⟩;by_cases L:i<xs.length
 . refine .inr ⟨hJ.1 i _ (Q0a L),hX (by omega),λx U y=>?_⟩;obtain⟨rfl,hx⟩:=hJ.2.1 _ _ _ y;exact step i x hx (λy e=>⟨_,Q2l _ _ L,rfl,L,e.symm,by rw[e,Q01];exact Nat.succ_le_succ hl,rfl⟩) (λe=>⟨_,Q2l _ _ L,rfl,L,e.symm,by rw[e];omega,rfl⟩)
 . cases Q3j hi (Q1j L);exact .inl ⟨hJ.2.2,q⟩
theorem JQ {J:It}{xs:List V}{g:TG}{tb:TS}{D:Ends}{σ:St}{H:Hp}(Pv:Nat->St->Hp->Prop)(h0:Pv 0 σ H)(hl:∀i σ H,i<=xs.length->Pv i σ H->rG J H xs)
 (hs:∀i x σ H,xs[i]? =some x->Pv i σ H->g x σ H λU H2=>tb { D with nx:=Pv (i+1),ct:=Pv (i+1),bk:=D.nx } U H2) (hd:∀σ H,Pv xs.length σ H->D.nx σ H):
 ∃W:Nat->Nat->St->Hp->Prop,(∃m,W 0 m σ H)/\∀i m σ H,W i m σ H->
  (J.stop i H/\D.nx σ H)\/(J.go i H/\∃N:St->Hp->Prop,(∀Y H',N Y H'->∃m',m'<m/\W (i+1) m' Y H')/\∀x H',J.jH i H x H'->g x σ H' λU H2=>tb { D with nx:=N,ct:=N,bk:=D.nx } U H2):=by
 refine⟨λi m σ H=>m=xs.length - i/\i<=xs.length/\Pv i σ H,⟨xs.length,rfl,Q06 _,h0⟩,?_⟩;rintro i m σ H ⟨rfl,hi,p⟩;have q:=hl i σ H hi p;by_cases L:i<xs.length
 . refine .inr ⟨q.1 i _ (Q0a L),Pv (i+1),λY H' p'=>⟨_,Q2l _ _ L,rfl,L,p'⟩,λx H' y=>?_⟩;obtain⟨rfl,hx⟩:=q.2.1 _ _ _ y;exact hs i x σ _ hx p
 . cases Q3j hi (Q1j L);exact .inl ⟨q.2.2,hd _ _ p⟩
end Pb
namespace Pb
open L2 PyProof.Rows
theorem kW {H H1:Hp}{p:Addr}(s:Same H H1)(h:H1 p=none):H p=none:=by
 cases e:H p with
 |none=>rfl
 |some o=>rw[s _ _ e] at h;cases h
theorem Fs.C3:∀{fs:Fs}{x:Str}{k:Kd},fs.get x=some k->∃i,fs.at i=some (x,k)
 | .nil,_,_,h=>by cases h
 | .cons y q r,x,k,h=>by
   have h:(if x=y then some q else r.get x)=some k:=h;split at h
   . rename_i e;cases h;exact⟨0,by rw[e];rfl⟩
   . obtain⟨i,hi⟩:=Fs.C3 h;exact⟨i+1,hi⟩
theorem Fs.JR {fs:Fs}(L:fs.names.Nodup){i j:Nat}{x:Str}{k U:Kd}(h1:fs.at i=some (x,k))(h2:fs.at j=some (x,U)):i=j:=by
 have e1:fs.names[i]? =some x:=by rw[Fs.iD,h1];rfl
 have J:fs.names[j]? =some x:=by rw[Fs.iD,h2];rfl
 obtain⟨hi,e1⟩:=List.getElem?_eq_some_iff.mp e1;obtain⟨Y,J⟩:=List.getElem?_eq_some_iff.mp J;exact(Q19 L).mp (e1.trans J.symm)
variable {P:Program}{w:World}{K:W.Frag}{mg:Str->Option Value}{base:Heap}
theorem JS:d9 Xa XU (dN (top 45)):=eG
theorem JT (n:Nat)(T:Tb mg)(J:Dn K mg "_law_value_pieces" jR (top 45) L U)(Y:dj P w K mg base dm (3 * n+3) L U jR (mz n))(ac:Dn K mg "_law_record_pieces" oN (top 43) ae af)(ag:dj P w K mg base dm (3 * n+4) ae af oN (CU n))(aa:Dn K mg "_law_many_pieces" oM (top 44) ah ai)(ab:dj P w K mg base dm (3 * n+4) ah ai oM (CV n)):dj P w K mg base dm ((3 * n+5)+1) L U jR (mz (n+1)):=by
 refine J.F.ok JS λvs H Q E h=>?_;obtain⟨kv,v,k,d,fp,rfl,hk,hW,hO,hS,au,aj,fin⟩:=h;refine⟨rfl,λa8 A outer s nd hr hu=>?_⟩
 refine⟨_,(dh (dM (dQ eh (dR (pv 0) c_) dv (dP _)) (dq (dF (gm (a_ (n9 AG (by rfl) T.lq boot_str (a_ (pv 1) b_)) b_)))) dO)
  (dh (dM (dQ eh (dR (pv 0) c_) dv (dP _)) (dq (dF (gm (a_ (dk fe (dk fe dv (pv 1)) dv) b_)))) dO)
  (dh (dM (dQ eh (dR (pv 0) c_) dv (dP _)) (dq (dF (dJ ag hr ac (a_ (dR (pv 0) c_) (a_ (pv 1) b_))))) dO)
  (dh (dM (dQ eh (dR (pv 0) c_) dv (dP _)) (dq (dF (dk jK (dk jK (gm (a_ dv b_)) (dJ ab hr aa (a_ (f_ (a_ dv (a_ (dR (pv 0) c_) b_))) (a_ (pv 1) b_)))) (gm (a_ dv b_))))) dO)
  (dh (dM (dQ eh (dR (pv 0) c_) dv (dP _)) (dh (dI 2 nd (dk jK (gm (a_ dv b_)) (dJ Y hr J (a_ (dR (pv 0) c_) (a_ (dR (pv 1) c_) b_)))))
  (dh (dM (dQ j6 (dX js (by rfl) T.gG PySem.boot_len (a_ (dR (pv 1) c_) b_)) c_ (dP _)) (dq (fC (gA PySem.F.plainAttrs_list PySem.F.slot_list_append PySem.F.type_list_append iA (pv 2) (a_ dv b_)))) dO)
  (dq (dF (dk jK (dk jK (pv 2) (dJ ab hr aa (a_ (pv 0) (a_ (dR (pv 1) c_) b_)))) (gm (a_ dv b_))))))) dO)
  (dh (Ac (i:=3) nd rfl gh (g:=(fU 0)) (tt:=(qt (gL qp (gL (j8 K) (eV 0) (tC (.int 0))) (gL (j8 K) (eV 2) (tC (.int 0)))))) (te:=(gL (j8 K) (eV 0) (tC (.int 1)))) (own:=["_law_pair"]) rfl (jO (N:=Xa) (sc:=dN (top 45))) (nZ (dR (pv 0) c_)) (λ_ _ _ _ _=>(e8 (i:=0) (show(["_law_pair","_law_kind_here","_law_value_here","_law_head","_law_inner"]:List Str).Nodup by decide +kernel) rfl (Or.inl rfl) (.inr rfl))) (λ_ _ _ _ _=>(Gy (dQ eh (dR (pv 0) c_) (dR (pv 2) c_) (dP _)))) (λ_ _ _ _ _=>(dR (pv 0) c_)))
  (dq (dF (dk jK (dk jK (gm (a_ (dR (pv 1) c_) (a_ dv b_))) (dJ Y hr J (a_ (gX (pv 3) c_) (a_ (dR (pv 1) c_) b_)))) (gm (a_ dv b_))))))))))),?_⟩
 ac_rfl
 have inv:=hS.inv
 cases k with
 |num=>
  obtain⟨i,rfl,hi⟩:=inv;rw[jW hO];unfold KA at hk;obtain⟨a,rfl,ha⟩:=hk;refine kh rfl ha rfl (by decide +kernel) ?_;refine⟨_,rfl,i,rfl,log2_small hi,iW,λp hp=>?_⟩;refine fin p _ (Same.new hp) hp ?_;unfold D.tk;rw[dw]
  have e:SX (eO (false,mq i))=V.str (Str.ofString (toString i)):=by
   show V.str (di (gz i))=_;unfold gz;rw[jb]
  show some (HO.lst [V.str (Str.ofString (toString i))])=some (.lst [SX (eO (false,mq i))]);rw[e]
 |eM=>
  obtain⟨x,rfl,hx⟩:=inv;rw[i4 hO];unfold KA at hk;obtain⟨a,rfl,ha⟩:=hk;refine fx rfl ha rfl (by decide +kernel) ?_;refine kh rfl ha rfl (by decide +kernel) ?_;have q1:Str.ofString "\""=di [34]:=by decide +kernel
  have aK:(sl x).length<=40:=hx.1;refine⟨_,rfl,_,_,rfl,rfl,by rw[q1,<-jb x];exact fX (by show 1+(sl x).length<=_;omega),?_⟩;have e1:Str.ofString "\""++x=di (34::sl x):=by rw[q1,<-jb x];exact fy _ _
  rw[e1];refine⟨_,_,rfl,rfl,by rw[q1];exact fX (by show _+1+1<=_;omega),?_⟩;rw[q1,fy];refine⟨iW,λp hp=>fin p _ (Same.new hp) hp ?_⟩;unfold D.tk;rw[dw];rfl
 |dG fs=>
  obtain⟨m,rfl,hm⟩:=inv;unfold KA at hk;obtain⟨a,b,xs,rfl,ha,hb,am⟩:=hk;unfold Kd.W at hW;unfold D.dep at au;have e:(D.dct m).tk (.dG fs)=dn 123::(m.fY fs++[dn 125]):=by rw[D.tk]
  rw[e] at aj fin;simp only[Q02,Q01,Q0l] at aj;refine fx rfl ha rfl (by decide +kernel) ?_;refine fx rfl ha rfl (by decide +kernel) ?_;refine kh rfl ha rfl (by decide +kernel) ?_;exact⟨_,rfl,a,_,_,_,rfl,rfl,du.of ha,rfl,_,rfl,b,_,xs,fs,m,fp,rfl,hb,am,hW.1,hW.2.2,hW.2.1,hO,hm,by omega,by omega,fin⟩
 |rows key aL fs=>
  obtain⟨as,rfl,aA⟩:=inv;unfold KA at hk;obtain⟨a,b,xs,rfl,ha,hb,am⟩:=hk;unfold Kd.W at hW;unfold D.dep at au;have e:(D.lst as).tk (.rows key aL fs)=dn 91::(as.er (.dG fs)++[dn 93]):=by rw[D.tk]
  rw[e] at aj fin;simp only[Q02,Q01,Q0l] at aj;obtain⟨la,vs,f3,rfl,av,aw⟩:=jB hO;have aM:V.str (Str.ofString "[")=SX (eO (dn 91)):=by decide +kernel
  have aN:V.str (Str.ofString "]")=SX (eO (dn 93)):=by decide +kernel
  refine fx rfl ha rfl (by decide +kernel) ?_;refine fx rfl ha rfl (by decide +kernel) ?_;refine fx rfl ha rfl (by decide +kernel) ?_;refine kh rfl ha rfl (by decide +kernel) ?_;refine⟨iW,λp1 aB=>?_⟩;have s1:Same H (upd H p1 (.lst [.str "["])):=Same.new aB;have e1:upd H p1 (.lst [.str "["]) p1=some (.lst [.str "["]):=dw;generalize upd H p1 (.lst [.str "["])=H1 at *;refine⟨_,rfl,a,_,_,_,rfl,rfl,du.of (s1 _ _ ha),rfl,gC,λkp aO=>?_⟩;have s2:Same H1 (upd H1 kp (.tup [.str "record",.ref b])):=Same.new aO;have e2:upd H1 kp (.tup [.str "record",.ref b]) kp=some (.tup [.str "record",.ref b]):=dw;generalize upd H1 kp (.tup [.str "record",.ref b])=H2 at *;have ak:=s1.trans s2;refine⟨_,rfl,.ref kp,vs,.dG fs,as,la,f3,rfl,by unfold KA;exact⟨kp,b,xs,rfl,e2,ak _ _ hb,FA.mono (Tu.of ak) fs am⟩,by unfold Kd.W;exact⟨hW.1,hW.2.1,hW.2.2.1⟩,ak _ _ av,dz.same ak aw,aA,by omega,by omega,λp3 H3 s3 ay aq=>?_⟩;refine⟨p1,p3,_,_,rfl,rfl,s3 _ _ (s2 _ _ e1),aq,by rw[gI];show 1+_<=_;exact jC (by omega),λp4 ao=>?_⟩;have s4:Same H3 (upd H3 p4 (.lst ([V.str "["]++PL (as.er (.dG fs))))):=Same.new ao;have e4:upd H3 p4 (.lst ([V.str "["]++PL (as.er (.dG fs)))) p4=some (.lst ([V.str "["]++PL (as.er (.dG fs)))):=dw;generalize upd H3 p4 (.lst ([V.str "["]++PL (as.er (.dG fs))))=H4 at *;refine⟨iW,λp5 ar=>?_⟩;have aC:p4≠p5:=dA e4 ar;refine⟨p4,p5,_,_,rfl,rfl,by rw[dg aC];exact e4,dw,by rw[Q01,gI];show 1+_+1<=_;exact jC (by omega),λp6 an=>?_⟩;have sz:=((ak.trans s3).trans s4).trans (Same.new (o:=.lst [.str "]"]) ar);refine fin p6 _ (sz.trans (Same.new an)) (kW sz an) ?_;rw[dw,show dn 91::(as.er (.dG fs)++[dn 93])=[dn 91]++as.er (.dG fs)++[dn 93] from rfl,jA,jA,aM,aN];rfl
 |tree k=>
  obtain⟨y,z,t,as,rfl,aP,aA⟩:=inv;obtain⟨tr,ut,ua,f1,f2,rfl,al,aQ,aS⟩:=rD hO;obtain⟨la,vs,f3,rfl,av,aw⟩:=jB aS;have az:=dz.len as aw;have ap:=hk;unfold KA at hk;obtain⟨a,u,rfl,ha,aD⟩:=hk;have aT:k.W:=by unfold Kd.W at hW;exact hW
  rw[rm] at aj fin;simp only[D.dep,Ds.dep] at au;simp only[Q02,Q01,Q0l] at aj;have aU:V.str (Str.ofString "<")=SX (eO (dn 60)):=by decide +kernel
  have aW:V.str (Str.ofString ">")=SX (eO (dn 62)):=by decide +kernel
  refine fx rfl ha rfl (by decide +kernel) ?_;refine fx rfl ha rfl (by decide +kernel) ?_;refine fx rfl ha rfl (by decide +kernel) ?_;refine fx rfl ha rfl (by decide +kernel) ?_;refine kh rfl ha rfl (by decide +kernel) ?_;refine⟨iW,λp1 aB=>?_⟩;have s1:Same H (upd H p1 (.lst [.str "<"])):=Same.new aB;have e1:upd H p1 (.lst [.str "<"]) p1=some (.lst [.str "<"]):=dw;generalize upd H p1 (.lst [.str "<"])=H1 at *;refine⟨_,rfl,a,_,_,_,rfl,rfl,du.of (s1 _ _ ha),rfl,_,rfl,tr,_,_,_,rfl,rfl,du.of (s1 _ _ al),rfl,u,ut,k,t,f1,rfl,KA.mono (Tu.of s1) k aD,aT,aQ.same s1,aP,by omega,by omega,λp3 H3 s3 ay aq=>?_⟩;refine⟨p1,p3,_,_,rfl,rfl,s3 _ _ e1,aq,by rw[gI];show 1+_<=_;exact jC (by omega),λp4 ao=>?_⟩;have aE:=s1.trans s3;have s4:Same H (upd H3 p4 (.lst ([V.str "<"]++PL (t.tk k)))):=aE.trans (Same.new ao);have e4:upd H3 p4 (.lst ([V.str "<"]++PL (t.tk k))) p4=some (.lst (PL (dn 60::t.tk k))):=by rw[dw,aU];rfl
  have aX:=kW aE ao;generalize upd H3 p4 (.lst ([V.str "<"]++PL (t.tk k)))=H4 at *;dsimp only[fU];refine o8 (A:=lP _ _ _) (λaY H'=>aY=[some (.ref a),some (.ref tr),some (.ref p4),none]/\Same H H'/\H' p4=some (.lst (PL (dn 60::t.tk k++as.col)))) ?_ (λhB=>?_)
  . rintro _ H5 ⟨rfl,s5,e5⟩;refine⟨_,rfl,_,rfl,_,rfl,tr,_,_,_,rfl,rfl,du.of (s5 _ _ al),rfl,.ref a,vs,.tree k,as,la,f3,rfl,KA.mono (Tu.of s5) (.tree k) ap,hW,s5 _ _ av,dz.same s5 aw,aA,by omega,by omega,λp6 H6 s6 a7 an=>?_⟩;refine⟨p4,p6,_,_,rfl,rfl,s6 _ _ e5,an,by rw[gI,gI,Q01,Q02];exact jC (by omega),λp7 aZ=>?_⟩;have s7:Same H6 (upd H6 p7 (.lst (PL (dn 60::t.tk k++as.col)++PL (as.er (.tree k))))):=Same.new aZ;have e7:upd H6 p7 (.lst (PL (dn 60::t.tk k++as.col)++PL (as.er (.tree k)))) p7=some (.lst (PL (dn 60::t.tk k++as.col)++PL (as.er (.tree k)))):=dw;generalize upd H6 p7 (.lst (PL (dn 60::t.tk k++as.col)++PL (as.er (.tree k))))=H7 at *;refine⟨iW,λp8 aF=>?_⟩;have a1:p7≠p8:=dA e7 aF;refine⟨p7,p8,_,_,rfl,rfl,by rw[dg a1];exact e7,dw,by rw[Q01,gI,gI,Q01,Q02];show _+1<=_;exact jC (by omega),λp9 aG=>?_⟩;have sz:=((s5.trans s6).trans s7).trans (Same.new (o:=.lst [.str ">"]) aF);refine fin p9 _ (sz.trans (Same.new aG)) (kW sz aG) ?_;have e9:dn 60::(t.tk k++(as.col++(as.er (.tree k)++[dn 62])))=(dn 60::t.tk k++as.col)++as.er (.tree k)++[dn 62]:=by simp
    rw[dw,e9,aW];show some (HO.lst (PL (dn 60::t.tk k++as.col)++PL (as.er (.tree k))++PL [dn 62]))=_;rw[<-jA,<-jA]
  . refine⟨_,rfl,tr,_,_,_,rfl,rfl,du.of (s4 _ _ al),rfl,la,vs,rfl,.inl (dy.of (s4 _ _ av)),_,_,rfl,rfl,_,rfl,?_⟩
    cases as with
    |nil=>
     have:vs.length=0:=az;rw[decide_eq_false (show ¬(0:Int)<(vs.length:Int) by omega)];refine dE (hB _ _ ⟨rfl,s4,?_⟩);unfold Ds.col;rw[Q0n];exact e4
    |cons y' d' r'=>
     have:vs.length=r'.len+1:=az;rw[decide_eq_true (show(0:Int)<(vs.length:Int) by omega)];refine dS ⟨_,rfl,.inl ⟨rfl,_,dy.of e4⟩,p4,_,_,rfl,rfl,e4,?_,?_⟩
     . rw[gI,Q02];exact Q0q (show _<=1001 by omega) (by decide)
     . refine hB _ _ ⟨rfl,pB s4 aX,?_⟩;unfold Ds.col;rw[dw,jA,CZ];rfl
 |eR fs=>
  obtain⟨y,z,x,vd,rfl,hx,ax⟩:=inv;obtain⟨tr,ux,uv,f1,f2,rfl,al,a2,a3⟩:=rD hO;rw[i4 a2] at al;unfold KA at hk;obtain⟨a,b,xs,rfl,ha,hb,am⟩:=hk;unfold Kd.W at hW;obtain⟨k',ap⟩:=Fs.ny hx;rw[ap] at ax;rw[rn,ap] at aj fin;have ax:eA vd k':=ax;have aj:(gu x::tgt::(vd.tk k'++[dn 41])).length<=1000:=aj;have fin:∀p H',Same H H'->H p=none->H' p=some (.lst (PL (gu x::tgt::(vd.tk k'++[dn 41]))))->Q (.ref p) H':=fin;simp only[D.dep,Ds.dep] at au;simp only[Q02,Q01,Q0l] at aj;have ct:V.str (Str.ofString "!(")=SX (eO tgt):=by decide +kernel
  have a4:V.str (Str.ofString ")")=SX (eO (dn 41)):=by decide +kernel
  obtain⟨j,hj⟩:=Fs.C3 ap;obtain⟨c,u,aH,hc,aD⟩:=FA.at am hj;have aK:xs.length<=3:=by rw[FA.len fs am];exact hW.2.1
  refine fx rfl ha rfl (by decide +kernel) ?_;refine fx rfl ha rfl (by decide +kernel) ?_;refine fx rfl ha rfl (by decide +kernel) ?_;refine fx rfl ha rfl (by decide +kernel) ?_;refine fx rfl ha rfl (by decide +kernel) ?_;refine⟨_,rfl,a,_,_,_,rfl,rfl,du.of ha,rfl,b,rfl,⟨_,du.of hb⟩,C2 (C1 (du.of hb)) (λi=>if j<i then [u] else []) (by omega) (λp hp=>?_) (λi z hv a5 skip=>?_) (if_neg (Q1w _))⟩
  . rw[if_pos (List.getElem?_eq_some_iff.mp aH).1];have s1:Same H (upd H p (.lst [u])):=Same.new hp;have e1:upd H p (.lst [u]) p=some (.lst [u]):=dw;generalize upd H p (.lst [u])=H1 at *;refine⟨_,rfl,tr,_,_,_,rfl,rfl,du.of (s1 _ _ al),rfl,gC,λp2 a6=>?_⟩;have s2:Same H1 (upd H1 p2 (.lst [.str x,.str "!("])):=Same.new a6;have e2:upd H1 p2 (.lst [.str x,.str "!("]) p2=some (.lst [.str x,.str "!("]):=dw;generalize upd H1 p2 (.lst [.str x,.str "!("])=H2 at *;have ak:=s1.trans s2;refine⟨_,rfl,p,_,_,_,rfl,rfl,dy.of (s2 _ _ e1),hV (j:=0) rfl,_,rfl,tr,_,_,_,rfl,rfl,du.of (ak _ _ al),rfl,u,uv,k',vd,f2,rfl,KA.mono (Tu.of ak) k' aD,Fs.nv hW.2.2.2 ap,a3.same ak,ax,by omega,by omega,λp3 H3 s3 ay aq=>?_⟩;refine⟨p2,p3,_,_,rfl,rfl,s3 _ _ e2,aq,by rw[gI];show 2+_<=_;exact jC (by omega),λp4 ao=>?_⟩;have s4:Same H3 (upd H3 p4 (.lst ([V.str x,V.str "!("]++PL (vd.tk k')))):=Same.new ao;have e4:upd H3 p4 (.lst ([V.str x,V.str "!("]++PL (vd.tk k'))) p4=some (.lst ([V.str x,V.str "!("]++PL (vd.tk k'))):=dw;generalize upd H3 p4 (.lst ([V.str x,V.str "!("]++PL (vd.tk k')))=H4 at *;refine⟨iW,λp5 ar=>?_⟩;have aC:p4≠p5:=dA e4 ar;refine⟨p4,p5,_,_,rfl,rfl,by rw[dg aC];exact e4,dw,by rw[Q01,gI];show 2+_+1<=_;exact jC (by omega),λp6 an=>?_⟩;have sz:=((ak.trans s3).trans s4).trans (Same.new (o:=.lst [.str ")"]) ar);refine fin p6 _ (sz.trans (Same.new an)) (kW sz an) ?_;rw[dw,show gu x::tgt::(vd.tk k'++[dn 41])=[gu x,tgt]++vd.tk k'++[dn 41] from rfl,jA,jA,a4,C0 x,ct];rfl
  . obtain⟨d,w',nm,k2,rfl,aI,hd,a9⟩:=FA.get _ am hv;refine⟨rfl,_,rfl,d,_,_,_,rfl,rfl,du.of hd,rfl,_,rfl,tr,_,_,_,rfl,rfl,du.of al,rfl,rfl,_,rfl,eX (λcc=>?_) (λcc=>skip ?_)⟩
    . have e:nm=x:=by
       have:=of_decide_eq_true cc;injection this
      subst e
      cases Fs.JR hW.1 aI hj;rw[aH] at hv
      cases hv;rw[hc] at hd
      cases hd;refine⟨_,rfl,c,_,_,_,rfl,rfl,du.of hc,rfl,a5 _ ?_⟩;rw[if_neg (Q10 _),if_pos (Q1a _)];rfl
    . have ne:i≠j:=λe=>by
       subst e;rw[aI] at hj
       cases hj;exact cc (decide_eq_true rfl)
      by_cases aJ:j<i
      . rw[if_pos aJ,if_pos (by omega)]
      . rw[if_neg aJ,if_neg (by omega)]
theorem C4 (T:Tb mg)(J:Dn K mg "_law_value_pieces" jR (top 45) Y aa)(L:Dn K mg "_law_record_pieces" oN (top 43) ab ac)(U:Dn K mg "_law_many_pieces" oM (top 44) ae af):∀n:Nat,dj P w K mg base dm (3 * n+3) Y aa jR (mz n)
 |0=>by
  have n1:∀vs H Q E,¬mz 0 vs H Q E:=λvs H Q E ⟨kv,v,k,d,fp,_,_,_,_,_,hd,_⟩=>absurd d.gB (by omega);exact⟨λvs H Q E h=>absurd h (n1 vs H Q E),λA outer s H args us vs Q E _ _ _ _ h=>absurd h (n1 vs H Q E)⟩
 |n+1=>by
  have V_:=C4 T J L U n;exact JT n T J V_ L (JP n T L J V_) U (JM n T U J V_)
noncomputable def ir:List Tx:=(["as","at","by","either","is","less","not","number","on","or","rows","same","then","top","tree","with"]:List String).map λs=>(Str.ofString s).cps.toList
theorem JU:∀x∈ir,x≠[]/\x.length<=12/\∀c∈x,gn c=true:=by decide +kernel
theorem rH:ir.length=16:=by decide +kernel
theorem JV:ir.Nodup:=by decide +kernel
noncomputable def lc (z:Int):Nat:=97+z.toNat
theorem JW {z:Int}(J:0<=z)(h1:z<26):gn (lc z)=true:=by
 unfold gn lc;simp only[Bool.and_eq_true,decide_eq_true_eq];omega
noncomputable def iJ (r:Int) (i:Nat):Tx:=
 if r / 12168 % 4=0 then List.replicate (i+1) (lc (r / 6 % 26))
 else if r / 12168 % 4=1 then ir.getD ((r / 6+(i:Int) * (2 * (r % 6)+1)) % 16).toNat []
 else if r / 12168 % 8=2 then [lc (r / 6 % 26),lc (r / 156 % 26),lc (r / 6 % 26),lc (r / 156 % 26),lc (r / 6 % 26),lc (r / 156 % 26),lc (r / 6 % 26),lc (r / 156 % 26),lc (r / 6 % 26),lc (r / 156 % 26),109,lc ((r / 156+(i:Int) * (2 * (r % 6)+1)) % 26)]
 else [lc (r / 6 % 26),lc (r / 156 % 26)].take (r / 4056 % 3).toNat++(lc ((r / 156+(i:Int) * (2 * (r % 6)+1)) % 26)::[lc (r / 6 % 26),lc (r / 156 % 26)].drop (r / 4056 % 3).toNat)
theorem nF (z:Int):0<=z % 26/\z % 26<26:=⟨Q0i _ (by decide),Q0h _ (by decide)⟩
theorem rJ (z:Int):0<=z % 16/\z % 16<16:=⟨Q0i _ (by decide),Q0h _ (by decide)⟩
theorem mB (z:Int):gn (lc (z % 26))=true:=JW (nF z).1 (nF z).2
theorem JX {r:Int}{i:Nat}(hi:i<12):lB (iJ r i):=by
 unfold iJ;split
 . refine⟨by rw[Q2f];exact Q12 _ _,by rw[Q0w];omega,λu J=>?_⟩;rw[Q3k J];exact mB _
 . split
   . have h:=rJ (r / 6+(i:Int) * (2 * (r % 6)+1));have hl:((r / 6+(i:Int) * (2 * (r % 6)+1)) % 16).toNat<ir.length:=by rw[rH];omega
     rw[Q0m,Q0a hl];exact JU _ (Q1r hl)
   . split
     . refine⟨Q12 _ _,Q00 12,λu J=>?_⟩;simp only[Q0s,Q0t,or_false] at J;have J:u=lc (r / 6 % 26)\/u=lc (r / 156 % 26)\/u=109\/u=lc ((r / 156+(i:Int) * (2 * (r % 6)+1)) % 26):=by rcases J with h|h|h|h|h|h|h|h|h|h|h|h <;> first|exact .inl h|exact .inr (.inl h)|exact .inr (.inr (.inl h))|exact .inr (.inr (.inr h))
       rcases J with rfl|rfl|rfl|rfl
       . exact mB _
       . exact mB _
       . decide
       . exact mB _
     . refine⟨by simp,?_,λu J=>?_⟩
       . have:[lc (r / 6 % 26),lc (r / 156 % 26)].length=2:=rfl;simp only[Q01,Q0k,Q02,Q0z,Q0l];omega
       . have J:u∈[lc (r / 6 % 26),lc (r / 156 % 26)]\/u=lc ((r / 156+(i:Int) * (2 * (r % 6)+1)) % 26):=by
          rcases List.mem_append.mp J with h|h
          . exact .inl (Q2j h)
          . rcases List.mem_cons.mp h with h|h
            . exact .inr h
            . exact .inl (List.mem_of_mem_drop h)
         simp only[Q0s,Q0t,or_false] at J;rcases J with(rfl|rfl)|rfl
         . exact mB _
         . exact mB _
         . exact mB _
theorem C5a:∀i:Nat,i<12->∀j:Nat,j<12->∀s:Nat,s<6->((((i:Int) * (2 * (s:Int)+1)-(j:Int) * (2 * (s:Int)+1)) % 26=0->i=j)/\(((i:Int) * (2 * (s:Int)+1)-(j:Int) * (2 * (s:Int)+1)) % 16=0->i=j)):=by decide +kernel
theorem C5 {m N:Int}{s:Int}{i j:Nat}(J:N=26\/N=16)(L:s=0\/s=1\/s=2\/s=3\/s=4\/s=5)(hi:i<12)(U:j<12)(e:(m+(i:Int) * (2 * s+1)) % N=(m+(j:Int) * (2 * s+1)) % N):i=j:=by
 have e:=Int.emod_eq_emod_iff_emod_sub_eq_zero.mp e;rw[show m+(i:Int) * (2 * s+1) - (m+(j:Int) * (2 * s+1))=(i:Int) * (2 * s+1) - (j:Int) * (2 * s+1) by generalize(i:Int) * (2 * s+1)=x;generalize(j:Int) * (2 * s+1)=y;omega] at e
 have:∃k:Nat,k<6/\s=(k:Int):=by rcases L with h|h|h|h|h|h;exact⟨0,by decide,h⟩;exact⟨1,by decide,h⟩;exact⟨2,by decide,h⟩;exact⟨3,by decide,h⟩;exact⟨4,by decide,h⟩;exact⟨5,by decide,h⟩
 obtain⟨k,hk,rfl⟩:=this;have d:=C5a i hi j U k hk;rcases J with rfl|rfl
 . exact d.1 e
 . exact d.2 e
theorem JY {r:Int}{i j:Nat}(hi:i<12)(U:j<12)(h:iJ r i=iJ r j):i=j:=by
 have Y:r % 6=0\/r % 6=1\/r % 6=2\/r % 6=3\/r % 6=4\/r % 6=5:=by
  obtain⟨k,hk⟩:=Int.eq_ofNat_of_zero_le (Int.emod_nonneg r (show(6:Int)≠0 by decide));have hl:=Int.emod_lt_of_pos r (show(0:Int)<6 by decide);rw[hk] at hl ⊢;exact(by decide:∀k:Nat,k<6->((k:Int)=0\/(k:Int)=1\/(k:Int)=2\/(k:Int)=3\/(k:Int)=4\/(k:Int)=5)) k (Int.ofNat_lt.mp hl)
 have J:lc ((r / 156+(i:Int) * (2 * (r % 6)+1)) % 26)=lc ((r / 156+(j:Int) * (2 * (r % 6)+1)) % 26)->i=j:=λe=>by
  refine C5 (.inl rfl) Y hi U (m:=r / 156) ?_;have a:=nF (r / 156+(i:Int) * (2 * (r % 6)+1));have b:=nF (r / 156+(j:Int) * (2 * (r % 6)+1));unfold lc at e;omega
 unfold iJ at h;by_cases L:r / 12168 % 4=0
 . rw[if_pos L,if_pos L] at h;have:=congrArg List.length h;rw[Q0w,Q0w] at this;omega
 . rw[if_neg L,if_neg L] at h;by_cases h1:r / 12168 % 4=1
   . rw[if_pos h1,if_pos h1] at h;have a:=rJ (r / 6+(i:Int) * (2 * (r % 6)+1));have b:=rJ (r / 6+(j:Int) * (2 * (r % 6)+1));have ha:((r / 6+(i:Int) * (2 * (r % 6)+1)) % 16).toNat<ir.length:=by rw[rH];omega
     have hb:((r / 6+(j:Int) * (2 * (r % 6)+1)) % 16).toNat<ir.length:=by rw[rH];omega
     rw[Q0m,Q0m,Q0a ha,Q0a hb] at h;have:=(Q19 JV).mp (show ir[_]=ir[_] from h);exact C5 (.inr rfl) Y hi U (m:=r / 6) (by omega)
   . rw[if_neg h1,if_neg h1] at h;by_cases h2:r / 12168 % 8=2
     . rw[if_pos h2,if_pos h2] at h;have:=congrArg (λl:List Nat=>l.getD 11 0) h;exact J this
     . rw[if_neg h2,if_neg h2] at h;exact J (List.cons.inj (List.append_cancel_left h)).1
noncomputable def lE (r:Int) (i:Nat):Str:=di (iJ r i)
theorem JZ {r:Int}{n:Nat}(J:n<=12):((List.range n).map (lE r)).Nodup:=
 HF λi j hi L e=>JY (r:=r) (by omega) (by omega) (by
  have:=congrArg (λs:Str=>s.cps.toList) e;exact this)
theorem J0 (z:Int):fg (ir.map SX) (z % 16)=some (SX (ir.getD (z % 16).toNat [])):=by
 have h:=rJ z;have hl:(z % 16).toNat<ir.length:=by rw[rH];omega
 have e:z % 16=(((z % 16).toNat:Nat):Int):=by omega
 have:=hV (show(ir.map SX)[(z % 16).toNat]? =some (SX (ir.getD (z % 16).toNat [])) by rw[Q0o,Q0m,Q0a hl];rfl);rw[<-e] at this;exact this
noncomputable abbrev h_:List V:=[.str "as",.str "at",.str "by",.str "either",.str "is",.str "less",.str "not",.str "number"]
noncomputable abbrev je:List V:=[.str "on",.str "or",.str "rows",.str "same",.str "then",.str "top",.str "tree",.str "with"]
theorem J1:h_++je=ir.map SX:=by decide +kernel
theorem C6 {x:Str}(L:x.length=1\/x.length=2){n:Nat}(h1:1<=n)(J:n<=12):MulOk x (n:Int):=by
 unfold MulOk;have J:n=1\/n=2\/n=3\/n=4\/n=5\/n=6\/n=7\/n=8\/n=9\/n=10\/n=11\/n=12:=(by decide:∀n<13,1<=n->(n=1\/n=2\/n=3\/n=4\/n=5\/n=6\/n=7\/n=8\/n=9\/n=10\/n=11\/n=12)) n (by omega) h1
 rcases L with e|e <;> rw[e] <;> rcases J with rfl|rfl|rfl|rfl|rfl|rfl|rfl|rfl|rfl|rfl|rfl|rfl <;> exact⟨by decide,λ_ _=>by decide,λ_ _=>by decide +kernel⟩
theorem u5 (c d:Nat):Txt.mul (di [c,d]) 5=di [c,d,c,d,c,d,c,d,c,d]:=by
 unfold Txt.mul;rw[if_neg (by decide)];rfl
theorem J3 (c d:Nat){k:Int}(h:k=0\/k=1\/k=2):Txt.slice (di [c,d]) none (some k)=di ([c,d].take k.toNat)/\Txt.slice (di [c,d]) (some k) none=di ([c,d].drop k.toNat):=by
 rcases h with rfl|rfl|rfl
 . exact⟨rfl,by first|rfl|with_unfolding_all rfl|(unfold Txt.slice;rfl)⟩
 . exact⟨rfl,by first|rfl|with_unfolding_all rfl|(unfold Txt.slice;rfl)⟩
 . exact⟨rfl,rfl⟩
theorem J4:d9 ["_law_script","_law_at","_law_many","_law_letters","_law_words","_law_m","_law_step","_law_stem","_law_cut","_law_names_here","_law_k","_law_sign"] XT (dN (top 32)):=eG
theorem C7 (T:Tb mg)(L:Dn K mg "_law_names" kO (top 32) U Y)(ab:Dn K mg "_law_next" ed (top 29) ac ae)(af:dj P w K mg base dm (1) ac ae ed (kP K)):dj P w K mg base dm (2) U Y kO (ra K):=by
 refine L.F.ok J4 λvs H Q E h=>?_;obtain⟨a,b,ns,n,m,rfl,hm,g,hn,q⟩:=h;refine⟨rfl,λaA A outer s nd hr hu=>?_⟩
 refine⟨_,(dh (dI 3 nd dv)
  (dh (dI 4 nd (gm (a_ dv (a_ dv (a_ dv (a_ dv (a_ dv (a_ dv (a_ dv (a_ dv b_))))))))))
  (dh (dI 4 nd (dk jK (pv 4) (gm (a_ dv (a_ dv (a_ dv (a_ dv (a_ dv (a_ dv (a_ dv (a_ dv b_)))))))))))
  (dh (dI 5 nd (dJ af hr ab (a_ (pv 0) (a_ (pv 1) b_))))
  (dh (dI 6 nd (gX (gm (a_ c_ (a_ c_ (a_ c_ (a_ c_ (a_ c_ (a_ c_ b_))))))) (dk eL (pv 5) c_)))
  (dh (dI 7 nd (dk fe (ij iQ (pv 3) (dk eL (dk gj (pv 5) c_) c_) (λ_ _=>rfl)) (ij iQ (pv 3) (dk eL (dk gj (pv 5) c_) c_) (λ_ _=>rfl))))
  (dh (dI 8 nd (dk eL (dk gj (pv 5) c_) c_))
  (dh (dI 9 nd (gm b_))
  (dh (i9 PassesOwn.never rfl (mJ rfl T.m8 (a_ (pv 2) b_)) (e8 (i:=10) nd rfl gh) (dh (dI 11 nd (ij iQ (pv 3) (dk eL (dk gE (dk gj (pv 5) c_) (dk j5 (pv 10) (pv 6))) c_) (λ_ _=>rfl)))
  (dq (dM (dQ eh (dk eL (dk gj (pv 5) c_) c_) c_ (dP _)) (dq (fC (gA PySem.F.plainAttrs_list PySem.F.slot_list_append PySem.F.type_list_append iA (pv 9) (a_ (dk qG (ij iQ (pv 3) (dk eL (dk gj (pv 5) c_) c_) (λ_ _=>rfl)) (dk gE (pv 10) c_)) b_)))) (dq (dM (dQ eh (dk eL (dk gj (pv 5) c_) c_) c_ (dP _)) (dq (fC (gA PySem.F.plainAttrs_list PySem.F.slot_list_append PySem.F.type_list_append iA (pv 9) (a_ (gX (pv 4) (dk eL (dk gE (dk gj (pv 5) c_) (dk j5 (pv 10) (pv 6))) c_)) b_)))) (dq (dM (dQ eh (dk eL (dk gj (pv 5) c_) c_) c_ (dP _)) (dq (fC (gA PySem.F.plainAttrs_list PySem.F.slot_list_append PySem.F.type_list_append iA (pv 9) (a_ (dk fe (dk fe (dk qG (pv 7) c_) dv) (pv 11)) b_)))) (dq (fC (gA PySem.F.plainAttrs_list PySem.F.slot_list_append PySem.F.type_list_append iA (pv 9) (a_ (dk fe (dk fe (lY mP (pv 7) sP (jJ (pv 8))) (pv 11)) (lY mP (pv 7) (jJ (pv 8)) sP)) b_))))))))))))
  (dq (dF (dX GC (by rfl) T.A4 boot_sorted (a_ (pv 9) b_))))))))))))),?_⟩
 ac_rfl
 have hb:=g.at_;refine⟨wu,λp1 al=>?_⟩;refine⟨_,rfl,wu,λp2 aa=>?_⟩;have u1:upd H p1 (.lst h_) p1=some (.lst h_):=dw;have au:p1≠p2:=dA u1 aa;refine⟨p1,p2,h_,je,rfl,rfl,by rw[dg au];exact u1,dw,by show 16<=sizeLine;decide,λp3 aj=>?_⟩;have s3:SB b H (upd (upd (upd H p1 (.lst h_)) p2 (.lst je)) p3 (.lst (h_++je))):=((SB.new al).trans (SB.new aa)).trans (SB.new aj)
 have h3:upd (upd (upd H p1 (.lst h_)) p2 (.lst je)) p3 (.lst (h_++je)) b=some (.lst [.int n]):=by
  have e1:upd H p1 (.lst h_) b=some (.lst [.int n]):=by rw[dg (dA hb al)];exact hb
  have e2:upd (upd H p1 (.lst h_)) p2 (.lst je) b=some (.lst [.int n]):=by rw[dg (dA e1 aa)];exact e1
  rw[dg (dA e2 aj)];exact e2
 have w3:upd (upd (upd H p1 (.lst h_)) p2 (.lst je)) p3 (.lst (h_++je)) p3=some (.lst (h_++je)):=dw
 have av:p3≠b:=λe=>by
  have e1:upd H p1 (.lst h_) b=some (.lst [.int n]):=by rw[dg (dA hb al)];exact hb
  have e2:upd (upd H p1 (.lst h_)) p2 (.lst je) b=some (.lst [.int n]):=by rw[dg (dA e1 aa)];exact e1
  rw[e,e2] at aj;cases aj
 generalize upd (upd (upd H p1 (.lst h_)) p2 (.lst je)) p3 (.lst (h_++je))=H3 at *;have g3:G0 K H3 a b ns n:=g.go s3 h3 (Q2m _);rw[J1] at w3;generalize aw:ir.map SX=WT at *;refine⟨_,rfl,_,rfl,a,b,ns,n,rfl,g3,hn,λr H6 r0 r1 s6 h6=>?_⟩;have ax:=s3.trans s6;have w6:=s6 _ _ av w3;have hz:(Str.ofString "abcdefghijklmnopqrstuvwxyz").length<=sizeLine:=by decide +kernel
 have m6:0<=r % 6/\r % 6<6:=by omega
 refine⟨A7,λp7 am=>?_⟩;refine⟨_,rfl,_,_,rfl,rfl,(by show(0:Int)<_;decide),p7,_,_,_,rfl,rfl,dy.of dw,HE m6.1 m6.2,?_⟩;have s7:SB b H (upd H6 p7 (.lst [.int 1,.int 3,.int 5,.int 7,.int 9,.int 11])):=ax.trans (SB.new am);have h7:upd H6 p7 (.lst [.int 1,.int 3,.int 5,.int 7,.int 9,.int 11]) b=some (.lst [.int (n+1)]):=by rw[dg (dA h6 am)];exact h6
 have w7:upd H6 p7 (.lst [.int 1,.int 3,.int 5,.int 7,.int 9,.int 11]) p3=some (.lst WT):=by rw[dg (dA w6 am)];exact w6
 generalize upd H6 p7 (.lst [.int 1,.int 3,.int 5,.int 7,.int 9,.int 11])=H7 at s7 h7 w7;have ix:∀z:Int,fg (Str.ofString "abcdefghijklmnopqrstuvwxyz").cps.toList (z % 26)=some (lc (z % 26)):=λz=>HD (nF z).1 (nF z).2
 refine⟨_,rfl,_,rfl,_,_,rfl,rfl,⟨by decide,by decide⟩,_,_,rfl,rfl,(by show(0:Int)<_;decide),_,_,_,rfl,rfl,hz,ix (r / 6),_,rfl,_,rfl,_,_,rfl,rfl,⟨by decide,by decide⟩,_,_,rfl,rfl,(by show(0:Int)<_;decide),_,_,_,rfl,rfl,hz,ix (r / 156),
  _,_,rfl,rfl,gC,?_⟩
 refine⟨_,rfl,_,_,rfl,rfl,⟨by decide,by decide⟩,_,_,rfl,rfl,(by show(0:Int)<_;decide),?_⟩;refine⟨lr,λp hp=>?_⟩;have ao:b≠p:=dA h7 hp;have ap:p3≠p:=dA w7 hp;have em:Int.toNat (m:Int)=m:=by omega
 generalize aB:Str.ofString "abcdefghijklmnopqrstuvwxyz"=LT at *;refine⟨_,rfl,_,rfl,by omega,by omega,mK (n:=Int.toNat (m:Int)) (λi σ H'=>∃y z,σ=[some (.ref a),some (.ref b),some (.int m),some (.str LT),some (.ref p3),some (.int r),some (.int (2 * (r % 6)+1)),some (.str (di [lc (r / 6 % 26),lc (r / 156 % 26)])),some (.int (r / 4056 % 3)),some (.ref p),y,z]/\SB b H H'/\H' b=some (.lst [.int (n+1)])/\H' p3=some (.lst WT)/\H' p=some (.lst (((List.range i).map (lE r)).map V.str))) ?_ ?_ ?_⟩
 . exact⟨_,_,rfl,s7.trans (SB.new hp),by rw[dg ao];exact h7,by rw[dg ap];exact w7,dw⟩
 . intro i σ H' hi zq;obtain⟨y,z,rfl,sb,ai,an,J⟩:=zq;rw[em] at hi
   have ah:(((List.range i).map (lE r)).map V.str).length<sizeLine:=by
    rw[Q0b,Q0b,Q1x];exact Q0q (show i<=12 by omega) (by decide)
   have ay:((List.range (i+1)).map (lE r)).map V.str=((List.range i).map (lE r)).map V.str++[SX (iJ r i)]:=by
    rw[List.range_succ,Q0p,Q0p];rfl
   generalize aC:((List.range i).map (lE r)).map V.str=ak at *
   have next:∀(v:V) (y' z':Option V),v=SX (iJ r i)->∃y z,[some (.ref a),some (.ref b),some (.int m),some (.str LT),some (.ref p3),some (.int r),some (.int (2 * (r % 6)+1)),some (.str (di [lc (r / 6 % 26),lc (r / 156 % 26)])),some (.int (r / 4056 % 3)),some (.ref p),y',z']=[some (.ref a),some (.ref b),some (.int m),some (.str LT),some (.ref p3),some (.int r),some (.int (2 * (r % 6)+1)),some (.str (di [lc (r / 6 % 26),lc (r / 156 % 26)])),some (.int (r / 4056 % 3)),some (.ref p),y,z]/\SB b H (upd H' p (.lst (ak++[v])))/\upd H' p (.lst (ak++[v])) b=some (.lst [.int (n+1)])/\upd H' p (.lst (ak++[v])) p3=some (.lst WT)/\upd H' p (.lst (ak++[v])) p=some (.lst (((List.range (i+1)).map (lE r)).map V.str)):=by
    rintro v y' z' rfl;refine⟨y',z',rfl,λc o hc hh=>?_,by rw[dg ao];exact ai,by rw[dg ap];exact an,by rw[dw,ay]⟩;have:c≠p:=dA (s7 c o hc hh) hp;rw[dg this];exact sb c o hc hh
   have e0:(0:Int)+(i:Int)=(i:Int):=by omega
   have k6:0<=2 * (r % 6)+1/\2 * (r % 6)+1<=11:=by omega
   have fin:∀X:Tx,iJ r i=X->iJ r i=X:=λ_ h=>h;unfold iJ at fin;refine⟨_,rfl,_,rfl,_,_,rfl,rfl,⟨by decide,by decide⟩,_,rfl,_,rfl,_,_,rfl,rfl,.inl ⟨by omega,by omega⟩,_,_,rfl,rfl,_,_,rfl,rfl,(by show(0:Int)<_;decide),_,_,_,rfl,rfl,hz,ix _,?_⟩;rw[e0];refine⟨_,rfl,_,_,rfl,rfl,⟨by decide,by decide⟩,_,_,rfl,rfl,(by show(0:Int)<_;decide),rfl,_,rfl,eX (λc=>?_) (λc=>?_)⟩
   . have c':r / 12168 % 4=0:=by
      have:=of_decide_eq_true c;injection this
     refine⟨_,rfl,.inl ⟨rfl,_,dy.of J⟩,_,rfl,_,rfl,_,_,rfl,rfl,⟨by decide,by decide⟩,_,_,rfl,rfl,(by show(0:Int)<_;decide),_,_,_,rfl,rfl,hz,ix (r / 6),_,rfl,_,_,rfl,rfl,_,_,rfl,rfl,?_,p,_,_,rfl,rfl,J,ah,?_⟩
     . exact C6 (.inl rfl) (n:=i+1) (by omega) (by omega)
     . refine next _ _ _ ?_;unfold iJ;rw[if_pos c'];exact congrArg V.str (BD _ i)
   . have c':¬r / 12168 % 4=0:=λz=>c (decide_eq_true (show V.int (r / 12168 % 4)=V.int 0 by rw[z]));refine⟨_,rfl,_,_,rfl,rfl,⟨by decide,by decide⟩,_,_,rfl,rfl,(by show(0:Int)<_;decide),rfl,_,rfl,eX (λd=>?_) (λd=>?_)⟩
     . have d':r / 12168 % 4=1:=by
        have:=of_decide_eq_true d;injection this
       refine⟨_,rfl,.inl ⟨rfl,_,dy.of J⟩,_,rfl,_,rfl,_,_,rfl,rfl,⟨by decide,by decide⟩,_,rfl,_,rfl,_,_,rfl,rfl,.inl ⟨by omega,by omega⟩,_,_,rfl,rfl,_,_,rfl,rfl,(by show(0:Int)<_;decide),p3,_,_,_,rfl,rfl,dy.of an,by rw[<-aw];exact J0 _,p,_,_,rfl,rfl,J,ah,next _ _ _ ?_⟩;unfold iJ;rw[if_neg c',if_pos d']
     . have d':¬r / 12168 % 4=1:=λz=>d (decide_eq_true (show V.int (r / 12168 % 4)=V.int 1 by rw[z]));refine⟨_,rfl,_,_,rfl,rfl,⟨by decide,by decide⟩,_,_,rfl,rfl,(by show(0:Int)<_;decide),rfl,_,rfl,eX (λf=>?_) (λf=>?_)⟩
       . have f':r / 12168 % 8=2:=by
          have:=of_decide_eq_true f;injection this
         refine⟨_,rfl,.inl ⟨rfl,_,dy.of J⟩,_,rfl,_,_,rfl,rfl,C6 (.inr rfl) (n:=5) (by omega) (by omega),_,_,rfl,rfl,by rw[u5];show 10+1<=sizeLine;decide,_,rfl,_,_,rfl,rfl,by rw[u5];show 11+1<=sizeLine;decide,p,_,_,rfl,rfl,J,ah,?_⟩;refine next _ _ _ ?_;unfold iJ;rw[if_neg c',if_neg d',if_pos f',u5];rfl
       . have f':¬r / 12168 % 8=2:=λz=>f (decide_eq_true (show V.int (r / 12168 % 8)=V.int 2 by rw[z]));obtain⟨hu,hv⟩:=J3 (lc (r / 6 % 26)) (lc (r / 156 % 26)) (k:=r / 4056 % 3) (by omega);have ls:(di [lc (r / 6 % 26),lc (r / 156 % 26)]).length<=sizeLine:=gC;have t1:([lc (r / 6 % 26),lc (r / 156 % 26)].take (r / 4056 % 3).toNat).length<=2:=List.length_take_le' _ _;have t2:([lc (r / 6 % 26),lc (r / 156 % 26)].drop (r / 4056 % 3).toNat).length<=2:=by rw[Q0z];exact Nat.sub_le _ _
         refine⟨_,rfl,.inl ⟨rfl,_,dy.of J⟩,_,rfl,_,rfl,_,rfl,_,rfl,ls,_,rfl,_,_,rfl,rfl,?_,_,rfl,_,rfl,_,rfl,_,rfl,ls,_,_,rfl,rfl,?_,p,_,_,rfl,rfl,J,ah,?_⟩
         . rw[hu];exact fX (y:=[_]) (by show _+1<=_;omega)
         . rw[hu,hv,AX,fH,fH];show _+1+_<=sizeLine;exact Q07 (show _<=10 by omega) (by decide)
         . refine next _ _ _ ?_;unfold iJ;rw[if_neg c',if_neg d',if_neg f',hu,hv];show V.str (di _++di [_]++di _)=SX _;rw[fy,fy,Q0j];rfl
 . intro σ H' zq;obtain⟨y,z,rfl,sb,ai,an,J⟩:=zq;rw[em] at J;have aq:((List.range m).map (lE r)).length=m:=by rw[Q0b,Q1x]
   refine⟨_,rfl,p,_,rfl,dy.of J,by rw[aq];omega,λp' az aa ag ar=>?_⟩;refine q p' az _ (sb.trans (SB.new aa)) (by rw[dg (dA ai aa)];exact ai) (λz=>by rw[z,ai] at aa;cases aa) dw (ag.length_eq.trans aq) (ag.nodup_iff.mpr (JZ hm)) (λx hx=>?_) (A2 ar);obtain⟨i,hi,rfl⟩:=List.mem_map.mp (ag.mem_iff.mp hx);exact lB.p (JX (by have:=List.mem_range.mp hi;omega))
end Pb
namespace Pb
open L2
variable {P:Program}{w:World}{K:W.Frag}{mg:Str->Option Value}{base:Heap}
theorem J5:d9 XV XB (dN (top 34)):=eG
theorem J6 (d:Nat)(T:Tb mg)(J:Dn K mg "_law_fields" iX (top 34) L U)(Y:Dn K mg "_law_names" kO (top 32) aa ab)(ac:dj P w K mg base dm (2) aa ab kO (ra K))(ae:Dn K mg "_law_kind" iF (top 36) af ag)(ah:dj P w K mg base dm (2 * d+4) af ag iF (lx K d)):dj P w K mg base dm (2 * d+5) L U iX (A8 K d):=by
 refine J.F.ok J5 λvs H Q E h=>?_;obtain⟨a,b,ns,n,m,rfl,hm,g,hn,q⟩:=h;refine⟨rfl,λaD A outer s nd hr hu=>?_⟩
 refine⟨_,(dh (dI 4 nd (dJ ac hr Y (a_ (pv 0) (a_ (pv 1) (a_ (pv 2) b_)))))
  (dq (dF (n9 zP (by rfl) T.jN boot_tuple (a_ (kJ (g:=(fU 0)) (tt:=ju) (te:=(zy (fF (eV 0) (fF (jq _ _ _ (fF (eV 1) (fF (eV 2) (fF (eV 4) hU)))) hU)))) (own:=["_law_name"]) rfl (jO (N:=XV) (sc:=dN (top 34))) (sE (pv 4)) (λ_ _ _ _ _=>(e8 (i:=0) (show(["_law_name","_law_script","_law_at","_law_many","_law_deep","_law_names_here"]:List Str).Nodup by decide +kernel) rfl (Or.inl rfl) (.inr rfl))) (λ_ _ _ _ _=>kg) (λ_ _ _ _ _=>(f_ (a_ (pv 0) (a_ (dJ ah hr ae (a_ (pv 1) (a_ (pv 2) (a_ (pv 4) b_)))) b_))))) b_))))),?_⟩
 ac_rfl
 have aq:n<=1000000000000:=by omega
 refine⟨_,rfl,_,rfl,_,rfl,a,b,ns,n,m,rfl,by omega,g,aq,λp ss H1 s1 h1 ar hp hl au av _=>?_⟩
 refine⟨_,rfl,p,rfl,⟨_,dy.of hp⟩,λi m' ys H'=>m'=ss.length - i/\i<=ss.length/\∃(fs:Fs) (n':Int),SB b H H'/\H' b=some (.lst [.int n'])/\n<=n'/\n'<=n+1+i * ck d/\H' p=some (.lst (ss.map V.str))/\FA H' ys fs/\fs.names=ss.take i/\fs.dep<=d+1/\ys.length=i/\fs.W,
  ⟨_,rfl,Q06 _,.nil,n+1,s1,h1,by omega,by omega,hp,by unfold FA;rfl,by simp[Fs.names],by simp[Fs.dep],rfl,by unfold Fs.W;trivial⟩,?_⟩
 intro i m' ys H' zq;obtain⟨rfl,aC,fs,n',sb,aj,z1,z2,ak,hf,al,aw,hy,hW⟩:=zq;by_cases hi:i<ss.length
 . refine .inr ⟨⟨_,.str ss[i],dy.of ak,by rw[Q0o,Q0a hi];rfl⟩,hX (by omega),λx ax y=>?_⟩;obtain⟨rfl,y⟩:=y;have hx:=y _ (dy.of ak)
   have ex:x=.str ss[i]:=by
    rw[Q0o,Q0a hi] at hx;exact(Option.some.inj hx).symm
   subst ex;refine⟨rfl,yes (dS ?_)⟩;have ay:(i:Int)<=2:=by omega
   have aE:(i:Int) * ck d<=2 * ck d:=Q21 ay (by omega);refine⟨_,rfl,_,rfl,_,rfl,_,rfl,a,b,ns,n',rfl,g.go sb aj z1,by omega,λv k az H2 s2 h2 y1 y2 hk aF aA=>?_⟩;refine⟨gC,λt ht=>?_⟩;have aB:t≠b:=λz=>by rw[z,h2] at ht;cases ht
   have am:Tu H2 (upd H2 t (.tup [.str ss[i],v])):=Tu.of (λc o h=>by rw[dg (dA h ht)];exact h);have tu:Tu ax (upd H2 t (.tup [.str ss[i],v])):=(s2.tu aj).trans am;refine⟨_,Nat.sub_lt_sub_left hi (Q1a i),rfl,hi,fs.snoc ss[i] k,az,sb.trans (s2.trans (SB.new ht)),by rw[dg (Ne.symm aB)];exact h2,by omega,?_,?_,FA.snoc dw (KA.mono am k hk) fs (FA.mono tu fs hf),?_,?_,?_,Fs.tO aA (av _ (Q1r _)) hW⟩
   . have e:((i+1:Nat):Int) * ck d=(i:Int) * ck d+ck d:=by
      rw[Q3l,Int.add_mul];simp
     rw[e];omega
   . have h3:=s2 p _ ar ak;rw[dg (dA h3 ht)];exact h3
   . rw[Fs.tK,al,Q2n,Q0a hi];rfl
   . rw[Fs.tN];omega
   . rw[Q01,hy];rfl
 . have ei:i=m:=by omega
   subst ei;refine .inl ⟨⟨_,dy.of ak,by rw[Q0b];omega⟩,λp' ai=>?_⟩;have e3:(i:Int) * ck d<=3 * ck d:=Q21 (by omega) (by omega);refine⟨p',ys,rfl,.inl ⟨dy.of dw,λt ht=>?_⟩⟩;have ap:p'≠b:=λz=>by rw[z,aj] at ai;cases ai
   have an:upd H' p' (.lst ys) b=some (.lst [.int n']):=by rw[dg (Ne.symm ap)];exact aj
   have tu:Tu H' (upd (upd H' p' (.lst ys)) t (.tup ys)):=λc xs h=>by
    rw[dg (dA (show upd H' p' (.lst ys) c=some (.tup xs) by rw[dg (dA h ai)];exact h) ht),dg (dA h ai)];exact h
   have ao:ss.take i=ss:=by rw[<-hl,Q13]
   refine q t ys fs n' _ (sb.trans ((SB.new ai).trans (SB.new ht))) (by rw[dg (dA an ht)];exact an) z1 (by omega) dw (FA.mono tu fs hf) ?_ ?_ aw hW
   . rw[al,ao];exact au
   . rw[al,ao];exact hl
noncomputable def σR (a b:Addr) (m d:Nat) (p:Addr) (r:Int) (J:Addr) (x y z:Option V):St:=
 [some (.ref a),some (.ref b),some (.int m),some (.int d),some (.ref p),some (.int r),some (.int (r % m)),some (.int (r / m % (m+1))),some (.ref J),x,y,z]
theorem u6 {ss:List Str}{z:Int}(J:0<=z)(h1:z<ss.length):∃x:Str,fg (ss.map V.str) z=some (.str x)/\ss[z.toNat]? =some x:=by
 obtain⟨j,rfl⟩:∃j:Nat,z=(j:Int):=⟨z.toNat,by omega⟩;exact⟨ss[j]'(by omega),hV (by rw[Q0o,Q0a (by omega)];rfl),by rw[Q2];exact Q0a (by omega)⟩
theorem Fs.C8:∀{fs:Fs}{x:Str}{k:Kd}{j:Nat}{y:Str}{q:Kd},fs.at j=some (y,q)->(fs.snoc x k).at j=some (y,q)
 | .nil,_,_,_,_,_,h=>by cases h
 | .cons _ _ _,_,_,0,_,_,h=>h
 | .cons _ _ r,x,k,j+1,y,q,h=>Fs.C8 (fs:=r) (j:=j) h
theorem Fs.C9:∀{fs:Fs}{x:Str}{k:Kd},(fs.snoc x k).at fs.names.length=some (x,k)
 | .nil,_,_=>rfl
 | .cons _ _ r,x,k=>Fs.C9 (fs:=r)
theorem J7:d9 ["_law_script","_law_at","_law_many","_law_deep","_law_names_here","_law_m","_law_lead","_law_by","_law_fields_here","_law_k","_law_kind_here","_law_name"] XB (dN (top 35)):=eG
theorem C_ (d:Nat)(T:Tb mg)(U:Dn K mg "_law_rows_kind" iX (top 35) Y aa)(ae:Dn K mg "_law_names" kO (top 32) af ag)(ah:dj P w K mg base dm (2) af ag kO (ra K))(an:Dn K mg "_law_next" ed (top 29) ao ap)(aq:dj P w K mg base dm (1) ao ap ed (kP K))(ai:Dn K mg "_law_plain" ed (top 33) aj ak)(al:dj P w K mg base dm (2) aj ak ed (oP K))(ar:Dn K mg "_law_kind" iF (top 36) au av)(aw:dj P w K mg base dm (2 * d+4) au av iF (lx K d)):
 dj P w K mg base dm (2 * d+5) Y aa iX (A_ K d):=by
 refine U.F.ok J7 λvs H Q E h=>?_;obtain⟨a,b,ns,n,m,rfl,bq,hm,g,hn,q⟩:=h;refine⟨rfl,λbr A outer s nd hr hu=>?_⟩;have bt:(0:Int)<=(m:Int) * (ck d+1):=Int.mul_nonneg (by omega) (by omega)
 refine⟨_,(dh (dI 4 nd (dJ ah hr ae (a_ (pv 0) (a_ (pv 1) (a_ (pv 2) b_)))))
  (dh (dI 5 nd (dJ aq hr an (a_ (pv 0) (a_ (pv 1) b_))))
  (dh (dI 6 nd (dk eL (pv 5) (pv 2)))
  (dh (dI 7 nd (dk eL (dk gj (pv 5) (pv 2)) (dk gE (pv 2) c_)))
  (dh (dI 8 nd (gm b_))
  (dh (i9 PassesOwn.never rfl (mJ rfl T.m8 (a_ (pv 2) b_)) (e8 (i:=9) nd rfl gh) (dh (dI 10 nd (dJ aw hr ar (a_ (pv 0) (a_ (pv 1) (a_ (pv 3) b_)))))
  (dh (dM (PW.pt (ig (dQ eh (pv 9) (pv 6) (dP _)) (iw (dQ eh (pv 9) (pv 7) (dP _))))) (dq (dI 10 nd (dJ al hr ai (a_ (pv 0) (a_ (pv 1) b_))))) dO)
  (dq (fC (gA PySem.F.plainAttrs_list PySem.F.slot_list_append PySem.F.type_list_append iA (pv 8) (a_ (f_ (a_ (gX (pv 4) (pv 9)) (a_ (pv 10) b_))) b_)))))))
  (dh (dI 11 nd dv)
  (dh (dM (PW.pt (i8 (dQ mL (pv 7) (pv 2) (dP _)) (j1 (dQ lU (pv 7) (pv 6) (dP _))))) (dq (dI 11 nd (gX (pv 4) (pv 7)))) dO)
  (dq (dF (f_ (a_ dv (a_ (gX (pv 4) (pv 6)) (a_ (pv 11) (a_ (n9 zP (by rfl) T.jN boot_tuple (a_ (pv 8) b_)) b_))))))))))))))),?_⟩
 ac_rfl
 refine⟨_,rfl,_,rfl,_,rfl,a,b,ns,n,m,rfl,by omega,g,by omega,λp ss H1 s1 h1 aB hp hl aU aW bb=>?_⟩;refine⟨_,rfl,_,rfl,a,b,ns,n+1,rfl,g.go s1 h1 (by omega),by omega,λr H2 r0 r1 s2 h2=>?_⟩;have aM:H2 p=some (.lst (ss.map V.str)):=s2 p _ aB hp;have aX:SB b H H2:=s1.trans s2;refine⟨_,rfl,_,rfl,_,_,rfl,rfl,by omega,?_⟩;refine⟨_,rfl,_,rfl,_,_,rfl,rfl,⟨by omega,by omega⟩,_,rfl,_,_,rfl,rfl,_,_,rfl,rfl,by omega,?_⟩;refine⟨lr,λJ aC=>?_⟩;have ab:J≠b:=λz=>by rw[z,h2] at aC;cases aC
 have aY:p≠J:=λz=>by rw[z,aC] at aM;cases aM
 have a8:∀o,H J=some o->False:=λo ho=>by
  have:=aX J o ab ho;rw[aC] at this;cases this
 have em:Int.toNat (m:Int)=m:=by omega
 refine⟨_,rfl,_,rfl,by omega,by omega,mK (n:=Int.toNat (m:Int)) (λi σ H'=>∃(x y z:Option V) (n':Int) (ys:List V) (fs:Fs),σ=σR a b m d p r J x y z/\SB b H H'/\H' b=some (.lst [.int n'])/\n<=n'/\n'<=n+2+i * (ck d+1)/\
  H' p=some (.lst (ss.map V.str))/\H' J=some (.lst ys)/\FA H' ys fs/\fs.dep<=d+1/\ys.length=i/\fs.W/\fs.names=ss.take i/\∀j:Nat,j<i->((j:Int)=r % m\/(j:Int)=r / m % (m+1))->∃y q,fs.at j=some (y,q)/\mU q) ?_ ?_ ?_⟩
 . refine⟨_,_,_,n+1+1,[],.nil,rfl,aX.trans (SB.new aC),by rw[dg (Ne.symm ab)];exact h2,by omega,by omega,by rw[dg aY];exact aM,dw,by unfold FA;rfl,by simp[Fs.dep],rfl,by unfold Fs.W;trivial,rfl,λj hj=>absurd hj (by omega)⟩
 . intro i σ H' hi zq;obtain⟨x,y,z,n',ys,fs,rfl,sb,az,z1,z2,am,L,aH,bc,hy,hW,aI,aJ⟩:=zq;rw[em] at hi
   have e1:((i+1:Nat):Int) * (ck d+1)=(i:Int) * (ck d+1)+(ck d+1):=by
    rw[Q3l,Int.add_mul];simp
   have bd:((i+1:Nat):Int) * (ck d+1)<=(m:Int) * (ck d+1):=Q21 (by omega) (by omega);rw[e1] at bd;have aD:ys.length<sizeLine:=hX (by omega);have be:∃q:Str,fg (ss.map V.str) ((0:Int)+(i:Int))=some (.str q)/\ss[((0:Int)+(i:Int)).toNat]? =some q:=u6 (by omega) (by omega);obtain⟨nm,aE,ax⟩:=be
   have ax:ss[i]? =some nm:=by
    rw[show((0:Int)+(i:Int)).toNat=i by omega] at ax;exact ax
   have bf:fs.names.length=i:=by rw[<-FA.len fs aH];exact hy
   have next:∀(x' y' z':Option V) (v:V) (k:Kd) (n2:Int) (H3:Hp) (t:Addr),SB b H' H3->H3 b=some (.lst [.int n2])->n'<=n2->n2<=n'+(ck d+1)->KA H3 v k->k.dep<=d+1->k.W->(((i:Int)=r % m\/(i:Int)=r / m % (m+1))->mU k)->H3 t=none->
    ∃(x y z:Option V) (n':Int) (aN:List V) (fs:Fs),σR a b m d p r J x' y' z'=σR a b m d p r J x y z/\SB b H (upd (upd H3 t (.tup [.str nm,v])) J (.lst (ys++[.ref t])))/\(upd (upd H3 t (.tup [.str nm,v])) J (.lst (ys++[.ref t]))) b=some (.lst [.int n'])/\n<=n'/\
     n'<=n+2+((i+1:Nat):Int) * (ck d+1)/\(upd (upd H3 t (.tup [.str nm,v])) J (.lst (ys++[.ref t]))) p=some (.lst (ss.map V.str))/\(upd (upd H3 t (.tup [.str nm,v])) J (.lst (ys++[.ref t]))) J=some (.lst aN)/\
     FA (upd (upd H3 t (.tup [.str nm,v])) J (.lst (ys++[.ref t]))) aN fs/\fs.dep<=d+1/\aN.length=i+1/\fs.W/\fs.names=ss.take (i+1)/\∀j:Nat,j<i+1->((j:Int)=r % m\/(j:Int)=r / m % (m+1))->∃y q,fs.at j=some (y,q)/\mU q:=by
    intro x' y' z' v k n2 H3 t s3 h3 w1 w2 hk aZ aO bg ht;have a1:H3 J=some (.lst ys):=s3 J _ ab L;have a2:H3 p=some (.lst (ss.map V.str)):=s3 p _ aB am;have bh:t≠J:=λz=>by rw[z,a1] at ht;cases ht
    have bi:t≠b:=λz=>by rw[z,h3] at ht;cases ht
    have bj:t≠p:=λz=>by rw[z,a2] at ht;cases ht
    have a3:Tu H3 (upd (upd H3 t (.tup [.str nm,v])) J (.lst (ys++[.ref t]))):=λc xs h=>by
     rw[dg (fo h a1 (by intro z;cases z)),dg (dA h ht)];exact h
    have bm:upd (upd H3 t (.tup [.str nm,v])) J (.lst (ys++[.ref t])) t=some (.tup [.str nm,v]):=by rw[dg bh];exact dw
    refine⟨x',y',z',n2,ys++[.ref t],fs.snoc nm k,rfl,λc o hc hh=>?_,?_,by omega,by rw[e1];omega,?_,dw,FA.snoc bm (KA.mono a3 k hk) fs (FA.mono ((s3.tu az).trans a3) fs aH),by rw[Fs.tN];omega,by rw[Q01,hy];rfl,Fs.tO aO (aW _ (Q0x ax)) hW,by rw[Fs.tK,aI,Q2n,ax];rfl,λj hj aA=>?_⟩
    . have q1:=s3 c o hc (sb c o hc hh);by_cases e:c=J
      . subst e;exact(a8 o hh).elim
      . rw[dg e,dg (dA q1 ht)];exact q1
    . rw[dg (Ne.symm ab),dg (Ne.symm bi)];exact h3
    . rw[dg aY,dg (Ne.symm bj)];exact a2
    . by_cases e:j<i
      . obtain⟨y,q,e1,e2⟩:=aJ j e aA;exact⟨y,q,Fs.C8 e1,e2⟩
      . have:j=i:=by omega
        subst this;exact⟨nm,k,by have:=Fs.C9 (fs:=fs) (x:=nm) (k:=k);rwa [bf] at this,bg aA⟩
   refine⟨_,rfl,_,rfl,_,rfl,a,b,ns,n',rfl,g.go sb az z1,by omega,λv k n2 H3 s3 h3 w1 w2 hk aZ aO=>?_⟩;refine⟨_,rfl,_,rfl,rfl,_,rfl,?_⟩;refine eX (λc=>dS ?_) (λcL=>⟨_,rfl,_,rfl,rfl,_,rfl,eX (λc=>?_) (λc=>?_)⟩)
   . refine⟨_,rfl,_,rfl,a,b,ns,n2,rfl,(g.go sb az z1).go s3 h3 w1,by omega,λv' k' H4 s4 h4 aP a9 aF aG=>?_⟩;have ac:=s3.trans s4;refine⟨_,rfl,.inl ⟨rfl,_,dy.of (ac J _ ab L)⟩,_,rfl,_,rfl,p,_,_,_,rfl,rfl,dy.of (ac p _ aB am),aE,_,rfl,gC,λt ht=>?_⟩;refine⟨J,_,_,rfl,rfl,by rw[dg (dA (ac J _ ab L) ht)];exact ac J _ ab L,aD,?_⟩;exact next _ _ _ v' k' _ H4 t ac h4 (by omega) (by omega) aP (by omega) aG (λ_=>aF) ht
   . refine⟨_,rfl,_,rfl,a,b,ns,n2,rfl,(g.go sb az z1).go s3 h3 w1,by omega,λv' k' H4 s4 h4 aP a9 aF aG=>?_⟩;have ac:=s3.trans s4;refine⟨_,rfl,.inl ⟨rfl,_,dy.of (ac J _ ab L)⟩,_,rfl,_,rfl,p,_,_,_,rfl,rfl,dy.of (ac p _ aB am),aE,_,rfl,gC,λt ht=>?_⟩;refine⟨J,_,_,rfl,rfl,by rw[dg (dA (ac J _ ab L) ht)];exact ac J _ ab L,aD,?_⟩;exact next _ _ _ v' k' _ H4 t ac h4 (by omega) (by omega) aP (by omega) aG (λ_=>aF) ht
   . refine⟨_,rfl,.inl ⟨rfl,_,dy.of (s3 J _ ab L)⟩,_,rfl,_,rfl,p,_,_,_,rfl,rfl,dy.of (s3 p _ aB am),aE,_,rfl,gC,λt ht=>?_⟩;refine⟨J,_,_,rfl,rfl,by rw[dg (dA (s3 J _ ab L) ht)];exact s3 J _ ab L,aD,?_⟩;refine next _ _ _ v k _ H3 t s3 h3 (by omega) (by omega) hk aZ aO (λaA=>?_) ht
     exact(by
      rcases aA with e|e
      . exact absurd (decide_eq_true (show V.int ((0:Int)+(i:Int))=V.int (r % m) by rw[<-e];congr 1;omega)) cL
      . exact absurd (decide_eq_true (show V.int ((0:Int)+(i:Int))=V.int (r / m % (m+1)) by rw[<-e];congr 1;omega)) c)
 . intro σ H' zq;obtain⟨x,y,z,n',ys,fs,rfl,sb,az,z1,z2,am,L,aH,bc,hy,hW,aI,aJ⟩:=zq;rw[em] at z2 hy aJ aI;have l0:0<=r % (m:Int):=Q0i _ (by omega);have l1:r % (m:Int)<m:=Q0h _ (by omega);have b0:0<=r / (m:Int) % ((m:Int)+1):=Q0i _ (by omega);obtain⟨xk,aQ,aS⟩:=u6 (ss:=ss) l0 (by omega);have ay:fs.names=ss:=by rw[aI,<-hl,Q13]
   have a4:fs.names.Nodup:=by rw[ay];exact aU
   have pl:∀(z:Int) (x:Str),0<=z->z<m->(z=r % m\/z=r / m % (m+1))->ss[z.toNat]? =some x->fs.pl x:=λz x h0 h1 aA hx=>by
    obtain⟨y,q,e1,e2⟩:=aJ z.toNat (by omega) (by rw[Int.toNat_of_nonneg h0];exact aA);have a5:=Fs.iD fs z.toNat;rw[e1,ay,hx] at a5;have e3:some x=some y:=a5
    cases e3;exact⟨q,Fs.mT a4 e1,e2⟩
   have bn:fs.pl xk:=pl _ _ l0 l1 (.inl rfl) aS;have aK:fs.names.length<=3:=by rw[ay,hl];omega
   have a6:xk≠"":=(aW xk (Q0x aS)).ne
   have fin:∀(nm:Str),(nm=""\/fs.pl nm)->nm≠xk->∀(t:Addr),H' t=none->∀v:Addr,upd H' t (.tup ys) v=none->Q (.ref v) (upd (upd H' t (.tup ys)) v (.tup [.str "rows",.str xk,.str nm,.ref t])):=by
    intro nm bo aT t ht v hv;have bp:v≠t:=λz=>by rw[z,dw] at hv;cases hv
    have tu:Tu H' (upd (upd H' t (.tup ys)) v (.tup [.str "rows",.str xk,.str nm,.ref t])):=λc xs h=>by
     have e:upd H' t (.tup ys) c=some (.tup xs):=by rw[dg (dA h ht)];exact h
     rw[dg (dA e hv)];exact e
    have a7:upd H' t (.tup ys) b=some (.lst [.int n']):=by rw[dg (dA az ht)];exact az
    refine q (.ref v) xk nm fs n' _ (sb.trans ((SB.new ht).trans (SB.new hv))) (by rw[dg (dA a7 hv)];exact a7) z1 (by omega) ?_ (by simp only[Kd.dep];omega) (by unfold Kd.W;exact⟨a4,aK,hW,bn,bo⟩) (by rw[ay,hl]) ⟨by rw[ay];exact bb,aT⟩;unfold KA;exact⟨v,t,ys,rfl,dw,by rw[dg (Ne.symm bp)];exact dw,FA.mono tu fs aH⟩
   refine⟨_,rfl,_,rfl,_,_,rfl,rfl,_,rfl,?_⟩;refine eX (λc=>⟨_,rfl,_,rfl,rfl,_,rfl,eX (λc2=>?_) (λc2=>?_)⟩) (λc=>dE ?_)
   . have c':r / (m:Int) % ((m:Int)+1)<m:=of_decide_eq_true c;obtain⟨nm,ba,aL⟩:=u6 (ss:=ss) b0 (by omega)
     have aT:nm≠xk:=λe=>by
      obtain⟨i1,q1⟩:=List.getElem?_eq_some_iff.mp aL;obtain⟨i2,q2⟩:=List.getElem?_eq_some_iff.mp aS;have ei:=(Q19 aU).mp (q1.trans (e.trans q2.symm));have ez:r / (m:Int) % ((m:Int)+1)=r % (m:Int):=by omega
      rw[ez] at c2;simp at c2
     refine⟨_,rfl,_,rfl,p,_,_,_,rfl,rfl,dy.of am,ba,?_⟩;exact⟨_,rfl,_,rfl,p,_,_,_,rfl,rfl,dy.of am,aQ,_,rfl,_,rfl,J,ys,rfl,.inl ⟨dy.of L,λt ht=>⟨jy,λv hv=>fin nm (.inr (pl _ _ b0 c' (.inr rfl) aL)) aT t ht v hv⟩⟩⟩
   . exact⟨_,rfl,_,rfl,p,_,_,_,rfl,rfl,dy.of am,aQ,_,rfl,_,rfl,J,ys,rfl,.inl ⟨dy.of L,λt ht=>⟨jy,λv hv=>fin _ (.inl rfl) (Ne.symm a6) t ht v hv⟩⟩⟩
   . exact⟨_,rfl,_,rfl,p,_,_,_,rfl,rfl,dy.of am,aQ,_,rfl,_,rfl,J,ys,rfl,.inl ⟨dy.of L,λt ht=>⟨jy,λv hv=>fin _ (.inl rfl) (Ne.symm a6) t ht v hv⟩⟩⟩
theorem J8 (d:Nat)(T:Tb mg)(J:Dn K mg "_law_rows_kind" iX (top 35) L U)(Y:Dn K mg "_law_names" kO (top 32) aa ab)(ac:dj P w K mg base dm (2) aa ab kO (ra K))(ai:Dn K mg "_law_next" ed (top 29) aj ak)(al:dj P w K mg base dm (1) aj ak ed (kP K))(ae:Dn K mg "_law_plain" ed (top 33) af ag)(ah:dj P w K mg base dm (2) af ag ed (oP K))(am:Dn K mg "_law_kind" iF (top 36) an ao)(ap:dj P w K mg base dm (2 * d+4) an ao iF (lx K d)):
 dj P w K mg base dm (2 * d+5) L U iX (A9 K d):=(C_ d T J Y ac ai al ae ah am ap).imp λvs H Q E h=>by
 obtain⟨a,b,ns,n,m,e,h1,h3,g,hn,q⟩:=h;have e3:(m:Int) * (ck d+1)<=3 * (ck d+1):=Q21 (by omega) (by omega);exact⟨a,b,ns,n,m,e,h1,by omega,g,by omega,λv key aq fs n' H' s h0 l1 l2 k kd kw _ _=>q v _ n' H' s h0 l1 (by omega) k kd kw⟩
theorem Dc:d9 ["_law_script","_law_at","_law_deep","_law_m"] XS (dN (top 36)):=eG
theorem J9 (T:Tb mg)(aa:Dn K mg "_law_kind" iF (top 36) ab ac)(ae:Dn K mg "_law_next" ed (top 29) af ag)(ah:dj P w K mg base dm (1) af ag ed (kP K))(J:Dn K mg "_law_plain" ed (top 33) L U)(Y:dj P w K mg base dm (2) L U ed (oP K)):dj P w K mg base dm (2 * 0+4) ab ac iF (lx K 0):=by
 refine aa.F.ok Dc λvs H Q E h=>?_;obtain⟨a,b,ns,n,rfl,g,hn,q⟩:=h;refine⟨rfl,λaj A outer s nd hr hu=>?_⟩;have ai:ck 0=2:=rfl;rw[ai] at hn q
 refine⟨_,(dh (dI 3 nd (dJ ah hr ae (a_ (pv 0) (a_ (pv 1) b_))))
  (dh (dM (PW.pt (ig (dQ zm (pv 2) c_ (dP _)) (iw GB))) (dq (dF (dJ Y hr J (a_ (pv 0) (a_ (pv 1) b_))))) dO) EX)),?_⟩
 ac_rfl
 refine⟨_,rfl,_,rfl,a,b,ns,n,rfl,g,by omega,λr H1 r0 r1 s1 h1=>?_⟩;refine⟨_,rfl,_,_,rfl,rfl,_,rfl,?_⟩;refine eX (λc=>dS ?_) (λc=>(c (by decide)).elim);refine⟨_,rfl,_,rfl,a,b,ns,n+1,rfl,g.go s1 h1 (by omega),by omega,λv k H2 s2 h2 hk hd hp hw=>?_⟩;exact q v k (n+1+1) H2 (s1.trans s2) h2 (by omega) (by omega) hk (by omega) hw
theorem J_ (d:Nat)(T:Tb mg)(U:Dn K mg "_law_kind" iF (top 36) Y aa)(am:Dn K mg "_law_next" ed (top 29) an ao)(ap:dj P w K mg base dm (1) an ao ed (kP K))(ai:Dn K mg "_law_plain" ed (top 33) aj ak)(al:dj P w K mg base dm (2) aj ak ed (oP K))(J:Dn K mg "_law_fields" iX (top 34) ag ah)(L:dj P w K mg base dm (2 * d+5) ag ah iX (A8 K d))(ab:Dn K mg "_law_rows_kind" iX (top 35) ac ae)(af:dj P w K mg base dm (2 * d+5) ac ae iX (A9 K d))
 (aq:dj P w K mg base dm (2 * d+4) Y aa iF (lx K d)):dj P w K mg base dm (2 * (d+1)+4) Y aa iF (lx K (d+1)):=by
 refine U.F.ok Dc λvs H Q E h=>?_;obtain⟨a,b,ns,n,rfl,g,hn,q⟩:=h;refine⟨rfl,λax A outer s nd hr hu=>?_⟩
 have ar:(ck (d+1):Int)=3 * ck d+6:=by
  have:ck (d+1)=3 * ck d+6:=rfl;omega
 rw[ar] at hn
 refine⟨_,(dh (dI 3 nd (dJ ap hr am (a_ (pv 0) (a_ (pv 1) b_))))
  (dh (dM (PW.pt (ig (dQ zm (pv 2) c_ (dP _)) (iw (dQ mL (dk eL (pv 3) c_) c_ (dP _))))) (dq (dF (dJ al hr ai (a_ (pv 0) (a_ (pv 1) b_))))) dO)
  (dh (dM (dQ mL (dk eL (pv 3) c_) c_ (dP _)) (dq (dF (f_ (a_ dv (a_ (dJ L hr J (a_ (pv 0) (a_ (pv 1) (a_ (dk eL (dk gj (pv 3) c_) c_) (a_ (dk jn (pv 2) c_) b_))))) b_))))) dO)
  (dh (dM (dQ mL (dk eL (pv 3) c_) c_ (dP _)) (dq (dF (dJ af hr ab (a_ (pv 0) (a_ (pv 1) (a_ (dk gE c_ (dk eL (dk gj (pv 3) c_) c_)) (a_ (dk jn (pv 2) c_) b_))))))) dO)
  (dh (dM (dQ eh (dk eL (pv 3) c_) c_ (dP _)) (dq (dF (f_ (a_ dv (a_ (dJ aq hr U (a_ (pv 0) (a_ (pv 1) (a_ (dk jn (pv 2) c_) b_)))) b_))))) dO)
  (dq (dF (f_ (a_ dv (a_ (dJ L hr J (a_ (pv 0) (a_ (pv 1) (a_ (dk gE c_ (dk eL (dk gj (pv 3) c_) c_)) (a_ (dk jn (pv 2) c_) b_))))) b_)))))))))),?_⟩
 ac_rfl
 refine⟨_,rfl,_,rfl,a,b,ns,n,rfl,g,by omega,λr H1 r0 r1 s1 h1=>?_⟩;have g1:=g.go s1 h1 (by omega);have e2:(((d+1:Nat):Int)) - 1=(d:Int):=by omega
 have e0:(if decide ((((d+1:Nat):Int))<=0)=true then True else False)=False:=by
  rw[if_neg (by rw[decide_eq_true_iff];omega)]
 refine⟨_,rfl,_,_,rfl,rfl,_,rfl,eX (λc=>?_) (λc=>?_)⟩
 . exact absurd (of_decide_eq_true c) (by omega)
 refine⟨_,rfl,_,_,rfl,rfl,(by show(0:Int)<_;decide),_,_,rfl,rfl,_,rfl,eX (λc1=>?_) (λc1=>?_)⟩
 . refine⟨_,rfl,_,rfl,a,b,ns,n+1,rfl,g1,by omega,λv k H2 s2 h2 hk hd hp hw=>?_⟩;exact q v k (n+1+1) H2 (s1.trans s2) h2 (by omega) (by rw[ar];omega) hk (by omega) hw
 refine⟨_,rfl,_,_,rfl,rfl,(by show(0:Int)<_;decide),_,_,rfl,rfl,_,rfl,eX (λc2=>?_) (λc2=>?_)⟩
 . obtain⟨m,hm⟩:∃m:Nat,r / 10 % 4=(m:Int):=⟨(r / 10 % 4).toNat,by omega⟩;refine⟨_,rfl,_,rfl,_,rfl,_,_,rfl,rfl,⟨by decide,by decide⟩,_,_,rfl,rfl,(by show(0:Int)<_;decide),_,rfl,_,_,rfl,rfl,a,b,ns,n+1,m,(by show [V.ref a,V.ref b,V.int (r / 10 % 4),V.int (((d+1:Nat):Int) - 1)]=_;rw[hm,e2]),by omega,g1,by omega,λt xs fs n' H2 s2 h2 w1 w2 ht au av hl aw hW=>?_⟩;refine⟨gC,λv hv=>?_⟩;have tu:Tu H2 (upd H2 v (.tup [.str "record",.ref t])):=λc ys h=>by rw[dg (dA h hv)];exact h
   refine q (.ref v) (.dG fs) n' _ (s1.trans (s2.trans (SB.new hv))) (by rw[dg (dA h2 hv)];exact h2) (by omega) (by rw[ar];omega) ?_ (by simp only[Kd.dep];omega) (by unfold Kd.W;exact⟨av,by omega,hW⟩);unfold KA;exact⟨v,t,xs,rfl,dw,tu _ _ ht,FA.mono tu fs au⟩
 refine⟨_,rfl,_,_,rfl,rfl,(by show(0:Int)<_;decide),_,_,rfl,rfl,_,rfl,eX (λc3=>?_) (λc3=>?_)⟩
 . obtain⟨m,hm⟩:∃m:Nat,1+r / 10 % 3=(m:Int):=⟨(1+r / 10 % 3).toNat,by omega⟩;refine⟨_,rfl,_,rfl,_,rfl,_,_,rfl,rfl,⟨by decide,by decide⟩,_,_,rfl,rfl,(by show(0:Int)<_;decide),_,_,rfl,rfl,_,rfl,_,_,rfl,rfl,a,b,ns,n+1,m,(by show [V.ref a,V.ref b,V.int (1+r / 10 % 3),V.int (((d+1:Nat):Int) - 1)]=_;rw[hm,e2]),by omega,by omega,g1,by omega,λv k n' H2 s2 h2 w1 w2 hk aw hw=>?_⟩;exact q v k n' H2 (s1.trans s2) h2 (by omega) (by rw[ar];omega) hk (by omega) hw
 refine⟨_,rfl,_,_,rfl,rfl,(by show(0:Int)<_;decide),rfl,_,rfl,eX (λc4=>?_) (λc4=>?_)⟩
 . refine⟨_,rfl,_,rfl,_,rfl,_,_,rfl,rfl,a,b,ns,n+1,(by show [V.ref a,V.ref b,V.int (((d+1:Nat):Int) - 1)]=_;rw[e2]),g1,by omega,λu k n' H2 s2 h2 w1 w2 hk aw hw=>?_⟩;refine⟨gC,λv hv=>?_⟩;have tu:Tu H2 (upd H2 v (.tup [.str "tree",u])):=λc ys h=>by rw[dg (dA h hv)];exact h
   refine q (.ref v) (.tree k) n' _ (s1.trans (s2.trans (SB.new hv))) (by rw[dg (dA h2 hv)];exact h2) (by omega) (by rw[ar];omega) ?_ (by simp only[Kd.dep];omega) (by unfold Kd.W;exact hw);unfold KA;exact⟨v,u,rfl,dw,KA.mono tu k hk⟩
 . obtain⟨m,hm⟩:∃m:Nat,1+r / 10 % 3=(m:Int):=⟨(1+r / 10 % 3).toNat,by omega⟩;refine⟨_,rfl,_,rfl,_,rfl,_,_,rfl,rfl,⟨by decide,by decide⟩,_,_,rfl,rfl,(by show(0:Int)<_;decide),_,_,rfl,rfl,_,rfl,_,_,rfl,rfl,a,b,ns,n+1,m,(by show [V.ref a,V.ref b,V.int (1+r / 10 % 3),V.int (((d+1:Nat):Int) - 1)]=_;rw[hm,e2]),by omega,g1,by omega,λt xs fs n' H2 s2 h2 w1 w2 ht au av hl aw hW=>?_⟩;refine⟨gC,λv hv=>?_⟩;have tu:Tu H2 (upd H2 v (.tup [.str "either",.ref t])):=λc ys h=>by rw[dg (dA h hv)];exact h
   refine q (.ref v) (.eR fs) n' _ (s1.trans (s2.trans (SB.new hv))) (by rw[dg (dA h2 hv)];exact h2) (by omega) (by rw[ar];omega) ?_ (by simp only[Kd.dep];omega) (by unfold Kd.W;exact⟨av,by omega,by omega,hW⟩);unfold KA;exact⟨v,t,xs,rfl,dw,tu _ _ ht,FA.mono tu fs au⟩
theorem kind_all (T:Tb mg)(U:Dn K mg "_law_kind" iF (top 36) ac ae)(J:Dn K mg "_law_next" ed (top 29) an ao)(L:Dn K mg "_law_plain" ed (top 33) aj ak)(aa:Dn K mg "_law_names" kO (top 32) al am)(ab:Dn K mg "_law_fields" iX (top 34) ah ai)(Y:Dn K mg "_law_rows_kind" iX (top 35) af ag):∀d:Nat,dj P w K mg base dm (2 * d+4) ac ae iF (lx K d)
 |0=>J9 T U J (q_ (oQ T J)) L (ui T L J (q_ (oQ T J)))
 |d+1=>by
  have N:=q_ (oQ (P:=P) (w:=w) (base:=base) T J);have Pl:=ui T L J N;have Nm:=C7 T aa J N;have ih:=kind_all T U J L aa ab Y d;have Fd:=J6 d T ab aa Nm U ih;have Rw:=J8 d T Y aa Nm J N L Pl U ih;exact J_ d T U J N L Pl ab Fd Y Rw ih
theorem Dd (ns:List Int)(x:Str)(k:Kd)(J:Nat):∀(fs:Fs) (n:Int),dW ns (fs.snoc x k) J n=((dW ns fs J n).1.snoc x (val ns k J (dW ns fs J n).2).1,(val ns k J (dW ns fs J n).2).2)
 | .nil,n=>by
   show dW ns (.cons x k .nil) J n=_;simp only[dW,Ds.snoc]
 | .cons y q r,n=>by
   show dW ns (.cons y q (r.snoc x k)) J n=_;simp only[dW,Ds.snoc];rw[Dd ns x k J r]
theorem De (g:Int->D × Int):∀(m:Nat) (n:Int),times g (m+1) n=((times g m n).1.snoc "" (g (times g m n).2).1,(g (times g m n).2).2)
 |0,n=>by simp only[times,Ds.snoc]
 |m+1,n=>by
  have J:=De g m (g n).2;show(Ds.cons "" (g n).1 (times g (m+1) (g n).2).1,(times g (m+1) (g n).2).2)=_;rw[J];simp only[times,Ds.snoc]
theorem u7 {g h:Int->D × Int}(e:∀n,g n=h n):∀(m:Nat) (n:Int),times g m n=times h m n
 |0,n=>rfl
 |m+1,n=>by
  simp only[times];rw[e n,u7 e m]
theorem lF {ns:List Int}{f:Nat->Int->D × Int}:∀(fu J:Nat) (n:Int),J<2 ^ fu->fh ns f (fu+1) J n=fh ns f (fu+2) J n
 |0,J,n,h=>by
  have e:J=0:=by simpa using h
  subst e
  have L:(nx ns ((f (0 / 2) n).2+1) % (((0:Nat):Int)+1)).toNat=0:=by
   have:nx ns ((f (0 / 2) n).2+1) % (((0:Nat):Int)+1)=0:=by
    show _ % (1:Int)=0;exact Int.emod_one _
   rw[this];rfl
  unfold fh;rw[L];rfl
 |fu+1,J,n,h=>by
  have U:=λm=>lF (ns:=ns) (f:=f) fu (J / 2) m (by rw[Q2e] at h;omega);show(pairD (f (J / 2) n).1 (.lst (times (fh ns f (fu+1) (J / 2)) _ _).1),(times (fh ns f (fu+1) (J / 2)) _ _).2)=(pairD (f (J / 2) n).1 (.lst (times (fh ns f (fu+2) (J / 2)) _ _).1),(times (fh ns f (fu+2) (J / 2)) _ _).2);rw[u7 U]
theorem Ka (ns:List Int)(k:Kd)(J:Nat)(n:Int)(h:J<8):val ns (.tree k) J n=
 (pairD (val ns k (J / 2) n).1 (.lst (times (val ns (.tree k) (J / 2)) (nx ns ((val ns k (J / 2) n).2+1) % ((J:Int)+1)).toNat ((val ns k (J / 2) n).2+1)).1),
   (times (val ns (.tree k) (J / 2)) (nx ns ((val ns k (J / 2) n).2+1) % ((J:Int)+1)).toNat ((val ns k (J / 2) n).2+1)).2):=by
 have e:∀m,val ns (.tree k) (J / 2) m=fh ns (val ns k) 3 (J / 2) m:=λm=>by
  show fh ns (val ns k) 4 (J / 2) m=_;exact(lF 2 (J / 2) m (by show _<4;omega)).symm
 rw[u7 e];simp only[val,fh]
theorem u9 {g:Int->Ds × Int}{key:Str}:∀(m:Nat) (J:List Ds) (n:Int),eF g key (m+1) J n=
 (if mW key (eF g key m J n).1 (keyOf (g (eF g key m J n).2).1 key)=true then((eF g key m J n).1,(g (eF g key m J n).2).2) else((eF g key m J n).1++[(g (eF g key m J n).2).1],(g (eF g key m J n).2).2))
 |0,J,n=>by
  simp only[eF]
  first
   |rfl
   |(by_cases c:mW key J (keyOf (g n).1 key)=true <;> simp[c])
 |m+1,J,n=>by
  rw[eF];split
  . rename_i c;rw[u9 m J]
    conv=>rhs;rw[eF]
    simp only[c,if_true]
  . rename_i c;rw[u9 m (J++[(g n).1])]
    conv=>rhs;rw[eF]
    simp only[c,if_false];rfl
noncomputable def mu:Kd->Nat->Nat
 | .rows key L fs,J=>(2 * (fs.dep+1)+1) * 8+J
 |k,J=>(2 * k.dep) * 8+J
theorem Df (k:Kd)(J:Nat):mu k J<=(2 * k.dep+1) * 8+J:=by
 cases k <;> simp only[mu,Kd.dep] <;> omega
theorem u_ {k U:Kd}{J L:Nat}(h:k.dep<U.dep)(Y:J<8):mu k J<mu U L:=by
 have:=Df k J
 cases U <;> simp only[mu,Kd.dep] at * <;> omega
noncomputable def gr (J:Nat):Nat:=if J=0 then 1 else if J=1 then 9 else if J<4 then 73 else 585
noncomputable def kc:Kd->Nat->Nat
 | .tree k,J=>(k.cB+1) * gr J
 |k,_=>k.cB
theorem va (J:Nat):1<=gr J/\gr J<=585:=by
 unfold gr;by_cases L:J=0
 . rw[if_pos L];omega
 . rw[if_neg L];by_cases h1:J=1
   . rw[if_pos h1];omega
   . rw[if_neg h1];by_cases h2:J<4
     . rw[if_pos h2];omega
     . rw[if_neg h2];omega
theorem Kb (J:Nat):gr J<=585:=(va J).2
theorem rK (k:Kd)(J:Nat):kc k J<=k.cB:=by
 cases k with
 |tree k=>exact Q3m _ (Kb J)
 |_=>exact Q00 _
theorem Kc {J:Nat}(h1:1<=J)(L:J<8):1+J * gr (J / 2)<=gr J:=(by decide:∀J<8,1<=J->1+J * gr (J / 2)<=gr J) J L h1
theorem Ke (ns:List Int)(k:Kd)(J:Nat)(n:Int)(h:J<8):n<=(val ns (.tree k) J n).2/\(val ns (.tree k) J n).2<=n+((k.cB+1) * gr J:Nat):=by
 have L:=λ(J:Nat) (n:Int) (h:J<8)=>mZ ns k J n h;have e:val ns (.tree k) J n=fh ns (val ns k) 4 J n:=by simp only[val]
 rw[e];unfold gr;by_cases U:J=0
 . rw[if_pos U,<-lF 2 J n (by omega),<-lF 1 J n (by omega),<-lF 0 J n (by omega)];exact mY (N:=k.cB) L 1 J n h
 . rw[if_neg U];by_cases h1:J=1
   . rw[if_pos h1,<-lF 2 J n (by omega),<-lF 1 J n (by omega)];exact mY (N:=k.cB) L 2 J n h
   . rw[if_neg h1];by_cases h2:J<4
     . rw[if_pos h2,<-lF 2 J n (by omega)];exact mY (N:=k.cB) L 3 J n h
     . rw[if_neg h2];exact mY (N:=k.cB) L 4 J n h
theorem Dg (ns:List Int):∀(fs:Fs) (i J:Nat) (n:Int) (x:Str) (k:Kd),fs.at i=some (x,k)->gg ns fs i J n=(pairD (.str x) (val ns k J n).1,(val ns k J n).2)
 | .nil,i,_,_,_,_,h=>by cases h
 | .cons y q r,0,J,n,x,k,h=>by
   cases h;simp only[gg]
 | .cons y q r,i+1,J,n,x,k,h=>by
   simp only[gg];exact Dg ns r i J n x k h
theorem Fs.Dh:∀{fs:Fs}{i:Nat}{x:Str}{k:Kd},fs.at i=some (x,k)->k.cB<=fs.cB
 | .nil,_,_,_,h=>by cases h
 | .cons y q r,0,x,k,h=>by
   cases h;simp only[Fs.cB];omega
 | .cons y q r,i+1,x,k,h=>by
   have:=Fs.Dh (fs:=r) (i:=i) h;simp only[Fs.cB];omega
theorem Fs.Di:∀{fs:Fs}{i:Nat}{x:Str}{k:Kd},fs.at i=some (x,k)->(fs.take i).cB+k.cB<=fs.cB
 | .nil,_,_,_,h=>by cases h
 | .cons y q r,0,x,k,h=>by
   cases h;simp only[Fs.take,Fs.cB];omega
 | .cons y q r,i+1,x,k,h=>by
   have:=Fs.Di (fs:=r) (i:=i) h;simp only[Fs.take,Fs.cB];omega
theorem Fs.kX:∀(fs:Fs) (i:Nat),(fs.take i).names=fs.names.take i
 | .nil,i=>by simp[Fs.take,Fs.names]
 | .cons x k r,0=>by simp[Fs.take,Fs.names]
 | .cons x k r,i+1=>by
   show x::(r.take i).names=x::r.names.take i;rw[Fs.kX r i]
theorem Fs.Kf {fs:Fs}{i:Nat}{x:Str}{k:Kd}(J:fs.names.Nodup)(h:fs.at i=some (x,k)):x ∉ (fs.take i).names:=by
 rw[Fs.kX];intro L;obtain⟨j,U,e⟩:=Q1q L;have Y:fs.names[i]? =some x:=by rw[Fs.iD,h];rfl
 obtain⟨hi,ei⟩:=List.getElem?_eq_some_iff.mp Y;rw[Q0k] at U;rw[Q2o] at e;have:=(Q19 J).mp (e.trans ei.symm);omega
theorem vb (ns:List Int)(J:Nat):∀(fs:Fs) (n:Int),(dW ns fs J n).1.names=fs.names
 | .nil,n=>by simp[dW,Ds.names,Fs.names]
 | .cons x k r,n=>by
   simp only[dW,Ds.names,Fs.names];rw[vb ns J r]
theorem dH.key {H:Hp}{kvs:List (Key × V)}{m:Ds}{fp:List Addr}{fs:Fs}{x:Str}(h:dH H kvs m fp)(f:gP fs m)(hp:fs.pl x):gF kvs (Sum.inr x)=some (kV (keyOf m x)):=by
 rcases(f.plain hp).2 with⟨z,e1,J,_⟩|⟨s,e1,J,_⟩
 . obtain⟨v,g,h1,h2,_⟩:=dH.val m h e1;unfold Own at h2;rw[h1,J,h2.1];rfl
 . obtain⟨v,g,h1,h2,_⟩:=dH.val m h e1;unfold Own at h2;rw[h1,J,h2.1];rfl
abbrev eK (b P:Addr):Hp->Hp->Prop:=Kp (λc=>c=b\/c=P)
theorem _root_.L2.d_.tab {P:Addr}{J:Pos}{L:Str}{H:Hp}(h:d_ P J L H):∃ps,H P=some (.fm ps):=by
 rcases h with e|⟨c,e,_⟩ <;> exact⟨_,e⟩
theorem _root_.L2.d_.keep {P:Addr}{J:Pos}{L:Str}{H H':Hp}(h:d_ P J L H)(k:∀c o,(∀xs,o≠ .lst xs)->H c=some o->H' c=some o):d_ P J L H':=by
 rcases h with e|⟨c,e,f⟩
 . exact .inl (k _ _ (by intro xs z;cases z) e)
 . exact .inr ⟨c,k _ _ (by intro xs z;cases z) e,k _ _ (by intro xs z;cases z) f⟩
theorem _root_.L2.d_.same {P:Addr}{J:Pos}{L:Str}{H H':Hp}(h:d_ P J L H)(s:Same H H'):d_ P J L H':=h.keep λc o _ e=>s c o e
theorem _root_.L2.d_.sb {P b:Addr}{J:Pos}{L:Str}{H H':Hp}{l:List V}(h:d_ P J L H)(U:H b=some (.lst l))(s:SB b H H'):d_ P J L H':=
 h.keep λc o Y e=>s c o (fo e U (Y l)) e
theorem _root_.L2.d_.wr {P p:Addr}{L:Pos}{U:Str}{H:Hp}{o:HO}(h:d_ P L U H)(hp:Mu H p):d_ P L U (upd H p o):=by
 have key:∀c u,(∀xs,u≠ .lst xs)->(∀J,u≠ .dK J)->H c=some u->upd H p o c=some u:=λc u h1 h2 e=>by
  rw[dg];· exact e
  intro z;subst z;rcases hp with⟨xs,q⟩|⟨J,q⟩
  . rw[e] at q;exact h1 xs (Option.some.inj q)
  . rw[e] at q;exact h2 J (Option.some.inj q)
 rcases h with e|⟨c,e,f⟩
 . exact .inl (key _ _ (by intro xs z;cases z) (by intro xs z;cases z) e)
 . exact .inr ⟨c,key _ _ (by intro xs z;cases z) (by intro xs z;cases z) e,key _ _ (by intro xs z;cases z) (by intro xs z;cases z) f⟩
theorem SB.fN {b P:Addr}{H H':Hp}(s:SB b H H'):eK b P H H':=λc o n e=>s c o (λz=>n (.inl z)) e
theorem eK.at {b P c:Addr}{H H':Hp}{n:Int}{J:Pos}{L:Str}{o:HO}(x:eK b P H H')(U:H b=some (.lst [.int n]))(hT:d_ P J L H)(h1:o≠ .lst [.int n])(h2:∀ps,o≠ .fm ps)(e:H c=some o):H' c=some o:=by
 obtain⟨ps,Y⟩:=hT.tab;refine x c o (λz=>?_) e;rcases z with z|z
 . exact fo e U h1 z
 . exact fo e Y (h2 ps) z
theorem eK.tu {b P:Addr}{H H':Hp}{n:Int}{J:Pos}{L:Str}(x:eK b P H H')(U:H b=some (.lst [.int n]))(hT:d_ P J L H):Tu H H':=λa xs e=>x.at U hT (by intro z;cases z) (by intro ps z;cases z) e
theorem eK.g0 {K:W.Frag}{a b P:Addr}{H H':Hp}{ns:List Int}{n n':Int}{J:Pos}{L:Str}(x:eK b P H H')(g:G0 K H a b ns n)(hT:d_ P J L H)(h:H' b=some (.lst [.int n']))(U:n<=n'):G0 K H' a b ns n':=by
 refine⟨?_,g.len,h,by have:=g.pos;omega⟩;rcases g.jS with⟨o,e⟩|e
 . exact .inl ⟨o,x.at g.at_ hT (by intro z;cases z) (by intro ps z;cases z) e⟩
 . exact .inr e
theorem Own.fN {b P:Addr}{H₀ H H':Hp}{v:V}{d:D}{fp:List Addr}{n:Int}{L:Pos}{U:Str}(h:Own H v d fp)(x:eK b P H H')(Y:H b=some (.lst [.int n]))(hT:d_ P L U H)(J:∃o,H₀ b=some o)(fr:∀c∈fp,H₀ c=none):Own H' v d fp:=by
 refine h.keep (x.tu Y hT) d λc hc o e=>x c o (λz=>?_) e;rcases z with z|z
 . obtain⟨o',e'⟩:=J;have:=fr c hc;rw[z,e'] at this;cases this
 . obtain⟨ps,hP⟩:=hT.tab;rcases Own.alive d h c hc with⟨xs,q⟩|⟨xs,q⟩ <;> rw[z,hP] at q <;> cases q
def Dj:Sp:=λvs H Q _=>∃p r b key J fs kvs m fp,vs=[.ref p,.ref r]/\H p=some (.tup [.str "rows",.str key,.str J,.ref b])/\H r=some (.dK kvs)/\dH H kvs m fp/\gP fs m/\fs.pl key/\(J=""\/fs.pl J)/\
 ∀q,H q=none->Q (.ref q) (upd H q (.tup ((rankOf key J m).map kV)))
noncomputable def Kg (st:Stmt):Pos:=match(gJ st).getLast? with
 |some (.Return (some (.Call _ _ [⟨_,.Lambda _ _ _ J,_⟩] _)) _)=>J
 |_=>⟨0,0,0,0⟩
noncomputable abbrev jf:Pos:=Kg (top 38)
noncomputable abbrev jg:Str:=("_law_rows":Str)++".<locals>."++"<lambda>"
def nG (K:W.Frag) (P:Addr) (N:Nat):Sp:=λvs H Q _=>∃a b ns n L k,∃J:Nat,vs=[.ref a,.ref b,L,.int J]/\G0 K H a b ns n/\d_ P jf jg H/\KA H L k/\k.W/\J<8/\mu k J<=N/\n+kc k J<=1000000000000/\
 ∀(v:V) (H':Hp) (fp:List Addr),eK b P H H'->H' b=some (.lst [.int (val ns k J n).2])->d_ P jf jg H'->Own H' v (val ns k J n).1 fp->fp.Nodup->(∀c∈fp,H c=none)->Q v H'
def Dk (K:W.Frag) (P:Addr) (N:Nat):Sp:=λvs H Q _=>∃a b ns n U key L fs,∃J:Nat,vs=[.ref a,.ref b,U,.int J]/\G0 K H a b ns n/\d_ P jf jg H/\KA H U (.rows key L fs)/\(Kd.rows key L fs).W/\J<8/\mu (.rows key L fs) J<=N+1/\n+(Kd.rows key L fs).cB<=1000000000000/\
 ∀(v:V) (H':Hp) (fp:List Addr),eK b P H H'->H' b=some (.lst [.int (val ns (.rows key L fs) J n).2])->d_ P jf jg H'->Own H' v (val ns (.rows key L fs) J n).1 fp->fp.Nodup->(∀c∈fp,H c=none)->Q v H'
theorem Kh:d9 XM XM (dN (top 37)):=eG
theorem Ki (T:Tb mg)(J:Dn K mg "_law_rank" oO (top 37) L U):dj P w K mg base dm (1) L U oO (Dj):=by
 refine J.F.ok Kh λvs H Q E h=>?_;obtain⟨p,r,b,key,Y,fs,kvs,m,fp,rfl,hp,hR,hO,hF,hk,aa,q⟩:=h;refine⟨rfl,λac A outer s nd hr hu=>?_⟩
 refine⟨_,(dh (dM (dQ eh (dR (pv 0) c_) dv (dP _)) (dq (dF (f_ (a_ (j9 hu (pv 1) (dR (pv 0) c_) (λ_ _=>rfl)) b_)))) dO)
  (dq (dF (f_ (a_ (j9 hu (pv 1) (dR (pv 0) c_) (λ_ _=>rfl)) (a_ (j9 hu (pv 1) (dR (pv 0) c_) (λ_ _=>rfl)) b_)))))),?_⟩
 ac_rfl
 have gk:gc H r (.str key) (some (kV (keyOf m key))):=by have:=gc.k (k:=Sum.inr key) hR;rw[hO.key hF hk] at this;exact this
 refine⟨_,rfl,p,_,_,_,rfl,rfl,du.of hp,rfl,rfl,_,rfl,eX (λc=>?_) (λc=>?_)⟩
 . have c':Y="":=by
    have:=of_decide_eq_true c;injection this
   refine⟨_,rfl,_,rfl,p,_,_,_,rfl,rfl,du.of hp,rfl,r,_,rfl,gk,iW,λt ht=>?_⟩;have:=q t ht;unfold rankOf at this;rw[if_pos c'] at this;exact this
 . have c':¬Y="":=λz=>c (decide_eq_true (show V.str Y=V.str "" by rw[z]));have ab:fs.pl Y:=aa.resolve_left c';have gb:gc H r (.str Y) (some (kV (keyOf m Y))):=by have:=gc.k (k:=Sum.inr Y) hR;rw[hO.key hF ab] at this;exact this
   refine⟨_,rfl,_,rfl,p,_,_,_,rfl,rfl,du.of hp,rfl,r,_,rfl,gb,_,rfl,_,rfl,p,_,_,_,rfl,rfl,du.of hp,rfl,r,_,rfl,gk,gC,λt ht=>?_⟩;have:=q t ht;unfold rankOf at this;rw[if_neg c'] at this;exact this
noncomputable def σV (a b L:Addr) (J:Nat) (U ps:Addr) (x y:Option V):St:=[some (.ref a),some (.ref b),some (.ref L),some (.int J),some (.ref U),some (.ref ps),x,y]
theorem Dl {α J:Type}{F:α->J->Prop}{a:α}{b:J}:∀{as:List α}{bs:List J},Paired F as bs->F a b->Paired F (as++[a]) (bs++[b])
 |_,_,.nil,h=>.cons h .nil
 |_,_,.cons x r,h=>.cons x (Dl r h)
theorem Kj {L:List (Key × V)}{J:List Ds}{key:Str}(h:L.map (·.1)=J.map λr=>keyOf r key)(k:Key):(gF L k).isSome=mW key J k:=by
 rw[<-om];unfold mW;have e:∀(l:List Ds),(l.any λr=>decide (keyOf r key=k))=((l.map λr=>keyOf r key).any λx=>decide (x=k)):=λl=>by rw[Q2h];rfl
 rw[e,<-h,Q2h];rfl
theorem fW.fN {b P:Addr}{H₀ H H':Hp}{n:Int}{lp:Pos}{ql:Str}(x:eK b P H H')(U:H b=some (.lst [.int n]))(hT:d_ P lp ql H)(J:∃o,H₀ b=some o):
 ∀{vs:List V} {Y:List Ds} {L:List (List Addr)},fW H vs Y L->(∀c∈L.flatten,H₀ c=none)->fW H' vs Y L
 |_,_,_,.nil,_=>.nil
 |_,_,_,.cons h r,fr=>.cons (h.fN x U hT J λc hc=>fr c (Q0u _ hc)) (fW.fN x U hT J r λc hc=>fr c (Q09 _ hc))
theorem fW.keep {H H':Hp}(t:Tu H H'):∀{vs:List V}{L:List Ds}{J:List (List Addr)},fW H vs L J->(∀c∈J.flatten,∀o,H c=some o->H' c=some o)->fW H' vs L J
 |_,_,_,.nil,_=>.nil
 |_,_,_,.cons h r,k=>.cons (h.keep t _ λc hc=>k c (Q0u _ hc)) (fW.keep t r λc hc=>k c (Q09 _ hc))
theorem fW.mu {H:Hp}{vs:List V}{L:List Ds}{J:List (List Addr)}(h:fW H vs L J):∀c∈J.flatten,Mu H c:=dz.alive _ h.own
theorem Dp:d9 XJ XD (dN (top 38)):=eG
theorem Kk {Pt c:Addr}(N:Nat)(T:Tb mg)(ak:Dn K mg "_law_rows" hZ (top 38) al ab)(bb:ab.code=.ref c)(bA:W.CodeHd base c Pt)(bB:BM mg base)(am:Dn K mg "_law_next" ed (top 29) an ao)(ap:dj P w K mg base dm (1) an ao ed (m_ K))(U:Dn K mg "_law_rank" oO (top 37) aq ar)(au:dj P w K mg base dm (1) aq ar oO (Dj))(af:Dn K mg "_law_value" hZ (top 39) ag ah)(ai:dj P w K mg base dm (2 * N+5) ag ah hZ (nG K Pt N)):
 dj P w K mg base dm (2 * N+6) al ab hZ (Dk K Pt N):=by
 refine ak.F.AH bb Dp (λvs H Q E h=>?_) (λA outer s H vs Q E hr h=>?_)
 . obtain⟨a,b,ns,n,kv,key,Y,fs,J,rfl,_⟩:=h;rfl
 obtain⟨a,b,ns,n,kv,key,Y,fs,J,rfl,g,hT,hk,hW,b3,bC,hn,q⟩:=h;have nd:=Dp.nd;have hu:=sU hr;unfold KA at hk;obtain⟨pk,pb,xs,rfl,aY,bD,bE⟩:=hk;have b4:=hW;unfold Kd.W at hW;obtain⟨bF,bG,aZ,aH,be⟩:=hW
 refine⟨_,(dh (dI 4 nd (gm b_))
  (dh (dI 5 nd qD)
  (dh (i9 PassesOwn.never rfl (mJ rfl T.m8 (a_ (dk eL (dJ ap hr am (a_ (pv 0) (a_ (pv 1) b_))) (dk gE (pv 3) c_)) b_)) (e8 (i:=6) nd rfl gh) (dh (dI 7 nd (dJ ai hr af (a_ (pv 0) (a_ (pv 1) (a_ (f_ (a_ dv (a_ (dR (pv 2) c_) b_))) (a_ (dk gj (pv 3) c_) b_))))))
  (dq (dM (EK (Gj hu (j9 hu (pv 7) (dR (pv 2) c_) (λ_ _=>rfl)) (pv 5)) (by with_unfolding_all rfl)) (dh (qC hu (pv 5) (j9 hu (pv 7) (dR (pv 2) c_) (λ_ _=>rfl)) jk rfl)
  (dq (fC (gA PySem.F.plainAttrs_list PySem.F.slot_list_append PySem.F.type_list_append iA (pv 4) (a_ (pv 7) b_))))) dO))))
  (dq (dF (Hg (x:="_law_row") (N':=["","","_law_kind_here","","","","",""]) rfl T.A4 boot_sorted hr rfl rfl bA bB (ki.of (N:=XJ) (sc:=dN (top 38)) rfl rfl rfl rfl rfl (by decide +kernel)) rfl (λ_ _ _ _ _=>rfl) (pv 4) (λ_ _ _ _ _=>(zB au (eJ.deeper (k:=1) (eJ.in1 (k:=2) (eJ.in1 (k:=3) (hr.mono (by omega)))) _) rfl U.m U.F.kp U.b .nil gd (a_ (pv 3) (a_ (pv 0) b_)))))))))),?_⟩
 ac_rfl
 have bH:(Kd.rows key Y fs).cB=8 * fs.cB+1:=rfl;rw[bH] at hn;have hb:=g.at_;obtain⟨b5,hP⟩:=hT.tab;refine⟨lr,λpr aN=>?_⟩;intro ps aB
 have aI:H ps=none:=by
  by_cases e:ps=pr
  . rw[e,dw] at aB;cases aB
  . rwa [dg e] at aB
 have a1:ps≠pr:=λe=>by rw[e,dw] at aB;cases aB
 have s0:Same H (upd (upd H pr (.lst [])) ps (.dK [])):=(Same.new aN).trans (Same.new aB);have hT0:=hT.same s0;have g0:G0 K (upd (upd H pr (.lst [])) ps (.dK [])) a b ns n:=⟨(SB.of s0).jS hb g.jS,g.len,s0 _ _ hb,g.pos⟩;refine⟨_,rfl,_,rfl,a,b,ns,n,rfl,g0,by omega,λH1 s1 h1=>?_⟩;refine⟨_,rfl,_,_,rfl,rfl,_,_,rfl,rfl,by omega,?_⟩;have b6:=Q0i (nx ns (n+1)) (show((J:Int)+1)≠0 by omega);have b7:=Q0h (nx ns (n+1)) (show(0:Int)<(J:Int)+1 by omega);have a2:b≠pr:=dA hb aN;have a3:b≠ps:=dA hb aI;have g8:Pt≠pr:=dA hP aN;have bI:Pt≠ps:=dA hP aI;have bJ:H1 pr=some (.lst []):=s1 pr _ (Ne.symm a2) (by rw[dg (Ne.symm a1)];exact dw);have bK:H1 ps=some (.dK []):=s1 ps _ (Ne.symm a3) dw;have bL:d_ Pt jf jg H1:=hT0.sb (s0 _ _ hb) s1;have k1:eK b Pt H H1:=λc o nc e=>s1 c o (λz=>nc (.inl z)) (s0 c o e);have cnt:=λm=>oH ns fs (J / 2) m (by omega)
 refine⟨_,rfl,by omega,by omega,mK (n:=Int.toNat (nx ns (n+1) % ((J:Int)+1))) (λi σ H'=>∃x y vs fl sk,σ=σV a b pk J pr ps x y/\eK b Pt H H'/\H' b=some (.lst [.int (eF (dW ns fs (J / 2)) key i [] (n+1)).2])/\d_ Pt jf jg H'/\
  H' pr=some (.lst vs)/\H' ps=some (.dK sk)/\fW H' vs (eF (dW ns fs (J / 2)) key i [] (n+1)).1 fl/\fl.flatten.Nodup/\(∀c∈fl.flatten,H c=none/\c≠pr/\c≠ps)/\sk.map (·.1)=((eF (dW ns fs (J / 2)) key i [] (n+1)).1.map λr=>keyOf r key)/\vs.length<=i) ?_ ?_ ?_⟩
 . exact⟨_,_,[],[],[],rfl,k1,h1,bL,bJ,bK,.nil,Q1e,λc hc=>absurd hc (by simp),rfl,Q00 _⟩
 . intro i σ H' hi zq;obtain⟨x,y,vs,fl,sk,rfl,kp,aE,aC,aO,a4,ac,aP,aw,aF,bM⟩:=zq;have b8:i<8:=by omega
   obtain⟨c1,c2⟩:=qS (key:=key) cnt i [] (n+1);have c3:i * fs.cB<=7 * fs.cB:=Q1 _ (by omega);have aG:Tu H H':=kp.tu hb hT;refine⟨_,rfl,_,rfl,_,rfl,pk,_,_,_,rfl,rfl,du.of (aG _ _ aY),rfl,gC,λt ht=>?_⟩;have st:Same H' (upd H' t (.tup [.str "record",.ref pb])):=Same.new ht;have e2:((J / 2:Nat):Int)=(J:Int) / 2:=by omega
   have bN:KA (upd H' t (.tup [.str "record",.ref pb])) (.ref t) (.dG fs):=by
    unfold KA;exact⟨t,pb,xs,rfl,dw,st _ _ (aG _ _ bD),FA.mono (aG.trans (Tu.of st)) fs bE⟩
   have b9:=g.pos;refine⟨_,rfl,_,_,rfl,rfl,⟨by decide,by decide⟩,a,b,ns,(eF (dW ns fs (J / 2)) key i [] (n+1)).2,.ref t,.dG fs,J / 2,(by rw[e2];rfl),eK.g0 (kp.trans (Kp.of st)) g hT (st _ _ aE) (by omega),aC.same st,bN,(by unfold Kd.W;exact⟨bF,bG,aZ⟩),by omega,(by simp only[mu,Kd.dep] at bC ⊢;omega),(by simp only[kc,Kd.cB];omega),?_⟩;intro v H2 fp fN aD bf ay bt aU;have ev:val ns (.dG fs) (J / 2) (eF (dW ns fs (J / 2)) key i [] (n+1)).2=(.dct (dW ns fs (J / 2) (eF (dW ns fs (J / 2)) key i [] (n+1)).2).1,(dW ns fs (J / 2) (eF (dW ns fs (J / 2)) key i [] (n+1)).2).2):=by simp only[val]
   rw[ev] at aD ay;have bu:=oG ns fs aZ (J / 2) (eF (dW ns fs (J / 2)) key i [] (n+1)).2 (by omega);have succ:=u9 (g:=dW ns fs (J / 2)) (key:=key) i [] (n+1);generalize eF (dW ns fs (J / 2)) key (i+1) [] (n+1)=ca at succ ⊢;generalize eF (dW ns fs (J / 2)) key i [] (n+1)=L at *;generalize dW ns fs (J / 2) L.2=ae at *;have av:eK b Pt H' H2:=(Kp.of st).trans fN;have bO:∃o,H b=some o:=⟨_,hb⟩;have bg:H2 pr=some (.lst vs):=av pr _ (λz=>z.elim (Ne.symm a2) (Ne.symm g8)) aO;have aQ:H2 ps=some (.dK sk):=av ps _ (λz=>z.elim (Ne.symm a3) (Ne.symm bI)) a4;have aa:fW H2 vs L.1 fl:=fW.fN av aE aC bO ac λc hc=>(aw c hc).1;have bc:=ay;unfold Own at ay;obtain⟨rr,kvs,fq,rfl,a5,cb,a6⟩:=ay;have az:H2 pk=some (.tup [.str "rows",.str key,.str Y,.ref pb]):=eK.at (kp.trans av) hb hT (by intro z;cases z) (by intro ps z;cases z) aY;have gk:gc H2 rr (.str key) (some (kV (keyOf ae.1 key))):=by have:=gc.k (k:=Sum.inr key) a5;rw[a6.key bu aH] at this;exact this
   have gs:gc H2 ps (kV (keyOf ae.1 key)) (gF sk (keyOf ae.1 key)):=gc.k aQ;have sv:=Kj aF (keyOf ae.1 key);have aK:eK b Pt H H2:=kp.trans av;refine⟨_,rfl,_,rfl,pk,_,_,_,rfl,rfl,du.of az,rfl,rr,_,rfl,gk,_,rfl,ps,_,rfl,gs,_,rfl,?_⟩
   cases ec:mW key L.1 (keyOf ae.1 key) with
   |true=>
    rw[ec] at sv;rw[ec,if_pos rfl] at succ;rw[sv];subst succ;exact dE ⟨_,_,vs,fl,sk,rfl,aK,aD,bf,bg,aQ,aa,aP,aw,aF,by omega⟩
   |false=>
    rw[ec] at sv;rw[ec,if_neg (by simp)] at succ;rw[sv];subst succ;refine dS ?_
    have bP:gF sk (keyOf ae.1 key)=none:=by
     cases z:gF sk (keyOf ae.1 key) with
     |none=>rfl
     |some o=>rw[z] at sv;cases sv
    have bv:sk.length<sizeLine:=by
     have e1:sk.length=(L.1.map λr=>keyOf r key).length:=by rw[<-aF,Q0b]
     rw[Q0b] at e1;have cd:=(A3.len aa).1;exact hX (by omega)
    refine⟨_,rfl,_,rfl,_,rfl,pk,_,_,_,rfl,rfl,du.of az,rfl,rr,_,rfl,gk,ps,_,rfl,lb.k aQ bv,?_⟩;rw[qV bP];have bh:Mu H2 ps:=.inr ⟨_,aQ⟩;have bQ:Tu H2 (upd H2 ps (.dK (sk++[(keyOf ae.1 key,.bl true)]))):=Tu.wr λys z=>bh.t9 ys z;have a7:upd H2 ps (.dK (sk++[(keyOf ae.1 key,.bl true)])) pr=some (.lst vs):=by rw[dg (Ne.symm a1)];exact bg
    refine⟨_,rfl,.inl ⟨rfl,_,dy.of a7⟩,_,rfl,pr,_,_,rfl,rfl,a7,hX (by omega),?_⟩;have bi:Mu (upd H2 ps (.dK (sk++[(keyOf ae.1 key,.bl true)]))) pr:=.inl ⟨_,a7⟩;have bj:Tu H2 (upd (upd H2 ps (.dK (sk++[(keyOf ae.1 key,.bl true)]))) pr (.lst (vs++[.ref rr]))):=bQ.trans (Tu.wr λys z=>bi.t9 ys z)
    have aJ:∀c∈fp,H c=none/\c≠pr/\c≠ps:=λc hc=>by
     have z:=aU c hc;have z':H' c=none:=st.free z;have nb:c≠b:=λe=>by rw[e,aE] at z';cases z'
     obtain⟨bm,a8⟩:=aC.tab;have nP:c≠Pt:=λe=>by rw[e,a8] at z';cases z'
     refine⟨kp.jx (λe=>e.elim nb nP) z',λe=>?_,λe=>?_⟩
     . rw[e,aO] at z';cases z'
     . rw[e,a4] at z';cases z'
    have aj:∀c,c≠pr->c≠ps->upd (upd H2 ps (.dK (sk++[(keyOf ae.1 key,.bl true)]))) pr (.lst (vs++[.ref rr])) c=H2 c:=λc n1 n2=>by rw[dg n1,dg n2]
    refine⟨_,_,vs++[.ref rr],fl++[fp],_,rfl,λc o nc e=>?_,by rw[aj b a2 a3];exact aD,(bf.wr bh).wr bi,dw,by rw[dg a1];exact dw,?_,?_,?_,?_,by rw[Q01];show vs.length+1<=i+1;omega⟩
    . rw[aj c (dA e aN) (dA e aI)];exact aK c o nc e
    . refine A3.snoc ?_ (fW.keep bj aa λc hc o e=>by rw[aj c (aw c hc).2.1 (aw c hc).2.2];exact e);exact bc.keep bj _ λc hc o e=>by rw[aj c (aJ c hc).2.1 (aJ c hc).2.2];exact e
    . rw[Q3n];refine List.nodup_append.mpr ⟨aP,by simpa using bt,λc hc d hd=>?_⟩;have bR:d∈fp:=by simpa using hd
      intro e;subst e;obtain⟨o,eo⟩:=(fW.mu ac c hc).ex;have:=st.free (aU c bR);rw[eo] at this;cases this
    . intro c hc;rw[Q3n] at hc;rcases List.mem_append.mp hc with z|z
      . exact aw c z
      . exact aJ c (by simpa using z)
    . rw[Q0p,Q0p,aF];rfl
 . intro σ H' zq;obtain⟨x,y,vs,fl,sk,rfl,kp,aE,aC,aO,a4,ac,aP,aw,aF,bM⟩:=zq;have bS:val ns (.rows key Y fs) J n=(.lst (iE (kM key Y (eF (dW ns fs (J / 2)) key (nx ns (n+1) % ((J:Int)+1)).toNat [] (n+1)).1)),(eF (dW ns fs (J / 2)) key (nx ns (n+1) % ((J:Int)+1)).toNat [] (n+1)).2):=by simp only[val]
   rw[bS] at q;have aL:∀m∈(eF (dW ns fs (J / 2)) key (nx ns (n+1) % ((J:Int)+1)).toNat [] (n+1)).1,gP fs m:=l9 (R:=gP fs) (λn=>oG ns fs aZ (J / 2) n (by omega)) _ _ _ (λr hr=>absurd hr (by simp));have bT:=qQ (g:=dW ns fs (J / 2)) (key:=key) (nx ns (n+1) % ((J:Int)+1)).toNat [] (n+1) Q1e;generalize eF (dW ns fs (J / 2)) key (nx ns (n+1) % ((J:Int)+1)).toNat [] (n+1)=L at *;obtain⟨aW,bw⟩:=A3.len ac;refine⟨_,rfl,pr,vs,rfl,dy.of aO,by omega,aC,λc' H2 a9 mono=>?_⟩;have aG:Tu H H':=kp.tu hb hT
   have np:∀cc o,(∀ps,o≠ .fm ps)->H' cc=some o->H2 cc=some o:=λcc o ho e=>by
    obtain⟨bm,a8⟩:=aC.tab;exact mono cc o (fo e a8 (ho bm)) e
   have bn:Tu H' H2:=λcc ys e=>np cc _ (by intro ps z;cases z) e
   have aa:fW H2 vs L.1 fl:=fW.keep bn ac λcc hc o e=>np cc o (by
    intro ps z;rcases fW.mu ac cc hc with⟨_,q⟩|⟨_,q⟩ <;> rw[e] at q <;> rw[z] at q <;> cases q) e
   have az:H2 pk=some (.tup [.str "rows",.str key,.str Y,.ref pb]):=bn _ _ (aG _ _ aY);refine⟨λks H3=>Same H2 H3/\ks.length<=vs.length/\mS H3 ks ((L.1.map (rankOf key Y)).take ks.length),⟨Same.refl _,Q06 _,.nil⟩,λks H3 hw=>a9.mono λcc o _ e=>hw.1 _ _ e,?_,?_⟩
   . rintro ks H3 yv ⟨s3,bU,aS⟩ hy;have bo:ks.length<vs.length:=(List.getElem?_eq_some_iff.mp hy).1;have aX:=A3.at (a0:=V.non) (b0:=Ds.nil) (c0:=[]) aa ks.length bo;have ey:vs.getD ks.length .non=yv:=by rw[Q0m,hy];rfl
     rw[ey] at aX
     have bx:L.1.getD ks.length .nil∈L.1:=by
      rw[Q0m,Q0a (by omega)];exact Q1r _
     have aM:=Own.same s3 aX;unfold Own at aM;obtain⟨rr,kvs,fq,rfl,a5,_,a6⟩:=aM;refine⟨_,rfl,_,rfl,pk,rr,pb,key,Y,fs,kvs,_,fq,rfl,s3 _ _ az,a5,a6,aL _ bx,aH,be,λt ht=>⟨s3.trans (Same.new ht),by rw[Q01];exact bo,?_⟩⟩
     have et:(L.1.map (rankOf key Y)).take (ks++[V.ref t]).length=(L.1.map (rankOf key Y)).take ks.length++[rankOf key Y (L.1.getD ks.length .nil)]:=by
      rw[Q01];show List.take (ks.length+1) _=_;rw[Q2n,Q0o,Q0m,Q0a (by omega)];rfl
     rw[et];refine Dl (Paired.pT aS λk kl z=>?_) ⟨t,rfl,dw⟩;obtain⟨pp,e,hh⟩:=z;exact⟨pp,e,by rw[dg (dA hh ht)];exact hh⟩
   . rintro ks H3 ⟨s3,bU,aS⟩ bz
     have bV:(L.1.map (rankOf key Y)).take ks.length=L.1.map (rankOf key Y):=by
      rw[bz,aW,Q1d (by rw[Q0b];exact Q00 _)]
     rw[bV] at aS;refine⟨_,aS,⟨if Y="" then [l8 (fs.get key)] else [l8 (fs.get Y),l8 (fs.get key)],by split <;> simp,λkl bW=>?_⟩,λp hp hs D hD=>?_⟩
     . obtain⟨m,hm,rfl⟩:=List.mem_map.mp bW;exact Hx (aL m hm) aH be
     have ba:∀i∈p,i<vs.length:=λi hi=>by
      have:=hp.mem_iff.mp hi;simpa using this
     have bX:p.Perm (List.range L.1.length):=by rw[<-aW];exact hp
     have hz:(p.map λi=>L.1.getD i .nil)=kM key Y L.1:=by
      refine Hw (AW _ bX) ?_ bT;rw[Q2z] at hs ⊢;refine List.Pairwise.imp_of_mem (λ{i j} hi hj h=>?_) hs;have bY:=ba i hi;have bZ:=ba j hj
      have ge:∀i,i<vs.length->(L.1.map (rankOf key Y)).getD i []=rankOf key Y (L.1.getD i .nil):=λi hi=>by
       rw[Q0m,Q0m,Q0o,Q0a (by omega)];rfl
      rw[ge i bY,ge j bZ] at h;exact h
     have aA:fW H3 vs L.1 fl:=fW.keep (Tu.of s3) aa λcc _ o e=>s3 cc o e;have sD:Same H3 (upd H3 D (.lst (p.map λi=>vs.getD i .non))):=Same.new hD;have aT:fW (upd H3 D (.lst (p.map λi=>vs.getD i .non))) vs L.1 fl:=fW.keep (Tu.of sD) aA λcc _ o e=>sD cc o e;have bd:=A3.pick (a0:=V.non) (b0:=Ds.nil) (c0:=[]) aT p ba;have b1:(p.map λi=>fl.getD i []).Perm fl:=AW _ (by rw[<-bw];exact hp);have ax:=Hz b1;have aD:H2 b=some (.lst [.int L.2]):=np b _ (by intro ps z;cases z) aE;have bp:D≠b:=λe=>by rw[e,s3 _ _ aD] at hD;cases hD
     have bq:D≠Pt:=λe=>by rw[e,s3 _ _ a9.1] at hD;cases hD
     have br:=s3.free hD
     have b2:H' D=none:=by
      cases e:H' D with
      |none=>rfl
      |some o=>rw[mono D o bq e] at br;cases br
     refine q (.ref D) _ (D::(p.map λi=>fl.getD i []).flatten) (λcc o nc e=>?_) (by rw[dg (Ne.symm bp)];exact s3 _ _ aD) (.inr ⟨c',a9.mono λcc o _ e=>sD _ _ (s3 _ _ e)⟩) ?_ ?_ ?_
     . have e1:=kp cc o nc e;exact sD _ _ (s3 _ _ (mono cc o (λz=>nc (.inr z)) e1))
     . unfold Own;exact⟨D,_,_,rfl,dw,rfl,by rw[<-hz];exact fW.own bd⟩
     . refine List.nodup_cons.mpr ⟨λhm=>?_,ax.nodup_iff.mpr aP⟩;obtain⟨o,eo⟩:=(fW.mu aA D (ax.mem_iff.mp hm)).ex;rw[hD] at eo;cases eo
     . intro cc hc;rcases List.mem_cons.mp hc with z|z
       . rw[z];exact kp.jx (λe=>e.elim bp bq) b2
       . exact(aw cc (ax.mem_iff.mp z)).1
theorem Kl (k:Kd)(J:Nat):16<=mu k J:=by
 have:=k.gB
 cases k <;> simp only[mu,Kd.dep] at * <;> omega
noncomputable def σU (a b:Addr) (L:V) (J:Nat) (U Y x3 x4 x5:Option V):St:=[some (.ref a),some (.ref b),some L,some (.int J),U,Y,x3,x4,x5]
theorem dH.fN {b P:Addr}{H₀ H H':Hp}{v:List (Key × V)}{d:Ds}{fp:List Addr}{n:Int}{L:Pos}{U:Str}(h:dH H v d fp)(x:eK b P H H')(Y:H b=some (.lst [.int n]))(hT:d_ P L U H)(J:∃o,H₀ b=some o)(fr:∀c∈fp,H₀ c=none):dH H' v d fp:=by
 refine h.keep (eK.tu x Y hT) d λc hc o e=>x c o (λz=>?_) e;rcases z with z|z
 . obtain⟨o',e'⟩:=J;have:=fr c hc;rw[z,e'] at this;cases this
 . obtain⟨ps,hP⟩:=hT.tab;rcases dH.alive d h c hc with⟨xs,q⟩|⟨xs,q⟩ <;> rw[z,hP] at q <;> cases q
theorem dz.fN {b P:Addr}{H₀ H H':Hp}{v:List V}{d:Ds}{fp:List Addr}{n:Int}{L:Pos}{U:Str}(h:dz H v d fp)(x:eK b P H H')(Y:H b=some (.lst [.int n]))(hT:d_ P L U H)(J:∃o,H₀ b=some o)(fr:∀c∈fp,H₀ c=none):dz H' v d fp:=by
 refine h.keep (eK.tu x Y hT) d λc hc o e=>x c o (λz=>?_) e;rcases z with z|z
 . obtain⟨o',e'⟩:=J;have:=fr c hc;rw[z,e'] at this;cases this
 . obtain⟨ps,hP⟩:=hT.tab;rcases dz.alive d h c hc with⟨xs,q⟩|⟨xs,q⟩ <;> rw[z,hP] at q <;> cases q
theorem eK.fresh {b P c:Addr}{H H':Hp}{n:Int}{J:Pos}{L:Str}(x:eK b P H H')(U:H' b=some (.lst [.int n]))(hT:d_ P J L H')(h:H' c=none):H c=none:=by
 obtain⟨ps,Y⟩:=hT.tab;exact x.jx (λe=>e.elim (λz=>by rw[z,U] at h;cases h) λz=>by rw[z,Y] at h;cases h) h
theorem Dq:d9 XI XD (dN (top 39)):=eG
theorem Km {Pt:Addr}(T:Tb mg)(J:Dn K mg "_law_value" hZ (top 39) L U):dj P w K mg base dm (2 * 0+5) L U hZ (nG K Pt 0):=by
 refine J.F.ok Dq λvs H Q E h=>?_;obtain⟨a,b,ns,n,kv,k,Y,rfl,g,hT,hk,hW,ab,aa,_⟩:=h;refine⟨rfl,λac A outer s nd hr hu=>?_⟩;exact absurd aa (by have:=Kl k Y;omega)
theorem Kn {Pt:Addr}(N:Nat)(T:Tb mg)(L:Dn K mg "_law_value" hZ (top 39) ac ae)(Y:dj P w K mg base dm (2 * N+5) ac ae hZ (nG K Pt N))(aq:Dn K mg "_law_rows" hZ (top 38) ar au)(av:dj P w K mg base dm (2 * N+6) ar au hZ (Dk K Pt N))(af:Dn K mg "_law_next" ed (top 29) aw ax)(ag:dj P w K mg base dm (1) aw ax ed (m_ K))(am:Dn K mg "_law_number" ed (top 30) an ao)(ap:dj P w K mg base dm (2) an ao ed (Ba K))(ay:Dn K mg "_law_word" ed (top 31) az aA)(aB:dj P w K mg base dm (2) az aA ed (Bb K)):
 dj P w K mg base dm (2 * (N+1)+5) ac ae hZ (nG K Pt (N+1)):=by
 refine L.F.ok Dq λvs H Q E h=>?_;obtain⟨a,b,ns,n,kv,k,J,rfl,g,hT,hk,hW,ab,aZ,hn,q⟩:=h;refine⟨rfl,λbC A outer s nd hr hu=>?_⟩
 refine⟨_,(dh (dM (dQ eh (dR (pv 2) c_) dv (dP _)) (dq (dF (dJ ap hr am (a_ (pv 0) (a_ (pv 1) b_))))) dO)
  (dh (dM (dQ eh (dR (pv 2) c_) dv (dP _)) (dq (dF (dJ aB hr ay (a_ (pv 0) (a_ (pv 1) b_))))) dO)
  (dh (dM (dQ eh (dR (pv 2) c_) dv (dP _)) (dh (dI 4 nd qD)
  (dh (i9 PassesOwn.never rfl (nZ (dR (pv 2) c_)) (j4 rfl (gK (e8 (i:=5) nd rfl gh) (gK (e8 (i:=6) nd rfl gh) j3))) (dq (qC hu (pv 4) (pv 5) (dJ Y hr L (a_ (pv 0) (a_ (pv 1) (a_ (pv 6) (a_ (pv 3) b_))))) rfl)))
  (dq (dF (pv 4))))) dO)
  (dh (dM (dQ eh (dR (pv 2) c_) dv (dP _)) (dq (dF (dJ av hr aq (a_ (pv 0) (a_ (pv 1) (a_ (pv 2) (a_ (pv 3) b_))))))) dO)
  (dh (dM (dQ eh (dR (pv 2) c_) dv (dP _)) (dh (dI 7 nd (dJ Y hr L (a_ (pv 0) (a_ (pv 1) (a_ (dR (pv 2) c_) (a_ (dk gj (pv 3) c_) b_))))))
  (dh (dI 8 nd (dk eL (dJ ag hr af (a_ (pv 0) (a_ (pv 1) b_))) (dk gE (pv 3) c_)))
  (dq (dF (f_ (a_ (pv 7) (a_ (kJ (g:=(fU 0)) (tt:=ju) (te:=(jq _ _ _ (fF (eV 1) (fF (eV 2) (fF (eV 3) (fF (gL _ (eV 4) (tC (.int 2))) hU)))))) (own:=["_law_k"]) rfl (jO (N:=XI) (sc:=dN (top 39))) (mJ rfl T.m8 (a_ (pv 8) b_)) (λ_ _ _ _ _=>(e8 (i:=0) (show(["_law_k","_law_script","_law_at","_law_kind_here","_law_room","_law_made","_law_name","_law_inner","_law_top","_law_many"]:List Str).Nodup by decide +kernel) rfl (Or.inl rfl) (.inr rfl))) (λ_ _ _ _ _=>kg) (λ_ _ _ _ _=>(dJ Y hr L (a_ (pv 1) (a_ (pv 2) (a_ (pv 3) (a_ (dk gj (pv 4) c_) b_))))))) b_))))))) dO)
  (dh (yY (dR (dR (pv 2) c_) (dk eL (dJ ag hr af (a_ (pv 0) (a_ (pv 1) b_))) (dX js (by rfl) T.gG PySem.boot_len (a_ (dR (pv 2) c_) b_)))) (j4 rfl (gK (e8 (i:=5) nd rfl gh) (gK (e8 (i:=6) nd rfl gh) j3))))
  (dq (dF (f_ (a_ (pv 5) (a_ (dJ Y hr L (a_ (pv 0) (a_ (pv 1) (a_ (pv 6) (a_ (pv 3) b_))))) b_))))))))))),?_⟩
 ac_rfl
 have hb:=g.at_;have bD:=g.pos;have aS:∃o,H b=some o:=⟨_,hb⟩;obtain⟨bE,hP⟩:=hT.tab;have e2:((J / 2:Nat):Int)=(J:Int) / 2:=by omega
 cases k with
 |num=>
  unfold KA at hk;obtain⟨c,rfl,hc⟩:=hk;simp only[kc,Kd.cB] at hn;refine kh rfl hc rfl (by decide +kernel) ?_;refine⟨_,rfl,_,rfl,a,b,ns,n,rfl,g,by omega,λH1 s1 h1=>?_⟩;have ev:val ns .num J n=(.int (num ns (n+1)),n+1):=by simp only[val]
  rw[ev] at q;exact q _ H1 [] (SB.fN s1) h1 (hT.sb hb s1) (by unfold Own;exact⟨rfl,rfl⟩) Q1e λc hc=>absurd hc (by simp)
 |eM=>
  unfold KA at hk;obtain⟨c,rfl,hc⟩:=hk;simp only[kc,Kd.cB] at hn;refine fx rfl hc rfl (by decide +kernel) ?_;refine kh rfl hc rfl (by decide +kernel) ?_;refine⟨_,rfl,_,rfl,a,b,ns,n,rfl,g,by omega,λH1 s1 h1=>?_⟩;have ev:val ns .eM J n=(.str (eM ns (n+1)),n+1):=by simp only[val]
  rw[ev] at q;exact q _ H1 [] (SB.fN s1) h1 (hT.sb hb s1) (by unfold Own;exact⟨rfl,rfl⟩) Q1e λc hc=>absurd hc (by simp)
 |dG fs=>
  unfold KA at hk;obtain⟨pk,pb,xs,rfl,aa,aE,aF⟩:=hk;unfold Kd.W at hW;obtain⟨a5,bf,aT⟩:=hW;refine fx rfl aa rfl (by decide +kernel) ?_;refine fx rfl aa rfl (by decide +kernel) ?_;refine kh rfl aa rfl (by decide +kernel) ?_;intro p hp;have a6:b≠p:=dA hb hp;have bg:Pt≠p:=dA hP hp;have s0:Same H (upd H p (.dK [])):=Same.new hp;have bh:val ns (.dG fs) J n=(.dct (dW ns fs J n).1,(dW ns fs J n).2):=by simp only[val]
  rw[bh] at q;simp only[kc,Kd.cB] at hn
  refine⟨_,rfl,pk,_,_,_,rfl,rfl,du.of (s0 _ _ aa),rfl,pb,rfl,⟨_,du.of (s0 _ _ aE)⟩,y_ (xs:=xs) (λi σ H'=>∃x2 x3 x4 x5 kvs fq,σ=σU a b (.ref pk) J (some (.ref p)) x2 x3 x4 x5/\eK b Pt H H'/\H' b=some (.lst [.int (dW ns (fs.take i) J n).2])/\d_ Pt jf jg H'/\
   H' p=some (.dK kvs)/\dH H' kvs (dW ns (fs.take i) J n).1 fq/\fq.Nodup/\∀c∈fq,H c=none/\c≠p) ?_ ?_ ?_ ?_⟩
  . rw[Fs.take_zero];refine⟨_,_,_,_,[],[],rfl,Kp.of s0,by simp only[dW];exact s0 _ _ hb,hT.same s0,dw,?_,Q1e,λc hc=>absurd hc (by simp)⟩;simp only[dW];unfold dH;exact⟨rfl,rfl⟩
  . intro i σ H' _ zq;obtain⟨x2,x3,x4,x5,kvs,fq,rfl,kp,_⟩:=zq;exact du.of (eK.tu kp hb hT _ _ aE)
  . intro i v σ H' hv zq;obtain⟨x2,x3,x4,x5,kvs,fq,rfl,kp,ah,ai,aK,hO,aG,aj⟩:=zq;have a7:=eK.tu kp hb hT;obtain⟨c,u,nm,k,rfl,ak,hc,hk⟩:=FA.get fs aF hv;have cn:=oH ns (fs.take i) J n ab;have cb:=Fs.Di ak;refine⟨c,_,rfl,du.of (a7 _ _ hc),rfl,_,_,rfl,_,_,rfl,rfl,?_⟩;refine⟨_,rfl,_,rfl,_,rfl,_,rfl,a,b,ns,(dW ns (fs.take i) J n).2,u,k,J,rfl,eK.g0 kp g hT ah cn.1,ai,KA.mono a7 k hk,Fs.l6 aT ak,ab,?_,by have:=rK k J;omega,?_⟩
    . have:mu k J<mu (.dG fs) J:=u_ (by have:=Fs.iU ak;simp only[Kd.dep];omega) ab;omega
    intro v2 H2 fp fN aH aI aC aD al;have a8:H2 p=some (.dK kvs):=fN p _ (λz=>z.elim (Ne.symm a6) (Ne.symm bg)) aK;have rL:=dH.fN hO fN ah ai aS λc hc=>(aj c hc).1;have bi:nm ∉ (dW ns (fs.take i) J n).1.names:=by rw[vb];exact Fs.Kf a5 ak
    have bj:kvs.length<sizeLine:=by
     rw[dH.len hO,vb];have:(fs.take i).names.length<=fs.names.length:=by rw[Fs.kX,Q0k];omega
     exact hX (by omega)
    refine⟨_,rfl,_,rfl,p,_,rfl,lb.k (k:=Sum.inr nm) a8 bj,?_⟩;rw[qV (dH.t_ hO bi)];have a9:Mu H2 p:=.inr ⟨_,a8⟩;have ba:Tu H2 (upd H2 p (.dK (kvs++[(Sum.inr nm,v2)]))):=Tu.wr λys z=>a9.t9 ys z
    have aO:∀c∈fp,H c=none/\c≠p:=λc hc=>by
     have z:=al c hc;exact⟨eK.fresh kp ah ai z,λe=>by rw[e,aK] at z;cases z⟩
    have sn:=Dd ns nm k J (fs.take i) n;rw[Fs.take_succ ak,sn];refine⟨_,_,_,_,_,fq++fp,rfl,λc o nc e=>?_,by rw[dg a6];exact aH,aI.wr a9,dw,?_,?_,?_⟩
    . rw[dg (dA e hp)];exact fN c o nc (kp c o nc e)
    . exact dH.snoc (aC.keep ba _ λc hc o e=>by rw[dg (aO c hc).2];exact e) _ (rL.keep ba _ λc hc o e=>by rw[dg (aj c hc).2];exact e)
    . refine List.nodup_append.mpr ⟨aG,aD,λc hc d hd=>?_⟩;intro e;subst e;obtain⟨o,eo⟩:=(dH.alive _ hO c hc).ex;rw[al c hd] at eo;cases eo
    . intro c hc;rcases List.mem_append.mp hc with z|z
      . exact aj c z
      . exact aO c z
  . intro σ H' zq;obtain⟨x2,x3,x4,x5,kvs,fq,rfl,kp,ah,ai,aK,hO,aG,aj⟩:=zq;rw[FA.len fs aF,Fs.take_all] at ah hO;refine⟨_,rfl,q (.ref p) H' (p::fq) kp ah ai ?_ ?_ ?_⟩
    . unfold Own;exact⟨p,kvs,fq,rfl,aK,rfl,hO⟩
    . exact List.nodup_cons.mpr ⟨λhm=>(aj p hm).2 rfl,aG⟩
    . intro c hc;rcases List.mem_cons.mp hc with z|z
      . rw[z];exact hp
      . exact(aj c z).1
 |rows key bm fs=>
  have aU:=hk;unfold KA at hk;obtain⟨pk,pb,xs,rfl,aa,aE,aF⟩:=hk;simp only[kc] at hn;refine fx rfl aa rfl (by decide +kernel) ?_;refine fx rfl aa rfl (by decide +kernel) ?_;refine fx rfl aa rfl (by decide +kernel) ?_;refine kh rfl aa rfl (by decide +kernel) ?_;exact⟨_,rfl,_,rfl,_,rfl,_,rfl,a,b,ns,n,_,key,bm,fs,J,rfl,g,hT,aU,hW,ab,aZ,hn,q⟩
 |tree k=>
  have aU:=hk;unfold KA at hk;obtain⟨pk,u,rfl,aa,bn⟩:=hk;unfold Kd.W at hW;refine fx rfl aa rfl (by decide +kernel) ?_;refine fx rfl aa rfl (by decide +kernel) ?_;refine fx rfl aa rfl (by decide +kernel) ?_;refine fx rfl aa rfl (by decide +kernel) ?_;refine kh rfl aa rfl (by decide +kernel) ?_;have ev:=Ka ns k J n ab;rw[ev] at q;simp only[kc,Kd.cB] at hn;have bF:k.cB+1<=(k.cB+1) * gr J:=Q3o _ (va J).1
  have m1:mu k (J / 2)<=N:=by
   have:mu k (J / 2)<mu (.tree k) J:=u_ (by simp only[Kd.dep];omega) (by omega);omega
  refine⟨_,rfl,_,rfl,_,rfl,pk,_,_,_,rfl,rfl,du.of aa,rfl,_,rfl,_,_,rfl,rfl,⟨by decide,by decide⟩,a,b,ns,n,u,k,J / 2,(by rw[e2];rfl),g,hT,bn,hW,by omega,m1,by have:=rK k (J / 2);have:k.cB+1<=(k.cB+1) * gr J:=Q3o _ (va J).1;omega,?_⟩;intro vt Ht aL aW aM bb bo bp aX;have ct:=mZ ns k (J / 2) n (by omega);generalize bG:val ns k (J / 2) n=U at *;refine⟨_,rfl,_,rfl,a,b,ns,U.2,rfl,eK.g0 aW g hT aM ct.1,by omega,λH1 s1 h1=>?_⟩;have g1:G0 K H1 a b ns (U.2+1):=(eK.g0 aW g hT aM ct.1).go s1 h1 (by omega);have aY:=bb.sb aM s1;have k1:eK b Pt H H1:=aW.trans (SB.fN s1);have aP:Own H1 vt U.1 aL:=bo.fN (SB.fN s1) aM bb aS aX;refine⟨_,rfl,_,_,rfl,rfl,_,_,rfl,rfl,by omega,?_⟩;have bq:=Q0i (nx ns (U.2+1)) (show((J:Int)+1)≠0 by omega);have br:=Q0h (nx ns (U.2+1)) (show(0:Int)<(J:Int)+1 by omega);have bt:=λm=>Ke ns k (J / 2) m (by omega);have bd:=λi=>tZ (g:=val ns (.tree k) (J / 2)) (N:=(k.cB+1) * gr (J / 2)) bt i (U.2+1)
  refine⟨_,rfl,_,rfl,_,rfl,by omega,by omega,λi m ys H'=>m=(nx ns (U.2+1) % ((J:Int)+1)).toNat - i/\i<=(nx ns (U.2+1) % ((J:Int)+1)).toNat/\ys.length=i/\∃fq,eK b Pt H1 H'/\H' b=some (.lst [.int (times (val ns (.tree k) (J / 2)) i (U.2+1)).2])/\d_ Pt jf jg H'/\
   dz H' ys (times (val ns (.tree k) (J / 2)) i (U.2+1)).1 fq/\fq.Nodup/\∀c∈fq,H1 c=none,⟨(nx ns (U.2+1) % ((J:Int)+1)).toNat,rfl,Q06 _,rfl,[],Kp.refl _ _,h1,aY,?_,Q1e,λc hc=>absurd hc (by simp)⟩,?_⟩
  . simp only[times];unfold dz;exact⟨rfl,rfl⟩
  intro i m ys H' zq;obtain⟨rfl,bB,bu,fq,kp,ah,ai,hO,aG,aj⟩:=zq;by_cases hi:i<(nx ns (U.2+1) % ((J:Int)+1)).toNat
  . refine .inr ⟨hi,hX (by omega),λx bv y=>?_⟩;obtain⟨rfl,rfl⟩:=y;refine⟨rfl,yes (dS ?_)⟩;have bw:1<=J:=by omega
    have bH:=bd i
    have bx:(times (val ns (.tree k) (J / 2)) i (U.2+1)).2+((k.cB+1) * gr (J / 2):Nat)<=1000000000000:=by
     have a1:=Q3m (k.cB+1) (Kc bw ab);have a2:(k.cB+1) * (1+J * gr (J / 2))=(k.cB+1)+J * ((k.cB+1) * gr (J / 2)):=by rw[Nat.mul_add,Nat.mul_one,Q3a]
     have a3:(i+1) * ((k.cB+1) * gr (J / 2))<=J * ((k.cB+1) * gr (J / 2)):=Q1 _ (by omega);have a4:(i+1) * ((k.cB+1) * gr (J / 2))=i * ((k.cB+1) * gr (J / 2))+(k.cB+1) * gr (J / 2):=Q1f _ _;omega
    have kA:eK b Pt H bv:=k1.trans kp;refine⟨_,rfl,_,rfl,_,rfl,_,rfl,_,_,rfl,rfl,⟨by decide,by decide⟩,a,b,ns,(times (val ns (.tree k) (J / 2)) i (U.2+1)).2,.ref pk,.tree k,J / 2,(by rw[e2];rfl),eK.g0 kA g hT ah (by omega),ai,KA.mono (eK.tu kA hb hT) _ aU,(by unfold Kd.W;exact hW),by omega,(by simp only[mu] at aZ ⊢;omega),bx,?_⟩;intro v2 H2 fp fN aH aI aC aD al;have sn:=De (val ns (.tree k) (J / 2)) i (U.2+1);refine⟨(nx ns (U.2+1) % ((J:Int)+1)).toNat - (i+1),by omega,rfl,hi,by rw[Q01,bu];rfl,fq++fp,kp.trans fN,by rw[sn];exact aH,aI,?_,?_,?_⟩
    . rw[sn];exact dz.snoc aC _ (dz.fN hO fN ah ai ⟨_,h1⟩ aj)
    . refine List.nodup_append.mpr ⟨aG,aD,λc hc d hd=>?_⟩;intro e;subst e;obtain⟨o,eo⟩:=(dz.alive _ hO c hc).ex;rw[al c hd] at eo;cases eo
    . intro c hc;rcases List.mem_append.mp hc with z|z
      . exact aj c z
      . exact eK.fresh kp ah ai (al c z)
  . have ei:i=(nx ns (U.2+1) % ((J:Int)+1)).toNat:=by omega
    subst ei;refine .inl ⟨Q00 _,λpl aN=>⟨gC,λt ht=>?_⟩⟩;have sl:Same H' (upd H' pl (.lst ys)):=Same.new aN;have st:Same (upd H' pl (.lst ys)) (upd (upd H' pl (.lst ys)) t (.tup [vt,.ref pl])):=Same.new ht;have sa:=sl.trans st;have aQ:Own H' vt U.1 aL:=aP.fN kp h1 aY aS aX;have kA:eK b Pt H H':=k1.trans kp;refine q (.ref t) _ (aL++(pl::fq)) (kA.trans (Kp.of sa)) (sa _ _ ah) (ai.same sa) ?_ ?_ ?_
    . unfold Own;refine⟨t,_,rfl,dw,?_⟩;unfold dz;refine⟨vt,[.ref pl],aL,pl::fq,rfl,rfl,Own.same sa aQ,?_⟩;unfold dz;refine⟨.ref pl,[],pl::fq,[],rfl,by simp,?_,by unfold dz;exact⟨rfl,rfl⟩⟩;unfold Own;exact⟨pl,ys,fq,rfl,st _ _ dw,rfl,dz.same sa hO⟩
    . refine List.nodup_append.mpr ⟨bp,List.nodup_cons.mpr ⟨λhm=>?_,aG⟩,λc hc d hd=>?_⟩
      . obtain⟨o,eo⟩:=(dz.alive _ hO pl hm).ex;rw[aN] at eo;cases eo
      . intro e;subst e;rcases List.mem_cons.mp hd with z|z
        . obtain⟨o,eo⟩:=(Own.alive _ aQ c hc).ex;rw[z,aN] at eo;cases eo
        . obtain⟨o,eo⟩:=(Own.alive _ aP c hc).ex;rw[aj c z] at eo;cases eo
    . intro c hc;rcases List.mem_append.mp hc with z|z
      . exact aX c z
      . rcases List.mem_cons.mp z with y|y
        . rw[y];exact eK.fresh kA ah ai aN
        . exact eK.fresh k1 h1 aY (aj c y)
 |eR fs=>
  unfold KA at hk;obtain⟨pk,pb,xs,rfl,aa,aE,aF⟩:=hk;unfold Kd.W at hW;obtain⟨a5,bf,bI,aT⟩:=hW;refine fx rfl aa rfl (by decide +kernel) ?_;refine fx rfl aa rfl (by decide +kernel) ?_;refine fx rfl aa rfl (by decide +kernel) ?_;refine fx rfl aa rfl (by decide +kernel) ?_;refine fx rfl aa rfl (by decide +kernel) ?_;simp only[kc,Kd.cB] at hn;refine⟨_,rfl,pk,_,_,_,rfl,rfl,du.of aa,rfl,_,rfl,_,rfl,a,b,ns,n,rfl,g,by omega,λH1 s1 h1=>?_⟩;have aJ:=s1.tu hb;have bc:(xs.length:Int)=(fs.names.length:Int):=by rw[FA.len fs aF]
  have bq:=Q0i (nx ns (n+1)) (show((fs.names.length:Int))≠0 by omega);have br:=Q0h (nx ns (n+1)) (show(0:Int)<(fs.names.length:Int) by omega);obtain⟨nm,k,ak⟩:=Fs.lh (fs:=fs) (i:=(nx ns (n+1) % (fs.names.length:Int)).toNat) (by omega);obtain⟨c,u,bz,hc,hk⟩:=FA.at aF ak
  have bA:fg xs (nx ns (n+1) % ((xs.length:Nat):Int))=some (.ref c):=by
   have e:nx ns (n+1) % ((xs.length:Nat):Int)=(((nx ns (n+1) % (fs.names.length:Int)).toNat:Nat):Int):=by rw[bc];omega
   rw[e];exact hV bz
  refine⟨_,rfl,pk,_,_,_,rfl,rfl,du.of (aJ _ _ aa),rfl,pb,_,rfl,.inr (du.of (aJ _ _ aE)),_,_,rfl,rfl,by rw[bc];omega,pb,_,_,_,rfl,rfl,du.of (aJ _ _ aE),bA,?_⟩;refine⟨c,_,rfl,du.of (aJ _ _ hc),rfl,_,_,rfl,_,_,rfl,rfl,?_⟩
  have ev:val ns (.eR fs) J n=(pairD (.str nm) (val ns k J (n+1)).1,(val ns k J (n+1)).2):=by
   show gg ns fs (nx ns (n+1) % (fs.names.length:Int)).toNat J (n+1)=_;exact Dg ns fs _ J (n+1) nm k ak
  rw[ev] at q;have cb:=Fs.Dh ak;refine⟨_,rfl,_,rfl,_,rfl,_,rfl,_,rfl,a,b,ns,n+1,u,k,J,rfl,g.go s1 h1 (by omega),hT.sb hb s1,KA.mono aJ k hk,Fs.l6 aT ak,ab,?_,by have:=rK k J;omega,?_⟩
  . have:mu k J<mu (.eR fs) J:=u_ (by have:=Fs.iU ak;simp only[Kd.dep];omega) ab;omega
  intro v2 H2 fp fN aH aI aC aD al;have be:eK b Pt H H2:=(SB.fN s1).trans fN;refine⟨gC,λt ht=>?_⟩;have st:Same H2 (upd H2 t (.tup [.str nm,v2])):=Same.new ht;refine q (.ref t) _ fp (be.trans (Kp.of st)) (st _ _ aH) (aI.same st) ?_ aD λc hc=>eK.fresh (SB.fN s1) h1 (hT.sb hb s1) (al c hc);unfold Own;refine⟨t,_,rfl,dw,?_⟩;unfold dz;refine⟨.str nm,[v2],[],fp,rfl,rfl,by unfold Own;exact⟨rfl,rfl⟩,?_⟩;unfold dz;exact⟨v2,[],fp,[],rfl,by simp,Own.same st aC,by unfold dz;exact⟨rfl,rfl⟩⟩
theorem Dr {Pt c:Addr}{af:Addr}{ag:FuncData}(T:Tb mg)(L:Dn K mg "_law_value" hZ (top 39) ac ae)(Y:Dn K mg "_law_rows" hZ (top 38) al ah)(ai:ah.code=.ref c)(aq:W.CodeHd base c Pt)(ar:BM mg base)(J:Dn K mg "_law_next" ed (top 29) am an)(U:Dn K mg "_law_number" ed (top 30) aj ak)(aa:Dn K mg "_law_word" ed (top 31) ao ap)(ab:Dn K mg "_law_rank" oO (top 37) af ag):∀N:Nat,dj P w K mg base dm (2 * N+5) ac ae hZ (nG K Pt N)
 |0=>Km T L
 |N+1=>by
  have ih:=Dr T L Y ai aq ar J U aa ab N;have Nx:=oQ (P:=P) (w:=w) (base:=base) T J;have R:=Kk N T Y ai aq ar J Nx ab (Ki T ab) L ih;exact Kn N T L ih Y R J Nx U (HW T U J Nx) aa (HY T aa J Nx)
end Pb
namespace L2
open Spec PyProof.Rows
structure pC (P:Program) (w:World) (K:W.Frag) (mg:Str->Option Value) (base:Heap) (k:Nat) (outer:List Env) (s:Shared) (H:Hp) (f:Addr) (sp:List V->Hp->VK->Prop):Prop where
 at_:∀(s':Shared) (H':Hp),Un (frs outer) [] H H' s.heap s'.heap->∃o d,s'.heap.get? f=some o/\o.data=.func d
 run:∀(A:Around) (stack:List Env) (s':Shared) (H':Hp) (u:Value) (v:V) (Q:VK) (E:Value->Shared->Prop),eJ k A->j7 P w K mg base A stack s' H'->s'.os=s.os->Un (frs outer) [] H H' s.heap s'.heap->RelV v u->sp [v] H' Q->
  wpAny (model P w) A (call (.ref f) [u]) (CE stack P w H' s' Q) E s'
structure pE (P:Program) (w:World) (K:W.Frag) (mg:Str->Option Value) (base:Heap) (k:Nat) (f:Addr) (fd:FuncData) (ps:List Str) (kf:Nat) (gD:List V->Hp->VK->Prop) (sp:Sp):Prop where
 len:∀vs H Q E,sp vs H Q E->vs.length=ps.length
 run:∀(A:Around) (outer:List Env) (s:Shared) (H:Hp) (args:Args) (us:List Value) (vs:List V) (Q:VK) (E:XK),eJ k A->j7 P w K mg base A outer s H->BindsTo s fd args (ps.zip us)->Vals vs us->sp vs H Q E->
  (∀g,vs.getLast? =some (.ref g)->pC P w K mg base kf outer s H g gD)->codeAny (model P w) A (.call (.ref f) args) (CR dm outer P w H s Q E) s
theorem Ko {P:Program}{w:World}{K:W.Frag}{mg:Str->Option Value}{base:Heap}{k kf:Nat}{f:Addr}{name qual:Str}{U:Arguments}{body:List Stmt}{scope:Scope}{dV kV ac pm L ct oc:Value}{an od:Option Addr}
 {af:Array (Option Value)} {N ps:List Str} {gD:List V->Hp->VK->Prop} {sp:Sp} (lk:K.lookup f=some ⟨oc,od,.func (W.fnOf name qual U body scope dV kV ac pm an L ct),af⟩) (ag:W.codeIn K L qual=true) (S:d9 N ps scope)
 (len:∀vs H Q E,sp vs H Q E->vs.length=ps.length)
 (aa:∀(A:Around) (outer:List Env) (s:Shared) (H:Hp) (vs:List V) (Q:VK) (E:XK),eJ k (A.deeper (envOfC qual scope s.heap.objs.size f L))->sp vs H Q E->(∀g,vs.getLast? =some (.ref g)->pC P w K mg base kf outer s H g gD)->
   ∃t,g9 (d5 dm P w K mg base N qual scope f L A outer s H E) body t/\t { nx:=λ_ H'=>Q .non H',rt:=Q } (start N vs) H):
 pE P w K mg base (k+1) f (W.fnOf name qual U body scope dV kV ac pm an L ct) ps kf gD sp:=by
 refine⟨len,λA outer s H args us vs Q E hr e0 hb r ae hL=>?_⟩;have hl:=len _ _ _ _ ae;have KX:K.In s.heap:=e0.mod.lM.keeps λb o e=>(e0.bs b o e).1;have ah:s.heap.NoLimit:=e0.mod.nolimit.keeps λb o e=>(e0.bs b o e).1
 have ab:∀y∈ps.zip us,scope.names.lookup y.1=some .local\/(scope.names.lookup y.1=some .cell/\((cellsFrom (s.heap.objs.size+1) scope.names []).lookup y.1).isSome=true):=λ⟨n,v⟩ hy=>by
  rcases S.par n (Q1u hy).1 with q|q
  . exact .inl q
  . exact .inr ⟨q,W.cellsFrom_some _ _ _ (.inl q)⟩
 refine codeAny_call_function hr.depth (KX _ _ lk) rfl S.co S.gen rfl (W.codeRec_of KX ag) (hb _ _ _ _ ?_);refine wpAny_newFunctionEnv_cells S.kind ab λenv he s1 x=>?_;subst he;refine⟨ah.keeps x.toInCall.keep,codeAny_func ?_⟩;obtain⟨t,ht,hq⟩:=aa A outer s H vs Q E (hr.deeper _) ae hL;have I:Inv (d5 dm P w K mg base N qual scope f L A outer s H E) [] (start N vs) H s1:=zH S hr.hd e0 hl r x;refine Q0v (ht [] s1 (start N vs) H _ I hq) (λfl s' hs=>?_) λe s' hs=>hs
 have fin:∀{Y:St} {H':Hp} {v:V} {u:Value},Inv (d5 dm P w K mg base N qual scope f L A outer s H E) [] Y H' s'->RelV v u->Q v H'->CE outer P w H s Q u s':=
  λ{Y H' v u} J rv q=>⟨v,H',J.os,J.bare,J.base,J.hok,rv,q⟩
 cases fl with
 |ret u=>
  obtain⟨v,Y,H',J,rv,q⟩:=hs;exact fin J rv q
 |next=>
  obtain⟨Y,H',J,q⟩:=hs;exact fin (v:=V.non) (u:=Value.none) J rfl q
 |brk=>
  obtain⟨_,_,_,q⟩:=hs;exact False.elim q
 |cont=>
  obtain⟨_,_,_,q⟩:=hs;exact False.elim q
theorem jt.Kq {P:Program}{w:World}{K:W.Frag}{mg:Str->Option Value}{base:Heap}{x qual:Str}{st:Stmt}{f:Addr}{fd:FuncData}{N ps:List Str}{k kf:Nat}{gD:List V->Hp->VK->Prop}{sp:Sp}(F:jt K x qual st f fd)(S:d9 N ps (dN st))(len:∀vs H Q E,sp vs H Q E->vs.length=ps.length)
 (L:∀(J:Value) (A:Around) (outer:List Env) (s:Shared) (H:Hp) (vs:List V) (Q:VK) (E:XK),eJ k (A.deeper (envOfC qual (dN st) s.heap.objs.size f J))->sp vs H Q E->(∀g,vs.getLast? =some (.ref g)->pC P w K mg base kf outer s H g gD)->
   ∃t,g9 (d5 dm P w K mg base N qual (dN st) f J A outer s H E).d8 (gJ st) t/\t { nx:=λ_ H'=>Q .non H',rt:=Q } (start N vs) H):pE P w K mg base (k+1) f fd ps kf gD sp:=by
 obtain⟨oc,od,kV,aa,pm,an,J,ct,ab,rfl,lk,U⟩:=F.ex;refine Ko lk U S len λA outer s H vs Q E hr Y hL=>?_;obtain⟨t,h,q⟩:=L J A outer s H vs Q E hr Y hL;exact⟨t,h.d8,q⟩
theorem Dt {X:Cx}{k:Nat}{g:Addr}{gD:List V->Hp->VK->Prop}{x:Str}{p pos:Pos}{tv te:TE}{e:Expr}(B:pC X.prog X.w X.K X.mg X.base k X.outer X.s₀ X.H₀ g gD)(hx:X.ex=[])(hr:eJ k X.A)
 (hv:PE X (.Name x p) tv) (ha:PE X e te) (U:starEach [e] X.env=[(false,eval e X.env)]:=by rfl):
 PE X (.Call (.Name x p) [e] [] pos) (λσ H Q=>tv σ H λv H1=>v=.ref g/\te σ H1 λy H2=>gD [y] H2 Q):=by
 intro pins s σ H Q I h;refine wpAny_Call_Name_kw (dD (hv pins s σ H _ I h) λu s1 zq=>?_);obtain⟨x1,H1,I1,r1,e1,q1⟩:=zq;subst e1
 cases r1;have hp:PA X [e] (fF te hU):=a_ ha b_ (by rw[U];rfl);rw[U];refine W.callWith_of (P:=λh=>∃o d,h.get? g=some o/\o.data=.func d) rfl (λh z=>?_) (Calls.evalArgs_plain ?_)
 . obtain⟨o,d,ho,hd⟩:=z;refine⟨.frame,.inl rfl,(W.Looks.ld (part:=none) ho).andThen ?_⟩;rw[hd];exact .now
 have J:=hp pos pins s1 σ H1 (λvs H2=>match vs with|[y]=>gD [y] H2 Q|_=>False) I1 q1;rw[U] at J;refine dD J λus Y zq=>?_;obtain⟨vs,H2,L,r,q⟩:=zq
 obtain⟨y,rfl⟩:∃y,vs=[y]:=by
  match vs,q with
  |[y],_=>exact⟨y,rfl⟩
 have q:gD [y] H2 Q:=q;obtain⟨u,rfl,ru⟩:=vals1 r;have un:=L.base;rw[hx] at un;refine⟨B.at_ Y H2 un,?_⟩;refine dD (B.run X.A X.stack Y H2 u y Q X.xe hr L.env0 L.os un ru q) λu' s' hq=>L.after hq
section
variable {X:Cx}{pins:List (Addr × Obj)}{σ:St}{H:Hp}{s:Shared}
noncomputable def rM (X:Cx) (A:Around) (stack:List Env) (x:Str) (N':List Str) (scope:Scope) (cl:List (Str × Addr)) (qual:Str) (f c':Addr) (s:Shared) (H:Hp):Cx:=
 { X with A:=A.deeper (kj qual scope cl f c' s),N:=x::N',s₀:=s,H₀:=H,env:=kj qual scope cl f c' s,outer:=stack,stack:=kj qual scope cl f c' s::stack,ex:=[],fn:=λ_=>false,pn:=[],calm:=true,xe:=λ_ _=>False }
theorem Inv.Kr {A:Around}{stack:List Env}{x:Str}{N':List Str}{scope:Scope}{cl:List (Str × Addr)}{qual:Str}{f c':Addr}{v:V}{u:Value}{L:Heap}{t':Nat}(I:Inv X pins σ H s)(e0:j7 X.prog X.w X.K X.mg X.base A stack s H)(S:ki X x N' scope)(hd:A.handled=none)
 (J:∀y c,cl.lookup y=some c->X.env.cells.lookup y=some c) (ab:∀y,(y,NameKind.free)∈scope.names->cl.lookup y=X.env.cells.lookup y) (r:RelV v u)
 (hn:L.Ns s.heap.objs.size (λy=>([(x,u)]:List (Str × Value)).reverse.lookup y)) (aa:∀b o,s.heap.get? b=some o->L.get? b=some o):
 Inv (rM X A stack x N' scope cl qual f c' s H) [] (some v::σ) H { s with heap:=L,toks:=t' }:=by
 have ok:=I.ok
 have U:∀y,(scope.names.lookup y=some .cell\/scope.names.lookup y=some .free)->(y,NameKind.free)∈scope.names:=λy Y=>by
  rcases Y with Y|Y
  . exact absurd rfl (S.cell _ (PySem.mem_of_lookup Y))
  . exact PySem.mem_of_lookup Y
 refine⟨⟨ok.mod,S.kind,rfl,rfl,Q00 _,λy z c e1 e2=>ok.inj y z c (J y c e1) (J z c e2),λy Y=>?_,λy c Y _=>(nomatch Y),λ_=>hd,Around.frames_deeper e0.frames,.inr ⟨rfl,rfl⟩,λb hb=>absurd (show b∈([]:List Addr) from hb) (by simp),e0.bs,e0.jG,
  λb o _ hb=>absurd (show b∈([]:List Addr) from hb) (by simp),λb hb=>absurd (show b∈([]:List Addr) from hb) (by simp),e0.i7,e0.k8⟩,
  rfl,I.bare,Un.kept aa,⟨_,hn,λi y v' e1 e2 e3=>?_⟩,λy c e=>?_,I.hok.fresh (Q00 _),λy c e=>I.iM y c (J y c e),λp hp=>absurd (show p∈([]:List (Addr × Obj)) from hp) (by simp),I.hok.kept aa,?_⟩
 . have hm:=U y Y;obtain⟨c,e⟩:=ok.has y (S.free _ hm rfl);exact⟨c,by rw[show(rM X A stack x N' scope cl qual f c' s H).env.cells=cl from rfl,ab y hm];exact e⟩
 . cases i with
   |zero=>
    have e1:some x=some y:=e1
    cases e1;have e2:some (some v)=some (some v'):=e2
    cases e2;exact⟨u,r,.inl ⟨S.loc,by simp⟩⟩
   |succ i=>
    have e1:N'[i]? =some y:=by
     have e1:(x::N')[i+1]? =some y:=e1;simpa using e1
    have e2:σ[i]? =some (some v'):=by simpa using e2
    have ho:X.N[i]? =some y/\scope.names.lookup y≠some .local:=by
     have e3:scope.names.lookup y=some .local\/scope.names.lookup y=some .cell\/scope.names.lookup y=some .free:=e3;rcases S.outer i y e1 with q|q
     . rw[q] at e3;rcases e3 with z|z|z <;> cases z
     . exact q
    have ae:scope.names.lookup y=some .cell\/scope.names.lookup y=some .free:=by
     rcases e3 with q|q
     . exact absurd q ho.2
     . exact q
    have hm:=U y ae;have af:=S.free _ hm rfl;obtain⟨mX,ah,ag⟩:=I.loc;obtain⟨u',r',lk⟩:=ag i y v' ho.1 e2 (.inr af);refine⟨u',r',.inr ⟨ae,?_⟩⟩;rcases lk with⟨q,_⟩|⟨_,c,ec,hc⟩
    . rcases af with z|z
      . rw[z] at q;cases q
      . rw[z] at q;cases q
    . obtain⟨o,ho,ac⟩:=hc;exact⟨c,(ab y hm).trans ec,o,aa _ _ ho,ac⟩
 . obtain⟨w',o,ho,ac⟩:=I.cell y c (J y c e);exact⟨w',o,aa _ _ ho,ac⟩
 . show _=(x::N').length;rw[Q02,Q02,I.len,S.len]
theorem Ks {kb:Nat}{x:Str}{N':List Str}{name qual:Str}{L:Arguments}{body:Expr}{scope:Scope}{cl:List (Str × Addr)}{f c':Addr}{pm U:Value}{te:TE}{gD:List V->Hp->VK->Prop}(I:Inv X pins σ H s)(S:ki X x N' scope)
 (aa:∀y c,cl.lookup y=some c->X.env.cells.lookup y=some c) (ab:∀y,(y,NameKind.free)∈scope.names->cl.lookup y=X.env.cells.lookup y) (hf:(f,W.kla_obj name qual L body scope cl pm c' U)∈pins)
 (hb:∀u:Value,bindArgs (W.kla_fn name qual L body scope cl pm (.ref c') U) ⟨[u],[]⟩=pure [(x,u)]) (he:∀(A:Around) (stack:List Env) (s:Shared) (H:Hp),eJ kb (A.deeper (kj qual scope cl f c' s))->PE (rM X A stack x N' scope cl qual f c' s H) body te)
 (h:∀v H' Q,gD [v] H' Q->H' c'=some (.ext (lg c' qual))/\te (some v::σ) H' Q):pC X.prog X.w X.K X.mg X.base (kb+1) X.stack s H f gD:=by
 obtain⟨p1,p2,p3,p4,p5⟩:=I.pin _ (Q09 _ hf)
 have nf:f ∉ frs X.stack:=λz=>by
  rcases I.ok.stk with e|⟨e,e'⟩
  . rw[e] at z;exact p4 z
  . rw[e] at z;have z:f∈(X.env::X.outer).filterMap (·.frame):=z;rw[Q1m,e'] at z;rcases List.mem_cons.mp z with q|q
    . exact p3 q
    . exact p4 q
 refine⟨λs' H' un=>⟨_,_,un.keep f _ p1 p2 nf (by simp),rfl⟩,λA stack s' H' u v Q E hr e0 os un r q=>?_⟩;obtain⟨hc,ht⟩:=h v H' Q q;obtain⟨_,H2,J,_,e2⟩:=I.after (s':=s') (Q:=λ_ H2=>H2=H') (u:=u) ⟨v,H',os,e0.bare,un,e0.hok,r,rfl⟩;subst e2;have g1:=(J.pin _ (Q09 _ hf)).1;refine wpAny_call (W.kla_callFunE hr.depth g1 rfl S.co S.gen rfl (J.hok c' _ hc).1 ?_);rw[hb];refine Q08 (wpAny_newFunctionEnv S.cell (λy hy=>?_) (λac ae af=>?_) S.kind)
 . have e:y=(x,u):=by simpa using hy
   subst e;exact S.loc
 have Y:∀b o,s'.heap.get? b=some o->ac.get? b=some o:=λb o e=>af.extBut b o (Q0c (Q03 e)) (Q04 _ e);refine⟨J.nolimit.keeps Y,?_⟩;show codeAny _ _ (.expr body (kj qual scope cl f c' s')) _ _;have J2:=J.Kr (t':=s'.toks+([(x,u)]:List (Str × Value)).length) (qual:=qual) (f:=f) (c':=c') e0 S hr.hd aa ab r ae Y;refine W.kla_codeExpr (Q0v (he A stack s' H2 (hr.deeper _) [] _ _ H2 Q J2 ht) (λu' ag hq=>?_) λe ag hF=>hF.elim);obtain⟨v',H3,J',rv,q⟩:=hq;exact⟨v',H3,J'.os,J'.bare,J'.base,J'.hok,rv,q⟩
theorem Ku {name qual:Str}{aa:Arguments}{body:Expr}{scope:Scope}{pos:Pos}{Y:Nat}{cl:List (Str × Addr)}{c P:Addr}{Q:Value->Shared->Prop}{E:Value->Shared->Prop}(I:Inv X pins σ H s)(ac:X.env.code=.ref c)(C:W.CodeHd X.base c P)
 (B:BM X.mg X.base) (T:d_ P pos qual H) (ae:closureFor scope X.env=pure cl)
 (h:∀(f c':Addr) (pm ab:Value) (H':Hp) (s':Shared),Inv X (pins++[(f,W.kla_obj name qual aa body scope cl pm c' ab)]) σ H' s'->gO P pos qual c' H'->(∀b o,b≠P->H b=some o->H' b=some o)->(∀U,gO P pos qual U H->U=c')->Q (.ref f) s'):
 wpAny (model X.prog X.w) X.A (makeFunction name qual aa (.expr body) scope X.env [] [] [] pos Y) Q E s:=by
 rcases T with e|⟨U,e,ec⟩
 . refine qJ (jL:=#[]) I ac C B ⟨e,by simp[TriplesOk],.inl rfl⟩ ae λf c' pm ab H' s' J L m=>h f c' pm ab H' s' J ?_ m λU L0=>?_
   . obtain⟨z|z,y⟩:=L
     . exact⟨z.2,y⟩
     . cases z.1
   . have:=e.symm.trans L0.1;injection this with this
     injection this with this
     have:=congrArg Array.size this;simp at this
 . refine qJ (jL:=#[rawInt pos.line,rawInt pos.col,.ref U]) I ac C B ⟨e,by simp[TriplesOk,rawInt],.inr ⟨U,by simp[codeAmong,rawInt],ec⟩⟩ ae λf c' pm ab H' s' J L m=>?_;have hc:codeAmong pos [rawInt pos.line,rawInt pos.col,.ref U]=some (.ref U):=by simp[codeAmong,rawInt]
   obtain⟨z|z,y⟩:=L
   . exact absurd (hc.symm.trans z.1) (by intro z;cases z)
   . have af:U=c':=by
      have:=hc.symm.trans z.1
      cases this;rfl
     subst af;refine h f U pm ab H' s' J ⟨z.2,y⟩ m λc1 L1=>?_;have:=L1.1.symm.trans e;injection this with this
     injection this with this
     have:=congrArg Array.toList this;simp at this;exact this
def Kv (C:Addr) (m Y a2:Str) (P:Addr) (L:Pos) (qual:Str) (gD:Addr->List V->Hp->VK->Prop) (sp:Addr->Sp) (E:XK) (ta te:TE):TE:=λσ H Q=>ta σ H λx H1=>∃a dx fs,x=.ref a/\H1 a=some (.ins C dx fs)/\fs.lookup m=none/\d_ P L qual H1/\
 ∀c' H2,gO P L qual c' H2->(∀b o,b≠P->H1 b=some o->H2 b=some o)->(∀J,gO P L qual J H1->J=c')->(∀v H' U,gD c' [v] H' U->H' c'=some (.ext (lg c' qual))/\te (some v::σ) H' U)/\∀g,H2 g=none->sp c' [.ref a,.str Y,.str a2,.ref g] H2 Q E
theorem Kw {pl:Sem Bool}{kb k:Nat}{x m a1 a2:Str}{N':List Str}{o e1 U body:Expr}{L:Arguments}{scope:Scope}{Y apos pos:Pos}{qual:Str}{c P C f:Addr}{fd:FuncData}{ps:List Str}{gD:Addr->List V->Hp->VK->Prop}{sp:Addr->Sp}{E:XK}{ta te:TE}
 (ho:PE X o ta) (cc:Cls X.K C) (hm:Meth X.K C m f) (F:∀c',pE X.prog X.w X.K X.mg X.base k f fd ps (kb+1) (gD c') (sp c')) (hr:eJ k X.A) (ak:Binds X.K fd ps []) (hx:Passes dm X E) (h1:PE X e1 (tC (.str a1))) (h2:PE X U (tC (.str a2)))
 (hq:X.env.qual++"<lambda>"=qual) (ab:X.env.code=.ref c) (Cd:W.CodeHd X.base c P) (B:BM X.mg X.base) (S:ki X x N' scope) (ah:defaultsOf L X.env=([],[]))
 (hb:∀(cl:List (Str × Addr)) (pm:Value) (c':Addr) (aa u:Value),bindArgs (W.kla_fn "<lambda>" qual L body scope cl pm (.ref c') aa) ⟨[u],[]⟩=pure [(x,u)])
 (he:∀(cl:List (Str × Addr)) (f c':Addr) (A:Around) (stack:List Env) (s:Shared) (H:Hp),eJ kb (A.deeper (kj qual scope cl f c' s))->PE (rM X A stack x N' scope cl qual f c' s H) body te)
 (ae:starEach [e1,U,.Lambda L body scope Y] X.env=(false,eval e1 X.env)::starEach [U,.Lambda L body scope Y] X.env:=by rfl) (af:starEach [U,.Lambda L body scope Y] X.env=[(false,eval U X.env),(false,eval (.Lambda L body scope Y) X.env)]:=by rfl)
 (ht:eval (.Call (.Attribute o m apos) [e1,U,.Lambda L body scope Y] [] pos) X.env=(do
   let ov <-eval o X.env
   standAt apos.atName
   let(f,first) <-holding [ov] (getMethod ov m pl)
   callWith pos f first (backTo pos (starEach [e1,U,.Lambda L body scope Y] X.env)) (backToKw pos (keywordEach [] X.env))):=by rfl):
 PE X (.Call (.Attribute o m apos) [e1,U,.Lambda L body scope Y] [] pos) (Kv C m a1 a2 P Y qual gD sp E ta te):=by
 intro pins s σ H Q I h;refine W.methodCall_KW (pl:=pl) (dD (ho pins s σ H _ I h) λu s1 zq=>?_) ht;obtain⟨x,H1,I1,rx,a,dx,fs,ex,ea,l,T,cont⟩:=zq;subst ex;obtain rfl:u=Value.ref a:=rx;refine sN I1 ea cc hm l ?_;refine W.callWith_K (first:=[.ref a]) (h₀:=X.base) I.ok.mod.lM hm.kp ?_ ae (by rw[af];rfl);rw[ae,af];show wpAny _ _ (spliced [(false,eval e1 X.env),(false,eval U X.env),(false,eval (.Lambda L body scope Y) X.env)]) _ _ _;refine Calls.spliced_cons (dD (h1 pins s1 σ H1 (λv H2=>v=.str a1/\H2=H1) I1 ⟨rfl,rfl⟩) λu1 s2 zq=>?_);obtain⟨_,_,I2,r1,e3,e4⟩:=zq;subst e3;subst e4;refine Calls.spliced_cons (dD (h2 pins s2 σ _ (λv H3=>v=.str a2/\H3=_) I2 ⟨rfl,rfl⟩) λu2 s3 zq=>?_);obtain⟨_,_,I3,r2,e5,e6⟩:=zq;subst e5;subst e6;obtain⟨cl,ac,ai,aj⟩:=qF (scope:=scope) (env:=X.env) λy hy hf=>I3.ok.has y.1 (S.free y hy hf);refine Calls.spliced_cons (W.kla_eval ah ?_);rw[hq];refine Ku I3 ab Cd B T ac λg c' pm aa H2 s4 I4 L4 mono al=>?_;refine Calls.spliced_nil ?_;obtain⟨am,ag⟩:=cont c' H2 L4 mono al;have hg:=(I4.pin _ (Q09 _ (Q09 _ Q05))).2.1;refine⟨I4.fS,?_⟩;have rv:Vals [.ref a,.str a1,.str a2,.ref g] [.ref a,u1,u2,.ref g]:=.cons rfl (.cons r1 (.cons r2 (.cons rfl .nil)));have hl:[Value.ref a,u1,u2,.ref g].length=ps.length:=by rw[<-rv.length];exact(F c').len _ _ _ _ (ag g hg)
 have an:=Ks (kb:=kb) (te:=te) (gD:=gD c') I4 S ai aj (Q09 _ Q05) (hb cl pm c' aa) (λA stack s H hr=>he cl g c' A stack s H hr) am;refine wpAny_call (codeAny_mono ((F c').run X.A X.stack s4 H2 ⟨[.ref a,u1,u2,.ref g],[]⟩ [.ref a,u1,u2,.ref g] [.ref a,.str a1,.str a2,.ref g] Q E hr I4.env0 (by have:=ak s4 [.ref a,u1,u2,.ref g] I4.fS (by simpa using hl);simpa using this) rv (ag g hg) λg' e=>?_) λr s' hq=>?_)
 . have e:some (V.ref g)=some (V.ref g'):=e
   cases e;exact an
 cases r with
 |error e=>exact hx _ σ H2 s4 e s' I4 hq
 |ok fl=>
  cases fl with
  |ret u=>
   obtain⟨v,H',J,rv,q⟩:=I4.after hq;exact⟨v,H',J.kF,rv,q⟩
  |next=>exact False.elim hq
  |brk=>exact False.elim hq
  |cont=>exact False.elim hq
end
end L2
namespace Pb
open L2 PyProof.Rows
noncomputable def Kx (st:Stmt):Pos:=match gJ st with
 |[_,_,.If _ [.Return (some (.Call _ [_,_,.Lambda _ _ _ J] _ _)) _] _ _,_,_,_]=>J
 |_=>⟨0,0,0,0⟩
noncomputable abbrev i5:Pos:=Kx (top 21)
noncomputable abbrev i6:Str:=("told_value":Str)++".<locals>."++"<lambda>"
def KR (r Pv:Addr) (H H':Hp):Prop:=∀c o,c≠r->c≠Pv->H c=some o->H' c=some o
theorem KR.trans {r Pv:Addr}{H H1 H2:Hp}(x:KR r Pv H H1)(y:KR r Pv H1 H2):KR r Pv H H2:=λc o a b h=>y c o a b (x c o a b h)
theorem KR.of {r Pv:Addr}{H H':Hp}(s:Same H H'):KR r Pv H H':=λc o _ _ h=>s c o h
structure Rg (C r dx l Pv:Addr) (us:List V) (qs:List Pc) (i:Nat) (H:Hp):Prop where
 at_:iZ H C r dx l us qs i
 lam:d_ Pv i5 i6 H
def LK (Pv:Addr) (H H':Hp):Prop:=∀J,gO Pv i5 i6 J H->gO Pv i5 i6 J H'
structure Go (C r dx l Pv:Addr) (us:List V) (qs:List Pc) (j:Nat) (H H':Hp):Prop where
 kr:KR r Pv H H'
 g:Rg C r dx l Pv us qs j H'
 lk:LK Pv H H'
section
variable {C r dx l Pv:Addr}{us:List V}{qs:List Pc}{i j:Nat}{H H' H2:Hp}
theorem Rg.tb (h:Rg C r dx l Pv us qs i H):∃ps,H Pv=some (.fm ps):=h.lam.tab
theorem Rg.ne (h:Rg C r dx l Pv us qs i H):r≠Pv:=λe=>by
 obtain⟨ps,hp⟩:=h.tb;rw[<-e,h.at_.ob] at hp;cases hp
theorem _root_.L2.d_.mv {P:Addr}{L:Pos}{U:Str}(h:d_ P L U H)(J:∃fs,H r=some (.ins C dx fs))(k:∀c o,c≠r->H c=some o->H' c=some o):d_ P L U H':=by
 obtain⟨fs,J⟩:=J;rcases h with e|⟨c,e,f⟩
 . exact .inl (k _ _ (fo e J (by intro z;cases z)) e)
 . exact .inr ⟨c,k _ _ (fo e J (by intro z;cases z)) e,k _ _ (fo f J (by intro z;cases z)) f⟩
theorem _root_.L2.gO.mv {P c:Addr}{L:Pos}{U:Str}(h:gO P L U c H)(J:∃fs,H r=some (.ins C dx fs))(k:∀c o,c≠r->H c=some o->H' c=some o):gO P L U c H':=by
 obtain⟨fs,J⟩:=J;exact⟨k _ _ (fo h.1 J (by intro z;cases z)) h.1,k _ _ (fo h.2 J (by intro z;cases z)) h.2⟩
theorem Rg.mv (h:Rg C r dx l Pv us qs i H)(m:Mv H H' C r dx l j):Go C r dx l Pv us qs j H H':=
 ⟨λc o hc _ e=>m.1 c o hc e,⟨h.at_.mv m,h.lam.mv ⟨_,h.at_.ob⟩ m.1⟩,λJ L=>L.mv ⟨_,h.at_.ob⟩ m.1⟩
theorem Rg.same (h:Rg C r dx l Pv us qs i H)(s:Same H H'):Go C r dx l Pv us qs i H H':=
 ⟨KR.of s,⟨h.at_.same s,h.lam.same s⟩,λJ L=>⟨s _ _ L.1,s _ _ L.2⟩⟩
theorem Go.trans (x:Go C r dx l Pv us qs i H H')(y:Go C r dx l Pv us qs j H' H2):Go C r dx l Pv us qs j H H2:=⟨x.kr.trans y.kr,y.g,λc L=>y.lk c (x.lk c L)⟩
theorem Go.tu (h:Rg C r dx l Pv us qs i H)(x:Go C r dx l Pv us qs j H H'):Tu H H':=λc xs e=>by
 obtain⟨ps,hp⟩:=h.tb;exact x.kr c _ (fo e h.at_.ob (by intro z;cases z)) (fo e hp (by intro z;cases z)) e
theorem Go.mu (h:Rg C r dx l Pv us qs i H)(x:Go C r dx l Pv us qs j H H'){c:Addr}{o:HO}(J:(∃xs,o=.lst xs)\/∃kvs,o=.dK kvs)(e:H c=some o):H' c=some o:=by
 obtain⟨ps,hp⟩:=h.tb;rcases J with⟨xs,rfl⟩|⟨xs,rfl⟩
 . exact x.kr c _ (fo e h.at_.ob (by intro z;cases z)) (fo e hp (by intro z;cases z)) e
 . exact x.kr c _ (fo e h.at_.ob (by intro z;cases z)) (fo e hp (by intro z;cases z)) e
theorem Go.own (h:Rg C r dx l Pv us qs i H)(x:Go C r dx l Pv us qs j H H'){v:V}{d:D}{fp:List Addr}(J:Own H v d fp):Own H' v d fp:=
 J.keep (x.tu h) d λa L o e=>by
  rcases Own.alive d J a L with⟨xs,q⟩|⟨xs,q⟩
  . rw[e] at q;cases q;exact x.mu h (.inl ⟨_,rfl⟩) e
  . rw[e] at q;cases q;exact x.mu h (.inr ⟨_,rfl⟩) e
theorem Go.jx (h:Rg C r dx l Pv us qs i H)(x:Go C r dx l Pv us qs j H H'){c:Addr}(e:H' c=none):H c=none:=by
 cases q:H c with
 |none=>rfl
 |some o=>
  by_cases h1:c=r
  . rw[h1,x.g.at_.ob] at e;cases e
  . by_cases h2:c=Pv
    . obtain⟨ps,hp⟩:=x.g.tb;rw[h2,hp] at e;cases e
    . rw[x.kr c o h1 h2 q] at e;cases e
end
noncomputable abbrev tks (l:List LP):List Tk:=l.map (·.2)
theorem iK {qs:List Pc}{i c:Nat}{l:List LP}(h:eS qs i (tks (dn c::l))):(∃q,qs[i]? =some q/\jz q.sort="mark"/\q.th.V=.str (di [c]))/\eS qs (i+1) (tks l):=by
 obtain⟨⟨q,J,h1,h2⟩,L⟩:=eS.cons h;exact⟨⟨q,J,by rw[h1];rfl,by rw[h2];rfl⟩,L⟩
theorem Du {qs:List Pc}{i:Nat}{x:Str}{l:List LP}(h:eS qs i (tks (gu x::l))):(∃q,qs[i]? =some q/\q.sort=4/\q.th.V=.str x)/\eS qs (i+1) (tks l):=by
 obtain⟨⟨q,J,h1,h2⟩,L⟩:=eS.cons h;exact⟨⟨q,J,h1,by rw[h2];show V.str (di (sl x))=_;rw[u3]⟩,L⟩
theorem kY {qs:List Pc}{i:Nat}{a b:List LP}(h:eS qs i (tks (a++b))):eS qs i (tks a)/\eS qs (i+a.length) (tks b):=by
 rw[tks,Q0p] at h;have:=eS.app h;rw[Q0b] at this;exact this
theorem Ky {l:List (List LP)}{i:Nat}(h:i<l.length):iP l=iP (l.take (i+1))++iT (l.drop (i+1)):=by
 cases l with
 |nil=>simp at h
 |cons b r=>
  show b++iT r=(b++iT (r.take i))++iT (r.drop i)
  have:∀(r:List (List LP)) (i:Nat),iT r=iT (r.take i)++iT (r.drop i):=by
   intro r
   induction r with
   |nil=>intro i;rw[Q2k,List.drop_nil];rfl
   |cons c q J=>
    intro i
    cases i with
    |zero=>rfl
    |succ i=>
     show dn 44::(c++iT q)=dn 44::(c++iT (q.take i))++iT (q.drop i);rw[J i];simp
  rw[this r i];simp
theorem rN {qs:List Pc}{J i:Nat}{L:List (List LP)}{b:List LP}(h:eS qs J (tks (iP L)))(U:L[i]? =some b):eS qs (J+(iP (L.take i)).length) (tks ((if i=0 then [] else [dn 44])++b)):=by
 have hi:=(List.getElem?_eq_some_iff.mp U).1;rw[Ky hi,my U] at h;exact(kY (kY h).1).2
def mC (n:Nat) (C Pv:Addr):Sp:=λvs H Q _=>∃r J dx l us qs i k d,vs=[.ref r,J]/\Rg C r dx l Pv us qs i H/\KA H J k/\k.W/\eA d k/\d.dep<=n/\eS qs i (tks (d.tk k))/\
 ∀v fp H',Go C r dx l Pv us qs (i+(d.tk k).length) H H'->Own H' v d fp->(∀c∈fp,H c=none)->Q v H'
def vc (n:Nat) (C Pv:Addr):Sp:=λvs H Q _=>∃r b dx l us qs i xs fs m,vs=[.ref r,.ref b]/\Rg C r dx l Pv us qs i H/\H b=some (.tup xs)/\FA H xs fs/\fs.names.Nodup/\fs.W/\fs.names.length<=3/\d4 m fs/\m.dep<=n/\eS qs i (tks (dn 123::(m.fY fs++[dn 125])))/\
 ∀v fp H',Go C r dx l Pv us qs (i+((m.fY fs).length+2)) H H'->Own H' v (.dct m) fp->(∀c∈fp,H c=none)->Q v H'
noncomputable def Ds.take:Ds->Nat->Ds
 | .nil,_=>.nil
 | .cons _ _ _,0=>.nil
 | .cons x d r,i+1=>.cons x d (r.take i)
theorem Ds.take_zero (m:Ds):m.take 0=.nil:=by cases m <;> rfl
theorem Ds.take_snoc:∀{m:Ds}{i:Nat}{x:Str}{d:D},m.names[i]? =some x->m.at i=some d->m.take (i+1)=(m.take i).snoc x d
 | .nil,_,_,_,_,e=>by cases e
 | .cons y d r,0,x,d',h,e=>by
   have h:some y=some x:=h
   cases h;cases e
   cases r <;> rfl
 | .cons y d r,i+1,x,d',h,e=>by
   show Ds.cons y d (r.take (i+1))=Ds.cons y d ((r.take i).snoc x d');rw[Ds.take_snoc (m:=r) (i:=i) h e]
theorem Ds.take_all:∀(m:Ds),m.take m.names.length=m
 | .nil=>rfl
 | .cons x d r=>by show Ds.cons x d (r.take r.names.length)=_;rw[Ds.take_all r]
theorem Ds.kX:∀(m:Ds) (i:Nat),(m.take i).names=m.names.take i
 | .nil,i=>by cases i <;> rfl
 | .cons x d r,0=>rfl
 | .cons x d r,i+1=>by show x::(r.take i).names=x::r.names.take i;rw[Ds.kX r i]
section
variable {C r dx l Pv p:Addr}{us:List V}{qs:List Pc}{i j:Nat}{H H1:Hp}{o o':HO}
theorem ve (hp:H1 p=some o)(J:(∃xs,o=.lst xs)\/∃kvs,o=.dK kvs):Tu H1 (upd H1 p o'):=λc xs e=>by
 rw[dg];· exact e
 intro z;rw[z,hp] at e;rcases J with⟨xs,rfl⟩|⟨xs,rfl⟩ <;> cases e
theorem Go.wr (h:Rg C r dx l Pv us qs i H)(x:Go C r dx l Pv us qs j H H1)(U:H p=none)(hp:H1 p=some o)(ho:(∃xs,o=.lst xs)\/∃kvs,o=.dK kvs):Go C r dx l Pv us qs j H (upd H1 p o'):=by
 have Y:∀c u,H1 c=some u->(∀xs,u≠ .lst xs)->(∀xs,u≠ .dK xs)->c≠p:=λc u e h1 h2 z=>by
  rw[z,hp] at e;rcases ho with⟨xs,rfl⟩|⟨xs,rfl⟩
  . cases e;exact h1 _ rfl
  . cases e;exact h2 _ rfl
 have LC:∀J,gO Pv i5 i6 J H1->gO Pv i5 i6 J (upd H1 p o'):=λJ L=>
  ⟨by rw[dg (Y _ _ L.1 (by intro xs z;cases z) (by intro xs z;cases z))];exact L.1,by rw[dg (Y _ _ L.2 (by intro xs z;cases z) (by intro xs z;cases z))];exact L.2⟩
 refine⟨λc u h1 h2 e=>?_,⟨⟨?_,?_,x.g.at_.pl.tu (ve hp ho),x.g.at_.le⟩,?_⟩,λJ L=>LC J (x.lk J L)⟩
 . rw[dg (dA e U)];exact x.kr c u h1 h2 e
 . rw[dg (dA h.at_.ob U)];exact x.g.at_.ob
 . rw[dg (dA h.at_.ls U)];exact x.g.at_.ls
 . rcases x.g.lam with e|⟨c,L⟩
   . exact .inl (by rw[dg (Y _ _ e (by intro xs z;cases z) (by intro xs z;cases z))];exact e)
   . exact .inr ⟨c,LC c L⟩
theorem rO {v:V}{d:D}{fp:List Addr}(hp:H1 p=some o)(J:(∃xs,o=.lst xs)\/∃kvs,o=.dK kvs)(L:p ∉ fp)(h:Own H1 v d fp):Own (upd H1 p o') v d fp:=
 h.keep (ve hp J) d λa U u e=>by rw[dg (λz=>L (by rw[<-z];exact U))];exact e
theorem pF {kvs:List (Key × V)}{m:Ds}{fp:List Addr}(h:Rg C r dx l Pv us qs i H)(x:Go C r dx l Pv us qs j H H1)(J:dH H kvs m fp):dH H1 kvs m fp:=
 J.keep (x.tu h) m λa L o e=>by
  rcases dH.alive m J a L with⟨xs,q⟩|⟨xs,q⟩
  . rw[e] at q;cases q;exact x.mu h (.inl ⟨_,rfl⟩) e
  . rw[e] at q;cases q;exact x.mu h (.inr ⟨_,rfl⟩) e
theorem Kz {kvs:List (Key × V)}{m:Ds}{fp:List Addr}(hp:H1 p=some o)(J:(∃xs,o=.lst xs)\/∃kvs,o=.dK kvs)(L:p ∉ fp)(h:dH H1 kvs m fp):dH (upd H1 p o') kvs m fp:=
 h.keep (ve hp J) m λa U u e=>by rw[dg (λz=>L (by rw[<-z];exact U))];exact e
end
section
variable {P:Program}{w:World}{K:W.Frag}{mg:Str->Option Value}{base:Heap}
variable {C Pv:Addr}
theorem KC:d9 ["reader","fields","record","number","pair","name"] XO (dN (top 22)):=eG
theorem KD (n:Nat)(T:Tb mg)(RD:iG K mg C ap av aw U ar aa aq au)(ah:Dn K mg "told_record" kx (top 22) ai aj)(ak:Dn K mg "told_value" gQ (top 21) al am)(an:dj P w K mg base dm (5 * n+5) al am gQ (mC n C Pv))(J:Dm K "pass_mark" "Reader.pass_mark" jP (dU 18 6) aa af)(L:dj P w K mg base dm (3) aa af jP (o5 C))(ab:Dm K "taken_among" "Reader.taken_among" mh (dU 18 4) U ac)(ae:dj P w K mg base dm (2) U ac mh (ur K C)):dj P w K mg base dm (5 * n+6) ai aj kx (vc n C Pv):=by
 have CT:=RD.ct;have Y:=RD.k;have ag:=RD.g;refine ah.F.ok KC λvs H Q E h=>?_;obtain⟨r,b,dx,l,us,qs,i,xs,fs,m,rfl,R,hb,aA,aE,hW,h3,hS,aU,hP,fin⟩:=h;refine⟨rfl,λba A outer s nd hr hu=>?_⟩
 refine⟨_,(dh (dI 2 nd qD)
  (dh (fC (gM (pv 0) CT Y L (hr.mono (by omega)) J.b .nil gd (a_ dv b_)))
  (dh (i9 PassesOwn.never rfl (CQ rfl T.oJ (a_ (pv 1) b_)) (j4 rfl (gK (e8 (i:=3) nd rfl gh) (gK (e8 (i:=4) nd rfl gh) j3))) (dh (dM (dQ j6 (pv 3) c_ (dP _)) (dq (fC (gM (pv 0) CT Y L (hr.mono (by omega)) J.b .nil gd (a_ dv b_)))) dO)
  (dh (dI 5 nd (gM (pv 0) CT ag ae (hr.mono (by omega)) ab.b .nil gd (a_ (gm (a_ (dR (pv 4) c_) b_)) b_)))
  (dh (fC (gM (pv 0) CT Y L (hr.mono (by omega)) J.b .nil gd (a_ dv b_)))
  (dq (qC hu (pv 2) (pv 5) (dJ an hr ak (a_ (pv 0) (a_ (dR (pv 4) c_) b_))) rfl))))))
  (dh (fC (gM (pv 0) CT Y L (hr.mono (by omega)) J.b .nil gd (a_ dv b_)))
  (dq (dF (pv 2))))))),?_⟩
 ac_rfl
 intro p hp;have aO:V.str (di [123])=V.str "{":=by decide +kernel
 have aP:V.str (di [125])=V.str "}":=by decide +kernel
 have aW:V.str (di [44])=V.str ",":=by decide +kernel
 have aX:V.str (di [58])=V.str ":":=by decide +kernel
 have ao:=R.same (Same.new (o:=.dK []) hp);have e0:upd H p (.dK []) p=some (.dK []):=dw;generalize upd H p (.dK [])=H0 at ao e0 ⊢;obtain⟨⟨q,hq,h1,h2⟩,aY⟩:=iK hP;obtain⟨aF,aG⟩:=kY aY;rw[CL] at aF aG fin;refine⟨_,rfl,r,dx,_,rfl,ao.g.at_.ob,rfl,r,dx,l,us,qs,i,q,"{",rfl,ao.g.at_,hq,⟨h1,h2.trans aO⟩,λH1 m1=>?_⟩;have G1:=ao.trans (ao.g.mv m1);have e1:=(ao.g.mv m1).mu ao.g (.inr ⟨_,rfl⟩) e0;clear hq h1 h2 m1 e0 ao;have aZ:xs.length=(m.fk fs).length:=by rw[FA.len fs aA,u0 hS]
 refine⟨_,rfl,b,rfl,⟨_,du.of (G1.tu R _ _ hb)⟩,CS (xs:=xs) (λj σ H'=>Go C r dx l Pv us qs (i+1+(iP ((m.fk fs).take j)).length) H H'/\(∃kvs fp,H' p=some (.dK kvs)/\dH H' kvs (m.take j) fp/\(∀c∈fp,H c=none)/\p ∉ fp)/\∃x y z,σ=[some (.ref r),some (.ref b),some (.ref p),x,y,z]) ⟨G1,⟨[],[],e1,by rw[Ds.take_zero];unfold dH;exact⟨rfl,rfl⟩,λc hc=>(nomatch hc),λz=>(nomatch z)⟩,_,_,_,rfl⟩ ?_ ?_ ?_⟩
 . rintro j σ H' _ ⟨G,_⟩;exact du.of (G.tu R _ _ hb)
 . rintro j y σ H' pp hy ⟨G,⟨kvs,fp,ax,hO,aB,aC⟩,x0,y0,z0,rfl⟩ aH;obtain⟨c,u,x,k,rfl,ay,hc,hk⟩:=FA.get fs aA hy;obtain⟨d,hg,aI,a1,_,_⟩:=hS.at aE ay;have kz:=uZ hS ay aI;have kZ:=rN aF kz;have s2:Same H' (upd H' pp (.tup [.int j,.ref c])):=Same.new aH;have p2:upd H' pp (.tup [.int j,.ref c]) pp=some (.tup [.int j,.ref c]):=dw;have G2:=G.trans (G.g.same s2);have Dv:=s2 _ _ ax;have rL:=hO.same s2;generalize upd H' pp (.tup [.int j,.ref c])=H2 at *;clear aH s2 G ax hO;refine⟨pp,_,rfl,du.of p2,rfl,_,_,rfl,_,_,rfl,rfl,?_⟩;dsimp only[fU];obtain⟨aJ,a2⟩:=kY kZ;refine o8 (A:=lP _ _ _) (λa3 H'=>a3=[some (.ref r),some (.ref b),some (.ref p),some (.int j),some (.ref c),z0]/\Go C r dx l Pv us qs (i+1+(iP ((m.fk fs).take j)).length+((if j=0 then [] else [dn 44]):List LP).length) H H'/\H' p=some (.dK kvs)/\dH H' kvs (m.take j) fp) ?_ (λhB=>?_)
   . rintro _ H3 ⟨rfl,G3,az,aK⟩;obtain⟨⟨q1,aD,n1,n2⟩,aQ⟩:=Du a2;obtain⟨⟨q2,a4,n3,n4⟩,aS⟩:=iK aQ;have hc3:=G3.tu R _ _ hc;refine⟨_,rfl,r,dx,_,rfl,G3.g.at_.ob,rfl,_,rfl,c,_,_,_,rfl,rfl,du.of hc3,rfl,iW,λpn aT=>?_⟩;have s4:=Same.new (o:=.lst [.str x]) aT;have e4:upd H3 pn (.lst [.str x]) pn=some (.lst ([x].map V.str)):=dw;have G4:=G3.trans (G3.g.same s4);have Dw:=s4 _ _ az;have pG:=aK.same s4;generalize upd H3 pn (.lst [.str x])=H4 at *;refine⟨r,dx,l,us,qs,_,q1,pn,[x],x,rfl,dy.of e4,G4.g.at_,aD,n1,n2,Q05,λH5 m5=>?_⟩;have g5:=G4.g.mv m5;have G5:=G4.trans g5;have Dx:=g5.mu G4.g (.inr ⟨_,rfl⟩) Dw;have nH:=pF G4.g g5 pG;refine⟨_,rfl,r,dx,_,rfl,G5.g.at_.ob,rfl,r,dx,l,us,qs,_,q2,":",rfl,G5.g.at_,a4,⟨n3,n4.trans aX⟩,λH6 m6=>?_⟩;have g6:=G5.g.mv m6;have G6:=G5.trans g6;have vf:=g6.mu G5.g (.inr ⟨_,rfl⟩) Dx;have pH:=pF G5.g g6 nH;clear az Dw Dx aK pG nH e4 s4 g5 g6 m5 m6;refine⟨_,rfl,_,rfl,c,_,_,_,rfl,rfl,du.of (G6.tu R _ _ hc),rfl,r,u,dx,l,us,qs,_,k,d,rfl,G6.g,KA.mono (G6.tu R) k hk,Fs.l6 hW ay,a1,Q07 (Ds.oI hg) aU,aS,λv fv H7 g7 a5 aL=>?_⟩;have G7:=G6.trans g7;have mD:=g7.mu G6.g (.inr ⟨_,rfl⟩) vf;have mE:=pF G6.g g7 pH;have aM:p ∉ fv:=λz=>by rw[aL p z] at vf;cases vf
     have aN:fs.names[j]? =some x:=by rw[Fs.iD,ay];rfl
     have a6:x ∉ (m.take j).names:=by
      rw[Ds.kX,hS.names];intro z;obtain⟨j',a7,e'⟩:=Q1q z;rw[Q0k] at a7;rw[Q2o] at e';obtain⟨hj,a8⟩:=List.getElem?_eq_some_iff.mp aN;have:=(Q19 aE).mp (e'.trans a8.symm);omega
     have bb:kvs.length<=3:=by
      rw[mE.len,Ds.kX,hS.names,Q0k];omega
     refine⟨_,rfl,_,rfl,p,_,rfl,lb.k (k:=Sum.inr x) mD (hX (by omega)),?_⟩;rw[qV (mE.t_ a6)];have G8:=G7.wr (o':=.dK (kvs++[(Sum.inr x,v)])) R hp mD (.inr ⟨_,rfl⟩);refine⟨?_,⟨_,fp++fv,dw,?_,?_,?_⟩,_,_,_,rfl⟩
     . rw[my kz,Q01,Q01,Q02,Q02];have ee:i+1+(iP ((m.fk fs).take j)).length+((if j=0 then [] else [dn 44]):List LP).length+1+1+(d.tk k).length=i+1+((iP ((m.fk fs).take j)).length+(((if j=0 then [] else [dn 44]):List LP).length+((d.tk k).length+1+1))):=by omega
       rw[ee] at G8;exact G8
     . rw[Ds.take_snoc (by rw[hS.names];exact aN) aI];exact dH.snoc (rO mD (.inr ⟨_,rfl⟩) aM a5) _ (Kz mD (.inr ⟨_,rfl⟩) aC mE)
     . intro c' a9;rcases List.mem_append.mp a9 with z|z
       . exact aB c' z
       . exact G6.jx R (aL c' z)
     . intro z;rcases List.mem_append.mp z with z|z
       . exact aC z
       . exact aM z
   . refine⟨_,rfl,_,_,rfl,rfl,_,rfl,?_⟩;by_cases h0:j=0
     . subst h0;rw[decide_eq_false (show ¬(0:Int)<((0:Nat):Int) by decide)];exact dE (hB _ _ ⟨rfl,G2,Dv,rL⟩)
     . rw[decide_eq_true (show(0:Int)<(j:Int) by omega)];rw[if_neg h0] at aJ;obtain⟨⟨q1,aD,n1,n2⟩,_⟩:=iK (l:=[]) aJ;refine dS ⟨_,rfl,r,dx,_,rfl,G2.g.at_.ob,rfl,r,dx,l,us,qs,_,q1,",",rfl,G2.g.at_,aD,⟨n1,n2.trans aW⟩,λH3 m3=>hB _ _ ⟨rfl,?_,?_,?_⟩⟩
       . rw[if_neg h0];exact G2.trans (G2.g.mv m3)
       . exact(G2.g.mv m3).mu G2.g (.inr ⟨_,rfl⟩) Dv
       . exact pF G2.g (G2.g.mv m3) rL
 . intro σ H' zq;obtain⟨G,⟨kvs,fp,ax,hO,aB,aC⟩,x0,y0,z0,rfl⟩:=zq;rw[aZ,Q13] at G;have e:m.take xs.length=m:=by rw[FA.len fs aA,<-hS.names];exact Ds.take_all m
   rw[e] at hO;obtain⟨⟨q,hq,h1,h2⟩,_⟩:=iK (l:=[]) aG;refine⟨_,rfl,r,dx,_,rfl,G.g.at_.ob,rfl,r,dx,l,us,qs,_,q,"}",rfl,G.g.at_,hq,⟨h1,h2.trans aP⟩,λH3 m3=>?_⟩;have g3:=G.g.mv m3;have G3:=G.trans g3;have ee:i+1+(iP (m.fk fs)).length+1=i+((iP (m.fk fs)).length+2):=by omega
   rw[ee] at G3;refine⟨_,rfl,fin (.ref p) (p::fp) H3 G3 ?_ λc hc=>?_⟩
   . unfold Own;exact⟨p,kvs,fp,rfl,g3.mu G.g (.inr ⟨_,rfl⟩) ax,rfl,pF G.g g3 hO⟩
   . rcases List.mem_cons.mp hc with z|z
     . rw[z];exact hp
     . exact aB c z
end
structure Bl (H:Hp) (t:Addr) (xs:Ds) (ws:List V) (H':Hp):Prop where
 at_:H' t=some (.lst ws)
 el:∀(j:Nat) v,ws[j]? =some v->∃d f,xs.at j=some d/\Own H' v d f/\∀c∈f,H c=none/\c≠t
theorem Dy {H H':Hp}{t:Addr}:∀{xs:Ds}{ws:List V},ws.length=xs.len->(∀(j:Nat) v,ws[j]? =some v->∃d f,xs.at j=some d/\Own H' v d f/\∀c∈f,H c=none/\c≠t)->∃fp,dz H' ws xs fp/\∀c∈fp,H c=none
 | .nil,ws,hl,_=>by
   have:ws=[]:=List.length_eq_zero_iff.mp hl;exact⟨[],by unfold dz;exact⟨this,rfl⟩,λc hc=>(nomatch hc)⟩
 | .cons x d r,[],hl,_=>by cases hl
 | .cons x d r,v::q,hl,h=>by
   obtain⟨d',f,e,J,L⟩:=h 0 v rfl
   cases e;obtain⟨fp,h1,h2⟩:=Dy (xs:=r) (ws:=q) (Nat.succ.inj hl) λj v e=>h (j+1) v e;refine⟨f++fp,by unfold dz;exact⟨v,q,f,fp,rfl,rfl,J,h1⟩,λc hc=>?_⟩;rcases List.mem_append.mp hc with z|z
   . exact(L c z).1
   . exact h2 c z
section
variable {C r dx l Pv t:Addr}{us ws:List V}{qs:List Pc}{i j:Nat}{H H1 H2:Hp}{xs:Ds}
theorem Bl.go (b:Bl H t xs ws H1)(h:Rg C r dx l Pv us qs i H1)(x:Go C r dx l Pv us qs j H1 H2):Bl H t xs ws H2:=by
 refine⟨x.mu h (.inl ⟨_,rfl⟩) b.at_,λj v e=>?_⟩;obtain⟨d,f,h1,h2,J⟩:=b.el j v e;exact⟨d,f,h1,x.own h h2,J⟩
theorem Bl.app (b:Bl H t xs ws H1){v:V}{d:D}{f:List Addr}(U:xs.at ws.length=some d)(Y:Own H1 v d f)(J:∀c∈f,H c=none/\c≠t):Bl H t xs (ws++[v]) (upd H1 t (.lst (ws++[v]))):=by
 refine⟨dw,λj u e=>?_⟩;by_cases hj:j<ws.length
 . rw[Q1v hj] at e;obtain⟨d',f',h1,h2,L⟩:=b.el j u e;exact⟨d',f',h1,rO b.at_ (.inl ⟨_,rfl⟩) (λz=>(L t z).2 rfl) h2,L⟩
 . have hl:=(List.getElem?_eq_some_iff.mp e).1;rw[Q01,Q1o] at hl;have ej:j=ws.length:=by omega
   subst ej;rw[Q1n (Q00 _),Q2p] at e
   cases e;exact⟨d,f,U,rO b.at_ (.inl ⟨_,rfl⟩) (λz=>(J t z).2 rfl) Y,J⟩
theorem Bl.fin (b:Bl H t xs ws H1)(J:H t=none)(hl:ws.length=xs.len):∃fp,Own H1 (.ref t) (.lst xs) fp/\∀c∈fp,H c=none:=by
 obtain⟨fp,h1,h2⟩:=Dy hl b.el;refine⟨t::fp,by unfold Own;exact⟨t,ws,fp,rfl,b.at_,rfl,h1⟩,λc hc=>?_⟩;rcases List.mem_cons.mp hc with z|z
 . rw[z];exact J
 . exact h2 c z
end
theorem Ds.lh:∀{xs:Ds}{i:Nat},i<xs.len->∃d,xs.at i=some d
 | .nil,i,h=>absurd h (Q1w _)
 | .cons x d r,0,h=>⟨d,rfl⟩
 | .cons x d r,i+1,h=>Ds.lh (xs:=r) (Nat.lt_of_succ_lt_succ h)
def pI (n:Nat) (C Pv:Addr):Sp:=λvs H Q _=>∃r a dx l us qs i u k d,vs=[.ref r,.ref a]/\Rg C r dx l Pv us qs i H/\H a=some (.tup [.str "tree",u])/\KA H u k/\k.W/\eA d (.tree k)/\d.dep<=n/\eS qs i (tks (d.tk (.tree k)))/\
 ∀v fp H',Go C r dx l Pv us qs (i+(d.tk (.tree k)).length) H H'->Own H' v d fp->(∀c∈fp,H c=none)->Q v H'
def DA (n:Nat) (C Pv:Addr):Sp:=λvs H Q _=>∃r b dx l us qs i xs fs y z x d,vs=[.ref r,.ref b]/\Rg C r dx l Pv us qs i H/\H b=some (.tup xs)/\FA H xs fs/\fs.names.Nodup/\fs.W/\fs.names.length<=3/\x∈fs.names/\eA d ((fs.get x).getD .num)/\d.dep<=n/\eS qs i (tks (gu x::tgt::(d.tk ((fs.get x).getD .num)++[dn 41])))/\
 ∀v fp H',Go C r dx l Pv us qs (i+((d.tk ((fs.get x).getD .num)).length+3)) H H'->Own H' v (.tup (.cons y (.str x) (.cons z d .nil))) fp->(∀c∈fp,H c=none)->Q v H'
theorem DB {C r dx l Pv:Addr}{us:List V}{qs:List Pc}{i j:Nat}{H:Hp}{L:List LP}(h:Rg C r dx l Pv us qs i H)(J:eS qs j (tks L)):L.length<=200000:=by
 by_cases Y:L.length=0
 . omega
 . have hl:L.length - 1<(tks L).length:=by rw[Q0b];omega
   obtain⟨q,U,_⟩:=J (L.length - 1) _ (Q0a hl);have:=(List.getElem?_eq_some_iff.mp U).1;have:=h.at_.le;omega
theorem DC {k:Kd}:∀xs:Ds,xs.len<=(xs.gv k).length
 | .nil=>Q06 _
 | .cons x d r=>by
   have:=DC (k:=k) r;rw[Ds.gv];show r.len+1<=_;simp only[Q02,Q01];omega
theorem DD {k:Kd}(xs:Ds):xs.len<=(xs.er k).length+1:=by
 cases xs with
 |nil=>exact Q06 _
 |cons x d r=>
  have:=DC (k:=k) r;rw[Ds.er];show r.len+1<=_;simp only[Q01];omega
section
variable {P:Program}{w:World}{K:W.Frag}{mg:Str->Option Value}{base:Heap}
variable {C Pv:Addr}
theorem KG:d9 ["reader","kind","value","arms","mark"] Xb (dN (top 23)):=eG
theorem KH (n:Nat)(T:Tb mg)(RD:iG K mg C ap av aw ao Y J ar au)(ac:Dn K mg "told_tree" gQ (top 23) ae af)(an:dj P w K mg base dm (5 * n+4) ae af gQ (pI n C Pv))(aj:Dn K mg "told_value" gQ (top 21) ak al)(am:dj P w K mg base dm (5 * n+5) ak al gQ (mC n C Pv))(L:Dm K "pass_mark" "Reader.pass_mark" jP (dU 18 6) J aa)(U:dj P w K mg base dm (3) J aa jP (o5 C))(ag:Dm K "passed" "Reader.passed" gY (dU 18 5) Y ah)(ai:dj P w K mg base dm (2) Y ah gY (rj C)):dj P w K mg base dm ((5 * n+8)+1) ae af gQ (pI (n+1) C Pv):=by
 have CT:=RD.ct;have ab:=RD.k;have aq:=RD.p;refine ac.F.ok KG λvs H Q E h=>?_;obtain⟨r,a,dx,l,us,qs,i,u,k,d,rfl,R,ha,hk,hW,hS,aN,hP,fin⟩:=h;refine⟨rfl,λbb A outer s nd hr hu=>?_⟩
 refine⟨_,(dh (fC (gM (pv 0) CT ab U (hr.mono (by omega)) L.b .nil gd (a_ dv b_)))
  (dh (dI 2 nd (dJ am hr aj (a_ (pv 0) (a_ (dR (pv 1) c_) b_))))
  (dh (dI 3 nd (gm b_))
  (dh (dI 4 nd dv)
  (dh (qh PassesOwn.never (eN (gM (pv 0) CT aq ai (hr.mono (by omega)) ag.b .nil gd (a_ dv (a_ (pv 4) b_)))) (dh (fC (gA PySem.F.plainAttrs_list PySem.F.slot_list_append PySem.F.type_list_append iA (pv 3) (a_ (dJ an hr ac (a_ (pv 0) (a_ (pv 1) b_))) b_)))
  (dq (dI 4 nd dv))))
  (dh (fC (gM (pv 0) CT ab U (hr.mono (by omega)) L.b .nil gd (a_ dv b_)))
  (dq (dF (f_ (a_ (pv 2) (a_ (pv 3) b_))))))))))),?_⟩
 ac_rfl
 obtain⟨y,z,t,as,rfl,aO,aP⟩:=hS.inv;rw[rm] at hP fin;simp only[D.dep,Ds.dep] at aN;have aQ:V.str (di [60])=V.str "<":=by decide +kernel
 have aS:V.str (di [62])=V.str ">":=by decide +kernel
 obtain⟨⟨q,hq,h1,h2⟩,aT⟩:=iK hP;obtain⟨aU,g8⟩:=kY aT;refine⟨_,rfl,r,dx,_,rfl,R.at_.ob,rfl,r,dx,l,us,qs,i,q,"<",rfl,R.at_,hq,⟨h1,h2.trans aQ⟩,λH1 m1=>?_⟩;have G1:=R.mv m1;refine⟨_,rfl,_,rfl,a,_,_,_,rfl,rfl,du.of (G1.tu R _ _ ha),rfl,r,u,dx,l,us,qs,i+1,k,t,rfl,G1.g,KA.mono (G1.tu R) k hk,hW,aO,by omega,aU,λv fv H2 g2 az aA=>?_⟩;have G2:=G1.trans g2;have aA:∀c∈fv,H c=none:=λc hc=>G1.jx R (aA c hc);clear g2 G1 m1 hq h1 h2;refine⟨lr,λp hp=>?_⟩;have aE:=G2.jx R hp;have g3:=G2.g.same (Same.new (o:=.lst []) hp);have G3:=G2.trans g3;have B3:Bl H p as [] (upd H2 p (.lst [])):=⟨dw,λj v e=>by cases e⟩;have aW:Own (upd H2 p (.lst [])) v t fv:=az.same (Same.new hp)
 have aX:p ∉ fv:=λz=>by
  rcases Own.alive t az p z with⟨_,e⟩|⟨_,e⟩ <;> rw[hp] at e <;> cases e
 generalize upd H2 p (.lst [])=H3 at *;clear g3 G2 hp az;rw[px] at g8 fin;generalize aY:i+1+(t.tk k).length=i1 at *
 have ay:as.len≠0->as.col=[dn 58]:=λh=>by
  cases as with
  |nil=>exact absurd rfl h
  |cons y d r=>rfl
 have aD:as.len=0->as=.nil:=λh=>by
  cases as with
  |nil=>rfl
  |cons y d r=>cases h
 have aI:=rE (.tree k) as;have aJ:=DB R g8;have aZ:=DD (k:=.tree k) as;rw[px] at aZ;simp only[Q01] at aJ;refine⟨λmm σ H'=>∃(j:Nat) (ws:List V),mm=as.len - j/\j<=as.len/\Go C r dx l Pv us qs (if j=0 then i1 else i1+1+(iP ((as.eI (.tree k)).take j)).length) H H'/\Bl H p as ws H'/\ws.length=j/\Own H' v t fv/\σ=[some (.ref r),some (.ref a),some v,some (.ref p),some (.str (if j=0 then ":" else ","))],⟨_,0,[],rfl,Q06 _,by rw[if_pos rfl];exact G3,B3,rfl,aW,rfl⟩,?_⟩;intro mm σ H' zq;obtain⟨j,ws,rfl,hj,G,B,aF,hO,rfl⟩:=zq;rcases Q2g j as.len with aG|bc
 . obtain⟨d,ax⟩:=Ds.lh aG;obtain⟨a1,_,_⟩:=aP.at ax;have bd:=Ds.iU ax;have kz:=pz (k:=.tree k) ax;rw[ay (by omega)] at g8;have g8:eS qs i1 (tks (dn 58::(iP (as.eI (.tree k))++[dn 62]))):=g8;obtain⟨⟨qc,a2,c1,c2⟩,aB⟩:=iK g8;obtain⟨a3,_⟩:=kY aB;have kZ:=rN a3 kz
   obtain⟨q4,a4,n1,n2,a5⟩:∃q4,qs[if j=0 then i1 else i1+1+(iP ((as.eI (.tree k)).take j)).length]? =some q4/\jz q4.sort="mark"/\q4.th.V=.str (if j=0 then ":" else ",")/\eS qs ((if j=0 then i1 else i1+1+(iP ((as.eI (.tree k)).take j)).length)+1) (tks (d.tk (.tree k))):=by
    by_cases h0:j=0
    . subst h0;rw[if_pos rfl,if_pos rfl];rw[if_pos rfl] at kZ;exact⟨qc,a2,c1,c2.trans (by decide +kernel),kZ⟩
    . rw[if_neg h0,if_neg h0];rw[if_neg h0] at kZ;obtain⟨⟨qd,a6,d1,d2⟩,aC⟩:=iK kZ;exact⟨qd,a6,d1,d2.trans (by decide +kernel),aC⟩
   refine⟨_,rfl,r,dx,_,rfl,G.g.at_.ob,rfl,_,rfl,r,dx,l,us,qs,_,q4,"mark",_,rfl,G.g.at_,a4,.inl ⟨⟨n1,n2⟩,λH5 m5=>⟨_,rfl,dS ?_⟩⟩⟩;refine⟨_,λ_ _ z=>z,?_⟩;have g5:=G.g.mv m5;have G5:=G.trans g5;have B5:=B.go G.g g5;have nH:=g5.own G.g hO;refine⟨_,rfl,.inl ⟨rfl,_,dy.of B5.at_⟩,_,rfl,_,rfl,r,a,dx,l,us,qs,_,u,k,d,rfl,G5.g,G5.tu R _ _ ha,KA.mono (G5.tu R) k hk,hW,a1,by omega,a5,λw fw H6 g6 a7 aH=>?_⟩;have G6:=G5.trans g6;have B6:=B5.go G5.g g6;have pH:=g6.own G5.g nH;have aK:∀c∈fw,H c=none/\c≠p:=λc hc=>⟨G5.jx R (aH c hc),λz=>by have:=aH c hc;rw[z,B5.at_] at this;cases this⟩;refine⟨p,_,w,rfl,rfl,B6.at_,Q0q (show ws.length<=200001 by omega) (by decide),?_⟩;refine⟨as.len - (j+1),by omega,j+1,ws++[w],rfl,aG,?_,B6.app (by rw[aF];exact ax) a7 aK,by rw[Q01,aF];rfl,rO B6.at_ (.inl ⟨_,rfl⟩) aX pH,rfl⟩;have G7:=G6.wr (o':=.lst (ws++[w])) R aE B6.at_ (.inl ⟨_,rfl⟩);rw[if_neg (Nat.succ_ne_zero j),my kz]
   have ee:(if j=0 then i1 else i1+1+(iP ((as.eI (.tree k)).take j)).length)+1+(d.tk (.tree k)).length=i1+1+(iP ((as.eI (.tree k)).take j)++((if j=0 then [] else [dn 44])++d.tk (.tree k))).length:=by
    rw[Q01,Q01];by_cases h0:j=0
    . subst h0;rw[if_pos rfl,if_pos rfl];show i1+1+_=i1+1+(0+(0+_));omega
    . rw[if_neg h0,if_neg h0];show i1+1+_+1+_=i1+1+(_+(1+_));omega
   rw[ee] at G7;exact G7
 . have ej:j=as.len:=by omega
   have aL:∃q5,qs[if j=0 then i1 else i1+1+(iP ((as.eI (.tree k)).take j)).length]? =some q5/\jz q5.sort="mark"/\q5.th.V=.str (di [62])/\(if j=0 then i1 else i1+1+(iP ((as.eI (.tree k)).take j)).length)=i1+as.col.length+(iP (as.eI (.tree k))).length:=by
    by_cases h0:j=0
    . have en:=aD (by omega);subst en;rw[if_pos h0];obtain⟨⟨q5,h5,h6,h7⟩,_⟩:=iK (l:=[]) (show eS qs i1 (tks [dn 62]) from g8);exact⟨q5,h5,h6,h7,rfl⟩
    . rw[if_neg h0];have ec:=ay (by omega);rw[ec] at g8 ⊢;have g8:eS qs i1 (tks (dn 58::(iP (as.eI (.tree k))++[dn 62]))):=g8;obtain⟨_,aB⟩:=iK g8;obtain⟨_,aC⟩:=kY aB;obtain⟨⟨q5,h5,h6,h7⟩,_⟩:=iK (l:=[]) aC;have et:(as.eI (.tree k)).take j=as.eI (.tree k):=Q1d (by rw[aI];omega);rw[et];exact⟨q5,h5,h6,h7,rfl⟩
   obtain⟨q5,h5,h6,h7,aM⟩:=aL;refine⟨_,rfl,r,dx,_,rfl,G.g.at_.ob,rfl,_,rfl,r,dx,l,us,qs,_,q5,"mark",_,rfl,G.g.at_,h5,.inr ⟨λz=>?_,_,rfl,dE ?_⟩⟩
   . have z2:=z.2;rw[h7] at z2;by_cases h0:j=0
     . rw[if_pos h0] at z2;exact absurd z2 (by decide +kernel)
     . rw[if_neg h0] at z2;exact absurd z2 (by decide +kernel)
   refine⟨_,rfl,r,dx,_,rfl,G.g.at_.ob,rfl,r,dx,l,us,qs,_,q5,">",rfl,G.g.at_,h5,⟨h6,h7.trans aS⟩,λH6 m6=>?_⟩;have g6:=G.g.mv m6;have G6:=G.trans g6;have B6:=B.go G.g g6;have pH:=g6.own G.g hO;obtain⟨fa,a8,a9⟩:=B6.fin aE (by omega);refine⟨_,rfl,_,rfl,gC,λtp ba=>?_⟩;have s7:=Same.new (o:=.tup [v,.ref p]) ba;have G7:=G6.trans (G6.g.same s7);rw[aM] at G7
   have ee:i1+as.col.length+(iP (as.eI (.tree k))).length+1=i+(dn 60::(t.tk k++(as.col++(iP (as.eI (.tree k))++[dn 62])))).length:=by
    rw[<-aY];simp only[Q02,Q01,Q0l];omega
   rw[ee] at G7;refine fin (.ref tp) (fv++fa) _ G7 ?_ λc hc=>?_
   . unfold Own;refine⟨tp,[v,.ref p],rfl,dw,?_⟩;unfold dz;refine⟨v,[.ref p],fv,fa,rfl,rfl,pH.same s7,?_⟩;unfold dz;refine⟨.ref p,[],fa,[],rfl,(Q0n _).symm,a8.same s7,?_⟩;unfold dz;exact⟨rfl,rfl⟩
   . rcases List.mem_append.mp hc with z|z
     . exact aA c z
     . exact a9 c z
theorem KI:d9 ["reader","fields","name","value"] XO (dN (top 24)):=eG
theorem KJ (n:Nat)(T:Tb mg)(RD:iG K mg C ao ay az J aw L av ax)(ah:Dn K mg "told_either" kx (top 24) ai aj)(ak:Dn K mg "told_value" gQ (top 21) al am)(an:dj P w K mg base dm (5 * n+5) al am gQ (mC n C Pv))(ap:Dn K mg "kind_at" lu (top 5) aq ar)(au:dj P w K mg base dm (1) aq ar lu (uX))(U:Dm K "pass_mark" "Reader.pass_mark" jP (dU 18 6) L ae)(Y:dj P w K mg base dm (3) L ae jP (o5 C))(aa:Dm K "taken_among" "Reader.taken_among" mh (dU 18 4) J ab)(ac:dj P w K mg base dm (2) J ab mh (ur K C)):dj P w K mg base dm (5 * n+6) ai aj kx (DA n C Pv):=by
 have CT:=RD.ct;have af:=RD.k;have ag:=RD.g;refine ah.F.ok KI λvs H Q E h=>?_;obtain⟨r,b,dx,l,us,qs,i,xs,fs,y,z,x,d,rfl,R,hb,aA,aB,hW,h3,hx,hS,aC,hP,fin⟩:=h;refine⟨rfl,λaW A outer s nd hr hu=>?_⟩
 refine⟨_,(dh (dI 2 nd (gM (pv 0) CT ag ac (hr.mono (by omega)) aa.b .nil gd (a_ (kJ (g:=(fU 0)) (tt:=ju) (te:=(gL (j8 K) (eV 0) (tC (.int 0)))) (own:=["pair"]) rfl (jO (N:=["reader","fields","name","value"]) (sc:=dN (top 24))) (nZ (pv 1)) (λ_ _ _ _ _=>(e8 (i:=0) (show(["pair","reader","fields","name","value"]:List Str).Nodup by decide +kernel) rfl (Or.inl rfl) (.inr rfl))) (λ_ _ _ _ _=>kg) (λ_ _ _ _ _=>(dR (pv 0) c_))) b_)))
  (dh (fC (gM (pv 0) CT af Y (hr.mono (by omega)) U.b .nil gd (a_ dv b_)))
  (dh (dI 3 nd (dJ an hr ak (a_ (pv 0) (a_ (dJ au hr ap (a_ (pv 1) (a_ (pv 2) b_))) b_))))
  (dh (fC (gM (pv 0) CT af Y (hr.mono (by omega)) U.b .nil gd (a_ dv b_)))
  (dq (dF (f_ (a_ (pv 2) (a_ (pv 3) b_))))))))),?_⟩
 ac_rfl
 have aD:V.str (di [40])=V.str "(":=by decide +kernel
 have aE:V.str (di [41])=V.str ")":=by decide +kernel
 obtain⟨k,hk⟩:=Fs.ny hx;rw[hk] at hS hP fin;have hS:eA d k:=hS;have hP:eS qs i (tks (gu x::tgt::(d.tk k++[dn 41]))):=hP;have fin:∀v fp H',Go C r dx l Pv us qs (i+((d.tk k).length+3)) H H'->Own H' v (.tup (.cons y (.str x) (.cons z d .nil))) fp->(∀c∈fp,H c=none)->Q v H':=fin;obtain⟨⟨q1,aF,n1,n2⟩,aG⟩:=Du hP;obtain⟨⟨q2,aH,c1,c2⟩,aI⟩:=eS.cons (t:=mkT 40) (us:=tks (d.tk k++[dn 41])) aG;obtain⟨aJ,aK⟩:=kY aI;obtain⟨⟨q3,aL,e1,e2⟩,_⟩:=iK (l:=[]) aK;have aM:=FA.len fs aA;refine⟨_,rfl,r,dx,_,rfl,R.at_.ob,rfl,_,rfl,b,rfl,⟨_,du.of hb⟩,C2 (C1 (du.of hb)) (λj=>(fs.names.take j).map V.str) (by omega) (λp hp=>?_) (λj v hv aN skip=>?_)⟩
 . rw[aM,Q13];have s1:=Same.new (o:=.lst (fs.names.map V.str)) hp;have G1:=R.same s1;have e3:upd H p (.lst (fs.names.map V.str)) p=some (.lst (fs.names.map V.str)):=dw;generalize upd H p (.lst (fs.names.map V.str))=H1 at *;refine⟨r,dx,l,us,qs,i,q1,p,fs.names,x,rfl,dy.of e3,G1.g.at_,aF,n1,n2,hx,λH2 m2=>?_⟩;have G2:=G1.trans (G1.g.mv m2);refine⟨_,rfl,r,dx,_,rfl,G2.g.at_.ob,rfl,r,dx,l,us,qs,_,q2,"(",rfl,G2.g.at_,aH,⟨by rw[c1];rfl,by rw[c2];exact aD⟩,λH3 m3=>?_⟩;have G3:=G2.trans (G2.g.mv m3);refine⟨_,rfl,_,rfl,_,rfl,b,x,xs,fs,k,rfl,G3.tu R _ _ hb,FA.mono (G3.tu R) fs aA,aB,hk,λu aO aX=>?_⟩;refine⟨r,u,dx,l,us,qs,_,k,d,rfl,G3.g,aO,Fs.nv hW hk,hS,aC,aJ,λv fv H4 g4 aP aQ=>?_⟩;have G4:=G3.trans g4;have ee:i+1+1+(d.tk k).length=i+1+1+(d.tk k).length:=rfl;refine⟨_,rfl,r,dx,_,rfl,G4.g.at_.ob,rfl,r,dx,l,us,qs,_,q3,")",rfl,G4.g.at_,aL,⟨e1,e2.trans aE⟩,λH5 m5=>?_⟩;have g5:=G4.g.mv m5;have G5:=G4.trans g5;have aS:=g5.own G4.g aP;refine⟨_,rfl,_,rfl,gC,λtp aT=>?_⟩;have s6:=Same.new (o:=.tup [.str x,v]) aT;have G6:=G5.trans (G5.g.same s6);rw[show i+1+1+(d.tk k).length+1=i+((d.tk k).length+3) by omega] at G6;refine fin (.ref tp) fv _ G6 ?_ λc hc=>G3.jx R (aQ c hc);unfold Own;refine⟨tp,[.str x,v],rfl,dw,?_⟩;unfold dz;refine⟨.str x,[v],[],fv,rfl,rfl,by unfold Own;exact⟨rfl,rfl⟩,?_⟩;unfold dz;refine⟨v,[],fv,[],rfl,(Q0n _).symm,aS.same s6,?_⟩;unfold dz;exact⟨rfl,rfl⟩
 . obtain⟨c,u,nm,k',rfl,aU,hc,aY⟩:=FA.get fs aA hv;refine⟨rfl,L2.yes (dS ⟨_,rfl,c,_,_,_,rfl,rfl,du.of hc,rfl,aN _ ?_⟩)⟩;have:fs.names[j]? =some nm:=by rw[Fs.iD,aU];rfl
   rw[Q18,this,Q0p];rfl
end
structure nI (H:Hp) (kv:V) (xs:List V) (fs:Fs) (b:Addr):Prop where
 k:∃pk key by_,kv=.ref pk/\H pk=some (.tup [.str "rows",.str key,.str by_,.ref b])
 tu:H b=some (.tup xs)
 fa:FA H xs fs
 nd:fs.names.Nodup
 W:fs.W
 le:fs.names.length<=3
theorem nI.mono {H H':Hp}{L:V}{xs:List V}{fs:Fs}{b:Addr}(h:nI H L xs fs b)(u:Tu H H'):nI H' L xs fs b:=by
 obtain⟨U,key,J,e,hk⟩:=h.k;exact⟨⟨U,key,J,e,u _ _ hk⟩,u _ _ h.tu,FA.mono u fs h.fa,h.nd,h.W,h.le⟩
def vg (n:Nat) (C Pv:Addr) (J:V) (c':Addr) (vs:List V) (H:Hp) (Q:VK):Prop:=∃r dx l us qs i xs fs b m,vs=[.ref r]/\nI H J xs fs b/\Rg C r dx l Pv us qs i H/\gO Pv i5 i6 c' H/\d4 m fs/\m.dep<=n/\eS qs i (tks (dn 123::(m.fY fs++[dn 125])))/\
 ∀v fp H',Go C r dx l Pv us qs (i+((m.fY fs).length+2)) H H'->Own H' v (.dct m) fp->(∀c∈fp,H c=none)->Q v H'
def DE (n:Nat) (C Pv:Addr) (J:V) (c':Addr):Sp:=λvs H Q _=>∃r g dx l us qs i xs fs b as,vs=[.ref r,.str "[",.str "]",.ref g]/\nI H J xs fs b/\Rg C r dx l Pv us qs i H/\gO Pv i5 i6 c' H/\eP as (.dG fs)/\as.dep<=n/\eS qs i (tks (dn 91::(as.er (.dG fs)++[dn 93])))/\
 ∀v fp H',Go C r dx l Pv us qs (i+((as.er (.dG fs)).length+2)) H H'->Own H' v (.lst as) fp->(∀c∈fp,H c=none)->Q v H'
section
variable {P:Program}{w:World}{K:W.Frag}{mg:Str->Option Value}{base:Heap}
variable {C Pv:Addr}
theorem DF:d9 ["self","first","last","read_one","things"] XG (dN (dU 18 8)):=eG
theorem KL (n:Nat)(T:Tb mg)(RD:iG K mg C aq ab ay ap Y J au aa)(af:Dm K "listed" "Reader.listed" uh (dU 18 8) aa ag)(ak:Dm K "is_at" "Reader.is_at" gY (dU 18 1) ab al)(am:dj P w K mg base dm (1) ab al gY (rh C))(ah:Dm K "passed" "Reader.passed" gY (dU 18 5) Y ai)(aj:dj P w K mg base dm (2) Y ai gY (rj C))(L:Dm K "pass_mark" "Reader.pass_mark" jP (dU 18 6) J ac)(U:dj P w K mg base dm (3) J ac jP (o5 C))(kv:V)(c':Addr):
 pE P w K mg base ((5 * n+7)+1) aa ag XG (5 * n+7) (vg n C Pv kv c') (DE n C Pv kv c'):=by
 have CT:=RD.ct;have ax:=RD.a;have ar:=RD.p;have ae:=RD.k;refine af.F.Kq DF (λvs H Q E h=>?_) (λa5 A outer s H vs Q E hr h hL=>?_)
 . obtain⟨r,g,dx,l,us,qs,i,xs,fs,b,as,rfl,_⟩:=h;rfl
 obtain⟨r,g,dx,l,us,qs,i,xs,fs,b,as,rfl,hK,R,hC,hS,a6,hP,fin⟩:=h;have BB:=hL g rfl;have nd:=DF.nd;have hu:=sU hr
 refine⟨_,(dh (fC (gM (pv 0) CT ae U (hr.mono (by omega)) L.b .nil gd (a_ (pv 1) b_)))
  (dh (dI 4 nd (gm b_))
  (dh (dM (iN (eN (gM (pv 0) CT ax am (hr.mono (by omega)) ak.b .nil gd (a_ dv (a_ (pv 2) b_))))) (dh (fC (gA PySem.F.plainAttrs_list PySem.F.slot_list_append PySem.F.type_list_append iA (pv 4) (a_ (Dt BB rfl (hr.mono (by omega)) (pv 3) (pv 0)) b_)))
  (dq (qh PassesOwn.never (eN (gM (pv 0) CT ar aj (hr.mono (by omega)) ah.b .nil gd (a_ dv (a_ dv b_)))) (dq (fC (gA PySem.F.plainAttrs_list PySem.F.slot_list_append PySem.F.type_list_append iA (pv 4) (a_ (Dt BB rfl (hr.mono (by omega)) (pv 3) (pv 0)) b_))))))) dO)
  (dh (fC (gM (pv 0) CT ae U (hr.mono (by omega)) L.b .nil gd (a_ (pv 2) b_)))
  (dq (dF (pv 4))))))),?_⟩
 ac_rfl
 have aP:V.str (di [91])=V.str "[":=by decide +kernel
 have aD:V.str (di [93])=V.str "]":=by decide +kernel
 have aQ:V.str (di [44])=V.str ",":=by decide +kernel
 obtain⟨⟨q,hq,h1,h2⟩,aE⟩:=iK hP;rw[px] at aE fin;obtain⟨aH,aS⟩:=kY aE;obtain⟨⟨qe,aB,e1,e2⟩,_⟩:=iK (l:=[]) aS;refine⟨_,rfl,r,dx,_,rfl,R.at_.ob,rfl,_,rfl,r,dx,l,us,qs,i,q,"[",rfl,R.at_,hq,⟨h1,h2.trans aP⟩,λH1 m1=>?_⟩;have G1:=R.mv m1;refine⟨lr,λt ht=>?_⟩;have aI:=G1.jx R ht;have G2:=G1.trans (G1.g.same (Same.new (o:=.lst []) ht));have B2:Bl H t as [] (upd H1 t (.lst [])):=⟨dw,λj v e=>by cases e⟩;generalize upd H1 t (.lst [])=H2 at *;clear G1 m1 hq h1 h2 ht;have aL:=rE (.dG fs) as;have aM:=DB R aE;have aT:=DD (k:=.dG fs) as;rw[px] at aT;simp only[Q01] at aM
 have step:∀(j:Nat) (ws:List V) (H':Hp) (pos:Nat),Go C r dx l Pv us qs pos H H'->Bl H t as ws H'->ws.length=j->j<as.len->(∀d,as.at j=some d->eS qs pos (tks (d.tk (.dG fs))))->
  ∀(Qn:VK),(∀d v aF,as.at j=some d->Go C r dx l Pv us qs (pos+(d.tk (.dG fs)).length) H aF->Bl H t as (ws++[v]) aF->Qn .non aF)->vg n C Pv kv c' [.ref r] H' λv H3=>zS (.ref t) [v] H3 Qn:=by
  intro j ws H' pos G B aw hj aN Qn aU;obtain⟨d,ao⟩:=Ds.lh hj;obtain⟨aW,_,_⟩:=hS.at ao;have aX:=Ds.iU ao;have hp:=aN d ao;obtain⟨m,rfl,hm⟩:=aW.inv;have em:(D.dct m).tk (.dG fs)=dn 123::(m.fY fs++[dn 125]):=by rw[D.tk]
  rw[em] at hp;unfold D.dep at aX;refine⟨r,dx,l,us,qs,pos,xs,fs,b,m,rfl,hK.mono (G.tu R),G.g,G.lk c' hC,hm,by omega,hp,λv fv H3 g3 ho hf=>?_⟩;have G3:=G.trans g3;have B3:=B.go G.g g3;refine⟨t,_,v,rfl,rfl,B3.at_,Q0q (show ws.length<=200001 by omega) (by decide),aU _ v _ ao ?_ (B3.app (by rw[aw];exact ao) ho λc hc=>⟨G.jx R (hf c hc),λz=>by have:=hf c hc;rw[z,B.at_] at this;cases this⟩)⟩;have G4:=G3.wr (o':=.lst (ws++[v])) R aI B3.at_ (.inl ⟨_,rfl⟩);rw[em];simp only[Q02,Q01,Q0l];exact G4
 have aA:∀(ws:List V) (H':Hp),Go C r dx l Pv us qs (i+1+(iP (as.eI (.dG fs))).length) H H'->Bl H t as ws H'->ws.length=as.len->∃v,L2.St=L2.St/\v=V.ref t/\∀H5,Mv H' H5 C r dx l (i+1+(iP (as.eI (.dG fs))).length+1)->Q (.ref t) H5:=by
  intro ws H' G B aw;refine⟨_,rfl,rfl,λH5 m5=>?_⟩;have g5:=G.g.mv m5;have G5:=G.trans g5;obtain⟨fp,hO,hf⟩:=(B.go G.g g5).fin aI aw;rw[show i+1+(iP (as.eI (.dG fs))).length+1=i+((iP (as.eI (.dG fs))).length+2) by omega] at G5;exact fin _ fp H5 G5 hO hf
 by_cases h0:as.len=0
 . have en:as=.nil:=by
    cases as with
    |nil=>rfl
    |cons y d r=>cases h0
   subst en;refine⟨_,rfl,r,dx,_,rfl,G2.g.at_.ob,rfl,_,rfl,r,dx,l,us,qs,i+1,qe,"mark","]",rfl,G2.g.at_,aB,_,rfl,?_⟩;rw[decide_eq_true e1,decide_eq_true (e2.trans aD)];refine dE ⟨_,rfl,r,dx,_,rfl,G2.g.at_.ob,rfl,_,rfl,r,dx,l,us,qs,i+1,qe,"]",rfl,G2.g.at_,aB,⟨e1,e2.trans aD⟩,λH3 m3=>⟨_,rfl,?_⟩⟩;obtain⟨_,_,_,hc⟩:=aA [] H2 G2 B2 rfl;exact hc H3 m3
 . have az:0<as.len:=by omega
   obtain⟨d0,av⟩:=Ds.lh az;have aJ:=pz (k:=.dG fs) av;have an:=rN aH aJ;rw[if_pos rfl] at an;have an:eS qs (i+1) (tks (d0.tk (.dG fs))):=an;obtain⟨aO,_,_⟩:=hS.at av;obtain⟨m0,rfl,a7⟩:=aO.inv;have aY:(D.dct m0).tk (.dG fs)=dn 123::(m0.fY fs++[dn 125]):=by rw[D.tk]
   have aC:=an;rw[aY] at aC;obtain⟨⟨q1,aZ,k1,k2⟩,_⟩:=iK aC;refine⟨_,rfl,r,dx,_,rfl,G2.g.at_.ob,rfl,_,rfl,r,dx,l,us,qs,i+1,q1,"mark","]",rfl,G2.g.at_,aZ,_,rfl,?_⟩;rw[decide_eq_true k1,decide_eq_false (show ¬q1.th.V=V.str "]" by rw[k2];decide +kernel)];refine dS ⟨_,rfl,.inl ⟨rfl,_,dy.of B2.at_⟩,_,rfl,rfl,_,rfl,?_⟩;dsimp only[hU];refine step 0 [] H2 (i+1) G2 B2 rfl az (λd e=>by rw[av] at e;cases e;exact an) _ λd v H3 hd G3 B3=>?_;rw[av] at hd
   cases hd;refine⟨λmm σ H'=>∃(j:Nat) (ws:List V),mm=as.len - j/\1<=j/\j<=as.len/\Go C r dx l Pv us qs (i+1+(iP ((as.eI (.dG fs)).take j)).length) H H'/\Bl H t as ws H'/\ws.length=j/\σ=[some (.ref r),some (.str "["),some (.str "]"),some (.ref g),some (.ref t)],⟨_,1,[v],rfl,Q00 _,az,?_,B3,rfl,rfl⟩,?_⟩
   . rw[my aJ,if_pos rfl];exact G3
   intro mm σ H' zq;obtain⟨j,ws,rfl,a8,hj,G,B,aw,rfl⟩:=zq;rcases Q2g j as.len with aG|a9
   . obtain⟨d,ao⟩:=Ds.lh aG;have kz:=pz (k:=.dG fs) ao;have kZ:=rN aH kz;rw[if_neg (by omega)] at kZ;obtain⟨⟨q4,a3,a1,a2⟩,a4⟩:=iK kZ;refine⟨_,rfl,r,dx,_,rfl,G.g.at_.ob,rfl,r,dx,l,us,qs,_,q4,"mark",",",rfl,G.g.at_,a3,.inl ⟨⟨a1,a2.trans aQ⟩,λH5 m5=>⟨_,rfl,dS ?_⟩⟩⟩;refine⟨_,λ_ _ z=>z,?_⟩;have g5:=G.g.mv m5;have G5:=G.trans g5;have B5:=B.go G.g g5;refine⟨_,rfl,.inl ⟨rfl,_,dy.of B5.at_⟩,_,rfl,rfl,_,rfl,?_⟩;dsimp only[hU];refine step j ws H5 _ G5 B5 aw aG (λd' e=>by rw[ao] at e;cases e;exact a4) _ λd' v' H6 aK G6 B6=>?_;rw[ao] at aK
     cases aK;refine⟨as.len - (j+1),by omega,j+1,ws++[v'],rfl,by omega,aG,?_,B6,by rw[Q01,aw];rfl,rfl⟩;rw[my kz,if_neg (by omega)];rw[show i+1+(iP ((as.eI (.dG fs)).take j)).length+1+(d.tk (.dG fs)).length=i+1+(iP ((as.eI (.dG fs)).take j)++([dn 44]++d.tk (.dG fs))).length by rw[Q01,Q01];show _=i+1+(_+(1+_));omega] at G6;exact G6
   . have ej:j=as.len:=by omega
     have et:(as.eI (.dG fs)).take j=as.eI (.dG fs):=Q1d (by rw[aL];omega);rw[et] at G;refine⟨_,rfl,r,dx,_,rfl,G.g.at_.ob,rfl,r,dx,l,us,qs,_,qe,"mark",",",rfl,G.g.at_,aB,.inr ⟨λz=>?_,_,rfl,dE ?_⟩⟩
     . have z2:=z.2;rw[e2] at z2;exact absurd z2 (by decide +kernel)
     refine⟨_,rfl,r,dx,_,rfl,G.g.at_.ob,rfl,_,rfl,r,dx,l,us,qs,_,qe,"]",rfl,G.g.at_,aB,⟨e1,e2.trans aD⟩,λH5 m5=>⟨_,rfl,?_⟩⟩;obtain⟨_,_,_,hc⟩:=aA ws H' G B (by omega);exact hc H5 m5
end
section
variable {P:Program}{w:World}{K:W.Frag}{mg:Str->Option Value}{base:Heap}
variable {C Pv:Addr}
theorem DG:d9 ["reader","kind","form"] Xb (dN (top 21)):=eG
theorem KN {c:Addr}(n:Nat)(T:Tb mg)(RD:iG K mg C az aE U ax aC ay aB J)(ap:Dn K mg "told_value" gQ (top 21) aq ab)(aH:ab.code=.ref c)(aK:W.CodeHd base c Pv)(aL:BM mg base)(Y:Dn K mg "told_record" kx (top 22) aj ak)(aa:dj P w K mg base dm (5 * n+6) aj ak kx (vc n C Pv))(ar:Dn K mg "told_tree" gQ (top 23) au av)(aw:dj P w K mg base dm (5 * n+9) au av gQ (pI (n+1) C Pv))(al:Dn K mg "told_either" kx (top 24) am an)(ao:dj P w K mg base dm (5 * n+6) am an kx (DA n C Pv))(ag:Dm K "taken" "Reader.taken" mf (dU 18 3) U ah)(ai:dj P w K mg base dm (1) U ah mf (uq C))(ac:Dm K "listed" "Reader.listed" uh (dU 18 8) J ae)
 (af:∀(kv:V) (c':Addr),pE P w K mg base ((5 * n+7)+1) J ae XG ((5 * n+6)+1) (vg n C Pv kv c') (DE n C Pv kv c')):dj P w K mg base dm ((5 * n+9)+1) aq ab gQ (mC (n+1) C Pv):=by
 have CT:=RD.ct;have aD:=RD.t;have aA:=RD.l;refine ap.F.AH aH DG (λvs H Q E h=>?_) (λA outer s H vs Q E hr h=>?_)
 . obtain⟨r,kv,dx,l,us,qs,i,k,d,rfl,_⟩:=h;rfl
 obtain⟨r,kv,dx,l,us,qs,i,k,d,rfl,R,hk,hW,hS,aG,hP,fin⟩:=h;have nd:=DG.nd;have hu:=sU hr
 refine⟨_,(dh (dI 2 nd (dR (pv 1) c_))
  (dh (dM (dQ eh (pv 2) dv (dP _)) (dq (dF (dJ aa hr Y (a_ (pv 0) (a_ (dR (pv 1) c_) b_))))) dO)
  (dh (dM (dQ eh (pv 2) dv (dP _)) (dq (dF (Kw (kb:=5 * n+6) (x:="inner") (N':=["","kind",""]) (te:=jq (vc n C Pv) [] E0 (fF (eV 0) (fF (gL (j8 K) (eV 2) (tC (.int 3))) hU))) (pv 0) CT aA (af kv) (hr.mono (by omega)) ac.b gd dv dv rfl rfl aK aL (ki.of (N:=["reader","kind","form"]) (sc:=dN (top 21)) rfl rfl rfl rfl rfl (by decide +kernel)) rfl (λ_ _ _ _ _=>rfl) (λ_ _ _ _ _ _ _ hr=>(dJ aa hr Y (a_ (pv 0) (a_ (dR (pv 2) c_) b_))))))) dO)
  (dh (dM (dQ eh (pv 2) dv (dP _)) (dq (dF (dJ aw hr ar (a_ (pv 0) (a_ (pv 1) b_))))) dO)
  (dh (dM (dQ eh (pv 2) dv (dP _)) (dq (dF (dJ ao hr al (a_ (pv 0) (a_ (dR (pv 1) c_) b_))))) dO)
  (dq (dF (gM (pv 0) CT aD ai (hr.mono (by omega)) ag.b .nil gd (a_ (pv 2) b_))))))))),?_⟩
 ac_rfl
 have inv:=hS.inv
 cases k with
 |num=>
  obtain⟨z,rfl,hz⟩:=inv;unfold KA at hk;obtain⟨a,rfl,ha⟩:=hk;unfold D.tk at hP fin;obtain⟨⟨q,hq,h1,h2⟩,_⟩:=eS.cons (t:=mq z) (us:=[]) hP;refine⟨_,rfl,a,_,_,_,rfl,rfl,du.of ha,rfl,_,rfl,rfl,_,rfl,?_⟩;rw[fB (by decide +kernel)];refine dE ⟨_,rfl,rfl,_,rfl,?_⟩;rw[fB (by decide +kernel)];refine dE ⟨_,rfl,rfl,_,rfl,?_⟩;rw[fB (by decide +kernel)];refine dE ⟨_,rfl,rfl,_,rfl,?_⟩;rw[fB (by decide +kernel)];refine dE ⟨_,rfl,r,dx,_,rfl,R.at_.ob,rfl,_,rfl,r,dx,l,us,qs,i,q,"number",rfl,R.at_,hq,by rw[h1];rfl,λH' m=>?_⟩;rw[h2];exact fin _ [] H' (R.mv m) (by unfold Own;exact⟨rfl,rfl⟩) λc hc=>(nomatch hc)
 |eM=>
  obtain⟨x,rfl,hx⟩:=inv;unfold KA at hk;obtain⟨a,rfl,ha⟩:=hk;unfold D.tk at hP fin;obtain⟨⟨q,hq,h1,h2⟩,_⟩:=eS.cons (t:=o6 (sl x)) (us:=[]) hP;refine⟨_,rfl,a,_,_,_,rfl,rfl,du.of ha,rfl,_,rfl,rfl,_,rfl,?_⟩;rw[fB (by decide +kernel)];refine dE ⟨_,rfl,rfl,_,rfl,?_⟩;rw[fB (by decide +kernel)];refine dE ⟨_,rfl,rfl,_,rfl,?_⟩;rw[fB (by decide +kernel)];refine dE ⟨_,rfl,rfl,_,rfl,?_⟩;rw[fB (by decide +kernel)];refine dE ⟨_,rfl,r,dx,_,rfl,R.at_.ob,rfl,_,rfl,r,dx,l,us,qs,i,q,"word",rfl,R.at_,hq,by rw[h1];rfl,λH' m=>?_⟩;have ex:q.th.V=.str x:=by rw[h2];show V.str (di (sl x))=_;rw[u3]
  rw[ex];exact fin _ [] H' (R.mv m) (by unfold Own;exact⟨rfl,rfl⟩) λc hc=>(nomatch hc)
 |dG fs=>
  obtain⟨m,rfl,hm⟩:=inv;unfold KA at hk;obtain⟨a,b,xs,rfl,ha,hb,aF⟩:=hk;unfold Kd.W at hW;unfold D.dep at aG;have em:(D.dct m).tk (.dG fs)=dn 123::(m.fY fs++[dn 125]):=by rw[D.tk]
  rw[em] at hP fin;refine⟨_,rfl,a,_,_,_,rfl,rfl,du.of ha,rfl,_,rfl,rfl,_,rfl,dS ?_⟩;refine⟨_,rfl,_,rfl,a,_,_,_,rfl,rfl,du.of ha,rfl,r,b,dx,l,us,qs,i,xs,fs,m,rfl,R,hb,aF,hW.1,hW.2.2,hW.2.1,hm,by omega,hP,λv fp H' G hO hf=>fin v fp H' ?_ hO hf⟩;simp only[Q02,Q01,Q0l];exact G
 |rows key aI fs=>
  obtain⟨as,rfl,aM⟩:=inv;unfold KA at hk;obtain⟨a,b,xs,rfl,ha,hb,aF⟩:=hk;unfold Kd.W at hW;unfold D.dep at aG;have em:(D.lst as).tk (.rows key aI fs)=dn 91::(as.er (.dG fs)++[dn 93]):=by rw[D.tk]
  rw[em] at hP fin;refine⟨_,rfl,a,_,_,_,rfl,rfl,du.of ha,rfl,_,rfl,rfl,_,rfl,?_⟩;rw[fB (by decide +kernel)];refine dE ⟨_,rfl,rfl,_,rfl,dS ?_⟩;refine⟨_,rfl,r,dx,_,rfl,R.at_.ob,rfl,R.lam,λc' H2 nR mono aN=>⟨λv H' Q' aO=>?_,λg hg=>?_⟩⟩
  . obtain⟨r',aP,l',aQ,aS,i',aT,fs',b',m,e,hK,R',aU,hm,aW,aX,q'⟩:=aO
    cases e;obtain⟨pk,a4,a5,ek,aY⟩:=hK.k;refine⟨aU.2,?_⟩;exact⟨_,rfl,_,rfl,pk,_,_,_,ek,rfl,du.of aY,rfl,r',b',aP,l',aQ,aS,i',aT,fs',m,rfl,R',hK.tu,hK.fa,hK.nd,hK.W,hK.le,hm,aW,aX,q'⟩
  . have tu:Tu H H2:=λc xs e=>mono c _ (λz=>by obtain⟨ps,hp⟩:=R.tb;rw[z,hp] at e;cases e) e;have aZ:=R.ne;have R2:Rg C r dx l Pv us qs i H2:=⟨⟨mono _ _ aZ R.at_.ob,mono _ _ (λz=>by obtain⟨ps,hp⟩:=R.tb;rw[<-z,R.at_.ls] at hp;cases hp) R.at_.ls,R.at_.pl.tu tu,R.at_.le⟩,.inr ⟨c',nR⟩⟩;have G0:Go C r dx l Pv us qs i H H2:=⟨λc o _ h2 e=>mono c o h2 e,R2,λaJ L=>by rw[aN aJ L];exact nR⟩;have hK:nI H (.ref a) xs fs b:=⟨⟨a,key,aI,rfl,ha⟩,hb,aF,hW.1,hW.2.2.1,hW.2.1⟩;refine⟨r,g,dx,l,us,qs,i,xs,fs,b,as,rfl,hK.mono tu,R2,nR,aM,by omega,hP,λv fp H' G hO hf=>?_⟩;refine fin v fp H' ?_ hO λc hc=>G0.jx R (hf c hc);simp only[Q02,Q01,Q0l];exact G0.trans G
 |tree k=>
  unfold KA at hk;obtain⟨a,u,rfl,ha,a1⟩:=hk;have a2:k.W:=by unfold Kd.W at hW;exact hW
  refine⟨_,rfl,a,_,_,_,rfl,rfl,du.of ha,rfl,_,rfl,rfl,_,rfl,?_⟩;rw[fB (by decide +kernel)];refine dE ⟨_,rfl,rfl,_,rfl,?_⟩;rw[fB (by decide +kernel)];exact dE ⟨_,rfl,rfl,_,rfl,dS ⟨_,rfl,_,rfl,r,a,dx,l,us,qs,i,u,k,d,rfl,R,ha,a1,a2,hS,aG,hP,fin⟩⟩
 |eR fs=>
  obtain⟨y,z,x,vd,rfl,hx,a3⟩:=inv;unfold KA at hk;obtain⟨a,b,xs,rfl,ha,hb,aF⟩:=hk;unfold Kd.W at hW;rw[rn] at hP fin;simp only[D.dep,Ds.dep] at aG;refine⟨_,rfl,a,_,_,_,rfl,rfl,du.of ha,rfl,_,rfl,rfl,_,rfl,?_⟩;rw[fB (by decide +kernel)];refine dE ⟨_,rfl,rfl,_,rfl,?_⟩;rw[fB (by decide +kernel)];refine dE ⟨_,rfl,rfl,_,rfl,?_⟩;rw[fB (by decide +kernel)];refine dE ⟨_,rfl,rfl,_,rfl,dS ?_⟩;refine⟨_,rfl,_,rfl,a,_,_,_,rfl,rfl,du.of ha,rfl,r,b,dx,l,us,qs,i,xs,fs,y,z,x,vd,rfl,R,hb,aF,hW.1,hW.2.2.2,hW.2.1,hx,a3,by omega,hP,λv fp H' G hO hf=>fin v fp H' ?_ hO hf⟩;simp only[Q02,Q01,Q0l];rw[show(vd.tk ((fs.get x).getD .num)).length+(0+1)+1+1=(vd.tk ((fs.get x).getD .num)).length+3 by omega];exact G
theorem DH {c:Addr}(T:Tb mg)(RD:iG K mg C aw an ao ah al ai ax am)(ab:Dn K mg "told_value" gQ (top 21) ap aj)(aC:aj.code=.ref c)(aK:W.CodeHd base c Pv)(aL:BM mg base)(ae:Dn K mg "told_record" kx (top 22) aD aE)(ag:Dn K mg "told_tree" gQ (top 23) aq ar)(af:Dn K mg "told_either" kx (top 24) aF aG)(ak:Dn K mg "kind_at" lu (top 5) aI aJ)(Y:Dm K "taken" "Reader.taken" mf (dU 18 3) ao aA)(L:Dm K "taken_among" "Reader.taken_among" mh (dU 18 4) ah au)(aa:Dm K "is_at" "Reader.is_at" gY (dU 18 1) an aB)(U:Dm K "passed" "Reader.passed" gY (dU 18 5) al ay)(J:Dm K "pass_mark" "Reader.pass_mark" jP (dU 18 6) ai av)(ac:Dm K "listed" "Reader.listed" uh (dU 18 8) am az):∀n:Nat,dj P w K mg base dm (5 * n+5) ap aj gQ (mC n C Pv)/\dj P w K mg base dm (5 * n+4) aq ar gQ (pI n C Pv)
 |0=>by
  have n1:∀vs H Q E,¬mC 0 C Pv vs H Q E:=λvs H Q E ⟨r,kv,dx,l,us,qs,i,k,d,_,_,_,_,_,hd,_⟩=>absurd d.gB (by omega);have n2:∀vs H Q E,¬pI 0 C Pv vs H Q E:=λvs H Q E ⟨r,a,dx,l,us,qs,i,u,k,d,_,_,_,_,_,_,hd,_⟩=>absurd d.gB (by omega);exact⟨⟨λvs H Q E h=>absurd h (n1 vs H Q E),λA outer s H args us vs Q E _ _ _ _ h=>absurd h (n1 vs H Q E)⟩,⟨λvs H Q E h=>absurd h (n2 vs H Q E),λA outer s H args us vs Q E _ _ _ _ h=>absurd h (n2 vs H Q E)⟩⟩
 |n+1=>by
  obtain⟨V_,T_⟩:=DH T RD ab aC aK aL ae ag af ak Y L aa U J ac n;have TK:=ID (P:=P) (w:=w) (base:=base) T RD Y;have AM:=IF T RD L Y TK;have IA:=Bp (P:=P) (w:=w) (base:=base) T RD aa;have aH:=IH T RD U aa IA;have PM:=IJ T RD J U aH;have aN:=CI (P:=P) (w:=w) (base:=base) T ak;have aO:=KD n T RD ae ab V_ J PM L AM;have aM:=KH n T RD ag T_ ab V_ J PM U aH;have aP:=KJ n T RD af ab V_ ak aN J PM L AM;have LS:=λkv c'=>KL (Pv:=Pv) n T RD ac aa IA U aH J PM kv c';exact⟨KN n T RD ab aC aK aL ae aO ag aM af aP Y TK ac LS,aM⟩
end
def DJ (n:Nat) (Pv:Addr):Sp:=λvs H Q _=>∃J k d,∃zs:List (Nat × Tk),∃L:Nat,vs=[J,SX (spread zs L)]/\KA H J k/\k.W/\eA d k/\d.dep<=n/\zs.map (·.2)=tks (d.tk k)/\(spread zs L).length<=100000/\d_ Pv i5 i6 H/\
 ∀v fp H',Kp (λc=>c=Pv) H H'->d_ Pv i5 i6 H'->Own H' v d fp->(∀c∈fp,H c=none)->Q v H'
section
variable {P:Program}{w:World}{K:W.Frag}{mg:Str->Option Value}{base:Heap}
variable {C Pv:Addr}
theorem KO:d9 ["kind","text","reader","value"] ["kind","text"] (dN (top 20)):=eG
theorem KP (n:Nat)(T:Tb mg)(RD:iG K mg C J av aw am aq ao L ar)(af:Dn K mg "read_value" q9 (top 20) ag ah)(ai:Dn K mg "told_value" gQ (top 21) aj ak)(al:dj P w K mg base dm (5 * n+5) aj ak gQ (mC n C Pv))(U:Dm K "__init__" "Reader.__init__" qX (dU 18 0) J Y)(aa:dj P w K mg base dm (5) J Y qX (Bk C))(ab:Dm K "ask_end" "Reader.ask_end" ["self"] (dU 18 7) L ac)(ae:dj P w K mg base dm (2) L ac ["self"] (Bo C)):dj P w K mg base dm ((5 * n+7)+1) ag ah q9 (DJ n Pv):=by
 have CT:=RD.ct;have an:=RD.e;have ap:=RD.Ir;have au:=RD.m;refine af.F.ok KO λvs H Q E h=>?_;obtain⟨kv,k,d,zs,jj,rfl,hk,hW,hS,aA,ax,aB,hT,fin⟩:=h;refine⟨rfl,λaG A outer s nd hr hu=>?_⟩
 refine⟨_,(dh (dI 2 nd (FE ap aa (hr.mono (by omega)) rfl au U.b .nil gd (a_ (pv 1) b_)))
  (dh (dI 3 nd (dJ al hr ai (a_ (pv 2) (a_ (pv 0) b_))))
  (dh (fC (FC (pv 2) CT an ae (hr.mono (by omega)) ab.b .nil gd))
  (dq (dF (pv 3)))))),?_⟩
 ac_rfl
 have gp:=D.gp hS hW
 have aC:∀t∈zs,lA t.2:=λt ht=>by
  have:t.2∈tks (d.tk k):=by rw[<-ax];exact List.mem_map.mpr ⟨t,ht,rfl⟩
  obtain⟨p,hp,e⟩:=List.mem_map.mp this;rw[<-e];exact(gp.1 p hp).1.ok
 obtain⟨ay,qe,az,e1,e2⟩:=Bu zs jj 0 aC (B4 zs _ ax gp.2);rw[ax] at ay
 have aD:zs.length=(d.tk k).length:=by
  have:=congrArg List.length ax;rw[Q0b,Q0b] at this;exact this
 refine⟨_,rfl,λx dx hx aE aH=>?_⟩;have t1:Same H (upd (upd H dx (.own x)) x (.ins C dx [])):=λc o e=>by rw[dg (dA e hx),dg (dA e aE)];exact e
 have i1:=dw (H:=upd H dx (.own x)) (a:=x) (o:=.ins C dx []);generalize upd (upd H dx (.own x)) x (.ins C dx [])=H1 at t1 i1 ⊢;refine⟨x,dx,spread zs jj,rfl,aB,i1,λl us H2 k2 R2=>⟨rfl,?_⟩⟩;have s2:Same H H2:=λc o e=>k2 c o (dA e hx) (t1 _ _ e);have aF:Rg C x dx l Pv us (gy iv 0 (spread zs jj)) 0 H2:=⟨R2,hT.same s2⟩;refine⟨_,rfl,_,rfl,x,kv,dx,l,us,_,0,k,d,rfl,aF,KA.mono (Tu.of s2) k hk,hW,hS,aA,ay,λv fp H3 g3 ho hf=>?_⟩;rw[Q22] at g3;rw[aD] at az;refine⟨_,rfl,x,dx,_,rfl,g3.g.at_.ob,rfl,x,dx,l,us,_,_,qe,rfl,g3.g.at_,az,⟨by rw[e1];rfl,by rw[e2];rfl⟩,?_⟩;refine⟨_,rfl,fin v fp H3 (λc o hc e=>g3.kr c o (dA e hx) hc (s2 _ _ e)) g3.g.lam ho λc hc=>?_⟩;exact kW s2 (hf c hc)
end
end Pb
namespace L2
open Spec PyProof.Rows
noncomputable def vh (a:Addr) (o:Obj) (kvs:List (Key × V)):It:=
 ⟨λi H=>i<kvs.length/\H a=some (.fb o (.dK kvs)),λi H x H'=>H'=H/\∃p,kvs[i]? =some p/\x=kV p.1,λi H=>kvs.length<=i/\H a=some (.fb o (.dK kvs))⟩
theorem DK:∀{kvs:List (Key × V)}{vs:List (Key × Value)}{i:Nat}{p:Key × V},KV kvs vs->kvs[i]? =some p->∃v,vs[i]? =some (p.1,v)
 |_,_,i,p,.nil,h=>by simp at h
 |_,_,0,p,.cons (b:=b) h t,e=>by
  have e:=Option.some.inj (show some _=some p from e);subst e;exact⟨b.2,by show some b=_;rw[h.1]⟩
 |_,_,i+1,p,.cons h t,e=>DK (i:=i) t e
theorem KQ {P:Program}{w:World}{k:Key}{u:Value}(h:(ic P w).is k u=true):RelV (kV k) u:=by
 have h:lL k u=true:=h;rcases jY h with⟨i,t,rfl,rfl⟩|⟨x,t,rfl,rfl⟩
 . exact⟨t,rfl⟩
 . exact⟨t,rfl⟩
theorem KS {P:Program}{w:World}{K:W.Frag}{tg:Expr}{a it:Addr}{o:Obj}{kvs:List (Key × V)}{vs:List (Key × Value)}{ep:Nat}(Y:KV kvs vs)(ha:∀h:Heap,h.get? a=some o->h.DictAt (ic P w) a vs ep):
 Turn P w K tg (vh a o kvs) [it] it (λi h=>h.IsKeyIter it a i vs.length ep) where
 mem:=by simp
 obj:=λi h st b J=>by
  have e:b=it:=by simpa using J
  subst e;obtain⟨o,e,c,d⟩:=st;exact⟨o,e,λv z=>by rw[d] at z;cases z⟩
 keep:=λi h h' st k=>st.at λo e=>k it (by simp) o e
 item:=by
  intro X hP hw hK hc i pins s σ H E I hf st hg;subst hP hw hK;obtain⟨hi,L⟩:=hg;obtain⟨U,_⟩:=I.hok a _ L;have hp:kvs[i]? =some kvs[i]:=Q0a hi;obtain⟨v,hv⟩:=DK Y hp;obtain⟨f0,f1,f2,f3,f4,f5⟩:=hf it (by simp);refine wpAny_pyNext_dict_item st (ha _ U) hv λkey h' hk aa sb=>?_;have I1:Inv X pins σ H { s with heap:=h' }:=I.turned (t':=s.toks) (λb o J e=>(sb.2 b J).trans e) f0 f1 f3 f4 f5;obtain⟨o,e,c,d⟩:=id aa;exact⟨key,rfl,nY (s:={ s with heap:=h' }) e c d (by decide) ⟨kV kvs[i].1,H,I1,KQ hk,⟨rfl,_,hp,rfl⟩,aa,λb J=>(hf b J).1⟩⟩
 done:=by
  intro X hP hw hK hc i pins s σ H E I hf st hg;subst hP hw hK;obtain⟨hi,L⟩:=hg;obtain⟨U,_⟩:=I.hok a _ L;obtain⟨f0,f1,f2,f3,f4,f5⟩:=hf it (by simp);have hl:=Paired.length Y;exact wpAny_pyNext_dict_end (I.ok.hd hc) st (ha _ U) (Q3e (by omega)) λh' eb=>⟨rfl,I.turned (t':=s.toks) (λb o J e=>eb b o J e) f0 f1 f3 f4 f5⟩
 self:=λ_ _ _ _ _ st h=>wpAny_pyIter_keyiter st h
section
variable {X:Cx}{tg:Expr}
def rP (J:Hp) (a:Addr):Prop:=∀o u,J a≠some (.fb o u)
def DL (J:Hp) (tl:TE):TI:=λσ H R=>tl σ H λx H1=>∃a kvs,x=.ref a/\H1 a=some (.dK kvs)/\∀o,rP J a->R (vh a o kvs) (upd H1 a (.fb o (.dK kvs)))
theorem Inv.freeze {pins:List (Addr × Obj)}{σ:St}{H:Hp}{s:Shared}{a:Addr}{kvs:List (Key × V)}(I:Inv X pins σ H s)(h:H a=some (.dK kvs)):
 ∃o vs U,KV kvs vs/\(a == sysModules)=false/\s.heap.get? a=some o/\(∀h:Heap,h.get? a=some o->h.DictAt (ic X.prog X.w) a vs U)/\rP X.H₀ a/\Inv X pins σ (upd H a (.fb o (.dK kvs))) s:=by
 obtain⟨z,Y,vs,L,o,es,U,e1,e2⟩:=id (I.hok a _ h);refine⟨o,vs,U,L,Y,e1,λh' e=>⟨o,es,e,e2⟩,λo' u J=>?_,?_⟩
 . have:=I.base.ji a o' u J;rw[h] at this;cases this
 . have u:Un X.fs [] H (upd H a (.fb o (.dK kvs))) s.heap s.heap:=Un.write (x:=a) (e:=a) (by rw[h];trivial) (.inl rfl) (λb u _ q=>q) ⟨o,e1⟩;refine I.un (t':=s.toks) u λb v e=>?_;by_cases hb:b=a
   . subst hb;rw[dw] at e
     cases e;exact⟨e1,z,Y,vs,L,o,es,U,e1,e2⟩
   . rw[dg hb] at e;exact(I.hok b v e).stay (λc w _ q=>q) (λc q=>by rw[dg (λJ=>by rw[J,h] at q;cases q)];exact q) λc xs q=>by rw[dg (λJ=>by rw[J,h] at q;cases q)];exact q
theorem Inv.KU {pins:List (Addr × Obj)}{σ:St}{H:Hp}{s:Shared}{a:Addr}{o:Obj}{kvs:List (Key × V)}(I:Inv X pins σ H s)(h:H a=some (.fb o (.dK kvs)))(hz:rP X.H₀ a):Inv X pins σ (upd H a (.dK kvs)) s:=by
 have L:∀{b:Addr},H b=none->upd H a (.dK kvs) b=none:=λ{b} e=>by rw[dg (λz=>by rw[z,h] at e;cases e)];exact e
 refine⟨I.ok,I.os,I.bare,⟨I.base.keep,I.base.slot,λb u q n hx=>L (I.base.free b u q n hx),I.base.there,λb xs q=>?_,λb o' u q=>?_,λb ps q=>?_⟩,I.loc,I.cell,L I.free,λx c e=>L (I.iM x c e),λp hp=>?_,λb v e=>?_,I.len⟩
 . have:=I.base.tups b xs q;rw[dg (λz=>by rw[z,h] at this;cases this)];exact this
 . have:=I.base.ji b o' u q;rw[dg (λz=>hz o' u (by rw[<-z];exact q))];exact this
 . obtain⟨J,this⟩:=I.base.jF b ps q;exact⟨J,by rw[dg (λz=>by rw[z,h] at this;cases this)];exact this⟩
 . obtain⟨p1,p2,p3⟩:=I.pin p hp;exact⟨p1,L p2,p3⟩
 . by_cases Y:b=a
   . subst Y;rw[dw] at e
     cases e;exact(I.hok b _ h).2
   . rw[dg Y] at e;exact(I.hok b v e).stay (λc w _ q=>q) (λc q=>by rw[dg (λU=>by rw[U,h] at q;cases q)];exact q) λc xs q=>by rw[dg (λU=>by rw[U,h] at q;cases q)];exact q
theorem KW {l:Expr}{tl:TE}(hl:PE X l tl):PI X tg l (DL X.H₀ tl):=by
 intro pins s σ H R I h;refine dD (hl pins s σ H _ I h) λv L zq=>?_;obtain⟨x,H1,I1,r1,q1⟩:=zq;obtain⟨a,kvs,e,hq,q⟩:=q1;subst e
 cases r1;obtain⟨o,vs,ep,Y,hs,aa,J,hz,U⟩:=I1.freeze hq;refine wpAny_pyIter_dict hs (J _ aa) ?_;refine⟨L.heap.objs.size,[L.heap.objs.size],_,_,upd H1 a (.fb o (.dK kvs)),rfl,U.kept (t':=L.toks) λb o e=>Q04 _ e,KS Y J,⟨_,Q0f _ rfl,rfl,rfl⟩,λb hb=>?_,q o hz⟩;have e:b=L.heap.objs.size:=by simpa using hb
 subst e;exact U.jI (Q00 _) (U.hok.fresh (Q00 _))
theorem DM {J:Hp}(L:X.H₀=J){l:Expr}{tl:TE}(hl:PE X l tl):PI X tg l (DL J tl):=by
 subst L;exact KW hl
def KY (J:Hp) (t:TE):TE:=λσ H Q=>t σ H λv H'=>∃a o kvs,rP J a/\H' a=some (.fb o (.dK kvs))/\Q v (upd H' a (.dK kvs))
theorem DN {L:Hp}(U:X.H₀=L){e:Expr}{t:TE}(h:PE X e t):PE X e (KY L t):=by
 subst U;intro pins s σ H Q I q;refine dD (h pins s σ H _ I q) λv s1 zq=>?_;obtain⟨x,H1,Y,r1,J⟩:=zq;obtain⟨a,o,kvs,hz,ha,J⟩:=J;exact⟨x,_,Y.KU ha hz,r1,J⟩
end
end L2
namespace PySem
namespace F
end F
namespace F
end F
open PyProof.Rows
section
variable {prog:Program}{w:World}{A:Around}{E:Value->Shared->Prop}{s:Shared}
end
section
variable {prog:Program}{w:World}{A:Around}{E:Value->Shared->Prop}{s:Shared}
end
end PySem
namespace L2
open PyProof.Rows
section
variable {X:Cx}{e:Expr}{te:TE}{p p2 pos pos2:Pos}
end
end L2
namespace L2
open Spec PyProof.Rows
section
variable {prog:Program}{w:World}{A:Around}{E:Value->Shared->Prop}{s:Shared}
theorem iL {h h':Heap}{it a c:Addr}{i:Nat}(x:h.IsTupleIter it a i)(k:Heap.ExtBut c h h')(n:it≠c):h'.IsTupleIter it a i:=let⟨o,J,r⟩:=x;⟨o,k _ _ n J,r⟩
theorem k4 {h h':Heap}{a c:Addr}{vs:Array Value}(x:h.IsTuple a vs)(k:Heap.ExtBut c h h')(n:a≠c):h'.IsTuple a vs:=let⟨o,J,r⟩:=x;⟨o,k _ _ n J,r⟩
theorem KZ {z TI TO U Y l1 l2:Addr}{k:Nat}{xs ys:Array Value}{x y a b:Value}{Q:Value->Shared->Prop}(D:ZipApart z TI TO U Y l1 l2)
 (hz:IsZip s.heap z TI TO .none) (aa:IsPair s.heap TI (.ref U) (.ref Y)) (ab:IsPair s.heap TO a b)
 (h1:s.heap.IsTupleIter U l1 k) (h2:s.heap.IsTupleIter Y l2 k) (g1:s.heap.IsTuple l1 xs) (g2:s.heap.IsTuple l2 ys) (hx:xs[k]? =some x) (hy:ys[k]? =some y)
 (hQ:∀h',IsZip h' z TI TO (rawInt s.heap.objs.size)->IsPair h' TO x y->h'.IsTupleIter U l1 (k+1)->h'.IsTupleIter Y l2 (k+1)->IsPair h' s.heap.objs.size x y->
   (∀c o,c≠z->c≠TO->c≠U->c≠Y->s.heap.get? c=some o->h'.get? c=some o)->Q (.ref s.heap.objs.size) { s with heap:=h' }):
 wpAny (model prog w) A (Builtin.«zip.__next__» ⟨[.ref z],[]⟩) (λfin s'=>∃v,fin=.done (.ret v)/\Q v s') E s:=by
 show wpAny _ _ (field (.ref z) 2 >>= _) _ _ _;refine Q0 (wpAny_field hz rfl (x:=.bool false) rfl ?_);show wpAny _ _ (field (.ref z) 3 >>= _) _ _ _;refine Q0 (wpAny_field hz rfl (x:=.ref TI) rfl ?_);refine Q0 (wpAny_seqItems aa rfl ?_);show wpAny _ _ (Builtin.SmallTypes.ownedTupleIsFree (.ref z) >>= _) _ _ _;refine Q0 ?_;unfold Builtin.SmallTypes.ownedTupleIsFree;refine Q0 (wpAny_field hz rfl (x:=.none) rfl (Q08 ?_));simp only[if_true];refine Q0 (wpAny_rule ?_);refine Q0 (wpAny_field hz rfl (x:=.ref TO) rfl ?_);refine Q0 (wpAny_setField_rec hz (by simp) λha za sa=>?_)
 have za:IsZip ha z TI TO .ellipsis:=za
 refine Q0 ?_;simp only[Q3p,Q3q,Q1k,Q3r];refine Q0 (Q0 (wpAny_onRaise ?_));show wpAny _ _ (Builtin.SmallTypes.nextOf (.ref U) >>= _) _ _ _;refine Q0 (rF (iL h1 sa.extBut D.i1z) (k4 g1 sa.extBut D.l1z) hx λhb b1 sb=>Q08 ?_);have tb:IsPair hb TO a b:=sb.extBut _ _ D.TOi1 (sa.extBut _ _ D.TOz ab);refine Q0 (wpAny_seqItems tb rfl ?_);refine Q0 (wpAny_updateSeq_pair tb λhc tc sc=>?_)
 have tc:IsPair hc TO x b:=tc
 refine Q0 (wpAny_letGo (Q08 ?_));refine Q0 (Q0 (wpAny_onRaise ?_));show wpAny _ _ (Builtin.SmallTypes.nextOf (.ref Y) >>= _) _ _ _;refine Q0 (rF (iL (iL (iL h2 sa.extBut D.i2z) sb.extBut D.i12.symm) sc.extBut D.TOi2.symm) (k4 (k4 (k4 g2 sa.extBut D.l2z) sb.extBut D.l2i1) sc.extBut D.l2TO) hy λhd d2 sd=>Q08 ?_);have td:IsPair hd TO x b:=sd.extBut _ _ D.TOi2 tc;refine Q0 (wpAny_seqItems td rfl ?_);refine Q0 (wpAny_updateSeq_pair td λL te se=>?_)
 have te:IsPair L TO x y:=te
 refine Q0 (wpAny_letGo (Q08 (Q08 ?_)));refine Q0 (wpAny_seqItems te rfl ?_);refine Q0 (wpAny_newTuple ?_);have sz:L.objs.size=s.heap.objs.size:=by rw[se.1,sd.1,sc.1,sb.1,sa.1]
 have ze:IsZip L z TI TO .ellipsis:=se.extBut _ _ D.TOz.symm (sd.extBut _ _ D.i2z.symm (sc.extBut _ _ D.TOz.symm (sb.extBut _ _ D.i1z.symm za)));have ke:∀c o,c≠z->c≠TO->c≠U->c≠Y->s.heap.get? c=some o->L.get? c=some o:=λc o c1 c2 c3 c4 q=>se.extBut _ _ c2 (sd.extBut _ _ c4 (sc.extBut _ _ c2 (sb.extBut _ _ c3 (sa.extBut _ _ c1 q))));have e1:L.IsTupleIter U l1 (k+1):=iL (iL (iL b1 sc.extBut D.TOi1.symm) sd.extBut D.i12) se.extBut D.TOi1.symm;have e2:L.IsTupleIter Y l2 (k+1):=iL d2 se.extBut D.TOi2.symm;have zl:z<L.objs.size:=Q03 ze;show wpAny _ _ (Builtin.SmallTypes.ownedTupleHandOut (.ref z) (.ref L.objs.size) >>= _) _ _ _;refine Q0 ?_;unfold Builtin.SmallTypes.ownedTupleHandOut;have zf:IsZip (L.push { cls:=.type "tuple",data:=.seq #[x,y] }) z TI TO .ellipsis:=Q04 _ ze;refine Q0 (wpAny_setField_rec zf (by simp) λhg zg sg=>?_)
 have zg:IsZip hg z TI TO (rawInt L.objs.size):=zg
 refine wpAny_setField_rec zg (by simp) λhh zh sh=>?_
 have zh:IsZip hh z TI TO (rawInt L.objs.size):=zh
 have up:∀c o,c≠z->L.get? c=some o->hh.get? c=some o:=λc o c1 q=>sh.extBut _ _ c1 (sg.extBut _ _ c1 (Q04 _ q));have pr:IsPair hh L.objs.size x y:=sh.extBut _ _ (Q0r zl) (sg.extBut _ _ (Q0r zl) (Q0f _ rfl));rw[sz] at zh pr;refine Q08 ⟨_,rfl,?_⟩;show Q (.ref L.objs.size) _;rw[sz];exact hQ hh zh (up _ _ D.TOz te) (let⟨o,ho,r⟩:=e1;⟨o,up _ _ D.i1z ho,r⟩) (let⟨o,ho,r⟩:=e2;⟨o,up _ _ D.i2z ho,r⟩) pr λc o c1 c2 c3 c4 q=>up c o c1 (ke c o c1 c2 c3 c4 q)
theorem K0 {z TI TO U Y l1 l2:Addr}{k:Nat}{xs ys:Array Value}{a b:Value}{Q:Fin->Shared->Prop}(h0:A.handled=none)(D:ZipApart z TI TO U Y l1 l2)
 (hz:IsZip s.heap z TI TO .none) (ac:IsPair s.heap TI (.ref U) (.ref Y)) (ae:IsPair s.heap TO a b)
 (h1:s.heap.IsTupleIter U l1 k) (h2:s.heap.IsTupleIter Y l2 k) (g1:s.heap.IsTuple l1 xs) (g2:s.heap.IsTuple l2 ys) (aa:xs[k]? =none\/ys[k]? =none)
 (hE:∀h' e,(∀c o,c≠z->c≠TO->c≠U->c≠Y->s.heap.get? c=some o->h'.get? c=some o)->(∃o,h'.get? e=some o/\o.cls=.type "StopIteration")->E (.ref e) { s with heap:=h' }):
 wpAny (model prog w) A (Builtin.«zip.__next__» ⟨[.ref z],[]⟩) Q E s:=by
 show wpAny _ _ (field (.ref z) 2 >>= _) _ _ _;refine Q0 (wpAny_field hz rfl (x:=.bool false) rfl ?_);show wpAny _ _ (field (.ref z) 3 >>= _) _ _ _;refine Q0 (wpAny_field hz rfl (x:=.ref TI) rfl ?_);refine Q0 (wpAny_seqItems ac rfl ?_);show wpAny _ _ (Builtin.SmallTypes.ownedTupleIsFree (.ref z) >>= _) _ _ _;refine Q0 ?_;unfold Builtin.SmallTypes.ownedTupleIsFree;refine Q0 (wpAny_field hz rfl (x:=.none) rfl (Q08 ?_));simp only[if_true];refine Q0 (wpAny_rule ?_);refine Q0 (wpAny_field hz rfl (x:=.ref TO) rfl ?_);refine Q0 (wpAny_setField_rec hz (by simp) λha za J=>?_)
 have za:IsZip ha z TI TO .ellipsis:=za
 refine Q0 ?_;simp only[Q3p,Q3q,Q1k,Q3r];refine Q0 (Q0 (wpAny_onRaise ?_));show wpAny _ _ (Builtin.SmallTypes.nextOf (.ref U) >>= _) _ _ _
 cases hx:xs[k]? with
 |none=>
  refine Q0 (u4 h0 (iL h1 J.extBut D.i1z) (k4 g1 J.extBut D.l1z) hx λhb e sb he=>?_);obtain⟨oe,L,q2⟩:=he;have zb:IsZip hb z TI TO .ellipsis:=sb _ _ D.i1z.symm za;have ez:e≠z:=λv=>by subst v;rw[zb] at L;cases L;simp at q2
  exact wpAny_setField_rec zb (by simp) λhc _ sc=>hE hc e (λc o c1 _ c3 _ v=>sc.extBut _ _ c1 (sb _ _ c3 (J.extBut _ _ c1 v))) ⟨oe,sc.extBut _ _ ez L,q2⟩
 |some x=>
  have hy:ys[k]? =none:=by rcases aa with v|v;rw[hx] at v;cases v;exact v
  refine Q0 (rF (iL h1 J.extBut D.i1z) (k4 g1 J.extBut D.l1z) hx λhb b1 sb=>Q08 ?_);have tb:IsPair hb TO a b:=sb.extBut _ _ D.TOi1 (J.extBut _ _ D.TOz ae);refine Q0 (wpAny_seqItems tb rfl ?_);refine Q0 (wpAny_updateSeq_pair tb λhc tc sc=>?_);refine Q0 (wpAny_letGo (Q08 ?_));refine Q0 (Q0 (wpAny_onRaise ?_));show wpAny _ _ (Builtin.SmallTypes.nextOf (.ref Y) >>= _) _ _ _;refine Q0 (u4 h0 (iL (iL (iL h2 J.extBut D.i2z) sb.extBut D.i12.symm) sc.extBut D.TOi2.symm) (k4 (k4 (k4 g2 J.extBut D.l2z) sb.extBut D.l2i1) sc.extBut D.l2TO) hy λhd e sd he=>?_);obtain⟨oe,L,q2⟩:=he;have zd:IsZip hd z TI TO .ellipsis:=sd _ _ D.i2z.symm (sc.extBut _ _ D.TOz.symm (sb.extBut _ _ D.i1z.symm za));have ez:e≠z:=λv=>by subst v;rw[zd] at L;cases L;simp at q2
  exact wpAny_setField_rec zd (by simp) λhg _ sg=>hE hg e (λc o c1 c2 c3 c4 v=>sg.extBut _ _ c1 (sd _ _ c4 (sc.extBut _ _ c2 (sb.extBut _ _ c3 (J.extBut _ _ c1 v))))) ⟨oe,sg.extBut _ _ ez L,q2⟩
theorem K1 {z TI TO J L U Y:Addr}{k:Nat}{xs ys:Array Value}{x y a b:Value}{Q:Option Value->Shared->Prop}(D:ZipApart z TI TO J L U Y)
 (hz:IsZip s.heap z TI TO .none) (aa:IsPair s.heap TI (.ref J) (.ref L)) (ab:IsPair s.heap TO a b)
 (h1:s.heap.IsTupleIter J U k) (h2:s.heap.IsTupleIter L Y k) (g1:s.heap.IsTuple U xs) (g2:s.heap.IsTuple Y ys) (hx:xs[k]? =some x) (hy:ys[k]? =some y)
 (hQ:∀h',IsZip h' z TI TO (rawInt s.heap.objs.size)->IsPair h' TO x y->h'.IsTupleIter J U (k+1)->h'.IsTupleIter L Y (k+1)->IsPair h' s.heap.objs.size x y->
   (∀c o,c≠z->c≠TO->c≠J->c≠L->s.heap.get? c=some o->h'.get? c=some o)->Q (some (.ref s.heap.objs.size)) { s with heap:=h' }):
 wpAny (model prog w) A (pyNext (.ref z)) Q E s:=by
 have hT:s.TypeIs (.ref z) "zip":=⟨_,hz,rfl⟩;unfold pyNext;exact Q0 (wpAny_attempt (wpAny_callSpecial?_slot (name:=Str.ofString "__next__") hT F.slot_zip_next (wpAny_call_entry F.slot_zip_next hT F.entry_zip_next (KZ D hz aa ab h1 h2 g1 g2 hx hy λh' a1 a2 a3 a4 a5 a6=>Q08 (hQ h' a1 a2 a3 a4 a5 a6)) (F.args_zip_next_1 _))))
theorem K2 {z TI TO L U Y l2:Addr}{k:Nat}{xs ys:Array Value}{a b:Value}{Q:Option Value->Shared->Prop}(h0:A.handled=none)(D:ZipApart z TI TO L U Y l2)
 (hz:IsZip s.heap z TI TO .none) (aa:IsPair s.heap TI (.ref L) (.ref U)) (ab:IsPair s.heap TO a b)
 (h1:s.heap.IsTupleIter L Y k) (h2:s.heap.IsTupleIter U l2 k) (g1:s.heap.IsTuple Y xs) (g2:s.heap.IsTuple l2 ys) (J:xs[k]? =none\/ys[k]? =none)
 (hQ:∀h',(∀c o,c≠z->c≠TO->c≠L->c≠U->s.heap.get? c=some o->h'.get? c=some o)->Q none { s with heap:=h' }):wpAny (model prog w) A (pyNext (.ref z)) Q E s:=by
 have hT:s.TypeIs (.ref z) "zip":=⟨_,hz,rfl⟩;unfold pyNext;refine Q0 (wpAny_attempt (wpAny_callSpecial?_slot (name:=Str.ofString "__next__") hT F.slot_zip_next (wpAny_call_entry F.slot_zip_next hT F.entry_zip_next (K0 h0 D hz aa ab h1 h2 g1 g2 J λh' e hk he=>?_) (F.args_zip_next_1 _))));obtain⟨o,ho,hc⟩:=he;exact Q0 (wpAny_isInstance (T:="StopIteration") (b:=true) ⟨o,ho,hc⟩ isSubtype_stop (Q08 (hQ _ hk)))
noncomputable abbrev rQ (h:Heap) (J:Addr):Heap:=h.push { cls:=.type "tuple_iterator",data:=.fields #[.ref J,.int 0 0] }
noncomputable abbrev rR (h:Heap) (J L:Addr):Heap:=(rQ h J).push { cls:=.type "tuple_iterator",data:=.fields #[.ref L,.int 0 0] }
noncomputable abbrev rS (h:Heap) (J L:Addr):Heap:=(rR h J L).push { cls:=.type "tuple",data:=.seq #[.ref h.objs.size,.ref (rQ h J).objs.size] }
noncomputable abbrev rT (h:Heap) (J L:Addr):Heap:=(rS h J L).push { cls:=.type "tuple",data:=.seq #[.none,.none] }
noncomputable abbrev nJ (h:Heap) (J L:Addr):Heap:=(rT h J L).push { cls:=.type "zip",data:=.fields #[.none,.bool false,.bool false,.ref (rR h J L).objs.size,.ref (rS h J L).objs.size] }
theorem K3 (J L:Addr)(xs ys:Array Value):Meets (Builtin.«zip.__new__» ⟨[.type "zip",.ref J,.ref L],[]⟩) (λ_ R s=>s.heap.IsTuple J xs/\s.heap.IsTuple L ys/\R (.ok (.ret (.ref (rT s.heap J L).objs.size))) { s with heap:=nJ s.heap J L }):=
 .of_wp λprog w A R s h=>by
   obtain⟨hp,g,d,tk,os⟩:=s;obtain⟨Y,t2,h⟩:=h;have U:=sub_zip;have L1:Heap.IsTuple (Shared.heap ⟨hp,g,d,tk,os⟩) J xs:=Y;have L2:Heap.IsTuple (Shared.heap ⟨hp.push { cls:=.type "tuple_iterator",data:=.fields #[.ref J,.int 0 0] },g,d,tk,os⟩) L ys:=let⟨o,ho,r⟩:=t2;⟨o,Q04 _ ho,r⟩
   wp_walk using wpAny_pyIter_tuple L1,wpAny_pyIter_tuple L2
   exact⟨_,rfl,h⟩
theorem K4 {J L:Addr}{xs ys:Array Value}{Q:Value->Shared->Prop}(t1:s.heap.IsTuple J xs)(t2:s.heap.IsTuple L ys)
 (h:∀h',IsZip h' (s.heap.objs.size+4) (s.heap.objs.size+2) (s.heap.objs.size+3) .none->IsPair h' (s.heap.objs.size+2) (.ref s.heap.objs.size) (.ref (s.heap.objs.size+1))->
   IsPair h' (s.heap.objs.size+3) .none .none->h'.IsTupleIter s.heap.objs.size J 0->h'.IsTupleIter (s.heap.objs.size+1) L 0->
   (∀c o,s.heap.get? c=some o->h'.get? c=some o)->Q (.ref (s.heap.objs.size+4)) { s with heap:=h' }):
 wpAny (model prog w) A (call (.type "zip") [.ref J,.ref L]) Q E s:=by
 refine callType_new F.called_zip (by decide) (F.typeCall_zip_2 _ _) (F.newCall_zip_2 _ _) (λobj=>F.args_object_init_3 obj _ _) F.entry_zip_new (K3 J L xs ys) ⟨t1,t2,?_⟩;have U:(rQ s.heap J).objs.size=s.heap.objs.size+1:=Q16 ..;have Y:(rR s.heap J L).objs.size=s.heap.objs.size+2:=by rw[Q16,U]
 have z3:(rS s.heap J L).objs.size=s.heap.objs.size+3:=by rw[Q16,Y]
 have z4:(rT s.heap J L).objs.size=s.heap.objs.size+4:=by rw[Q16,z3]
 have q5:(nJ s.heap J L).get? (rT s.heap J L).objs.size=some _:=Q0f _ rfl;have q4:(nJ s.heap J L).get? (rS s.heap J L).objs.size=some _:=Q04 _ (Q0f _ rfl);have q3:(nJ s.heap J L).get? (rR s.heap J L).objs.size=some _:=Q04 _ (Q04 _ (Q0f _ rfl));have q2:(nJ s.heap J L).get? (rQ s.heap J).objs.size=some _:=Q04 _ (Q04 _ (Q04 _ (Q0f _ rfl)));have q1:(nJ s.heap J L).get? s.heap.objs.size=some _:=Q04 _ (Q04 _ (Q04 _ (Q04 _ (Q0f _ rfl))));show _/\_;rw[Y,z3,z4] at q5;rw[U,Y] at q3;rw[z3] at q4;rw[U] at q2;rw[z4];exact⟨⟨_,q5,rfl⟩,h _ q5 q3 q4 ⟨_,q1,rfl,rfl⟩ ⟨_,q2,rfl,rfl⟩ λc o v=>Q04 _ (Q04 _ (Q04 _ (Q04 _ (Q04 _ v))))⟩
end
noncomputable def DO (K:W.Frag) (a b:Addr):It:=
 ⟨λi H=>∃xs ys x y,du K H a xs/\du K H b ys/\xs[i]? =some x/\ys[i]? =some y,
  λi H v H'=>∃p x y,H p=none/\v=.ref p/\(∀xs,du K H a xs->xs[i]? =some x)/\(∀ys,du K H b ys->ys[i]? =some y)/\H'=upd H p (.tup [x,y]),
  λi H=>∃xs ys,du K H a xs/\du K H b ys/\(xs.length<=i\/ys.length<=i)⟩
theorem K5 {P:Program}{w:World}{K:W.Frag}{ai:List Expr}{k:Nat}{tpos:Pos}{z TI TO J L l1 l2:Addr}(D:ZipApart z TI TO J L l1 l2):
 Turn P w K (.Tuple ai k tpos) (DO K l1 l2) [z,TI,TO,J,L] z (λi h=>∃oa ob,IsZip h z TI TO .none/\IsPair h TI (.ref J) (.ref L)/\IsPair h TO oa ob/\h.IsTupleIter J l1 i/\h.IsTupleIter L l2 i) where
 mem:=by simp
 obj:=λi h st b U=>by
  obtain⟨oa,ob,h1,h2,h3,h4,h5⟩:=st;have U:b=z\/b=TI\/b=TO\/b=J\/b=L:=by simpa using U
  rcases U with rfl|rfl|rfl|rfl|rfl
  . exact⟨_,h1,λv y=>by
     have y:Data.fields _=Data.cell v:=y
     cases y⟩
  . exact⟨_,h2,λv y=>by
     have y:Data.seq _ _=Data.cell v:=y
     cases y⟩
  . exact⟨_,h3,λv y=>by
     have y:Data.seq _ _=Data.cell v:=y
     cases y⟩
  . obtain⟨o,q,c,d⟩:=h4;exact⟨o,q,λv y=>by rw[d] at y;cases y⟩
  . obtain⟨o,q,c,d⟩:=h5;exact⟨o,q,λv y=>by rw[d] at y;cases y⟩
 keep:=λi h h' st k=>by
  obtain⟨oa,ob,h1,h2,h3,h4,h5⟩:=st;exact⟨oa,ob,k z (by simp) _ h1,k TI (by simp) _ h2,k TO (by simp) _ h3,(let⟨o,ho,r⟩:=h4;⟨o,k J (by simp) o ho,r⟩),(let⟨o,ho,r⟩:=h5;⟨o,k L (by simp) o ho,r⟩)⟩
 item:=by
  intro X hP hw hK hc i pins s σ H E I Y st hg;subst hP hw hK;obtain⟨oa,ob,h1,h2,h3,h4,h5⟩:=st;obtain⟨xs,ys,x,y,aa,ab,hx,hy⟩:=hg;obtain⟨aj,ae,p1,am⟩:=I.tuple aa;obtain⟨ak,af,p2,an⟩:=I.tuple ab;obtain⟨u1,ao,ap⟩:=ae.get hx;obtain⟨u2,aq,ar⟩:=af.get hy;have fr:H s.heap.objs.size=none:=I.hok.fresh (Q00 _);refine K1 D h1 h2 h3 h4 h5 p1 p2 (x:=u1) (y:=u2) (by simpa using ao) (by simpa using aq) λh' q1 q2 q3 q4 q5 q7=>?_;refine⟨_,rfl,wpAny_letOwnedTupleGo_zip (s:={ s with heap:=h' }) q1 λac g1 g2=>?_⟩
  have au:∀b∈[z,TI,TO,J,L],b<s.heap.objs.size:=λb U=>by
   have U:b=z\/b=TI\/b=TO\/b=J\/b=L:=by simpa using U
   rcases U with rfl|rfl|rfl|rfl|rfl
   . exact Q03 h1
   . exact Q03 h2
   . exact Q03 h3
   . obtain⟨o,q,_⟩:=h4;exact Q03 q
   . obtain⟨o,q,_⟩:=h5;exact Q03 q
  have av:∀b o,s.heap.get? b=some o->b≠s.heap.objs.size:=λb o q=>Q0c (Q03 q);have kk:∀b o,b≠z->b≠TO->b≠J->b≠L->s.heap.get? b=some o->ac.get? b=some o:=λb o n1 n2 n3 n4 q=>g2.extBut b o n1 (q7 b o n1 n2 n3 n4 q);have kn:∀b o,b ∉ [z,TO,J,L]->s.heap.get? b=some o->ac.get? b=some o:=λb o n q=>kk b o (λy=>n (by simp[y])) (λy=>n (by simp[y])) (λy=>n (by simp[y])) (λy=>n (by simp[y])) q;have tup:ac.get? s.heap.objs.size=some { cls:=.type "tuple",data:=.seq #[u1,u2] }:=g2.extBut _ _ (Q0r (Q03 h1)) q5
  have I1:Inv X pins σ (upd H s.heap.objs.size (.tup [x,y])) { s with heap:=ac }:=by
   refine I.step (g':=s.gens) (d':=s.drawn) (t':=s.toks) (ch:=[z,TO,J,L]) (λb U=>?_) (λb o _ _ hc q _=>kn b o hc q) (λb o _ _ hc q _=>⟨o.slots,kn b o hc q⟩) (λb o _ q n=>?_) (λb o hc q=>⟨o,kn b o hc q⟩) (λb ws q=>?_) (λb o v q=>?_) (λb ps q=>?_) (λm hm=>?_) (λb o q=>?_) I.bare
   . have ag:b∈[z,TI,TO,J,L]:=by
      have U:b=z\/b=TO\/b=J\/b=L:=by simpa using U
      rcases U with rfl|rfl|rfl|rfl <;> simp
     obtain⟨f0,f1,f2,f3,f4,f5⟩:=Y b ag;exact⟨f3,f1,f4,f5⟩
   . rw[dg (av b o q)];exact n
   . rw[dg (dA q fr)];exact q
   . rw[dg (dA q fr)];exact q
   . exact⟨#[],by rw[dg (dA q fr),q];simp⟩
   . obtain⟨o,es,ep,ho,r⟩:=hm;exact⟨o,es,ep,kk _ o (Ne.symm (Y z (by simp)).2.1) (Ne.symm (Y TO (by simp)).2.1) (Ne.symm (Y J (by simp)).2.1) (Ne.symm (Y L (by simp)).2.1) ho,r⟩
   . by_cases U:b=s.heap.objs.size
     . subst U;rw[dw] at q;cases q;exact⟨Pb.gC,[u1,u2],.cons ap (.cons ar .nil),⟨_,tup,rfl,_,rfl⟩⟩
     . rw[dg U] at q
       have nn:∀c v,H c=some v->c ∉ [z,TO,J,L]:=λc v e hm=>by
        have aw:c∈[z,TI,TO,J,L]:=by
         have hm:c=z\/c=TO\/c=J\/c=L:=by simpa using hm
         rcases hm with rfl|rfl|rfl|rfl <;> simp
        have:=(Y c aw).1;rw[e] at this;cases this
       refine(I.hok b o q).stay (λc v ah y=>kn c v ?_ y) (λc y=>by rw[dg (dA y fr)];exact y) λc ws y=>by rw[dg (dA y fr)];exact y
       rcases ah with y|y
       . rw[y];exact nn b o q
       . exact nn c _ y
  refine⟨.ref s.heap.objs.size,_,I1,rfl,⟨s.heap.objs.size,x,y,fr,rfl,λws hw=>by rw[I.p0 hw aa];exact hx,λws hw=>by rw[I.p0 hw ab];exact hy,rfl⟩,⟨u1,u2,g1,?_,?_,?_,?_⟩,λb U=>?_⟩
  . exact kk TI _ D.TIz D.TITO D.TIi1 D.TIi2 h2
  . exact g2.extBut _ _ D.TOz q2
  . exact iL q3 g2.extBut D.i1z
  . exact iL q4 g2.extBut D.i2z
  . rw[dg (Q0c (au b U))];exact(Y b U).1
 done:=by
  intro X hP hw hK hc i pins s σ H E I Y st hg;subst hP hw hK;obtain⟨oa,ob,h1,h2,h3,h4,h5⟩:=st;obtain⟨xs,ys,aa,ab,al⟩:=hg;obtain⟨aj,ae,p1,am⟩:=I.tuple aa;obtain⟨ak,af,p2,an⟩:=I.tuple ab;have e1:=ae.length;have e2:=af.length
  refine K2 (I.ok.hd hc) D h1 h2 h3 h4 h5 p1 p2 (by
   rcases al with q|q
   . exact .inl (by simp;omega)
   . exact .inr (by simp;omega)) λh' hk=>⟨rfl,?_⟩
  refine I.step (g':=s.gens) (d':=s.drawn) (t':=s.toks) (ch:=[z,TO,J,L]) (λb U=>?_) (λb o _ _ hc q _=>?_) (λb o _ _ hc q _=>?_) (λb o _ q n=>n) (λb o hc q=>?_) (λb ys q=>q) (λb o v q=>q) (λb ps q=>⟨#[],by rw[q];simp⟩) (λm hm=>?_) (λb o q=>?_) I.bare
  . have ag:b∈[z,TI,TO,J,L]:=by
     have U:b=z\/b=TO\/b=J\/b=L:=by simpa using U
     rcases U with rfl|rfl|rfl|rfl <;> simp
    obtain⟨f0,f1,f2,f3,f4,f5⟩:=Y b ag;exact⟨f3,f1,f4,f5⟩
  . exact hk b o (λy=>hc (by simp[y])) (λy=>hc (by simp[y])) (λy=>hc (by simp[y])) (λy=>hc (by simp[y])) q
  . exact⟨o.slots,hk b o (λy=>hc (by simp[y])) (λy=>hc (by simp[y])) (λy=>hc (by simp[y])) (λy=>hc (by simp[y])) q⟩
  . exact⟨o,hk b o (λy=>hc (by simp[y])) (λy=>hc (by simp[y])) (λy=>hc (by simp[y])) (λy=>hc (by simp[y])) q⟩
  . obtain⟨o,es,ep,ho,r⟩:=hm;exact⟨o,es,ep,hk _ o (Ne.symm (Y z (by simp)).2.1) (Ne.symm (Y TO (by simp)).2.1) (Ne.symm (Y J (by simp)).2.1) (Ne.symm (Y L (by simp)).2.1) ho,r⟩
  . have nn:∀c v,H c=some v->∀y∈[z,TI,TO,J,L],c≠y:=λc v e y hy=>dA e (Y y hy).1;refine(I.hok b o q).stay (λc v ah y=>hk c v ?_ ?_ ?_ ?_ y) (λ_ y=>y) λ_ _ y=>y <;> (rcases ah with y|y)
    all_goals first
     |(rw[y];exact nn b o q _ (by simp))
     |exact nn c _ y _ (by simp)
 self:=λA i s Q E st q=>by
  obtain⟨oa,ob,h1,_⟩:=st;exact wpAny_pyIter_zip h1 q
def K6 (K:W.Frag) (ta:TA):TI:=λσ H R=>ta σ H λvs H1=>∃a b,vs=[.ref a,.ref b]/\(∃xs,du K H1 a xs)/\(∃ys,du K H1 b ys)/\R (DO K a b) H1
section
variable {X:Cx}
theorem K7 {aa:List Expr}{k:Nat}{tpos:Pos}{a b:Expr}{ta:TA}{p pos:Pos}(hg:Gl X "zip")(hm:X.mg "zip"=none)(ha:PA X [a,b] ta)(hs:starEach [a,b] X.env=[(false,eval a X.env),(false,eval b X.env)]:=by rfl)
 (Y:starEach [b] X.env=[(false,eval b X.env)]:=by rfl):PI X (.Tuple aa k tpos) (.Call (.Name "zip" p) [a,b] [] pos) (K6 X.K ta):=by
 intro pins s σ H R I h;refine Call_ (j0 I hg hm boot_zip (PyProof.Rows.callWith_type1 (dD (ha pos pins s σ H _ I h) λus J zq=>?_) (by rw[hs,Y]) (by rw[Y];rfl)));obtain⟨vs,H1,U,r1,q1⟩:=zq;obtain⟨l1,l2,e,⟨xs,ab⟩,⟨ys,ac⟩,q⟩:=q1;subst e;obtain⟨u1,u2,rfl,ae,af⟩:=vals2 r1
 cases ae
 cases af;obtain⟨ag,ai,p1,aj⟩:=U.tuple ab;obtain⟨ah,ak,p2,al⟩:=U.tuple ac;have a1:l1<J.heap.objs.size:=by obtain⟨_,e,_⟩:=p1;exact Q03 e
 have a2:l2<J.heap.objs.size:=by obtain⟨_,e,_⟩:=p2;exact Q03 e
 refine K4 p1 p2 λh' q1 q2 q3 q4 q5 q7=>?_;refine wpAny_pyIter_zip q1 ?_;have I2:Inv X pins σ H1 { J with heap:=h' }:=U.kept (t':=J.toks) q7
 have Dz:ZipApart (J.heap.objs.size+4) (J.heap.objs.size+2) (J.heap.objs.size+3) J.heap.objs.size (J.heap.objs.size+1) l1 l2:=by
  have b1:@LT.lt Nat _ l1 J.heap.objs.size:=a1;have b2:@LT.lt Nat _ l2 J.heap.objs.size:=a2;constructor <;> (intro z;have z':(_:Nat)=_:=z;omega)
 refine⟨J.heap.objs.size+4,[J.heap.objs.size+4,J.heap.objs.size+2,J.heap.objs.size+3,J.heap.objs.size,J.heap.objs.size+1],_,_,H1,rfl,I2,K5 Dz,⟨.none,.none,q1,q2,q3,q4,q5⟩,λb L=>?_,q⟩
 have L:J.heap.objs.size<=b:=by
  have L:b=J.heap.objs.size+4\/b=J.heap.objs.size+2\/b=J.heap.objs.size+3\/b=J.heap.objs.size\/b=J.heap.objs.size+1:=by simpa using L
  rcases L with z|z|z|z|z <;> rw[z]
  . exact Q11 _ _
  . exact Q11 _ _
  . exact Q11 _ _
  . exact Q00 _
  . exact Q11 _ _
 exact U.jI L (U.hok.fresh L)
end
end L2
namespace Pb
open L2 PyProof.Rows
mutual
theorem Own.kB {H:Hp}:∀{v:V}(d d':D) {f f':List Addr},Own H v d f->Own H v d' f'->d.dep=d'.dep
 |v,.int z,d',f,f',h,h'=>by
  have e:=jW h;subst e
  cases d' with
  |int z'=>rfl
  |str x=>have:=i4 h';cases this
  |tup xs=>unfold Own at h';obtain⟨a,vs,e,_⟩:=h';cases e
  |lst xs=>obtain⟨a,vs,f,e,_⟩:=jB h';cases e
  |dct m=>obtain⟨a,vs,f,e,_⟩:=kU h';cases e
 |v,.str x,d',f,f',h,h'=>by
  have e:=i4 h;subst e
  cases d' with
  |int z'=>have:=jW h';cases this
  |str x=>rfl
  |tup xs=>unfold Own at h';obtain⟨a,vs,e,_⟩:=h';cases e
  |lst xs=>obtain⟨a,vs,f,e,_⟩:=jB h';cases e
  |dct m=>obtain⟨a,vs,f,e,_⟩:=kU h';cases e
 |v,.tup xs,d',f,f',h,h'=>by
  unfold Own at h;obtain⟨a,vs,rfl,U,h⟩:=h
  cases d' with
  |int z'=>have:=jW h';cases this
  |str x=>have:=i4 h';cases this
  |tup ys=>
   unfold Own at h';obtain⟨Y,L,e,J,h'⟩:=h'
   cases e;rw[U] at J;cases J;have:=dz.kB xs ys h h';simp only[D.dep];omega
  |lst ys=>obtain⟨Y,L,f,e,J,_⟩:=jB h';cases e;rw[U] at J;cases J
  |dct m=>obtain⟨Y,L,f,e,J,_⟩:=kU h';cases e;rw[U] at J;cases J
 |v,.lst xs,d',f,f',h,h'=>by
  obtain⟨a,vs,f,rfl,U,h⟩:=jB h
  cases d' with
  |int z'=>have:=jW h';cases this
  |str x=>have:=i4 h';cases this
  |tup ys=>unfold Own at h';obtain⟨Y,L,e,J,_⟩:=h';cases e;rw[U] at J;cases J
  |lst ys=>
   obtain⟨Y,L,f,e,J,h'⟩:=jB h'
   cases e;rw[U] at J;cases J;have:=dz.kB xs ys h h';simp only[D.dep];omega
  |dct m=>obtain⟨Y,L,f,e,J,_⟩:=kU h';cases e;rw[U] at J;cases J
 |v,.dct m,d',f,f',h,h'=>by
  obtain⟨a,vs,f,rfl,U,h⟩:=kU h
  cases d' with
  |int z'=>have:=jW h';cases this
  |str x=>have:=i4 h';cases this
  |tup ys=>unfold Own at h';obtain⟨Y,L,e,J,_⟩:=h';cases e;rw[U] at J;cases J
  |lst ys=>obtain⟨Y,L,f,e,J,h'⟩:=jB h';cases e;rw[U] at J;cases J
  |dct m'=>
   obtain⟨Y,L,f,e,J,h'⟩:=kU h'
   cases e;rw[U] at J;cases J;have:=dH.kB m m' h h';simp only[D.dep];omega
theorem dz.kB {H:Hp}:∀{vs:List V}(xs ys:Ds) {f J:List Addr},dz H vs xs f->dz H vs ys J->xs.dep=ys.dep
 |vs,.nil,ys,f,J,h,h'=>by
  unfold dz at h
  cases ys with
  |nil=>rfl
  |cons y d r=>unfold dz at h';obtain⟨v,q,Y,f2,e,_⟩:=h';rw[h.1] at e;cases e
 |vs,.cons x d r,ys,f,J,h,h'=>by
  unfold dz at h;obtain⟨v,q,Y,f2,rfl,rfl,h1,h2⟩:=h
  cases ys with
  |nil=>unfold dz at h';cases h'.1
  |cons y d' r'=>
   unfold dz at h';obtain⟨v',q',aa,ab,e,rfl,L,U⟩:=h'
   cases e;have a1:=Own.kB d d' h1 L;have a2:=dz.kB r r' h2 U;simp only[Ds.dep];omega
theorem dH.kB {H:Hp}:∀{vs:List (Key × V)}(xs ys:Ds) {f J:List Addr},dH H vs xs f->dH H vs ys J->xs.dep=ys.dep
 |vs,.nil,ys,f,J,h,h'=>by
  unfold dH at h
  cases ys with
  |nil=>rfl
  |cons y d r=>unfold dH at h';obtain⟨v,q,Y,f2,e,_⟩:=h';rw[h.1] at e;cases e
 |vs,.cons x d r,ys,f,J,h,h'=>by
  unfold dH at h;obtain⟨v,q,Y,f2,rfl,rfl,h1,h2⟩:=h
  cases ys with
  |nil=>unfold dH at h';cases h'.1
  |cons y d' r'=>
   unfold dH at h';obtain⟨v',q',aa,ab,e,rfl,L,U⟩:=h'
   cases e;have a1:=Own.kB d d' h1 L;have a2:=dH.kB r r' h2 U;simp only[Ds.dep];omega
end
mutual
theorem Own.in {H:Hp}{b:Addr}:∀{v:V}(d:D) {f:List Addr},Own H v d f->b∈f->∃d' L,Own H (.ref b) d' L/\d'.dep<=d.dep
 |v,.int z,f,h,J=>by unfold Own at h;rw[h.2] at J;cases J
 |v,.str z,f,h,J=>by unfold Own at h;rw[h.2] at J;cases J
 |v,.tup xs,f,h,J=>by
  unfold Own at h;obtain⟨a,vs,rfl,Y,h⟩:=h;obtain⟨d',L,h1,h2⟩:=dz.in xs h J;exact⟨d',L,h1,by simp only[D.dep];omega⟩
 |v,.lst xs,f,h,J=>by
  have U:=h;unfold Own at h;obtain⟨a,vs,fq,rfl,Y,rfl,h⟩:=h;rcases List.mem_cons.mp J with rfl|J
  . exact⟨_,_,U,Q00 _⟩
  obtain⟨d',L,h1,h2⟩:=dz.in xs h J;exact⟨d',L,h1,by simp only[D.dep];omega⟩
 |v,.dct m,f,h,J=>by
  have U:=h;unfold Own at h;obtain⟨a,vs,fq,rfl,Y,rfl,h⟩:=h;rcases List.mem_cons.mp J with rfl|J
  . exact⟨_,_,U,Q00 _⟩
  obtain⟨d',L,h1,h2⟩:=dH.in m h J;exact⟨d',L,h1,by simp only[D.dep];omega⟩
theorem dz.in {H:Hp}{b:Addr}:∀{vs:List V}(xs:Ds) {f:List Addr},dz H vs xs f->b∈f->∃d' L,Own H (.ref b) d' L/\d'.dep<=xs.dep
 |vs,.nil,f,h,J=>by unfold dz at h;rw[h.2] at J;cases J
 |vs,.cons x d r,f,h,J=>by
  unfold dz at h;obtain⟨v,q,f1,f2,rfl,rfl,h1,h2⟩:=h;rcases List.mem_append.mp J with J|J
  . obtain⟨d',L,U,Y⟩:=Own.in d h1 J;exact⟨d',L,U,by simp only[Ds.dep];omega⟩
  . obtain⟨d',L,U,Y⟩:=dz.in r h2 J;exact⟨d',L,U,by simp only[Ds.dep];omega⟩
theorem dH.in {H:Hp}{b:Addr}:∀{vs:List (Key × V)}(xs:Ds) {f:List Addr},dH H vs xs f->b∈f->∃d' L,Own H (.ref b) d' L/\d'.dep<=xs.dep
 |vs,.nil,f,h,J=>by unfold dH at h;rw[h.2] at J;cases J
 |vs,.cons x d r,f,h,J=>by
  unfold dH at h;obtain⟨v,q,f1,f2,rfl,rfl,h1,h2⟩:=h;rcases List.mem_append.mp J with J|J
  . obtain⟨d',L,U,Y⟩:=Own.in d h1 J;exact⟨d',L,U,by simp only[Ds.dep];omega⟩
  . obtain⟨d',L,U,Y⟩:=dH.in r h2 J;exact⟨d',L,U,by simp only[Ds.dep];omega⟩
end
theorem dH.DP {H:Hp}{b:Addr}{kvs:List (Key × V)}{m:Ds}{f:List Addr}(J:H b=some (.dK kvs))(h:dH H kvs m f):b ∉ f:=λz=>by
 obtain⟨d',U,h1,h2⟩:=dH.in m h z;have L:Own H (.ref b) (.dct m) (b::f):=by unfold Own;exact⟨b,kvs,f,rfl,J,rfl,h⟩
 have:=Own.kB _ _ h1 L;simp only[D.dep] at this;omega
theorem D.K8:∀d:D,1<=d.cn 1:=λd=>by cases d <;> (simp only[D.cn];try omega)
theorem Ds.nK (e:Nat):∀xs:Ds,xs.len<=xs.cn 1 e
 | .nil=>Q00 _
 | .cons x d r=>by have:=Ds.nK e r;have:=d.K8;simp only[Ds.cn,Ds.len];omega
theorem Ds.pJ {e:Nat}:∀{xs:Ds}{i:Nat}{d:D},xs.at i=some d->d.cn 1<=xs.cn 1 e
 | .nil,i,d,h=>by cases i <;> cases h
 | .cons x c r,0,d,h=>by cases h;simp only[Ds.cn];omega
 | .cons x c r,i+1,d,h=>by have:=Ds.pJ (e:=e) (xs:=r) (i:=i) h;simp only[Ds.cn];omega
theorem Ds.DQ {e:Nat}:∀{xs:Ds}{x:Str}{d:D},xs.get x=some d->d.cn 1<=xs.cn 1 e
 | .nil,i,d,h=>by cases h
 | .cons x c r,y,d,h=>by
   have h:(if y=x then some c else r.get y)=some d:=h;split at h
   . cases h;simp only[Ds.cn];omega
   . have:=Ds.DQ (e:=e) h;simp only[Ds.cn];omega
theorem Ds.get_mem:∀{m:Ds}{x:Str},x∈m.names->∃d,m.get x=some d
 | .nil,x,h=>by cases h
 | .cons y d r,x,h=>by
   show ∃d',(if x=y then some d else r.get x)=some d';by_cases e:x=y
   . exact⟨d,by rw[if_pos e]⟩
   . rw[if_neg e];rcases List.mem_cons.mp h with z|z
     . exact absurd z e
     . exact Ds.get_mem z
theorem Ds.rV:∀m:Ds,m.names.length=m.len
 | .nil=>rfl
 | .cons x d r=>congrArg (· +1) (Ds.rV r)
theorem dH.DR {H:Hp}{kvs:List (Key × V)}{m:Ds}{f:List Addr}{i:Nat}{p:Key × V}(h:dH H kvs m f)(e:kvs[i]? =some p):∃x,p.1=Sum.inr x/\m.names[i]? =some x:=by
 have k:=h.keys m;have:(kvs.map (·.1))[i]? =some p.1:=by rw[Q0o,e];rfl
 rw[k,Q0o] at this
 cases J:m.names[i]? with
 |none=>rw[J] at this;cases this
 |some x=>rw[J] at this;exact⟨x,(Option.some.inj this).symm,rfl⟩
theorem vi (i:Nat):(List.replicate i true).all id=true:=by
 rw[Q17];intro x J;rw[Q3k J];rfl
def pK (n:Nat):Sp:=λvs H Q _=>∃v u d J L,vs=[v,u]/\Own H v d J/\Own H u d L/\(∀c∈L,c ∉ J)/\d.dep<=n/\d.cn 1<=1000/\∀H',Same H H'->Q (.bl true) H'
variable {P:Program}{w:World}{K:W.Frag}{mg:Str->Option Value}{base:Heap}
theorem K9:d9 XE XE (dN (top 40)):=eG
theorem K_ (n:Nat)(T:Tb mg)(J:Dn K mg "_law_same" mj (top 40) U Y)(L:dj P w K mg base dm (n+1) U Y mj (pK n)):dj P w K mg base dm ((n+1)+1) U Y mj (pK (n+1)):=by
 refine J.F.ok K9 λvs H Q E h=>?_;obtain⟨v,u,d,f1,f2,rfl,hv,aa,ae,ah,ab,q⟩:=h;refine⟨rfl,λau A outer s nd hr hu=>?_⟩
 have sc:((∃i,d=.int i)\/∃x,d=.str x)\/((∀i,d≠.int i)/\∀x,d≠.str x):=by cases d <;> simp
 rcases sc with sc|sc
 . refine⟨_,(dh (dM (eN (dX eY (by rfl) T.eZ boot_isinstance (a_ (pv 1) (a_ (eW (v:=.ty "dict") rfl T.me boot_dict rfl) b_)))) (dh fZ
    (dq fZ)) dO)
    (dh (dM (PW.pt (ig (eN (dX eY (by rfl) T.eZ boot_isinstance (a_ (pv 1) (a_ (eW (v:=.ty "list") rfl T.ku boot_list rfl) b_)))) (iw (eN (dX eY (by rfl) T.eZ boot_isinstance (a_ (pv 1) (a_ (eW (v:=.ty "tuple") rfl T.jN boot_tuple rfl) b_))))))) (dh fZ
    (dh fZ
    (dq fZ))) dO)
    (dh (dM (eN (dX eY (by rfl) T.eZ boot_isinstance (a_ (pv 1) (a_ (eW (v:=.ty "str") rfl T.lq boot_str rfl) b_)))) (dq (dF (k9 (dX eY (by rfl) T.eZ boot_isinstance (a_ (pv 0) (a_ (eW (v:=.ty "str") rfl T.lq boot_str rfl) b_))) (mG (lW eh (pv 0) (pv 1) (dP _)))))) dO)
    (dq (dF (k9 (dX eY (by rfl) T.eZ boot_isinstance (a_ (pv 0) (a_ (eW (v:=.ty "int") rfl T.ug boot_int rfl) b_))) (k9 (yU (dX eY (by rfl) T.eZ boot_isinstance (a_ (pv 0) (a_ (eW (v:=.ty "bool") rfl T.A6 boot_bool rfl) b_)))) (mG (lW eh (pv 0) (pv 1) (dP _)))))))))),?_⟩
   rcases sc with⟨i,rfl⟩|⟨x,rfl⟩
   . cases jW hv;cases jW aa;refine⟨_,rfl,_,_,_,false,rfl,.int i,rfl,false,rfl,dE ?_⟩;refine⟨_,rfl,_,_,_,false,rfl,.int i,rfl,false,rfl,dE ?_⟩;refine⟨_,rfl,_,_,_,false,rfl,.int i,rfl,false,rfl,dE ?_⟩;refine⟨_,rfl,_,_,_,false,rfl,.int i,rfl,false,rfl,dE ?_⟩;refine⟨_,rfl,_,_,_,true,rfl,.int i,rfl,true,rfl,dS ?_⟩;refine⟨_,rfl,_,_,_,false,rfl,.int i,rfl,false,rfl,true,rfl,dS ?_⟩;refine⟨_,rfl,_,rfl,rfl,?_⟩;rw[decide_eq_true rfl];exact q _ (Same.refl _)
   . cases i4 hv;cases i4 aa;refine⟨_,rfl,_,_,_,false,rfl,.str x,rfl,false,rfl,dE ?_⟩;refine⟨_,rfl,_,_,_,false,rfl,.str x,rfl,false,rfl,dE ?_⟩;refine⟨_,rfl,_,_,_,false,rfl,.str x,rfl,false,rfl,dE ?_⟩;refine⟨_,rfl,_,_,_,true,rfl,.str x,rfl,true,rfl,dS ?_⟩;refine⟨_,rfl,_,_,_,true,rfl,.str x,rfl,true,rfl,dS ?_⟩;refine⟨_,rfl,_,rfl,rfl,?_⟩;rw[decide_eq_true rfl];exact q _ (Same.refl _)
 cases d with
 |int i=>exact absurd rfl (sc.1 i)
 |str x=>exact absurd rfl (sc.2 x)
 |tup ds=>
  unfold Own at hv aa;obtain⟨a,xs,rfl,ha,hx⟩:=hv;obtain⟨b,ys,rfl,hb,hy⟩:=aa;have hl:xs.length=ys.length:=by rw[hx.len,hy.len]
  have ag:xs.length<=1000:=by rw[hx.len];have:=ds.nK 0;simp only[D.cn] at ab;omega
  refine⟨_,(dh (dM (eN (dX eY (by rfl) T.eZ boot_isinstance (a_ (pv 1) (a_ (eW (v:=.ty "dict") rfl T.me boot_dict rfl) b_)))) (dh fZ
  (dq fZ)) dO)
  (dh (dM (PW.pt (ig (eN (dX eY (by rfl) T.eZ boot_isinstance (a_ (pv 1) (a_ (eW (v:=.ty "list") rfl T.ku boot_list rfl) b_)))) (iw (eN (dX eY (by rfl) T.eZ boot_isinstance (a_ (pv 1) (a_ (eW (v:=.ty "tuple") rfl T.jN boot_tuple rfl) b_))))))) (dh (dM (PW.pt (i8 (eN (dX eY (by rfl) T.eZ boot_isinstance (a_ (pv 1) (a_ (eW (v:=.ty "list") rfl T.ku boot_list rfl) b_)))) (j1 (iN (eN (dX eY (by rfl) T.eZ boot_isinstance (a_ (pv 0) (a_ (eW (v:=.ty "list") rfl T.ku boot_list rfl) b_)))))))) (dq (dF jk)) dO)
  (dh (dM (PW.pt (ig (PW.pt (i8 (eN (dX eY (by rfl) T.eZ boot_isinstance (a_ (pv 1) (a_ (eW (v:=.ty "tuple") rfl T.jN boot_tuple rfl) b_)))) (j1 (iN (eN (dX eY (by rfl) T.eZ boot_isinstance (a_ (pv 0) (a_ (eW (v:=.ty "tuple") rfl T.jN boot_tuple rfl) b_)))))))) (iw (dQ lU (dX js (by rfl) T.gG PySem.boot_len (a_ (pv 0) b_)) (dX js (by rfl) T.gG PySem.boot_len (a_ (pv 1) b_)) (dP _))))) (dq (dF jk)) dO)
  (dq (dF (dX (sW rfl) (by rfl) T.uf boot_all (a_ (kJ (g:=(qg K 2 (lS (fU 0) (lS (fU 1) qf)))) (tt:=ju) (te:=(jq _ _ _ (fF (eV 0) (fF (eV 1) hU)))) (own:=["_law_one","_law_other"]) rfl (jO (N:=XE) (sc:=dN (top 40))) (K7 rfl T.A5 (a_ (pv 0) (a_ (pv 1) b_))) (λ_ _ _ _ _=>(j4 rfl (gK (e8 (i:=0) (show(XF:List Str).Nodup by decide +kernel) rfl (Or.inl rfl) (.inr rfl)) (gK (e8 (i:=1) (show(XF:List Str).Nodup by decide +kernel) rfl (Or.inl rfl) (.inr rfl)) j3)))) (λ_ _ _ _ _=>kg) (λ_ _ _ _ _=>(dJ L hr J (a_ (pv 0) (a_ (pv 1) b_))))) b_)))))) dO)
  (dh fZ
  (dq fZ)))),?_⟩
  refine⟨_,rfl,_,_,_,false,rfl,.tup hb,rfl,false,rfl,dE ?_⟩;refine⟨_,rfl,_,_,_,false,rfl,.tup hb,rfl,false,rfl,dE ?_⟩;refine⟨_,rfl,_,_,_,true,rfl,.tup hb,rfl,true,rfl,dS ?_⟩;refine⟨_,rfl,_,_,_,false,rfl,.tup hb,rfl,false,rfl,dE ?_⟩;refine⟨_,rfl,_,_,_,true,rfl,.tup hb,rfl,true,rfl,dS ?_⟩;refine⟨_,rfl,_,_,_,true,rfl,.tup ha,rfl,true,rfl,?_⟩;refine dE ⟨_,rfl,a,_,rfl,.inr (du.of ha),_,rfl,b,_,rfl,.inr (du.of hb),rfl,_,rfl,?_⟩;refine qE (show V.int (xs.length:Nat)=V.int (ys.length:Nat) by rw[hl]) ?_;refine⟨_,rfl,_,rfl,a,b,rfl,⟨_,du.of ha⟩,⟨_,du.of hb⟩,λi m zs H'=>m=xs.length - i/\i<=xs.length/\zs=(List.replicate i true).map V.bl/\Same H H',⟨xs.length,rfl,Q06 _,rfl,Same.refl _⟩,?_⟩;rintro i m zs H' ⟨rfl,aj,rfl,s2⟩;by_cases hi:i<xs.length
  . have ai:i<ys.length:=by omega
    refine .inr ⟨⟨xs,ys,xs[i],ys[i],du.of (s2 _ _ ha),du.of (s2 _ _ hb),Q0a hi,Q0a ai⟩,by rw[Q0b,Q0w];exact hX (by omega),λx ac y=>?_⟩;obtain⟨p,x1,x2,hp,rfl,e1,e2,rfl⟩:=y;obtain⟨d1,g1,q1,o1,i1⟩:=hx.get ds (e1 _ (du.of (s2 _ _ ha)));obtain⟨d2,g2,q2,o2,i2⟩:=hy.get ds (e2 _ (du.of (s2 _ _ hb)))
    cases q1.symm.trans q2;have sa:=s2.trans (Same.new hp (o:=.tup [x1,x2]));refine⟨p,_,rfl,du.of dw,rfl,_,_,rfl,_,_,rfl,rfl,rfl,L2.yes (dS ?_)⟩;refine⟨_,rfl,_,rfl,x1,x2,d1,g1,g2,rfl,o1.same sa,o2.same sa,λc h2 h1=>ae c (i2 c h2) (i1 c h1),?_,?_,λH3 s4=>?_⟩
    . have:=Ds.iU q1;simp only[D.dep] at ah;omega
    . have:=Ds.pJ (e:=0) q1;simp only[D.cn] at ab;omega
    refine⟨xs.length - (i+1),by omega,rfl,hi,?_,sa.trans s4⟩;rw[List.replicate_succ',Q0p];rfl
  . refine .inl ⟨⟨xs,ys,du.of (s2 _ _ ha),du.of (s2 _ _ hb),.inl (Q1j hi)⟩,λp hp=>⟨p,List.replicate i true,rfl,dy.of dw,?_⟩⟩;rw[vi];exact q _ (s2.trans (Same.new hp))
 |lst ds=>
  unfold Own at hv aa;obtain⟨a,xs,f1,rfl,ha,rfl,hx⟩:=hv;obtain⟨b,ys,f2,rfl,hb,rfl,hy⟩:=aa;have hl:xs.length=ys.length:=by rw[hx.len,hy.len]
  have ag:xs.length<=1000:=by rw[hx.len];have:=ds.nK 1;simp only[D.cn] at ab;omega
  refine⟨_,(dh (dM (eN (dX eY (by rfl) T.eZ boot_isinstance (a_ (pv 1) (a_ (eW (v:=.ty "dict") rfl T.me boot_dict rfl) b_)))) (dh fZ
  (dq fZ)) dO)
  (dh (dM (PW.pt (ig (eN (dX eY (by rfl) T.eZ boot_isinstance (a_ (pv 1) (a_ (eW (v:=.ty "list") rfl T.ku boot_list rfl) b_)))) (iw (eN (dX eY (by rfl) T.eZ boot_isinstance (a_ (pv 1) (a_ (eW (v:=.ty "tuple") rfl T.jN boot_tuple rfl) b_))))))) (dh (dM (PW.pt (i8 (eN (dX eY (by rfl) T.eZ boot_isinstance (a_ (pv 1) (a_ (eW (v:=.ty "list") rfl T.ku boot_list rfl) b_)))) (j1 (iN (eN (dX eY (by rfl) T.eZ boot_isinstance (a_ (pv 0) (a_ (eW (v:=.ty "list") rfl T.ku boot_list rfl) b_)))))))) (dq (dF jk)) dO)
  (dh (dM (PW.pt (ig (PW.pt (i8 (eN (dX eY (by rfl) T.eZ boot_isinstance (a_ (pv 1) (a_ (eW (v:=.ty "tuple") rfl T.jN boot_tuple rfl) b_)))) (j1 (iN (eN (dX eY (by rfl) T.eZ boot_isinstance (a_ (pv 0) (a_ (eW (v:=.ty "tuple") rfl T.jN boot_tuple rfl) b_)))))))) (iw (dQ lU (dX js (by rfl) T.gG PySem.boot_len (a_ (pv 0) b_)) (dX js (by rfl) T.gG PySem.boot_len (a_ (pv 1) b_)) (dP _))))) (dq (dF jk)) dO)
  (dq (dF (dX (sW rfl) (by rfl) T.uf boot_all (a_ (kJ (g:=(qg K 2 (lS (fU 0) (lS (fU 1) qf)))) (tt:=ju) (te:=(jq _ _ _ (fF (eV 0) (fF (eV 1) hU)))) (own:=["_law_one","_law_other"]) rfl (jO (N:=XE) (sc:=dN (top 40))) (Hj rfl T.A5 (a_ (pv 0) (a_ (pv 1) b_))) (λ_ _ _ _ _=>(j4 rfl (gK (e8 (i:=0) (show(XF:List Str).Nodup by decide +kernel) rfl (Or.inl rfl) (.inr rfl)) (gK (e8 (i:=1) (show(XF:List Str).Nodup by decide +kernel) rfl (Or.inl rfl) (.inr rfl)) j3)))) (λ_ _ _ _ _=>kg) (λ_ _ _ _ _=>(dJ L hr J (a_ (pv 0) (a_ (pv 1) b_))))) b_)))))) dO)
  (dh fZ
  (dq fZ)))),?_⟩
  refine⟨_,rfl,_,_,_,false,rfl,.lst hb,rfl,false,rfl,dE ?_⟩;refine⟨_,rfl,_,_,_,true,rfl,.lst hb,rfl,true,rfl,dS ?_⟩;refine⟨_,rfl,_,_,_,true,rfl,.lst hb,rfl,true,rfl,dS ?_⟩;refine⟨_,rfl,_,_,_,true,rfl,.lst ha,rfl,true,rfl,?_⟩;refine dE ?_;refine⟨_,rfl,_,_,_,false,rfl,.lst hb,rfl,false,rfl,dE ?_⟩;refine⟨_,rfl,a,_,rfl,.inl (dy.of ha),_,rfl,b,_,rfl,.inl (dy.of hb),rfl,_,rfl,?_⟩;refine qE (show V.int (xs.length:Nat)=V.int (ys.length:Nat) by rw[hl]) ?_;refine⟨_,rfl,_,rfl,a,b,rfl,⟨_,dy.of ha⟩,⟨_,dy.of hb⟩,λi m zs H'=>m=xs.length - i/\i<=xs.length/\zs=(List.replicate i true).map V.bl/\Same H H',⟨xs.length,rfl,Q06 _,rfl,Same.refl _⟩,?_⟩;rintro i m zs H' ⟨rfl,aj,rfl,s2⟩;by_cases hi:i<xs.length
  . have ai:i<ys.length:=by omega
    refine .inr ⟨⟨xs,ys,xs[i],ys[i],dy.of (s2 _ _ ha),dy.of (s2 _ _ hb),Q0a hi,Q0a ai⟩,by rw[Q0b,Q0w];exact hX (by omega),λx ac y=>?_⟩;obtain⟨p,x1,x2,hp,rfl,e1,e2,rfl⟩:=y;obtain⟨d1,g1,q1,o1,i1⟩:=hx.get ds (e1 _ (dy.of (s2 _ _ ha)));obtain⟨d2,g2,q2,o2,i2⟩:=hy.get ds (e2 _ (dy.of (s2 _ _ hb)))
    cases q1.symm.trans q2;have sa:=s2.trans (Same.new hp (o:=.tup [x1,x2]));refine⟨p,_,rfl,du.of dw,rfl,_,_,rfl,_,_,rfl,rfl,rfl,L2.yes (dS ?_)⟩;refine⟨_,rfl,_,rfl,x1,x2,d1,g1,g2,rfl,o1.same sa,o2.same sa,λc h2 h1=>ae c (Q0d _ (i2 c h2)) (Q0d _ (i1 c h1)),?_,?_,λH3 s4=>?_⟩
    . have:=Ds.iU q1;simp only[D.dep] at ah;omega
    . have:=Ds.pJ (e:=1) q1;simp only[D.cn] at ab;omega
    refine⟨xs.length - (i+1),by omega,rfl,hi,?_,sa.trans s4⟩;rw[List.replicate_succ',Q0p];rfl
  . refine .inl ⟨⟨xs,ys,dy.of (s2 _ _ ha),dy.of (s2 _ _ hb),.inl (Q1j hi)⟩,λp hp=>⟨p,List.replicate i true,rfl,dy.of dw,?_⟩⟩;rw[vi];exact q _ (s2.trans (Same.new hp))
 |dct md=>
  unfold Own at hv aa;obtain⟨a,ka,f1,rfl,ha,rfl,hx⟩:=hv;obtain⟨b,kb,f2,rfl,hb,rfl,hy⟩:=aa;have ak:b ∉ f2:=hy.DP hb;have al:a≠b:=λz=>ae b Q05 (by rw[z];exact Q05);have hl:ka.length=kb.length:=by rw[hx.len,hy.len]
  have am:kb.length=md.len:=by
   have:=congrArg List.length (hy.keys md);rw[Q0b,Q0b] at this;rw[this,Ds.rV]
  have ag:kb.length<=1000:=by rw[am];have:=md.nK 3;simp only[D.cn] at ab;omega
  refine⟨_,(dh (dM (eN (dX eY (by rfl) T.eZ boot_isinstance (a_ (pv 1) (a_ (eW (v:=.ty "dict") rfl T.me boot_dict rfl) b_)))) (dh (dM (PW.pt (ig (iN (eN (dX eY (by rfl) T.eZ boot_isinstance (a_ (pv 0) (a_ (eW (v:=.ty "dict") rfl T.me boot_dict rfl) b_))))) (iw (dQ lU (dX z7 (by rfl) T.gG PySem.boot_len (a_ (pv 0) b_)) (dX z7 (by rfl) T.gG PySem.boot_len (a_ (pv 1) b_)) (dP _))))) (dq (dF jk)) dO)
  (dq (dF (dX (sW rfl) (by rfl) T.uf boot_all (a_ (DN rfl (kJ (g:=(fU 0)) (tt:=ju) (te:=(yT _ (jq _ _ _ (fF (qB (eV 1) (eV 0)) (fF (qB (eV 2) (eV 0)) hU))))) (own:=["_law_name"]) rfl (jO (N:=XE) (sc:=dN (top 40))) (DM rfl (pv 1)) (λ_ _ _ _ _=>(e8 (i:=0) (show(["_law_name","_law_found","_law_due"]:List Str).Nodup by decide +kernel) rfl (Or.inl rfl) (.inr rfl))) (λ_ _ _ _ _=>kg) (λ_ _ _ _ _=>(k9 (EJ (Gi hu (pv 0) (pv 1)) (by with_unfolding_all rfl)) (mG (dJ L hr J (a_ (j9 hu (pv 1) (pv 0) (λ_ _=>rfl)) (a_ (j9 hu (pv 2) (pv 0) (λ_ _=>rfl)) b_)))))))) b_))))) dO)
  (dh fZ
  (dh fZ
  (dq fZ)))),?_⟩
  refine⟨_,rfl,_,_,_,true,rfl,.dK hb,rfl,true,rfl,dS ?_⟩;refine⟨_,rfl,_,_,_,true,rfl,.dK ha,rfl,true,rfl,dE ?_⟩;refine⟨_,rfl,a,_,rfl,ha,_,rfl,b,_,rfl,hb,rfl,_,rfl,?_⟩;refine qE (show V.int (ka.length:Nat)=V.int (kb.length:Nat) by rw[hl]) ?_;refine⟨_,rfl,b,_,rfl,hb,λo hz=>?_⟩;have kf:∀c u,c≠b->H c=some u->upd H b (.fb o (.dK kb)) c=some u:=λc u hc e=>by rw[dg hc];exact e
  have tf:Tu H (upd H b (.fb o (.dK kb))):=Tu.wr λxs z=>by rw[hb] at z;cases z
  refine⟨λi m zs H'=>m=kb.length - i/\i<=kb.length/\zs=(List.replicate i true).map V.bl/\Same (upd H b (.fb o (.dK kb))) H',⟨kb.length,rfl,Q06 _,rfl,Same.refl _⟩,?_⟩;rintro i m zs H' ⟨rfl,aj,rfl,s2⟩;have af:=s2 _ _ (dw (H:=H) (a:=b) (o:=.fb o (.dK kb)));by_cases hi:i<kb.length
  . refine .inr ⟨⟨hi,af⟩,by rw[Q0b,Q0w];exact hX (by omega),λx ac y=>?_⟩;obtain⟨rfl,pr,an,rfl⟩:=y;obtain⟨x,ex,ao⟩:=hy.DR an;obtain⟨d1,hg⟩:=Ds.get_mem (Q0x ao);obtain⟨v1,g1,ap,o1,i1⟩:=hx.val md hg;obtain⟨v2,g2,aq,o2,i2⟩:=hy.val md hg;rw[ex]
    have ga:gc ac a (.str x) (some v1):=by
     have:=gc.k (k:=Sum.inr x) (s2 _ _ (kf _ _ al ha));rw[ap] at this;exact this
    have gb:gc ac b (.str x) (some v2):=.inl ⟨_,Sum.inr x,.inr ⟨_,af⟩,rfl,by rw[aq]⟩;have k1:Own ac v1 d1 g1:=(o1.keep tf d1 λc hc u e=>kf _ _ (λz=>ae b Q05 (by rw[<-z];exact Q0d _ (i1 c hc))) e).same s2;have k2:Own ac v2 d1 g2:=(o2.keep tf d1 λc hc u e=>kf _ _ (λz=>ak (by rw[<-z];exact i2 c hc)) e).same s2;refine⟨rfl,L2.yes (dS ?_)⟩;refine⟨_,rfl,_,rfl,a,_,rfl,ga,true,rfl,dS ?_⟩;refine⟨_,rfl,_,rfl,a,_,rfl,ga,_,rfl,_,rfl,b,_,rfl,gb,v1,v2,d1,g1,g2,rfl,k1,k2,λc h2 h1=>ae c (Q0d _ (i2 c h2)) (Q0d _ (i1 c h1)),?_,?_,λH3 s4=>?_⟩
    . have:=Ds.oI hg;simp only[D.dep] at ah;omega
    . have:=Ds.DQ (e:=3) hg;simp only[D.cn] at ab;omega
    refine⟨kb.length - (i+1),by omega,rfl,hi,?_,s2.trans s4⟩;rw[List.replicate_succ',Q0p];rfl
  . refine .inl ⟨⟨by omega,af⟩,λp hp=>?_⟩;have s5:=Same.new hp (o:=.lst ((List.replicate i true).map V.bl));refine⟨b,o,_,hz,s5 _ _ af,?_⟩;have ar:p≠b:=λz=>by rw[z,af] at hp;cases hp
    refine⟨p,List.replicate i true,rfl,dy.of (by rw[dg ar,dw]),?_⟩;rw[vi];refine q _ λc u e=>?_;by_cases hc:c=b
    . subst hc;rw[dw,<-hb];exact e
    . rw[dg hc];exact s5 _ _ (s2 _ _ (kf _ _ hc e))
theorem DS (T:Tb mg)(J:Dn K mg "_law_same" mj (top 40) L U):∀n:Nat,dj P w K mg base dm (n+1) L U mj (pK n)
 |0=>by
  have Y:∀vs H Q E,¬pK 0 vs H Q E:=λvs H Q E ⟨_,_,d,_,_,_,_,_,_,hd,_⟩=>absurd d.gB (by omega);exact⟨λvs H Q E h=>absurd h (Y vs H Q E),λA outer s H args us vs Q E _ _ _ _ h=>absurd h (Y vs H Q E)⟩
 |n+1=>K_ n T J (DS T J n)
end Pb
namespace PySem
namespace F
end F
open PyProof.Rows
section
variable {prog:Program}{w:World}{A:Around}{E:Value->Shared->Prop}{s:Shared}
end
end PySem
namespace L2
open PyProof.Rows
section
variable {X:Cx}{e:Expr}{te:TE}{p p2 pos pos2:Pos}
end
end L2
namespace L2
open Spec PyProof.Rows
noncomputable def DT (K:W.Frag) (a:Addr) (n:Nat):It:=
 ⟨λi H=>i<n/\∃xs,dy K H a xs/\xs.length=n,λi H x H'=>H'=H/\∀xs,dy K H a xs->xs.reverse[i]? =some x,λi H=>i=n⟩
theorem La {P:Program}{w:World}{K:W.Frag}{tg:Expr}(a it:Addr)(n:Nat):Turn P w K tg (DT K a n) [it] it (λi h=>h.IsRevIter it a ((n:Int) - 1 - i)) where
 mem:=by simp
 obj:=λi h st b J=>by
  have e:b=it:=by simpa using J
  subst e;obtain⟨o,e,c,d⟩:=st;exact⟨o,e,λv z=>by rw[d] at z;cases z⟩
 keep:=λi h h' st k=>st.at λo e=>k it (by simp) o e
 item:=by
  intro X hP hw hK hc i pins s σ H E I U st Y;subst hP hw hK;obtain⟨hi,xs,hq,hn⟩:=Y;obtain⟨aa,rv,p,hz⟩:=I.list hq;obtain⟨x0,hx⟩:∃x0,xs[n - 1 - i]? =some x0:=⟨_,Q0a (by omega)⟩;obtain⟨u,hu,ru⟩:=rv.get hx;obtain⟨f0,f1,f2,f3,f4,f5⟩:=U it (by simp);have ei:(n:Int) - 1 - i=((n - 1 - i:Nat):Int):=by omega
  rw[ei] at st;refine wpAny_pyNext_rev_item st p.isList (x:=u) (by simpa using hu) λh' L sb=>?_;have I1:Inv X pins σ H { s with heap:=h' }:=I.turned (t':=s.toks) (λb o J e=>(sb.2 b J).trans e) f0 f1 f3 f4 f5;obtain⟨o,e,c,d⟩:=id L;have hr:xs.reverse[i]? =some x0:=by rw[Q3s (by omega),hn];exact hx
  have e2:(n:Int) - 1 - ((i+1:Nat):Int)=((n - 1 - i:Nat):Int) - 1:=by omega
  exact⟨u,rfl,nY (s:={ s with heap:=h' }) e c d (by decide) ⟨_,H,I1,ru,⟨rfl,λys hy=>by rw[I.nW hy hq];exact hr⟩,by show h'.IsRevIter it a _;rw[e2];exact L,λb J=>(U b J).1⟩⟩
 done:=by
  intro X hP hw hK hc i pins s σ H E I U st Y;subst hP hw hK;obtain⟨f0,f1,f2,f3,f4,f5⟩:=U it (by simp);have Y:i=n:=Y;have e:(n:Int) - 1 - i= -1:=by omega
  rw[e] at st;exact wpAny_pyNext_rev_end (I.ok.hd hc) st λh' eb=>⟨rfl,I.turned (t':=s.toks) (λb o J e=>eb b o J e) f0 f1 f3 f4 f5⟩
 self:=λ_ _ _ _ _ st h=>wpAny_pyIter_revIter st h
section
variable {X:Cx}{tg e:Expr}{te:TE}{p pos:Pos}
def Lb (K:W.Frag) (te:TE):TI:=λσ H R=>te σ H λx H1=>∃a xs,x=.ref a/\dy K H1 a xs/\R (DT K a xs.length) H1
theorem Lc (hg:Gl X "reversed")(hm:X.mg "reversed"=none)(hb:bootBuiltins "reversed"=some (.type "reversed"))(he:PE X e te)
 (hs:starEach [e] X.env=(false,eval e X.env)::starEach [] X.env:=by rfl):PI X tg (.Call (.Name "reversed" p) [e] [] pos) (Lb X.K te):=by
 intro pins s σ H R I h;refine wpAny_Call_Name_kw (j0 I hg hm hb ?_ (by decide) (by decide));refine PyProof.Rows.callWith_type1 ?_ hs rfl;rw[hs];show wpAny _ _ (spliced ((false,eval e X.env)::[])) _ _ s;refine Calls.spliced_cons (dD (he pins s σ H _ I h) λu L zq=>?_);obtain⟨x,H1,I1,r1,q1⟩:=zq;refine Calls.spliced_nil ?_;obtain⟨a,xs,rfl,hq,q⟩:=q1
 cases r1;obtain⟨J,r',pl,hz⟩:=I1.list hq;have Y:=r'.length;have hsz:J.toArray.size=J.length:=Q0e;refine call_reversed_list pl.isList ?_;have U:(L.heap.push (revObj a ((J.toArray.size:Int) - 1))).IsRevIter L.heap.objs.size a ((J.toArray.size:Int) - 1):=⟨_,Q0f _ rfl,rfl,rfl⟩;refine wpAny_pyIter_revIter (s:={ L with heap:=L.heap.push (revObj a ((J.toArray.size:Int) - 1)) }) U ?_;refine⟨_,[_],_,_,H1,rfl,I1.kept (t':=L.toks) λb o e=>Q04 _ e,La a L.heap.objs.size xs.length,?_,λb hb=>?_,q⟩
 . have e:((xs.length:Int) - 1 - (0:Nat))=(J.toArray.size:Int) - 1:=by rw[hsz,<-Y];omega
   show Heap.IsRevIter _ _ a ((xs.length:Int) - 1 - (0:Nat));rw[e];exact U
 . have e:=List.mem_singleton.mp hb;subst e;exact I1.jI (Q00 _) (I1.hok.fresh (Q00 _))
end
end L2
namespace Pb
open L2
end Pb
namespace Pb
open L2 PyProof.Rows
theorem DU (b:Bool):∀(xs J:Ds) (i:Nat),(xs.gw b J).at i=if i<xs.len then(xs.at (xs.len - 1 - i)).map (D.eQ b) else J.at (i - xs.len)
 | .nil,J,i=>by
   unfold Ds.gw;show _=if i<0 then _ else J.at (i - 0)
   rw[if_neg (Q1w _),Nat.sub_zero]
 | .cons x d r,J,i=>by
   unfold Ds.gw;rw[DU b r];have L:(Ds.cons x d r).len=r.len+1:=rfl;rw[L];by_cases h:i<r.len
   . rw[if_pos h,if_pos (by omega)];have:r.len+1 - 1 - i=(r.len - 1 - i)+1:=by omega
     rw[this];rfl
   . rw[if_neg h];by_cases h2:i=r.len
     . subst h2;rw[if_pos (by omega),Q2p,Nat.add_sub_cancel,Q2p];rfl
     . rw[if_neg (by omega)];have:i - r.len=(i - (r.len+1))+1:=by omega
       rw[this];rfl
theorem DV (b:Bool):∀(xs J:Ds),(xs.gw b J).len=xs.len+J.len
 | .nil,J=>by unfold Ds.gw;show _=0+_;omega
 | .cons x d r,J=>by
   unfold Ds.gw;rw[DV b r];show r.len+(J.len+1)=r.len+1+J.len;omega
theorem pL (b:Bool):∀m:Ds,(m.gH b).names=m.names
 | .nil=>by unfold Ds.gH;rfl
 | .cons x d r=>by unfold Ds.gH;show x::(r.gH b).names=x::r.names;rw[pL b r]
theorem DW (b:Bool):∀(m:Ds) (i:Nat),(m.gH b).at i=(m.at i).map (D.eQ b)
 | .nil,i=>by unfold Ds.gH;cases i <;> rfl
 | .cons x d r,0=>by unfold Ds.gH;rfl
 | .cons x d r,i+1=>by unfold Ds.gH;exact DW b r i
theorem Ds.name_at:∀{m:Ds}{i:Nat}{d:D},m.at i=some d->∃x,m.names[i]? =some x
 | .nil,i,d,h=>by cases i <;> cases h
 | .cons x c r,0,d,h=>⟨x,rfl⟩
 | .cons x c r,i+1,d,h=>Ds.name_at (m:=r) (i:=i) h
theorem Ds.iD:∀{m:Ds}{i:Nat}{x:Str},m.names[i]? =some x->∃d,m.at i=some d
 | .nil,i,d,h=>by cases i <;> cases h
 | .cons x c r,0,d,h=>⟨c,rfl⟩
 | .cons x c r,i+1,d,h=>Ds.iD (m:=r) (i:=i) h
theorem Ds.mT:∀{m:Ds}{i:Nat}{x:Str}{d:D},m.names.Nodup->m.names[i]? =some x->m.at i=some d->m.get x=some d
 | .nil,i,x,d,_,h,_=>by cases i <;> cases h
 | .cons y c r,0,x,d,_,h,e=>by
   have e1:y=x:=Option.some.inj h;have L:c=d:=Option.some.inj e;subst e1 L;exact if_pos rfl
 | .cons y c r,i+1,x,d,J,h,e=>by
   have J:(y::r.names).Nodup:=J;obtain⟨U,Y⟩:=List.nodup_cons.mp J;have h:r.names[i]? =some x:=h;show(if x=y then _ else r.get x)=_;rw[if_neg λz=>U (by rw[<-z];exact Q0x h)];exact Ds.mT Y h e
theorem Ld {H:Hp}{vs:List V}{X:Ds}{f:List Addr}(h:dz H vs X f):∃g,dz H (vs.take 1++vs) (nA true X) g/\∀c∈g,c∈f:=by
 cases X with
 |nil=>
  unfold dz at h;rw[h.1];refine⟨[],?_,λc hc=>(nomatch hc)⟩;show dz H [] .nil [];unfold dz;exact⟨rfl,rfl⟩
 |cons x d r=>
  have U:=h;unfold dz at h;obtain⟨v,q,J,L,rfl,rfl,h1,h2⟩:=h;refine⟨J++(J++L),?_,λc hc=>?_⟩
  . show dz H (v::v::q) (.cons "" d (.cons x d r)) _;rw[dz];exact⟨v,v::q,J,J++L,rfl,rfl,h1,U⟩
  . rcases List.mem_append.mp hc with hc|hc
    . exact Q0u _ hc
    . exact hc
theorem Le (vs:List V):n_ vs none (some 1)=vs.take 1:=by
 cases vs with
 |nil=>rfl
 |cons v q=>rfl
theorem Lf {a:Addr}{o:Obj}{kvs:List (Key × V)}{H:Hp}(h:H a=some (.fb o (.dK kvs))):rG (vh a o kvs) H (kvs.map λp=>kV p.1):=by
 refine⟨λi x e=>⟨?_,h⟩,λi x H' y=>?_,?_⟩
 . obtain⟨hi,_⟩:=List.getElem?_eq_some_iff.mp e;rw[Q0b] at hi;exact hi
 . obtain⟨rfl,p,hp,rfl⟩:=y;exact⟨rfl,by rw[Q0o,hp];rfl⟩
 . exact⟨by rw[Q0b];exact Q00 _,h⟩
noncomputable def D.rW:D->Bool
 | .lst _=>true
 |_=>false
theorem DX {K:W.Frag}{H:Hp}{u:V}(t:D){f:List Addr}(h:Own H u t f):∃ty,iO K H u ty/\W.kitOne K ty (Value.type "str")=some t.isStr/\W.kitOne K ty (Value.type "list")=some t.rW:=by
 cases t with
 |int z=>cases jW h;exact⟨_,.int z,rfl,rfl⟩
 |str z=>cases i4 h;exact⟨_,.str z,rfl,rfl⟩
 |tup xs=>
  unfold Own at h;obtain⟨a,vs,rfl,J,_⟩:=h;exact⟨_,.tup J,rfl,rfl⟩
 |lst xs=>obtain⟨a,vs,_,rfl,J,_⟩:=jB h;exact⟨_,.lst J,rfl,rfl⟩
 |dct m=>obtain⟨a,vs,_,rfl,J,_⟩:=kU h;exact⟨_,.dK J,rfl,rfl⟩
theorem DY {H:Hp}{v:V}{a b:Str}{x y:D}{fp:List Addr}(h:Own H v (.tup (.cons a x (.cons b y .nil))) fp):∃t u w f g,v=.ref t/\H t=some (.tup [u,w])/\Own H u x f/\Own H w y g/\fp=f++g:=by
 unfold Own at h;obtain⟨t,vs,rfl,J,h⟩:=h;unfold dz at h;obtain⟨u,q,L,Y,rfl,rfl,h1,h⟩:=h;unfold dz at h;obtain⟨w,q,U,g2,rfl,rfl,h2,h⟩:=h;unfold dz at h;obtain⟨rfl,rfl⟩:=h;exact⟨t,u,w,L,U,rfl,J,h1,h2,by rw[Q0n]⟩
theorem Lg {H:Hp}{t:Addr}{u w:V}{a b:Str}{x y:D}{f g:List Addr}(J:H t=some (.tup [u,w]))(h1:Own H u x f)(h2:Own H w y g):Own H (.ref t) (.tup (.cons a x (.cons b y .nil))) (f++g):=by
 unfold Own;refine⟨t,_,rfl,J,?_⟩;rw[dz];refine⟨u,[w],f,g,rfl,rfl,h1,?_⟩;rw[dz];refine⟨w,[],g,[],rfl,by rw[Q0n],h2,?_⟩;unfold dz;exact⟨rfl,rfl⟩
def pM (n:Nat):Sp:=λvs H Q _=>∃v d k fp,∃L:Bool,vs=[v,.bl L]/\Own H v d fp/\eA d k/\k.W/\d.dep<=n/\d.cn 1<=1000/\∀U J H',Same H H'->Own H' U (d.eQ L) J->(∀c∈J,H c=none\/c∈fp)->Q U H'
variable {P:Program}{w:World}{K:W.Frag}{mg:Str->Option Value}{base:Heap}
theorem Lh:d9 XW XX (dN (top 46)):=eG
theorem Li (n:Nat)(T:Tb mg)(J:Dn K mg "_law_turned" ml (top 46) U Y)(L:dj P w K mg base dm (n+1) U Y ml (pM n)):dj P w K mg base dm ((n+1)+1) U Y ml (pM (n+1)):=by
 refine J.F.ok Lh λvs H Q E h=>?_;obtain⟨v,d,k,fp,tw,rfl,hv,hS,hW,an,ag,fin⟩:=h;refine⟨rfl,λaX A outer s nd hr hu=>?_⟩
 refine⟨_,(dh (dM (eN (dX eY (by rfl) T.eZ boot_isinstance (a_ (pv 0) (a_ (eW (v:=.ty "list") rfl T.ku boot_list rfl) b_)))) (dh (Ac (i:=2) nd rfl gh (g:=(fU 0)) (tt:=ju) (te:=(jq _ _ _ (fF (eV 0) (fF (eV 2) hU)))) (own:=["_law_part"]) rfl (jO (N:=XW) (sc:=dN (top 46))) (Lc rfl T.HQ boot_reversed (pv 0)) (λ_ _ _ _ _=>(e8 (i:=0) (show(["_law_part","_law_value_here","_law_twice","_law_row","_law_made","_law_name"]:List Str).Nodup by decide +kernel) rfl (Or.inl rfl) (.inr rfl))) (λ_ _ _ _ _=>kg) (λ_ _ _ _ _=>(dJ L hr J (a_ (pv 0) (a_ (pv 2) b_)))))
  (dh (dM (eN (pv 1)) (dq (dF (dk jK (lY FV (pv 2) sP (jJ c_)) (pv 2)))) dO)
  (dq (dF (pv 2))))) dO)
  (dh (dM (eN (dX eY (by rfl) T.eZ boot_isinstance (a_ (pv 0) (a_ (eW (v:=.ty "dict") rfl T.me boot_dict rfl) b_)))) (dh (dI 3 nd qD)
  (dh (i9 PassesOwn.never rfl (DM rfl (pv 0)) (e8 (i:=4) nd rfl gh) (dq (qC hu (pv 3) (pv 4) (dJ L hr J (a_ (j9 hu (pv 0) (pv 4) (λ_ _=>rfl)) (a_ (pv 1) b_))) rfl)))
  (dq (dF (DN rfl (pv 3)))))) dO)
  (dh (dM (PW.pt (i8 (eN (dX eY (by rfl) T.eZ boot_isinstance (a_ (pv 0) (a_ (eW (v:=.ty "tuple") rfl T.jN boot_tuple rfl) b_)))) (i8 (eN (dX eY (by rfl) T.eZ boot_isinstance (a_ (dR (pv 0) c_) (a_ (eW (v:=.ty "list") rfl T.ku boot_list rfl) b_)))) (j1 (iN (eN (dX eY (by rfl) T.eZ boot_isinstance (a_ (dR (pv 0) c_) (a_ (eW (v:=.ty "str") rfl T.lq boot_str rfl) b_))))))))) (dq (dF (f_ (a_ (dJ L hr J (a_ (dR (pv 0) c_) (a_ (pv 1) b_))) (a_ (dR (pv 0) c_) b_))))) dO)
  (dq (dF (pv 0)))))),?_⟩
 ac_rfl
 have inv:=hS.inv
 cases k with
 |num=>
  obtain⟨i,rfl,hi⟩:=inv
  cases jW hv;refine⟨_,rfl,_,_,_,false,rfl,.int i,rfl,false,rfl,dE ?_⟩;refine⟨_,rfl,_,_,_,false,rfl,.int i,rfl,false,rfl,dE ?_⟩;refine⟨_,rfl,_,_,_,false,rfl,.int i,rfl,false,rfl,dE ?_⟩;exact⟨_,rfl,fin _ _ _ (Same.refl _) (by unfold D.eQ;exact hv) λc hc=>.inr hc⟩
 |eM=>
  obtain⟨x,rfl,hi⟩:=inv
  cases i4 hv;refine⟨_,rfl,_,_,_,false,rfl,.str x,rfl,false,rfl,dE ?_⟩;refine⟨_,rfl,_,_,_,false,rfl,.str x,rfl,false,rfl,dE ?_⟩;refine⟨_,rfl,_,_,_,false,rfl,.str x,rfl,false,rfl,dE ?_⟩;exact⟨_,rfl,fin _ _ _ (Same.refl _) (by unfold D.eQ;exact hv) λc hc=>.inr hc⟩
 |dG fs=>
  obtain⟨m,rfl,hm⟩:=inv;unfold Own at hv;obtain⟨b,kb,fq,rfl,hb,rfl,hy⟩:=hv;have av:b ∉ fq:=hy.DP hb;have ab:=hW;unfold Kd.W at ab;have aw:m.names.Nodup:=by rw[hm.names];exact ab.1
  have ax:kb.length=m.names.length:=hy.len
  have aY:m.names.length<=1000:=by
   have:=m.nK 3;rw[Ds.rV];simp only[D.cn] at ag;omega
  refine⟨_,rfl,_,_,_,false,rfl,.dK hb,rfl,false,rfl,dE ?_⟩;refine⟨_,rfl,_,_,_,true,rfl,.dK hb,rfl,true,rfl,dS ?_⟩;intro p hp;have al:b≠p:=dA hb hp;refine⟨_,rfl,b,kb,rfl,by rw[dg al];exact hb,λo hz=>?_⟩;have kf:∀c u,c≠b->H c=some u->upd H b (.fb o (.dK kb)) c=some u:=λc u hc e=>by rw[dg hc];exact e
  have tf:Tu H (upd H b (.fb o (.dK kb))):=Tu.wr λxs z=>by rw[hb] at z;cases z
  refine JQ (xs:=kb.map λp=>kV p.1) (λj σ H'=>(Same (upd H b (.fb o (.dK kb))) H'/\∃kvs fp,H' p=some (.dK kvs)/\dH H' kvs ((m.gH tw).take j) fp/\(∀c∈fp,H c=none\/c∈fq)/\p ∉ fp)/\∃x y,σ=[some (.ref b),some (.bl tw),x,some (.ref p),y]) ?_ ?_ ?_ ?_
  . refine⟨⟨λc u e=>?_,[],[],?_,by rw[Ds.take_zero];unfold dH;exact⟨rfl,rfl⟩,λc hc=>(nomatch hc),λz=>(nomatch z)⟩,_,_,rfl⟩
    . by_cases hc:c=b
      . subst hc;rw[dw] at e ⊢;exact e
      . rw[dg hc] at e ⊢;rw[dg (dA e hp)];exact e
    . rw[dg al.symm,dw]
  . rintro j σ H' _ ⟨⟨s2,_⟩,_⟩;exact Lf (s2 _ _ dw)
  . rintro j x σ H' hx ⟨⟨s2,kvs,f2,am,hO,ac,ao⟩,x0,y0,rfl⟩;have ah:=s2 _ _ (dw (H:=H) (a:=b) (o:=.fb o (.dK kb)));rw[Q0o] at hx
    cases ap:kb[j]? with
    |none=>rw[ap] at hx;cases hx
    |some pr=>
     rw[ap] at hx
     cases hx;obtain⟨x,ex,ae⟩:=hy.DR ap;obtain⟨d,ai⟩:=Ds.iD ae;have hg:=Ds.mT aw ae ai;obtain⟨v2,g2,aE,o2,i2⟩:=hy.val m hg;show fU 4 (kV pr.1) _ _ _;rw[ex];have gb:gc H' b (.str x) (some v2):=.inl ⟨_,Sum.inr x,.inr ⟨_,ah⟩,rfl,by rw[aE]⟩;have k2:Own H' v2 d g2:=(o2.keep tf d λc hc u e=>kf _ _ (λz=>av (by rw[<-z];exact i2 c hc)) e).same s2
     obtain⟨kd,ay⟩:∃kd,fs.at j=some (x,kd):=by
      have h1:fs.names[j]? =some x:=by rw[<-hm.names];exact ae
      rw[Fs.iD] at h1
      cases e:fs.at j with
      |none=>rw[e] at h1;cases h1
      |some q=>rw[e] at h1;cases h1;exact⟨q.2,rfl⟩
     obtain⟨d',_,aC,aF,_⟩:=hm.at ab.1 ay
     cases ai.symm.trans aC;have hj:j<m.names.length:=by obtain⟨hj,_⟩:=List.getElem?_eq_some_iff.mp ae;exact hj
     dsimp only[fU];refine⟨_,rfl,_,rfl,b,v2,rfl,gb,_,rfl,v2,d,kd,g2,tw,rfl,k2,aF,Fs.l6 ab.2.2 ay,?_,?_,λv7 f7 H7 s7 aj af=>?_⟩
     . have:=Ds.iU ai;simp only[D.dep] at an;omega
     . have:=Ds.pJ (e:=3) ai;simp only[D.cn] at ag;omega
     have mD:=s7 _ _ am;have mE:=hO.same s7
     have aD:∀c∈f7,H c=none\/c∈fq:=λc hc=>by
      rcases af c hc with z|z
      . by_cases az:c=b
        . subst az;rw[ah] at z;cases z
        . have z1:=kW s2 z;rw[dg az] at z1;exact .inl z1
      . exact .inr (i2 c z)
     have aA:p ∉ f7:=λz=>by
      rcases af p z with z|z
      . rw[am] at z;cases z
      . exact(hy.alive m p (i2 p z)).ne hp rfl
     have aG:x ∉ ((m.gH tw).take j).names:=by
      rw[Ds.kX,pL];intro z;obtain⟨j',aH,e'⟩:=Q1q z;rw[Q0k] at aH;rw[Q2o] at e';obtain⟨hj,aI⟩:=List.getElem?_eq_some_iff.mp ae;have:=(Q19 aw).mp (e'.trans aI.symm);omega
     have ax:kvs.length<=1000:=by
      rw[mE.len,Ds.kX,pL,Q0k];omega
     refine⟨_,rfl,_,rfl,p,_,rfl,lb.k (k:=Sum.inr x) mD (hX (by omega)),?_⟩;rw[qV (mE.t_ aG)];have kp:∀c u,c≠p->H7 c=some u->upd H7 p (.dK (kvs++[(Sum.inr x,v7)])) c=some u:=λc u hc e=>by rw[dg hc];exact e
     have tp:Tu H7 (upd H7 p (.dK (kvs++[(Sum.inr x,v7)]))):=Tu.wr λxs z=>by rw[mD] at z;cases z
     refine⟨⟨λc u e=>?_,_,f2++f7,dw,?_,?_,?_⟩,_,_,rfl⟩
     . have aJ:c≠p:=λz=>by
        rw[z,dg al.symm,hp] at e;cases e
       exact kp _ _ aJ (s7 _ _ (s2 _ _ e))
     . rw[Ds.take_snoc (by rw[pL];exact ae) (by rw[DW,ai];rfl)];exact dH.snoc (aj.keep tp _ λc hc u e=>kp _ _ (λz=>aA (by rw[<-z];exact hc)) e) _ (mE.keep tp _ λc hc u e=>kp _ _ (λz=>ao (by rw[<-z];exact hc)) e)
     . intro c hc;rcases List.mem_append.mp hc with hc|hc
       . exact ac c hc
       . exact aD c hc
     . intro z;rcases List.mem_append.mp z with z|z
       . exact ao z
       . exact aA z
  . rintro σ H' ⟨⟨s2,kvs,f2,am,hO,ac,ao⟩,x0,y0,rfl⟩;have ah:=s2 _ _ (dw (H:=H) (a:=b) (o:=.fb o (.dK kb)))
    have et:(m.gH tw).take (kb.map λp=>kV p.1).length=m.gH tw:=by
     rw[Q0b,ax,<-pL tw m];exact Ds.take_all _
    rw[et] at hO
    have aK:b ∉ f2:=λz=>by
     rcases ac b z with z|z
     . rw[hb] at z;cases z
     . exact av z
    refine⟨_,rfl,b,o,kb,hz,ah,?_⟩;have tb:Tu H' (upd H' b (.dK kb)):=Tu.wr λxs z=>by rw[ah] at z;cases z
    refine fin _ (p::f2) _ (λc u e=>?_) ?_ λc hc=>?_
    . by_cases hc:c=b
      . subst hc;rw[dw,<-hb];exact e
      . rw[dg hc];exact s2 _ _ (kf _ _ hc e)
    . unfold D.eQ Own;exact⟨p,kvs,f2,rfl,by rw[dg al.symm];exact am,rfl,hO.keep tb _ λc hc u e=>by rw[dg (λz=>aK (by rw[<-z];exact hc))];exact e⟩
    . rcases List.mem_cons.mp hc with rfl|hc
      . exact .inl hp
      . rcases ac c hc with z|z
        . exact .inl z
        . exact .inr (Q0d _ z)
 |rows key aZ fs=>
  obtain⟨xs,rfl,hm⟩:=inv;unfold Own at hv;obtain⟨a,vs,fq,rfl,ha,rfl,hx⟩:=hv;have ak:=hx.len;have ab:=hW;unfold Kd.W at ab;have aL:(Kd.dG fs).W:=by unfold Kd.W;exact⟨ab.1,ab.2.1,ab.2.2.1⟩
  have aW:vs.length<=1000:=by rw[ak];have:=xs.nK 1;simp only[D.cn] at ag;omega
  refine⟨_,rfl,_,_,_,true,rfl,.lst ha,rfl,true,rfl,dS ?_⟩;refine⟨_,rfl,a,vs,rfl,dy.of ha,λi m' zs H'=>m'=vs.length - i/\i<=vs.length/\Same H H'/\∃g,dz H' zs ((xs.gw tw .nil).take i) g/\zs.length=i/\∀c∈g,H c=none\/c∈fq,⟨vs.length,rfl,Q06 _,Same.refl _,[],by rw[Ds.take_zero];unfold dz;exact⟨rfl,rfl⟩,rfl,λc hc=>(nomatch hc)⟩,?_⟩;intro i m' zs H' zq;obtain⟨rfl,a1,s2,g,hO,aq,ac⟩:=zq;by_cases hi:i<vs.length
  . refine .inr ⟨⟨hi,vs,dy.of (s2 _ _ ha),rfl⟩,by rw[aq];exact hX (by omega),λx a2 y=>?_⟩;obtain⟨rfl,y⟩:=y;have e1:=y _ (dy.of (s2 _ _ ha));rw[Q3s hi] at e1;obtain⟨d1,g1,q1,o1,i1⟩:=hx.get xs e1;have q2:(xs.gw tw .nil).at i=some (d1.eQ tw):=by rw[DU,if_pos (by omega),<-ak,q1];rfl
    obtain⟨y,aM⟩:=Ds.name_at q2;refine⟨rfl,L2.yes (dS ?_)⟩;refine⟨_,rfl,_,rfl,x,d1,.dG fs,g1,tw,rfl,o1.same s2,(hm.at q1).1,aL,?_,?_,λv7 f7 H7 s7 aj af=>?_⟩
    . have:=Ds.iU q1;simp only[D.dep] at an;omega
    . have:=Ds.pJ (e:=1) q1;simp only[D.cn] at ag;omega
    refine⟨vs.length - (i+1),by omega,rfl,hi,s2.trans s7,g++f7,?_,by rw[Q01,aq];rfl,λc hc=>?_⟩
    . rw[Ds.take_snoc aM q2];exact dz.snoc aj _ (hO.same s7)
    . rcases List.mem_append.mp hc with hc|hc
      . exact ac c hc
      . rcases af c hc with z|z
        . exact .inl (kW s2 z)
        . exact .inr (i1 c z)
  . have ei:i=vs.length:=by omega
    subst ei
    have et:(xs.gw tw .nil).take vs.length=xs.gw tw .nil:=by
     have:=Ds.take_all (xs.gw tw .nil);rw[Ds.rV,DV] at this;rw[ak];exact this
    rw[et] at hO;refine .inl ⟨rfl,λp hp=>?_⟩;have s3:=Same.new hp (o:=.lst zs);have e3:upd H' p (.lst zs) p=some (.lst zs):=dw;have ar:=hO.same s3;have aN:H p=none:=kW s2 hp;generalize upd H' p (.lst zs)=H3 at s3 e3 ar ⊢
    cases tw with
    |true=>
     refine⟨_,rfl,true,rfl,dS ?_⟩;refine⟨_,rfl,1,rfl,p,zs,rfl,dy.of e3,λp4 aO=>?_⟩;rw[Le];have s4:=Same.new aO (o:=.lst (zs.take 1));refine⟨_,rfl,p4,p,zs.take 1,zs,rfl,rfl,dw,s4 _ _ e3,?_,λp5 aB=>?_⟩
     . rw[Q0k,aq];exact jC (by omega)
     have s5:=Same.new aB (o:=.lst (zs.take 1++zs));obtain⟨g5,nH,aP⟩:=Ld ar;refine fin _ (p5::g5) _ (((s2.trans s3).trans s4).trans s5) ?_ λc hc=>?_
     . unfold D.eQ Own;exact⟨p5,_,g5,rfl,dw,rfl,(nH.same s4).same s5⟩
     . rcases List.mem_cons.mp hc with rfl|hc
       . exact .inl (kW ((s2.trans s3).trans s4) aB)
       . rcases ac c (aP c hc) with z|z
         . exact .inl z
         . exact .inr (Q0d _ z)
    |false=>
     refine⟨_,rfl,false,rfl,dE ?_⟩;refine⟨_,rfl,fin _ (p::g) _ (s2.trans s3) ?_ λc hc=>?_⟩
     . have e:nA false (xs.gw false .nil)=xs.gw false .nil:=by
        cases xs.gw false .nil <;> rfl
       unfold D.eQ Own;rw[e];exact⟨p,_,g,rfl,e3,rfl,ar⟩
     . rcases List.mem_cons.mp hc with rfl|hc
       . exact .inl aN
       . rcases ac c hc with z|z
         . exact .inl z
         . exact .inr (Q0d _ z)
 |tree k=>
  obtain⟨x,y,t,as,rfl,ht,a3⟩:=inv;obtain⟨r,u,w',f,g,rfl,aa,h1,h2,rfl⟩:=DY hv;obtain⟨l,ls,fl,rfl,hl,_⟩:=jB h2;obtain⟨ty,au,aQ,_⟩:=DX (K:=K) t h1;have aS:k.W:=by unfold Kd.W at hW;exact hW
  refine⟨_,rfl,_,_,_,false,rfl,.tup aa,rfl,false,rfl,dE ?_⟩;refine⟨_,rfl,_,_,_,false,rfl,.tup aa,rfl,false,rfl,dE ?_⟩;refine⟨_,rfl,_,_,_,true,rfl,.tup aa,rfl,true,rfl,dS ?_⟩;refine⟨_,rfl,r,_,_,_,rfl,rfl,du.of aa,rfl,_,_,_,true,rfl,.lst hl,rfl,true,rfl,dS ?_⟩;refine⟨_,rfl,r,_,_,_,rfl,rfl,du.of aa,rfl,_,_,ty,t.isStr,rfl,au,aQ,t.isStr,rfl,?_⟩;have et:(D.tup (.cons x t (.cons y (.lst as) .nil))).eQ tw=.tup (.cons x (if t.isStr=true then t else t.eQ tw) (.cons y (.lst as) .nil)):=by rw[D.eQ,Ds.nB]
  rw[et] at fin;by_cases e:t.isStr=true
  . rw[if_pos e] at fin;rw[e];exact dE ⟨_,rfl,fin _ _ _ (Same.refl _) hv λc hc=>.inr hc⟩
  . rw[if_neg e] at fin;rw[Bool.eq_false_iff.mpr e];refine dS ?_;refine⟨_,rfl,r,_,_,_,rfl,rfl,du.of aa,rfl,_,rfl,u,t,k,f,tw,rfl,h1,ht,aS,?_,?_,λv7 f7 H7 s7 aj af=>?_⟩
    . simp only[D.dep,Ds.dep] at an;omega
    . simp only[D.cn,Ds.cn] at ag;omega
    refine⟨_,rfl,r,_,_,_,rfl,rfl,du.of (s7 _ _ aa),rfl,gC,λtq aT=>?_⟩;have s8:=Same.new aT (o:=.tup [v7,.ref l]);refine fin _ _ _ (s7.trans s8) (Lg dw (aj.same s8) (h2.same (s7.trans s8))) λc hc=>?_;rcases List.mem_append.mp hc with hc|hc
    . rcases af c hc with z|z
      . exact .inl z
      . exact .inr (Q0u _ z)
    . exact .inr (Q09 _ hc)
 |eR fs=>
  obtain⟨x,y,z,v',rfl,hx,a4⟩:=inv;obtain⟨r,u,w',f,g,rfl,aa,h1,h2,rfl⟩:=DY hv
  cases i4 h1;obtain⟨ty,au,_,aU⟩:=DX (K:=K) v' h2
  have e:(D.tup (.cons x (.str z) (.cons y v' .nil))).eQ tw=.tup (.cons x (.str z) (.cons y v' .nil)):=by
   unfold D.eQ
   cases v' <;> (unfold Ds.nB;rfl)
  rw[e] at fin;refine⟨_,rfl,_,_,_,false,rfl,.tup aa,rfl,false,rfl,dE ?_⟩;refine⟨_,rfl,_,_,_,false,rfl,.tup aa,rfl,false,rfl,dE ?_⟩;refine⟨_,rfl,_,_,_,true,rfl,.tup aa,rfl,true,rfl,dS ?_⟩;refine⟨_,rfl,r,_,_,_,rfl,rfl,du.of aa,rfl,_,_,ty,v'.rW,rfl,au,aU,v'.rW,rfl,?_⟩;by_cases el:v'.rW=true
  . rw[el];refine dS ?_;refine⟨_,rfl,r,_,_,_,rfl,rfl,du.of aa,rfl,_,_,_,true,rfl,.str z,rfl,true,rfl,?_⟩;exact dE ⟨_,rfl,fin _ _ _ (Same.refl _) hv λc hc=>.inr hc⟩
  . rw[Bool.eq_false_iff.mpr el];exact dE (dE ⟨_,rfl,fin _ _ _ (Same.refl _) hv λc hc=>.inr hc⟩)
theorem DZ (T:Tb mg)(J:Dn K mg "_law_turned" ml (top 46) L U):∀n:Nat,dj P w K mg base dm (n+1) L U ml (pM n)
 |0=>by
  have Y:∀vs H Q E,¬pM 0 vs H Q E:=λvs H Q E ⟨_,d,_,_,_,_,_,_,_,hd,_⟩=>absurd d.gB (by omega);exact⟨λvs H Q E h=>absurd h (Y vs H Q E),λA outer s H args us vs Q E _ _ _ _ h=>absurd h (Y vs H Q E)⟩
 |n+1=>Li n T J (DZ T J n)
def Kt (b:Addr) (H H':Hp):Prop:=∀c o,c≠b->(∀ps,o≠ .fm ps)->H c=some o->H' c=some o
theorem Kt.of {b:Addr}{H H':Hp}(s:Same H H'):Kt b H H':=λc o _ _ e=>s c o e
theorem Kt.sb {b:Addr}{H H':Hp}(s:SB b H H'):Kt b H H':=λc o hc _ e=>s c o hc e
theorem Kt.tu {b:Addr}{H H':Hp}{l:List V}(k:Kt b H H')(J:H b=some (.lst l)):Tu H H':=λc xs e=>k c _ (fo e J (by intro z;cases z)) (by intro ps z;cases z) e
structure RW (K:W.Frag) (Ts:List (Addr × Pos × Str)) (a b:Addr) (ns:List Int) (n:Int) (H:Hp):Prop where
 g:G0 K H a b ns n
 t:∀q∈Ts,d_ q.1 q.2.1 q.2.2 H
theorem _root_.L2.d_.go {S:List Addr}{P:Addr}{J:Pos}{L:Str}{H H':Hp}(h:d_ P J L H)(k:∀c o,c ∉ S->H c=some o->H' c=some o)(hl:∀p∈S,(∃l,H p=some (.lst l))\/∃ps,H p=some (.fm ps))(U:P ∉ S):d_ P J L H':=by
 rcases h with e|⟨c,e,f⟩
 . exact .inl (k _ _ U e)
 . refine .inr ⟨c,k _ _ U e,k _ _ (λz=>?_) f⟩;rcases hl c z with⟨l,q⟩|⟨l,q⟩ <;> rw[f] at q <;> cases q
section
variable {K:W.Frag}{Ts:List (Addr × Pos × Str)}{a b:Addr}{ns:List Int}{n n':Int}{H H':Hp}
theorem RW.go {S:List Addr}(h:RW K Ts a b ns n H)(k:∀c o,c ∉ S->H c=some o->H' c=some o)(hl:∀p∈S,(∃l,H p=some (.lst l))\/∃ps,H p=some (.fm ps))(L:H' b=some (.lst [.int n']))(Y:n<=n')(U:∀q∈Ts,q.1∈S->d_ q.1 q.2.1 q.2.2 H'):RW K Ts a b ns n' H':=by
 refine⟨⟨?_,h.g.len,L,by have:=h.g.pos;omega⟩,λq J=>?_⟩
 . rcases h.g.jS with⟨o,e⟩|e
   . refine .inl ⟨o,k a _ (λz=>?_) e⟩;rcases hl a z with⟨l,q⟩|⟨l,q⟩ <;> rw[e] at q <;> cases q
   . exact .inr e
 . by_cases c:q.1∈S
   . exact U q J c
   . exact(h.t q J).go k hl c
theorem RW.same (h:RW K Ts a b ns n H)(s:Same H H'):RW K Ts a b ns n H':=h.go (S:=[]) (λc o _ e=>s c o e) (λp hp=>(nomatch hp)) (s _ _ h.g.at_) (Q2m _) λq _ J=>(nomatch J)
theorem RW.sb (h:RW K Ts a b ns n H)(s:SB b H H')(J:H' b=some (.lst [.int n']))(L:n<=n'):RW K Ts a b ns n' H':=h.go (S:=[b]) (λc o hc e=>s c o (λz=>hc (by rw[z];exact Q05)) e) (λp hp=>by rw[List.mem_singleton.mp hp];exact .inl ⟨_,h.g.at_⟩) J L λq U hc=>by
 have:=h.t q U;obtain⟨ps,e⟩:=this.tab;rw[List.mem_singleton.mp hc,h.g.at_] at e
 cases e
end
section
variable {K:W.Frag}{Ts:List (Addr × Pos × Str)}{a b:Addr}{ns:List Int}{n n':Int}{H H':Hp}
theorem D0:∀{Ts:List (Addr × Pos × Str)},(Ts.map (·.1)).Nodup->∀{q L:Addr × Pos × Str},q∈Ts->L∈Ts->q.1=L.1->q=L
 |[],_,_,_,h,_,_=>nomatch h
 |t::r,U,q,L,h,h',e=>by
  have U:(t.1::r.map (·.1)).Nodup:=U;obtain⟨Y,n2⟩:=List.nodup_cons.mp U;rcases List.mem_cons.mp h with z|z
  . rcases List.mem_cons.mp h' with J|J
    . rw[z,J]
    . exact absurd (by rw[<-z,e];exact Q1y (f:=λq:Addr × Pos × Str=>q.1) J) Y
  . rcases List.mem_cons.mp h' with J|J
    . exact absurd (by rw[<-J,<-e];exact Q1y (f:=λq:Addr × Pos × Str=>q.1) z) Y
    . exact D0 n2 z J e
theorem RW.gl (nd:(Ts.map (·.1)).Nodup)(h:RW K Ts a b ns n H)(bs:List Addr)(L:List (Addr × Pos × Str))(hL:∀q∈L,q∈Ts)(J:∀c∈bs,∃l,H c=some (.lst l))(k:∀c o,c ∉ bs->c ∉ L.map (·.1)->H c=some o->H' c=some o)(hT:∀q∈L,d_ q.1 q.2.1 q.2.2 H')
 (hb:H' b=some (.lst [.int n'])) (hn:n<=n'):RW K Ts a b ns n' H':=by
 refine h.go (S:=bs++L.map (·.1)) (λc o hc e=>k c o (λz=>hc (Q0u _ z)) (λz=>hc (Q09 _ z)) e) (λp hp=>?_) hb hn λq Y hc=>?_
 . rcases List.mem_append.mp hp with z|z
   . exact .inl (J p z)
   . obtain⟨q,Y,rfl⟩:=List.mem_map.mp z;exact .inr (h.t q (hL q Y)).tab
 . rcases List.mem_append.mp hc with z|z
   . obtain⟨l,e⟩:=J _ z;obtain⟨ps,e'⟩:=(h.t q Y).tab;rw[e] at e';cases e'
   . obtain⟨q',U,e⟩:=List.mem_map.mp z;rw[D0 nd Y (hL q' U) e.symm];exact hT q' U
end
theorem Lj {A B:TS}{D:Ends}{σ:L2.St}{H:Hp}(Pv:L2.St->Hp->Prop)(L:∀J H',Pv J H'->B D J H')(U:∀N:L2.St->Hp->Prop,(∀J H',Pv J H'->N J H')->A { D with nx:=N } σ H):p_ A B D σ H:=U _ L
theorem jX {A B:TS}{D:Ends}{σ:L2.St}{H:Hp}(k:∀N:L2.St->Hp->Prop,(∀σ H,B D σ H->N σ H)->A { D with nx:=N } σ H):p_ A B D σ H:=k (B D) λ_ _ h=>h
theorem kD {B:TS}{D:Ends}{σ:L2.St}(J:L2.St){H:Hp}(e:σ=J)(h:B D J H):B D σ H:=by rw[e];exact h
noncomputable abbrev T2 (Pt Pv:Addr):List (Addr × Pos × Str):=[(Pt,jf,jg),(Pv,i5,i6)]
abbrev R2 (K:W.Frag) (Pt Pv a b:Addr) (ns:List Int) (n:Int) (H:Hp):Prop:=RW K (T2 Pt Pv) a b ns n H
section
variable {K:W.Frag}{Pt Pv a b:Addr}{ns:List Int}{n n':Int}{H H':Hp}
theorem RW.vo (h:R2 K Pt Pv a b ns n H):d_ Pt jf jg H:=h.t (Pt,jf,jg) (by simp)
theorem RW.vl (h:R2 K Pt Pv a b ns n H):d_ Pv i5 i6 H:=h.t (Pv,i5,i6) (by simp)
theorem RW.val (L:((T2 Pt Pv).map (·.1)).Nodup)(h:R2 K Pt Pv a b ns n H)(x:eK b Pt H H')(hT:d_ Pt jf jg H')(U:H' b=some (.lst [.int n']))(Y:n<=n'):R2 K Pt Pv a b ns n' H'/\Kt b H H':=by
 refine⟨RW.gl L h [b] [(Pt,jf,jg)] (λq J=>by rw[List.mem_singleton.mp J];simp) (λc hc=>by rw[List.mem_singleton.mp hc];exact⟨_,h.g.at_⟩) (λc o h1 h2 e=>x c o (λz=>?_) e) (λq J=>by rw[List.mem_singleton.mp J];exact hT) U Y,λc o h1 h2 e=>x c o (λz=>?_) e⟩
 . rcases z with z|z
   . exact h1 (by rw[z];exact Q05)
   . exact h2 (by rw[z];exact Q05)
 . rcases z with z|z
   . exact h1 z
   . obtain⟨ps,q⟩:=h.vo.tab;rw[z,q] at e
     cases e;exact h2 _ rfl
theorem RW.rd (L:((T2 Pt Pv).map (·.1)).Nodup)(h:R2 K Pt Pv a b ns n H)(x:Kp (λc=>c=Pv) H H')(hT:d_ Pv i5 i6 H'):R2 K Pt Pv a b ns n H'/\Kt b H H':=by
 have hk:Kt b H H':=λc o h1 h2 e=>x c o (λz=>by
  have z:c=Pv:=z;obtain⟨ps,q⟩:=h.vl.tab;rw[z,q] at e
  cases e;exact h2 _ rfl) e
 have U:H' b=some (.lst [.int n]):=by
  refine x b _ (λz=>?_) h.g.at_;have z:b=Pv:=z;obtain⟨ps,q⟩:=h.vl.tab;rw[<-z,h.g.at_] at q
  cases q
 refine⟨RW.gl L h [] [(Pv,i5,i6)] (λq J=>by rw[List.mem_singleton.mp J];simp) (λc hc=>(nomatch hc)) (λc o h1 h2 e=>x c o (λz=>?_) e) (λq J=>by rw[List.mem_singleton.mp J];exact hT) U (Q2m _),hk⟩;have z:c=Pv:=z;exact h2 (by rw[z];exact Q05)
end
structure OV (b:Addr) (H:Hp) (v:V) (d:D) (fp:List Addr):Prop where
 o:Own H v d fp
 nb:b ∉ fp
theorem OV.kt {b:Addr}{H H':Hp}{v:V}{d:D}{fp:List Addr}{l:List V}(h:OV b H v d fp)(k:Kt b H H')(J:H b=some (.lst l)):OV b H' v d fp:=
 ⟨h.o.keep (k.tu J) d λc hc o e=>k c o (λz=>h.nb (by rw[<-z];exact hc)) (λps z=>by
   rcases h.o.alive d c hc with⟨_,q⟩|⟨_,q⟩ <;> rw[e] at q <;> rw[z] at q <;> cases q) e,h.nb⟩
theorem iY.Lk {K:W.Frag}{H H':Hp}{a:Addr}{ns:List Int}(h:iY K H a ns)(s:Same H H'):iY K H' a ns:=by
 rcases h with⟨o,h⟩|h
 . exact .inl ⟨o,s _ _ h⟩
 . exact .inr h
def vj (K:W.Frag) (Pt Pv:Addr):Sp:=λvs H Q _=>∃(a:Addr) (ns:List Int),vs=[.ref a]/\iY K H a ns/\ns.length<=63/\(∀q∈T2 Pt Pv,d_ q.1 q.2.1 q.2.2 H)/\∀H',Q (.bl true) H'
section
variable {P:Program}{w:World}{K:W.Frag}{mg:Str->Option Value}{base:Heap}
variable {Pt Pv:Addr}
theorem Ll:d9 ["_law_script","_law_at","_law_turn","_law_m","_law_kind_here","_law_value_here","_law_pieces","_law_due","_law_found","_law_loose_here","_law_turned_value"] ["_law_script"] (dN (top 47)):=eG
theorem Lm (a7:((T2 Pt Pv).map (·.1)).Nodup)(T:Tb mg)(bJ:Dn K mg "law" ["_law_script"] (top 47) bK bL)(aK:Dn K mg "_law_next" ed (top 29) aL aM)(aN:dj P w K mg base dm (1) aL aM ed (kP K))(aO:Dn K mg "_law_kind" iF (top 36) aP aQ)(aS:dj P w K mg base dm (8) aP aQ iF (lx K 2))(ai:Dn K mg "_law_rows_kind" iX (top 35) aj ak)(al:dj P w K mg base dm (7) aj ak iX (A_ K 1))(aC:Dn K mg "_law_value" hZ (top 39) aD aE)(aF:dj P w K mg base dm (125) aD aE hZ (nG K Pt 60))(J:Dn K mg "_law_value_pieces" jR (top 45) ae af)(L:dj P w K mg base dm (69) ae af jR (mz 22))(au:Dn K mg "_law_joined" qY (top 41) av aw)(ax:dj P w K mg base dm (1) av aw qY (Cz))(am:Dn K mg "written_value" jQ (top 25) an ao)(ap:dj P w K mg base dm (69) an ao jQ (mx 22))(ag:Dn K mg "_law_loose" qZ (top 42) aG aH)(ah:dj P w K mg base dm (2) aG aH qZ (Cy K))(aa:Dn K mg "_law_same" mj (top 40) aT aU)(ab:dj P w K mg base dm (23) aT aU mj (pK 22))(U:Dn K mg "read_value" q9 (top 20) aI aJ)(Y:dj P w K mg base dm (118) aI aJ q9 (DJ 22 Pv))(ay:Dn K mg "_law_turned" ml (top 46) az aA)(aB:dj P w K mg base dm (23) az aA ml (pM 22)):dj P w K mg base dm (126) bK bL ["_law_script"] (vj K Pt Pv):=by
 refine bJ.F.ok Ll λvs H Q E h=>?_;obtain⟨a,ns,rfl,hS,cw,hT,q⟩:=h;refine⟨rfl,λcW A outer s nd hr hu=>?_⟩
 refine⟨_,(dh (dI 1 nd (gm (a_ c_ b_)))
  (dh (i9 PassesOwn.never rfl (mJ rfl T.m8 (a_ (dk gE c_ (dX (Fi rfl) (by rfl) T.HP boot_min (a_ c_ (a_ (dk gj (dX js (by rfl) T.gG PySem.boot_len (a_ (pv 0) b_)) c_) b_)))) b_)) (e8 (i:=2) nd rfl gh) (dh (dI 3 nd (dJ aN hr aK (a_ (pv 0) (a_ (pv 1) b_))))
  (dh (dI 4 nd (dJ aS hr aO (a_ (pv 0) (a_ (pv 1) (a_ c_ b_)))))
  (dh (dM (dQ eh (dk eL (pv 3) c_) c_ (dP _)) (dq (dI 4 nd (dJ al hr ai (a_ (pv 0) (a_ (pv 1) (a_ (dk gE c_ (dk eL (dk gj (pv 3) c_) c_)) (a_ c_ b_))))))) dO)
  (dh (dI 5 nd (dJ aF hr aC (a_ (pv 0) (a_ (pv 1) (a_ (pv 4) (a_ c_ b_))))))
  (dh (dI 6 nd (dJ L hr J (a_ (pv 4) (a_ (pv 5) b_))))
  (dh (dI 7 nd (dJ ax hr au (a_ (pv 6) b_)))
  (dh (dI 8 nd (dJ ap hr am (a_ (pv 4) (a_ (pv 5) b_))))
  (dh (dM (PW.pt (ig (iN (eN (dX eY (by rfl) T.eZ boot_isinstance (a_ (pv 8) (a_ (eW (v:=.ty "str") rfl T.lq boot_str rfl) b_))))) (iw (dQ lU (pv 8) (pv 7) (dP _))))) (dq (dF jk)) dO)
  (dh (dI 9 nd (dR (dJ ah hr ag (a_ (pv 0) (a_ (pv 1) (a_ (pv 6) b_)))) c_))
  (dh (dM (PW.pt (ig (iN (eN (dJ ab hr aa (a_ (dJ Y hr U (a_ (pv 4) (a_ (pv 7) b_))) (a_ (pv 5) b_))))) (iw (iN (eN (dJ ab hr aa (a_ (dJ Y hr U (a_ (pv 4) (a_ (pv 9) b_))) (a_ (pv 5) b_)))))))) (dq (dF jk)) dO)
  (dh (dI 10 nd (dJ aB hr ay (a_ (pv 5) (a_ (lW eh (dk eL (dk gj (pv 3) c_) c_) c_ (dP _)) b_))))
  (dh (dI 9 nd (dR (dJ ah hr ag (a_ (pv 0) (a_ (pv 1) (a_ (dJ L hr J (a_ (pv 4) (a_ (pv 10) b_))) b_)))) c_))
  (dq (dM (iN (eN (dJ ab hr aa (a_ (dJ Y hr U (a_ (pv 4) (a_ (pv 9) b_))) (a_ (pv 10) b_))))) (dq (dF jk)) dO)))))))))))))))
  (dq (dF jk)))),?_⟩
 ac_rfl
 refine⟨iW,λb hb=>?_⟩;have s0:Same H (upd H b (.lst [.int 0])):=Same.new hb;have W0:R2 K Pt Pv a b ns 0 (upd H b (.lst [.int 0])):=⟨⟨iY.Lk hS s0,cw,dw,by decide⟩,λq hq=>(hT q hq).same s0⟩;generalize upd H b (.lst [.int 0])=H0 at *;have cX:(0:Int)<=((ns.map V.int).length:Int) / 8:=Int.ediv_nonneg (by omega) (by decide);refine⟨_,rfl,a,_,rfl,.inl W0.g.jS.sq,_,_,rfl,rfl,⟨by decide,by decide⟩,_,_,rfl,_,_,rfl,rfl,_,rfl,?_,?_,?_⟩
 . split <;> omega
 . split <;> omega
 generalize hc:(1+(if((ns.map V.int).length:Int) / 8<2 then((ns.map V.int).length:Int) / 8 else 2)).toNat=cnt;have cT:cnt<=3:=by split at hc <;> omega
 refine mK (n:=cnt) (λi σ H'=>∃(x2 x3 x4 x5 x6 x7 x8 x9 aq:Option V) (n:Int),σ=[some (.ref a),some (.ref b),x2,x3,x4,x5,x6,x7,x8,x9,aq]/\R2 K Pt Pv a b ns n H'/\n<=2000000 * i) ?_ ?_ ?_
 . exact⟨_,_,_,_,_,_,_,_,_,0,rfl,W0,by omega⟩
 . intro i σ H' hi zq;obtain⟨x2,x3,x4,x5,x6,x7,x8,x9,aq,n,rfl,W,hn⟩:=zq;have cY:(i:Int)<=3:=by omega
   dsimp only[fU];refine kD [some (.ref a),some (.ref b),some (.int i),x3,x4,x5,x6,x7,x8,x9,aq] (by rw[Int.zero_add];rfl) (jX λN hN=>?_);refine⟨_,rfl,_,rfl,a,b,ns,n,rfl,W.g,by omega,λm H1 m0 m1 bN bO=>hN _ _ (kD [some (.ref a),some (.ref b),some (.int i),some (.int m),x4,x5,x6,x7,x8,x9,aq] rfl (jX λN hN=>?_))⟩;have W1:=W.sb bN bO (by omega);clear bN bO W;have c1:ck 1=12:=by decide
   have c2:ck 2=42:=by decide
   refine⟨_,rfl,_,rfl,a,b,ns,n+1,rfl,W1.g,by rw[c2];omega,λbP k0 n2 H2 bQ bR l2 cx bS bT bU=>hN _ _ (kD [some (.ref a),some (.ref b),some (.int i),some (.int m),some bP,x5,x6,x7,x8,x9,aq] rfl ?_)⟩;have W2:=W1.sb bQ bR l2;rw[c2] at cx;clear bQ bR W1;refine Lj (λcy H'=>∃kv k n3,cy=[some (.ref a),some (.ref b),some (.int i),some (.int m),some kv,x5,x6,x7,x8,x9,aq]/\R2 K Pt Pv a b ns n3 H'/\KA H' kv k/\k.dep<=3/\k.W/\n3<=n+100) ?_ (λN hN=>?_);rotate_left
   . refine⟨_,rfl,_,_,rfl,rfl,(by show(0:Int)<5;decide),rfl,_,rfl,eX (λh5=>?_) (λh5=>?_)⟩
     . refine⟨_,rfl,_,rfl,_,rfl,_,_,rfl,rfl,⟨by decide,by decide⟩,_,_,rfl,rfl,(by show(0:Int)<3;decide),_,_,rfl,rfl,a,b,ns,n2,(1+m / 5 % 3).toNat,?_,by omega,by omega,W2.g,?_,λv key cZ fs n3 H3 cz cA l3 cC cD cE cF _ _=>hN _ _ ⟨v,_,n3,rfl,W2.sb cz cA l3,cD,cE,cF,?_⟩⟩
       . rw[show(((1+m / 5 % 3).toNat:Nat):Int)=1+m / 5 % 3 by omega];rfl
       . rw[c1];omega
       . rw[c1] at cC;omega
     . exact hN _ _ ⟨bP,k0,n2,rfl,W2,bS,bT,bU,by omega⟩
   intro _ H3 zq;obtain⟨kv,k,n3,rfl,W3,bq,bV,ac,c3⟩:=zq;clear bS bT bU W2 hN N;refine jX λN hN=>?_;have cG:=t7 k 2 ac bV;have ci:CB 2=1440000:=by decide
   rw[ci] at cG;have c4:=rK k 3;have c5:=Df k 3;refine⟨_,rfl,_,rfl,_,rfl,a,b,ns,n3,kv,k,3,rfl,W3.g,W3.vo,bq,ac,by decide,by omega,by omega,λv H4 fp bW bX bY pG _ bZ=>?_⟩;have bM:=mZ ns k 3 n3 (by decide);obtain⟨W4,b1⟩:=W3.val a7 bW bY bX bM.1;have br:=KA.mono (b1.tu W3.g.at_) k bq;have ar:=rq ns k ac 3 n3 (by decide);have a8:=Jm ns ac bV n3;have aW:(val ns k 3 n3).1.dep<=22:=by have:=qR ns k 3 n3;have:=t8 k;omega
   have V4:OV b H4 v (val ns k 3 n3).1 fp:=⟨pG,λz=>by have:=bZ b z;rw[W3.g.at_] at this;cases this⟩;generalize (val ns k 3 n3).2=n4 at *;generalize (val ns k 3 n3).1=d at *;clear W3 bq bW bY bX b1 pG bZ;refine hN _ _ (kD [some (.ref a),some (.ref b),some (.int i),some (.int m),some kv,some v,x6,x7,x8,x9,aq] rfl (jX λN hN=>?_));have gp:=D.gp ar ac;have a1:=D.Jn (k:=k) a8
   have c6:(d.wr k).length<=62000:=by
    rw[<-D.joined ar ac];have:=uT (c:=40) (xs:=d.tk k) λp hp=>(gp.1 p hp).1.tt.2.2;omega
   refine⟨_,rfl,_,rfl,kv,v,k,d,fp,rfl,br,ac,V4.o,ar,aW,a1,λl H5 s5 b2 bt=>hN _ _ (kD [some (.ref a),some (.ref b),some (.int i),some (.int m),some kv,some v,some (.ref l),x7,x8,x9,aq] rfl (jX λN hN=>?_))⟩;have W5:=W4.same s5;have V5:=V4.kt (Kt.of s5) W4.g.at_;have b3:=KA.mono (Tu.of s5) k br;have c7:l≠b:=(dA W4.g.at_ b2).symm;clear W4 V4 br s5 b2;refine⟨_,rfl,l,d.tk k,rfl,bt,gp.1,a1,λH6 s6=>hN _ _ (kD [some (.ref a),some (.ref b),some (.int i),some (.int m),some kv,some v,some (.ref l),some (SX (d.wr k)),x8,x9,aq] (by rw[<-D.joined ar ac];rfl) (jX λN hN=>?_))⟩;have W6:=W5.same s6;have V6:=V5.kt (Kt.of s6) W5.g.at_;have bu:=KA.mono (Tu.of s6) k b3;have b4:=s6 _ _ bt;clear W5 V5 b3 s6 bt;refine⟨_,rfl,_,rfl,kv,v,k,d,fp,rfl,bu,ac,V6.o,ar,aW,by omega,λH7 s7=>hN _ _ (kD [some (.ref a),some (.ref b),some (.int i),some (.int m),some kv,some v,some (.ref l),some (SX (d.wr k)),some (SX (d.wr k)),x9,aq] rfl (jX λN hN=>?_))⟩;have W7:=W6.same s7;have V7:=V6.kt (Kt.of s7) W6.g.at_;have b5:=KA.mono (Tu.of s7) k bu;have b6:=s7 _ _ b4;clear W6 V6 bu s7 b4;refine⟨_,rfl,_,_,_,true,rfl,.str _,rfl,true,rfl,dE ⟨_,rfl,_,rfl,rfl,_,rfl,qE rfl (hN _ _ (jX λN hN=>?_))⟩⟩;refine⟨_,rfl,_,rfl,_,rfl,a,b,l,ns,n4,d.tk k,rfl,W7.g,by omega,b6,gp.1,a1,λzs jj p qq n8 H8 s8 h8 z1 z2 cH c8 b7=>⟨p,_,_,_,rfl,rfl,du.of b7,rfl,hN _ _ (kD [some (.ref a),some (.ref b),some (.int i),some (.int m),some kv,some v,some (.ref l),some (SX (d.wr k)),some (SX (d.wr k)),some (SX (spread zs jj)),aq] rfl (jX λN hN=>?_))⟩⟩;have W8:=W7.sb s8 h8 z1;have V8:=V7.kt (Kt.sb s8) W7.g.at_;have bv:=KA.mono (s8.tu W7.g.at_) k b5;clear W7 V7 b5 s8 h8 b6 b7;refine⟨_,rfl,_,rfl,kv,k,d,nj 40 (d.tk k),0,?_,bv,ac,ar,aW,BJ 40 _,by rw[uH,D.joined ar ac];omega,W8.vl,λv9 f9 H9 b8 b9 ca cb=>?_⟩
   . rw[uH,D.joined ar ac];rfl
   obtain⟨W9,bw⟩:=W8.rd a7 b8 b9;have V9:=V8.kt bw W8.g.at_;have cc:=KA.mono (bw.tu W8.g.at_) k bv;have bx:d.cn 1<=1000:=Q07 d.jV a8;refine⟨_,rfl,v9,v,d,f9,fp,rfl,ca,V9.o,λc h2 h1=>(V8.o.alive d c h2).ne (cb c h1) rfl,aW,bx,λc9 a9=>⟨true,rfl,dE ?_⟩⟩;have aX:=W9.same a9;have bz:=V9.kt (Kt.of a9) W9.g.at_;have a2:=KA.mono (Tu.of a9) k cc;clear W8 V8 bv W9 V9 cc b8 b9 ca cb bw a9;refine⟨_,rfl,_,rfl,kv,k,d,zs,jj,rfl,a2,ac,ar,aW,cH,by omega,aX.vl,λcI cJ da bd be bf bg=>?_⟩;obtain⟨bA,a3⟩:=aX.rd a7 bd be;have bB:=bz.kt a3 aX.g.at_;have bh:=KA.mono (a3.tu aX.g.at_) k a2;refine⟨_,rfl,cI,v,d,cJ,fp,rfl,bf,bB.o,λc h2 h1=>(bz.o.alive d c h2).ne (bg c h1) rfl,aW,bx,λdb ba=>⟨true,rfl,dE (hN _ _ (jX λN hN=>?_))⟩⟩;have bC:=bA.same ba;have bD:=bB.kt (Kt.of ba) bA.g.at_;have bi:=KA.mono (Tu.of ba) k bh;clear aX bz a2 bA bB bh bd be bf bg a3 ba;refine⟨_,rfl,_,rfl,_,_,rfl,rfl,⟨by decide,by decide⟩,_,_,rfl,rfl,(by show(0:Int)<2;decide),rfl,?_⟩;generalize decide (V.int (m / 15 % 2)=V.int 0)=tw;refine⟨v,d,k,fp,tw,rfl,bD.o,ar,ac,aW,bx,λaY bE cK bF bj bm=>hN _ _ (kD [some (.ref a),some (.ref b),some (.int i),some (.int m),some kv,some v,some (.ref l),some (SX (d.wr k)),some (SX (d.wr k)),some (SX (spread zs jj)),some aY] rfl (jX λN hN=>?_))⟩;have bG:=bC.same bF;have a4:=KA.mono (Tu.of bF) k bi
   have bH:OV b cK aY (d.eQ tw) bE:=⟨bj,λz=>by
    rcases bm b z with z|z
    . rw[bC.g.at_] at z;cases z
    . exact bD.nb z⟩
   clear bC bD bi bF bj bm;obtain⟨a5,cU⟩:=D.Jj (b:=tw) ar;have a6:=D.Jo (b:=tw) (k:=k) a8;have cL:(d.eQ tw).cn 1<=1000:=Q07 (uP tw d.dep d (Q00 _)) a8;have cM:=D.gp a5 ac;generalize d.eQ tw=d2 at *;refine⟨_,rfl,_,rfl,_,rfl,_,rfl,kv,aY,k,d2,bE,rfl,a4,ac,bH.o,a5,by omega,a6,λl2 dc bb _ bn=>?_⟩;have aZ:=bG.same bb;have cd:=bH.kt (Kt.of bb) bG.g.at_;have bo:=KA.mono (Tu.of bb) k a4;clear bG bH a4 bb;refine⟨a,b,l2,ns,n8,d2.tk k,rfl,aZ.g,by omega,bn,cM.1,a6,λce j2 p2 q2 cN dd bc cf z3 z4 cj cV bp=>⟨p2,_,_,_,rfl,rfl,du.of bp,rfl,hN _ _ (kD [some (.ref a),some (.ref b),some (.int i),some (.int m),some kv,some v,some (.ref l),some (SX (d.wr k)),some (SX (d.wr k)),some (SX (spread ce j2)),some aY] rfl ?_)⟩⟩;have bI:=aZ.sb bc cf z3;have cg:=cd.kt (Kt.sb bc) aZ.g.at_;have cm:=KA.mono (bc.tu aZ.g.at_) k bo;clear aZ cd bo bc cf bn bp;refine⟨_,rfl,_,rfl,kv,k,d2,ce,j2,rfl,cm,ac,a5,by omega,cj,by omega,bI.vl,λcO cP de co cp cq cr=>?_⟩;obtain⟨cQ,cu⟩:=bI.rd a7 co cp;have cR:=cg.kt cu bI.g.at_;refine⟨_,rfl,cO,aY,d2,cP,bE,rfl,cq,cR.o,λc h2 h1=>(cg.o.alive d2 c h2).ne (cr c h1) rfl,by omega,cL,λdf cS=>⟨true,rfl,dE ?_⟩⟩;exact⟨_,_,_,_,_,_,_,_,_,cN,rfl,cQ.same cS,by omega⟩
 . rintro σ H0 _;exact q H0
end
end Pb
namespace Pb
open L2
abbrev D1 (K:W.Frag) (x Y:Str) (st:Stmt) (f:Addr):Prop:=∃(oc:Value) (od:Option Addr) (kV L pm:Value) (an:Option Addr) (J ct:Value) (U:Array (Option Value)),K.lookup f=some ⟨oc,od,.func (W.fnOf x Y (iu st) (gJ st) (dN st) .none kV L pm an J ct),U⟩/\W.codeIn K J Y=true/\W.keepIn K (.ref f)=true
abbrev e_ (K:W.Frag) (x:Str) (st:Stmt):Prop:=∃f,W.nsIn K mainGlobals x=some (some (.ref f))/\D1 K x x st f
abbrev HB (x U:Str) (ps:List Str) (st:Stmt):Prop:=∀(kV J Y:Value) (an:Option Addr) (L ct:Value) (us:List Value),us.length=ps.length->bindArgs (W.fnOf x U (iu st) (gJ st) (dN st) .none kV J Y an L ct) ⟨us,[]⟩=pure (ps.zip us)
theorem ff {K:W.Frag}{mg:Str->Option Value}{h:Heap}{x:Str}{ps:List Str}{st:Stmt}(X:K.In h)(G:h.Ns mainGlobals mg)(a:e_ K x st)(U:HB x x ps st):∃f d,Dn K mg x ps st f d/\∀us:List Value,us.length=ps.length->bindArgs d ⟨us,[]⟩=pure (ps.zip us):=by
 obtain⟨f,a,oc,od,kV,J,Y,an,L,ct,aa,l,c,k⟩:=a;have F:=sT (st:=st) l c k;exact⟨f,_,⟨F,F.binds U,W.mg_of X G a⟩,U kV J Y an L ct⟩
abbrev gS (K:W.Frag) (C ns:Addr) (x J:Str) (st:Stmt) (f:Addr):Prop:=W.nsIn K ns x=some (some (.ref f))/\D1 K x J st f/\W.isFn K (.ref f)=true/\W.findIn K (.ref C) x=some (some (.ref f))
theorem lG {K:W.Frag}{C ns:Addr}{x J:Str}{ps:List Str}{st:Stmt}{f:Addr}(a:gS K C ns x J st f)(hb:HB x J ps st):∃d,Dm K x J ps st f d:=by
 obtain⟨_,⟨oc,od,kV,L,pm,an,U,ct,Y,l,c,k⟩,_,_⟩:=a;have F:jt K x J st f _:=⟨⟨oc,od,kV,L,pm,an,U,ct,Y,rfl,l,c⟩,k⟩;exact⟨_,F,F.binds hb⟩
theorem Ln {K:W.Frag}{x:Str}{st:Stmt}{f:Addr}{Y:Value}{od an:Option Addr}{kV L pm J ct:Value}{U:Array (Option Value)}(a:W.nsIn K mainGlobals x=some (some (.ref f)))(l:K.lookup f=some ⟨Y,od,.func (W.fnOf x x (iu st) (gJ st) (dN st) .none kV L pm an J ct),U⟩)(c:W.codeIn K J x=true)(k:W.keepIn K (.ref f)=true):e_ K x st:=⟨f,a,Y,od,kV,L,pm,an,J,ct,U,l,c,k⟩
theorem Lo {K:W.Frag}{C ns:Addr}{x Y:Str}{st:Stmt}{f:Addr}{oc:Value}{od an:Option Addr}{kV L pm J ct:Value}{U:Array (Option Value)}(a:W.nsIn K ns x=some (some (.ref f)))(l:K.lookup f=some ⟨oc,od,.func (W.fnOf x Y (iu st) (gJ st) (dN st) .none kV L pm an J ct),U⟩)(c:W.codeIn K J Y=true)(k:W.keepIn K (.ref f)=true)(h:W.isFn K (.ref f)=true)(g:W.findIn K (.ref C) x=some (some (.ref f))):gS K C ns x Y st f:=⟨a,⟨oc,od,kV,L,pm,an,J,ct,U,l,c,k⟩,h,g⟩
theorem gS.meth {K:W.Frag}{C ns:Addr}{x J:Str}{st:Stmt}{f:Addr}(a:gS K C ns x J st f):Meth K C x f:=by
 obtain⟨_,⟨_,_,_,_,_,_,_,_,_,_,_,k⟩,h1,h2⟩:=a;exact⟨h2,h1,k⟩
abbrev Lp (K:W.Frag) (C:Addr):Prop:=W.plainGet K C Str.empty=true/\W.hasDictIn K C=true/\W.plainOver K C=true/\W.findIn K (.ref C) "__setattr__"=some (some (.builtin "object.__setattr__"))/\W.makesIn K C=true/\W.keepIn K (.ref C)=true
theorem len1 {α:Type}{l:List α}(h:l.length=1):∃a,l=[a]:=match l,h with|[a],_=>⟨a,rfl⟩
theorem len2 {α:Type}{l:List α}(h:l.length=2):∃a b,l=[a,b]:=match l,h with|[a,b],_=>⟨a,b,rfl⟩
theorem pN {α:Type}{l:List α}(h:l.length=3):∃a b c,l=[a,b,c]:=match l,h with|[a,b,c],_=>⟨a,b,c,rfl⟩
theorem nL {α:Type}{l:List α}(h:l.length=4):∃a b c d,l=[a,b,c,d]:=match l,h with|[a,b,c,d],_=>⟨a,b,c,d,rfl⟩
theorem all_mk {l:W.OpenLaw}{w:World}{K:W.Frag}{h:Heap}{mg:Str->Option Value}{fa:Addr}(X:K.In h)(G:h.Ns mainGlobals mg)(bz:mg "law"=some (.ref fa))
 (vk:e_ K "kind_at" (top 5))
 (vm:e_ K "pieces_of" (top 11))
 (vn:e_ K "piece_at" (top 12))
 (vp:e_ K "no_piece" (top 13))
 (vq:e_ K "run_end" (top 14))
 (vv:e_ K "word_at" (top 15))
 (vw:e_ K "name_at" (top 16))
 (vx:e_ K "number_at" (top 17))
 (vy:e_ K "read_value" (top 20))
 (vz:e_ K "told_record" (top 22))
 (vA:e_ K "told_tree" (top 23))
 (vB:e_ K "told_either" (top 24))
 (vC:e_ K "written_value" (top 25))
 (vD:e_ K "written_record" (top 26))
 (vE:e_ K "written_tree" (top 27))
 (vF:e_ K "_law_next" (top 29))
 (vG:e_ K "_law_number" (top 30))
 (vH:e_ K "_law_word" (top 31))
 (vI:e_ K "_law_names" (top 32))
 (vJ:e_ K "_law_plain" (top 33))
 (vK:e_ K "_law_fields" (top 34))
 (vL:e_ K "_law_rows_kind" (top 35))
 (vM:e_ K "_law_kind" (top 36))
 (vN:e_ K "_law_rank" (top 37))
 (vO:e_ K "_law_value" (top 39))
 (vP:e_ K "_law_same" (top 40))
 (vQ:e_ K "_law_joined" (top 41))
 (vR:e_ K "_law_loose" (top 42))
 (vS:e_ K "_law_record_pieces" (top 43))
 (vT:e_ K "_law_many_pieces" (top 44))
 (vU:e_ K "_law_value_pieces" (top 45))
 (vV:e_ K "_law_turned" (top 46))
 (vW:e_ K "law" (top 47))
 {fR:Addr} {bA:Value} {bB bb:Option Addr} {bc bd be a9 bf:Value} {bC:Array (Option Value)} (aR:W.nsIn K mainGlobals "_law_rows"=some (some (.ref fR))) (lR:K.lookup fR=some ⟨bA,bB,.func (W.fnOf "_law_rows" "_law_rows" (iu (top 38)) (gJ (top 38)) (dN (top 38)) .none bc bd be bb a9 bf),bC⟩) (vX:W.codeIn K a9 "_law_rows"=true) (kR:W.keepIn K (.ref fR)=true)
 {fV:Addr} {bD:Value} {bE bg:Option Addr} {bh bi bj ba bm:Value} {bF:Array (Option Value)} (aV:W.nsIn K mainGlobals "told_value"=some (some (.ref fV))) (lV:K.lookup fV=some ⟨bD,bE,.func (W.fnOf "told_value" "told_value" (iu (top 21)) (gJ (top 21)) (dN (top 21)) .none bh bi bj bg ba bm),bF⟩) (vY:W.codeIn K ba "told_value"=true) (kV:W.keepIn K (.ref fV)=true)
 (zz:∀x∈(["len","isinstance","sorted","all","range","enumerate","zip","int","bool","str","list","tuple","dict","min","reversed"]:List Str),W.nsIn K mainGlobals x=some none)
 {J U:Addr} {a3:Value} {a4:Option Addr} {a5:Array (Option Value)} {aO:ClassData}
 (vZ:W.nsIn K mainGlobals "Reader"=some (some (.ref J))) (D2:K.lookup J=some ⟨a3,a4,.cls aO,a5⟩) (D3:aO.ns=U)
 {ag:Addr} (rX:gS K J U "__init__" "Reader.__init__" (dU 18 0) ag)
 {ar:Addr} (rY:gS K J U "is_at" "Reader.is_at" (dU 18 1) ar)
 {au:Addr} (rZ:gS K J U "taken" "Reader.taken" (dU 18 3) au)
 {aa:Addr} (r8:gS K J U "taken_among" "Reader.taken_among" (dU 18 4) aa)
 {am:Addr} (r_:gS K J U "passed" "Reader.passed" (dU 18 5) am)
 {ae:Addr} (sf:gS K J U "pass_mark" "Reader.pass_mark" (dU 18 6) ae)
 {aj:Addr} (sj:gS K J U "ask_end" "Reader.ask_end" (dU 18 7) aj)
 {an:Addr} (sm:gS K J U "listed" "Reader.listed" (dU 18 8) an)
 (v3:W.findIn K (.ref J) "pieces"=some none)
 (v5:W.findIn K (.ref J) "reached"=some none)
 (v8:Lp K J)
 {tM tL tF tS:Tok} (v_:W.nsIn K mainGlobals "MARKS"=some (some (.str "{}[]()<>:," tM))) (wa:W.nsIn K mainGlobals "MOST_LETTERS"=some (some (.int 12 tL))) (wb:W.nsIn K mainGlobals "MOST_FIGURES"=some (some (.int 80 tF))) (wc:W.nsIn K mainGlobals "MOST_SIGNS"=some (some (.int 40 tS)))
 {cR PR:Addr} {bp:Value} {bq:Option Addr} {a7:Array Value} {br:Array (Option Value)} (wd:a9=.ref cR) (D4:K.lookup cR=some ⟨bp,bq,.fields a7,br⟩) (D5:a7[11]? =some (.ref PR)) (we:W.codeHdIn K cR PR=true)
 {cV PV:Addr} {bt:Value} {bu:Option Addr} {a8:Array Value} {bv:Array (Option Value)} (wg:ba=.ref cV) (D6:K.lookup cV=some ⟨bt,bu,.fields a8,bv⟩) (D7:a8[11]? =some (.ref PV)) (wj:W.codeHdIn K cV PV=true)
 (wm:((T2 PR PV).map (·.1)).Nodup)
 :∃fd:FuncData,(∀(s:Shared) (v:Value),BindsTo s fd ⟨[v],[]⟩ [("_law_script",v)])/\∀base:Heap,K.In base->base.Ns mainGlobals mg->BM mg base->dj l.prog w K mg base dm 126 fa fd ["_law_script"] (vj K PR PV):=by
 have zz:=λx hx=>W.mg_none_of X G (zz x hx);have T:Tb mg:=⟨zz _ (by simp),zz _ (by simp),zz _ (by simp),zz _ (by simp),zz _ (by simp),zz _ (by simp),zz _ (by simp),zz _ (by simp),zz _ (by simp),zz _ (by simp),zz _ (by simp),zz _ (by simp),zz _ (by simp),zz _ (by simp),zz _ (by simp)⟩;obtain⟨_,_,aP,_⟩:=ff (ps:=["fields","name"]) X G vk (λ_ _ _ _ _ _ _ h=>by obtain⟨_,_,rfl⟩:=len2 h;rfl);obtain⟨_,_,aF,_⟩:=ff (ps:=["text"]) X G vm (λ_ _ _ _ _ _ _ h=>by obtain⟨_,rfl⟩:=len1 h;rfl);obtain⟨_,_,aM,_⟩:=ff (ps:=XC) X G vn (λ_ _ _ _ _ _ _ h=>by obtain⟨_,_,rfl⟩:=len2 h;rfl);obtain⟨_,_,ai,_⟩:=ff (ps:=XC) X G vp (λ_ _ _ _ _ _ _ h=>by obtain⟨_,_,rfl⟩:=len2 h;rfl);obtain⟨_,_,aE,_⟩:=ff (ps:=XZ) X G vq (λ_ _ _ _ _ _ _ h=>by obtain⟨_,_,_,_,rfl⟩:=nL h;rfl);obtain⟨_,_,aQ,_⟩:=ff (ps:=XC) X G vv (λ_ _ _ _ _ _ _ h=>by obtain⟨_,_,rfl⟩:=len2 h;rfl);obtain⟨_,_,aS,_⟩:=ff (ps:=XC) X G vw (λ_ _ _ _ _ _ _ h=>by obtain⟨_,_,rfl⟩:=len2 h;rfl);obtain⟨_,_,aG,_⟩:=ff (ps:=XC) X G vx (λ_ _ _ _ _ _ _ h=>by obtain⟨_,_,rfl⟩:=len2 h;rfl);obtain⟨_,_,aA,_⟩:=ff (ps:=["kind","text"]) X G vy (λ_ _ _ _ _ _ _ h=>by obtain⟨_,_,rfl⟩:=len2 h;rfl);obtain⟨_,_,aT,_⟩:=ff (ps:=XO) X G vz (λ_ _ _ _ _ _ _ h=>by obtain⟨_,_,rfl⟩:=len2 h;rfl);obtain⟨_,_,aY,_⟩:=ff (ps:=Xb) X G vA (λ_ _ _ _ _ _ _ h=>by obtain⟨_,_,rfl⟩:=len2 h;rfl);obtain⟨_,_,aU,_⟩:=ff (ps:=XO) X G vB (λ_ _ _ _ _ _ _ h=>by obtain⟨_,_,rfl⟩:=len2 h;rfl);obtain⟨_,_,ao,_⟩:=ff (ps:=["kind","value"]) X G vC (λ_ _ _ _ _ _ _ h=>by obtain⟨_,_,rfl⟩:=len2 h;rfl);obtain⟨_,_,aI,_⟩:=ff (ps:=XQ) X G vD (λ_ _ _ _ _ _ _ h=>by obtain⟨_,_,rfl⟩:=len2 h;rfl);obtain⟨_,_,aN,_⟩:=ff (ps:=["kind","tree"]) X G vE (λ_ _ _ _ _ _ _ h=>by obtain⟨_,_,rfl⟩:=len2 h;rfl);obtain⟨_,_,L,_⟩:=ff (ps:=XA) X G vF (λ_ _ _ _ _ _ _ h=>by obtain⟨_,_,rfl⟩:=len2 h;rfl);obtain⟨_,_,aW,_⟩:=ff (ps:=XA) X G vG (λ_ _ _ _ _ _ _ h=>by obtain⟨_,_,rfl⟩:=len2 h;rfl);obtain⟨_,_,aZ,_⟩:=ff (ps:=XA) X G vH (λ_ _ _ _ _ _ _ h=>by obtain⟨_,_,rfl⟩:=len2 h;rfl);obtain⟨_,_,ak,_⟩:=ff (ps:=XT) X G vI (λ_ _ _ _ _ _ _ h=>by obtain⟨_,_,_,rfl⟩:=pN h;rfl);obtain⟨_,_,al,_⟩:=ff (ps:=XA) X G vJ (λ_ _ _ _ _ _ _ h=>by obtain⟨_,_,rfl⟩:=len2 h;rfl);obtain⟨_,_,aX,_⟩:=ff (ps:=XB) X G vK (λ_ _ _ _ _ _ _ h=>by obtain⟨_,_,_,_,rfl⟩:=nL h;rfl);obtain⟨_,_,Y,_⟩:=ff (ps:=XB) X G vL (λ_ _ _ _ _ _ _ h=>by obtain⟨_,_,_,_,rfl⟩:=nL h;rfl);obtain⟨_,_,ap,_⟩:=ff (ps:=XS) X G vM (λ_ _ _ _ _ _ _ h=>by obtain⟨_,_,_,rfl⟩:=pN h;rfl);obtain⟨_,_,a1,_⟩:=ff (ps:=XM) X G vN (λ_ _ _ _ _ _ _ h=>by obtain⟨_,_,rfl⟩:=len2 h;rfl);obtain⟨_,_,aB,_⟩:=ff (ps:=XD) X G vO (λ_ _ _ _ _ _ _ h=>by obtain⟨_,_,_,_,rfl⟩:=nL h;rfl);obtain⟨_,_,aH,_⟩:=ff (ps:=XE) X G vP (λ_ _ _ _ _ _ _ h=>by obtain⟨_,_,rfl⟩:=len2 h;rfl);obtain⟨_,_,aw,_⟩:=ff (ps:=["_law_pieces"]) X G vQ (λ_ _ _ _ _ _ _ h=>by obtain⟨_,rfl⟩:=len1 h;rfl);obtain⟨_,_,aC,_⟩:=ff (ps:=XN) X G vR (λ_ _ _ _ _ _ _ h=>by obtain⟨_,_,_,rfl⟩:=pN h;rfl);obtain⟨_,_,av,_⟩:=ff (ps:=XR) X G vS (λ_ _ _ _ _ _ _ h=>by obtain⟨_,_,rfl⟩:=len2 h;rfl);obtain⟨_,_,az,_⟩:=ff (ps:=XY) X G vT (λ_ _ _ _ _ _ _ h=>by obtain⟨_,_,rfl⟩:=len2 h;rfl);obtain⟨_,_,ac,_⟩:=ff (ps:=XU) X G vU (λ_ _ _ _ _ _ _ h=>by obtain⟨_,_,rfl⟩:=len2 h;rfl);obtain⟨_,_,ax,_⟩:=ff (ps:=XX) X G vV (λ_ _ _ _ _ _ _ h=>by obtain⟨_,_,rfl⟩:=len2 h;rfl);obtain⟨_,_,a6,hB⟩:=ff (ps:=["_law_script"]) X G vW (λ_ _ _ _ _ _ _ h=>by obtain⟨_,rfl⟩:=len1 h;rfl);subst wd
 have a2:Dn K mg "_law_rows" hZ (top 38) fR (W.fnOf "_law_rows" "_law_rows" (iu (top 38)) (gJ (top 38)) (dN (top 38)) .none bc bd be bb (.ref cR) bf):=by
  have F:=sT (st:=(top 38)) lR vX kR;exact⟨F,F.binds (λ_ _ _ _ _ _ _ h=>by obtain⟨_,_,_,_,rfl⟩:=nL h;rfl),W.mg_of X G aR⟩
 subst wg
 have aD:Dn K mg "told_value" gQ (top 21) fV (W.fnOf "told_value" "told_value" (iu (top 21)) (gJ (top 21)) (dN (top 21)) .none bh bi bj bg (.ref cV) bm):=by
  have F:=sT (st:=(top 21)) lV vY kV;exact⟨F,F.binds (λ_ _ _ _ _ _ _ h=>by obtain⟨_,_,rfl⟩:=len2 h;rfl),W.mg_of X G aV⟩
 obtain⟨_,af⟩:=lG (ps:=Xd) rX (λ_ _ _ _ _ _ _ h=>by obtain⟨_,_,rfl⟩:=len2 h;rfl);obtain⟨_,ab⟩:=lG (ps:=XH) rY (λ_ _ _ _ _ _ _ h=>by obtain⟨_,_,_,rfl⟩:=pN h;rfl);obtain⟨_,aL⟩:=lG (ps:=["self","sort"]) rZ (λ_ _ _ _ _ _ _ h=>by obtain⟨_,_,rfl⟩:=len2 h;rfl);obtain⟨_,aq⟩:=lG (ps:=["self","names"]) r8 (λ_ _ _ _ _ _ _ h=>by obtain⟨_,_,rfl⟩:=len2 h;rfl);obtain⟨_,aJ⟩:=lG (ps:=XH) r_ (λ_ _ _ _ _ _ _ h=>by obtain⟨_,_,_,rfl⟩:=pN h;rfl);obtain⟨_,ay⟩:=lG (ps:=Xc) sf (λ_ _ _ _ _ _ _ h=>by obtain⟨_,_,rfl⟩:=len2 h;rfl);obtain⟨_,ah⟩:=lG (ps:=["self"]) sj (λ_ _ _ _ _ _ _ h=>by obtain⟨_,rfl⟩:=len1 h;rfl);obtain⟨_,aK⟩:=lG (ps:=XG) sm (λ_ _ _ _ _ _ _ h=>by obtain⟨_,_,_,_,rfl⟩:=nL h;rfl);have e:=bz.symm.trans a6.m
 cases e;refine⟨_,λs v=>.of_eq (hB [v] rfl),λbase X1 _ bn=>?_⟩;have bw:=W.codeHd_of_K X1 we;have bx:=W.codeHd_of_K X1 wj;obtain⟨t1,t2,t3,t4,t5,t6⟩:=v8;have MI:=gS.meth rX;have RD:iG K mg J ag ar au aa am ae aj an:=⟨⟨t1,t2,t3,t4⟩,v3,v5,⟨t5,MI.1,MI.2,t6⟩,W.mg_of X G vZ,gS.meth rY,gS.meth rZ,gS.meth r8,gS.meth r_,gS.meth sf,gS.meth sj,gS.meth sm⟩;have TG:Gb mg tM tL tF tS:=⟨W.mg_of X G v_,W.mg_of X G wa,W.mg_of X G wb,W.mg_of X G wc⟩;have N0:=oQ (P:=l.prog) (w:=w) (base:=base) T L;have N:=q_ N0;have Nm:=C7 T ak L N;have Pl:=ui T al L N;have bo:=λd=>kind_all (P:=l.prog) (w:=w) (base:=base) T ap L al ak aX Y d;have bG:=C_ 1 T Y ak Nm L N al Pl ap (bo 1);have V_:=Dr (P:=l.prog) (w:=w) T aB a2 rfl bw bn L aW aZ a1 60;have NP:=H_ (P:=l.prog) (w:=w) (base:=base) T ai;have RE:=Ib (P:=l.prog) (w:=w) (base:=base) T aE;have WA:=Ig T TG aQ ai NP;have NA:=Ii T TG aS ai NP aE RE;have NU:=Ik T TG aG ai NP aE RE;have PA:=Io T TG aM aQ WA aS NA aG NU;have PO:=Iq T aF aM PA;have RI:=Iz T RD af aF PO;have IA:=Bp (P:=l.prog) (w:=w) (base:=base) T RD ab;have AE:=IL T RD ah ab IA;have TV:=DH (P:=l.prog) (w:=w) T RD aD rfl bx bn aT aY aU aP aL aq ab aJ ay aK 22;have RV:=KP 22 T RD aA aD TV.1 af RI ah AE;have WV:=CJ (P:=l.prog) (w:=w) (base:=base) T ao aI aN aP 22;have VP:=C4 (P:=l.prog) (w:=w) (base:=base) T ac av az 22;have JO:=Jt (P:=l.prog) (w:=w) (base:=base) T aw;have LO:=Jv T aC L N;have SA:=DS (P:=l.prog) (w:=w) (base:=base) T aH 22;have TU:=DZ (P:=l.prog) (w:=w) (base:=base) T ax 22;exact Lm wm T a6 L N ap (bo 2) Y bG aB V_ ac VP aw JO ao WV.1 aC LO aH SA aA RV ax TU
theorem Lq {K:W.Frag}{x:Str}{f c P:Addr}{oc L:Value}{od U:Option Addr}{fd:FuncData}{sl Y:Array (Option Value)}{J:Array Value}(a:W.nsIn K mainGlobals x=some (some (.ref f)))(l:K.lookup f=some ⟨oc,od,.func fd,sl⟩)(hc:fd.code=.ref c)
 (lc:K.lookup c=some ⟨L,U,.fields J,Y⟩) (hP:J[11]? =some (.ref P)):W.tabIn K x=some (c,P):=by
 unfold W.tabIn;rw[a];dsimp only;rw[l];dsimp only;rw[hc];dsimp only;rw[lc];dsimp only;rw[hP]
def Lr (K:W.Frag) (J:List (Addr × Addr)):Sp:=λvs H Q _=>∃(a:Addr) (ns:List Int),vs=[.ref a]/\iY K H a ns/\ns.length<=63/\(∀q∈J,H q.2=some (.fm #[]))/\∀H',Q (.bl true) H'
theorem iY.ofT {K:W.Frag}{H:Hp}{a:Addr}{ns:List Int}{J:List Addr}(o:qO J H)(h:dy K H a (ns.map V.int)):iY K H a ns:=by
 rcases h with(h|h)|h
 . rcases o a with z|⟨L,xs,z⟩|⟨_,z⟩ <;> rw[h] at z <;> cases z
 . exact .inl h
 . exact .inr h
theorem walk {l:W.OpenLaw}{q:Program}{loose:List Str}{XP:(Str->Option Value)->Heap->Prop}{YP:World->Heap->Prop}{d:DefRec}{K:Params->W.Frag}(hn:l.most=some 63)(ab:d.params.defaults=[])
 (hY:∀(w:World) (h:Heap),YP w h->(K w.params).In h) (ac:∀w:World,W.noTabs (K w.params)=true) (aa:∀y∈(["_law_rows","told_value"]:List Str),∃d',(PyProof.Rows.recsOf q).find? (λe=>e.name == y)=some d')
 (F:∀w:World,∃c1 L c2 U:Addr,W.tabIn (K w.params) "_law_rows"=some (c1,L)/\W.tabIn (K w.params) "told_value"=some (c2,U)/\∀(mg:Str->Option Value) (fa:Addr) (h:Heap),(K w.params).In h->h.Ns mainGlobals mg->mg d.name=some (.ref fa)->
   ∃fd:FuncData,(∀(s:Shared) (u:Value),BindsTo s fd ⟨[u],[]⟩ [("_law_script",u)])/\∀base:Heap,(K w.params).In base->base.Ns mainGlobals mg->BM mg base->dj l.prog w (K w.params) mg base dm 126 fa fd ["_law_script"] (vj (K w.params) L U)):
 W.WalkO q loose XP YP l.row.toRowW d [] (λf vs=>PySem.call f vs):=
 L2.Hr (n:=63) (k:=126) (x:="_law_script") (names:=["_law_rows","told_value"]) (sp:=λw J=>Lr (K w.params) J) hn (by decide) ab ⟨rfl,by decide,by decide⟩ hY ac (λw=>by
   obtain⟨c1,L,c2,U,ht1,wo,F⟩:=F w;refine⟨[(c1,L),(c2,U)],λq' Y=>?_,λmg fa h X G hm=>?_⟩
   . simp only[Q0s,Q0t,or_false] at Y;rcases Y with e|e
     . exact⟨"_law_rows",by simp,by rw[e];exact ht1⟩
     . exact⟨"told_value",by simp,by rw[e];exact wo⟩
   obtain⟨fd,hb,hF⟩:=F mg fa h X G hm;refine⟨fd,hb,λbase X1 G1 B=>(hF base X1 G1 B).imp λvs H Q E ⟨a,ns,e,hS,hl,hT,q⟩=>⟨a,ns,e,hS,hl,λq' Y=>.inl ?_,q⟩⟩;simp only[Q0s,Q0t,or_false] at Y;rcases Y with e|e
   . rw[e];exact hT (c1,L) (by simp)
   . rw[e];exact hT (c2,U) (by simp))
   aa λw J H a ns hl hO ae af=>⟨a,ns,rfl,iY.ofT hO af,hl,ae,λ_=>rfl⟩
end Pb
open W PyProof.Rows
set_option maxRecDepth 100000 in
set_option maxHeartbeats 0 in
theorem PySem.Challenge.cw_putback_k67_values_written_holds : PySem.Challenge.rw_putback_k67_values_written.Holds := by
 w_on
 refine holds_law Pb.said λsaid=>?_;refine holds_open (q:=Pb.qv) (loose:=[]) (Xt:=λs=>xlAt Pb.qv [] s && recOk (RowW.records (PySem.W.OpenRow.toRowW (PySem.W.OpenLaw.row PySem.Challenge.rw_putback_k67_values_written))) s) (XP:=XL Pb.qv []) (Yf:=Hook.obs (PySem.W.kmHook Pb.KK Pb.k7 Pb.lJ [297,352])) (Ya:=Hook.val (PySem.W.kmHook Pb.KK Pb.k7 Pb.lJ [297,352])) (YP:=Hook.says (PySem.W.kmHook Pb.KK Pb.k7 Pb.lJ [297,352])) (N:=11013) ?hl (Hook.of (PySem.W.kmHook Pb.KK Pb.k7 Pb.lJ [297,352])) (Hook.keeps (PySem.W.kmHook Pb.KK Pb.k7 Pb.lJ [297,352])) (λs e=>xl_of s (Bool.and_eq_true_iff.mp e).1) XL.keeps (by rfl) (by rfl) (by rfl) (λs e=>recFacts_of (Bool.and_eq_true_iff.mp e).2) (by rfl) (by first|assumption|decide +kernel) (by decide +kernel) ⟨rfl,rfl,rfl,rfl,rfl,by decide +kernel⟩ ?hw ?hc
 case hl=>exact Pb.D9 (by rfl) (by rfl) (λs=>rfl) (by rfl) (List.take_append_drop 19 Pb.sx).symm (λP=>by kernel_rfl) Pb.El (Pb.D_ Pb.Em (Pb.Ea Pb.En Pb.Eo Pb.Ep))
 (case hw=>w_witness2)
 k_fill
 refine Pb.walk (l:=PySem.Challenge.rw_putback_k67_values_written) rfl rfl (λw h Y=>PySem.W.km_in_of Y) (λw=>by kernel_rfl) ?HR ?F
 case HR=>intro y hy;simp only[Q0s,Q0t,or_false] at hy;rcases hy with rfl|rfl <;> exact⟨_,rfl⟩
 case F=>
  intro w
  refine' ⟨_,_,_,_,?ht1,?wo,?GG⟩
  case ht1|wo=>
   refine' Pb.Lq ?ta ?tl ?tc ?Ls ?tP
   (case ta=>k_is);(case tl=>k_is);(case tc=>rfl);(case Ls=>k_is);(case tP=>rfl)
  case GG=>
   intro mg fa h KX G hmg
   refine' Pb.all_mk KX G hmg ?vk ?vm ?vn ?vp ?vq ?vv ?vw ?vx ?vy ?vz ?vA ?vB ?vC ?vD ?vE ?vF ?vG ?vH ?vI ?vJ ?vK ?vL ?vM ?vN ?vO ?vP ?vQ ?vR ?vS ?vT ?vU ?vV ?vW ?aR ?lR ?vX ?kR ?aV ?lV ?vY ?kV ?zz ?vZ ?D2 ?D3 ?rX ?rY ?rZ ?r8 ?r_ ?sf ?sj ?sm ?v3 ?v5 ?v8 ?v_ ?wa ?wb ?wc ?wd ?D4 ?D5 ?we ?wg ?D6 ?D7 ?wj ?wm
   case vk|vm|vn|vp|vq|vv|vw|vx|vy|vz|vA|vB|vC|vD|vE|vF|vG|vH|vI|vJ|vK|vL|vM|vN|vO|vP|vQ|vR|vS|vT|vU|vV|vW=>
    refine' Pb.Ln ?a ?l ?c ?k
    (case a=>k_is);(case l=>k_is);(case c=>k_is);(case k=>k_is)
   (case aR=>k_is);(case lR=>k_is);(case vX=>k_is);(case kR=>k_is)
   (case aV=>k_is);(case lV=>k_is);(case vY=>k_is);(case kV=>k_is)
   case zz=>intro x hx;simp only[Q0s,Q0t,or_false] at hx;rcases hx with rfl|rfl|rfl|rfl|rfl|rfl|rfl|rfl|rfl|rfl|rfl|rfl|rfl|rfl|rfl <;> k_is
   (case vZ=>k_is);(case D2=>k_is);(case D3=>rfl)
   case rX|rY|rZ|r8|r_|sf|sj|sm=>
    refine' Pb.Lo ?a ?l ?c ?k ?f ?g
    (case a=>k_is);(case l=>k_is);(case c=>k_is);(case k=>k_is);(case f=>kernel_rfl);(case g=>kernel_rfl)
   case v3|v5=>kernel_rfl
   case v8=>refine⟨?_,?_,?_,?_,?_,?_⟩ <;> kernel_rfl
   case v_|wa|wb|wc=>k_is
   (case wd=>rfl);(case D4=>k_is);(case D5=>rfl);(case we=>kernel_rfl)
   (case wg=>rfl);(case D6=>k_is);(case D7=>rfl);(case wj=>kernel_rfl)
   (case wm=>decide)
