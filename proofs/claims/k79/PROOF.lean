import PyProof.Rows.All
import Wide.All
import OpenK.AllK
import Wide.FinOn
import Lean
import PyProof.EqAt
import PyProof.EqKinds
import PyProof.TupleCall
import KE.KSortAsk
import PyProof.NeKinds
import PyProof.StationsW
import PyProof.ExcClass3
import PyProof.Rows.Own
import PyProof.NsDelKeeps
import KE.KIsAll
import PyProof.ExcAttrAll.ValueError
import PyProof.IsiH_list
import PyProof.Rows.FStr
import PyProof.FString4
import PyProof.StrLawsRepr
import PyProof.Rows.StrMeet
import PyProof.DictWalks
import PyProof.Draws
import KE.KDictOf
import PyProof.AttrMissHeap
import PyProof.Rows.DictListVals
import PyProof.ExcInit
import PyProof.InstStoreFacts
import PyProof.Rows.SetFrom
import PyProof.StrLawsIn
import PyProof.Rows.StrNews2
import PyProof.StrBlockI
import KE.IntText
import KE.KIntText
import PyProof.FString5
import PyProof.DictUpdate
import KE.KRevIter
import PySem.Challenge.RW_putback_k79_carried_through_take
set_option genSizeOf false
set_option Elab.async false
set_option linter.all false
set_option maxRecDepth 100000
set_option maxHeartbeats 4000000
theorem oW:0<=PySem.sizeLine:=by decide
theorem iT:1<=PySem.sizeLine:=by decide
theorem gY:2<=PySem.sizeLine:=by decide
theorem oX:3<=PySem.sizeLine:=by decide
theorem O3:6<=PySem.sizeLine:=by decide
namespace L2
open PySem PySem.Spec PyProof.Rows
noncomputable def bC (s:Stmt):Arguments:=match s with
 | .FunctionDef _ a _ _ _ _ _ _ _ _=>a
 |_=>{ posonlyargs:=[],args:=[],vararg:=none,kwonlyargs:=[],kw_defaults:=[],kwarg:=none,defaults:=[] }
noncomputable def bw (s:Stmt):List Stmt:=match s with
 | .FunctionDef _ _ b _ _ _ _ _ _ _=>b
 |_=>[]
noncomputable def aG (s:Stmt):Scope:=match s with
 | .FunctionDef _ _ _ _ _ _ sc _ _ _=>sc
 |_=>{ kind:=.function,names:=[],isGenerator:=false,isCoroutine:=false }
end L2
namespace Pb
open PySem L2
noncomputable def top (i:Nat):Stmt:=PySem.Challenge.pw_putback_k79_carried_through_take.main.body.getD i (.Pass ⟨0,0,0,0⟩)
noncomputable def bH (i j:Nat):Stmt:=match top i with
 | .ClassDef _ _ _ body _ _ _ _ _ _ _=>body.getD j (.Pass ⟨0,0,0,0⟩)
 |_=>.Pass ⟨0,0,0,0⟩
end Pb
namespace Pb
open PySem PySem.W
noncomputable def treeOf:List Obj->Nat->BT->Option BT
 |[],_,t=>some t
 |o::l,n,t=>match((t.ins n o).get n).isSome with
  |true=>treeOf l (n+1) (t.ins n o)
  |false=>none
theorem Fb {life:Life}:∀(l:List Obj) (n:Nat) (t t':BT),treeOf l n t=some t'->absHeap t' (n+l.length) life=⟨(absHeap t n life).objs++l.toArray,life⟩
 |[],n,t,t',h=>by
  cases h
  show absHeap t n life=_
  have:(absHeap t n life).objs++#[]=(absHeap t n life).objs:=Array.append_empty
  rw[this];rfl
 |o::l,n,t,t',h=>by
  unfold treeOf at h
  cases e:((t.ins n o).get n).isSome with
  |false=>rw[e] at h;cases h
  |true=>
   rw[e] at h
   have:=Fb (life:=life) l (n+1) _ t' h
   rw[absHeap_ins e] at this
   have e2:n+(o::l).length=n+1+l.length:=by rw[List.length_cons];omega
   rw[e2,this]
   show Heap.mk ((absHeap t n life).objs.push o++l.toArray) life=_
   congr 1
   apply Array.ext'
   simp
noncomputable def oY (tb:String->Option Builtin) (p:Program) (w:World) (n₀:Nat) (ann:Option Value):Nat->SharedT->Thread->Option SharedT
 |0,_,_=>none
 |n+1,s,t=>match through t with
  |true=>some s
  |false=>match stepOk n₀ ann t with
   |false=>none
   |true=>match stepT (denote tb) p w s t with
    |some (s',t')=>oY tb p w n₀ ann n s' t'
    |none=>none
theorem Fe {tb:String->Option Builtin}{p:Program}{w:World}{n₀:Nat}{ann:Option Value}:∀{n:Nat}{s s':SharedT}{t:Thread},oY tb p w n₀ ann n s t=some s'->topRun tb p w n₀ ann n s.abs t=some s'.abs
 |0,_,_,_,h=>by cases h
 |n+1,s,s',t,h=>by
  unfold oY at h
  unfold topRun
  cases he:through t with
  |true=>rw[he] at h;cases h;rfl
  |false=>
   rw[he] at h
   cases hk:stepOk n₀ ann t with
   |false=>rw[hk] at h;cases h
   |true=>
    rw[hk] at h
    cases hs:stepT (denote tb) p w s t with
    |none=>rw[hs] at h;cases h
    |some r=>obtain⟨s₂,t₂⟩:=r;rw[hs] at h;rw[stepT_spec hs];exact Fe h
noncomputable abbrev uX:=@W.Fast.tw10156331382660048174
noncomputable abbrev uY:=@W.Fast.tw11892475500146522536
noncomputable abbrev uZ:=@W.Fast.tw14364793385576792824
noncomputable abbrev Fg:=@W.Fast.tw6613529449190102663
noncomputable abbrev seenQ:=@W.Fast.tw4187177175401517315
noncomputable def qW (p:Program) (w:World) (n₀:Nat) (ann:Option Value):Nat->SharedT->Thread->Option SharedT
 |0,_,_=>none
 |n+1,s,t=>match through t with
  |true=>some s
  |false=>match Fg n₀ ann t with
   |false=>none
   |true=>match uX (uY uZ) p w s t with
    |some (s',t')=>qW p w n₀ ann n s' t'
    |none=>none
theorem Fi {p:Program}{w:World}{n₀:Nat}{ann:Option Value}:∀(n:Nat) (s:SharedT) (t:Thread),qW p w n₀ ann n s t=oY treeTable p w n₀ ann n s t
 |0,_,_=>rfl
 |n+1,s,t=>by
  unfold qW oY
  have e1:Fg n₀ ann t=stepOk n₀ ann t:=congrFun (congrFun (congrFun W.Fast.te6613529449190102663.symm _) _) _
  have e2:uX (uY uZ) p w s t=stepT (denote treeTable) p w s t:=by rw[show @uX=@stepT from W.Fast.te10156331382660048174.symm,show @uY=@denote from W.Fast.te11892475500146522536.symm,show @uZ=@treeTable from W.Fast.te14364793385576792824.symm]
  rw[e1,e2]
  simp only[Fi n]
noncomputable def looksAt (p q:Program) (loose:List Str) (Xt:Shared->Bool) {α:Type}(Yf:Shared->α) (g0:Bool) (h₀:Heap) (s:Shared):=
 ((staticsOk (importedModules p.main.body) h₀ s.heap && namesBound p s.heap && gensDone s && laidKept h₀ s.heap),seenQ q loose (importedModules p.main.body) Xt g0 s,Yf s)
noncomputable def u0 (p q:Program) (loose:List Str) (Xt:Shared->Bool) {α:Type}(Yf:Shared->α) (N:Nat) (g0:Bool) (w:World) (os:OsState):=
 match(boot_heap w.params).isNs mainGlobals with
 |true=>match treeOf (boot_heap w.params).objs.toList 0 .nil with
  |some T=>(qW p w (boot_heap w.params).objs.size ((boot_heap w.params).nsMap mainGlobals "__annotations__") N ⟨T,(boot_heap w.params).objs.size,(boot_heap w.params).life,#[],boot_drawn,boot_toks,os⟩ (topStub p)).map λ(s:SharedT)=>looksAt p q loose Xt Yf g0 (boot_heap w.params) s.abs
  |none=>none
 |false=>none
theorem O4 {p q:Program}{loose:List Str}{Xt:Shared->Bool}{α:Type}{Yf:Shared->α}{Ya:World->α}{N:Nat}{g0:Bool}
 (e:opening p=plainProg p.main.scope.names) (hN:Nat.ble 600 N=true) (f:∀s,fenceModules? p s=some s)
 (run:∀w os,u0 p q loose Xt Yf N g0 w os=some (true,openGood q loose,Ya w)):LeftO p q loose Xt Yf Ya N g0:=λw=>by
 obtain⟨⟨h,gs,d,k,os⟩,e1,e'⟩:=Option.map_eq_some_iff.mp (boot_open e hN f w)
 obtain⟨rfl,rfl,rfl,rfl⟩:h=boot_heap w.params/\gs=Array.mk []/\d=boot_drawn/\k=boot_toks:=by simpa using e'
 have r:=run w os
 unfold u0 at r
 cases z:(boot_heap w.params).isNs mainGlobals with
 |false=>rw[z] at r;cases r
 |true=>
  rw[z] at r
  dsimp only at r
  cases y:treeOf (boot_heap w.params).objs.toList 0 .nil with
  |none=>rw[y] at r;cases r
  |some T=>
   rw[y] at r
   obtain⟨s,r1,r2⟩:=Option.map_eq_some_iff.mp r
   rw[Fi] at r1
   have r3:=Fe r1
   have hT:=Fb (life:=(boot_heap w.params).life) _ _ _ _ y
   have hS:SharedT.abs ⟨T,(boot_heap w.params).objs.size,(boot_heap w.params).life,#[],boot_drawn,boot_toks,os⟩=⟨boot_heap w.params,#[],boot_drawn,boot_toks,os⟩:=by
    unfold SharedT.abs
    dsimp only
    rw[Nat.zero_add,Array.length_toList] at hT
    rw[hT]
    have e0:(absHeap BT.nil 0 (boot_heap w.params).life).objs=#[]:=rfl
    rw[e0,Array.empty_append,Array.toArray_toList]
   rw[hS] at r3
   have t:topFrom treeTable p w N ⟨boot_heap w.params,#[],boot_drawn,boot_toks,os⟩=some s.abs:=by
    unfold topFrom
    dsimp only
    rw[z,r3]
    have l1:=congrArg (λz=>z.1) r2
    dsimp only[looksAt] at l1
    show(match staticsOk (importedModules p.main.body) (boot_heap w.params) s.abs.heap && namesBound p s.abs.heap && gensDone s.abs && laidKept (boot_heap w.params) s.abs.heap with|true=>_|false=>_)=_
    rw[l1]
   unfold openEnds
   rw[e1]
   show(topFrom treeTable p w N _).map _=_
   rw[t]
   have l2:=congrArg (λz=>z.2) r2
   dsimp only[looksAt] at l2
   rw[show @seenQ=@openSeen from W.Fast.te4187177175401517315.symm] at l2
   exact congrArg some l2
end Pb
namespace Pb
open PySem L2
section
open PySem
noncomputable def aM (x q:Str) (s:Stmt) (m:Value) (c:Nat):Obj:=.mk (.type "function") none (.func (.mk x q (bC s) (.stmts (bw s)) (aG s) 3 [] .none .none .none m none (.ref c) .none 0)) #[]
noncomputable def aZ (x q:Str) (a l n k r f b e:Nat):Obj:=.mk (.type "code") none (.fields #[.str x a,.str q (a+1),.str (.ofString "/claim/cut.py") (a+2),.int l 0,.int n 0,.int 0 0,.int 0 0,.int k 0,.ref r,.bool true,.int f 0,.ref (r+1),.none,.ref (r+2),.ref (r+3),.ref (r+4),.int b 0,.int l 0,.str (.ofString "/claim/cut.py") e]) #[]
noncomputable def aD (P:Params) (x:Str) (a:Nat) (v:Value):DictEntry:=.mk (PyData.keyHash P x) (.str x a) v
noncomputable def O5 (P:Params):Obj:=.mk .none none (.dict #[]) #[]
noncomputable def O6 (P:Params):Obj:=.mk (.type "dict") none (.dict #[aD P "__name__" 165 (.str (.ofString "law_putback_k79_carried_through_take") 839),aD P "__doc__" 166 .none,aD P "__package__" 167 .none,aD P "__loader__" 168 (.builtin "__main__.__loader__#opaque"),aD P "__spec__" 169 .none,aD P "__annotations__" 170 (.ref 6),aD P "__builtins__" 171 (.ref 4),aD P "__file__" 173 (.str (.ofString "/claim/cut.py") 172),aD P "__cached__" 174 .none,aD P "_wall" 193 (.ref 21),aD P "ViewError" 213 (.ref 31),aD P "NoKind" 229 (.ref 44),aD P "NoView" 254 (.ref 63),aD P "CantPut" 279 (.ref 82),aD P "NoPaper" 304 (.ref 101),aD P "is_plain" 313 (.ref 110),aD P "kind_at" 322 (.ref 117),aD P "sorted_fields" 332 (.ref 124),aD P "record_of" 339 (.ref 131),aD P "misfit" 350 (.ref 138),aD P "record_misfit" 361 (.ref 145),aD P "has_just" 367 (.ref 150),aD P "rows_misfit" 379 (.ref 157),aD P "is_pair" 386 (.ref 164),aD P "tree_misfit" 397 (.ref 171),aD P "either_misfit" 407 (.ref 178),aD P "rank" 417 (.ref 185),aD P "in_order" 426 (.ref 192),aD P "by_key" 436 (.ref 199),aD P "done" 450 (.ref 206),aD P "between" 459 (.ref 213),aD P "stepped" 470 (.ref 220),aD P "stepped_in_record" 484 (.ref 227),aD P "stepped_in_rows" 496 (.ref 234),aD P "ends_at_key" 504 (.ref 241),aD P "row_number" 515 (.ref 248),aD P "with_at" 524 (.ref 255),aD P "stepped_in_tree" 535 (.ref 262),aD P "stepped_in_arm" 548 (.ref 269),aD P "stepped_in_either" 560 (.ref 276),aD P "acted" 571 (.ref 283),aD P "with_row" 580 (.ref 290),aD P "without_row" 590 (.ref 297),aD P "paper_at" 601 (.ref 304),aD P "record_paper" 614 (.ref 311),aD P "rows_paper" 628 (.ref 318),aD P "tree_paper" 642 (.ref 325),aD P "carried_on" 655 (.ref 332),aD P "carried_back" 666 (.ref 339),aD P "ask_fit" 677 (.ref 346),aD P "ask_stands" 684 (.ref 353),aD P "View" 746 (.ref 398),aD P "has_each_once" 754 (.ref 407),aD P "fields_among" 760 (.ref 412),aD P "part_of" 770 (.ref 419),aD P "Take" 838 (.ref 471),aD P "_law_next" 850 (.ref 480),aD P "_law_number" 860 (.ref 487),aD P "_law_word" 866 (.ref 492),aD P "_law_names" 872 (.ref 497),aD P "_law_plain" 880 (.ref 504),aD P "_law_fields" 886 (.ref 509),aD P "_law_rows_kind" 892 (.ref 514),aD P "_law_kind" 902 (.ref 521),aD P "_law_rank" 910 (.ref 528),aD P "_law_rows" 916 (.ref 533),aD P "_law_value" 922 (.ref 538),aD P "_law_same" 928 (.ref 543),aD P "_law_some" 934 (.ref 548),aD P "_law_sets" 950 (.ref 555),aD P "_law_due" 956 (.ref 560),aD P "law" 962 (.ref 565)] 72) #[]
noncomputable def O7 (P:Params):Obj:=aZ "_wall" "_wall" 187 1 1 3 15 181 191 192
noncomputable def O8 (P:Params):Obj:=aM "_wall" "_wall" (top 0) (.str (.ofString "__main__") 164) 20
noncomputable def O9 (P:Params):Obj:=.mk (.type "dict") none (.dict #[aD P "__module__" 203 (.str (.ofString "putback.errors") 194),aD P "__firstlineno__" 207 (.int 5 206),aD P "__static_attributes__" 208 (.ref 29),aD P "__weakref__" 210 (.ref 32),aD P "__doc__" 211 .none] 3) #[]
noncomputable def O_ (P:Params):Obj:=.mk (.type "type") none (.cls (.mk (.ofString "ViewError") [.type "ValueError"] [.ref 31,.type "ValueError",.type "Exception",.type "BaseException",.type "object"] 30 (.ofString "ViewError") true [] [.ref 44,.ref 63,.ref 82,.ref 101] false none false)) #[some (.ref 22),none,some (.str (.ofString "ViewError") 196),some (.str (.ofString "ViewError") 204),some (.builtin "ValueError.__new__"),some (.bool true)]
noncomputable def Pa (P:Params):Obj:=.mk (.type "getset_descriptor") none (.fields #[.str (.ofString "__weakref__") 209,.ref 31,.builtin "ExceptionGroup.__weakref__",.none]) #[]
noncomputable def Pg (P:Params):Obj:=.mk (.type "dict") none (.dict #[aD P "__module__" 221 (.str (.ofString "putback.errors") 194),aD P "__firstlineno__" 225 (.int 7 224),aD P "__static_attributes__" 226 (.ref 42),aD P "__doc__" 227 .none] 2) #[]
noncomputable def Ph (P:Params):Obj:=.mk (.type "type") none (.cls (.mk (.ofString "NoKind") [.ref 31] [.ref 44,.ref 31,.type "ValueError",.type "Exception",.type "BaseException",.type "object"] 43 (.ofString "NoKind") true [] [] false none false)) #[some (.ref 35),none,some (.str (.ofString "NoKind") 214),some (.str (.ofString "NoKind") 222),some (.builtin "ValueError.__new__"),some (.bool true)]
noncomputable def Pj (P:Params):Obj:=aZ "__init__" "NoView.__init__" 242 11 2 3 54 181 247 248
noncomputable def Pk (P:Params):Obj:=aM "__init__" "NoView.__init__" (bH 4 0) (.str (.ofString "putback.errors") 194) 59
noncomputable def Pn (P:Params):Obj:=.mk (.type "dict") none (.dict #[aD P "__module__" 237 (.str (.ofString "putback.errors") 194),aD P "__firstlineno__" 241 (.int 9 240),aD P "__init__" 249 (.ref 60),aD P "__static_attributes__" 251 (.ref 61),aD P "__doc__" 252 .none] 2) #[]
noncomputable def Pq (P:Params):Obj:=.mk (.type "type") none (.cls (.mk (.ofString "NoView") [.ref 31] [.ref 63,.ref 31,.type "ValueError",.type "Exception",.type "BaseException",.type "object"] 62 (.ofString "NoView") true [] [] false none false)) #[some (.ref 47),none,some (.str (.ofString "NoView") 230),some (.str (.ofString "NoView") 238),some (.builtin "ValueError.__new__"),some (.bool true)]
noncomputable def Pr (P:Params):Obj:=aZ "__init__" "CantPut.__init__" 267 15 2 3 73 181 272 273
noncomputable def Pu (P:Params):Obj:=aM "__init__" "CantPut.__init__" (bH 5 0) (.str (.ofString "putback.errors") 194) 78
noncomputable def Px (P:Params):Obj:=.mk (.type "dict") none (.dict #[aD P "__module__" 262 (.str (.ofString "putback.errors") 194),aD P "__firstlineno__" 266 (.int 13 265),aD P "__init__" 274 (.ref 79),aD P "__static_attributes__" 276 (.ref 80),aD P "__doc__" 277 .none] 2) #[]
noncomputable def Py (P:Params):Obj:=.mk (.type "type") none (.cls (.mk (.ofString "CantPut") [.ref 31] [.ref 82,.ref 31,.type "ValueError",.type "Exception",.type "BaseException",.type "object"] 81 (.ofString "CantPut") true [] [] false none false)) #[some (.ref 66),none,some (.str (.ofString "CantPut") 255),some (.str (.ofString "CantPut") 263),some (.builtin "ValueError.__new__"),some (.bool true)]
noncomputable def Pz (P:Params):Obj:=aZ "__init__" "NoPaper.__init__" 292 19 2 3 92 181 297 298
noncomputable def PB (P:Params):Obj:=aM "__init__" "NoPaper.__init__" (bH 6 0) (.str (.ofString "putback.errors") 194) 97
noncomputable def PJ (P:Params):Obj:=.mk (.type "dict") none (.dict #[aD P "__module__" 287 (.str (.ofString "putback.errors") 194),aD P "__firstlineno__" 291 (.int 17 290),aD P "__init__" 299 (.ref 98),aD P "__static_attributes__" 301 (.ref 99),aD P "__doc__" 302 .none] 2) #[]
noncomputable def PK (P:Params):Obj:=.mk (.type "type") none (.cls (.mk (.ofString "NoPaper") [.ref 31] [.ref 101,.ref 31,.type "ValueError",.type "Exception",.type "BaseException",.type "object"] 100 (.ofString "NoPaper") true [] [] false none false)) #[some (.ref 85),none,some (.str (.ofString "NoPaper") 280),some (.str (.ofString "NoPaper") 288),some (.builtin "ValueError.__new__"),some (.bool true)]
noncomputable def PL (P:Params):Obj:=aZ "is_plain" "is_plain" 307 22 1 3 104 181 311 312
noncomputable def PN (P:Params):Obj:=aM "is_plain" "is_plain" (top 8) (.str (.ofString "putback.kinds") 305) 109
noncomputable def PX (P:Params):Obj:=aZ "kind_at" "kind_at" 314 24 2 3 111 181 320 321
noncomputable def P0 (P:Params):Obj:=aM "kind_at" "kind_at" (top 9) (.str (.ofString "putback.kinds") 305) 116
noncomputable def P_ (P:Params):Obj:=aZ "sorted_fields" "sorted_fields" 323 29 1 3 118 181 330 331
noncomputable def Qa (P:Params):Obj:=aM "sorted_fields" "sorted_fields" (top 10) (.str (.ofString "putback.kinds") 305) 123
noncomputable def Qc (P:Params):Obj:=aZ "record_of" "record_of" 333 36 1 3 125 181 337 338
noncomputable def Qe (P:Params):Obj:=aM "record_of" "record_of" (top 11) (.str (.ofString "putback.kinds") 305) 130
noncomputable def Qf (P:Params):Obj:=aZ "misfit" "misfit" 342 39 2 3 132 181 348 349
noncomputable def Qg (P:Params):Obj:=aM "misfit" "misfit" (top 13) (.str (.ofString "putback.values") 340) 137
noncomputable def Qh (P:Params):Obj:=aZ "record_misfit" "record_misfit" 351 52 2 3 139 181 359 360
noncomputable def Qi (P:Params):Obj:=aM "record_misfit" "record_misfit" (top 14) (.str (.ofString "putback.values") 340) 144
noncomputable def Qj (P:Params):Obj:=.mk (.type "code") none (.fields #[.str (.ofString "has_just") 362,.str (.ofString "has_just") 363,.str (.ofString "/claim/cut.py") 364,.int 60 0,.int 2 0,.int 0 0,.int 0 0,.int 3 0,.ref 146,.bool true,.int 181 0,.ref 147,.none,.none,.none,.ref 148,.int 365 0,.int 60 0,.str (.ofString "/claim/cut.py") 366]) #[]
noncomputable def Qk (P:Params):Obj:=aM "has_just" "has_just" (top 15) (.str (.ofString "putback.values") 340) 149
noncomputable def Ql (P:Params):Obj:=aZ "rows_misfit" "rows_misfit" 368 62 2 3 151 181 377 378
noncomputable def Qm (P:Params):Obj:=aM "rows_misfit" "rows_misfit" (top 16) (.str (.ofString "putback.values") 340) 156
noncomputable def Qn (P:Params):Obj:=aZ "is_pair" "is_pair" 380 76 1 3 158 181 384 385
noncomputable def Qo (P:Params):Obj:=aM "is_pair" "is_pair" (top 17) (.str (.ofString "putback.values") 340) 163
noncomputable def Qp (P:Params):Obj:=aZ "tree_misfit" "tree_misfit" 387 78 2 3 165 181 395 396
noncomputable def Qq (P:Params):Obj:=aM "tree_misfit" "tree_misfit" (top 18) (.str (.ofString "putback.values") 340) 170
noncomputable def Qs (P:Params):Obj:=aZ "either_misfit" "either_misfit" 398 89 2 3 172 181 405 406
noncomputable def Qt (P:Params):Obj:=aM "either_misfit" "either_misfit" (top 19) (.str (.ofString "putback.values") 340) 177
noncomputable def Qu (P:Params):Obj:=aZ "rank" "rank" 408 99 2 3 179 181 415 416
noncomputable def Qv (P:Params):Obj:=aM "rank" "rank" (top 20) (.str (.ofString "putback.values") 340) 184
noncomputable def Qw (P:Params):Obj:=aZ "in_order" "in_order" 418 105 2 3 186 181 424 425
noncomputable def Qx (P:Params):Obj:=aM "in_order" "in_order" (top 21) (.str (.ofString "putback.values") 340) 191
noncomputable def Qy (P:Params):Obj:=aZ "by_key" "by_key" 427 107 2 3 193 181 434 435
noncomputable def Qz (P:Params):Obj:=aM "by_key" "by_key" (top 22) (.str (.ofString "putback.values") 340) 198
noncomputable def QB (P:Params):Obj:=aZ "done" "done" 439 113 3 3 200 181 448 449
noncomputable def QC (P:Params):Obj:=aM "done" "done" (top 24) (.str (.ofString "putback.papers") 437) 205
noncomputable def QD (P:Params):Obj:=aZ "between" "between" 451 120 3 3 207 181 457 458
noncomputable def QF (P:Params):Obj:=aM "between" "between" (top 25) (.str (.ofString "putback.papers") 437) 212
noncomputable def QG (P:Params):Obj:=aZ "stepped" "stepped" 460 122 4 3 214 181 468 469
noncomputable def QH (P:Params):Obj:=aM "stepped" "stepped" (top 26) (.str (.ofString "putback.papers") 437) 219
noncomputable def QJ (P:Params):Obj:=aZ "stepped_in_record" "stepped_in_record" 471 135 4 3 221 181 482 483
noncomputable def QK (P:Params):Obj:=aM "stepped_in_record" "stepped_in_record" (top 27) (.str (.ofString "putback.papers") 437) 226
noncomputable def QL (P:Params):Obj:=aZ "stepped_in_rows" "stepped_in_rows" 485 146 4 3 228 181 494 495
noncomputable def QM (P:Params):Obj:=aM "stepped_in_rows" "stepped_in_rows" (top 28) (.str (.ofString "putback.papers") 437) 233
noncomputable def QS (P:Params):Obj:=aZ "ends_at_key" "ends_at_key" 497 154 2 3 235 181 502 503
noncomputable def QT (P:Params):Obj:=aM "ends_at_key" "ends_at_key" (top 29) (.str (.ofString "putback.papers") 437) 240
noncomputable def QV (P:Params):Obj:=aZ "row_number" "row_number" 505 156 3 3 242 181 513 514
noncomputable def QW (P:Params):Obj:=aM "row_number" "row_number" (top 30) (.str (.ofString "putback.papers") 437) 247
noncomputable def QX (P:Params):Obj:=aZ "with_at" "with_at" 516 163 3 3 249 181 522 523
noncomputable def QZ (P:Params):Obj:=aM "with_at" "with_at" (top 31) (.str (.ofString "putback.papers") 437) 254
noncomputable def Q0 (P:Params):Obj:=aZ "stepped_in_tree" "stepped_in_tree" 525 165 4 3 256 181 533 534
noncomputable def Q5 (P:Params):Obj:=aM "stepped_in_tree" "stepped_in_tree" (top 32) (.str (.ofString "putback.papers") 437) 261
noncomputable def Q6 (P:Params):Obj:=aZ "stepped_in_arm" "stepped_in_arm" 536 170 4 3 263 181 546 547
noncomputable def Q7 (P:Params):Obj:=aM "stepped_in_arm" "stepped_in_arm" (top 33) (.str (.ofString "putback.papers") 437) 268
noncomputable def Q8 (P:Params):Obj:=aZ "stepped_in_either" "stepped_in_either" 549 177 4 3 270 181 558 559
noncomputable def Q9 (P:Params):Obj:=aM "stepped_in_either" "stepped_in_either" (top 34) (.str (.ofString "putback.papers") 437) 275
noncomputable def Q_ (P:Params):Obj:=aZ "acted" "acted" 561 183 3 3 277 181 569 570
noncomputable def Ra (P:Params):Obj:=aM "acted" "acted" (top 35) (.str (.ofString "putback.papers") 437) 282
noncomputable def Rb (P:Params):Obj:=aZ "with_row" "with_row" 572 197 3 3 284 181 578 579
noncomputable def Rc (P:Params):Obj:=aM "with_row" "with_row" (top 36) (.str (.ofString "putback.papers") 437) 289
noncomputable def Rf (P:Params):Obj:=aZ "without_row" "without_row" 581 203 3 3 291 181 588 589
noncomputable def Rg (P:Params):Obj:=aM "without_row" "without_row" (top 37) (.str (.ofString "putback.papers") 437) 296
noncomputable def Rh (P:Params):Obj:=aZ "paper_at" "paper_at" 591 206 4 3 298 181 599 600
noncomputable def Ri (P:Params):Obj:=aM "paper_at" "paper_at" (top 38) (.str (.ofString "putback.papers") 437) 303
noncomputable def Rj (P:Params):Obj:=aZ "record_paper" "record_paper" 602 217 4 3 305 181 612 613
noncomputable def Rk (P:Params):Obj:=aM "record_paper" "record_paper" (top 39) (.str (.ofString "putback.papers") 437) 310
noncomputable def Rm (P:Params):Obj:=aZ "rows_paper" "rows_paper" 615 222 4 3 312 181 626 627
noncomputable def Rn (P:Params):Obj:=aM "rows_paper" "rows_paper" (top 40) (.str (.ofString "putback.papers") 437) 317
noncomputable def Ro (P:Params):Obj:=aZ "tree_paper" "tree_paper" 629 234 4 3 319 181 640 641
noncomputable def Rp (P:Params):Obj:=aM "tree_paper" "tree_paper" (top 41) (.str (.ofString "putback.papers") 437) 324
noncomputable def Rq (P:Params):Obj:=aZ "carried_on" "carried_on" 645 246 4 3 326 181 653 654
noncomputable def Rr (P:Params):Obj:=aM "carried_on" "carried_on" (top 43) (.str (.ofString "putback.carry") 643) 331
noncomputable def Rt (P:Params):Obj:=aZ "carried_back" "carried_back" 656 249 4 3 333 181 664 665
noncomputable def Ru (P:Params):Obj:=aM "carried_back" "carried_back" (top 44) (.str (.ofString "putback.carry") 643) 338
noncomputable def Rv (P:Params):Obj:=aZ "ask_fit" "ask_fit" 669 253 2 3 340 181 675 676
noncomputable def Rw (P:Params):Obj:=aM "ask_fit" "ask_fit" (top 46) (.str (.ofString "putback.views") 667) 345
noncomputable def Rx (P:Params):Obj:=aZ "ask_stands" "ask_stands" 678 257 1 3 347 181 682 683
noncomputable def Ry (P:Params):Obj:=aM "ask_stands" "ask_stands" (top 47) (.str (.ofString "putback.views") 667) 352
noncomputable def Rz (P:Params):Obj:=aZ "behind" "View.behind" 697 262 2 3 361 181 702 703
noncomputable def RB (P:Params):Obj:=aM "behind" "View.behind" (bH 48 0) (.str (.ofString "putback.views") 667) 366
noncomputable def RD (P:Params):Obj:=aZ "see" "View.see" 705 265 3 3 368 181 711 712
noncomputable def RG (P:Params):Obj:=aM "see" "View.see" (bH 48 1) (.str (.ofString "putback.views") 667) 373
noncomputable def RJ (P:Params):Obj:=aZ "put" "View.put" 714 268 4 3 375 181 721 722
noncomputable def RK (P:Params):Obj:=aM "put" "View.put" (bH 48 2) (.str (.ofString "putback.views") 667) 380
noncomputable def RL (P:Params):Obj:=aZ "grade" "View.grade" 724 272 1 3 382 181 728 729
noncomputable def RM (P:Params):Obj:=aM "grade" "View.grade" (bH 48 3) (.str (.ofString "putback.views") 667) 387
noncomputable def RN (P:Params):Obj:=aZ "keeps" "View.keeps" 731 275 2 3 389 181 736 737
noncomputable def RT (P:Params):Obj:=aM "keeps" "View.keeps" (bH 48 4) (.str (.ofString "putback.views") 667) 394
noncomputable def RV (P:Params):Obj:=.mk (.type "dict") none (.dict #[aD P "__module__" 692 (.str (.ofString "putback.views") 667),aD P "__firstlineno__" 696 (.int 260 695),aD P "behind" 704 (.ref 367),aD P "see" 713 (.ref 374),aD P "put" 723 (.ref 381),aD P "grade" 730 (.ref 388),aD P "keeps" 738 (.ref 395),aD P "__static_attributes__" 739 (.ref 396),aD P "__dict__" 741 (.ref 399),aD P "__weakref__" 743 (.ref 400),aD P "__doc__" 744 .none] 4) #[]
noncomputable def RW (P:Params):Obj:=.mk (.type "type") none (.cls (.mk (.ofString "View") [.type "object"] [.ref 398,.type "object"] 397 (.ofString "View") true [] [.ref 471] false none false)) #[none,none,some (.str (.ofString "View") 685),some (.str (.ofString "View") 693),some (.builtin "object.__new__"),some (.bool true)]
noncomputable def RX (P:Params):Obj:=.mk (.type "getset_descriptor") none (.fields #[.str (.ofString "__dict__") 740,.ref 398,.builtin "function.__dict__",.builtin "function.__dict__#set"]) #[]
noncomputable def RZ (P:Params):Obj:=.mk (.type "getset_descriptor") none (.fields #[.str (.ofString "__weakref__") 742,.ref 398,.builtin "ExceptionGroup.__weakref__",.none]) #[]
noncomputable def R0 (P:Params):Obj:=.mk (.type "code") none (.fields #[.str (.ofString "has_each_once") 749,.str (.ofString "has_each_once") 750,.str (.ofString "/claim/cut.py") 751,.int 278 0,.int 2 0,.int 0 0,.int 0 0,.int 3 0,.ref 403,.bool true,.int 181 0,.ref 404,.none,.none,.none,.ref 405,.int 752 0,.int 278 0,.str (.ofString "/claim/cut.py") 753]) #[]
noncomputable def R3 (P:Params):Obj:=aM "has_each_once" "has_each_once" (top 50) (.str (.ofString "putback.fields") 747) 406
noncomputable def R4 (P:Params):Obj:=.mk (.type "code") none (.fields #[.str (.ofString "fields_among") 755,.str (.ofString "fields_among") 756,.str (.ofString "/claim/cut.py") 757,.int 282 0,.int 2 0,.int 0 0,.int 0 0,.int 3 0,.ref 408,.bool true,.int 181 0,.ref 409,.none,.none,.none,.ref 410,.int 758 0,.int 282 0,.str (.ofString "/claim/cut.py") 759]) #[]
noncomputable def R5 (P:Params):Obj:=aM "fields_among" "fields_among" (top 51) (.str (.ofString "putback.fields") 747) 411
noncomputable def R6 (P:Params):Obj:=aZ "part_of" "part_of" 761 284 2 3 413 181 768 769
noncomputable def R7 (P:Params):Obj:=aM "part_of" "part_of" (top 52) (.str (.ofString "putback.fields") 747) 418
noncomputable def R8 (P:Params):Obj:=aZ "__init__" "Take.__init__" 783 291 2 3 427 181 788 789
noncomputable def R9 (P:Params):Obj:=aM "__init__" "Take.__init__" (bH 53 0) (.str (.ofString "putback.fields") 747) 432
noncomputable def R_ (P:Params):Obj:=aZ "behind" "Take.behind" 791 294 2 3 434 181 796 797
noncomputable def Sd (P:Params):Obj:=aM "behind" "Take.behind" (bH 53 1) (.str (.ofString "putback.fields") 747) 439
noncomputable def Sg (P:Params):Obj:=aZ "see" "Take.see" 799 298 3 3 441 181 805 806
noncomputable def Sh (P:Params):Obj:=aM "see" "Take.see" (bH 53 2) (.str (.ofString "putback.fields") 747) 446
noncomputable def Sq (P:Params):Obj:=aZ "put" "Take.put" 808 301 4 3 448 181 816 817
noncomputable def Ss (P:Params):Obj:=aM "put" "Take.put" (bH 53 3) (.str (.ofString "putback.fields") 747) 453
noncomputable def Sv (P:Params):Obj:=aZ "grade" "Take.grade" 819 307 1 3 455 181 823 824
noncomputable def Sw (P:Params):Obj:=aM "grade" "Take.grade" (bH 53 4) (.str (.ofString "putback.fields") 747) 460
noncomputable def Sx (P:Params):Obj:=aZ "keeps" "Take.keeps" 826 310 2 3 462 181 831 832
noncomputable def Sy (P:Params):Obj:=aM "keeps" "Take.keeps" (bH 53 5) (.str (.ofString "putback.fields") 747) 467
noncomputable def SJ (P:Params):Obj:=.mk (.type "dict") none (.dict #[aD P "__module__" 778 (.str (.ofString "putback.fields") 747),aD P "__firstlineno__" 782 (.int 289 781),aD P "__init__" 790 (.ref 433),aD P "behind" 798 (.ref 440),aD P "see" 807 (.ref 447),aD P "put" 818 (.ref 454),aD P "grade" 825 (.ref 461),aD P "keeps" 833 (.ref 468),aD P "__static_attributes__" 835 (.ref 469),aD P "__doc__" 836 .none] 2) #[]
noncomputable def SN (P:Params):Obj:=.mk (.type "type") none (.cls (.mk (.ofString "Take") [.ref 398] [.ref 471,.ref 398,.type "object"] 470 (.ofString "Take") true [] [] false none false)) #[some (.ref 420),none,some (.str (.ofString "Take") 771),some (.str (.ofString "Take") 779),some (.builtin "object.__new__"),some (.bool true)]
noncomputable def SQ (P:Params):Obj:=aZ "_law_next" "_law_next" 841 313 2 3 474 181 848 849
noncomputable def SX (P:Params):Obj:=aM "_law_next" "_law_next" (top 55) (.str (.ofString "law_putback_k79_carried_through_take") 839) 479
noncomputable def S5 (P:Params):Obj:=aZ "_law_number" "_law_number" 851 318 2 3 481 181 858 859
noncomputable def S6 (P:Params):Obj:=aM "_law_number" "_law_number" (top 56) (.str (.ofString "law_putback_k79_carried_through_take") 839) 486
noncomputable def S7 (P:Params):Obj:=.mk (.type "code") none (.fields #[.str (.ofString "_law_word") 861,.str (.ofString "_law_word") 862,.str (.ofString "/claim/cut.py") 863,.int 324 0,.int 2 0,.int 0 0,.int 0 0,.int 3 0,.ref 488,.bool true,.int 181 0,.ref 489,.none,.none,.none,.ref 490,.int 864 0,.int 324 0,.str (.ofString "/claim/cut.py") 865]) #[]
noncomputable def S8 (P:Params):Obj:=aM "_law_word" "_law_word" (top 57) (.str (.ofString "law_putback_k79_carried_through_take") 839) 491
noncomputable def S9 (P:Params):Obj:=.mk (.type "code") none (.fields #[.str (.ofString "_law_names") 867,.str (.ofString "_law_names") 868,.str (.ofString "/claim/cut.py") 869,.int 330 0,.int 3 0,.int 0 0,.int 0 0,.int 3 0,.ref 493,.bool true,.int 181 0,.ref 494,.none,.none,.none,.ref 495,.int 870 0,.int 330 0,.str (.ofString "/claim/cut.py") 871]) #[]
noncomputable def S_ (P:Params):Obj:=aM "_law_names" "_law_names" (top 58) (.str (.ofString "law_putback_k79_carried_through_take") 839) 496
noncomputable def Tc (P:Params):Obj:=aZ "_law_plain" "_law_plain" 873 338 2 3 498 181 878 879
noncomputable def Td (P:Params):Obj:=aM "_law_plain" "_law_plain" (top 59) (.str (.ofString "law_putback_k79_carried_through_take") 839) 503
noncomputable def Te (P:Params):Obj:=.mk (.type "code") none (.fields #[.str (.ofString "_law_fields") 881,.str (.ofString "_law_fields") 882,.str (.ofString "/claim/cut.py") 883,.int 340 0,.int 4 0,.int 0 0,.int 0 0,.int 3 0,.ref 505,.bool true,.int 181 0,.ref 506,.none,.none,.none,.ref 507,.int 884 0,.int 340 0,.str (.ofString "/claim/cut.py") 885]) #[]
noncomputable def Tf (P:Params):Obj:=aM "_law_fields" "_law_fields" (top 60) (.str (.ofString "law_putback_k79_carried_through_take") 839) 508
noncomputable def Tg (P:Params):Obj:=.mk (.type "code") none (.fields #[.str (.ofString "_law_rows_kind") 887,.str (.ofString "_law_rows_kind") 888,.str (.ofString "/claim/cut.py") 889,.int 342 0,.int 4 0,.int 0 0,.int 0 0,.int 3 0,.ref 510,.bool true,.int 181 0,.ref 511,.none,.none,.none,.ref 512,.int 890 0,.int 342 0,.str (.ofString "/claim/cut.py") 891]) #[]
noncomputable def Ti (P:Params):Obj:=aM "_law_rows_kind" "_law_rows_kind" (top 61) (.str (.ofString "law_putback_k79_carried_through_take") 839) 513
noncomputable def Tj (P:Params):Obj:=aZ "_law_kind" "_law_kind" 893 350 3 3 515 181 900 901
noncomputable def Tn (P:Params):Obj:=aM "_law_kind" "_law_kind" (top 62) (.str (.ofString "law_putback_k79_carried_through_take") 839) 520
noncomputable def Tp (P:Params):Obj:=aZ "_law_rank" "_law_rank" 903 361 2 3 522 181 908 909
noncomputable def Tq (P:Params):Obj:=aM "_law_rank" "_law_rank" (top 63) (.str (.ofString "law_putback_k79_carried_through_take") 839) 527
noncomputable def Tr (P:Params):Obj:=.mk (.type "code") none (.fields #[.str (.ofString "_law_rows") 911,.str (.ofString "_law_rows") 912,.str (.ofString "/claim/cut.py") 913,.int 363 0,.int 4 0,.int 0 0,.int 0 0,.int 3 0,.ref 529,.bool true,.int 181 0,.ref 530,.none,.none,.none,.ref 531,.int 914 0,.int 363 0,.str (.ofString "/claim/cut.py") 915]) #[]
noncomputable def Tt (P:Params):Obj:=aM "_law_rows" "_law_rows" (top 64) (.str (.ofString "law_putback_k79_carried_through_take") 839) 532
noncomputable def Tv (P:Params):Obj:=.mk (.type "code") none (.fields #[.str (.ofString "_law_value") 917,.str (.ofString "_law_value") 918,.str (.ofString "/claim/cut.py") 919,.int 368 0,.int 4 0,.int 0 0,.int 0 0,.int 3 0,.ref 534,.bool true,.int 181 0,.ref 535,.none,.none,.none,.ref 536,.int 920 0,.int 368 0,.str (.ofString "/claim/cut.py") 921]) #[]
noncomputable def Tw (P:Params):Obj:=aM "_law_value" "_law_value" (top 65) (.str (.ofString "law_putback_k79_carried_through_take") 839) 537
noncomputable def Tz (P:Params):Obj:=.mk (.type "code") none (.fields #[.str (.ofString "_law_same") 923,.str (.ofString "_law_same") 924,.str (.ofString "/claim/cut.py") 925,.int 383 0,.int 2 0,.int 0 0,.int 0 0,.int 3 0,.ref 539,.bool true,.int 181 0,.ref 540,.none,.none,.none,.ref 541,.int 926 0,.int 383 0,.str (.ofString "/claim/cut.py") 927]) #[]
noncomputable def TF (P:Params):Obj:=aM "_law_same" "_law_same" (top 66) (.str (.ofString "law_putback_k79_carried_through_take") 839) 542
noncomputable def TJ (P:Params):Obj:=.mk (.type "code") none (.fields #[.str (.ofString "_law_some") 929,.str (.ofString "_law_some") 930,.str (.ofString "/claim/cut.py") 931,.int 395 0,.int 2 0,.int 0 0,.int 0 0,.int 3 0,.ref 544,.bool true,.int 181 0,.ref 545,.none,.none,.none,.ref 546,.int 932 0,.int 395 0,.str (.ofString "/claim/cut.py") 933]) #[]
noncomputable def TQ (P:Params):Obj:=aM "_law_some" "_law_some" (top 67) (.str (.ofString "law_putback_k79_carried_through_take") 839) 547
noncomputable def TV (P:Params):Obj:=aZ "_law_sets" "_law_sets" 935 398 5 3 549 181 948 949
noncomputable def TX (P:Params):Obj:=aM "_law_sets" "_law_sets" (top 68) (.str (.ofString "law_putback_k79_carried_through_take") 839) 554
noncomputable def TY (P:Params):Obj:=.mk (.type "code") none (.fields #[.str (.ofString "_law_due") 951,.str (.ofString "_law_due") 952,.str (.ofString "/claim/cut.py") 953,.int 406 0,.int 3 0,.int 0 0,.int 0 0,.int 3 0,.ref 556,.bool true,.int 181 0,.ref 557,.none,.none,.none,.ref 558,.int 954 0,.int 406 0,.str (.ofString "/claim/cut.py") 955]) #[]
noncomputable def T3 (P:Params):Obj:=aM "_law_due" "_law_due" (top 69) (.str (.ofString "law_putback_k79_carried_through_take") 839) 559
noncomputable def T4 (P:Params):Obj:=.mk (.type "code") none (.fields #[.str (.ofString "law") 957,.str (.ofString "law") 958,.str (.ofString "/claim/cut.py") 959,.int 408 0,.int 1 0,.int 0 0,.int 0 0,.int 3 0,.ref 561,.bool true,.int 181 0,.ref 562,.none,.none,.none,.ref 563,.int 960 0,.int 408 0,.str (.ofString "/claim/cut.py") 961]) #[]
noncomputable def T5 (P:Params):Obj:=aM "law" "law" (top 70) (.str (.ofString "law_putback_k79_carried_through_take") 839) 564
end
noncomputable def KK:PySem.Params->W.Frag:=λP=>(nat_lit 2,O5 P)::(nat_lit 3,O6 P)::(nat_lit 20,O7 P)::(nat_lit 21,O8 P)::(nat_lit 30,O9 P)::(nat_lit 31,O_ P)::(nat_lit 32,Pa P)::(nat_lit 43,Pg P)::(nat_lit 44,Ph P)::(nat_lit 59,Pj P)::(nat_lit 60,Pk P)::(nat_lit 62,Pn P)::(nat_lit 63,Pq P)::(nat_lit 78,Pr P)::(nat_lit 79,Pu P)::(nat_lit 81,Px P)::(nat_lit 82,Py P)::(nat_lit 97,Pz P)::(nat_lit 98,PB P)::(nat_lit 100,PJ P)::(nat_lit 101,PK P)::(nat_lit 109,PL P)::(nat_lit 110,PN P)::(nat_lit 116,PX P)::(nat_lit 117,P0 P)::(nat_lit 123,P_ P)::(nat_lit 124,Qa P)::(nat_lit 130,Qc P)::(nat_lit 131,Qe P)::(nat_lit 137,Qf P)::(nat_lit 138,Qg P)::(nat_lit 144,Qh P)::(nat_lit 145,Qi P)::(nat_lit 149,Qj P)::(nat_lit 150,Qk P)::(nat_lit 156,Ql P)::(nat_lit 157,Qm P)::(nat_lit 163,Qn P)::(nat_lit 164,Qo P)::(nat_lit 170,Qp P)::(nat_lit 171,Qq P)::(nat_lit 177,Qs P)::(nat_lit 178,Qt P)::(nat_lit 184,Qu P)::(nat_lit 185,Qv P)::(nat_lit 191,Qw P)::(nat_lit 192,Qx P)::(nat_lit 198,Qy P)::(nat_lit 199,Qz P)::(nat_lit 205,QB P)::(nat_lit 206,QC P)::(nat_lit 212,QD P)::(nat_lit 213,QF P)::(nat_lit 219,QG P)::(nat_lit 220,QH P)::(nat_lit 226,QJ P)::(nat_lit 227,QK P)::(nat_lit 233,QL P)::(nat_lit 234,QM P)::(nat_lit 240,QS P)::(nat_lit 241,QT P)::(nat_lit 247,QV P)::(nat_lit 248,QW P)::(nat_lit 254,QX P)::(nat_lit 255,QZ P)::(nat_lit 261,Q0 P)::(nat_lit 262,Q5 P)::(nat_lit 268,Q6 P)::(nat_lit 269,Q7 P)::(nat_lit 275,Q8 P)::(nat_lit 276,Q9 P)::(nat_lit 282,Q_ P)::(nat_lit 283,Ra P)::(nat_lit 289,Rb P)::(nat_lit 290,Rc P)::(nat_lit 296,Rf P)::(nat_lit 297,Rg P)::(nat_lit 303,Rh P)::(nat_lit 304,Ri P)::(nat_lit 310,Rj P)::(nat_lit 311,Rk P)::(nat_lit 317,Rm P)::(nat_lit 318,Rn P)::(nat_lit 324,Ro P)::(nat_lit 325,Rp P)::(nat_lit 331,Rq P)::(nat_lit 332,Rr P)::(nat_lit 338,Rt P)::(nat_lit 339,Ru P)::(nat_lit 345,Rv P)::(nat_lit 346,Rw P)::(nat_lit 352,Rx P)::(nat_lit 353,Ry P)::(nat_lit 366,Rz P)::(nat_lit 367,RB P)::(nat_lit 373,RD P)::(nat_lit 374,RG P)::(nat_lit 380,RJ P)::(nat_lit 381,RK P)::(nat_lit 387,RL P)::(nat_lit 388,RM P)::(nat_lit 394,RN P)::(nat_lit 395,RT P)::(nat_lit 397,RV P)::(nat_lit 398,RW P)::(nat_lit 399,RX P)::(nat_lit 400,RZ P)::(nat_lit 406,R0 P)::(nat_lit 407,R3 P)::(nat_lit 411,R4 P)::(nat_lit 412,R5 P)::(nat_lit 418,R6 P)::(nat_lit 419,R7 P)::(nat_lit 432,R8 P)::(nat_lit 433,R9 P)::(nat_lit 439,R_ P)::(nat_lit 440,Sd P)::(nat_lit 446,Sg P)::(nat_lit 447,Sh P)::(nat_lit 453,Sq P)::(nat_lit 454,Ss P)::(nat_lit 460,Sv P)::(nat_lit 461,Sw P)::(nat_lit 467,Sx P)::(nat_lit 468,Sy P)::(nat_lit 470,SJ P)::(nat_lit 471,SN P)::(nat_lit 479,SQ P)::(nat_lit 480,SX P)::(nat_lit 486,S5 P)::(nat_lit 487,S6 P)::(nat_lit 491,S7 P)::(nat_lit 492,S8 P)::(nat_lit 496,S9 P)::(nat_lit 497,S_ P)::(nat_lit 503,Tc P)::(nat_lit 504,Td P)::(nat_lit 508,Te P)::(nat_lit 509,Tf P)::(nat_lit 513,Tg P)::(nat_lit 514,Ti P)::(nat_lit 520,Tj P)::(nat_lit 521,Tn P)::(nat_lit 527,Tp P)::(nat_lit 528,Tq P)::(nat_lit 532,Tr P)::(nat_lit 533,Tt P)::(nat_lit 537,Tv P)::(nat_lit 538,Tw P)::(nat_lit 542,Tz P)::(nat_lit 543,TF P)::(nat_lit 547,TJ P)::(nat_lit 548,TQ P)::(nat_lit 554,TV P)::(nat_lit 555,TX P)::(nat_lit 559,TY P)::(nat_lit 560,T3 P)::(nat_lit 564,T4 P)::(nat_lit 565,T5 P)::[]
noncomputable def jM:List Nat:=nat_lit 2::nat_lit 3::nat_lit 20::nat_lit 21::nat_lit 30::nat_lit 31::nat_lit 32::nat_lit 43::nat_lit 44::nat_lit 59::nat_lit 60::nat_lit 62::nat_lit 63::nat_lit 78::nat_lit 79::nat_lit 81::nat_lit 82::nat_lit 97::nat_lit 98::nat_lit 100::nat_lit 101::nat_lit 109::nat_lit 110::nat_lit 116::nat_lit 117::nat_lit 123::nat_lit 124::nat_lit 130::nat_lit 131::nat_lit 137::nat_lit 138::nat_lit 144::nat_lit 145::nat_lit 149::nat_lit 150::nat_lit 156::nat_lit 157::nat_lit 163::nat_lit 164::nat_lit 170::nat_lit 171::nat_lit 177::nat_lit 178::nat_lit 184::nat_lit 185::nat_lit 191::nat_lit 192::nat_lit 198::nat_lit 199::nat_lit 205::nat_lit 206::nat_lit 212::nat_lit 213::nat_lit 219::nat_lit 220::nat_lit 226::nat_lit 227::nat_lit 233::nat_lit 234::nat_lit 240::nat_lit 241::nat_lit 247::nat_lit 248::nat_lit 254::nat_lit 255::nat_lit 261::nat_lit 262::nat_lit 268::nat_lit 269::nat_lit 275::nat_lit 276::nat_lit 282::nat_lit 283::nat_lit 289::nat_lit 290::nat_lit 296::nat_lit 297::nat_lit 303::nat_lit 304::nat_lit 310::nat_lit 311::nat_lit 317::nat_lit 318::nat_lit 324::nat_lit 325::nat_lit 331::nat_lit 332::nat_lit 338::nat_lit 339::nat_lit 345::nat_lit 346::nat_lit 352::nat_lit 353::nat_lit 366::nat_lit 367::nat_lit 373::nat_lit 374::nat_lit 380::nat_lit 381::nat_lit 387::nat_lit 388::nat_lit 394::nat_lit 395::nat_lit 397::nat_lit 398::nat_lit 399::nat_lit 400::nat_lit 406::nat_lit 407::nat_lit 411::nat_lit 412::nat_lit 418::nat_lit 419::nat_lit 432::nat_lit 433::nat_lit 439::nat_lit 440::nat_lit 446::nat_lit 447::nat_lit 453::nat_lit 454::nat_lit 460::nat_lit 461::nat_lit 467::nat_lit 468::nat_lit 470::nat_lit 471::nat_lit 479::nat_lit 480::nat_lit 486::nat_lit 487::nat_lit 491::nat_lit 492::nat_lit 496::nat_lit 497::nat_lit 503::nat_lit 504::nat_lit 508::nat_lit 509::nat_lit 513::nat_lit 514::nat_lit 520::nat_lit 521::nat_lit 527::nat_lit 528::nat_lit 532::nat_lit 533::nat_lit 537::nat_lit 538::nat_lit 542::nat_lit 543::nat_lit 547::nat_lit 548::nat_lit 554::nat_lit 555::nat_lit 559::nat_lit 560::nat_lit 564::nat_lit 565::[]
noncomputable def qv:PySem.Program:={ PySem.Challenge.pw_putback_k79_carried_through_take with main:={ (PySem.Challenge.pw_putback_k79_carried_through_take).main with body:=top 0::top 2::top 3::top 4::top 5::top 6::top 8::top 9::top 10::top 11::top 13::top 14::top 15::top 16::top 17::top 18::top 19::top 20::top 21::top 22::top 24::top 25::top 26::top 27::top 28::top 29::top 30::top 31::top 32::top 33::top 34::top 35::top 36::top 37::top 38::top 39::top 40::top 41::top 43::top 44::top 46::top 47::top 48::top 50::top 51::top 52::top 53::top 55::top 56::top 57::top 58::top 59::top 60::top 61::top 62::top 63::top 64::top 65::top 66::top 67::top 68::top 69::top 70::[] } }
theorem lF (P:PySem.Params):jM=(KK P).map (·.1):=by kernel_rfl
open PySem.W in
theorem runK:∀w os,u0 (W.OpenLaw.row PySem.Challenge.rw_putback_k79_carried_through_take).prog qv [] (λs=>xlAt qv [] s && recOk (RowW.records (W.OpenRow.toRowW (W.OpenLaw.row PySem.Challenge.rw_putback_k79_carried_through_take))) s) (Hook.obs (W.kmHook Pb.KK Pb.jM Pb.lF [119,187,530])) 7510 true w os=some (true,openGood qv [],Hook.val (W.kmHook Pb.KK Pb.jM Pb.lF [119,187,530]) w):=by
 intro w os
 kernel_rfl
end Pb
namespace L2
open PySem PySem.Spec PyProof.Rows
noncomputable abbrev Key:=Sum Int Str
noncomputable def jN:Key->Value->Bool
 | .inl k,v=>Value.isInt k v
 | .inr x,v=>Value.isStrOf x v
noncomputable def T6 (w:World):Key->Int
 | .inl k=>hashInt k
 | .inr x=>hashStr w x
theorem iU:∀{k:Key}{v:Value},jN k v=true->(∃i t,k=Sum.inl i/\v=Value.int i t)\/(∃x t,k=Sum.inr x/\v=Value.str x t)
 | .inl i,v,h=>by
   obtain⟨t,e⟩:=Value.isInt_shape (k:=i) (v:=v) h
   exact .inl ⟨i,t,rfl,e⟩
 | .inr x,v,h=>by
   obtain⟨t,e⟩:=Value.isStrOf_shape (x:=x) (v:=v) h
   exact .inr ⟨x,t,rfl,e⟩
theorem T7 (i:Int)(t:Tok):jN (.inl i) (.int i t)=true:=by simp[jN,Value.isInt]
theorem Fj (x:Str)(t:Tok):jN (.inr x) (.str x t)=true:=by simp[jN,Value.isStrOf]
theorem T8 (a b:Int):decide ((Sum.inl a:Key)=Sum.inl b)=(a == b):=by
 by_cases e:a=b
 . subst e;simp
 . have h:¬(Sum.inl a:Key)=Sum.inl b:=λq=>e (Sum.inl.inj q)
   rw[decide_eq_false h]
   exact(beq_eq_false_iff_ne.mpr e).symm
theorem T9 (a b:Str):decide ((Sum.inr a:Key)=Sum.inr b)=decide (a=b):=by
 by_cases e:a=b
 . subst e;simp
 . have h:¬(Sum.inr a:Key)=Sum.inr b:=λq=>e (Sum.inr.inj q)
   rw[decide_eq_false h,decide_eq_false e]
theorem T_ (a:Int)(b:Str):decide ((Sum.inl a:Key)=Sum.inr b)=false:=decide_eq_false (λq=>nomatch q)
theorem Ua (a:Str)(b:Int):decide ((Sum.inr a:Key)=Sum.inl b)=false:=decide_eq_false (λq=>nomatch q)
noncomputable def cu (prog:Program) (w:World):PySem.KeyKind prog w Key where
 is:=jN
 hash:=T6 w
 inj:=λv a b ha hb=>by
  rcases iU ha with⟨i,t,rfl,rfl⟩|⟨x,t,rfl,rfl⟩
  . rcases iU hb with⟨j,u,rfl,e⟩|⟨y,u,rfl,e⟩
    . injection e with e1 _;rw[e1]
    . exact nomatch e
  . rcases iU hb with⟨j,u,rfl,e⟩|⟨y,u,rfl,e⟩
    . exact nomatch e
    . injection e with e1 _;rw[e1]
 byValue:=λk v h=>by
  rcases iU h with⟨i,t,rfl,rfl⟩|⟨x,t,rfl,rfl⟩ <;> rfl
 pyHash:=λhv h=>by
  rcases iU hv with⟨i,t,rfl,rfl⟩|⟨x,t,rfl,rfl⟩
  . exact wpAny_pyHash_int h
  . exact wpAny_pyHash_str h
 eqBool:=λhu hv h=>by
  rcases iU hu with⟨i,t,rfl,rfl⟩|⟨x,t,rfl,rfl⟩
  . rcases iU hv with⟨j,u,rfl,rfl⟩|⟨y,u,rfl,rfl⟩
    . rw[T8] at h;exact wpAny_eqBool_int h
    . rw[T_] at h;exact SeqAt.EqAt.int_str i t y u _ _ _ _ h
  . rcases iU hv with⟨j,u,rfl,rfl⟩|⟨y,u,rfl,rfl⟩
    . rw[Ua] at h;exact SeqAt.EqAt.str_int x t j u _ _ _ _ h
    . rw[T9] at h;exact wpAny_eqBool_str h
 «strs»:=λk x t v h=>by
  rcases iU h with⟨i,u,rfl,e⟩|⟨y,u,rfl,e⟩
  . exact nomatch e
  . injection e with e1 _
    subst e1
    cases v <;> rfl
theorem Ub (prog:Program)(w:World)(i:Int)(t:Tok):(cu prog w).is (.inl i) (.int i t)=true:=T7 i t
theorem Uc (prog:Program)(w:World)(x:Str)(t:Tok):(cu prog w).is (.inr x) (.str x t)=true:=Fj x t
inductive V where
 |non|bl (b:Bool)|int (i:Int)|str (x:Str)|gC (b:Array UInt8)|flt (b:UInt64)|ref (a:Addr)|ty (n:String)
 deriving DecidableEq
noncomputable def RelV:V->Value->Prop
 | .non,u=>u=Value.none
 | .bl b,u=>u=Value.bool b
 | .int i,u=>∃t,u=Value.int i t
 | .str x,u=>∃t,u=Value.str x t
 | .gC b,u=>∃t,u=Value.bytes b t
 | .flt b,u=>∃t,u=Value.float b t
 | .ref a,u=>u=Value.ref a
 | .ty n,u=>u=Value.type n
noncomputable abbrev Vals:List V->List Value->Prop:=Paired RelV
theorem Vals.length {xs:List V}{us:List Value}(r:Vals xs us):xs.length=us.length:=Paired.length r
theorem Vals.get:∀{xs:List V}{us:List Value}{i:Nat}{x:V},Vals xs us->xs[i]? =some x->∃u,us[i]? =some u/\RelV x u
 |_,_,_,_,.nil,e=>by simp at e
 |_,_,0,_,.cons r _,e=>by simp at e;subst e;exact⟨_,rfl,r⟩
 |_,_,i+1,x,.cons _ t,e=>by
  obtain⟨u,h1,h2⟩:=Vals.get (i:=i) (x:=x) t (by simpa using e)
  exact⟨u,by simpa using h1,h2⟩
theorem Vals.set {x:V}{u:Value}(r:RelV x u):∀{xs:List V}{us:List Value}(i:Nat),Vals xs us->Vals (xs.set i x) (us.set i u)
 |_,_,_,.nil=>.nil
 |_,_,0,.cons _ t=>.cons r t
 |_,_,i+1,.cons q t=>.cons q (Vals.set r i t)
theorem Vals.append:∀{xs ys:List V}{us ws:List Value},Vals xs us->Vals ys ws->Vals (xs++ys) (us++ws)
 |_,_,_,_,.nil,s=>s
 |_,_,_,_,.cons r t,s=>.cons r (Vals.append t s)
theorem Vals.take:∀{xs:List V}{us:List Value}(n:Nat),Vals xs us->Vals (xs.take n) (us.take n)
 |_,_,0,_=>.nil
 |_,_,_+1,.nil=>.nil
 |_,_,n+1,.cons r t=>.cons r (Vals.take n t)
theorem Vals.drop:∀{xs:List V}{us:List Value}(n:Nat),Vals xs us->Vals (xs.drop n) (us.drop n)
 |_,_,0,r=>r
 |_,_,_+1,.nil=>.nil
 |_,_,n+1,.cons _ t=>Vals.drop n t
theorem Vals.none_of:∀{xs:List V}{us:List Value}{i:Nat},Vals xs us->xs[i]? =none->us[i]? =none:=λ{xs us i} r e=>by
 have h1:=r.length
 have h2:xs.length<=i:=List.getElem?_eq_none_iff.mp e
 exact List.getElem?_eq_none_iff.mpr (by omega)
noncomputable def dN:Option V->Option Value->Prop
 |some v,some u=>RelV v u
 |none,none=>True
 |_,_=>False
noncomputable def KV {κ:Type}:List (κ × V)->List (κ × Value)->Prop:=Paired λ(p:κ × V) (q:κ × Value)=>p.1=q.1/\RelV p.2 q.2
noncomputable def kV:Key->V
 | .inl i=>.int i
 | .inr x=>.str x
inductive HO where
 |lst (xs:List V)
 |tup (xs:List V)
 |dK (kvs:List (Key × V))|dT (kvs:List (List Key × V))
 |set (S:Int->Bool) (n:Nat)
 |ins (C dx:Addr) (fs:List (Str × V))
 |own (x:Addr)
 |xd (fs:List (Str × V))
 |met (f x:Addr)
 |rng (lo hi:Int)
 |cJ (o:Obj) (u:HO)
 |cO (ps:Array Value)
 |ext (φ:Heap->Prop)
noncomputable abbrev Hp:=Addr->Option HO
noncomputable def upd (H:Hp) (a:Addr) (o:HO):Hp:=λb=>if b=a then some o else H b
theorem aK {H:Hp}{a:Addr}{o:HO}:upd H a o a=some o:=by unfold upd;rw[if_pos rfl]
theorem aB {H:Hp}{a b:Addr}{o:HO}(h:b≠a):upd H a o b=H b:=by unfold upd;rw[if_neg h]
theorem iV {H:Hp}{a b:Addr}{o u:HO}(h:H a=some o)(h':H b=some u)(d:o≠u):a≠b:=by
 intro e;subst e;rw[h] at h';exact d (Option.some.inj h')
theorem aW {H:Hp}{a b:Addr}{o:HO}(h:H a=some o)(h':H b=none):a≠b:=by
 intro e;subst e;rw[h] at h';cases h'
section
variable (P:Program)(w:World)
noncomputable def cG (H:Hp) (h:Heap) (a:Addr):HO->Prop
 | .lst xs=>xs.length<=sizeLine/\∃(its:List Value) (n:Nat),Vals xs its/\h.get? a=some { cls:=.type "list",data:=.seq its.toArray n }
 | .tup xs=>xs.length<=sizeLine/\∃its:List Value,Vals xs its/\IsTup h a its.toArray
 | .dK kvs=>kvs.length<=sizeLine/\(a == sysModules)=false/\∃vs,KV kvs vs/\h.DictOf (cu P w) a vs
 | .dT kvs=>kvs.length<=sizeLine/\(a == sysModules)=false/\∃xs:List (List Key × Addr × Value),
    Paired (λ(p:List Key × V) (q:List Key × Addr × Value)=>p.1=q.1/\H q.2.1=some (.tup (p.1.map kV))/\RelV p.2 q.2.2) kvs xs/\
    ∃o es ep,h.get? a=some o/\o.ExactDict/\o.data=.dict es ep/\es.toList=xs.map (entryOfKey (tupleKind (cu P w)))/\(xs.map (·.1)).Nodup
 | .set S n=>h.SetOf (intKind P w) a S n
 | .ins C dx fs=>H dx=some (.own a)/\fs.length<=1000/\dx≠a/\h.get? a=some (W.instObj C dx)/\
    ∃mA,h.Ns1 dx mA/\(∀f,dN (fs.lookup f) (mA f))/\PySem.Within mA (fs.map (·.1))
 | .own _=>∃o,h.get? a=some o
 | .xd fs=>∃mA,h.Ns1 a mA/\∀f,dN (fs.lookup f) (mA f)
 | .rng lo hi=>∃t u v,h.get? a=some { cls:=.type "range",data:=.fields #[.int lo t,.int hi u,.int 1 v] }
 | .cJ o u=>h.get? a=some o/\cG H h a u
 | .cO ps=>h.get? a=some { cls:=.none,data:=.fields ps }
 | .met f x=>h.get? a=some (W.methodObj (.ref f) (.ref x))
 | .ext φ=>φ h/\(∃o,h.get? a=some o)/\∀h1 h2:Heap,φ h1->(∀o,h1.get? a=some o->h2.get? a=some o)->φ h2
noncomputable def cD (H:Hp) (h:Heap):Prop:=∀a o,H a=some o->cG P w H h a o
end
section
variable {P:Program}{w:World}{H H':Hp}{h h':Heap}{a:Addr}{o:HO}
theorem cG.lt (x:cG P w H h a o):a<h.objs.size:=by
 cases o with
 |lst xs=>obtain⟨_,_,_,_,e⟩:=x;exact Heap.lt_size e
 |tup xs=>obtain⟨_,_,_,p⟩:=x;exact p.lt
 |dK kvs=>obtain⟨_,_,_,_,o,_,_,e,_⟩:=x;exact Heap.lt_size e
 |dT kvs=>obtain⟨_,_,_,_,o,_,_,e,_⟩:=x;exact Heap.lt_size e
 |set S n=>obtain⟨o,_,_,_,e,_⟩:=x;exact Heap.lt_size e
 |ins C dx fs=>obtain⟨_,_,_,e,_⟩:=x;exact Heap.lt_size e
 |own y=>obtain⟨_,e⟩:=x;exact Heap.lt_size e
 |xd fs=>obtain⟨_,⟨_,_,_,e,_⟩,_⟩:=x;exact Heap.lt_size e
 |rng lo hi=>obtain⟨_,_,_,e⟩:=x;exact Heap.lt_size e
 |cJ ob u=>obtain⟨e,_⟩:=x;exact Heap.lt_size e
 |cO ps=>exact Heap.lt_size (show h.get? a=some _ from x)
 |met f y=>exact Heap.lt_size (show h.get? a=some _ from x)
 |ext φ=>obtain⟨_,⟨_,e⟩,_⟩:=x;exact Heap.lt_size e
theorem Paired.u5 {α β:Type}{F G:α->β->Prop}:∀{l₁:List α}{l₂:List β},Paired F l₁ l₂->(∀a b,F a b->G a b)->Paired G l₁ l₂
 |_,_,.nil,_=>.nil
 |_,_,.cons r t,f=>.cons (f _ _ r) (Paired.u5 t f)
theorem cG.stay (x:cG P w H h a o)(k:∀b u,(b=a\/H b=some (.own a))->h.get? b=some u->h'.get? b=some u)
 (ho:∀b,H b=some (.own a)->H' b=some (.own a)) (ht:∀b xs,H b=some (.tup xs)->H' b=some (.tup xs)):cG P w H' h' a o:=by
 induction o with
 |lst xs=>obtain⟨z,its,n,r,e⟩:=x;exact⟨z,its,n,r,k _ _ (.inl rfl) e⟩
 |tup xs=>obtain⟨z,its,r,ob,e,c⟩:=x;exact⟨z,its,r,ob,k _ _ (.inl rfl) e,c⟩
 |dK kvs=>obtain⟨z,y,vs,r,ob,es,ep,e,c⟩:=x;exact⟨z,y,vs,r,ob,es,ep,k _ _ (.inl rfl) e,c⟩
 |dT kvs=>
  obtain⟨z,y,xs,r,ob,es,ep,e,c⟩:=x
  exact⟨z,y,xs,Paired.u5 r λp q z=>⟨z.1,ht _ _ z.2.1,z.2.2⟩,ob,es,ep,k _ _ (.inl rfl) e,c⟩
 |set S n=>obtain⟨ob,es,ep,t,e,c⟩:=x;exact⟨ob,es,ep,t,k _ _ (.inl rfl) e,c⟩
 |ins C dx fs=>
  obtain⟨d,z,ne,e,mA,⟨od,es,ep,e2,c⟩,r⟩:=x
  exact⟨ho _ d,z,ne,k _ _ (.inl rfl) e,mA,⟨od,es,ep,k _ _ (.inr d) e2,c⟩,r⟩
 |own y=>obtain⟨ob,e⟩:=x;exact⟨ob,k _ _ (.inl rfl) e⟩
 |xd fs=>obtain⟨mA,⟨od,es,ep,e,c⟩,r⟩:=x;exact⟨mA,⟨od,es,ep,k _ _ (.inl rfl) e,c⟩,r⟩
 |rng lo hi=>obtain⟨t,u,v,e⟩:=x;exact⟨t,u,v,k _ _ (.inl rfl) e⟩
 |cJ ob u ih=>obtain⟨e,q⟩:=x;exact⟨k _ _ (.inl rfl) e,ih q⟩
 |cO ps=>
  have e:h.get? a=some { cls:=.none,data:=.fields ps }:=x
  show h'.get? a=some { cls:=.none,data:=.fields ps }
  exact k a _ (.inl rfl) e
 |met f y=>
  have e:h.get? a=some (W.methodObj (.ref f) (.ref y)):=x
  show h'.get? a=some (W.methodObj (.ref f) (.ref y))
  exact k a _ (.inl rfl) e
 |ext φ=>obtain⟨p,⟨o,e⟩,st⟩:=x;exact⟨st _ _ p λo q=>k _ _ (.inl rfl) q,⟨o,k _ _ (.inl rfl) e⟩,st⟩
theorem cD.lt (x:cD P w H h)(e:H a=some o):a<h.objs.size:=(x a o e).lt
theorem cD.fresh (x:cD P w H h)(e:h.objs.size<=a):H a=none:=by
 cases q:H a with
 |none=>rfl
 |some u=>exact absurd (Nat.lt_of_lt_of_le (x.lt q) e) (Nat.lt_irrefl _)
theorem cD.kept (x:cD P w H h)(k:∀b u,h.get? b=some u->h'.get? b=some u):cD P w H h':=λa o e=>
 (x a o e).stay (λb u _ q=>k b u q) (λ_ q=>q) λ_ _ q=>q
theorem cD.laid (x:cD P w H h)(k:∀b u,h.get? b=some u->h'.get? b=some u)(hp:h.objs.size<=a)(new:cG P w (upd H a o) h' a o):cD P w (upd H a o) h':=λb u e=>by
 have hn:=x.fresh hp
 by_cases hb:b=a
 . subst hb;rw[aK] at e;cases e;exact new
 . rw[aB hb] at e
   exact(x b u e).stay (λc v _ q=>k c v q) (λc q=>by rw[aB (aW q hn)];exact q) λc xs q=>by rw[aB (aW q hn)];exact q
end
noncomputable def Rd (H:Hp) (a:Addr) (u:HO):Prop:=H a=some u\/∃o,H a=some (.cJ o u)
theorem Rd.ok {P:Program}{w:World}{H:Hp}{h:Heap}{a:Addr}{u:HO}(r:Rd H a u)(x:cD P w H h):cG P w H h a u:=by
 rcases r with r|⟨o,r⟩
 . exact x a u r
 . obtain⟨_,q⟩:=x a _ r
   exact q
noncomputable def oZ:Option HO->Prop
 |some (.lst _)=>True
 |some (.dK _)=>True
 |some (.dT _)=>True
 |some (.set _ _)=>True
 |some (.ins _ _ _)=>True
 |some (.ext _)=>True
 |_=>False
section
variable {P:Program}{w:World}{H:Hp}{h h':Heap}{x e:Addr}{o':HO}
theorem cD.write (ok:cD P w H h)(mu:oZ (H x))(he:e=x\/H e=some (.own x))(k:∀b u,b≠e->h.get? b=some u->h'.get? b=some u)(heo:∃u,h'.get? e=some u)
 (new:cG P w (upd H x o') h' x o'):cD P w (upd H x o') h':=λb u q=>by
 have Fl:∀c y,H c=some (.own y)->c≠x:=λc y r z=>by subst z;rw[r] at mu;exact mu
 have Ud:∀c xs,H c=some (.tup xs)->c≠x:=λc xs r z=>by subst z;rw[r] at mu;exact mu
 by_cases hb:b=x
 . subst hb;rw[aK] at q;cases q;exact new
 . rw[aB hb] at q
   by_cases hbe:b=e
   . have q':H b=some (.own x):=by
      rcases he with z|z
      . exact absurd (hbe.trans z) hb
      . rw[hbe];exact z
     rw[q] at q';cases q'
     obtain⟨v,hv⟩:=heo
     exact⟨v,by rw[hbe];exact hv⟩
   . refine(ok b u q).stay (λc v hc r=>k c v ?_ r) (λc r=>by rw[aB (Fl c b r)];exact r) λc xs r=>by rw[aB (Ud c xs r)];exact r
     rcases hc with rfl|hc
     . exact hbe
     . rintro rfl
       rcases he with z|z
       . exact Fl c b hc z
       . rw[hc] at z;cases z;exact hb rfl
end
structure Un (fs ex:List Addr) (H H':Hp) (h h':Heap):Prop where
 keep:∀b o,h.get? b=some o->H b=none->b ∉ fs->b ∉ ex->h'.get? b=some o
 slot:∀b o,h.get? b=some o->H b=none->b∈fs->b ∉ ex->∃sl,h'.get? b=some { o with slots:=sl }
 free:∀b o,h.get? b=some o->H b=none->b ∉ ex->H' b=none
 there:∀b o,h.get? b=some o->b ∉ ex->∃o',h'.get? b=some o'
 tups:∀b xs,H b=some (.tup xs)->H' b=some (.tup xs)
 gD:∀b o u,H b=some (.cJ o u)->H' b=some (.cJ o u)
 gZ:∀b ps,H b=some (.cO ps)->∃more,H' b=some (.cO (ps++more))
section
variable {fs fs' ex ex':List Addr}{H H1 H2:Hp}{h h1 h2 h':Heap}{a x e:Addr}{o:HO}
theorem Un.any (u:Un fs ex H H1 h h1){b:Addr}{ob:Obj}(q:h.get? b=some ob)(n:H b=none)(hx:b ∉ ex):∃sl,h1.get? b=some { ob with slots:=sl }:=by
 by_cases hb:b∈fs
 . exact u.slot b ob q n hb hx
 . exact⟨ob.slots,u.keep b ob q n hb hx⟩
theorem Un.kept (k:∀b u,h.get? b=some u->h'.get? b=some u):Un fs ex H H h h':=
 ⟨λb ob q _ _ _=>k b ob q,λb ob q _ _ _=>⟨ob.slots,k b ob q⟩,λ_ _ _ n _=>n,λb ob q _=>⟨ob,k b ob q⟩,λ_ _ q=>q,λ_ _ _ q=>q,λ_ ps q=>⟨#[],by rw[q];simp⟩⟩
theorem Un.refl:Un fs ex H H h h:=Un.kept λ_ _ q=>q
theorem Un.laid (k:∀b u,h.get? b=some u->h'.get? b=some u)(hp:h.objs.size<=a)(hn:H a=none):Un fs ex H (upd H a o) h h' where
 keep:=λb u q _ _ _=>k b u q
 slot:=λb u q _ _ _=>⟨u.slots,k b u q⟩
 free:=λb u q n _=>by rw[aB (Nat.ne_of_lt (Nat.lt_of_lt_of_le (Heap.lt_size q) hp))];exact n
 there:=λb u q _=>⟨u,k b u q⟩
 tups:=λb xs q=>by rw[aB (aW q hn)];exact q
 gD:=λb u xs q=>by rw[aB (aW q hn)];exact q
 gZ:=λb ps q=>⟨#[],by rw[aB (aW q hn),q];simp⟩
theorem Un.write (mu:oZ (H x))(he:e=x\/H e=some (.own x))(k:∀b u,b≠e->h.get? b=some u->h'.get? b=some u)(heo:∃u,h'.get? e=some u):Un fs ex H (upd H x o) h h':=by
 have hx:∀b,H b=none->b≠x:=λb n z=>by subst z;rw[n] at mu;exact mu
 have hb:∀b,H b=none->b≠e:=λb n z=>by
  subst z
  rcases he with r|r
  . exact hx b n r
  . rw[n] at r;cases r
 have hm:∀b u,H b=some u->¬oZ (some u)->b≠x:=λb u q nm z=>by subst z;rw[q] at mu;exact nm mu
 refine⟨λb u q n _ _=>k b u (hb b n) q,λb u q n _ _=>⟨u.slots,k b u (hb b n) q⟩,λb u q n _=>by rw[aB (hx b n)];exact n,λb u q _=>?_,
  λb xs q=>by rw[aB (hm b _ q λz=>z)];exact q,λb u xs q=>by rw[aB (hm b _ q λz=>z)];exact q,λb ps q=>⟨#[],by rw[aB (hm b _ q λz=>z),q];simp⟩⟩
 by_cases hbe:b=e
 . subst hbe;exact heo
 . exact⟨u,k b u hbe q⟩
end
noncomputable def qX (h:Heap) (H:Hp):List Addr:=(List.range h.objs.size).filter λa=>(H a).isSome
noncomputable def iW (h:Heap) (H:Hp):Heap:=W.hideAll h (qX h H)
theorem Ue (h:Heap)(H:Hp):(iW h H).objs.size=h.objs.size:=W.hideAll_size _ _
theorem Ug {h:Heap}{H:Hp}{b:Addr}{o:Obj}(e:h.get? b=some o)(n:H b=none):(iW h H).get? b=some o:=
 W.hideAll_get _ e λhm=>by
   have q:(H b).isSome=true:=(List.mem_filter.mp hm).2
   rw[n] at q;simp at q
theorem Uh {h:Heap}{H:Hp}{b:Addr}{o:Obj}(e:(iW h H).get? b=some o):h.get? b=some o/\H b=none:=by
 have e':h.get? b=some o:=W.of_hideAll (qX h H) e
 refine⟨e',?_⟩
 cases q:H b with
 |none=>rfl
 |some x=>
  have hm:b∈qX h H:=List.mem_filter.mpr ⟨List.mem_range.mpr (Heap.lt_size e'),by simp[q]⟩
  have z:(iW h H).get? b=none:=W.hideAll_none (qX h H) hm
  rw[z] at e;cases e
structure Mod (K:W.Frag) (mg:Str->Option Value) (base:Heap):Prop where
 o7:K.In base
 glob:base.Ns mainGlobals mg
 blt:∃mb,base.Ns builtinsNs mb/\∀x:Str,x≠"__name__"->mb x=bootBuiltins x
 nolimit:base.NoLimit
structure Cx where
 prog:Program
 w:World
 K:W.Frag
 mg:Str->Option Value
 base:Heap
 A:Around
 N:List Str
 s₀:Shared
 H₀:Hp
 env:Env
 outer:List Env
 stack:List Env
 ex:List Addr
 fn:Str->Bool
 calm:Bool
 pn:List (Addr × Obj)
 xe:Value->Shared->Prop
noncomputable def frs (l:List Env):List Addr:=l.filterMap (·.frame)
noncomputable abbrev Cx.fs (X:Cx):List Addr:=frs X.outer
noncomputable def qY (sc:Scope) (x:Str):Prop:=sc.names.lookup x=some .local\/sc.names.lookup x=some .cell\/sc.names.lookup x=some .free
noncomputable def Loc (sc:Scope) (x:Str):Prop:=sc.names.lookup x=some .local\/sc.names.lookup x=some .cell
noncomputable def Look (env:Env) (h:Heap) (m:Str->Option Value) (x:Str) (u:Value):Prop:=
 (env.kindOf x=some .local/\m x=some u)\/((env.kindOf x=some .cell\/env.kindOf x=some .free)/\∃c,env.cells.lookup x=some c/\h.IsCell c (some u))
structure Cx.Ok (X:Cx):Prop where
 mod:Mod X.K X.mg X.base
 kind:X.env.scope.kind=.function
 glob:X.env.globals=mainGlobals
 blt:X.env.builtins=builtinsNs
 above:X.s₀.heap.objs.size<=X.env.locals
 inj:∀x y c,X.env.cells.lookup x=some c->X.env.cells.lookup y=some c->x=y
 has:∀x,(X.env.kindOf x=some .cell\/X.env.kindOf x=some .free)->∃c,X.env.cells.lookup x=some c
 cab:∀x c,X.fn x=true->X.env.cells.lookup x=some c->X.s₀.heap.objs.size<=c
 hd:X.calm=true->X.A.handled=none
 frames:X.A.frames=some X.stack
 stk:X.stack=X.outer\/(X.stack=X.env::X.outer/\X.env.frame=some X.env.locals)
 qZ:∀b∈X.ex,b≠X.env.locals/\∀x c,X.env.cells.lookup x=some c->c≠b
 bs:∀b o,X.base.get? b=some o->X.s₀.heap.get? b=some o/\X.H₀ b=none
 gF:X.base.objs.size<=X.s₀.heap.objs.size
 lG:∀b o,X.base.get? b=some o->b ∉ X.ex
 m9:∀b∈X.ex,b ∉ X.fs
 eY:X.s₀.heap.FunFrames X.base X.outer
 jl:∀b∈X.fs,X.H₀ b=none
structure Inv (X:Cx) (pins:List (Addr × Obj)) (σ:List (Option V)) (H:Hp) (s:Shared):Prop where
 ok:X.Ok
 os:s.os=X.s₀.os
 bare:AllBare s.gens
 base:Un X.fs X.ex X.H₀ H X.s₀.heap s.heap
 loc:∃m,s.heap.Ns X.env.locals m/\∀(i:Nat) (x:Str) (v:V),X.N[i]? =some x->σ[i]? =some (some v)->qY X.env.scope x->∃u,RelV v u/\Look X.env s.heap m x u
 cell:∀x c,X.env.cells.lookup x=some c->∃v,s.heap.IsCell c v
 free:H X.env.locals=none
 d_:∀x c,X.env.cells.lookup x=some c->H c=none
 pin:∀p∈X.pn++pins,s.heap.get? p.1=some p.2/\H p.1=none/\p.1≠X.env.locals/\p.1 ∉ X.fs/\∀v,p.2.data≠ .cell v
 hok:cD X.prog X.w H s.heap
 len:σ.length=X.N.length
section
variable {X:Cx}{pins:List (Addr × Obj)}{σ:List (Option V)}{H H':Hp}{s:Shared}{h':Heap}
theorem Cx.Ok.Ui (ok:X.Ok){b:Addr}{o:Obj}(e:X.base.get? b=some o):b ∉ X.fs:=λhb=>by
 have:=(ok.eY.mem hb).1
 rw[e] at this;cases this
theorem Inv.bs (I:Inv X pins σ H s):∀b o,X.base.get? b=some o->s.heap.get? b=some o/\H b=none:=λb o e=>
 ⟨I.base.keep b o (I.ok.bs b o e).1 (I.ok.bs b o e).2 (I.ok.Ui e) (I.ok.lG b o e),I.base.free b o (I.ok.bs b o e).1 (I.ok.bs b o e).2 (I.ok.lG b o e)⟩
theorem Inv.bk (I:Inv X pins σ H s):∀b o,X.base.get? b=some o->s.heap.get? b=some o:=λb o e=>(I.bs b o e).1
theorem Inv.mod (I:Inv X pins σ H s):Mod X.K X.mg X.base:=I.ok.mod
theorem Inv.cT (I:Inv X pins σ H s):X.K.In s.heap:=I.ok.mod.o7.keeps I.bk
theorem Inv.nolimit (I:Inv X pins σ H s):s.heap.NoLimit:=I.ok.mod.nolimit.keeps I.bk
theorem Inv.lt (I:Inv X pins σ H s):X.env.locals<s.heap.objs.size:=let⟨_,hn,_⟩:=I.loc;hn.lt
theorem Inv.sz (I:Inv X pins σ H s):X.s₀.heap.objs.size<=s.heap.objs.size:=Nat.le_trans I.ok.above (Nat.le_of_lt I.lt)
theorem Inv.m_ (I:Inv X pins σ H s){a:Addr}(h:s.heap.objs.size<=a):a ∉ X.fs:=λhb=>by
 obtain⟨_,o,ho,_⟩:=I.ok.eY.mem hb
 exact absurd (Nat.lt_of_lt_of_le (Heap.lt_size ho) (Nat.le_trans I.sz h)) (Nat.lt_irrefl _)
theorem Inv.lH (I:Inv X pins σ H s):∀x c,X.env.cells.lookup x=some c->c≠X.env.locals:=λx c e z=>by
 obtain⟨v,o,ho,hd⟩:=I.cell x c e
 obtain⟨m,⟨o',es,ep,ho',hd',_⟩,_⟩:=I.loc
 rw[z,ho'] at ho;cases ho;rw[hd'] at hd;cases hd
theorem Inv.eY (I:Inv X pins σ H s):s.heap.FunFrames X.base X.outer:=by
 have all:∀(l:List Env),(∀b∈frs l,b∈X.fs)->X.s₀.heap.FunFrames X.base l->s.heap.FunFrames X.base l:=by
  intro l
  induction l with
  |nil=>intro _ _;trivial
  |cons env r ih=>
   intro hs hl
   obtain⟨hk,⟨L,o,hf,hn,ho,hd⟩,hr⟩:=hl
   have hL:L∈X.fs:=hs L (by unfold frs;rw[List.filterMap_cons,hf];exact List.mem_cons_self)
   obtain⟨sl,e⟩:=I.base.slot L o ho (I.ok.jl L hL) hL λz=>I.ok.m9 L z hL
   exact⟨hk,⟨L,_,hf,hn,e,hd⟩,ih (λb hb=>hs b (by unfold frs;rw[List.filterMap_cons,hf];exact List.mem_cons_of_mem _ hb)) hr⟩
 exact all X.outer (λ_ hb=>hb) I.ok.eY
theorem Inv.stack (I:Inv X pins σ H s):s.heap.FunFrames X.base X.stack:=by
 rcases I.ok.stk with e|⟨e,hf⟩
 . rw[e];exact I.eY
 . rw[e]
   obtain⟨m,hn,_⟩:=I.loc
   refine .cons (by rw[I.ok.kind];decide) hf hn ?_ I.eY
   exact Heap.get?_none_of_le (Nat.le_trans I.ok.gF I.ok.above)
theorem Inv.o8 (I:Inv X pins σ H s):∀b∈frs X.stack,b∈X.env.locals::X.fs:=λb hb=>by
 rcases I.ok.stk with e|⟨e,hf⟩
 . rw[e] at hb;exact List.mem_cons_of_mem _ hb
 . rw[e] at hb
   unfold frs at hb
   rw[List.filterMap_cons,hf] at hb
   exact hb
theorem Inv.u6 (I:Inv X pins σ H s):∀b∈frs X.stack,H b=none:=λb hb=>by
 rcases List.mem_cons.mp (I.o8 b hb) with e|hb
 . rw[e];exact I.free
 . obtain⟨_,o,ho,_⟩:=I.ok.eY.mem hb
   exact I.base.free b o ho (I.ok.jl b hb) λz=>I.ok.m9 b z hb
theorem Inv.step {g':Array GenState}{t':Nat}{d':Drawn}{ch:List Addr}(I:Inv X pins σ H s)
 (hch:∀b∈ch,(b∈X.ex\/X.s₀.heap.objs.size<=b)/\b≠X.env.locals/\(∀x c,X.env.cells.lookup x=some c->c≠b)/\∀p∈X.pn++pins,p.1≠b)
 (keep:∀b o,b≠X.env.locals->b ∉ X.fs->b ∉ ch->s.heap.get? b=some o->H b=none->h'.get? b=some o)
 (slot:∀b o,b≠X.env.locals->b∈X.fs->b ∉ ch->s.heap.get? b=some o->H b=none->∃sl,h'.get? b=some { o with slots:=sl }) (free:∀b o,b ∉ ch->s.heap.get? b=some o->H b=none->H' b=none)
 (there:∀b o,b ∉ ch->s.heap.get? b=some o->∃o',h'.get? b=some o')
 (tups:∀b xs,H b=some (.tup xs)->H' b=some (.tup xs)) (gD:∀b o u,H b=some (.cJ o u)->H' b=some (.cJ o u)) (gZ:∀b ps,H b=some (.cO ps)->∃more,H' b=some (.cO (ps++more)))
 (ns:∀m,s.heap.Ns X.env.locals m->h'.Ns X.env.locals m) (hok:cD X.prog X.w H' h') (hg:AllBare g'):
 Inv X pins σ H' { s with heap:=h',gens:=g',drawn:=d',toks:=t' }:=by
 have Fo:∀b o,X.s₀.heap.get? b=some o->b≠X.env.locals:=λb o e=>Nat.ne_of_lt (Nat.lt_of_lt_of_le (Heap.lt_size e) I.ok.above)
 have q9:∀b o,X.s₀.heap.get? b=some o->b ∉ X.ex->b ∉ ch:=λb o e hx hb=>by
  rcases(hch b hb).1 with z|z
  . exact hx z
  . exact absurd (Nat.lt_of_lt_of_le (Heap.lt_size e) z) (Nat.lt_irrefl _)
 have cellK:∀x c,X.env.cells.lookup x=some c->∀v,s.heap.IsCell c v->h'.IsCell c v:=λx c e v ⟨o,ho,hd⟩=>by
  have o9:c ∉ ch:=λz=>(hch c z).2.2.1 x c e rfl
  by_cases hc:c∈X.fs
  . obtain⟨sl,q⟩:=slot c o (I.lH x c e) hc o9 ho (I.d_ x c e)
    exact⟨_,q,hd⟩
  . exact⟨o,keep c o (I.lH x c e) hc o9 ho (I.d_ x c e),hd⟩
 refine⟨I.ok,I.os,hg,⟨λb o e n hb hx=>?_,λb o e n hb hx=>?_,λb o e n hx=>?_,λb o e hx=>?_,λb xs e=>tups b xs (I.base.tups b xs e),λb o xs e=>gD b o xs (I.base.gD b o xs e),λb ps e=>?_⟩,?_,λx c e=>?_,?_,λx c e=>?_,λp hp=>?_,hok,I.len⟩
 . exact keep b o (Fo b o e) hb (q9 b o e hx) (I.base.keep b o e n hb hx) (I.base.free b o e n hx)
 . obtain⟨sl,e1⟩:=I.base.slot b o e n hb hx
   obtain⟨sl',e2⟩:=slot b _ (Fo b o e) hb (q9 b o e hx) e1 (I.base.free b o e n hx)
   exact⟨sl',e2⟩
 . obtain⟨o',e1⟩:=I.base.there b o e hx
   exact free b o' (q9 b o e hx) e1 (I.base.free b o e n hx)
 . obtain⟨o',e1⟩:=I.base.there b o e hx
   exact there b o' (q9 b o e hx) e1
 . obtain⟨m1,e1⟩:=I.base.gZ b ps e
   obtain⟨m2,e2⟩:=gZ b _ e1
   exact⟨m1++m2,by rw[e2,Array.append_assoc]⟩
 . obtain⟨m,hn,hl⟩:=I.loc
   refine⟨m,ns m hn,λi x v e1 e2 e3=>?_⟩
   obtain⟨u,r,l⟩:=hl i x v e1 e2 e3
   refine⟨u,r,?_⟩
   rcases l with l|⟨k,c,e,z⟩
   . exact .inl l
   . exact .inr ⟨k,c,e,cellK x c e _ z⟩
 . obtain⟨v,z⟩:=I.cell x c e
   exact⟨v,cellK x c e v z⟩
 . obtain⟨m,⟨o,_,_,ho,_⟩,_⟩:=I.loc
   exact free _ o (λz=>(hch _ z).2.1 rfl) ho I.free
 . obtain⟨v,o,ho,hd⟩:=I.cell x c e
   exact free c o (λz=>(hch c z).2.2.1 x c e rfl) ho (I.d_ x c e)
 . obtain⟨e,n,ne,nf,d⟩:=I.pin p hp
   have o9:p.1 ∉ ch:=λz=>(hch p.1 z).2.2.2 p hp rfl
   exact⟨keep p.1 p.2 ne nf o9 e n,free p.1 p.2 o9 e n,ne,nf,d⟩
theorem Inv.un {t':Nat}(I:Inv X pins σ H s)(u:Un X.fs [] H H' s.heap h')(hok:cD X.prog X.w H' h'):Inv X pins σ H' { s with heap:=h',toks:=t' }:=by
 obtain⟨m,⟨o,es,ep,ho,r⟩,_⟩:=id I.loc
 obtain⟨sl,hL⟩:=u.any ho I.free (by simp)
 exact I.step (g':=s.gens) (d':=s.drawn) (ch:=[]) (λ_ z=>nomatch z) (λb o _ hb _ e n=>u.keep b o e n hb (by simp)) (λb o _ hb _ e n=>u.slot b o e n hb (by simp)) (λb o _ e n=>u.free b o e n (by simp)) (λb o _ e=>u.there b o e (by simp)) u.tups u.gD u.gZ (λm' hm=>by
  obtain⟨o',es',ep',ho',r'⟩:=hm
  rw[ho] at ho';cases ho'
  exact⟨_,es',ep',hL,r'⟩) hok I.bare
theorem Inv.call {g':Array GenState}{t':Nat}{d':Drawn}{ch:List Addr}(I:Inv X pins σ H s)(u:Un (frs X.stack) ch H H' s.heap h')(hok:cD X.prog X.w H' h')(hg:AllBare g')
 (hch:∀b∈ch,(b∈X.ex\/X.s₀.heap.objs.size<=b)/\b≠X.env.locals/\(∀x c,X.env.cells.lookup x=some c->c≠b)/\∀p∈X.pn++pins,p.1≠b):
 Inv X pins σ H' { s with heap:=h',gens:=g',drawn:=d',toks:=t' }:=by
 obtain⟨m,⟨o,es,ep,ho,r⟩,_⟩:=id I.loc
 obtain⟨sl,hL⟩:=u.any ho I.free λz=>(hch _ z).2.1 rfl
 exact I.step (ch:=ch) hch (λb o hL hb hc e n=>u.keep b o e n (λz=>(List.mem_cons.mp (I.o8 b z)).elim hL hb) hc) (λb o _ _ hc e n=>u.any e n hc) (λb o hc e n=>u.free b o e n hc) (λb o hc e=>u.there b o e hc) u.tups u.gD u.gZ (λm' hm=>by
  obtain⟨o',es',ep',ho',r'⟩:=hm
  rw[ho] at ho';cases ho'
  exact⟨_,es',ep',hL,r'⟩) hok hg
theorem Inv.turned {t':Nat}{it:Addr}(I:Inv X pins σ H s)(k:∀b o,b≠it->s.heap.get? b=some o->h'.get? b=some o)(hn:H it=none)(hL:it≠X.env.locals)
 (h1:it∈X.ex\/X.s₀.heap.objs.size<=it) (h2:∀x c,X.env.cells.lookup x=some c->c≠it) (h3:∀p∈X.pn++pins,p.1≠it):Inv X pins σ H { s with heap:=h',toks:=t' }:=by
 have Fp:∀b u,H b=some u->b≠it:=λb u e z=>by rw[z,hn] at e;cases e
 refine I.step (g':=s.gens) (d':=s.drawn) (ch:=[it]) (λb hb=>?_) (λb o _ _ hc e _=>k b o (λz=>hc (by simp[z])) e) (λb o _ _ hc e _=>⟨o.slots,k b o (λz=>hc (by simp[z])) e⟩) (λ_ _ _ _ n=>n)
  (λb o hc e=>⟨o,k b o (λz=>hc (by simp[z])) e⟩) (λ_ _ e=>e) (λ_ _ _ e=>e) (λb ps e=>⟨#[],by rw[e];simp⟩) (λm hm=>?_) (λb u e=>?_) I.bare
 . have e:b=it:=by simpa using hb
   subst e
   exact⟨h1,hL,h2,h3⟩
 . obtain⟨o,es,ep,ho,r⟩:=hm
   exact⟨o,es,ep,k _ o (Ne.symm hL) ho,r⟩
 . refine(I.hok b u e).stay (λc v hc q=>k c v ?_ q) (λ_ q=>q) λ_ _ q=>q
   rcases hc with z|z
   . rw[z];exact Fp b u e
   . exact Fp c _ z
theorem Inv.tok (I:Inv X pins σ H s)(t:Nat):Inv X pins σ H { s with toks:=t }:=I.un (h':=s.heap) (t':=t) Un.refl I.hok
theorem Inv.kept {t':Nat}(I:Inv X pins σ H s)(k:∀b u,s.heap.get? b=some u->h'.get? b=some u):Inv X pins σ H { s with heap:=h',toks:=t' }:=I.un (Un.kept k) (I.hok.kept k)
theorem Inv.laid {a:Addr}{o:HO}{t':Nat}(I:Inv X pins σ H s)(k:∀b u,s.heap.get? b=some u->h'.get? b=some u)(hp:s.heap.objs.size<=a)(new:cG X.prog X.w (upd H a o) h' a o):
 Inv X pins σ (upd H a o) { s with heap:=h',toks:=t' }:=I.un (Un.laid k hp (I.hok.fresh hp)) (I.hok.laid k hp new)
theorem Inv.write {x e:Addr}{o:HO}{t':Nat}(I:Inv X pins σ H s)(mu:oZ (H x))(he:e=x\/H e=some (.own x))(k:∀b u,b≠e->s.heap.get? b=some u->h'.get? b=some u)(heo:∃u,h'.get? e=some u)
 (new:cG X.prog X.w (upd H x o) h' x o):Inv X pins σ (upd H x o) { s with heap:=h',toks:=t' }:=I.un (Un.write mu he k heo) (I.hok.write mu he k heo new)
theorem Inv.weak {σ':List (Option V)}(I:Inv X pins σ H s)(hl:σ'.length=σ.length)(w:∀(i:Nat) v,σ'[i]? =some (some v)->σ[i]? =some (some v)):Inv X pins σ' H s:=
 ⟨I.ok,I.os,I.bare,I.base,let⟨m,hn,hl'⟩:=I.loc;⟨m,hn,λi x v e1 e2 e3=>hl' i x v e1 (w i v e2) e3⟩,I.cell,I.free,I.d_,I.pin,I.hok,hl.trans I.len⟩
theorem Inv.lJ {Fq:List (Addr × Obj)}(I:Inv X pins σ H s)(h:∀p∈Fq,s.heap.get? p.1=some p.2/\H p.1=none/\p.1≠X.env.locals/\p.1 ∉ X.fs/\∀v,p.2.data≠ .cell v):Inv X Fq σ H s:=
 ⟨I.ok,I.os,I.bare,I.base,I.loc,I.cell,I.free,I.d_,λp hp=>(List.mem_append.mp hp).elim (λz=>I.pin p (List.mem_append_left _ z)) (h p),I.hok,I.len⟩
theorem Ft {N:List Str}(hN:N.Nodup){i j:Nat}{x:Str}(a:N[i]? =some x)(b:N[j]? =some x):i=j:=by
 obtain⟨h1,e1⟩:=List.getElem?_eq_some_iff.mp a
 obtain⟨h2,e2⟩:=List.getElem?_eq_some_iff.mp b
 exact(List.getElem_inj hN).mp (e1.trans e2.symm)
theorem Uj {M:Model}{A:Around}{E:Value->Shared->Prop}{i:Nat}{x:Str}{v:V}{u:Value}{Q:Unit->Shared->Prop}(I:Inv X pins σ H s)(hN:X.N.Nodup)(hi:X.N[i]? =some x)(hx:Loc X.env.scope x)(r:RelV v u)
 (h:∀s',Inv X pins (σ.set i (some v)) H s'->(∃a,Heap.SameBut a s.heap s'.heap/\(a=X.env.locals\/X.env.cells.lookup x=some a))->Q () s') (hf:X.fn x=true\/X.env.scope.names.lookup x=some .local:=by first|exact .inl rfl|exact .inr rfl|assumption):wpAny M A (storeName X.env x u) Q E s:=by
 obtain⟨m,hn,hl⟩:=id I.loc
 have hcls:(X.env.scope.kind == .class || (X.env.scope.kind == .module && X.env.locals != X.env.globals))=false:=by rw[I.ok.kind];rfl
 have Fv:i<σ.length:=by rw[I.len];exact(List.getElem?_eq_some_iff.mp hi).1
 have lH:=I.lH
 have tracked:∀{a:Addr} {h':Heap},(∃o,s.heap.get? a=some o/\H a=none)->Heap.SameBut a s.heap h'->cD X.prog X.w H h':=λ{a h'} ha hs b ob e=>by
  obtain⟨_,_,hfree⟩:=ha
  refine(I.hok b ob e).stay (λc w' hc q=>(hs.2 c ?_).trans q) (λ_ q=>q) λ_ _ q=>q
  rintro rfl
  rcases hc with rfl|hc
  . rw[hfree] at e;cases e
  . rw[hfree] at hc;cases hc
 rcases hx with hk|hk
 . refine wpAny_storeName_local hk hn (λh' hn' hs=>?_) hcls
   obtain⟨oL,_,_,hoL,_⟩:=id hn
   refine h _ ⟨I.ok,I.os,I.bare,⟨λb o e n hb hx=>?_,λb o e n hb hx=>?_,I.base.free,λb o e hx=>?_,I.base.tups,I.base.gD,I.base.gZ⟩,⟨_,hn',λj y v' e1 e2 e3=>?_⟩,λy c e=>?_,I.free,I.d_,λp hp=>?_,tracked ⟨oL,hoL,I.free⟩ hs,by simpa using I.len⟩ ⟨_,hs,.inl rfl⟩
   . exact(hs.2 b (Nat.ne_of_lt (Nat.lt_of_lt_of_le (Heap.lt_size e) I.ok.above))).trans (I.base.keep b o e n hb hx)
   . obtain⟨sl,e1⟩:=I.base.slot b o e n hb hx
     exact⟨sl,(hs.2 b (Nat.ne_of_lt (Nat.lt_of_lt_of_le (Heap.lt_size e) I.ok.above))).trans e1⟩
   . obtain⟨o',e1⟩:=I.base.there b o e hx
     exact⟨o',(hs.2 b (Nat.ne_of_lt (Nat.lt_of_lt_of_le (Heap.lt_size e) I.ok.above))).trans e1⟩
   . by_cases hj:j=i
     . subst hj
       rw[hi] at e1;cases e1
       rw[List.getElem?_set_self Fv] at e2
       cases e2
       exact⟨u,r,.inl ⟨hk,by simp⟩⟩
     . rw[List.getElem?_set_ne (Ne.symm hj)] at e2
       obtain⟨u',r',q⟩:=hl j y v' e1 e2 e3
       refine⟨u',r',?_⟩
       rcases q with⟨k,e⟩|⟨k,c,e,z⟩
       . refine .inl ⟨k,?_⟩
         have:y≠x:=λe=>hj (Ft hN e1 (e ▸ hi))
         simp[this,e]
       . exact .inr ⟨k,c,e,z.sameBut hs (lH y c e)⟩
   . obtain⟨w',z⟩:=I.cell y c e
     exact⟨w',z.sameBut hs (lH y c e)⟩
   . obtain⟨e,n,ne,nf,d⟩:=I.pin p hp
     exact⟨(hs.2 p.1 ne).trans e,n,ne,nf,d⟩
 . have hfn:X.fn x=true:=by
    rcases hf with z|z
    . exact z
    . rw[z] at hk;cases hk
   obtain⟨c,hc⟩:=I.ok.has x (.inl hk)
   obtain⟨w',z⟩:=I.cell x c hc
   refine wpAny_storeName_cell I.ok.kind hk hc z (λh' hc' hs=>?_)
   obtain⟨oc,hoc,Uk⟩:=id z
   refine h { s with heap:=h' } ⟨I.ok,I.os,I.bare,⟨λb o e n hb hx=>?_,λb o e n hb hx=>?_,I.base.free,λb o e hx=>?_,I.base.tups,I.base.gD,I.base.gZ⟩,⟨m,hn.sameBut hs (Ne.symm (lH x c hc)),λj y v' e1 e2 e3=>?_⟩,λy c' e=>?_,I.free,I.d_,λp hp=>?_,tracked ⟨oc,hoc,I.d_ x c hc⟩ hs,by simpa using I.len⟩ ⟨c,hs,.inr hc⟩
   . exact(hs.2 b (Nat.ne_of_lt (Nat.lt_of_lt_of_le (Heap.lt_size e) (I.ok.cab x c hfn hc)))).trans (I.base.keep b o e n hb hx)
   . obtain⟨sl,e1⟩:=I.base.slot b o e n hb hx
     exact⟨sl,(hs.2 b (Nat.ne_of_lt (Nat.lt_of_lt_of_le (Heap.lt_size e) (I.ok.cab x c hfn hc)))).trans e1⟩
   . obtain⟨o',e1⟩:=I.base.there b o e hx
     exact⟨o',(hs.2 b (Nat.ne_of_lt (Nat.lt_of_lt_of_le (Heap.lt_size e) (I.ok.cab x c hfn hc)))).trans e1⟩
   . by_cases hj:j=i
     . subst hj
       rw[hi] at e1;cases e1
       rw[List.getElem?_set_self Fv] at e2
       cases e2
       exact⟨u,r,.inr ⟨.inl hk,c,hc,hc'⟩⟩
     . rw[List.getElem?_set_ne (Ne.symm hj)] at e2
       obtain⟨u',r',q⟩:=hl j y v' e1 e2 e3
       refine⟨u',r',?_⟩
       rcases q with q|⟨k,c',e,z'⟩
       . exact .inl q
       . refine .inr ⟨k,c',e,z'.sameBut hs ?_⟩
         rintro rfl
         exact hj (Ft hN e1 (I.ok.inj _ _ _ e hc ▸ hi))
   . by_cases hcc:c'=c
     . subst hcc;exact⟨_,hc'⟩
     . obtain⟨w2,z2⟩:=I.cell y c' e
       exact⟨w2,z2.sameBut hs hcc⟩
   . obtain⟨e,n,ne,nf,d⟩:=I.pin p hp
     refine⟨(hs.2 p.1 ?_).trans e,n,ne,nf,d⟩
     intro q
     rw[q,hoc] at e
     have q':oc=p.2:=Option.some.inj e
     exact d w' (by rw[<-q'];exact Uk)
theorem u9 {M:Model}{A:Around}{E:Value->Shared->Prop}{i:Nat}{x:Str}{v:V}{u:Value}{Q:Unit->Shared->Prop}(I:Inv X pins σ H s)(hN:X.N.Nodup)(hi:X.N[i]? =some x)(hx:Loc X.env.scope x)(r:RelV v u)
 (h:∀s',Inv X pins (σ.set i (some v)) H s'->Q () s') (hf:X.fn x=true\/X.env.scope.names.lookup x=some .local:=by first|exact .inl rfl|exact .inr rfl|assumption):wpAny M A (storeName X.env x u) Q E s:=
 Uj I hN hi hx r (λs' I' _=>h s' I') hf
theorem Inv.call' {s':Shared}{ch:List Addr}(I:Inv X pins σ H s)(ho:s'.os=s.os)(u:Un (frs X.stack) ch H H' s.heap s'.heap)(hok:cD X.prog X.w H' s'.heap)(hg:AllBare s'.gens)
 (hch:∀b∈ch,(b∈X.ex\/X.s₀.heap.objs.size<=b)/\b≠X.env.locals/\(∀x c,X.env.cells.lookup x=some c->c≠b)/\∀p∈X.pn++pins,p.1≠b):Inv X pins σ H' s':=by
 obtain⟨h',g',d',t',o'⟩:=s'
 have e:o'=s.os:=ho
 subst e
 exact I.call (g':=g') (t':=t') (d':=d') u hok hg hch
end
noncomputable abbrev XK:=Value->Option Addr->Hp->Prop
noncomputable abbrev St:=List (Option V)
noncomputable abbrev VK:=V->Hp->Prop
noncomputable abbrev TE:=St->Hp->VK->Prop
noncomputable abbrev TT:=St->Hp->(Bool->Hp->Prop)->Prop
noncomputable abbrev TA:=St->Hp->(List V->Hp->Prop)->Prop
structure Ends where
 nx:St->Hp->Prop
 rt:VK
 bk:St->Hp->Prop:=λ_ _=>False
 ct:St->Hp->Prop:=λ_ _=>False
noncomputable abbrev TS:=Ends->St->Hp->Prop
noncomputable def EP (X:Cx) (pins:List (Addr × Obj)) (σ:St) (Q:VK) (u:Value) (s':Shared):Prop:=∃v H',Inv X pins σ H' s'/\RelV v u/\Q v H'
noncomputable def TP (X:Cx) (pins:List (Addr × Obj)) (σ:St) (Q:Bool->Hp->Prop) (b:Bool) (s':Shared):Prop:=∃H',Inv X pins σ H' s'/\Q b H'
noncomputable def AP (X:Cx) (pins:List (Addr × Obj)) (σ:St) (Q:List V->Hp->Prop) (us:List Value) (s':Shared):Prop:=∃vs H',Inv X pins σ H' s'/\Vals vs us/\Q vs H'
noncomputable def SP (X:Cx) (pins:List (Addr × Obj)) (D:Ends) (f:Flow) (s':Shared):Prop:=
 match f with
 | .next=>∃σ' H',Inv X pins σ' H' s'/\D.nx σ' H'
 | .brk=>∃σ' H',Inv X pins σ' H' s'/\D.bk σ' H'
 | .cont=>∃σ' H',Inv X pins σ' H' s'/\D.ct σ' H'
 | .ret u=>∃v σ' H',Inv X pins σ' H' s'/\RelV v u/\D.rt v H'
noncomputable def PE (X:Cx) (e:Expr) (t:TE):Prop:=
 ∀(pins:List (Addr × Obj)) (s:Shared) (σ:St) (H:Hp) (Q:VK),Inv X pins σ H s->t σ H Q->wpAny (model X.prog X.w) X.A (eval e X.env) (EP X pins σ Q) X.xe s
noncomputable def PT (X:Cx) (e:Expr) (t:TT):Prop:=
 ∀(pins:List (Addr × Obj)) (s:Shared) (σ:St) (H:Hp) (Q:Bool->Hp->Prop),Inv X pins σ H s->t σ H Q->wpAny (model X.prog X.w) X.A (isTrue e X.env (eval e X.env)) (TP X pins σ Q) X.xe s
noncomputable def PW (X:Cx) (e:Expr) (t:TT):Prop:=
 ∀(whole:Sem Value) (pins:List (Addr × Obj)) (s:Shared) (σ:St) (H:Hp) (Q:Bool->Hp->Prop),Inv X pins σ H s->t σ H Q->wpAny (model X.prog X.w) X.A (isTrue e X.env whole) (TP X pins σ Q) X.xe s
theorem PW.pt {X:Cx}{e:Expr}{t:TT}(h:PW X e t):PT X e t:=h _
noncomputable def PA (X:Cx) (es:List Expr) (t:TA):Prop:=
 ∀(pos:Pos) (pins:List (Addr × Obj)) (s:Shared) (σ:St) (H:Hp) (Q:List V->Hp->Prop),Inv X pins σ H s->t σ H Q->wpAny (model X.prog X.w) X.A (spliced (backTo pos (starEach es X.env))) (AP X pins σ Q) X.xe s
noncomputable def PS (X:Cx) (st:Stmt) (t:TS):Prop:=
 ∀(pins:List (Addr × Obj)) (s:Shared) (σ:St) (H:Hp) (D:Ends),Inv X pins σ H s->t D σ H->wpAny (model X.prog X.w) X.A (exec st X.env) (SP X pins D) X.xe s
noncomputable def eZ (X:Cx) (st:List Stmt) (t:TS):Prop:=
 ∀(pins:List (Addr × Obj)) (s:Shared) (σ:St) (H:Hp) (D:Ends),Inv X pins σ H s->t D σ H->wpAny (model X.prog X.w) X.A (execs st X.env) (SP X pins D) X.xe s
theorem aL {α:Type}{t:Sem α}{Q Q':α->Shared->Prop}{M:Model}{A:Around}{E:Value->Shared->Prop}{s:Shared}(h:wpAny M A t Q E s)(hQ:∀a s,Q a s->Q' a s):wpAny M A t Q' E s:=wpAny_mono h hQ λ_ _ x=>x
section
variable {X:Cx}
noncomputable def aV (i:Nat):TE:=λσ H Q=>∃v,σ[i]? =some (some v)/\Q v H
noncomputable def tC (v:V):TE:=λ_ H Q=>Q v H
theorem Ul {i:Nat}{x:Str}{pos:Pos}(hN:X.N[i]? =some x)(hv:qY X.env.scope x)(hd:(x == ("__debug__":Str))=false:=by decide)(hcd:(x == ("__classdict__":Str))=false:=by decide):PE X (.Name x pos) (aV i):=by
 intro pins s σ H Q I h
 obtain⟨v,e,h⟩:=h
 obtain⟨m,hn,hl⟩:=I.loc
 obtain⟨u,r,l⟩:=hl i x v hN e hv
 have fin:EP X pins σ Q u s:=⟨v,H,I,r,h⟩
 rcases l with⟨hk,hm⟩|⟨hk,c,hc,hcell⟩
 . exact wpAny_Name (wpAny_loadName_local I.ok.kind hk hn hm fin) hd
 . rcases hk with hk|hk
   . exact wpAny_Name (wpAny_loadName_cell I.ok.kind hk hc hcell fin) hd
   . exact wpAny_Name (wpAny_loadName_free I.ok.kind hk hc hcell fin hcd) hd
theorem aF {i j pos}:PE X (.Constant (.int i) j pos) (tC (.int i)):=λ_ _ _ H _ I h=>wpAny_Constant_int ⟨.int i,H,I.tok _,⟨_,rfl⟩,h⟩
theorem ni {b j pos}:PE X (.Constant (.bool b) j pos) (tC (.bl b)):=λ_ _ _ H _ I h=>Constant_bool ⟨.bl b,H,I,rfl,h⟩
theorem dO {j pos}:PE X (.Constant .none j pos) (tC .non):=λ_ _ _ H _ I h=>Constant_none ⟨.non,H,I,rfl,h⟩
theorem bV {x j pos}:PE X (.Constant (.str x) j pos) (tC (.str x)):=λ_ _ _ H _ I h=>Calls.Constant_str ⟨.str x,H,I.tok _,⟨_,rfl⟩,h⟩
noncomputable def Gl (X:Cx) (x:Str):Prop:=X.env.kindOf x=some .globalImplicit
theorem Fw {E:Value->Shared->Prop}{pins:List (Addr × Obj)}{s:Shared}{σ:St}{H:Hp}{x:Str}{u:Value}{pos:Pos}{Q:Value->Shared->Prop}(I:Inv X pins σ H s)(hg:Gl X x)(hm:X.mg x=some u)(h:Q u s)
 (hd:(x == ("__debug__":Str))=false:=by decide):wpAny (model X.prog X.w) X.A (eval (.Name x pos) X.env) Q E s:=
 Calls.Name_function_global I.ok.kind hg (Calls.loadGlobal_global (by rw[I.ok.glob];exact I.mod.glob.keeps I.bk) hm h) hd
theorem g_ {E:Value->Shared->Prop}{pins:List (Addr × Obj)}{s:Shared}{σ:St}{H:Hp}{x:Str}{u:Value}{pos:Pos}{Q:Value->Shared->Prop}(I:Inv X pins σ H s)(hg:Gl X x)(hm:X.mg x=none)(hv:bootBuiltins x=some u)(h:Q u s)
 (hn:x≠"__name__":=by decide) (hd:(x == ("__debug__":Str))=false:=by decide):wpAny (model X.prog X.w) X.A (eval (.Name x pos) X.env) Q E s:=by
 obtain⟨mb,h1,h2⟩:=I.mod.blt
 exact Calls.Name_function_global I.ok.kind hg (Calls.loadGlobal_builtin (by rw[I.ok.glob];exact I.mod.glob.keeps I.bk) hm (by rw[I.ok.blt];exact h1.keeps I.bk) ((h2 x hn).trans hv) h) hd
theorem bO {x:Str}{v:V}{u:Value}{pos:Pos}(hg:Gl X x)(hm:X.mg x=none)(hv:bootBuiltins x=some u)(r:RelV v u)(hn:x≠"__name__":=by decide)(hd:(x == ("__debug__":Str))=false:=by decide):PE X (.Name x pos) (tC v):=
 λ_ _ _ H _ I h=>g_ I hg hm hv ⟨v,H,I,r,h⟩ hn hd
variable {a b:Expr}{ta tb:TE}{pos:Pos}
noncomputable def PC (X:Cx) (op:CmpOp) (a b:Expr) (t:TE):Prop:=
 ∀(pins:List (Addr × Obj)) (s:Shared) (σ:St) (H:Hp) (Q:VK),Inv X pins σ H s->t σ H Q->
  wpAny (model X.prog X.w) X.A (eval a X.env) (λv s₁=>wpAny (model X.prog X.w) X.A (eval b X.env) (λu s₂=>wpAny (model X.prog X.w) X.A (compareOp op v u) (EP X pins σ Q) X.xe s₂) X.xe s₁) X.xe s
noncomputable def tB (t:TE):TT:=λσ H Q=>t σ H λx H1=>∃c,x=.bl c/\Q c H1
theorem Fx {op:CmpOp}{t:TE}(h:PC X op a b t)(h1:behindInMarks op b=false:=by first|exact aht _ (by decide) (by decide)|rfl):PE X (.Compare a [op] [b] pos) t:=λpins s σ H Q I hw=>wpAny_Compare1 (h pins s σ H Q I hw) h1
theorem cH {e:Expr}{t:TE}(h:PE X e t)(he:∀whole,isTrue e X.env whole=(do let v <-whole;standAt e.pos;holding [v] (truthy v)):=by intro _;rfl):PT X e (tB t):=by
 intro pins s σ H Q I hw
 refine isTrue_plain (aL (h pins s σ H _ I hw) λv s1 ⟨x,H1,I1,r1,q1⟩=>?_) (he _)
 obtain⟨d,rfl,q⟩:=q1
 cases r1
 exact wpAny_truthy_bool ⟨H1,I1,q⟩
variable {tA q_:TT}{rest:List Expr}
noncomputable def Um (t u:TT):TT:=λσ H Q=>t σ H λc H1=>if c=true then u σ H1 Q else Q false H1
noncomputable def Uo (t u:TT):TT:=λσ H Q=>t σ H λc H1=>if c=true then Q true H1 else u σ H1 Q
noncomputable def Uq (t:TT):TT:=λσ H Q=>t σ H λc H1=>Q (!c) H1
theorem rm (ha:PT X a tA):PW X (.BoolOp .And [a] pos) tA:=by
 intro wh pins s σ H Q I h
 refine isTrue_and (aL (ha pins s σ H Q I h) λc s1 e=>?_)
 cases c with
 |true=>exact isTrue_and_nil e
 |false=>exact e
theorem iY (ha:PT X a tA):PW X (.BoolOp .Or [a] pos) tA:=by
 intro wh pins s σ H Q I h
 refine isTrue_or (aL (ha pins s σ H Q I h) λc s1 e=>?_)
 cases c with
 |false=>exact isTrue_or_nil e
 |true=>exact e
theorem rz (ha:PT X a tA)(hb:PW X (.BoolOp .And (b::rest) pos) q_):PW X (.BoolOp .And (a::b::rest) pos) (Um tA q_):=by
 intro wh pins s σ H Q I h
 refine isTrue_and (aL (ha pins s σ H _ I h) λc s1 ⟨H1,I1,q1⟩=>?_)
 cases c with
 |true=>exact hb wh pins s1 σ H1 Q I1 q1
 |false=>exact⟨H1,I1,q1⟩
theorem iZ (ha:PT X a tA)(hb:PW X (.BoolOp .Or (b::rest) pos) q_):PW X (.BoolOp .Or (a::b::rest) pos) (Uo tA q_):=by
 intro wh pins s σ H Q I h
 refine isTrue_or (aL (ha pins s σ H _ I h) λc s1 ⟨H1,I1,q1⟩=>?_)
 cases c with
 |true=>exact⟨H1,I1,q1⟩
 |false=>exact hb wh pins s1 σ H1 Q I1 q1
theorem jO (ha:PT X a tA):PT X (.UnaryOp .Not a pos) (Uq tA):=by
 intro pins s σ H Q I h
 exact isTrue_not (ha pins s σ H (λc H1=>Q (!c) H1) I h)
noncomputable def Fy (ta tb:TE):TE:=λσ H Q=>ta σ H λx H1=>∃c,x=.bl c/\if c=true then tb σ H1 Q else Q (.bl false) H1
noncomputable def Ur (ta tb:TE):TE:=λσ H Q=>ta σ H λx H1=>∃c,x=.bl c/\if c=true then Q (.bl true) H1 else tb σ H1 Q
noncomputable def Us (ta:TE):TE:=λσ H Q=>ta σ H λx H1=>∃c,x=.bl c/\Q (.bl (!c)) H1
theorem i_ {op}{t:TE}(h:PE X a t):PE X (.BoolOp op [a] pos) t:=λpins s σ H Q I hw=>BoolOp_one (h pins s σ H Q I hw)
theorem h_ (ha:PE X a ta)(hb:PE X (.BoolOp .And (b::rest) pos) tb):PE X (.BoolOp .And (a::b::rest) pos) (Fy ta tb):=by
 intro pins s σ H Q I h
 refine BoolOp_and (aL (ha pins s σ H _ I h) λv s1 ⟨x,H1,I1,r1,q1⟩=>?_)
 obtain⟨c,rfl,q1⟩:=q1
 cases r1
 refine wpAny_truthy_bool ?_
 cases c with
 |true=>exact hb pins s1 σ H1 Q I1 q1
 |false=>exact⟨.bl false,H1,I1,rfl,q1⟩
theorem Ut (ha:PE X a ta)(hb:PE X (.BoolOp .Or (b::rest) pos) tb):PE X (.BoolOp .Or (a::b::rest) pos) (Ur ta tb):=by
 intro pins s σ H Q I h
 refine BoolOp_or (aL (ha pins s σ H _ I h) λv s1 ⟨x,H1,I1,r1,q1⟩=>?_)
 obtain⟨c,rfl,q1⟩:=q1
 cases r1
 refine wpAny_truthy_bool ?_
 cases c with
 |false=>exact hb pins s1 σ H1 Q I1 q1
 |true=>exact⟨.bl true,H1,I1,rfl,q1⟩
theorem Fz (ha:PE X a ta):PE X (.UnaryOp .Not a pos) (Us ta):=by
 intro pins s σ H Q I h
 refine UnaryOp_ (aL (ha pins s σ H _ I h) λv s1 ⟨x,H1,I1,r1,q1⟩=>?_)
 obtain⟨c,rfl,q1⟩:=q1
 cases r1
 exact not_of (wpAny_truthy_bool ⟨.bl (!c),H1,I1,rfl,q1⟩)
noncomputable def FJ (t:TT) (ta tb:TE):TE:=λσ H Q=>t σ H λc H1=>if c=true then ta σ H1 Q else tb σ H1 Q
theorem ig {c:Expr}(hc:PT X c tA)(ha:PE X a ta)(hb:PE X b tb):PE X (.IfExp c a b pos) (FJ tA ta tb):=by
 intro pins s σ H Q I h
 refine wpAny_IfExp (aL (hc pins s σ H _ I h) λd s1 ⟨H1,I1,q1⟩=>?_)
 cases d with
 |true=>exact ha pins s1 σ H1 Q I1 q1
 |false=>exact hb pins s1 σ H1 Q I1 q1
end
noncomputable def au (K:W.Frag) (H:Hp) (a:Addr) (xs:List V):Prop:=
 Rd H a (.lst xs)\/
  ∃(o:Obj) (its:Array Value) (n:Nat),K.lookup a=some o/\o.cls=.type "list"/\o.dict=none/\o.data=.seq its n/\its.size<=sizeLine/\Vals xs its.toList
noncomputable def aq (K:W.Frag) (H:Hp) (a:Addr) (xs:List V):Prop:=
 Rd H a (.tup xs)\/
  ∃(o:Obj) (its:Array Value) (n:Nat),K.lookup a=some o/\o.cls=.type "tuple"/\o.data=.seq its n/\its.size<=sizeLine/\Vals xs its.toList
noncomputable def Uu:Value->Option V
 | .none=>some .non
 | .bool b=>some (.bl b)
 | .int i _=>some (.int i)
 | .str x _=>some (.str x)
 | .bytes b _=>some (.gC b)
 | .float b _=>some (.flt b)
 | .ref a=>some (.ref a)
 | .type n=>some (.ty n)
 |_=>none
theorem RelV.abs {x:V}{u:Value}(r:RelV x u):Uu u=some x:=by
 cases x with
 |non=>cases r;rfl
 |bl _=>cases r;rfl
 |int _=>obtain⟨t,rfl⟩:=r;rfl
 |str _=>obtain⟨t,rfl⟩:=r;rfl
 |gC _=>obtain⟨t,rfl⟩:=r;rfl
 |flt _=>obtain⟨t,rfl⟩:=r;rfl
 |ref _=>cases r;rfl
 |ty _=>cases r;rfl
theorem RelV.inj {x y:V}{u:Value}(r:RelV x u)(q:RelV y u):x=y:=Option.some.inj (r.abs.symm.trans q.abs)
theorem Vals.inj:∀{xs ys:List V}{us:List Value},Vals xs us->Vals ys us->xs=ys
 |_,_,_,.nil,.nil=>rfl
 |_,_,_,.cons r t,.cons r' t'=>by rw[r.inj r',Vals.inj t t']
section
variable {X:Cx}{pins:List (Addr × Obj)}{σ:St}{H:Hp}{s:Shared}{a:Addr}{xs ys:List V}
theorem au.of {K:W.Frag}(h:H a=some (.lst xs)):au K H a xs:=.inl (.inl h)
theorem aq.of {K:W.Frag}(h:H a=some (.tup xs)):aq K H a xs:=.inl (.inl h)
theorem Inv.list (I:Inv X pins σ H s)(h:au X.K H a xs):∃its:List Value,Vals xs its/\PlainL s.heap a its.toArray/\xs.length<=sizeLine:=by
 rcases h with h|⟨o,its,n,hk,hc,hd,hs,hz,r⟩
 . obtain⟨z,its,n,r,e⟩:=h.ok I.hok
   exact⟨its,r,⟨_,n,e,rfl,rfl,rfl⟩,z⟩
 . refine⟨its.toList,r,⟨o,n,I.cT a o hk,hc,hd,by simpa using hs⟩,?_⟩
   have e:=r.length
   simp only[Array.length_toList] at e
   omega
theorem Inv.tuple (I:Inv X pins σ H s)(h:aq X.K H a xs):∃its:List Value,Vals xs its/\IsTup s.heap a its.toArray/\xs.length<=sizeLine:=by
 rcases h with h|⟨o,its,n,hk,hc,hs,hz,r⟩
 . obtain⟨z,its,r,p⟩:=h.ok I.hok
   exact⟨its,r,p,z⟩
 . refine⟨its.toList,r,⟨o,I.cT a o hk,hc,n,by simpa using hs⟩,?_⟩
   have e:=r.length
   simp only[Array.length_toList] at e
   omega
theorem Inv.rA (I:Inv X pins σ H s)(h:au X.K H a xs)(h':au X.K H a ys):xs=ys:=by
 obtain⟨its,r,⟨o,n,e,_,_,d⟩,_⟩:=I.list h
 obtain⟨its',r',⟨o',n',e',_,_,d'⟩,_⟩:=I.list h'
 rw[e] at e';cases e'
 rw[d] at d'
 injection d' with d1 _
 have:its=its':=by simpa using congrArg Array.toList d1
 subst this
 exact r.inj r'
theorem Inv.u_ (I:Inv X pins σ H s)(h:aq X.K H a xs)(h':aq X.K H a ys):xs=ys:=by
 obtain⟨its,r,⟨o,e,_,n,d⟩,_⟩:=I.tuple h
 obtain⟨its',r',⟨o',e',_,n',d'⟩,_⟩:=I.tuple h'
 rw[e] at e';cases e'
 rw[d] at d'
 injection d' with d1 _
 have:its=its':=by simpa using congrArg Array.toList d1
 subst this
 exact r.inj r'
end
noncomputable abbrev Cx.wish (X:Cx) (E:Value->Shared->Prop):Cx:={ X with xe:=E }
noncomputable abbrev Cx.nj (X:Cx):Cx:=X.wish λ_ _=>False
theorem Cx.Ok.wish {X:Cx}(ok:X.Ok)(E:Value->Shared->Prop):(X.wish E).Ok:=
 ⟨ok.mod,ok.kind,ok.glob,ok.blt,ok.above,ok.inj,ok.has,ok.cab,ok.hd,ok.frames,ok.stk,ok.qZ,ok.bs,ok.gF,ok.lG,ok.m9,ok.eY,ok.jl⟩
theorem Cx.Ok.jP {X:Cx}{E:Value->Shared->Prop}(ok:(X.wish E).Ok):X.Ok:=
 ⟨ok.mod,ok.kind,ok.glob,ok.blt,ok.above,ok.inj,ok.has,ok.cab,ok.hd,ok.frames,ok.stk,ok.qZ,ok.bs,ok.gF,ok.lG,ok.m9,ok.eY,ok.jl⟩
section
variable {X:Cx}{pins:List (Addr × Obj)}{σ:St}{H:Hp}{s:Shared}{E:Value->Shared->Prop}
theorem Inv.wish (I:Inv X pins σ H s)(E:Value->Shared->Prop):Inv (X.wish E) pins σ H s:=⟨I.ok.wish E,I.os,I.bare,I.base,I.loc,I.cell,I.free,I.d_,I.pin,I.hok,I.len⟩
theorem Inv.jP (I:Inv (X.wish E) pins σ H s):Inv X pins σ H s:=⟨I.ok.jP,I.os,I.bare,I.base,I.loc,I.cell,I.free,I.d_,I.pin,I.hok,I.len⟩
theorem SP.jP {D:Ends}{f:Flow}{s':Shared}(h:SP (X.wish E) pins D f s'):SP X pins D f s':=by
 cases f with
 |next=>obtain⟨σ',H',I,q⟩:=h;exact⟨σ',H',I.jP,q⟩
 |brk=>obtain⟨σ',H',I,q⟩:=h;exact⟨σ',H',I.jP,q⟩
 |cont=>obtain⟨σ',H',I,q⟩:=h;exact⟨σ',H',I.jP,q⟩
 |ret u=>obtain⟨v,σ',H',I,r,q⟩:=h;exact⟨v,σ',H',I.jP,r,q⟩
theorem eZ.nj {st:List Stmt}{t:TS}(h:eZ X.nj st t):eZ X st t:=λpins s σ H D I hw=>
 wpAny_mono (h pins s σ H D (I.wish _) hw) (λ_ _ q=>q.jP) λ_ _ z=>False.elim z
end
section
variable {X:Cx}{st:Stmt}{rest:List Stmt}{t u:TS}{e:Expr}{te:TE}{pos:Pos}
noncomputable def FN:TS:=λD σ H=>D.nx σ H
noncomputable def FP (t u:TS):TS:=λD σ H=>t { D with nx:=u D } σ H
theorem bf:eZ X [] FN:=λ_ _ σ H _ I h=>wpAny_execs_nil ⟨σ,H,I,h⟩
theorem ao (h1:PS X st t)(h2:eZ X rest u):eZ X (st::rest) (FP t u):=by
 intro pins s σ H D I h
 refine wpAny_execs_cons (aL (h1 pins s σ H { D with nx:=u D } I h) λf s1 q=>?_)
 cases f with
 |next=>
  obtain⟨σ',H',I',q⟩:=q
  exact h2 pins s1 σ' H' D I' q
 |ret v=>exact q
 |brk=>exact q
 |cont=>exact q
theorem aJ (h1:PS X st t):eZ X [st] t:=by
 intro pins s σ H D I h
 refine wpAny_execs_cons (aL (h1 pins s σ H D I h) λf s1 q=>?_)
 cases f with
 |next=>exact wpAny_execs_nil q
 |ret v=>exact q
 |brk=>exact q
 |cont=>exact q
theorem Inv.quiet {pins:List (Addr × Obj)}{σ:St}{H:Hp}{s:Shared}(I:Inv X pins σ H s):interactive X.env=false:=by simp[interactive,I.ok.kind]
noncomputable def Uv (te:TE):TS:=λD σ H=>te σ H λ_ H1=>D.nx σ H1
theorem o_ (he:PE X e te)(hs:swapsWith e none pos.line X.env=pure false:=by rfl):PS X (.Expr e pos) (Uv te):=by
 intro pins s σ H D I h
 exact wpAny_Expr_any (aL (he pins s σ H _ I h) λv s1 ⟨x,H1,I1,r1,q1⟩=>⟨σ,H1,I1,q1⟩) I.quiet hs
noncomputable def vd (te:TE):TS:=λD σ H=>te σ H D.rt
theorem aU (he:PE X e te):PS X (.Return (some e) pos) (vd te):=by
 intro pins s σ H D I h
 exact wpAny_Return_some (aL (he pins s σ H _ I h) λv s1 ⟨x,H1,I1,r1,q1⟩=>⟨x,σ,H1,I1,r1,q1⟩)
noncomputable def nq (c:TT) (t u:TS):TS:=λD σ H=>c σ H λb H1=>if b=true then t D σ H1 else u D σ H1
theorem bh {c:Expr}{a b:List Stmt}{tc:TT}(hc:PT X c tc)(ha:eZ X a t)(hb:eZ X b u):PS X (.If c a b pos) (nq tc t u):=by
 intro pins s σ H D I h
 refine wpAny_If (aL (hc pins s σ H _ I h) λd s1 ⟨H1,I1,q1⟩=>?_)
 cases d with
 |true=>exact ha pins s1 σ H1 D I1 q1
 |false=>exact hb pins s1 σ H1 D I1 q1
noncomputable def FQ:TS:=λ_ _ _=>False
theorem aP:PS X st FQ:=λ_ _ _ _ _ _ h=>h.elim
theorem Uw {sts:List Stmt}:eZ X sts FQ:=λ_ _ _ _ _ _ h=>h.elim
end
noncomputable abbrev TG:=V->St->Hp->(St->Hp->Prop)->Prop
noncomputable abbrev lK:=List V->St->Hp->(St->Hp->Prop)->Prop
noncomputable def PG (X:Cx) (target:Expr) (t:TG):Prop:=
 ∀(pins:List (Addr × Obj)) (s:Shared) (σ:St) (H:Hp) (v:V) (u:Value) (Q:St->Hp->Prop),Inv X pins σ H s->RelV v u->t v σ H Q->
  wpAny (model X.prog X.w) X.A (assign target X.env u) (λ_ s'=>∃σ' H',Inv X pins σ' H' s'/\Q σ' H') X.xe s
noncomputable def rB (X:Cx) (ts:List Expr) (t:lK):Prop:=
 ∀(pins:List (Addr × Obj)) (s:Shared) (σ:St) (H:Hp) (vs:List V) (us:List Value) (Q:St->Hp->Prop),Inv X pins σ H s->Vals vs us->t vs σ H Q->
  wpAny (model X.prog X.w) X.A (assignInOrder ((assignEach ts X.env).map (·.2)) us) (λ_ s'=>∃σ' H',Inv X pins σ' H' s'/\Q σ' H') X.xe s
noncomputable abbrev vf:=V->V->V->Hp->(Hp->Prop)->Prop
noncomputable def FT (X:Cx) (t:vf):Prop:=
 ∀(pins:List (Addr × Obj)) (s:Shared) (σ:St) (H:Hp) (o i v:V) (ov iv u:Value) (Q:Hp->Prop),Inv X pins σ H s->RelV o ov->RelV i iv->RelV v u->t o i v H Q->
  wpAny (model X.prog X.w) X.A (setItem ov iv u) (λ_ s'=>∃H',Inv X pins σ H' s'/\Q H') X.xe s
section
variable {X:Cx}{pos:Pos}
noncomputable def cB (i:Nat):TG:=λv σ H Q=>Q (σ.set i (some v)) H
theorem bQ {i:Nat}{x:Str}(hN:X.N.Nodup)(hi:X.N[i]? =some x)(hx:Loc X.env.scope x)(hf:X.fn x=true\/X.env.scope.names.lookup x=some .local:=by first|exact .inl rfl|exact .inr rfl|assumption):PG X (.Name x pos) (cB i):=by
 intro pins s σ H v u Q I r h
 exact wpAny_assign_Name (u9 I hN hi hx r (λs' I'=>⟨_,H,I',h⟩) hf)
noncomputable def nu:lK:=λvs σ H Q=>vs=[]/\Q σ H
noncomputable def iu (t:TG) (u:lK):lK:=λvs σ H Q=>∃v r,vs=v::r/\t v σ H λσ' H'=>u r σ' H' Q
theorem iw:rB X [] nu:=by
 intro pins s σ H vs us Q I r h
 obtain⟨e,h⟩:=h
 subst e
 cases r
 exact assignInOrder_nil ⟨σ,H,I,h⟩
theorem cW {e:Expr}{es:List Expr}{t:TG}{u:lK}(h1:PG X e t)(h2:rB X es u)
 (hs:(assignEach (e::es) X.env).map (·.2)=assign e X.env::(assignEach es X.env).map (·.2):=by rfl):rB X (e::es) (iu t u):=by
 intro pins s σ H vs us Q I r h
 obtain⟨v,vr,e1,h⟩:=h
 subst e1
 cases r with
 |cons r rr=>
  rw[hs]
  refine assignInOrder_cons (aL (h1 pins s σ H _ _ _ I r h) λ_ s1 ⟨σ1,H1,I1,q1⟩=>?_)
  exact h2 pins s1 σ1 H1 _ _ Q I1 rr q1
noncomputable def nF (K:W.Frag) (n:Nat) (t:lK):TG:=λv σ H Q=>∃a xs,v=.ref a/\aq K H a xs/\xs.length=n/\t xs σ H Q
theorem iy {es:List Expr}{k:Nat}{t:lK}{n:Nat}(hc:X.calm=true)(h:rB X es t)
 (hn:(assignEach es X.env).length=n:=by rfl) (hst:(assignEach es X.env).findIdx? (·.1)=none:=by rfl):PG X (.Tuple es k pos) (nF X.K n t):=by
 intro pins s σ H v u Q I r hw
 obtain⟨a,xs,e1,hq,hl,hw⟩:=hw
 subst e1
 cases r
 obtain⟨its,rv,ht,hz⟩:=I.tuple hq
 refine assign_Tuple_tuple (I.ok.hd hc) ht (by simp[hn,<-hl,rv.length]) hst λh' hx=>?_
 have I1:Inv X pins σ H { s with heap:=h' }:=I.kept (t':=s.toks) λb o e=>hx b o (Nat.ne_of_lt (Heap.lt_size e)) e
 exact h pins _ σ H xs _ Q I1 (by simpa using rv) hw
noncomputable def Ux (to ti:TE) (t:vf):TG:=λv σ H Q=>to σ H λo H1=>ti σ H1 λi H2=>t o i v H2 λH3=>Q σ H3
theorem Uy {o i:Expr}{to ti:TE}{t:vf}(ho:PE X o to)(hi:PE X i ti)(hs:FT X t)
 (ha:∀v,assign (.Subscript o i pos) X.env v=(do
   let ov <-holding [v] (eval o X.env)
   let iv <-holding [v,ov] (eval i X.env)
   standAt pos
   holding [v,ov,iv] (setItem ov iv v)
   release [v,ov,iv] []):=by intro _;rfl):PG X (.Subscript o i pos) (Ux to ti t):=by
 intro pins s σ H v u Q I r h
 rw[ha]
 refine wpAny_bind (wpAny_holding (aL (ho pins s σ H _ I h) λov s1 ⟨x,H1,I1,r1,q1⟩=>?_))
 refine wpAny_bind (wpAny_holding (aL (hi pins s1 σ H1 _ I1 q1) λiv s2 ⟨y,H2,I2,r2,q2⟩=>?_))
 refine wpAny_bind (wpAny_standAt (wpAny_bind (wpAny_holding (aL (hs pins s2 σ H2 x y v ov iv u _ I2 r1 r2 r q2) λ_ s3 ⟨H3,I3,q3⟩=>?_))))
 exact wpAny_release ⟨σ,H3,I3,q3⟩
noncomputable def jm (te:TE) (g:TG):TS:=λD σ H=>te σ H λx H1=>g x σ H1 D.nx
theorem rD {tg e:Expr}{te:TE}{g:TG}(he:PE X e te)(hg:PG X tg g)(hs:swapsWithSole [tg] e pos.line X.env=pure false:=by rfl)(hw:swappedStores [tg] e X.env=pure none:=by rfl)
 (h1:(assignEach [tg] X.env).map (·.2)=[assign tg X.env]:=by rfl):PS X (.Assign [tg] e pos) (jm te g):=by
 intro pins s σ H D I h
 refine wpAny_Assign_stores (aL (he pins s σ H _ I h) λv s1 ⟨x,H1,I1,r1,q1⟩=>?_) hs hw
 rw[h1]
 exact aL (hg pins s1 σ H1 x v _ I1 r1 q1) λ_ s2 q=>q
theorem bI {i:Nat}{x:Str}{e:Expr}{te:TE}{pos':Pos}(hN:X.N.Nodup)(hi:X.N[i]? =some x)(hx:Loc X.env.scope x)(he:PE X e te)(hs:swapsWith e (some (.Name x pos')) pos.line X.env=pure false:=by rfl)(hf:X.fn x=true\/X.env.scope.names.lookup x=some .local:=by first|exact .inl rfl|exact .inr rfl|assumption):
 PS X (.Assign [.Name x pos'] e pos) (jm te (cB i)):=by
 intro pins s σ H D I h
 refine wpAny_Assign_Name (aL (he pins s σ H _ I h) λv s1 ⟨y,H1,I1,r1,q1⟩=>?_) hs
 exact u9 I1 hN hi hx r1 (λs2 I2=>⟨_,H1,I2,q1⟩) hf
end
section
variable {X:Cx}{pos:Pos}
end
structure It where
 go:Nat->Hp->Prop
 jQ:Nat->Hp->V->Hp->Prop
 stop:Nat->Hp->Prop
noncomputable def dz (X:Cx) (pins:List (Addr × Obj)) (H:Hp) (b:Addr):Prop:=
 H b=none/\b≠X.env.locals/\b ∉ X.fs/\(b∈X.ex\/X.s₀.heap.objs.size<=b)/\(∀x c,X.env.cells.lookup x=some c->c≠b)/\∀p∈X.pn++pins,p.1≠b
theorem Inv.jo {X:Cx}{pins:List (Addr × Obj)}{σ:St}{H H':Hp}{s:Shared}{b:Addr}(I:Inv X pins σ H s)(hb:s.heap.objs.size<=b)(hn:H' b=none):dz X pins H' b:=by
 refine⟨hn,Nat.ne_of_gt (Nat.lt_of_lt_of_le I.lt hb),I.m_ hb,.inr (Nat.le_trans I.sz hb),λx c e z=>?_,λp hp z=>?_⟩
 . obtain⟨v,q⟩:=I.cell x c e
   exact absurd (Nat.lt_of_lt_of_le q.lt (by rw[z];exact hb)) (Nat.lt_irrefl _)
 . exact absurd (Nat.lt_of_lt_of_le (Heap.lt_size (I.pin p hp).1) (by rw[z];exact hb)) (Nat.lt_irrefl _)
structure Turn (P:Program) (w:World) (K:W.Frag) (tg:Expr) (J:It) (fp:List Addr) (it:Addr) (tn:Nat->Heap->Prop):Prop where
 mem:it∈fp
 obj:∀i h,tn i h->∀b∈fp,∃o,h.get? b=some o/\∀v,o.data≠ .cell v
 keep:∀i h h',tn i h->(∀b∈fp,∀o,h.get? b=some o->h'.get? b=some o)->tn i h'
 item:∀(X:Cx),X.prog=P->X.w=w->X.K=K->X.calm=true->∀(i:Nat) (pins:List (Addr × Obj)) (s:Shared) (σ:St) (H:Hp) (E:Value->Shared->Prop),Inv X pins σ H s->(∀b∈fp,dz X pins H b)->tn i s.heap->J.go i H->
  wpAny (model P w) X.A (pyNext (.ref it)) (λr s1=>∃u,r=some u/\
   wpAny (model P w) X.A (letOwnedTupleGo tg (.ref it) u) (λ_ s2=>∃x H',Inv X pins σ H' s2/\RelV x u/\J.jQ i H x H'/\tn (i+1) s2.heap/\∀b∈fp,H' b=none) E s1) E s
 done:∀(X:Cx),X.prog=P->X.w=w->X.K=K->X.calm=true->∀(i:Nat) (pins:List (Addr × Obj)) (s:Shared) (σ:St) (H:Hp) (E:Value->Shared->Prop),Inv X pins σ H s->(∀b∈fp,dz X pins H b)->tn i s.heap->J.stop i H->
  wpAny (model P w) X.A (pyNext (.ref it)) (λr s1=>r=none/\Inv X pins σ H s1) E s
 self:∀(A:Around) (i:Nat) (s:Shared) (Q:Value->Shared->Prop) (E:Value->Shared->Prop),tn i s.heap->Q (.ref it) s->wpAny (model P w) A (pyIter (.ref it)) Q E s
noncomputable abbrev TI:=St->Hp->(It->Hp->Prop)->Prop
noncomputable def PIE (X:Cx) (pins:List (Addr × Obj)) (σ:St) (tg:Expr) (R:It->Hp->Prop) (itv:Value) (s2:Shared):Prop:=
 ∃(it:Addr) (fp:List Addr) (tn:Nat->Heap->Prop) (J:It) (H':Hp),itv=.ref it/\Inv X pins σ H' s2/\Turn X.prog X.w X.K tg J fp it tn/\tn 0 s2.heap/\(∀b∈fp,dz X pins H' b)/\R J H'
noncomputable def PI (X:Cx) (tg iter:Expr) (wi:TI):Prop:=
 ∀(pins:List (Addr × Obj)) (s:Shared) (σ:St) (H:Hp) (R:It->Hp->Prop),Inv X pins σ H s->wi σ H R->
  wpAny (model X.prog X.w) X.A (eval iter X.env) (λv s1=>wpAny (model X.prog X.w) X.A (pyIter v) (PIE X pins σ tg R) X.xe s1) X.xe s
theorem rE {M:Model}{A:Around}{E:Value->Shared->Prop}{s:Shared}{tg:Expr}{it:Addr}{u:Value}{o:Obj}{n:String}{vs:Array Value}{Q:Unit->Shared->Prop}(ho:s.heap.get? it=some o)(hc:o.cls=.type n)(hd:o.data=.fields vs)
 (hn:["enumerate","zip","dict_itemiterator","dict_reverseitemiterator","odict_iterator","itertools.zip_longest","itertools.pairwise"].contains n=false) (hQ:Q () s):wpAny M A (letOwnedTupleGo tg (.ref it) u) Q E s:=by
 unfold letOwnedTupleGo
 cases tg <;> first
  |exact wpAny_pure hQ
  |(cases u <;> first
     |exact wpAny_pure hQ
     |(refine wpAny_bind (wpAny_load ho ?_)
       rw[hc,hd]
       show wpAny M A (if(["enumerate","zip","dict_itemiterator","dict_reverseitemiterator","odict_iterator","itertools.zip_longest","itertools.pairwise"].contains n && vs[0]? == some (rawInt _))=true then _ else _) Q E s
       rw[if_neg (by intro h;rw[hn,Bool.false_and] at h;cases h)]
       exact wpAny_pure hQ))
noncomputable def pq (K:W.Frag) (a:Addr):It:=
 ⟨λi H=>∃xs x,au K H a xs/\xs[i]? =some x,λi H x H'=>H'=H/\∀xs,au K H a xs->xs[i]? =some x,λi H=>∃xs,au K H a xs/\xs.length<=i⟩
noncomputable def pA (K:W.Frag) (a:Addr):It:=
 ⟨λi H=>∃xs x,aq K H a xs/\xs[i]? =some x,λi H x H'=>H'=H/\∀xs,aq K H a xs->xs[i]? =some x,λi H=>∃xs,aq K H a xs/\xs.length<=i⟩
noncomputable def lM (lo:Int) (n:Nat):It:=⟨λi _=>i<n,λi H x H'=>H'=H/\x=.int (lo+i),λi _=>n<=i⟩
theorem Uz {P:Program}{w:World}{K:W.Frag}{tg:Expr}(a it:Addr):Turn P w K tg (pq K a) [it] it (λi h=>h.IsListIter it a i) where
 mem:=by simp
 obj:=λi h st b hb=>by
  have e:b=it:=by simpa using hb
  subst e
  obtain⟨o,e,c,d⟩:=st
  exact⟨o,e,λv z=>by rw[d] at z;cases z⟩
 keep:=λi h h' st k=>st.at λo e=>k it (by simp) o e
 item:=by
  intro X hP hw hK hc i pins s σ H E I hf st hg
  subst hP hw hK
  obtain⟨xs,x,hq,hx⟩:=hg
  obtain⟨its,rv,p,hz⟩:=I.list hq
  obtain⟨u,hu,ru⟩:=rv.get hx
  obtain⟨f0,f1,f2,f3,f4,f5⟩:=hf it (by simp)
  refine wpAny_pyNext_list_item st p.isList (x:=u) (by simpa using hu) λh' st' sb=>?_
  have I1:Inv X pins σ H { s with heap:=h' }:=I.turned (t':=s.toks) (λb o hb e=>(sb.2 b hb).trans e) f0 f1 f3 f4 f5
  obtain⟨o,e,c,d⟩:=id st'
  exact⟨u,rfl,rE (s:={ s with heap:=h' }) e c d (by decide) ⟨x,H,I1,ru,⟨rfl,λys hy=>by rw[I.rA hy hq];exact hx⟩,st',λb hb=>(hf b hb).1⟩⟩
 done:=by
  intro X hP hw hK hc i pins s σ H E I hf st hg
  subst hP hw hK
  obtain⟨xs,hq,hx⟩:=hg
  obtain⟨its,rv,p,hz⟩:=I.list hq
  obtain⟨f0,f1,f2,f3,f4,f5⟩:=hf it (by simp)
  have hl:=rv.length
  exact wpAny_pyNext_list_end (I.ok.hd hc) st p.isList (by simp;omega) λh' eb=>⟨rfl,I.turned (t':=s.toks) (λb o hb e=>eb b o hb e) f0 f1 f3 f4 f5⟩
 self:=λ_ _ _ _ _ st h=>wpAny_pyIter_listiter st h
theorem UG {P:Program}{w:World}{K:W.Frag}{tg:Expr}(a it:Addr):Turn P w K tg (pA K a) [it] it (λi h=>h.IsTupleIter it a i) where
 mem:=by simp
 obj:=λi h st b hb=>by
  have e:b=it:=by simpa using hb
  subst e
  obtain⟨o,e,c,d⟩:=st
  exact⟨o,e,λv z=>by rw[d] at z;cases z⟩
 keep:=λi h h' st k=>st.at λo e=>k it (by simp) o e
 item:=by
  intro X hP hw hK hc i pins s σ H E I hf st hg
  subst hP hw hK
  obtain⟨xs,x,hq,hx⟩:=hg
  obtain⟨its,rv,p,hz⟩:=I.tuple hq
  obtain⟨u,hu,ru⟩:=rv.get hx
  obtain⟨f0,f1,f2,f3,f4,f5⟩:=hf it (by simp)
  refine wpAny_pyNext_tuple_item st (show s.heap.IsTuple a its.toArray from p) (x:=u) (by simpa using hu) λh' st' sb=>?_
  have I1:Inv X pins σ H { s with heap:=h' }:=I.turned (t':=s.toks) (λb o hb e=>(sb.2 b hb).trans e) f0 f1 f3 f4 f5
  obtain⟨o,e,c,d⟩:=id st'
  exact⟨u,rfl,rE (s:={ s with heap:=h' }) e c d (by decide) ⟨x,H,I1,ru,⟨rfl,λys hy=>by rw[I.u_ hy hq];exact hx⟩,st',λb hb=>(hf b hb).1⟩⟩
 done:=by
  intro X hP hw hK hc i pins s σ H E I hf st hg
  subst hP hw hK
  obtain⟨xs,hq,hx⟩:=hg
  obtain⟨its,rv,p,hz⟩:=I.tuple hq
  obtain⟨f0,f1,f2,f3,f4,f5⟩:=hf it (by simp)
  have hl:=rv.length
  exact wpAny_pyNext_tuple_end (I.ok.hd hc) st (show s.heap.IsTuple a its.toArray from p) (by simp;omega) λh' eb=>⟨rfl,I.turned (t':=s.toks) (λb o hb e=>eb b o hb e) f0 f1 f3 f4 f5⟩
 self:=λ_ _ _ _ _ st h=>wpAny_pyIter_tupleiter st h
theorem UJ {P:Program}{w:World}{K:PySem.W.Frag}{tg:Expr}(it:Addr)(lo:Int)(n:Nat):Turn P w K tg (lM lo n) [it] it (λi h=>IsRangeIter h it (lo+(i:Nat) * 1) ((n:Int) - (i:Nat)) 1) where
 mem:=by simp
 obj:=λi h st b hb=>by
  have e:b=it:=by simpa using hb
  subst e
  exact⟨_,st,λv z=>by
   have z':Data.fields _=Data.cell v:=z
   cases z'⟩
 keep:=λi h h' st k=>k it (by simp) _ st
 item:=by
  intro X hP hw hK hc i pins s σ H E I hf st hg
  subst hP hw hK
  obtain⟨f0,f1,f2,f3,f4,f5⟩:=hf it (by simp)
  have W:=Walks.range (prog:=X.prog) (w:=X.w) (I.ok.hd hc) it lo 1 n
  refine W.item i s _ _ hg st λv h' tk hv st' kk=>?_
  obtain⟨t,rfl⟩:=hv
  have I1:Inv X pins σ H { s with heap:=h',toks:=tk }:=I.turned (λb o hb e=>kk b o (by simpa using hb) e) f0 f1 f3 f4 f5
  refine⟨_,rfl,rE (s:={ s with heap:=h',toks:=tk }) (n:="range_iterator") st' rfl rfl (by decide) ⟨.int (lo+i),H,I1,⟨t,?_⟩,⟨rfl,rfl⟩,st',λb hb=>(hf b hb).1⟩⟩
  rw[Int.mul_one]
 done:=by
  intro X hP hw hK hc i pins s σ H E I hf st hg
  subst hP hw hK
  obtain⟨f0,f1,f2,f3,f4,f5⟩:=hf it (by simp)
  exact wpAny_pyNext_range_end (I.ok.hd hc) st (by have:n<=i:=hg;omega) λh' eb=>⟨rfl,I.turned (t':=s.toks) (λb o hb e=>eb b o hb e) f0 f1 f3 f4 f5⟩
 self:=λ_ _ _ _ _ st h=>wpAny_pyIter_rangeiter st h
section
variable {X:Cx}{tg:Expr}
noncomputable def FW (K:W.Frag) (tl:TE):TI:=λσ H R=>tl σ H λx H1=>∃a,x=.ref a/\(∃xs,au K H1 a xs)/\R (pq K a) H1
noncomputable def UL (K:W.Frag) (tl:TE):TI:=λσ H R=>tl σ H λx H1=>∃a,x=.ref a/\(∃xs,aq K H1 a xs)/\R (pA K a) H1
theorem pB {l:Expr}{tl:TE}(hl:PE X l tl):PI X tg l (FW X.K tl):=by
 intro pins s σ H R I h
 refine aL (hl pins s σ H _ I h) λv s1 ⟨x,H1,I1,r1,q1⟩=>?_
 obtain⟨a,e,⟨xs,hq⟩,q⟩:=q1
 subst e
 cases r1
 obtain⟨its,rv,p,hz⟩:=I1.list hq
 refine wpAny_pyIter_list p.isList ?_
 refine⟨s1.heap.objs.size,[s1.heap.objs.size],_,_,H1,rfl,I1.kept (t':=s1.toks) λb o e=>Heap.get?_push_of_some _ e,Uz a _,⟨_,Heap.get?_push_size _ rfl,rfl,rfl⟩,λb hb=>?_,q⟩
 have e:b=s1.heap.objs.size:=by simpa using hb
 subst e
 exact I1.jo (Nat.le_refl _) (I1.hok.fresh (Nat.le_refl _))
theorem jR {l:Expr}{tl:TE}(hl:PE X l tl):PI X tg l (UL X.K tl):=by
 intro pins s σ H R I h
 refine aL (hl pins s σ H _ I h) λv s1 ⟨x,H1,I1,r1,q1⟩=>?_
 obtain⟨a,e,⟨xs,hq⟩,q⟩:=q1
 subst e
 cases r1
 obtain⟨its,rv,p,hz⟩:=I1.tuple hq
 refine wpAny_pyIter_tuple (show s1.heap.IsTuple a its.toArray from p) ?_
 refine⟨s1.heap.objs.size,[s1.heap.objs.size],_,_,H1,rfl,I1.kept (t':=s1.toks) λb o e=>Heap.get?_push_of_some _ e,UG a _,⟨_,Heap.get?_push_size _ rfl,rfl,rfl⟩,λb hb=>?_,q⟩
 have e:b=s1.heap.objs.size:=by simpa using hb
 subst e
 exact I1.jo (Nat.le_refl _) (I1.hok.fresh (Nat.le_refl _))
theorem FZ {pins:List (Addr × Obj)}{σ:St}{H:Hp}{s:Shared}{R:It->Hp->Prop}{E:Value->Shared->Prop}{lo hi:Int}{t u v:Tok}{tk:Nat}(I:Inv X pins σ H s)(h1: -(2 ^ 62)<=lo)(h2:lo<2 ^ 62)(h3: -(2 ^ 62)<=hi)(h4:hi<2 ^ 62)
 (q:R (lM lo (hi - lo).toNat) H):wpAny (model X.prog X.w) X.A (pyIter (.ref s.heap.objs.size)) (PIE X pins σ tg R) E { s with heap:=s.heap.push { cls:=.type "range",data:=.fields #[.int lo t,.int hi u,.int 1 v] },toks:=tk }:=by
 refine wpAny_pyIter_range (IsRange.new ..) (small_one h1 h2 h3 h4) ?_
 have I1:Inv X pins σ H { s with heap:=s.heap.push { cls:=.type "range",data:=.fields #[.int lo t,.int hi u,.int 1 v] },toks:=tk }:=I.kept λb o e=>Heap.get?_push_of_some _ e
 refine⟨(s.heap.push { cls:=.type "range",data:=.fields #[.int lo t,.int hi u,.int 1 v] }).objs.size,[(s.heap.push { cls:=.type "range",data:=.fields #[.int lo t,.int hi u,.int 1 v] }).objs.size],_,_,H,rfl,
  I1.kept (t':=tk) λb o e=>Heap.get?_push_of_some _ e,UJ _ lo (hi - lo).toNat,?_,λb hb=>?_,q⟩
 . have e1:lo+((0:Nat):Int) * 1=lo:=by simp
   have e2:(((hi - lo).toNat:Nat):Int) - ((0:Nat):Int)=Builtin.Range.rangeSize lo hi 1:=by rw[rangeSize_one];split <;> omega
   show IsRangeIter _ _ (lo+((0:Nat):Int) * 1) ((((hi - lo).toNat:Nat):Int) - ((0:Nat):Int)) 1
   rw[e1,e2]
   exact Heap.get?_push_size _ rfl
 . have e:b=(s.heap.push { cls:=.type "range",data:=.fields #[.int lo t,.int hi u,.int 1 v] }).objs.size:=by simpa using hb
   subst e
   exact I1.jo (Nat.le_refl _) (I1.hok.fresh (Nat.le_refl _))
noncomputable def Ga (ta:TA):TI:=λσ H R=>ta σ H λvs H1=>∃j:Int,vs=[.int j]/\ -(2 ^ 62)<=j/\j<2 ^ 62/\R (lM 0 j.toNat) H1
noncomputable def UW (ta:TA):TI:=λσ H R=>ta σ H λvs H1=>∃i j:Int,vs=[.int i,.int j]/\(-(2 ^ 62)<=i/\i<2 ^ 62/\ -(2 ^ 62)<=j/\j<2 ^ 62)/\R (lM i (j - i).toNat) H1
theorem rF {a:Expr}{ta:TA}{p pos:Pos}(hg:Gl X "range")(hm:X.mg "range"=none)(ha:PA X [a] ta)(hs:starEach [a] X.env=[(false,eval a X.env)]:=by rfl):PI X tg (.Call (.Name "range" p) [a] [] pos) (Ga ta):=by
 intro pins s σ H R I h
 refine Call_ (g_ I hg hm boot_range (PyProof.Rows.callWith_type1 (aL (ha pos pins s σ H _ I h) λus s1 ⟨vs,H1,I1,r1,q1⟩=>?_) hs rfl))
 obtain⟨j,e,q1,q2,q⟩:=q1
 subst e
 cases r1 with
 |cons r rr=>
  cases rr
  obtain⟨t,rfl⟩:=r
  exact call_range_1 (FZ I1 (by omega) (by omega) q1 q2 (by simpa using q))
theorem U0 {a b:Expr}{ta:TA}{p pos:Pos}(hg:Gl X "range")(hm:X.mg "range"=none)(ha:PA X [a,b] ta)(hs:starEach [a,b] X.env=[(false,eval a X.env),(false,eval b X.env)]:=by rfl)(hs2:starEach [b] X.env=[(false,eval b X.env)]:=by rfl):
 PI X tg (.Call (.Name "range" p) [a,b] [] pos) (UW ta):=by
 intro pins s σ H R I h
 refine Call_ (g_ I hg hm boot_range (PyProof.Rows.callWith_type1 (aL (ha pos pins s σ H _ I h) λus s1 ⟨vs,H1,I1,r1,q1⟩=>?_) (by rw[hs,hs2]) (by rw[hs2];rfl)))
 obtain⟨i,j,e,⟨q1,q2,q3,q4⟩,q⟩:=q1
 subst e
 cases r1 with
 |cons r rr=>
  cases rr with
  |cons r' rr=>
   cases rr
   obtain⟨t,rfl⟩:=r
   obtain⟨t',rfl⟩:=r'
   exact call_range_2 (FZ I1 q1 q2 q3 q4 q)
noncomputable def U3 (wi:TI) (g:TG) (tb:TS):TS:=λD σ H=>wi σ H λJ H1=>∃W:Nat->Nat->St->Hp->Prop,(∃m,W 0 m σ H1)/\∀i m σ H,W i m σ H->
 (J.stop i H/\D.nx σ H)\/(J.go i H/\∃N:St->Hp->Prop,(∀σ' H',N σ' H'->∃m',m'<m/\W (i+1) m' σ' H')/\∀x H',J.jQ i H x H'->g x σ H' λσ2 H2=>tb { D with nx:=N,ct:=N,bk:=D.nx } σ2 H2)
noncomputable def rG (fp:List Addr) (h:Heap):List (Addr × Obj):=fp.filterMap λb=>(h.get? b).map λo=>(b,o)
theorem pC {fp:List Addr}{h:Heap}{b:Addr}{o:Obj}(hb:b∈fp)(e:h.get? b=some o):(b,o)∈rG fp h:=List.mem_filterMap.mpr ⟨b,hb,by rw[e];rfl⟩
theorem U4 {fp:List Addr}{h:Heap}{p:Addr × Obj}(hp:p∈rG fp h):p.1∈fp/\h.get? p.1=some p.2:=by
 obtain⟨b,hb,e⟩:=List.mem_filterMap.mp hp
 cases q:h.get? b with
 |none=>rw[q] at e;cases e
 |some o=>
  rw[q] at e
  have e':(b,o)=p:=Option.some.inj e
  subst e'
  exact⟨hb,q⟩
theorem Inv.pinned {pins:List (Addr × Obj)}{σ:St}{H:Hp}{s:Shared}{fp:List Addr}(I:Inv X pins σ H s)(hf:∀b∈fp,dz X pins H b)(ho:∀b∈fp,∃o,s.heap.get? b=some o/\∀v,o.data≠ .cell v):Inv X (pins++rG fp s.heap) σ H s:=
 I.lJ λp hp=>(List.mem_append.mp hp).elim (λz=>I.pin p (List.mem_append_right _ z)) λz=>by
   obtain⟨hb,e⟩:=U4 z
   obtain⟨f0,f1,f2,_⟩:=hf p.1 hb
   obtain⟨o,e',d⟩:=ho p.1 hb
   rw[e] at e';cases e'
   exact⟨e,f0,f1,f2,d⟩
theorem Inv.jT {pins pl:List (Addr × Obj)}{σ:St}{H:Hp}{s:Shared}(I:Inv X (pins++pl) σ H s):Inv X pins σ H s:=I.lJ λp hp=>I.pin p (List.mem_append_right _ (List.mem_append_left _ hp))
theorem lN {iter:Expr}{body:List Stmt}{wi:TI}{g:TG}{tb:TS}{pos:Pos}(hp:PassesOwn (model X.prog X.w) X.A X.env X.xe)(hc:X.calm=true)(hi:PI X tg iter wi)(hg:PG X tg g)(hb:eZ X body tb)
 (hs:∀x,foldedSetIterable iter X.env x=pure x:=by intro _;rfl):PS X (.For tg iter body [] pos) (U3 wi g tb):=by
 intro pins s σ H D I h
 refine wpAny_For (aL (hi pins s σ H _ I h) λv s1 h1=>aL h1 λitv s2 h2=>?_) hs
 obtain⟨it,fp,tn,J,H2,e,I2,T,st2,f2,W,⟨m0,w0⟩,turn⟩:=h2
 subst e
 have stat:∀{H':Hp},(∀b∈fp,H' b=none)->∀b∈fp,dz X pins H' b:=λhn b hb=>⟨hn b hb,(f2 b hb).2⟩
 refine codeAny_forLoop_any (λn s'=>∃i σ' H',Inv X pins σ' H' s'/\tn i s'.heap/\(∀b∈fp,H' b=none)/\W i n σ' H') ?_ m0 ⟨0,σ,H2,I2,st2,λb hb=>(f2 b hb).1,w0⟩
 rintro n s3 ⟨i,σ3,H3,I3,st3,rH,w3⟩
 rcases turn i n σ3 H3 w3 with⟨stop,qn⟩|⟨go,N,hN,step⟩
 . refine wpAny_passesOwn hp (aL (T.done X rfl rfl rfl hc i pins s3 σ3 H3 X.xe I3 (stat rH) st3 stop) λr s4 ⟨hr,I4⟩=>?_)
   subst hr
   exact wpAny_execs_nil ⟨σ3,H3,I4,qn⟩
 . refine wpAny_passesOwn hp (aL (T.item X rfl rfl rfl hc i pins s3 σ3 H3 X.xe I3 (stat rH) st3 go) λr s4 ⟨u,hr,h4⟩=>?_)
   subst hr
   refine wpAny_passesOwn hp (aL h4 λ_ s5 ⟨x,H5,I5,r5,y5,vg,U5⟩=>?_)
   have U6:=I5.pinned (stat U5) (T.obj _ _ vg)
   refine wpAny_passesOwn hp (aL (hg _ s5 σ3 H5 x u _ U6 r5 (step x H5 y5)) λ_ s6 ⟨σ6,H6,I6,q6⟩=>?_)
   refine wpAny_passesOwn hp (aL (hb _ s6 σ6 H6 _ I6 q6) λf s7 q7=>?_)
   have again:∀{σ7:St} {H7:Hp},Inv X (pins++rG fp s5.heap) σ7 H7 s7->N σ7 H7->∃m,m<n/\∃i σ' H',Inv X pins σ' H' s7/\tn i s7.heap/\(∀b∈fp,H' b=none)/\W i m σ' H':=λ{σ7 H7} I7 n7=>by
    obtain⟨m',hm,w7⟩:=hN σ7 H7 n7
    refine⟨m',hm,i+1,σ7,H7,I7.jT,T.keep _ _ _ vg λb hb o e=>(I7.pin (b,o) (List.mem_append_right _ (List.mem_append_right _ (pC hb e)))).1,λb hb=>?_,w7⟩
    obtain⟨o,e,d⟩:=T.obj _ _ vg b hb
    exact(I7.pin (b,o) (List.mem_append_right _ (List.mem_append_right _ (pC hb e)))).2.1
   cases f with
   |next=>obtain⟨σ7,H7,I7,n7⟩:=q7;exact again I7 n7
   |cont=>obtain⟨σ7,H7,I7,n7⟩:=q7;exact again I7 n7
   |brk=>obtain⟨σ7,H7,I7,q7⟩:=q7;exact⟨σ7,H7,I7.jT,q7⟩
   |ret v=>obtain⟨x7,σ7,H7,I7,r7,q7⟩:=q7;exact⟨x7,σ7,H7,I7.jT,r7,q7⟩
end
theorem U7 {K:PySem.W.Frag}{a:Addr}{xs:List V}{g:TG}{tb:TS}{D:Ends}{σ:St}{H:Hp}(Pv:Nat->St->Hp->Prop)(h0:Pv 0 σ H)(hl:∀i σ H,i<=xs.length->Pv i σ H->au K H a xs)
 (hs:∀i x σ H,xs[i]? =some x->Pv i σ H->g x σ H λσ2 H2=>tb { D with nx:=Pv (i+1),ct:=Pv (i+1),bk:=D.nx } σ2 H2) (hd:∀σ H,Pv xs.length σ H->D.nx σ H):
 ∃W:Nat->Nat->St->Hp->Prop,(∃m,W 0 m σ H)/\∀i m σ H,W i m σ H->
  ((pq K a).stop i H/\D.nx σ H)\/((pq K a).go i H/\∃N:St->Hp->Prop,(∀σ' H',N σ' H'->∃m',m'<m/\W (i+1) m' σ' H')/\∀x H',(pq K a).jQ i H x H'->g x σ H' λσ2 H2=>tb { D with nx:=N,ct:=N,bk:=D.nx } σ2 H2):=by
 refine⟨λi m σ H=>m=xs.length - i/\i<=xs.length/\Pv i σ H,⟨xs.length,by simp,Nat.zero_le _,h0⟩,?_⟩
 rintro i m σ H ⟨rfl,hi,p⟩
 have q:=hl i σ H hi p
 by_cases hlt:i<xs.length
 . refine .inr ⟨⟨xs,xs[i],q,by simp[hlt]⟩,Pv (i+1),λσ' H' p'=>⟨xs.length - (i+1),by omega,rfl,hlt,p'⟩,λx H' y=>?_⟩
   obtain⟨e,y⟩:=y
   subst e
   exact hs i x σ _ (y xs q) p
 . have e:i=xs.length:=by omega
   subst e
   exact .inl ⟨⟨xs,q,Nat.le_refl _⟩,hd σ H p⟩
theorem vh {K:PySem.W.Frag}{a:Addr}{xs:List V}{g:TG}{tb:TS}{D:Ends}{σ:St}{H:Hp}(Pv:Nat->St->Hp->Prop)(h0:Pv 0 σ H)(hl:∀i σ H,i<=xs.length->Pv i σ H->aq K H a xs)
 (hs:∀i x σ H,xs[i]? =some x->Pv i σ H->g x σ H λσ2 H2=>tb { D with nx:=Pv (i+1),ct:=Pv (i+1),bk:=D.nx } σ2 H2) (hd:∀σ H,Pv xs.length σ H->D.nx σ H):
 ∃W:Nat->Nat->St->Hp->Prop,(∃m,W 0 m σ H)/\∀i m σ H,W i m σ H->
  ((pA K a).stop i H/\D.nx σ H)\/((pA K a).go i H/\∃N:St->Hp->Prop,(∀σ' H',N σ' H'->∃m',m'<m/\W (i+1) m' σ' H')/\∀x H',(pA K a).jQ i H x H'->g x σ H' λσ2 H2=>tb { D with nx:=N,ct:=N,bk:=D.nx } σ2 H2):=by
 refine⟨λi m σ H=>m=xs.length - i/\i<=xs.length/\Pv i σ H,⟨xs.length,by simp,Nat.zero_le _,h0⟩,?_⟩
 rintro i m σ H ⟨rfl,hi,p⟩
 have q:=hl i σ H hi p
 by_cases hlt:i<xs.length
 . refine .inr ⟨⟨xs,xs[i],q,by simp[hlt]⟩,Pv (i+1),λσ' H' p'=>⟨xs.length - (i+1),by omega,rfl,hlt,p'⟩,λx H' y=>?_⟩
   obtain⟨e,y⟩:=y
   subst e
   exact hs i x σ _ (y xs q) p
 . have e:i=xs.length:=by omega
   subst e
   exact .inl ⟨⟨xs,q,Nat.le_refl _⟩,hd σ H p⟩
theorem Gb {lo:Int}{n:Nat}{g:TG}{tb:TS}{D:Ends}{σ:St}{H:Hp}(Pv:Nat->St->Hp->Prop)(h0:Pv 0 σ H)
 (hs:∀i σ H,i<n->Pv i σ H->g (.int (lo+i)) σ H λσ2 H2=>tb { D with nx:=Pv (i+1),ct:=Pv (i+1),bk:=D.nx } σ2 H2) (hd:∀σ H,Pv n σ H->D.nx σ H):
 ∃W:Nat->Nat->St->Hp->Prop,(∃m,W 0 m σ H)/\∀i m σ H,W i m σ H->
  ((lM lo n).stop i H/\D.nx σ H)\/((lM lo n).go i H/\∃N:St->Hp->Prop,(∀σ' H',N σ' H'->∃m',m'<m/\W (i+1) m' σ' H')/\∀x H',(lM lo n).jQ i H x H'->g x σ H' λσ2 H2=>tb { D with nx:=N,ct:=N,bk:=D.nx } σ2 H2):=by
 refine⟨λi m σ H=>m=n - i/\i<=n/\Pv i σ H,⟨n,by simp,Nat.zero_le _,h0⟩,?_⟩
 rintro i m σ H ⟨rfl,hi,p⟩
 by_cases hlt:i<n
 . refine .inr ⟨hlt,Pv (i+1),λσ' H' p'=>⟨n - (i+1),by omega,rfl,hlt,p'⟩,λx H' y=>?_⟩
   obtain⟨e,y⟩:=y
   subst e y
   exact hs i σ _ hlt p
 . have e:i=n:=by omega
   subst e
   exact .inl ⟨Nat.le_refl _,hd σ H p⟩
noncomputable abbrev R2:=V->V->Hp->VK->Prop
noncomputable def cP (X:Cx) (f:Value->Value->Sem Value) (r:R2):Prop:=
 ∀(pins:List (Addr × Obj)) (s:Shared) (σ:St) (H:Hp) (x y:V) (v u:Value) (Q:VK),Inv X pins σ H s->RelV x v->RelV y u->r x y H Q->
  wpAny (model X.prog X.w) X.A (f v u) (EP X pins σ Q) X.xe s
noncomputable def fj (X:Cx) (f:Value) (r:List V->Hp->VK->Prop):Prop:=
 ∀(pins:List (Addr × Obj)) (s:Shared) (σ:St) (H:Hp) (xs:List V) (us:List Value) (Q:VK),Inv X pins σ H s->Vals xs us->r xs H Q->
  wpAny (model X.prog X.w) X.A (call f us) (EP X pins σ Q) X.xe s
noncomputable def bD (r:R2) (ta tb:TE):TE:=λσ H Q=>ta σ H λx H1=>tb σ H1 λy H2=>r x y H2 Q
noncomputable def rI (C:Int->Int->Prop) (g:Int->Int->V):R2:=λx y H Q=>∃i j,x=.int i/\y=.int j/\C i j/\Q (g i j) H
noncomputable def nG (g:Int->Int->V):R2:=λx y H Q=>∃i j,x=.int i/\y=.int j/\Q (g i j) H
section
variable {X:Cx}{a b c:Expr}{ta tb tc:TE}{pos:Pos}
theorem vo (ha:PE X a ta)(hb:PE X b tb){pins:List (Addr × Obj)}{s:Shared}{σ:St}{H:Hp}{R:V->V->Hp->Prop}(I:Inv X pins σ H s)
 (h:ta σ H λx H1=>tb σ H1 λy H2=>R x y H2) {Q:Value->Shared->Prop} {f:Value->Value->Sem Value}
 (hf:∀v u s2 x y H2,Inv X pins σ H2 s2->RelV x v->RelV y u->R x y H2->wpAny (model X.prog X.w) X.A (f v u) Q X.xe s2):
 wpAny (model X.prog X.w) X.A (eval a X.env) (λv s₁=>wpAny (model X.prog X.w) X.A (eval b X.env) (λu s₂=>wpAny (model X.prog X.w) X.A (f v u) Q X.xe s₂) X.xe s₁) X.xe s:=by
 refine aL (ha pins s σ H _ I h) λv s1 ⟨x,H1,I1,r1,q1⟩=>?_
 refine aL (hb pins s1 σ H1 _ I1 q1) λu s2 ⟨y,H2,I2,r2,q2⟩=>?_
 exact hf v u s2 x y H2 I2 r1 r2 q2
theorem aQ {op:Operator}{r:R2}(ho:cP X (binaryOp op) r)(ha:PE X a ta)(hb:PE X b tb):PE X (.BinOp a op b pos) (bD r ta tb):=by
 intro pins s σ H Q I h
 exact wpAny_BinOp (vo ha hb I h λv u s2 x y H2 I2 rx ry q=>ho pins s2 σ H2 x y v u Q I2 rx ry q)
theorem rJ {f:Value->Value->Sem Value}{C:Int->Int->Prop}{g:Int->Int->Int}
 (rule:∀(i j:Int) (t u:Tok) (s:Shared) (Q:Value->Shared->Prop) (E:Value->Shared->Prop),C i j->Q (.int (g i j) s.toks) { s with toks:=s.toks+1 }->wpAny (model X.prog X.w) X.A (f (.int i t) (.int j u)) Q E s):
 cP X f (rI C λi j=>.int (g i j)):=by
 intro pins s σ H x y v u Q I rx ry h
 obtain⟨i,j,rfl,rfl,hc,q⟩:=h
 obtain⟨t,rfl⟩:=rx
 obtain⟨t',rfl⟩:=ry
 exact rule i j t t' s _ _ hc ⟨.int (g i j),H,I.tok _,⟨_,rfl⟩,q⟩
theorem Gd {f:Value->Value->Sem Value}{g:Int->Int->Int}
 (rule:∀(i j:Int) (t u:Tok) (s:Shared) (Q:Value->Shared->Prop) (E:Value->Shared->Prop),Q (.int (g i j) s.toks) { s with toks:=s.toks+1 }->wpAny (model X.prog X.w) X.A (f (.int i t) (.int j u)) Q E s):
 cP X f (nG λi j=>.int (g i j)):=by
 intro pins s σ H x y v u Q I rx ry h
 obtain⟨i,j,rfl,rfl,q⟩:=h
 obtain⟨t,rfl⟩:=rx
 obtain⟨t',rfl⟩:=ry
 exact rule i j t t' s _ _ ⟨.int (g i j),H,I.tok _,⟨_,rfl⟩,q⟩
theorem Ge {f:Value->Value->Sem Value}{g:Int->Int->Bool}
 (rule:∀(i j:Int) (t u:Tok) (s:Shared) (Q:Value->Shared->Prop) (E:Value->Shared->Prop),Q (.bool (g i j)) s->wpAny (model X.prog X.w) X.A (f (.int i t) (.int j u)) Q E s):
 cP X f (nG λi j=>.bl (g i j)):=by
 intro pins s σ H x y v u Q I rx ry h
 obtain⟨i,j,rfl,rfl,q⟩:=h
 obtain⟨t,rfl⟩:=rx
 obtain⟨t',rfl⟩:=ry
 exact rule i j t t' s _ _ ⟨.bl (g i j),H,I,rfl,q⟩
noncomputable def Gf (i j:Int):Prop:=0<j/\j<1073741824
noncomputable def vp (i j:Int):Prop:=0<=j/\j<=1000000/\i.natAbs<2 ^ 64
noncomputable def vq (i j:Int):Prop:=(-(2 ^ 64)<i/\i<2 ^ 64)\/(-(2 ^ 64)<j/\j<2 ^ 64)
theorem vq.ok {i j:Int}(h:vq i j):IntMulOk i j:=by
 rcases h with⟨h1,h2⟩|⟨h1,h2⟩
 . exact .of_left (intBits_le_64 h1 h2)
 . exact .of_right (intBits_le_64 h1 h2)
theorem jq:cP X (binaryOp .Add) (nG λi j=>.int (i+j)):=Gd λ_ _ _ _ _ _ _ q=>add_int q
theorem vA:cP X (binaryOp .Sub) (nG λi j=>.int (i - j)):=Gd λ_ _ _ _ _ _ _ q=>sub_int q
theorem jc:cP X (binaryOp .Mult) (rI vq λi j=>.int (i * j)):=rJ λ_ _ _ _ _ _ _ hc q=>mul_int q hc.ok
theorem jr:cP X (binaryOp .FloorDiv) (rI Gf λi j=>.int (i / j)):=rJ λi j _ _ _ _ _ hc q=>by
 have h1:(0:Int)<j:=hc.1
 have h2:j<1073741824:=hc.2
 exact floordiv_int (by omega) (by rw[Int.fdiv_eq_ediv_of_nonneg i (by omega)];exact q) (.inl (PyProof.noPylong_small (by omega)))
theorem cM:cP X (binaryOp .Mod) (rI (λ_ j=>0<j) λi j=>.int (i % j)):=rJ λi j _ _ _ _ _ hc q=>by
 have h1:(0:Int)<j:=hc
 exact mod_int' (by omega) (by rw[Int.fmod_eq_emod_of_nonneg i (by omega)];exact q)
theorem rK:cP X (binaryOp .Pow) (rI vp λi j=>.int (i ^ j.toNat)):=rJ λ_ _ _ _ _ _ _ hc q=>pow_int_small hc.1 hc.2.1 hc.2.2 q
end
noncomputable def iz:V->V->Bool
 | .non,.non=>true| .non,.int _=>true| .int _,.non=>true| .non,.bl _=>true| .bl _,.non=>true| .non,.str _=>true| .str _,.non=>true
 | .int _,.int _=>true| .bl _,.bl _=>true| .str _,.str _=>true| .gC _,.gC _=>true
 | .int _,.str _=>true| .str _,.int _=>true| .bl _,.str _=>true| .str _,.bl _=>true
 |_,_=>false
noncomputable def nH:R2:=λx y H Q=>iz x y=true/\Q (.bl (decide (x=y))) H
noncomputable def U8:R2:=λx y H Q=>iz x y=true/\Q (.bl (!decide (x=y))) H
theorem Gg {i j:Int}:decide (V.int i=V.int j)=(i == j):=by
 rw[Bool.eq_iff_iff]
 simp
theorem Gh {i j:Bool}:decide (V.bl i=V.bl j)=(i == j):=by
 rw[Bool.eq_iff_iff]
 simp
theorem Gi {i j:Str}:decide (V.str i=V.str j)=(i == j):=by
 rw[Bool.eq_iff_iff]
 simp
theorem Gj {i j:Array UInt8}:decide (V.gC i=V.gC j)=(i.toList == j.toList):=by
 rw[Bool.eq_iff_iff]
 cases i
 cases j
 simp
section
variable {X:Cx}{a b c:Expr}{ta tb tc:TE}{pos:Pos}
theorem cA {pins:List (Addr × Obj)}{σ:St}{H:Hp}{s:Shared}{Q:VK}{k k':Bool}(I:Inv X pins σ H s)(q:Q (.bl k) H)(e:k=k'):EP X pins σ Q (.bool k') s:=by
 subst e
 exact⟨.bl k,H,I,rfl,q⟩
theorem bK:cP X (compareOp .Eq) nH:=by
 intro pins s σ H x y v u Q I rx ry h
 obtain⟨hs,q⟩:=h
 cases x with
 |non=>
  cases rx
  cases y with
  |non=>cases ry;exact PySem.EqNone.eq_none_none (cA I q (by simp))
  |bl j=>cases ry;exact PySem.EqNone.eq_none_bool (cA I q (by simp))
  |int j=>obtain⟨t',rfl⟩:=ry;exact PySem.EqNone.eq_none_int (cA I q (by simp))
  |str j=>obtain⟨t',rfl⟩:=ry;exact PySem.EqNone.eq_none_str (cA I q (by simp))
  |_=>exact absurd (show false=true from hs) Bool.false_ne_true
 |bl i=>
  cases rx
  cases y with
  |non=>cases ry;exact PySem.EqNone.eq_bool_none (cA I q (by simp))
  |bl j=>cases ry;exact eq_bool (cA I q Gh)
  |str j=>obtain⟨t',rfl⟩:=ry;exact PySem.EqMixed.eq_bool_str (cA I q (by simp))
  |_=>exact absurd (show false=true from hs) Bool.false_ne_true
 |int i=>
  obtain⟨t,rfl⟩:=rx
  cases y with
  |non=>cases ry;exact PySem.EqNone.eq_int_none (cA I q (by simp))
  |int j=>obtain⟨t',rfl⟩:=ry;exact eq_int (cA I q Gg)
  |str j=>obtain⟨t',rfl⟩:=ry;exact PySem.EqMixed.eq_int_str (cA I q (by simp))
  |_=>exact absurd (show false=true from hs) Bool.false_ne_true
 |str i=>
  obtain⟨t,rfl⟩:=rx
  cases y with
  |non=>cases ry;exact PySem.EqNone.eq_str_none (cA I q (by simp))
  |bl j=>cases ry;exact PySem.EqMixed.eq_str_bool (cA I q (by simp))
  |int j=>obtain⟨t',rfl⟩:=ry;exact PySem.EqMixed.eq_str_int (cA I q (by simp))
  |str j=>obtain⟨t',rfl⟩:=ry;exact eq_str (cA I q Gi)
  |_=>exact absurd (show false=true from hs) Bool.false_ne_true
 |gC i=>
  obtain⟨t,rfl⟩:=rx
  cases y with
  |gC j=>obtain⟨t',rfl⟩:=ry;exact W.eq_bytes (cA I q Gj)
  |_=>exact absurd (show false=true from hs) Bool.false_ne_true
 |_=>cases y <;> exact absurd (show false=true from hs) Bool.false_ne_true
theorem lO:cP X (compareOp .NotEq) U8:=by
 intro pins s σ H x y v u Q I rx ry h
 obtain⟨hs,q⟩:=h
 cases x with
 |non=>
  cases rx
  cases y with
  |non=>cases ry;exact PySem.EqNone.ne_none_none (cA I q (by simp))
  |bl j=>cases ry;exact PySem.EqNone.ne_none_bool (cA I q (by simp))
  |int j=>obtain⟨t',rfl⟩:=ry;exact PySem.EqNone.ne_none_int (cA I q (by simp))
  |str j=>obtain⟨t',rfl⟩:=ry;exact PySem.EqNone.ne_none_str (cA I q (by simp))
  |_=>exact absurd (show false=true from hs) Bool.false_ne_true
 |bl i=>
  cases rx
  cases y with
  |non=>cases ry;exact PySem.EqNone.ne_bool_none (cA I q (by simp))
  |bl j=>cases ry;exact ne_bool (cA I q (congrArg not Gh))
  |str j=>obtain⟨t',rfl⟩:=ry;exact PySem.EqMixed.ne_bool_str (cA I q (by simp))
  |_=>exact absurd (show false=true from hs) Bool.false_ne_true
 |int i=>
  obtain⟨t,rfl⟩:=rx
  cases y with
  |non=>cases ry;exact PySem.EqNone.ne_int_none (cA I q (by simp))
  |int j=>obtain⟨t',rfl⟩:=ry;exact ne_int (cA I q (congrArg not Gg))
  |str j=>obtain⟨t',rfl⟩:=ry;exact PySem.EqMixed.ne_int_str (cA I q (by simp))
  |_=>exact absurd (show false=true from hs) Bool.false_ne_true
 |str i=>
  obtain⟨t,rfl⟩:=rx
  cases y with
  |non=>cases ry;exact PySem.EqNone.ne_str_none (cA I q (by simp))
  |bl j=>cases ry;exact PySem.EqMixed.ne_str_bool (cA I q (by simp))
  |int j=>obtain⟨t',rfl⟩:=ry;exact PySem.EqMixed.ne_str_int (cA I q (by simp))
  |str j=>obtain⟨t',rfl⟩:=ry;exact ne_str (cA I q (congrArg not Gi))
  |_=>exact absurd (show false=true from hs) Bool.false_ne_true
 |gC i=>
  obtain⟨t,rfl⟩:=rx
  cases y with
  |gC j=>obtain⟨t',rfl⟩:=ry;exact W.ne_bytes (cA I q (congrArg not Gj))
  |_=>exact absurd (show false=true from hs) Bool.false_ne_true
 |_=>cases y <;> exact absurd (show false=true from hs) Bool.false_ne_true
theorem U9:cP X (compareOp .LtE) (nG λi j=>.bl (decide (i<=j))):=Ge λ_ _ _ _ _ _ _ q=>le_int q
theorem rM:cP X (compareOp .Gt) (nG λi j=>.bl (decide (j<i))):=Ge λ_ _ _ _ _ _ _ q=>gt_int q
theorem rN:cP X (compareOp .Is) (λx y H Q=>y=.non/\Q (.bl (decide (x=.non))) H):=by
 intro pins s σ H x y v u Q I rx ry h
 obtain⟨rfl,q⟩:=h
 cases ry
 refine is_none_gen (cA I q ?_)
 cases x <;> first
  |(cases rx;rfl)
  |(obtain⟨t,rfl⟩:=rx;rfl)
theorem vB:cP X (compareOp .IsNot) (λx y H Q=>y=.non/\Q (.bl (!decide (x=.non))) H):=by
 intro pins s σ H x y v u Q I rx ry h
 obtain⟨rfl,q⟩:=h
 cases ry
 refine isnot_none_gen (cA I q ?_)
 cases x <;> first
  |(cases rx;rfl)
  |(obtain⟨t,rfl⟩:=rx;rfl)
theorem aX (b:Expr){op:CmpOp}(h:op≠ .In:=by decide)(h2:op≠ .NotIn:=by decide):behindInMarks op b=false:=by
 have e1:(op == CmpOp.In)=false:=by cases op <;> first|rfl|exact absurd rfl h
 have e2:(op == CmpOp.NotIn)=false:=by cases op <;> first|rfl|exact absurd rfl h2
 cases b <;> simp[behindInMarks,e1,e2]
theorem iB {op:CmpOp}{r:R2}(ho:cP X (compareOp op) r)(ha:PE X a ta)(hb:PE X b tb)(hm:behindInMarks op b=false):PE X (.Compare a [op] [b] pos) (bD r ta tb):=by
 intro pins s σ H Q I h
 exact wpAny_Compare1 (vo ha hb I h λv u s2 x y H2 I2 rx ry q=>ho pins s2 σ H2 x y v u Q I2 rx ry q) hm
noncomputable def jd (t:TE):TT:=λσ H Q=>t σ H λx H'=>∃k,x=.bl k/\Q k H'
theorem bx {op:CmpOp}{r:R2}(ho:cP X (compareOp op) r)(ha:PE X a ta)(hb:PE X b tb)(hm:behindInMarks op b=false):PT X (.Compare a [op] [b] pos) (jd (bD r ta tb)):=by
 intro pins s σ H Q I h
 refine wpAny_isTrue_Compare1 (aL (ha pins s σ H _ I h) λv s1 ⟨x,H1,I1,r1,q1⟩=>aL (hb pins s1 σ H1 _ I1 q1) λu s2 ⟨y,H2,I2,r2,q2⟩=>
  aL (ho pins s2 σ H2 x y v u _ I2 r1 r2 q2) λc s3 ⟨z,H3,I3,r3,k,e,q3⟩=>?_) hm
 subst e
 cases r3
 exact wpAny_truthy_bool ⟨H3,I3,q3⟩
theorem nJ:(sizeLine:Nat)<2 ^ 63:=by rw[sizeLine_eq];decide
theorem vC:cP X (binaryOp .Add) (λx y H Q=>∃i j,x=.str i/\y=.str j/\i.length+j.length<=sizeLine/\Q (.str (i++j)) H):=by
 intro pins s σ H x y v u Q I rx ry h
 obtain⟨i,j,rfl,rfl,hz,q⟩:=h
 obtain⟨t,rfl⟩:=rx
 obtain⟨t',rfl⟩:=ry
 exact add_str (λt' tk=>⟨.str (i++j),H,I.tok _,⟨_,rfl⟩,q⟩) hz
theorem vals1 {x:V}{us:List Value}(r:Vals [x] us):∃u,us=[u]/\RelV x u:=by
 cases r with
 |cons r1 r2=>cases r2;exact⟨_,rfl,r1⟩
theorem vals2 {x y:V}{us:List Value}(r:Vals [x,y] us):∃u w',us=[u,w']/\RelV x u/\RelV y w':=by
 cases r with
 |cons r1 r2=>
  cases r2 with
  |cons r3 r4=>cases r4;exact⟨_,_,rfl,r1,r3⟩
end
structure lQ (h:Heap) (x dx C:Addr) (mA:Str->Option Value):Prop where
 obj:h.get? x=some (W.instObj C dx)
 ns:h.Ns1 dx mA
 ne:dx≠x
theorem U_ {h:Heap}{dx:Addr}{mA:Str->Option Value}(n:h.Ns1 dx mA):∃od,h.get? dx=some od/\∀name,W.lookIn name od=some (mA name):=by
 obtain⟨o,es,ep,ho,hd,hk,_,hm⟩:=n
 refine⟨o,ho,λname=>?_⟩
 have e:=hm name
 unfold nsFind findBy at e
 rw[<-Array.find?_toList] at e
 unfold W.lookIn
 rw[hd]
 dsimp only
 split
 . rename_i y q
   rw[q] at e
   exact congrArg some e
 . rename_i q
   rw[q] at e
   have a:es.toList.any (·.refKey)=false:=by
    rw[List.any_eq_false]
    intro y hy
    obtain⟨z,t,hkey⟩:=hk y (Array.mem_toList_iff.mp hy)
    simp[DictEntry.refKey,hkey]
   have a':¬es.toList.any (·.refKey)=true:=by rw[a];exact Bool.false_ne_true
   rw[if_neg a']
   exact congrArg some e
theorem lQ.look {h:Heap}{x dx C:Addr}{mA:Str->Option Value}(I:lQ h x dx C mA):∃od,W.InstAt h x (W.instObj C dx) C (some od)/\∀name,W.lookIn name od=some (mA name):=
 let⟨od,ho,hl⟩:=U_ I.ns
 ⟨od,⟨I.obj,rfl,rfl,ho⟩,hl⟩
section
variable {prog:Program}{w:World}{A:Around}{E:Value->Shared->Prop}{s:Shared}{K:W.Frag}{x dx C f:Addr}{mA:Str->Option Value}{name:Str}{v:Value}
theorem get_map {expr:Bool}{Q:Value->Shared->Prop}(X:K.In s.heap)(I:lQ s.heap x dx C mA)(hg:W.plainGet K C name=true)(hh:W.hasDictIn K C=true)
 (ha:W.findIn K (.ref C) name=some none) (hv:mA name=some v) (hv':W.handedIn v=true) (h:Q v { s with toks:=s.toks+1 }):
 wpAny (model prog w) A (getAttr (.ref x) name expr) Q E s:=by
 obtain⟨od,J,hl⟩:=I.look
 exact W.get_value X J (W.plainGet_of hg).1 (W.findObj_own hh ha rfl (by rw[hl,hv])) hv' h
theorem Va {pl:Sem Bool}{Q:Value × List Value->Shared->Prop}(X:K.In s.heap)(I:lQ s.heap x dx C mA)(hg:W.plainGet K C name=true)
 (hf:W.findIn K (.ref C) name=some (some (.ref f))) (ht:W.isFn K (.ref f)=true) (hv:mA name=none) (h:Q (.ref f,[.ref x]) s):
 wpAny (model prog w) A (getMethod (.ref x) name pl) Q E s:=by
 obtain⟨od,J,hl⟩:=I.look
 exact W.method_fn X J (W.plainGet_of hg).1 (W.plainGet_of hg).2 hf (beq_iff_eq.mp ht) (by show(W.lookIn name od).map (·.isSome)=some false;rw[hl,hv];rfl) h
theorem Vb {ns:List Str}{Q:Unit->Shared->Prop}(X:K.In s.heap)(I:lQ s.heap x dx C mA)
 (hs:W.findIn K (.ref C) "__setattr__"=some (some (.builtin "object.__setattr__"))) (hp:W.plainOver K C=true) (ht:W.takerIn K C name=some none) (hh:W.hasDictIn K C=true)
 (hw:PySem.Within mA ns) (hsz:ns.length<=sizeLine)
 (h:∀h',lQ h' x dx C (λy=>if y=name then some v else mA y)->Heap.SameBut dx s.heap h'->Q () { s with heap:=h',toks:=s.toks+2 }):
 wpAny (model prog w) A (setAttr (.ref x) name v) Q E s:=by
 obtain⟨od,J,hl⟩:=I.look
 refine W.set_plain X J hs (W.osa_open (s:={ s with toks:=s.toks+1 }) (r:=none) X J hp ht λb=>?_)
 obtain⟨cd,hc,hd'⟩:=W.any_some hh
 have hx:s.heap.get? x=some ⟨.ref C,some dx,.plain,#[]⟩:=I.obj
 refine wpAny_bind (wpAny_pure (wpAny_bind (wpAny_bind (wpAny_loadPart hx (wpAny_bind (W.Looks.here (s:={ s with toks:=s.toks+1 }) (W.looks_clsIn X hc) ?_))))))
 rw[hd']
 refine wpAny_pure (a:=some dx) (wpAny_bind (wpAny_pure (wpAny_bind ?_)))
 refine wpAny_nsSet1 (s:={ s with toks:=s.toks+1 }) I.ns λh' hn2 hs2=>?_
 obtain⟨oD,esD,epD,hoD,hdD,hcD⟩:=hn2.count (PySem.Within.cons name v hw)
 refine wpAny_bind (wpAny_lookBehind hoD (by rw[hdD];exact pastItsLine_dict (Nat.le_trans hcD (by rw[List.length_cons];omega))) ?_)
 exact wpAny_pure (h _ ⟨(hs2.2 _ (Ne.symm I.ne)).trans I.obj,hn2,I.ne⟩ hs2)
theorem Vc {R:Result->Shared->Prop}{vs:List Value}{kw:List (Str × Value)}(X:K.In s.heap)(hm:W.makesIn K C=true)
 (hi:W.findIn K (.ref C) "__init__"=some (some (.ref f))) (hf:W.typeIn K (.ref f)=some (.type "function"))
 (h:codeAny (model prog w) (A.under (.builtin "type.__call__" ⟨.ref C::vs,kw⟩)) (.call (.ref f) ⟨.ref (s.heap.objs.size+1)::vs,kw⟩) (W.InitBack (s.heap.objs.size+1) R)
   { s with heap:=(s.heap.push W.emptyDict).push (W.instObj C s.heap.objs.size) }):
 codeAny (model prog w) A (.call (.ref C) ⟨vs,kw⟩) R s:=by
 obtain⟨hh,g,d,t,os⟩:=s
 exact W.make_core (W.makes_of X hm) (W.looks_findIn X hi) (λself=>W.bind_fn X self hf) (.inl rfl) h
end
noncomputable def dR (f:Str) (v:V):List (Str × V)->List (Str × V)
 |[]=>[(f,v)]
 |(g,x)::r=>if g=f then(g,v)::r else(g,x)::dR f v r
theorem Gk (f g:Str)(v:V):∀fs:List (Str × V),(dR f v fs).lookup g=if g=f then some v else fs.lookup g
 |[]=>by
  show List.lookup g [(f,v)]=_
  by_cases h:g=f
  . have hb:(g == f)=true:=beq_iff_eq.mpr h
    simp only[List.lookup,hb,if_pos h]
  . have hb:(g == f)=false:=beq_eq_false_iff_ne.mpr h
    simp only[List.lookup,hb,if_neg h]
 |(k,x)::r=>by
  have ih:=Gk f g v r
  rw[show dR f v ((k,x)::r)=(if k=f then(k,v)::r else(k,x)::dR f v r) from rfl]
  by_cases hk:k=f
  . rw[if_pos hk]
    by_cases h:g=k
    . have hb:(g == k)=true:=beq_iff_eq.mpr h
      simp only[List.lookup,hb,if_pos (h.trans hk)]
    . have hb:(g == k)=false:=beq_eq_false_iff_ne.mpr h
      simp only[List.lookup,hb,if_neg (λe:g=f=>h (e.trans hk.symm))]
  . rw[if_neg hk]
    by_cases h:g=k
    . have hb:(g == k)=true:=beq_iff_eq.mpr h
      simp only[List.lookup,hb,if_neg (λe:g=f=>hk (h.symm.trans e))]
    . have hb:(g == k)=false:=beq_eq_false_iff_ne.mpr h
      simp only[List.lookup,hb]
      exact ih
theorem vD (f:Str)(v:V):∀fs:List (Str × V),f∈(dR f v fs).map (·.1)/\∀g,g∈fs.map (·.1)->g∈(dR f v fs).map (·.1)
 |[]=>⟨by simp[dR],λg h=>by simp at h⟩
 |(k,x)::r=>by
  obtain⟨i1,i2⟩:=vD f v r
  rw[show dR f v ((k,x)::r)=(if k=f then(k,v)::r else(k,x)::dR f v r) from rfl]
  by_cases hk:k=f
  . rw[if_pos hk]
    subst hk
    exact⟨by simp,λg h=>by simpa using h⟩
  . rw[if_neg hk]
    refine⟨?_,λg h=>?_⟩
    . rw[List.map_cons]
      exact List.mem_cons_of_mem _ i1
    . rw[List.map_cons] at h ⊢
      rcases List.mem_cons.mp h with e|e
      . exact List.mem_cons.mpr (.inl e)
      . exact List.mem_cons_of_mem _ (i2 g e)
theorem Gm (f:Str)(v:V):∀fs:List (Str × V),(dR f v fs).length<=fs.length+1
 |[]=>by simp[dR]
 |(k,x)::r=>by
  have ih:=Gm f v r
  rw[show dR f v ((k,x)::r)=(if k=f then(k,v)::r else(k,x)::dR f v r) from rfl]
  by_cases hk:k=f
  . rw[if_pos hk,List.length_cons,List.length_cons];omega
  . rw[if_neg hk,List.length_cons,List.length_cons];omega
theorem dN.some_of {v:V}{o:Option Value}(r:dN (some v) o):∃u,o=some u/\RelV v u:=by
 cases o with
 |none=>exact(show False from r).elim
 |some u=>exact⟨u,rfl,r⟩
theorem dN.none_of {o:Option Value}(r:dN none o):o=none:=by
 cases o with
 |none=>rfl
 |some u=>exact(show False from r).elim
theorem Vd {v:V}{u:Value}(r:RelV v u):W.handedIn u=true:=by
 cases v with
 |non=>cases(show u=Value.none from r);rfl
 |bl b=>cases(show u=Value.bool b from r);rfl
 |int i=>obtain⟨t,e⟩:=(show ∃t,u=Value.int i t from r);cases e;rfl
 |str x=>obtain⟨t,e⟩:=(show ∃t,u=Value.str x t from r);cases e;rfl
 |gC b=>obtain⟨t,e⟩:=(show ∃t,u=Value.bytes b t from r);cases e;rfl
 |flt b=>obtain⟨t,e⟩:=(show ∃t,u=Value.float b t from r);cases e;rfl
 |ref a=>cases(show u=Value.ref a from r);rfl
 |ty n=>cases(show u=Value.type n from r);rfl
section
variable {P:Program}{w:World}{H H':Hp}{h h':Heap}{a C dx:Addr}{fs fs':List (Str × V)}
theorem rO (hok:cD P w H h)(e:H a=some (.ins C dx fs)):∃mA,lQ h a dx C mA/\(∀f,dN (fs.lookup f) (mA f))/\PySem.Within mA (fs.map (·.1))/\fs.length<=1000/\H dx=some (.own a):=by
 obtain⟨d,z,ne,ob,mA,n,r,q⟩:=(show cG P w H h a (.ins C dx fs) from hok a _ e)
 exact⟨mA,⟨ob,n,ne⟩,r,q,z,d⟩
end
structure Cls (K:W.Frag) (C:Addr):Prop where
 pg:W.plainGet K C Str.empty=true
 hd:W.hasDictIn K C=true
 po:W.plainOver K C=true
 sa:W.findIn K (.ref C) "__setattr__"=some (some (.builtin "object.__setattr__"))
theorem Cls.get {K:W.Frag}{C:Addr}(c:Cls K C)(f:Str):W.plainGet K C f=true:=c.pg
noncomputable def lR (K:W.Frag) (C:Addr) (f:Str):Prop:=W.findIn K (.ref C) f=some none
theorem lR.taker {K:W.Frag}{C:Addr}{f:Str}(n:lR K C f):W.takerIn K C f=some none:=by
 unfold W.takerIn
 rw[show W.findIn K (.ref C) f=some none from n]
 rfl
structure Meth (K:W.Frag) (C:Addr) (m:Str) (f:Addr):Prop where
 at_:W.findIn K (.ref C) m=some (some (.ref f))
 fn:W.isFn K (.ref f)=true
 kp:W.keepIn K (.ref f)=true
section
variable {X:Cx}{pins:List (Addr × Obj)}{σ:St}{H:Hp}{s:Shared}{a C dx:Addr}{fs:List (Str × V)}{f:Str}{v:V}{A:Around}{E:Value->Shared->Prop}
theorem Ve {b:Bool}{Q:Value->Shared->Prop}(I:Inv X pins σ H s)(e:H a=some (.ins C dx fs))(c:Cls X.K C)(n:lR X.K C f)(l:fs.lookup f=some v)
 (h:∀u s',Inv X pins σ H s'->RelV v u->Q u s'):wpAny (model X.prog X.w) A (getAttr (.ref a) f b) Q E s:=by
 obtain⟨mA,O,r,_,_,_⟩:=rO I.hok e
 obtain⟨u,hu,ru⟩:=dN.some_of (v:=v) (o:=mA f) (by rw[<-l];exact r f)
 exact get_map I.cT O (c.get f) c.hd n hu (Vd ru) (h u _ (I.tok _) ru)
theorem Vf {m:Str}{g:Addr}{pl:Sem Bool}{Q:Value × List Value->Shared->Prop}(I:Inv X pins σ H s)(e:H a=some (.ins C dx fs))(c:Cls X.K C)(k:Meth X.K C m g)(l:fs.lookup m=none)
 (h:Q (.ref g,[.ref a]) s):wpAny (model X.prog X.w) A (getMethod (.ref a) m pl) Q E s:=by
 obtain⟨mA,O,r,_,_,_⟩:=rO I.hok e
 have hn:mA m=none:=dN.none_of (by rw[<-l];exact r m)
 exact Va I.cT O (c.get m) k.at_ k.fn hn h
theorem Vg {y:V}{u:Value}{Q:Unit->Shared->Prop}(I:Inv X pins σ H s)(e:H a=some (.ins C dx fs))(c:Cls X.K C)(n:lR X.K C f)(hl:fs.length<1000)(ry:RelV y u)
 (h:∀s',Inv X pins σ (upd H a (.ins C dx (dR f y fs))) s'->Q () s'):wpAny (model X.prog X.w) A (setAttr (.ref a) f u) Q E s:=by
 obtain⟨mA,O,r,wi,_,ho⟩:=rO I.hok e
 have hz:(fs.map (·.1)).length<=sizeLine:=by rw[List.length_map,sizeLine_eq];omega
 refine Vb I.cT O c.sa c.po n.taker c.hd wi hz λh' O' sb=>h _ ?_
 have hd:∃o,h'.get? dx=some o:=let⟨o,_,_,e',_⟩:=O'.ns;⟨o,e'⟩
 refine I.write (x:=a) (e:=dx) (by rw[e];exact True.intro) (.inr ho) (λb q hb z=>(sb.2 b hb).trans z) hd ?_
 refine⟨by rw[aB O.ne];exact ho,?_,O.ne,O'.obj,_,O'.ns,λg=>?_,λg hg=>?_⟩
 . have:=Gm f y fs;omega
 . show dN ((dR f y fs).lookup g) (if g=f then some u else mA g)
   rw[Gk]
   by_cases q:g=f
   . rw[if_pos q,if_pos q];exact ry
   . rw[if_neg q,if_neg q];exact r g
 . by_cases q:g=f
   . rw[q];exact(vD f y fs).1
   . refine(vD f y fs).2 g (wi g λz=>hg ?_)
     show(if g=f then some u else mA g)=none
     rw[if_neg q];exact z
theorem Inv.made (I:Inv X pins σ H s):Inv X pins σ (upd (upd H s.heap.objs.size (.own (s.heap.objs.size+1))) (s.heap.objs.size+1) (.ins C s.heap.objs.size []))
 { s with heap:=(s.heap.push W.emptyDict).push (W.instObj C s.heap.objs.size) }:=by
 have e1:(s.heap.push W.emptyDict).get? s.heap.objs.size=some W.emptyDict:=Heap.get?_push_size s.heap rfl
 have e2:((s.heap.push W.emptyDict).push (W.instObj C s.heap.objs.size)).get? (s.heap.objs.size+1)=some (W.instObj C s.heap.objs.size):=by
  have:=Heap.get?_push_size (s.heap.push W.emptyDict) (o:=W.instObj C s.heap.objs.size) rfl
  rwa [Heap.size_push] at this
 have e3:(s.heap.push W.emptyDict).Ns s.heap.objs.size (λ_=>none):=⟨W.emptyDict,#[],_,e1,rfl,(λe he=>absurd he (by simp)),λ_=>rfl⟩
 have I1:=I.laid (a:=s.heap.objs.size) (o:=.own (s.heap.objs.size+1)) (h':=s.heap.push W.emptyDict) (t':=s.toks) (λb u q=>Heap.get?_push_of_some _ q) (Nat.le_refl _) ⟨_,e1⟩
 refine I1.laid (a:=s.heap.objs.size+1) (o:=.ins C s.heap.objs.size []) (t':=s.toks) (λb u q=>Heap.get?_push_of_some _ q) (Nat.le_of_eq (Heap.size_push _ _)) ?_
 have ne:s.heap.objs.size≠s.heap.objs.size+1:=Nat.ne_of_lt (Nat.lt_succ_self _)
 refine⟨by rw[aB ne,aK],Nat.zero_le _,ne,e2,λ_=>none,(Heap.Ns1.of_empty e3).at λo q=>Heap.get?_push_of_some _ q,λ_=>True.intro,λy hy=>absurd rfl hy⟩
theorem Vh {prog:Program}{w:World}{env:Env}{e:Expr}{f:Str}{pos:Pos}{s:Shared}{Q:Value->Shared->Prop}(hb:attributeBase e f env (eval e env)=eval e env)
 (h:wpAny (model prog w) A (eval e env) (λo s₁=>wpAny (model prog w) A (getAttr o f true) Q E s₁) E s):wpAny (model prog w) A (eval (.Attribute e f pos) env) Q E s:=
 Attribute_any_ h (by rw[arm_eval_Attribute,hb])
end
noncomputable def Vi (K:W.Frag) (ta:TE) (f:Str):TE:=λσ H Q=>ta σ H λx H1=>∃a C dx fs v,x=.ref a/\H1 a=some (.ins C dx fs)/\Cls K C/\lR K C f/\fs.lookup f=some v/\Q v H1
noncomputable def Vj (K:W.Frag) (ta tv:TE) (f:Str):TS:=λD σ H=>tv σ H λy H1=>ta σ H1 λx H2=>∃a C dx fs,x=.ref a/\H2 a=some (.ins C dx fs)/\Cls K C/\lR K C f/\fs.length<1000/\
 D.nx σ (upd H2 a (.ins C dx (dR f y fs)))
section
variable {X:Cx}{o e value:Expr}{f:Str}{pos pos' tpos:Pos}{ta tv:TE}
theorem vG (he:PE X e ta)(hb:attributeBase e f X.env (eval e X.env)=eval e X.env):PE X (.Attribute e f pos) (Vi X.K ta f):=by
 intro pins s σ H Q I h
 refine Vh hb (aL (he pins s σ H _ I h) λu s1 ⟨x,H1,I1,rx,a,C,dx,fs,v,ex,ea,c,n,l,q⟩=>?_)
 subst ex
 obtain rfl:u=Value.ref a:=rx
 exact Ve I1 ea c n l λu' s2 I2 ru=>⟨v,H1,I2,ru,q⟩
theorem Vk (ha:PE X o ta)(hv:PE X value tv)(hs:swapsWith value (some (.Attribute o f pos')) pos.line X.env=pure false):PS X (.Assign [.Attribute o f pos'] value pos) (Vj X.K ta tv f):=by
 intro pins s σ H D I h
 refine plainObj_wpAny_Assign_Attribute (aL (hv pins s σ H _ I h) λu s1 ⟨y,H1,I1,ry,q⟩=>aL (ha pins s1 σ H1 _ I1 q) λov s2 ⟨x,H2,I2,rx,a,C,dx,fs,ex,ea,c,n,l,q2⟩=>?_) hs
 subst ex
 obtain rfl:ov=Value.ref a:=rx
 exact Vg I2 ea c n l ry λs3 I3=>⟨σ,_,I3,q2⟩
end
section
variable {X:Cx}{pins:List (Addr × Obj)}{σ:St}{H:Hp}{s:Shared}{A:Around}{E:Value->Shared->Prop}{Q:Value->Shared->Prop}{c:Value}{b:Bool}
inductive fV (K:W.Frag) (H:Hp):V->Value->Prop where
 |non:fV K H .non (.type "NoneType")
 |bl (x:Bool):fV K H (.bl x) (.type "bool")
 |int (i:Int):fV K H (.int i) (.type "int")
 |str (x:Str):fV K H (.str x) (.type "str")
 |flt (x:UInt64):fV K H (.flt x) (.type "float")
 |lst {a:Addr} {xs:List V} (e:H a=some (.lst xs)):fV K H (.ref a) (.type "list")
 |cJ {a:Addr} {o:Obj} {xs:List V} (e:H a=some (.cJ o (.lst xs))):fV K H (.ref a) (.type "list")
 |tup {a:Addr} {xs:List V} (e:H a=some (.tup xs)):fV K H (.ref a) (.type "tuple")
 |dK {a:Addr} {kvs:List (Key × V)} (e:H a=some (.dK kvs)):fV K H (.ref a) (.type "dict")
 |dT {a:Addr} {kvs:List (List Key × V)} (e:H a=some (.dT kvs)):fV K H (.ref a) (.type "dict")
 |ins {a C dx:Addr} {fs:List (Str × V)} (e:H a=some (.ins C dx fs)) (cl:Cls K C) (ha:W.findIn K (.ref C) "__class__"=some (some (.builtin "object.__class__")))
   (hn:W.specialIn K (.builtin "object.__class__") "__get__"=some (some (.builtin "getset_descriptor.__get__"))) (htk:W.takesIn K (.builtin "object.__class__")=some true)
   (hm:W.mroIn K C (.type "object")=some true):fV K H (.ref a) (.ref C)
theorem Vl {x:V}{u t:Value}(I:Inv X pins σ H s)(rx:RelV x u)(ty:fV X.K H x t)(e:W.kitOne X.K t c=some b)(h:∀tk,Q (.bool b) { s with toks:=tk }):
 wpAny (model X.prog X.w) A (call (.builtin "isinstance") [u,c]) Q E s:=by
 cases ty with
 |non=>cases(show u=Value.none from rx);exact W.kia_one W.kitx_none I.cT True.intro e (λz=>nomatch z) h
 |bl y=>cases(show u=Value.bool y from rx);exact W.kia_one W.kitx_bool I.cT True.intro e (λz=>nomatch z) h
 |int i=>obtain⟨t,q⟩:=(show ∃t,u=Value.int i t from rx);cases q;exact W.kia_one W.kitx_int I.cT True.intro e (λz=>nomatch z) h
 |str y=>obtain⟨t,q⟩:=(show ∃t,u=Value.str y t from rx);cases q;exact W.kia_one W.kitx_str I.cT True.intro e (λz=>nomatch z) h
 |flt y=>obtain⟨t,q⟩:=(show ∃t,u=Value.float y t from rx);cases q;exact W.kia_one W.kitx_float I.cT True.intro e (λz=>nomatch z) h
 |@lst a xs ea=>
  cases(show u=Value.ref a from rx)
  obtain⟨_,_,n,_,h1⟩:=(show cG X.prog X.w H s.heap a (.lst xs) from I.hok a _ ea)
  exact W.kia_one W.kitx_list I.cT ⟨_,h1,rfl⟩ e (λz=>nomatch z) h
 |@cJ a ob xs ea=>
  cases(show u=Value.ref a from rx)
  obtain⟨_,_,_,n,_,h1⟩:=(show cG X.prog X.w H s.heap a (.cJ ob (.lst xs)) from I.hok a _ ea)
  exact W.kia_one W.kitx_list I.cT ⟨_,h1,rfl⟩ e (λz=>nomatch z) h
 |@tup a xs ea=>
  cases(show u=Value.ref a from rx)
  obtain⟨_,_,_,p⟩:=(show cG X.prog X.w H s.heap a (.tup xs) from I.hok a _ ea)
  obtain⟨o,h1,h2,_⟩:=p
  exact W.kia_one W.kitx_tuple I.cT ⟨o,h1,h2⟩ e (λz=>nomatch z) h
 |@dK a kvs ea=>
  cases(show u=Value.ref a from rx)
  obtain⟨_,_,vs,_,p⟩:=(show cG X.prog X.w H s.heap a (.dK kvs) from I.hok a _ ea)
  obtain⟨o,es,ep,h1,h2,_⟩:=p
  exact W.kia_one W.kitx_dict I.cT ⟨o,h1,h2.1⟩ e (λz=>nomatch z) h
 |@dT a kvs ea=>
  cases(show u=Value.ref a from rx)
  obtain⟨_,_,xs,_,o,es,ep,h1,h2,_⟩:=(show cG X.prog X.w H s.heap a (.dT kvs) from I.hok a _ ea)
  exact W.kia_one W.kitx_dict I.cT ⟨o,h1,h2.1⟩ e (λz=>nomatch z) h
 |@ins a C dx fs ea cl ha hn htk hm=>
  cases(show u=Value.ref a from rx)
  obtain⟨mA,O,_⟩:=rO I.hok ea
  obtain⟨od,J,_⟩:=O.look
  exact W.kia_one (W.kitx_own (cl.get _) cl.hd ha hn htk hm) I.cT J e (λz=>nomatch z) h
end
structure cN (k:Nat) (A:Around):Prop where
 hd:A.handled=none
 dp:A.depth+3 * k+5<recursionLimit
 un:A.units+16 * k+200<cLine
theorem cN.mono {j k:Nat}{A:Around}(r:cN k A)(h:j<=k):cN j A:=⟨r.hd,by have:=r.dp;omega,by have:=r.un;omega⟩
theorem cN.deeper {k:Nat}{A:Around}(r:cN (k+1) A)(env:Env):cN k (A.deeper env):=
 ⟨r.hd,by have:=r.dp;show A.depth+1+3 * k+5<_;omega,by have:=r.un;show A.units+3+16 * k+200<_;omega⟩
theorem Vm {A:Around}{C:Addr}{us:List Value}{kw:List (Str × Value)}:(A.under (.builtin "type.__call__" ⟨.ref C::us,kw⟩)).depth=A.depth+1:=by
 first|rfl|simp[Around.under,Code.weight,Code.isCreation,Code.isGuard,Code.isCaller,Code.frames,Code.isFrame,guardIds]
theorem Vn {A:Around}{C:Addr}{us:List Value}{kw:List (Str × Value)}:(A.under (.builtin "type.__call__" ⟨.ref C::us,kw⟩)).units=A.units+1:=by
 first|rfl|simp[Around.under,Code.cUnits,Code.frames,Code.isFrame]
theorem cN.make {k:Nat}{A:Around}(r:cN (k+1) A)(C:Addr)(us:List Value)(kw:List (Str × Value)):cN k (A.under (.builtin "type.__call__" ⟨.ref C::us,kw⟩)):=
 ⟨r.hd,by have:=r.dp;rw[Vm];omega,by have:=r.un;rw[Vn];omega⟩
theorem cN.depth {k:Nat}{A:Around}(r:cN k A):A.depth<recursionLimit:=by have:=r.dp;omega
theorem cN.units {k:Nat}{A:Around}(r:cN k A):A.units+64<cLine:=by have:=r.un;omega
noncomputable def fu:TA:=λ_ H Q=>Q [] H
noncomputable def bY (ta:TE) (tr:TA):TA:=λσ H Q=>ta σ H λx H1=>tr σ H1 λxs H2=>Q (x::xs) H2
section
variable {X:Cx}{e:Expr}{es:List Expr}{te:TE}{t:TA}{pos:Pos}
theorem ak:PA X [] fu:=λ_ _ _ _ H Q I h=>Calls.spliced_nil ⟨[],H,I,.nil,h⟩
theorem aj (ha:PE X e te)(hr:PA X es t)(hs:starEach (e::es) X.env=(false,eval e X.env)::starEach es X.env:=by rfl):PA X (e::es) (bY te t):=by
 intro pos pins s σ H Q I h
 rw[hs]
 show wpAny _ _ (spliced ((false,eval e X.env)::backTo pos (starEach es X.env))) _ _ s
 refine Calls.spliced_cons (aL (ha pins s σ H _ I h) λu s1 ⟨x,H1,I1,r1,q1⟩=>?_)
 exact aL (hr pos pins s1 σ H1 _ I1 q1) λus s2 ⟨xs,H2,I2,r2,q2⟩=>⟨x::xs,H2,I2,.cons r1 r2,q2⟩
noncomputable def pF (t:TA):TE:=λσ H Q=>t σ H λxs H1=>xs.length<=sizeLine/\∀p,H1 p=none->Q (.ref p) (upd H1 p (.tup xs))
noncomputable def Gn (t:TA):TE:=λσ H Q=>t σ H λxs H1=>xs.length<=sizeLine/\∀p,H1 p=none->Q (.ref p) (upd H1 p (.lst xs))
theorem dU {x1}(h:PA X es t):PE X (.Tuple es x1 pos) (pF t):=by
 intro pins s σ H Q I hq
 refine wpAny_Tuple_spliced (aL (h pos pins s σ H _ I hq) λus s1 ⟨xs,H1,I1,r,z,q⟩=>⟨by rw[<-r.length];exact z,?_⟩)
 have hf:H1 s1.heap.objs.size=none:=I1.hok.fresh (Nat.le_refl _)
 refine⟨.ref s1.heap.objs.size,upd H1 s1.heap.objs.size (.tup xs),I1.laid (t':=s1.toks) (λb u e=>Heap.get?_push_of_some _ e) (Nat.le_refl _) ?_,rfl,q _ hf⟩
 exact⟨z,us,r,⟨_,Heap.get?_push_size _ rfl,rfl,_,rfl⟩⟩
theorem fC (h:PA X es t):PE X (.List es pos) (Gn t):=by
 intro pins s σ H Q I hq
 refine wpAny_List_spliced (aL (h pos pins s σ H _ I hq) λus s1 ⟨xs,H1,I1,r,z,q⟩=>⟨by rw[<-r.length];exact z,?_⟩)
 have hf:H1 s1.heap.objs.size=none:=I1.hok.fresh (Nat.le_refl _)
 refine⟨.ref s1.heap.objs.size,upd H1 s1.heap.objs.size (.lst xs),I1.laid (t':=s1.toks) (λb u e=>Heap.get?_push_of_some _ e) (Nat.le_refl _) ?_,rfl,q _ hf⟩
 exact⟨z,us,0,r,Heap.get?_push_size _ rfl⟩
end
noncomputable abbrev Sp:=List V->Hp->VK->XK->Prop
noncomputable abbrev iC:=List Env->Hp->Shared->XK->Value->Shared->Prop
structure lU (P:Program) (w:World) (K:W.Frag) (mg:Str->Option Value) (base:Heap) (A:Around) (outer:List Env) (s:Shared) (H:Hp):Prop where
 frames:A.frames=some outer
 mod:Mod K mg base
 bs:∀b o,base.get? b=some o->s.heap.get? b=some o/\H b=none
 gF:base.objs.size<=s.heap.objs.size
 eY:s.heap.FunFrames base outer
 jl:∀b∈frs outer,H b=none
 hok:cD P w H s.heap
 bare:AllBare s.gens
noncomputable def CE (outer:List Env) (P:Program) (w:World) (H:Hp) (s:Shared) (Q:VK) (u:Value) (s':Shared):Prop:=
 ∃v H',s'.os=s.os/\AllBare s'.gens/\Un (frs outer) [] H H' s.heap s'.heap/\cD P w H' s'.heap/\RelV v u/\Q v H'
noncomputable def CR (CX:iC) (outer:List Env) (P:Program) (w:World) (H:Hp) (s:Shared) (Q:VK) (E:XK) (r:Result) (s':Shared):Prop:=
 match r with
 | .ok (.ret u)=>CE outer P w H s Q u s'
 | .ok _=>False
 | .error e=>CX outer H s E e s'
structure aC (P:Program) (w:World) (K:W.Frag) (mg:Str->Option Value) (base:Heap) (CX:iC) (k:Nat) (f:Addr) (fd:FuncData) (ps:List Str) (sp:Sp):Prop where
 len:∀vs H Q E,sp vs H Q E->vs.length=ps.length
 run:∀(A:Around) (outer:List Env) (s:Shared) (H:Hp) (args:Args) (us:List Value) (vs:List V) (Q:VK) (E:XK),cN k A->lU P w K mg base A outer s H->BindsTo s fd args (ps.zip us)->Vals vs us->sp vs H Q E->
  codeAny (model P w) A (.call (.ref f) args) (CR CX outer P w H s Q E) s
theorem aC.imp {P:Program}{w:World}{K:W.Frag}{mg:Str->Option Value}{base:Heap}{CX:iC}{k:Nat}{f:Addr}{fd:FuncData}{ps:List Str}{sp Gp:Sp}(F:aC P w K mg base CX k f fd ps sp)
 (h:∀vs H Q E,Gp vs H Q E->sp vs H Q E):aC P w K mg base CX k f fd ps Gp:=
 ⟨λvs H Q E q=>F.len vs H Q E (h _ _ _ _ q),λA outer s H args us vs Q E hr he hb hv hs=>F.run A outer s H args us vs Q E hr he hb hv (h _ _ _ _ hs)⟩
theorem lU.make {P:Program}{w:World}{K:W.Frag}{mg:Str->Option Value}{base:Heap}{A:Around}{outer:List Env}{s:Shared}{H:Hp}(e:lU P w K mg base A outer s H)(C:Addr)(us:List Value)(kw:List (Str × Value)):
 lU P w K mg base (A.under (.builtin "type.__call__" ⟨.ref C::us,kw⟩)) outer s H:=⟨by first|exact e.frames|(simpa[Around.under,Code.envs,Code.isFrame,pushEnvs] using e.frames),e.mod,e.bs,e.gF,e.eY,e.jl,e.hok,e.bare⟩
section
variable {X:Cx}{pins:List (Addr × Obj)}{σ:St}{H:Hp}{s s':Shared}
theorem Inv.env0 (I:Inv X pins σ H s):lU X.prog X.w X.K X.mg X.base X.A X.stack s H:=
 ⟨I.ok.frames,I.ok.mod,I.bs,Nat.le_trans I.ok.gF I.sz,I.stack,I.u6,I.hok,I.bare⟩
theorem Inv.after {Q:VK}{u:Value}(I:Inv X pins σ H s)(h:CE X.stack X.prog X.w H s Q u s'):EP X pins σ Q u s':=by
 obtain⟨v,H',os,bare,un,hok,r,q⟩:=h
 obtain⟨hh,g,d,t,os'⟩:=s'
 obtain rfl:os'=s.os:=os
 exact⟨v,H',I.call (h':=hh) (g':=g) (d':=d) (t':=t) (ch:=[]) un hok bare (λb z=>absurd z (by simp)),r,q⟩
end
noncomputable def lV (sp:Sp) (dg:List V) (E:XK) (t:TA):TE:=λσ H Q=>t σ H λvs H1=>sp (vs++dg) H1 Q E
noncomputable def Vo (C:Addr) (m:Str) (sp:Sp) (dg:List V) (E:XK) (ta:TE) (t:TA):TE:=λσ H Q=>ta σ H λx H1=>∃a dx fs,x=.ref a/\H1 a=some (.ins C dx fs)/\fs.lookup m=none/\
 t σ H1 λvs H2=>sp (x::(vs++dg)) H2 Q E
noncomputable def Vp (C:Addr) (sp:Sp) (dg:List V) (E:XK) (t:TA):TE:=λσ H Q=>t σ H λvs H1=>∀x dx,H1 x=none->H1 dx=none->dx≠x->
 sp (.ref x::(vs++dg)) (upd (upd H1 dx (.own x)) x (.ins C dx [])) (λv H2=>v=.non/\Q (.ref x) H2) E
noncomputable def Binds (K:W.Frag) (fd:FuncData) (ps:List Str) (ds:List Value):Prop:=
 ∀(s:Shared) (us:List Value),K.In s.heap->(us++ds).length=ps.length->BindsTo s fd ⟨us,[]⟩ (ps.zip (us++ds))
theorem Binds.all {K:W.Frag}{fd:FuncData}{ps:List Str}(h:∀us:List Value,us.length=ps.length->bindArgs fd ⟨us,[]⟩=pure (ps.zip us)):Binds K fd ps []:=λs us _ hl=>by
 rw[List.append_nil] at hl ⊢
 exact .of_eq (h us hl)
noncomputable def Passes (CX:iC) (X:Cx) (E:XK):Prop:=∀(pins:List (Addr × Obj)) (σ:St) (H:Hp) (s:Shared) (e:Value) (s':Shared),Inv X pins σ H s->CX X.stack H s E e s'->X.xe e s'
section
variable {X:Cx}{CX:iC}{k:Nat}{f C:Addr}{fd:FuncData}{ps:List Str}{sp:Sp}{dg:List V}{ds:List Value}{E:XK}{x m:Str}{p pos apos:Pos}{e o:Expr}{es:List Expr}{ta:TE}{t:TA}
theorem Gq {pins:List (Addr × Obj)}{σ:St}{H:Hp}{s:Shared}{Q:VK}{us:List Value}{vs:List V}(F:aC X.prog X.w X.K X.mg X.base CX k f fd ps sp)(hr:cN k X.A)(hb:Binds X.K fd ps ds)(hd:Vals dg ds)(hx:Passes CX X E)
 (I:Inv X pins σ H s) (r:Vals vs us) (h:sp (vs++dg) H Q E):wpAny (model X.prog X.w) X.A (call (.ref f) us) (EP X pins σ Q) X.xe s:=by
 have r2:Vals (vs++dg) (us++ds):=r.append hd
 have hl:(us++ds).length=ps.length:=by rw[<-r2.length];exact F.len _ _ _ _ h
 refine wpAny_call (codeAny_mono (F.run X.A X.stack s H ⟨us,[]⟩ (us++ds) (vs++dg) Q E hr I.env0 (hb s us I.cT hl) r2 h) λr s' hq=>?_)
 cases r with
 |error e=>exact hx pins σ H s e s' I hq
 |ok fl=>
  cases fl with
  |ret u=>exact I.after hq
  |next=>exact False.elim hq
  |brk=>exact False.elim hq
  |cont=>exact False.elim hq
theorem aY (F:aC X.prog X.w X.K X.mg X.base CX k f fd ps sp)(hr:cN k X.A)(hg:Gl X x)(hm:X.mg x=some (.ref f))(hk:W.keepIn X.K (.ref f)=true)(hb:Binds X.K fd ps ds)(hd:Vals dg ds)(hx:Passes CX X E)
 (ha:PA X (e::es) t) (hdb:(x == ("__debug__":Str))=false:=by decide) (he:starEach (e::es) X.env=(false,eval e X.env)::starEach es X.env:=by rfl) (hpl:(backTo pos (starEach es X.env)).any (·.1)=false:=by rfl):
 PE X (.Call (.Name x p) (e::es) [] pos) (lV sp dg E t):=by
 intro pins s σ H Q I h
 refine wpAny_Call_Name_kw (Fw I hg hm ?_ hdb)
 refine W.callWith_K (h₀:=X.base) I.ok.mod.o7 hk (aL (ha pos pins s σ H _ I h) λus s1 ⟨vs,H1,I1,r,q⟩=>⟨I1.cT,?_⟩) he hpl
 exact Gq F hr hb hd hx I1 r q
theorem lW {pl:Sem Bool}(he:PE X o ta)(c:Cls X.K C)(hm:Meth X.K C m f)(F:aC X.prog X.w X.K X.mg X.base CX k f fd ps sp)(hr:cN k X.A)(hb:Binds X.K fd ps ds)(hd:Vals dg ds)(hx:Passes CX X E)(ha:PA X (e::es) t)
 (hst:starEach (e::es) X.env=(false,eval e X.env)::starEach es X.env:=by rfl) (hpl:(backTo pos (starEach es X.env)).any (·.1)=false:=by rfl)
 (ht:eval (.Call (.Attribute o m apos) (e::es) [] pos) X.env=(do
   let ov <-eval o X.env
   standAt apos.atName
   let(f,first) <-holding [ov] (getMethod ov m pl)
   callWith pos f first (backTo pos (starEach (e::es) X.env)) (backToKw pos (keywordEach [] X.env))):=by rfl):
 PE X (.Call (.Attribute o m apos) (e::es) [] pos) (Vo C m sp dg E ta t):=by
 intro pins s σ H Q I h
 refine W.methodCall_KW (pl:=pl) (aL (he pins s σ H _ I h) λu s1 ⟨x,H1,I1,rx,a,dx,fs,ex,ea,l,q⟩=>?_) ht
 subst ex
 obtain rfl:u=Value.ref a:=rx
 refine Vf I1 ea c hm l ?_
 refine W.callWith_K (first:=[.ref a]) (h₀:=X.base) I.ok.mod.o7 hm.kp (aL (ha pos pins s1 σ H1 _ I1 q) λus s2 ⟨vs,H2,I2,r,q2⟩=>⟨I2.cT,?_⟩) hst hpl
 exact Gq (us:=.ref a::us) (vs:=.ref a::vs) F hr hb hd hx I2 (.cons rfl r) q2
structure Mk (K:W.Frag) (C f:Addr):Prop where
 makes:W.makesIn K C=true
 init:W.findIn K (.ref C) "__init__"=some (some (.ref f))
 fn:W.isFn K (.ref f)=true
 kp:W.keepIn K (.ref C)=true
theorem Vq {pins:List (Addr × Obj)}{σ:St}{H:Hp}{s:Shared}{Q:VK}{us:List Value}{vs:List V}(M:Mk X.K C f)(F:aC X.prog X.w X.K X.mg X.base CX k f fd ps sp)(hr:cN (k+1) X.A)(hb:Binds X.K fd ps ds)(hd:Vals dg ds)
 (hx:Passes CX X E) (I:Inv X pins σ H s) (r:Vals vs us)
 (h:∀x dx,H x=none->H dx=none->dx≠x->sp (.ref x::(vs++dg)) (upd (upd H dx (.own x)) x (.ins C dx [])) (λv H2=>v=.non/\Q (.ref x) H2) E):
 wpAny (model X.prog X.w) X.A (call (.ref C) us) (EP X pins σ Q) X.xe s:=by
 have hq:=h (s.heap.objs.size+1) s.heap.objs.size (I.hok.fresh (Nat.le_succ _)) (I.hok.fresh (Nat.le_refl _)) (Nat.ne_of_lt (Nat.lt_succ_self _))
 have I2:=Inv.made (C:=C) I
 have r2:Vals (V.ref (s.heap.objs.size+1)::(vs++dg)) (Value.ref (s.heap.objs.size+1)::(us++ds)):=.cons rfl (r.append hd)
 have hl:(Value.ref (s.heap.objs.size+1)::us++ds).length=ps.length:=by
  have e:=r2.length
  rw[F.len _ _ _ _ hq] at e
  exact e.symm
 refine wpAny_call (Vc (f:=f) I.cT M.makes M.init (beq_iff_eq.mp M.fn) (codeAny_mono (F.run _ X.stack _ _ ⟨Value.ref (s.heap.objs.size+1)::us,[]⟩ (Value.ref (s.heap.objs.size+1)::(us++ds)) _ _ E (hr.make C us [])
  (I2.env0.make C us []) (hb _ (Value.ref (s.heap.objs.size+1)::us) I2.cT hl) r2 hq) λr s' hq'=>?_))
 cases r with
 |error e=>exact hx pins σ _ _ e s' I2 hq'
 |ok fl=>
  cases fl with
  |ret u=>
   obtain⟨v,H',I3,rv,ev,q3⟩:=I2.after hq'
   subst ev
   exact⟨rv,⟨V.ref (s.heap.objs.size+1),H',I3,rfl,q3⟩⟩
  |next=>exact False.elim hq'
  |brk=>exact False.elim hq'
  |cont=>exact False.elim hq'
theorem Vr (M:Mk X.K C f)(F:aC X.prog X.w X.K X.mg X.base CX k f fd ps sp)(hr:cN (k+1) X.A)(hg:Gl X x)(hm:X.mg x=some (.ref C))(hb:Binds X.K fd ps ds)(hd:Vals dg ds)(hx:Passes CX X E)
 (ha:PA X (e::es) t) (hdb:(x == ("__debug__":Str))=false:=by decide) (he:starEach (e::es) X.env=(false,eval e X.env)::starEach es X.env:=by rfl) (hpl:(backTo pos (starEach es X.env)).any (·.1)=false:=by rfl):
 PE X (.Call (.Name x p) (e::es) [] pos) (Vp C sp dg E t):=by
 intro pins s σ H Q I h
 refine wpAny_Call_Name_kw (Fw I hg hm ?_ hdb)
 refine W.callWith_K (h₀:=X.base) I.ok.mod.o7 M.kp (aL (ha pos pins s σ H _ I h) λus s1 ⟨vs,H1,I1,r,q⟩=>⟨I1.cT,?_⟩) he hpl
 exact Vq M F hr hb hd hx I1 r q
end
section
variable {X:Cx}{CX:iC}{k:Nat}{f C:Addr}{fd:FuncData}{ps ks:List Str}{sp:Sp}{E:XK}{x m:Str}{p pos apos kpos:Pos}{e o:Expr}{es:List Expr}{kws:List Keyword}{te ta:TE}{t tk:TA}{nm:Option Str}
variable {g:List Value->List Value->List Value}{gV:List V->List V->List V}
end
structure bJ (N P:List Str) (sc:Scope):Prop where
 kind:sc.kind=.function
 co:sc.isCoroutine=false
 gen:sc.isGenerator=false
 nd:N.Nodup
 pre:N.take P.length=P
 par:∀x∈P,sc.names.lookup x=some .local\/sc.names.lookup x=some .cell
 Vs:∀y∈sc.names,y.2≠ .free
theorem bN {N Q:List Str}{sc:Scope}(h1:sc.kind=.function:=by rfl)(h2:sc.isCoroutine=false:=by rfl)(h3:sc.isGenerator=false:=by rfl)(h4:N.Nodup:=by decide +kernel)(h5:N.take Q.length=Q:=by rfl)(h6:∀x∈Q,sc.names.lookup x=some .local\/sc.names.lookup x=some .cell:=by decide +kernel)(h7:∀y∈sc.names,y.2≠ .free:=by decide +kernel):bJ N Q sc:=⟨h1,h2,h3,h4,h5,h6,h7⟩
theorem Gr {kindOf:Str->Option NameKind}{x:Str}:∀{binds:List (Str × Value)}{m:Str->Option Value},(∀v,(x,v) ∉ binds)->bindL kindOf binds m x=m x
 |[],_,_=>rfl
 |(n,v)::r,m,h=>by
  unfold bindL
  rw[Gr λw hw=>h w (List.mem_cons_of_mem _ hw)]
  split
  . have:x≠n:=by rintro rfl;exact h v List.mem_cons_self
    simp[this]
  . rfl
theorem Gs {kindOf:Str->Option NameKind}{x:Str}:∀{binds:List (Str × Value)}{m:Str->Option Value},(∀v,(x,v) ∉ binds)->bindC kindOf binds m x=m x
 |[],_,_=>rfl
 |(n,v)::r,m,h=>by
  unfold bindC
  rw[Gs λw hw=>h w (List.mem_cons_of_mem _ hw)]
  split
  . rfl
  . have:x≠n:=by rintro rfl;exact h v List.mem_cons_self
    simp[this]
theorem Gu {kindOf:Str->Option NameKind}{x:Str}{v:Value}:∀{P:List Str}{vs:List Value}{i:Nat}{m:Str->Option Value},P.Nodup->P[i]? =some x->vs[i]? =some v->kindOf x=some .local->
 bindL kindOf (P.zip vs) m x=some v
 |[],_,_,_,_,h,_,_=>by simp at h
 |_::_,[],_,_,_,_,h,_=>by simp at h
 |p::P,w::vs,0,m,nd,h1,h2,hk=>by
  simp at h1 h2;subst h1;subst h2
  show bindL kindOf ((p,w)::P.zip vs) m p=_
  unfold bindL
  rw[Gr λv hv=>(List.nodup_cons.mp nd).1 (List.of_mem_zip hv).1,if_pos hk]
  simp
 |p::P,w::vs,i+1,m,nd,h1,h2,hk=>by
  show bindL kindOf ((p,w)::P.zip vs) m x=_
  unfold bindL
  exact Gu (i:=i) (List.nodup_cons.mp nd).2 (by simpa using h1) (by simpa using h2) hk
theorem Gv {kindOf:Str->Option NameKind}{x:Str}{v:Value}:∀{P:List Str}{vs:List Value}{i:Nat}{m:Str->Option Value},P.Nodup->P[i]? =some x->vs[i]? =some v->kindOf x≠some .local->
 bindC kindOf (P.zip vs) m x=some v
 |[],_,_,_,_,h,_,_=>by simp at h
 |_::_,[],_,_,_,_,h,_=>by simp at h
 |p::P,w::vs,0,m,nd,h1,h2,hk=>by
  simp at h1 h2;subst h1;subst h2
  show bindC kindOf ((p,w)::P.zip vs) m p=_
  unfold bindC
  rw[Gs λv hv=>(List.nodup_cons.mp nd).1 (List.of_mem_zip hv).1,if_neg hk]
  simp
 |p::P,w::vs,i+1,m,nd,h1,h2,hk=>by
  show bindC kindOf ((p,w)::P.zip vs) m x=_
  unfold bindC
  exact Gv (i:=i) (List.nodup_cons.mp nd).2 (by simpa using h1) (by simpa using h2) hk
noncomputable def start (N:List Str) (vs:List V):St:=vs.map some++List.replicate (N.length - vs.length) none
noncomputable def lX (CX:iC) (P:Program) (w:World) (K:W.Frag) (mg:Str->Option Value) (base:Heap) (N:List Str) (qual:Str) (scope:Scope) (f:Addr) (cd:Value) (A:Around) (outer:List Env) (s:Shared) (H:Hp) (E:XK):Cx where
 prog:=P
 w:=w
 K:=K
 mg:=mg
 base:=base
 A:=A.deeper (envOfC qual scope s.heap.objs.size f cd)
 N:=N
 s₀:=s
 H₀:=H
 env:=envOfC qual scope s.heap.objs.size f cd
 outer:=outer
 stack:=envOfC qual scope s.heap.objs.size f cd::outer
 ex:=[]
 calm:=true
 fn:=λ_=>true
 pn:=[]
 xe:=λe s'=>wpAny (model P w) (A.deeper (envOfC qual scope s.heap.objs.size f cd)) (leaving (envOfC qual scope s.heap.objs.size f cd) e) (λ_ s''=>CX outer H s E e s'') (λe' s''=>CX outer H s E e' s'') s'
theorem Gw {sc:Scope}{n:Nat}{x:Str}(h:sc.names.lookup x=some .cell):∃c,(cellsFrom n sc.names []).lookup x=some c:=by
 have q:=W.cellsFrom_some sc.names n [] (.inl h)
 exact Option.isSome_iff_exists.mp q
theorem Vt {CX:iC}{P:Program}{w:World}{K:W.Frag}{mg:Str->Option Value}{base:Heap}{N ps:List Str}{qual:Str}{scope:Scope}{f:Addr}{cd:Value}{A:Around}{outer:List Env}{s s1:Shared}{H:Hp}{E:XK}{us:List Value}{vs:List V}
 (S:bJ N ps scope) (hd:A.handled=none) (e0:lU P w K mg base A outer s H) (hl:vs.length=ps.length) (r:Vals vs us)
 (x:InCallC s s.heap.objs.size (bindL (envOfC qual scope s.heap.objs.size f cd).kindOf (ps.zip us) λ_=>none) (cellsFrom (s.heap.objs.size+1) scope.names []) (bindC (envOfC qual scope s.heap.objs.size f cd).kindOf (ps.zip us) λ_=>none) s1):
 Inv (lX CX P w K mg base N qual scope f cd A outer s H E) [] (start N vs) H s1:=by
 have hpl:ps.length<=N.length:=by have:=congrArg List.length S.pre;rw[List.length_take] at this;omega
 obtain⟨h1,tk,rfl,hk⟩:=x.done
 have vH:∀b:Addr,b ∉ (lX CX P w K mg base N qual scope f cd A outer s H E).ex:=λb z=>absurd (show b∈([]:List Addr) from z) (by simp)
 refine⟨⟨e0.mod,S.kind,rfl,rfl,Nat.le_refl _,λy z c h1 h2=>?_,λy hy=>?_,λy c _ h=>?_,λ_=>hd,Around.frames_deeper e0.frames,.inr ⟨rfl,rfl⟩,λb z=>absurd z (vH b),e0.bs,e0.gF,λb _ _=>vH b,λb z=>absurd z (vH b),e0.eY,e0.jl⟩,
  rfl,e0.bare,Un.kept hk,⟨_,x.toInCall.ns,λi y v h1 h2 h3=>?_⟩,λy c h=>⟨_,x.cell y c h⟩,e0.hok.fresh (Nat.le_refl _),λy c h=>?_,λp hp=>absurd (show p∈([]:List (Addr × Obj)) from hp) (by simp),e0.hok.kept hk,?_⟩
 . exact name_of_addr x.apart (PySem.mem_of_lookup h1) (PySem.mem_of_lookup h2)
 . have hy:scope.names.lookup y=some .cell\/scope.names.lookup y=some .free:=hy
   rcases hy with hy|hy
   . exact Gw hy
   . exact absurd rfl (S.Vs _ (PySem.mem_of_lookup hy))
 . exact Nat.le_of_lt (x.above y c (PySem.mem_of_lookup h))
 . have hi:i<vs.length:=by
    unfold start at h2
    by_cases hi:i<vs.length
    . exact hi
    . rw[List.getElem?_append_right (by simpa using hi)] at h2
      rw[List.getElem?_replicate] at h2
      split at h2 <;> cases h2
   have ha:vs[i]? =some v:=by
    unfold start at h2
    rw[List.getElem?_append_left (by simpa using hi),List.getElem?_map] at h2
    cases e:vs[i]? with
    |none=>rw[e] at h2;cases h2
    |some a=>rw[e] at h2;cases h2;rfl
   obtain⟨u,hu,rv⟩:=r.get ha
   have hp:ps[i]? =some y:=by
    rw[<-S.pre,List.getElem?_take_of_lt (by omega)];exact h1
   have Gx:ps.Nodup:=by rw[<-S.pre];exact S.nd.sublist (List.take_sublist _ _)
   refine⟨u,rv,?_⟩
   rcases S.par y (List.mem_of_getElem? hp) with k|k
   . exact .inl ⟨k,Gu Gx hp hu k⟩
   . obtain⟨c,e⟩:=Gw (n:=s.heap.objs.size+1) k
     refine .inr ⟨.inl k,c,e,?_⟩
     have q:=x.cell y c e
     rw[Gv Gx hp hu (by show scope.names.lookup y≠_;rw[k];decide)] at q
     exact q
 . exact e0.hok.fresh (Nat.le_of_lt (x.above y c (PySem.mem_of_lookup h)))
 . unfold start
   show _=N.length
   rw[List.length_append,List.length_map,List.length_replicate]
   omega
theorem Gy {CX:iC}{P:Program}{w:World}{K:W.Frag}{mg:Str->Option Value}{base:Heap}{k:Nat}{f:Addr}{name qual:Str}{params:Arguments}{body:List Stmt}{scope:Scope}{dV kV doc pm cdv ct oc:Value}{an od:Option Addr}
 {osl:Array (Option Value)} {N ps:List Str} {sp:Sp} (lk:K.lookup f=some ⟨oc,od,.func (W.fnOf name qual params body scope dV kV doc pm an cdv ct),osl⟩) (hcd:W.codeIn K cdv qual=true) (S:bJ N ps scope)
 (len:∀vs H Q E,sp vs H Q E->vs.length=ps.length)
 (hbody:∀(A:Around) (outer:List Env) (s:Shared) (H:Hp) (vs:List V) (Q:VK) (E:XK),cN k (A.deeper (envOfC qual scope s.heap.objs.size f cdv))->sp vs H Q E->
   ∃t,eZ (lX CX P w K mg base N qual scope f cdv A outer s H E) body t/\t { nx:=λ_ H'=>Q .non H',rt:=Q } (start N vs) H):
 aC P w K mg base CX (k+1) f (W.fnOf name qual params body scope dV kV doc pm an cdv ct) ps sp:=by
 refine⟨len,λA outer s H args us vs Q E hr e0 hb r hsp=>?_⟩
 have hl:=len _ _ _ _ hsp
 have KX:K.In s.heap:=e0.mod.o7.keeps λb o e=>(e0.bs b o e).1
 have lim:s.heap.NoLimit:=e0.mod.nolimit.keeps λb o e=>(e0.bs b o e).1
 have hkind:∀y∈ps.zip us,scope.names.lookup y.1=some .local\/(scope.names.lookup y.1=some .cell/\((cellsFrom (s.heap.objs.size+1) scope.names []).lookup y.1).isSome=true):=λ⟨n,v⟩ hy=>by
  rcases S.par n (List.of_mem_zip hy).1 with q|q
  . exact .inl q
  . exact .inr ⟨q,W.cellsFrom_some _ _ _ (.inl q)⟩
 refine codeAny_call_function hr.depth (KX _ _ lk) rfl S.co S.gen rfl (W.codeRec_of KX hcd) (hb _ _ _ _ ?_)
 refine wpAny_newFunctionEnv_cells S.kind hkind λenv he s1 x=>?_
 subst he
 refine⟨lim.keeps x.toInCall.keep,codeAny_func ?_⟩
 obtain⟨t,ht,hq⟩:=hbody A outer s H vs Q E (hr.deeper _) hsp
 have I:Inv (lX CX P w K mg base N qual scope f cdv A outer s H E) [] (start N vs) H s1:=Vt S hr.hd e0 hl r x
 refine wpAny_mono (ht [] s1 (start N vs) H _ I hq) (λfl s' hs=>?_) λe s' hs=>hs
 have fin:∀{σ':St} {H':Hp} {v:V} {u:Value},Inv (lX CX P w K mg base N qual scope f cdv A outer s H E) [] σ' H' s'->RelV v u->Q v H'->CE outer P w H s Q u s':=
  λ{σ' H' v u} J rv q=>⟨v,H',J.os,J.bare,J.base,J.hok,rv,q⟩
 cases fl with
 |ret u=>
  obtain⟨v,σ',H',J,rv,q⟩:=hs
  exact fin J rv q
 |next=>
  obtain⟨σ',H',J,q⟩:=hs
  exact fin (v:=V.non) (u:=Value.none) J rfl q
 |brk=>
  obtain⟨_,_,_,q⟩:=hs
  exact False.elim q
 |cont=>
  obtain⟨_,_,_,q⟩:=hs
  exact False.elim q
section
variable {X:Cx}{x:Str}{p pos:Pos}{e:Expr}{es:List Expr}{t:TA}{id T:String}{r:List V->Hp->VK->Prop}
noncomputable def rP (r:List V->Hp->VK->Prop) (t:TA):TE:=λσ H Q=>t σ H λvs H1=>r vs H1 Q
theorem aR (hc:fj X (.builtin id) r)(hg:Gl X x)(hm:X.mg x=none)(hv:bootBuiltins x=some (.builtin id))(ha:PA X (e::es) t)(hn:x≠"__name__":=by decide)(hdb:(x == ("__debug__":Str))=false:=by decide)
 (he:starEach (e::es) X.env=(false,eval e X.env)::starEach es X.env:=by rfl) (hpl:(backTo pos (starEach es X.env)).any (·.1)=false:=by rfl):PE X (.Call (.Name x p) (e::es) [] pos) (rP r t):=by
 intro pins s σ H Q I h
 refine wpAny_Call_Name_kw (g_ I hg hm hv ?_ hn hdb)
 exact PyProof.Rows.callWith_builtin1 (aL (ha pos pins s σ H _ I h) λus s1 ⟨vs,H1,I1,r1,q1⟩=>hc pins s1 σ H1 vs us Q I1 r1 q1) he hpl
theorem fW (hc:fj X (.type T) r)(hg:Gl X x)(hm:X.mg x=none)(hv:bootBuiltins x=some (.type T))(ha:PA X (e::es) t)(hn:x≠"__name__":=by decide)(hdb:(x == ("__debug__":Str))=false:=by decide)
 (he:starEach (e::es) X.env=(false,eval e X.env)::starEach es X.env:=by rfl) (hpl:(backTo pos (starEach es X.env)).any (·.1)=false:=by rfl):PE X (.Call (.Name x p) (e::es) [] pos) (rP r t):=by
 intro pins s σ H Q I h
 refine wpAny_Call_Name_kw (g_ I hg hm hv ?_ hn hdb)
 exact PyProof.Rows.callWith_type1 (aL (ha pos pins s σ H _ I h) λus s1 ⟨vs,H1,I1,r1,q1⟩=>hc pins s1 σ H1 vs us Q I1 r1 q1) he hpl
end
end L2
namespace HT
open PySem PyProof.Rows
section
open PySem.SeqAt
open PySem.AutoSeq1 (wpAny_loadPart')
open PySem.MeetsSeq PySem.MeetsSeq2 PySem.MeetsSeq3
end
section
variable {prog:Program}{w:World}{A:Around}{E:Value->Shared->Prop}{s:Shared}
theorem Vu {t b:Addr}{vs ws:List Value}{Q:Value->Shared->Prop}(ht:IsTup s.heap t vs.toArray)(hb:IsTup s.heap b ws.toArray)(hv:vs≠[])
 (h1:ws=[]->Q (.ref t) s) (h2:ws≠[]->Q (.ref s.heap.objs.size) { s with heap:=s.heap.push { cls:=.type "tuple",data:=.seq (vs++ws).toArray } })
 (hsz:vs.length+ws.length<=sizeLine):wpAny (model prog w) A (binaryOp .Add (.ref t) (.ref b)) Q E s:=by
 obtain⟨⟨cls,dd,data,sl⟩,ho,hc,n,hd⟩:=id ht
 obtain⟨⟨cls2,dd2,data2,sl2⟩,ho2,hc2,n2,hd2⟩:=id hb
 simp only at hc hd hc2 hd2
 subst hc hd hc2 hd2
 have e:vs.toArray++ws.toArray=(vs++ws).toArray:=by simp
 by_cases hw:ws=[]
 . exact concat_meets ⟨_,ho,rfl⟩ ⟨_,ho2,rfl⟩ noFill_tuple_add seq_tuple_add PySem.F.slot_tuple_add PySem.F.entry_tuple_add (PySem.F.args_tuple_add_2 _ _)
    (tuple_addW1 t b vs.toArray ws.toArray n n2 dd dd2 sl sl2 (by simpa using hv) (by simp[hw])) ⟨ho,ho2,h1 hw⟩
 . refine concat_meets ⟨_,ho,rfl⟩ ⟨_,ho2,rfl⟩ noFill_tuple_add seq_tuple_add PySem.F.slot_tuple_add PySem.F.entry_tuple_add (PySem.F.args_tuple_add_2 _ _)
    (tuple_addW2 t b vs.toArray ws.toArray n n2 dd dd2 sl sl2 (by simpa using hv) (by simpa using hw) (by rw[List.size_toArray,List.size_toArray];exact hsz)) ⟨ho,ho2,?_⟩
   rw[e]
   exact h2 hw
noncomputable def bL (n d:Nat):Option Int->Nat
 |none=>d
 |some v=>if v<0 then(v+(n:Int)).toNat else min v.toNat n
theorem Vv (n d:Nat)(hd:d<=n)(o:Option Int):bL n d o<=n:=by
 cases o with
 |none=>exact hd
 |some v=>
  show(if v<0 then(v+(n:Int)).toNat else min v.toNat n)<=n
  by_cases hv:v<0
  . rw[if_pos hv];omega
  . rw[if_neg hv];exact Nat.min_le_right _ _
theorem Gz (v:Int)(n d:Nat):(if v<0 then max (v+(n:Int)) 0 else min v (n:Int))=((bL n d (some v):Nat):Int):=by
 show(if v<0 then max (v+(n:Int)) 0 else min v (n:Int))=(((if v<0 then(v+(n:Int)).toNat else min v.toNat n):Nat):Int)
 by_cases hv:v<0
 . simp only[if_pos hv];omega
 . simp only[if_neg hv];omega
theorem Vw (lo hi:Option Int)(n:Nat):Builtin.Slice.sliceAdjust lo hi 1 (n:Int)=(((bL n 0 lo:Nat):Int),((bL n n hi:Nat):Int)):=by
 have h1:¬((1:Int)<0):=by omega
 unfold Builtin.Slice.sliceAdjust
 simp only[h1,if_false]
 refine Prod.ext ?_ ?_
 . cases lo with
   |none=>rfl
   |some v=>exact Gz v n 0
 . cases hi with
   |none=>rfl
   |some v=>exact Gz v n n
theorem Vx (i j:Nat):Builtin.Slice.slicePlaces (i:Int) (j:Int) 1=j - i:=by
 unfold Builtin.Slice.slicePlaces
 have h1:(1:Int) > 0:=by omega
 simp only[h1,if_true,Int.ediv_one]
 split <;> omega
theorem GC {v:Value}{o:Option Int}{Q:Option Int->Shared->Prop}(p:IsPart v o)(h:Q o s):wpAny (model prog w) A (Builtin.Slice.slicePartIndex v) Q E s:=by
 cases p with
 |none=>exact slicePart_none h
 |int i t=>exact slicePart_int h
theorem Vy {sl:Addr}{vl vu:Value}{lo hi:Option Int}{n:Nat}{Q:Int × Int × Nat->Shared->Prop}(hs:s.heap.IsSliceOf sl vl vu .none)(pl:IsPart vl lo)(pu:IsPart vu hi)
 (h:Q (((bL n 0 lo:Nat):Int),1,bL n n hi - bL n 0 lo) s):wpAny (model prog w) A (Builtin.Slice.sliceApplied (.ref sl) (pure (n:Int))) Q E s:=by
 obtain⟨os,hos,hcs,hds⟩:=id hs
 unfold Builtin.Slice.sliceApplied Builtin.Slice.sliceFields
 refine wpAny_bind (wpAny_bind (wpAny_field hos hds (x:=vl) rfl (wpAny_bind (wpAny_field hos hds (x:=vu) rfl (wpAny_bind (wpAny_field hos hds (x:=.none) rfl (wpAny_pure ?_)))))))
 refine wpAny_bind (slicePart_none ?_)
 show wpAny _ _ (if((1:Int) == 0)=true then _ else _) _ _ s
 rw[if_neg (by decide)]
 refine wpAny_bind (GC pl (wpAny_bind (GC pu (wpAny_bind (wpAny_pure ?_)))))
 show wpAny _ _ (match Builtin.Slice.sliceAdjust lo hi 1 (n:Int) with|(lo,hi)=>pure (lo,(1:Int),Builtin.Slice.slicePlaces lo hi 1)) _ _ s
 rw[Vw lo hi n]
 show wpAny _ _ (pure (((bL n 0 lo:Nat):Int),(1:Int),Builtin.Slice.slicePlaces ((bL n 0 lo:Nat):Int) ((bL n n hi:Nat):Int) 1)) _ _ s
 rw[Vx]
 exact wpAny_pure h
theorem Vz (xs:Array Value)(i k:Nat):((List.range k).filterMap λ(m:Nat)=>xs[((i:Int)+(m:Int) * 1).toNat]?).toArray=((xs.toList.drop i).take k).toArray:=by
 have e:(λ(m:Nat)=>xs[((i:Int)+(m:Int) * 1).toNat]?)=λm=>xs[i+m]? :=by
  funext m
  have:((i:Int)+(m:Int) * 1).toNat=i+m:=by omega
  rw[this]
 rw[e]
 have:=pick_run xs i k
 rw[List.filterMap_map] at this
 have e2:((λx=>xs[x]?) ∘ λx=>i+x)=λm=>xs[i+m]? :=rfl
 rw[e2] at this
 rw[this]
theorem VB {t sl:Addr}{items:Array Value}{vl vu:Value}{lo hi:Option Int}{Q:Value->Shared->Prop}(ht:IsTup s.heap t items)(hs:s.heap.IsSliceOf sl vl vu .none)(pl:IsPart vl lo)(pu:IsPart vu hi)
 (hw:¬(bL items.size 0 lo=0/\bL items.size items.size hi=items.size))
 (h:Q (.ref s.heap.objs.size) { s with heap:=s.heap.push { cls:=.type "tuple",data:=.seq ((items.toList.drop (bL items.size 0 lo)).take (bL items.size items.size hi - bL items.size 0 lo)).toArray } })
 (hsz:items.size<=sizeLine):wpAny (model prog w) A (getItem (.ref t) (.ref sl)) Q E s:=by
 have rQ:sizeOk (.seq ((items.toList.drop (bL items.size 0 lo)).take (bL items.size items.size hi - bL items.size 0 lo)).toArray):=by
  show((items.toList.drop (bL items.size 0 lo)).take (bL items.size items.size hi - bL items.size 0 lo)).toArray.size<=sizeLine
  rw[List.size_toArray,List.length_take,List.length_drop,Array.length_toList]
  omega
 have hj:bL items.size items.size hi<=items.size:=Vv _ _ (Nat.le_refl _) hi
 obtain⟨os,hos,hcs,hds⟩:=id hs
 have hTs:s.TypeIs (.ref sl) "slice":=⟨os,hos,hcs⟩
 unfold getItem
 try with_reducible refine wpAny_holding ?_
 first|refine wpAny_bind (wpAny_pure ?_)|skip
 refine wpAny_bind (wpAny_sequenceKey ht.typeIs (by decide) ?_)
 refine wpAny_bind (wpAny_callSpecial?_slot (name:=Str.ofString "__getitem__") ht.typeIs PyProof.Rows.slot_tuple_getitem
  (wpAny_call_entry PyProof.Rows.slot_tuple_getitem ht.typeIs entry_tuple_getitem ?_ (args_tuple_getitem _ _)))
 show wpAny _ _ (Builtin.Tuple.tupleItemsOf (.ref t) >>= _) _ _ s
 refine wpAny_bind (tupleItemsOf_ ht ?_)
 refine wpAny_bind (wpAny_typeOf hTs ?_)
 rw[if_pos (by decide)]
 refine wpAny_bind (Vy hs pl pu ?_)
 have hno:¬((((bL items.size 0 lo:Nat):Int) == 0 && (1:Int) == 1 && (bL items.size items.size hi - bL items.size 0 lo) == items.size)=true):=by
  intro q
  rw[Bool.and_eq_true,Bool.and_eq_true] at q
  have q1:((bL items.size 0 lo:Nat):Int)=0:=eq_of_beq q.1.1
  have q2:bL items.size items.size hi - bL items.size 0 lo=items.size:=eq_of_beq q.2
  exact hw ⟨by omega,by omega⟩
 show wpAny _ _ (if(((bL items.size 0 lo:Nat):Int) == 0 && (1:Int) == 1 && (bL items.size items.size hi - bL items.size 0 lo) == items.size)=true then _ else _) _ _ s
 rw[if_neg hno,Vz]
 first
  |exact wpAny_bind (m:=Builtin.Tuple.tupleExact _) (wpAny_newObj_type (wpAny_pure ⟨_,rfl,wpAny_pure h⟩) rQ)
  |exact wpAny_bind (m:=Builtin.Tuple.tupleExact _) (wpAny_newObj_type (wpAny_bind (wpAny_pure (wpAny_pure ⟨_,rfl,wpAny_pure h⟩))) rQ)
  |exact wpAny_bind (wpAny_bind (m:=Builtin.Tuple.tupleExact _) (wpAny_newObj_type (wpAny_pure (wpAny_pure ⟨_,rfl,wpAny_pure h⟩)) rQ))
  |exact wpAny_bind (wpAny_bind (m:=Builtin.Tuple.tupleExact _) (wpAny_newObj_type (wpAny_pure ⟨_,rfl,wpAny_pure h⟩) rQ))
end
end HT
namespace L2
open PySem PySem.Spec PyProof.Rows
noncomputable abbrev TO:=St->Hp->(Option Int->Hp->Prop)->Prop
noncomputable def PO (X:Cx) (e:Option Expr) (t:TO):Prop:=
 ∀(pins:List (Addr × Obj)) (s:Shared) (σ:St) (H:Hp) (Q:Option Int->Hp->Prop),Inv X pins σ H s->t σ H Q->
  wpAny (model X.prog X.w) X.A (evalPart e X.env) (λu s'=>∃o H',Inv X pins σ H' s'/\IsPart u o/\Q o H') X.xe s
noncomputable def VD:TO:=λ_ H Q=>Q none H
noncomputable def VF (t:TE):TO:=λσ H Q=>t σ H λx H1=>∃i,x=.int i/\Q (some i) H1
section
variable {X:Cx}{e:Expr}{te:TE}{lo hi:Option Expr}{tl th:TO}{pos p2:Pos}
theorem VG:PO X none VD:=by
 intro pins s σ H Q I h
 rw[evalPart_none]
 exact wpAny_pure ⟨none,H,I,.none,h⟩
theorem VH (h:PE X e te):PO X (some e) (VF te):=by
 intro pins s σ H Q I hw
 rw[evalPart_some]
 refine aL (h pins s σ H _ I hw) λu s1 ⟨x,H1,I1,r1,q1⟩=>?_
 obtain⟨i,rfl,q⟩:=q1
 obtain⟨t,rfl⟩:=r1
 exact⟨some i,H1,I1,.int i t,q⟩
noncomputable def GD (X:Cx) (r:V->Option Int->Option Int->Hp->VK->Prop):Prop:=
 ∀(pins:List (Addr × Obj)) (s:Shared) (σ:St) (H:Hp) (x:V) (v vl vu:Value) (lo hi:Option Int) (sl:Addr) (Q:VK),Inv X pins σ H s->RelV x v->s.heap.IsSliceOf sl vl vu .none->IsPart vl lo->IsPart vu hi->r x lo hi H Q->
  ∃T id,typeLookup (.type T) "__getitem__"=pure (some (.builtin id))/\s.TypeIs v T/\wpAny (model X.prog X.w) X.A (getItem v (.ref sl)) (EP X pins σ Q) X.xe s
noncomputable def VJ (r:V->Option Int->Option Int->Hp->VK->Prop) (te:TE) (tl th:TO):TE:=λσ H Q=>te σ H λx H1=>tl σ H1 λl H2=>th σ H2 λu H3=>r x l u H3 Q
theorem VL {r:V->Option Int->Option Int->Hp->VK->Prop}(hr:GD X r)(he:PE X e te)(hl:PO X lo tl)(hu:PO X hi th):PE X (.Subscript e (.Slice lo hi none p2) pos) (VJ r te tl th):=by
 intro pins s σ H Q I h
 refine Subscript_ (aL (he pins s σ H _ I h) λv s1 ⟨x,H1,I1,r1,q1⟩=>?_)
 refine wpAny_Slice (aL (hl pins s1 σ H1 _ I1 q1) λvl s2 ⟨l,H2,I2,pl,q2⟩=>aL (hu pins s2 σ H2 _ I2 q2) λvu s3 ⟨u,H3,I3,pu,q3⟩=>?_)
 rw[evalPart_none]
 refine wpAny_pure ?_
 have I4:Inv X pins σ H3 { s3 with heap:=s3.heap.push { cls:=.type "slice",data:=.fields #[vl,vu,.none] } }:=I3.kept (t':=s3.toks) λb ob q=>Heap.get?_push_of_some _ q
 obtain⟨T,id,hT,ht,hg⟩:=hr pins { s3 with heap:=s3.heap.push { cls:=.type "slice",data:=.fields #[vl,vu,.none] } } σ H3 x v vl vu l u s3.heap.objs.size Q I4 r1 (Heap.IsSliceOf.new ..) pl pu q3
 show wpAny (model X.prog X.w) X.A (subscriptTail e (.Slice lo hi none p2) v (.ref s3.heap.objs.size)) (EP X pins σ Q) X.xe { s3 with heap:=s3.heap.push { cls:=.type "slice",data:=.fields #[vl,vu,.none] } }
 exact tail_any (ops:=[.ref s3.heap.objs.size,v]) ht hT hg (by with_unfolding_all rfl)
noncomputable def nM (xs:List V) (lo hi:Option Int):List V:=(xs.drop (HT.bL xs.length 0 lo)).take (HT.bL xs.length xs.length hi - HT.bL xs.length 0 lo)
theorem VN (xs:List V)(lo hi:Option Int):(nM xs lo hi).length<=xs.length:=by
 unfold nM
 rw[List.length_take,List.length_drop]
 omega
noncomputable def V0 (K:W.Frag):V->Option Int->Option Int->Hp->VK->Prop:=λx lo hi H Q=>∃a xs,x=.ref a/\aq K H a xs/\
 ¬(HT.bL xs.length 0 lo=0/\HT.bL xs.length xs.length hi=xs.length)/\∀p,H p=none->Q (.ref p) (upd H p (.tup (nM xs lo hi)))
theorem V1:GD X (V0 X.K):=by
 intro pins s σ H x v vl vu lo hi sl Q I rx hs pl pu h
 obtain⟨a,xs,rfl,hx,hw,q⟩:=h
 cases rx
 obtain⟨its,r,ht,hz⟩:=I.tuple hx
 have hlen:its.toArray.size=xs.length:=by rw[List.size_toArray];exact r.length.symm
 refine⟨"tuple",_,PyProof.Rows.slot_tuple_getitem.lookup,ht.typeIs,?_⟩
 refine HT.VB ht hs pl pu (by rw[hlen];exact hw) ?_ (by rw[hlen];exact hz)
 rw[hlen]
 refine⟨.ref s.heap.objs.size,_,I.laid (t':=s.toks) (o:=.tup (nM xs lo hi)) (λb ob q=>Heap.get?_push_of_some _ q) (Nat.le_refl _) ?_,rfl,q _ (I.hok.fresh (Nat.le_refl _))⟩
 exact⟨Nat.le_trans (VN xs lo hi) hz,_,(r.drop (HT.bL xs.length 0 lo)).take (HT.bL xs.length xs.length hi - HT.bL xs.length 0 lo),IsTup.new _ _⟩
noncomputable def V2 (K:W.Frag):R2:=λx y H Q=>∃a b xs ys,x=.ref a/\y=.ref b/\aq K H a xs/\aq K H b ys/\xs≠[]/\xs.length+ys.length<=sizeLine/\
 (ys=[]->Q (.ref a) H)/\(ys≠[]->∀p,H p=none->Q (.ref p) (upd H p (.tup (xs++ys))))
theorem Vals.rR {xs:List V}{us:List Value}(r:Vals xs us):us=[]↔xs=[]:=by
 cases r with
 |nil=>simp
 |cons _ _=>simp
theorem V3:cP X (binaryOp .Add) (V2 X.K):=by
 intro pins s σ H x y v u Q I rx ry h
 obtain⟨a,b,xs,ys,rfl,rfl,ha,hb,hx,hz,q1,q2⟩:=h
 cases rx
 cases ry
 obtain⟨its,r1,p1,_⟩:=I.tuple ha
 obtain⟨its2,r2,p2,_⟩:=I.tuple hb
 refine HT.Vu p1 p2 (λz=>hx (r1.rR.mp z)) (λz=>⟨.ref a,H,I,rfl,q1 (r2.rR.mp z)⟩) (λz=>?_) (by rw[<-r1.length,<-r2.length];exact hz)
 refine⟨.ref s.heap.objs.size,_,I.laid (t':=s.toks) (o:=.tup (xs++ys)) (λb ob q=>Heap.get?_push_of_some _ q) (Nat.le_refl _) ?_,rfl,q2 (λw=>z (r2.rR.mpr w)) _ (I.hok.fresh (Nat.le_refl _))⟩
 exact⟨by rw[List.length_append];exact hz,_,r1.append r2,IsTup.new _ _⟩
end
noncomputable def jt (n:Nat) (i:Int):Option Nat:=if 0<=i then(if i<n then some i.toNat else none) else if -(n:Int)<=i then some (i+n).toNat else none
noncomputable def dM {α:Type}(xs:List α) (i:Int):Option α:=(jt xs.length i).bind λj=>xs[j]?
theorem GF {n:Nat}{i:Int}{j:Nat}(h:jt n i=some j):seqIndex? i n=some j/\j<n/\ -(n:Int)<=i/\i<n:=by
 unfold jt at h
 by_cases h0:0<=i
 . rw[if_pos h0] at h
   by_cases h1:i<n
   . rw[if_pos h1] at h
     have e:i.toNat=j:=Option.some.inj h
     exact⟨by rw[seqIndex_of h0 h1,e],by omega,by omega,h1⟩
   . rw[if_neg h1] at h;cases h
 . rw[if_neg h0] at h
   by_cases h1: -(n:Int)<=i
   . rw[if_pos h1] at h
     have e:(i+n).toNat=j:=Option.some.inj h
     exact⟨by rw[seqIndex_neg (by omega) h1,e],by omega,h1,by omega⟩
   . rw[if_neg h1] at h;cases h
theorem vI {α:Type}{xs:List α}{i:Int}{v:α}(h:dM xs i=some v):∃j,seqIndex? i xs.length=some j/\xs[j]? =some v/\j<xs.length/\ -(xs.length:Int)<=i/\i<xs.length:=by
 unfold dM at h
 cases e:jt xs.length i with
 |none=>rw[e] at h;cases h
 |some j=>
  rw[e] at h
  obtain⟨h1,h2,h3,h4⟩:=GF e
  exact⟨j,h1,h,h2,h3,h4⟩
theorem lY {α:Type}{xs:List α}{j:Nat}{v:α}(h:xs[j]? =some v):dM xs (j:Int)=some v:=by
 have hj:j<xs.length:=(List.getElem?_eq_some_iff.mp h).1
 have e:jt xs.length (j:Int)=some j:=by
  unfold jt
  rw[if_pos (by omega),if_pos (by omega)];simp
 unfold dM;rw[e];exact h
noncomputable def V4 (b:Expr):Prop:=∀o i,subscripted b false o i=operate [o,i] (getItem o i)
noncomputable def rT (X:Cx) (r:R2):Prop:=
 ∀(value slice:Expr) (pins:List (Addr × Obj)) (s:Shared) (σ:St) (H:Hp) (x y:V) (v u:Value) (Q:VK),Inv X pins σ H s->RelV x v->RelV y u->r x y H Q->
  subscripted slice false v u=operate [v,u] (getItem v u)->wpAny (model X.prog X.w) X.A (subscriptTail value slice v u) (EP X pins σ Q) X.xe s
noncomputable def vJ (X:Cx) (id:String) (r:V->List V->Hp->VK->Prop):Prop:=
 ∀(pins:List (Addr × Obj)) (s:Shared) (σ:St) (H:Hp) (x:V) (xs:List V) (v:Value) (us:List Value) (Q:VK),Inv X pins σ H s->RelV x v->Vals xs us->r x xs H Q->
  wpAny (model X.prog X.w) X.A (call (.builtin id) (v::us)) (EP X pins σ Q) X.xe s
section
variable {X:Cx}{a b:Expr}{ta tb:TE}{pos:Pos}
theorem bB {r:R2}(hr:rT X r)(ha:PE X a ta)(hb:PE X b tb)(hs:V4 b):PE X (.Subscript a b pos) (bD r ta tb):=by
 intro pins s σ H Q I h
 exact Subscript_ (vo ha hb I h λv u s2 x y H2 I2 rx ry q=>hr a b pins s2 σ H2 x y v u Q I2 rx ry q (hs _ _))
noncomputable def GJ (K:W.Frag):R2:=λx y H Q=>∃p xs i v,x=.ref p/\y=.int i/\au K H p xs/\dM xs i=some v/\Q v H
noncomputable def jU (K:W.Frag):R2:=λx y H Q=>∃p xs i v,x=.ref p/\y=.int i/\aq K H p xs/\dM xs i=some v/\Q v H
noncomputable def V5:R2:=λx y H Q=>∃z i c,x=.str z/\y=.int i/\z.length<=sizeLine/\dM z.cps.toList i=some c/\Q (.str ⟨#[c]⟩) H
theorem fX:rT X (GJ X.K):=by
 intro value slice pins s σ H x y v u Q I rx ry h hs
 obtain⟨p,xs,i,z,rfl,rfl,hq,he,q⟩:=h
 cases rx
 obtain⟨t,rfl⟩:=ry
 obtain⟨its,r,pl,hz⟩:=I.list hq
 obtain⟨j,h1,h2,h3,h4,h5⟩:=vI he
 obtain⟨w,ew,gG⟩:=r.get h2
 have hl:=r.length
 have hn:=nJ
 have fin:EP X pins σ Q w s:=⟨z,H,I,gG,q⟩
 by_cases h0:0<=i
 . have hj:i.toNat=j:=by
    rw[seqIndex_of h0 h5] at h1
    exact Option.some.inj h1
   exact item_listR pl.isList h0 (by omega) (by rw[hj];simpa using ew) fin hs
 . have hj:(i+(its.toArray.size:Int)).toNat=j:=by
    rw[seqIndex_neg (by omega) h4] at h1
    rw[List.size_toArray,<-hl]
    exact Option.some.inj h1
   exact subscriptTail_builtinR (x:=w) pl.isList.typeIs slot_list_getitem.lookup
    (wpAny_getItem_list_neg (Q:=λr s'=>r=w/\EP X pins σ Q r s') pl.isList (by omega) (by rw[List.size_toArray] <;> omega) (by omega) (by rw[hj];simpa using ew) ⟨rfl,fin⟩) hs
theorem bZ:rT X (jU X.K):=by
 intro value slice pins s σ H x y v u Q I rx ry h hs
 obtain⟨p,xs,i,z,rfl,rfl,hq,he,q⟩:=h
 cases rx
 obtain⟨t,rfl⟩:=ry
 obtain⟨its,r,pl,hz⟩:=I.tuple hq
 obtain⟨j,h1,h2,h3,h4,h5⟩:=vI he
 obtain⟨w,ew,gG⟩:=r.get h2
 have hl:=r.length
 have hn:=nJ
 have fin:EP X pins σ Q w s:=⟨z,H,I,gG,q⟩
 exact subscriptTail_builtinR (x:=w) pl.typeIs slot_tuple_getitem.lookup
  (getItem_tuple (j:=j) (Q:=λr s'=>r=w/\EP X pins σ Q r s') pl (by omega) (by omega) (by rw[List.size_toArray,<-hl];exact h1) (by simpa using ew) ⟨rfl,fin⟩) hs
theorem rU:rT X V5:=by
 intro value slice pins s σ H x y v u Q I rx ry h hs
 obtain⟨z,i,c,rfl,rfl,hz,he,q⟩:=h
 obtain⟨t,rfl⟩:=rx
 obtain⟨t',rfl⟩:=ry
 obtain⟨j,h1,h2,h3,h4,h5⟩:=vI he
 have hl:z.cps.toList.length=z.length:=by simp[Str.length]
 rw[hl] at h1 h4 h5
 have hn:=nJ
 exact tail_any (typeIs_str s z t) slot_str_getitem.lookup (getItem_str (c:=c) (by
  have e1:decide (i< -(2 ^ 63:Int))=false:=decide_eq_false (by omega)
  have e2:decide (i ≥ 2 ^ 63)=false:=decide_eq_false (by omega)
  rw[e1,e2,Bool.or_false]) (by rw[h1];simpa using h2) ⟨.str ⟨#[c]⟩,H,I.tok _,⟨_,rfl⟩,q⟩) hs
theorem V6 (its:List Value)(n j:Nat)(u:Value):Obj.mapSeq (·.setIfInBounds j u) { cls:=.type "list",data:=.seq its.toArray n }={ cls:=.type "list",data:=.seq (its.set j u).toArray n }:=by
 simp[Obj.mapSeq]
theorem Inv.lst {pins:List (Addr × Obj)}{σ:St}{H:Hp}{s:Shared}{p:Addr}{xs:List V}(I:Inv X pins σ H s)(h:H p=some (.lst xs)):
 ∃(its:List Value) (n:Nat),Vals xs its/\s.heap.get? p=some { cls:=.type "list",data:=.seq its.toArray n }/\xs.length<=sizeLine:=by
 obtain⟨z,its,n,r,e⟩:=I.hok p _ h
 exact⟨its,n,r,e,z⟩
theorem Inv.V7 {pins:List (Addr × Obj)}{σ:St}{H:Hp}{s:Shared}{p:Addr}{xs ys:List V}{its its':List Value}{n n':Nat}{f:Obj->Obj}(I:Inv X pins σ H s)(h:H p=some (.lst xs))
 (ho:s.heap.get? p=some { cls:=.type "list",data:=.seq its.toArray n }) (hf:f { cls:=.type "list",data:=.seq its.toArray n }={ cls:=.type "list",data:=.seq its'.toArray n' }) (r:Vals ys its') (hz:ys.length<=sizeLine) (t:Nat):
 Inv X pins σ (upd H p (.lst ys)) { s with heap:=s.heap.update p f,toks:=t }:=by
 have e:(s.heap.update p f).get? p=some { cls:=.type "list",data:=.seq its'.toArray n' }:=by
  rw[Heap.get?_update_self f ho (by rw[hf] <;> rfl),hf]
 refine I.write (x:=p) (e:=p) (by rw[h];trivial) (.inl rfl) (λb u hb q=>(Heap.get?_update_other _ _ (Ne.symm hb)).trans q) ⟨_,e⟩ ?_
 exact⟨hz,its',n',r,e⟩
noncomputable def V8:V->V->V->Hp->(Hp->Prop)->Prop:=λo i v H Q=>∃p xs k j,o=.ref p/\i=.int k/\H p=some (.lst xs)/\jt xs.length k=some j/\Q (upd H p (.lst (xs.set j v)))
theorem set_list:FT X V8:=by
 intro pins s σ H o i v ov iv u Q I ro ri rv h
 obtain⟨p,xs,k,j,rfl,rfl,hp,hj,q⟩:=h
 cases ro
 obtain⟨t,rfl⟩:=ri
 obtain⟨its,n,r,ho,hz⟩:=I.lst hp
 obtain⟨h1,h2,h3,h4⟩:=GF hj
 have hl:=r.length
 have hn:=nJ
 have I':Inv X pins σ (upd H p (.lst (xs.set j v))) { s with heap:=s.heap.update p (Obj.mapSeq (·.setIfInBounds j u)) }:=
  I.V7 hp ho (V6 its n j u) (r.set rv j) (by rw[List.length_set];exact hz) s.toks
 by_cases h0:0<=k
 . have hk:k.toNat=j:=by
    rw[seqIndex_of h0 h4] at h1
    exact Option.some.inj h1
   exact W.ki_setAt ho h0 (by omega) (by rw[List.size_toArray,<-hl];exact h4) (by rw[hk];exact⟨_,I',q⟩)
 . have hk:(k+(its.toArray.size:Int)).toNat=j:=by
    rw[seqIndex_neg (by omega) h3] at h1
    rw[List.size_toArray,<-hl]
    exact Option.some.inj h1
   exact W.ki_setBack ho (by omega) (by rw[List.size_toArray,<-hl];exact h3) (by omega) (by rw[hk];exact⟨_,I',q⟩)
noncomputable def ju:V->Bool
 | .non=>true
 | .bl _=>true
 | .int _=>true
 | .str _=>true
 |_=>false
noncomputable def jw:V->V->Bool
 | .non,.non=>true
 | .bl a,.bl b=>a == b
 | .bl a,.int b=>(if a then 1 else 0) == b
 | .int a,.bl b=>a == (if b then 1 else 0)
 | .int a,.int b=>a == b
 | .str a,.str b=>a == b
 |_,_=>false
theorem V9 {A:Around}{s:Shared}{y x:V}{u v:Value}(ry:RelV y u)(rx:RelV x v)(fy:ju y=true)(fx:ju x=true):SeqAt.EqAt A s u v (jw y x):=by
 cases y with
 |non=>
  cases ry
  cases x with
  |non=>cases rx;exact SeqAt.EqAt.same _
  |bl b=>cases rx;exact SeqAt.EqAt.none_bool b
  |int b=>obtain⟨t,rfl⟩:=rx;exact SeqAt.EqAt.none_int b t
  |str b=>obtain⟨t,rfl⟩:=rx;exact SeqAt.EqAt.none_str b t
  |_=>exact absurd (show false=true from fx) Bool.false_ne_true
 |bl a=>
  cases ry
  cases x with
  |non=>cases rx;exact SeqAt.EqAt.bool_none a
  |bl b=>cases rx;exact SeqAt.EqAt.bool_bool a b
  |int b=>obtain⟨t,rfl⟩:=rx;exact SeqAt.EqAt.bool_int a b t
  |str b=>obtain⟨t,rfl⟩:=rx;exact SeqAt.EqAt.bool_str a b t
  |_=>exact absurd (show false=true from fx) Bool.false_ne_true
 |int a=>
  obtain⟨t',rfl⟩:=ry
  cases x with
  |non=>cases rx;exact SeqAt.EqAt.int_none a t'
  |bl b=>cases rx;exact SeqAt.EqAt.int_bool a t' b
  |int b=>obtain⟨t,rfl⟩:=rx;exact SeqAt.EqAt.int_int a t' b t
  |str b=>obtain⟨t,rfl⟩:=rx;exact SeqAt.EqAt.int_str a t' b t
  |_=>exact absurd (show false=true from fx) Bool.false_ne_true
 |str a=>
  obtain⟨t',rfl⟩:=ry
  cases x with
  |non=>cases rx;exact SeqAt.EqAt.str_none a t'
  |bl b=>cases rx;exact SeqAt.EqAt.str_bool a t' b
  |int b=>obtain⟨t,rfl⟩:=rx;exact SeqAt.EqAt.str_int a t' b t
  |str b=>obtain⟨t,rfl⟩:=rx;exact SeqAt.EqAt.str_str a t' b t
  |_=>exact absurd (show false=true from fx) Bool.false_ne_true
 |_=>exact absurd (show false=true from fy) Bool.false_ne_true
noncomputable def jx (x:V) (u:Value):Bool:=match u with
 | .none=>jw .non x
 | .bool b=>jw (.bl b) x
 | .int i _=>jw (.int i) x
 | .str z _=>jw (.str z) x
 |_=>false
theorem GK {x y:V}{u:Value}(r:RelV y u)(f:ju y=true):jx x u=jw y x:=by
 cases y with
 |non=>cases r;rfl
 |bl b=>cases r;rfl
 |int i=>obtain⟨t,rfl⟩:=r;rfl
 |str z=>obtain⟨t,rfl⟩:=r;rfl
 |_=>exact absurd (show false=true from f) Bool.false_ne_true
theorem vK {x:V}:∀{xs:List V}{us:List Value},Vals xs us->xs.all ju=true->us.any (jx x)=xs.any λy=>jw y x
 |_,_,.nil,_=>rfl
 |y::xs,u::us,.cons r t,f=>by
  rw[List.all_cons,Bool.and_eq_true] at f
  rw[List.any_cons,List.any_cons,GK r f.1,vK t f.2]
theorem vL {A:Around}{s:Shared}{x:V}{v:Value}(rx:RelV x v)(fx:ju x=true):∀{xs:List V}{us:List Value},Vals xs us->xs.all ju=true->∀u∈us,SeqAt.EqAt A s u v (jx x u)
 |_,_,.nil,_=>λu hu=>by cases hu
 |y::xs,u::us,.cons r t,f=>λu' hu=>by
  rw[List.all_cons,Bool.and_eq_true] at f
  rcases List.mem_cons.mp hu with rfl|hu
  . rw[GK r f.1];exact V9 r rx f.1 fx
  . exact vL rx fx t f.2 u' hu
noncomputable def inV (x:V) (xs:List V):Bool:=xs.any λy=>jw y x
noncomputable def vM (K:W.Frag) (neg:Bool):R2:=λx y H Q=>∃p xs,y=.ref p/\(au K H p xs\/aq K H p xs)/\ju x=true/\xs.all ju=true/\Q (.bl (if neg then !inV x xs else inV x xs)) H
theorem GP:cP X (compareOp .In) (vM X.K false):=by
 intro pins s σ H x y v u Q I rx ry h
 obtain⟨p,xs,rfl,hq,fx,fs,q⟩:=h
 cases ry
 rcases hq with hq|hq
 . obtain⟨its,r,pl,hz⟩:=I.list hq
   refine SeqAt.in_listAt (jx x) pl.isList (λw hw=>vL rx fx r fs w (by simpa using hw)) ⟨.bl _,H,I,rfl,?_⟩
   rw[show its.toArray.any (jx x)=its.any (jx x) by simp,vK r fs]
   exact q
 . obtain⟨its,r,pl,hz⟩:=I.tuple hq
   refine SeqAt.in_tupleAt (jx x) pl (λw hw=>vL rx fx r fs w (by simpa using hw)) ⟨.bl _,H,I,rfl,?_⟩
   rw[show its.toArray.any (jx x)=its.any (jx x) by simp,vK r fs]
   exact q
theorem eE:fj X (.builtin "len") (λxs H Q=>∃p ys,xs=[.ref p]/\(au X.K H p ys\/aq X.K H p ys)/\Q (.int ys.length) H):=by
 intro pins s σ H xs us Q I r h
 obtain⟨p,ys,rfl,hq,q⟩:=h
 obtain⟨u,rfl,rx⟩:=vals1 r
 cases rx
 have hn:=nJ
 rcases hq with hq|hq
 . obtain⟨its,r',pl,hz⟩:=I.list hq
   have hlen:=r'.length
   exact Calls.call_len_list pl.isList (by simp only[List.size_toArray] <;> omega) ⟨.int ys.length,H,I.tok _,⟨s.toks+1,by rw[List.size_toArray,hlen]⟩,q⟩
 . obtain⟨its,r',pl,hz⟩:=I.tuple hq
   have hlen:=r'.length
   exact len_tuple pl (by simp only[List.size_toArray] <;> omega) ⟨.int ys.length,H,I.tok _,⟨s.toks+1,by rw[List.size_toArray,hlen]⟩,q⟩
theorem V_:fj X (.builtin "len") (λxs H Q=>∃z,xs=[.str z]/\z.length<=sizeLine/\Q (.int z.length) H):=by
 intro pins s σ H xs us Q I r h
 obtain⟨z,rfl,hz,q⟩:=h
 obtain⟨u,rfl,t,rfl⟩:=vals1 r
 have hn:=nJ
 exact len_str (by omega) ⟨.int z.length,H,I.tok _,⟨_,rfl⟩,q⟩
theorem rW:fj X (.type "list") (λxs H Q=>∃p ys,xs=[.ref p]/\(au X.K H p ys\/aq X.K H p ys)/\∀l,H l=none->Q (.ref l) (upd H l (.lst ys))):=by
 intro pins s σ H xs us Q I r h
 obtain⟨p,ys,rfl,hq,q⟩:=h
 obtain⟨u,rfl,rx⟩:=vals1 r
 cases rx
 have fin:∀(its:List Value),Vals ys its->ys.length<=sizeLine->∀(h':Heap) (c':Nat),(∀b o',s.heap.get? b=some o'->h'.get? b=some o')->
  h'.get? s.heap.objs.size=some { cls:=.type "list",dict:=none,data:=.seq its.toArray c',slots:=#[] }->EP X pins σ Q (.ref s.heap.objs.size) { s with heap:=h' }:=λits r' hz h' c' kp e=>
  ⟨.ref s.heap.objs.size,_,I.laid (t':=s.toks) kp (Nat.le_refl _) (show cG X.prog X.w _ h' _ (.lst ys) from⟨hz,its,c',r',e⟩),rfl,q _ (I.hok.fresh (Nat.le_refl _))⟩
 rcases hq with hq|hq
 . obtain⟨its,r',pl,hz⟩:=I.list hq
   have hlen:=r'.length
   obtain⟨o,ho,hc,n,hd⟩:=pl.isList
   exact call_list_seq p (.inl rfl) ho hc hd (λh' c' kp e=>fin its r' hz h' c' kp e) (by simp only[List.size_toArray] <;> omega)
 . obtain⟨its,r',pl,hz⟩:=I.tuple hq
   have hlen:=r'.length
   obtain⟨o,ho,hc,n,hd⟩:=pl
   exact call_list_seq p (.inr rfl) ho hc hd (λh' c' kp e=>fin its r' hz h' c' kp e) (by simp only[List.size_toArray] <;> omega)
theorem vN:fj X (.type "tuple") (λxs H Q=>∃p ys,xs=[.ref p]/\((au X.K H p ys/\∀l,H l=none->Q (.ref l) (upd H l (.tup ys)))\/(aq X.K H p ys/\Q (.ref p) H))):=by
 intro pins s σ H xs us Q I r h
 obtain⟨p,ys,rfl,h⟩:=h
 obtain⟨u,rfl,rx⟩:=vals1 r
 cases rx
 rcases h with⟨hq,q⟩|⟨hq,q⟩
 . obtain⟨its,r',pl,hz⟩:=I.list hq
   have hlen:=r'.length
   refine call_tuple_list pl.isList (λh' kp=>?_) (by simp only[List.size_toArray] <;> omega)
   have I1:Inv X pins σ H { s with heap:=h' }:=I.kept (t':=s.toks) kp
   have I2:Inv X pins σ (upd H h'.objs.size (.tup ys)) { s with heap:=h'.push { cls:=.type "tuple",data:=.seq its.toArray } }:=
    I1.laid (t':=s.toks) (λb o e=>Heap.get?_push_of_some _ e) (Nat.le_refl _) (show cG X.prog X.w _ _ _ (.tup ys) from⟨hz,its,r',IsTup.new _ _⟩)
   exact⟨.ref h'.objs.size,_,I2,rfl,q _ (I1.hok.fresh (Nat.le_refl _))⟩
 . obtain⟨its,r',pl,hz⟩:=I.tuple hq
   exact call_tuple_same pl ⟨.ref p,H,I,rfl,q⟩
noncomputable def GQ (K:W.Frag) (T:String) (x:V) (H:Hp):Prop:=match x with
 | .str _=>T="str"
 | .int _=>T="int"
 | .ref p=>(T="list"/\∃xs,au K H p xs)\/(T="tuple"/\∃o,K.lookup p=some o/\o.cls=.type "tuple"/\o.dict=none)\/
    (T="dict"/\((∃kvs,H p=some (.dK kvs))\/∃kvs,H p=some (.dT kvs)))\/(T="set"/\∃S n,H p=some (.set S n))
 |_=>False
theorem Wb {pins:List (Addr × Obj)}{σ:St}{H:Hp}{s:Shared}{T:String}{x:V}{v:Value}(I:Inv X pins σ H s)(r:RelV x v)(ty:GQ X.K T x H):
 s.TypeIs v T/\∀a,v=.ref a->∃ob,s.heap.get? a=some ob/\ob.dict=none:=by
 cases x with
 |str z=>
  obtain⟨t,rfl⟩:=r
  cases(show T="str" from ty)
  exact⟨typeIs_str s z t,λ_ e=>nomatch e⟩
 |int i=>
  obtain⟨t,rfl⟩:=r
  cases(show T="int" from ty)
  exact⟨typeIs_int s i t,λ_ e=>nomatch e⟩
 |ref p=>
  cases r
  rcases ty with⟨rfl,xs,hq⟩|⟨rfl,o,hk,hc,hd⟩|⟨rfl,hk⟩|⟨rfl,S,n,hk⟩
  . obtain⟨its,_,pl,_⟩:=I.list hq
    refine⟨pl.isList.typeIs,λa e=>?_⟩
    cases e
    obtain⟨o,n,e,c,hd,_⟩:=pl
    exact⟨o,e,hd⟩
  . refine⟨⟨o,I.cT p o hk,hc⟩,λa e=>?_⟩
    cases e
    exact⟨o,I.cT _ o hk,hd⟩
  . have z:∃o,s.heap.get? p=some o/\o.ExactDict:=by
     rcases hk with⟨kvs,hk⟩|⟨kvs,hk⟩
     . obtain⟨_,_,_,_,o,_,_,e,ex,_⟩:=I.hok p _ hk
       exact⟨o,e,ex⟩
     . obtain⟨_,_,_,_,o,_,_,e,ex,_⟩:=I.hok p _ hk
       exact⟨o,e,ex⟩
    obtain⟨o,e,ex⟩:=z
    refine⟨⟨o,e,ex.1⟩,λa e2=>?_⟩
    cases e2
    exact⟨o,e,ex.2.1⟩
  . obtain⟨o,_,_,_,e,ex,_⟩:=I.hok p _ hk
    refine⟨⟨o,e,ex.1⟩,λa e2=>?_⟩
    cases e2
    exact⟨o,e,ex.2.1⟩
 |_=>exact False.elim ty
noncomputable def Wc (K:W.Frag) (T:String) (r:V->List V->Hp->VK->Prop) (to:TE) (t:TA):TE:=λσ H Q=>to σ H λx H1=>GQ K T x H1/\t σ H1 λxs H2=>r x xs H2 Q
variable {o e:Expr}{es:List Expr}{to:TE}{t:TA}{name:Str}{apos cpos:Pos}{T id:String}{r:V->List V->Hp->VK->Prop}
theorem rY (pa:PlainAttrs T)(slot:Slot T name id)(hty:typeOf (.builtin id)=pure (.type "method_descriptor"))(hm:vJ X id r)(ho:PE X o to)(ha:PA X (e::es) t)
 (hbase:attributeBase o name X.env (eval o X.env)=eval o X.env:=by rfl)
 (hfew:((backTo cpos (starEach (e::es) X.env)).all (λx=> !x.1) && (backToKw cpos (keywordEach [] X.env)).all (λx=>x.1.isSome)
   && decide ((e::es).length+([]:List Keyword).length+(if([]:List Keyword).isEmpty then 0 else 1)<30))=true:=by rfl)
 (hline:(apos.endLine == cpos.line)=true:=by rfl) (hs:starEach (e::es) X.env=(false,eval e X.env)::starEach es X.env:=by rfl) (hplain:(backTo cpos (starEach es X.env)).any (·.1)=false:=by rfl):
 PE X (.Call (.Attribute o name apos) (e::es) [] cpos) (Wc X.K T r to t):=by
 intro pins s σ H Q I h
 refine wpAny_Call_method_late hbase hfew hline rfl (aL (ho pins s σ H _ I h) λv s1 ⟨x,H1,I1,r1,ty,q1⟩=>?_)
 obtain⟨h1,h2⟩:=Wb I1 r1 ty
 refine⟨T,id,pa,slot,hty,h1,h2,?_⟩
 have hA:=ha cpos pins s1 σ H1 _ I1 q1
 rw[hs] at hA ⊢
 refine Calls.callWith_builtin (by show(false || (backTo cpos (starEach es X.env)).any (·.1))=false;rw[hplain] <;> rfl) (Calls.evalArgs_plain ?_)
 exact aL hA λus s2 ⟨vs,H2,I2,r2,q2⟩=>hm pins s2 σ H2 x vs v us Q I2 r1 r2 q2
/- xs.append(e),list.index on a module's tuple .. are vJ facts of 06m -/
end
noncomputable def vO (X:Cx) (id:String) (r:V->List V->Hp->VK->Prop):Prop:=
 ∀(pins:List (Addr × Obj)) (s:Shared) (σ:St) (H:Hp) (x:V) (xs:List V) (v:Value) (us:List Value) (Q:VK),Inv X pins σ H s->RelV x v->Vals xs us->r x xs H Q->
  wpAny (model X.prog X.w) X.A (call (.builtin id) (v::us)) (EP X pins σ Q) X.xe s
theorem Vals.one:∀{x:V}{us:List Value},Vals [x] us->∃u,us=[u]/\RelV x u
 |_,_,.cons r .nil=>⟨_,rfl,r⟩
section
variable {X:Cx}{pins:List (Addr × Obj)}{σ:St}{H:Hp}{s:Shared}{l b:Addr}{xs ys zs:List V}
theorem Inv.GR {its its':List Value}{n:Nat}{f:Array Value->Array Value}{t':Nat}(I:Inv X pins σ H s)(hH:H l=some (.lst xs))
 (e:s.heap.get? l=some { cls:=.type "list",data:=.seq its.toArray n }) (hf:f its.toArray=its'.toArray) (hv:Vals ys its') (hz:ys.length<=sizeLine):
 Inv X pins σ (upd H l (.lst ys)) { s with heap:=s.heap.update l (Obj.mapSeq f),toks:=t' }:=by
 have q:=PySem.IsL.update e f
 rw[hf] at q
 refine I.write (x:=l) (e:=l) (by rw[hH];exact trivial) (.inl rfl) (λb' u hb hu=>(Heap.get?_update_other s.heap (Obj.mapSeq f) (Ne.symm hb)).trans hu) ⟨_,q⟩ ?_
 exact⟨hz,its',_,hv,q⟩
theorem Inv.vP (I:Inv X pins σ H s)(hH:H l=some (.lst xs)):xs.length<=sizeLine/\∃(its:List Value) (n:Nat),Vals xs its/\xs.length=its.length/\s.heap.get? l=some { cls:=.type "list",data:=.seq its.toArray n }:=by
 obtain⟨z,its,n,r,e⟩:=I.hok l _ hH
 exact⟨z,its,n,r,r.length,e⟩
theorem Wk {n:Nat}(h:n<=sizeLine):Builtin.List.listTooLong n=false:=by
 unfold Builtin.List.listTooLong
 exact decide_eq_false (by omega)
end
section
variable {X:Cx}
noncomputable def Wl:V->List V->Hp->VK->Prop:=λx vs H Q=>∃l xs y,x=.ref l/\vs=[y]/\H l=some (.lst xs)/\xs.length<sizeLine/\Q .non (upd H l (.lst (xs++[y])))
theorem Wm:vO X "list.append" Wl:=by
 intro pins s σ H x vs v us Q I rx rv h
 obtain⟨l,xs,y,rfl,rfl,hH,hz,q⟩:=h
 cases rx
 obtain⟨u,rfl,ru⟩:=rv.one
 obtain⟨z,its,n,r,hl,e⟩:=I.vP hH
 refine call_meets F.slot_list_append ⟨_,e,rfl⟩ F.entry_list_append (F.args_list_append_2 _ _) (PySem.list_append l its.toArray n u (by rw[List.size_toArray];omega)) ⟨e,?_⟩
 refine⟨.non,_,I.GR (its':=its++[u]) hH e (by simp) (r.append (.cons ru .nil)) ?_,rfl,q⟩
 rw[List.length_append,List.length_singleton]
 omega
noncomputable def Wn:V->List V->Hp->VK->Prop:=λx vs H Q=>∃l b xs zs,x=.ref l/\vs=[.ref b]/\H l=some (.lst xs)/\H b=some (.lst zs)/\xs.length+zs.length<=sizeLine/\Q .non (upd H l (.lst (xs++zs)))
theorem Wq:vO X "list.extend" Wn:=by
 intro pins s σ H x vs v us Q I rx rv h
 obtain⟨l,b,xs,zs,rfl,rfl,hH,hB,hz,q⟩:=h
 cases rx
 obtain⟨u,rfl,ru⟩:=rv.one
 cases ru
 obtain⟨z,its,n,r,hl,e⟩:=I.vP hH
 obtain⟨z2,its2,n2,r2,hl2,e2⟩:=I.vP hB
 have hsz:its.toArray.size+its2.toArray.size<=sizeLine:=by rw[List.size_toArray,List.size_toArray];omega
 have Wr:¬(!its.toArray.isEmpty && Builtin.List.listTooLong (its.toArray.size+its2.toArray.size))=true:=by
  rw[Wk hsz,Bool.and_false]
  exact Bool.false_ne_true
 refine call_meets F.slot_list_extend ⟨_,e,rfl⟩ F.entry_list_extend (F.args_list_extend_2 _ _)
  (AutoSeq1.list_extend_list_list_0 l its.toArray n b its2.toArray n2 Wr (by rw[List.size_toArray];omega) (by omega)) ⟨e,e2,?_⟩
 refine⟨.non,_,I.GR (its':=its++its2) hH e (by simp) (r.append r2) ?_,rfl,q⟩
 rw[List.length_append]
 omega
end
section
variable {prog:Program}{w:World}{A:Around}{E:Value->Shared->Prop}{s:Shared}
end
section
variable {X:Cx}
end
section
variable {κ:Type} [DecidableEq κ]
noncomputable def dB (kvs:List (κ × V)) (k:κ):Option V:=(kvs.find? λkv=>decide (kv.1=k)).map (·.2)
noncomputable def putK (kvs:List (κ × V)) (k:κ) (v:V):List (κ × V):=
 if(kvs.any λkv=>decide (kv.1=k))=true then kvs.map (λkv=>if kv.1=k then(kv.1,v) else kv) else kvs++[(k,v)]
theorem rZ {p:κ × V}{r:List (κ × V)}{k:κ}(e:p.1=k):dB (p::r) k=some p.2:=by simp[dB,List.find?_cons,e]
theorem su {p:κ × V}{r:List (κ × V)}{k:κ}(e:¬p.1=k):dB (p::r) k=dB r k:=by simp[dB,List.find?_cons,e]
theorem vQ (k:κ):∀kvs:List (κ × V),(kvs.any λkv=>decide (kv.1=k))=(dB kvs k).isSome
 |[]=>rfl
 |p::r=>by
  rw[List.any_cons]
  by_cases e:p.1=k
  . simp only[rZ e,decide_eq_true e,Bool.true_or,Option.isSome_some]
  . rw[su e,decide_eq_false e,Bool.false_or];exact vQ k r
theorem GX (kvs:List (κ × V))(k:κ)(v:V):(putK kvs k v).length<=kvs.length+1:=by
 unfold putK
 split
 . rw[List.length_map];omega
 . rw[List.length_append,List.length_cons,List.length_nil];omega
theorem dN.vR {o:Option V}{u:Option Value}(r:dN o u):o.isSome=u.isSome:=by
 cases o with
 |none=>cases u with
  |none=>rfl
  |some _=>exact(show False from r).elim
 |some _=>cases u with
  |none=>exact(show False from r).elim
  |some _=>rfl
theorem KV.val {kvs:List (κ × V)}{vs:List (κ × Value)}(r:KV kvs vs)(k:κ):dN (dB kvs k) (valueAt vs k):=by
 unfold KV at r
 induction r with
 |nil=>exact True.intro
 |@cons p q ps qs h t ih=>
  obtain⟨h1,h2⟩:=h
  by_cases e:p.1=k
  . have e':q.1=k:=h1.symm.trans e
    have b:valueAt (q::qs) k=some q.2:=by simp[valueAt,List.find?_cons,e']
    rw[rZ e,b];exact h2
  . have e':¬q.1=k:=λz=>e (h1.trans z)
    have b:valueAt (q::qs) k=valueAt qs k:=by simp[valueAt,List.find?_cons,e']
    rw[su e,b];exact ih
theorem KV.any {kvs:List (κ × V)}{vs:List (κ × Value)}(r:KV kvs vs)(k:κ):(kvs.any λkv=>decide (kv.1=k))=vs.any λkv=>decide (kv.1=k):=by
 unfold KV at r
 induction r with
 |nil=>rfl
 |cons h t ih=>rw[List.any_cons,List.any_cons,ih,h.1]
theorem KV.repl {kvs:List (κ × V)}{vs:List (κ × Value)}(r:KV kvs vs)(k:κ){y:V}{u:Value}(ry:RelV y u):
 KV (kvs.map λkv=>if kv.1=k then(kv.1,y) else kv) (vs.map λkv=>if kv.1=k then(kv.1,u) else kv):=by
 unfold KV at r ⊢
 induction r with
 |nil=>exact .nil
 |@cons p q ps qs h t ih=>
  rw[List.map_cons,List.map_cons]
  refine .cons ?_ ih
  obtain⟨h1,h2⟩:=h
  by_cases e:p.1=k
  . rw[if_pos e,if_pos (h1.symm.trans e)];exact⟨h1,ry⟩
  . rw[if_neg e,if_neg (λz=>e (h1.trans z))];exact⟨h1,h2⟩
theorem KV.put {kvs:List (κ × V)}{vs:List (κ × Value)}(r:KV kvs vs)(k:κ){y:V}{u:Value}(ry:RelV y u):KV (putK kvs k y) (stored vs k u):=by
 unfold putK stored
 rw[r.any k]
 by_cases e:(vs.any λkv=>decide (kv.1=k))=true
 . rw[if_pos e,if_pos e];exact r.repl k ry
 . rw[if_neg e,if_neg e];exact Paired.snoc r ⟨rfl,ry⟩
theorem KV.length {kvs:List (κ × V)}{vs:List (κ × Value)}(r:KV kvs vs):kvs.length=vs.length:=Paired.length r
end
theorem sy {P:Program}{w:World}{k:Key}{u:Value}(r:RelV (kV k) u):(cu P w).is k u=true:=by
 cases k with
 |inl i=>obtain⟨t,e⟩:=(show ∃t,u=Value.int i t from r);subst e;exact Ub P w i t
 |inr x=>obtain⟨t,e⟩:=(show ∃t,u=Value.str x t from r);subst e;exact Uc P w x t
theorem GZ {P:Program}{w:World}:∀{ks:List Key}{us:List Value},Vals (ks.map kV) us->ItemsAre (cu P w) ks us
 |[],_,r=>by rw[List.map_nil] at r;cases r;exact .nil
 |k::ks,_,r=>by
  rw[List.map_cons] at r
  cases r with
  |cons h t=>exact .cons (sy h) (GZ t)
noncomputable abbrev KT (H:Hp):List (List Key × V)->List (List Key × Addr × Value)->Prop:=Paired λp q=>p.1=q.1/\H q.2.1=some (.tup (p.1.map kV))/\RelV p.2 q.2.2
theorem KT.val {H:Hp}{kvs:List (List Key × V)}{xs:List (List Key × Addr × Value)}(r:KT H kvs xs)(k:List Key):dN (dB kvs k) ((atKey xs k).map (·.2)):=by
 induction r with
 |nil=>exact True.intro
 |@cons p q ps qs h t ih=>
  obtain⟨h1,_,h2⟩:=h
  by_cases e:p.1=k
  . have e':q.1=k:=h1.symm.trans e
    have b:atKey (q::qs) k=some q.2:=by simp[atKey,List.find?_cons,e']
    rw[rZ e,b];exact h2
  . have e':¬q.1=k:=λz=>e (h1.trans z)
    have b:atKey (q::qs) k=atKey qs k:=by simp[atKey,List.find?_cons,e']
    rw[su e,b];exact ih
theorem KT.repl {H:Hp}{kvs:List (List Key × V)}{xs:List (List Key × Addr × Value)}(r:KT H kvs xs)(k:List Key){y:V}{u:Value}(ry:RelV y u):
 KT H (kvs.map λkv=>if kv.1=k then(kv.1,y) else kv) (xs.map (putAt k u)):=by
 induction r with
 |nil=>exact .nil
 |@cons p q ps qs h t ih=>
  rw[List.map_cons,List.map_cons]
  refine .cons ?_ ih
  obtain⟨h1,h2,h3⟩:=h
  unfold putAt
  by_cases e:p.1=k
  . rw[if_pos e,if_pos (h1.symm.trans e)];exact⟨h1,h2,ry⟩
  . rw[if_neg e,if_neg (λz=>e (h1.trans z))];exact⟨h1,h2,h3⟩
theorem KT.put {H:Hp}{kvs:List (List Key × V)}{xs:List (List Key × Addr × Value)}(r:KT H kvs xs)(k:List Key){b:Addr}{y:V}{u:Value}(hb:H b=some (.tup (k.map kV)))(ry:RelV y u):
 KT H (putK kvs k y) (storedH xs k b u):=by
 have e:(kvs.any λkv=>decide (kv.1=k))=(atKey xs k).isSome:=by
  rw[vQ,(r.val k).vR,Option.isSome_map]
 unfold putK storedH
 rw[e]
 by_cases q:(atKey xs k).isSome=true
 . rw[if_pos q,if_pos q];exact r.repl k ry
 . rw[if_neg q,if_neg q];exact Paired.snoc r ⟨rfl,hb,ry⟩
theorem KT.keeps {H H':Hp}{kvs:List (List Key × V)}{xs:List (List Key × Addr × Value)}(r:KT H kvs xs)(ht:∀b ys,H b=some (.tup ys)->H' b=some (.tup ys)):KT H' kvs xs:=
 Paired.u5 r λ_ _ z=>⟨z.1,ht _ _ z.2.1,z.2.2⟩
section
variable {P:Program}{w:World}{H:Hp}{h:Heap}{a:Addr}
theorem G3 {u:HO}(ok:cD P w H h)(e:Rd H a u):cG P w H h a u:=e.ok ok
theorem pG {kvs:List (Key × V)}(ok:cD P w H h)(e:Rd H a (.dK kvs)):kvs.length<=sizeLine/\(a == sysModules)=false/\∃vs,KV kvs vs/\h.DictOf (cu P w) a vs:=
 show cG P w H h a (.dK kvs) from G3 ok e
theorem sE {kvs:List (Key × V)}(ok:cD P w H h)(e:H a=some (.dK kvs)):kvs.length<=sizeLine/\(a == sysModules)=false/\∃vs,KV kvs vs/\h.DictOf (cu P w) a vs:=pG ok (.inl e)
theorem sG {ks:List Key}(ok:cD P w H h)(e:H a=some (.tup (ks.map kV))):(tupleKind (cu P w)).is h ks a:=by
 obtain⟨_,its,r,o,h1,h2,n,h3⟩:=(show cG P w H h a (.tup (ks.map kV)) from ok a _ e)
 exact⟨o,its.toArray,n,h1,h2,h3,by simpa using GZ r⟩
theorem sH {kvs:List (List Key × V)}(ok:cD P w H h)(e:Rd H a (.dT kvs)):kvs.length<=sizeLine/\(a == sysModules)=false/\
 ∃xs,KT H kvs xs/\h.DictOfH (tupleKind (cu P w)) a xs:=by
 obtain⟨z,y,xs,r,o,es,ep,h1,h2,h3,h4,h5⟩:=(show cG P w H h a (.dT kvs) from G3 ok e)
 refine⟨z,y,xs,r,o,es,ep,h1,h2,h3,h4,λx hx=>?_,h5⟩
 have all:∀{l:List (List Key × V)} {m:List (List Key × Addr × Value)},KT H l m->∀x∈m,(tupleKind (cu P w)).is h x.1 x.2.1:=by
  intro l m q
  induction q with
  |nil=>intro x hx;exact nomatch hx
  |@cons p q ps qs hq t ih=>
   intro x hx
   rcases List.mem_cons.mp hx with e|hx
   . subst e
     exact sG ok (by rw[<-hq.1];exact hq.2.1)
   . exact ih x hx
 exact all r x hx
theorem Ws {kvs:List (List Key × V)}(ok:cD P w H h)(e:H a=some (.dT kvs)):kvs.length<=sizeLine/\(a == sysModules)=false/\
 ∃xs,KT H kvs xs/\h.DictOfH (tupleKind (cu P w)) a xs:=sH ok (.inl e)
end
noncomputable def cQ (H:Hp) (a:Addr) (y:V) (r:Option V):Prop:=
 (∃kvs k,Rd H a (.dK kvs)/\y=kV k/\r=dB kvs k)\/∃kvs k b,Rd H a (.dT kvs)/\y=.ref b/\H b=some (.tup (k.map kV))/\r=dB kvs k
noncomputable def lZ (H:Hp) (a:Addr) (y v:V) (H':Hp):Prop:=
 (∃kvs k,H a=some (.dK kvs)/\y=kV k/\kvs.length<sizeLine/\H'=upd H a (.dK (putK kvs k v)))\/
 ∃kvs k b,H a=some (.dT kvs)/\y=.ref b/\H b=some (.tup (k.map kV))/\kvs.length<sizeLine/\H'=upd H a (.dT (putK kvs k v))
theorem cQ.k {H:Hp}{a:Addr}{kvs:List (Key × V)}{k:Key}(e:H a=some (.dK kvs)):cQ H a (kV k) (dB kvs k):=.inl ⟨kvs,k,.inl e,rfl,rfl⟩
theorem lZ.k {H:Hp}{a:Addr}{kvs:List (Key × V)}{k:Key}{v:V}(e:H a=some (.dK kvs))(hl:kvs.length<sizeLine):lZ H a (kV k) v (upd H a (.dK (putK kvs k v))):=.inl ⟨kvs,k,e,rfl,hl,rfl⟩
section
variable {X:Cx}{pins:List (Addr × Obj)}{σ:St}{H:Hp}{s:Shared}{a:Addr}{y v:V}{u r:Value}{o:Option V}{A:Around}{E:Value->Shared->Prop}
theorem Inv.big (I:Inv X pins σ H s):sysModules<s.heap.objs.size:=by
 have h:mainGlobals<s.heap.objs.size:=(I.mod.glob.keeps I.bk).lt
 exact Nat.lt_trans (by decide) h
theorem Wt {Q:Value->Shared->Prop}(hu:A.units+1<cLine)(I:Inv X pins σ H s)(g:cQ H a y (some v))(ry:RelV y u)(h:∀w' s',Inv X pins σ H s'->RelV v w'->Q w' s'):
 wpAny (model X.prog X.w) A (getItem (.ref a) u) Q E s:=by
 rcases g with⟨kvs,k,e,ey,l⟩|⟨kvs,k,b,e,ey,eb,l⟩
 . subst ey
   obtain⟨z,hd,vs,rel,dd⟩:=pG I.hok e
   obtain⟨w',hw,gG⟩:=dN.some_of (v:=v) (o:=valueAt vs k) (by rw[l];exact rel.val k)
   exact wpAny_getItem_of (sy ry) dd.mapOf hw (h w' _ (I.tok _) gG)
 . subst ey
   cases(show u=Value.ref b from ry)
   obtain⟨z,hd,xs,rel,dd⟩:=sH I.hok e
   obtain⟨w',hw,gG⟩:=dN.some_of (v:=v) (o:=(atKey xs k).map (·.2)) (by rw[l];exact rel.val k)
   obtain⟨p,hp,hp2⟩:=Option.map_eq_some_iff.mp hw
   refine wpAny_getItem_heap (tupleKind_room_in1 hu) (sG I.hok eb) dd hp ?_
   rw[hp2]
   exact h w' _ (I.tok _) gG
theorem Wu {Q:Value->Shared->Prop}(hu:A.units+1<cLine)(I:Inv X pins σ H s)(g:cQ H a y o)(ry:RelV y u)(h:∀s',Inv X pins σ H s'->Q (.bool o.isSome) s'):
 wpAny (model X.prog X.w) A (compareOp .In u (.ref a)) Q E s:=by
 rcases g with⟨kvs,k,e,ey,l⟩|⟨kvs,k,b,e,ey,eb,l⟩
 . subst ey
   obtain⟨z,hd,vs,rel,dd⟩:=pG I.hok e
   refine wpAny_in_of (sy ry) hd dd.mapOf ?_
   rw[<-(rel.val k).vR,<-l]
   exact h _ (I.tok _)
 . subst ey
   cases(show u=Value.ref b from ry)
   obtain⟨z,hd,xs,rel,dd⟩:=sH I.hok e
   refine wpAny_in_heap (tupleKind_room_in1 hu) (sG I.hok eb) hd dd ?_
   have q:=(rel.val k).vR
   rw[Option.isSome_map] at q
   rw[<-q,<-l]
   exact h _ (I.tok _)
theorem vU {h':Heap}{t':Nat}{ob:HO}(I:Inv X pins σ H s)(mu:oZ (H a))(hs:Heap.SameBut a s.heap h')(he:∃q,h'.get? a=some q)(new:cG X.prog X.w (upd H a ob) h' a ob):
 Inv X pins σ (upd H a ob) { s with heap:=h',toks:=t' }:=
 I.write (x:=a) (e:=a) mu (.inl rfl) (λb q hb z=>(hs.2 b hb).trans z) he new
theorem G4 {P:Program}{w:World}{H':Hp}{h':Heap}{kvs:List (Key × V)}{vs:List (Key × Value)}(z:kvs.length<=sizeLine)(hd:(a == sysModules)=false)(rel:KV kvs vs)(dd:h'.DictOf (cu P w) a vs):
 cG P w H' h' a (.dK kvs):=⟨z,hd,vs,rel,dd⟩
theorem Wv {H':Hp}{Q:Unit->Shared->Prop}(hu:A.units+1<cLine)(I:Inv X pins σ H s)(g:lZ H a y v H')(ry:RelV y u)(rv:RelV v r)(h:∀s',Inv X pins σ H' s'->Q () s'):
 wpAny (model X.prog X.w) A (setItem (.ref a) u r) Q E s:=by
 rcases g with⟨kvs,k,e,ey,l,eH⟩|⟨kvs,k,b,e,ey,eb,l,eH⟩
 . subst ey eH
   obtain⟨z,hd,vs,rel,dd⟩:=sE I.hok e
   have hz:vs.length<=sizeLine:=by rw[<-rel.length];exact z
   have hl:(putK kvs k v).length<=sizeLine:=by have:=GX kvs k v;omega
   refine wpAny_setItem_pairs (hsz:=hz) (sy ry) dd λh' mj hs=>h _ ?_
   have he:∃q,h'.get? a=some q:=let⟨q,_,_,hq,_⟩:=mj;⟨q,hq⟩
   exact vU I (by rw[e];exact True.intro) hs he (G4 hl hd (rel.put k rv) mj)
 . subst ey eH
   cases(show u=Value.ref b from ry)
   obtain⟨z,hd,xs,rel,dd⟩:=Ws I.hok e
   have hz:xs.length<=sizeLine:=by rw[<-Paired.length rel];exact z
   have hl:(putK kvs k v).length<=sizeLine:=by have:=GX kvs k v;omega
   refine wpAny_setItem_heap (hsz:=hz) (tupleKind_room_in1 hu) (sG I.hok eb) dd λh' mj hs=>h _ ?_
   obtain⟨q,es,ep,hq,h2,h3,h4,_,h5⟩:=mj
   refine vU I (by rw[e];exact True.intro) hs ⟨q,hq⟩ ⟨hl,hd,_,(rel.put k eb rv).keeps λc ys ec=>?_,q,es,ep,hq,h2,h3,h4,h5⟩
   rw[aB (iV ec e (λz=>nomatch z))]
   exact ec
end
section
variable {X:Cx}{pins:List (Addr × Obj)}{σ:St}{H:Hp}{s:Shared}{a:Addr}{kvs:List (Key × V)}{k:Key}{u:Value}{A:Around}{E:Value->Shared->Prop}
theorem Ww {Q:Value->Shared->Prop}(I:Inv X pins σ H s)(e:Rd H a (.dK kvs))(h:∀t s',Inv X pins σ H s'->Q (.int kvs.length t) s'):wpAny (model X.prog X.w) A (call (.builtin "len") [.ref a]) Q E s:=by
 obtain⟨z,hd,vs,rel,dd⟩:=pG I.hok e
 refine call_len_dict hd dd (by rw[<-rel.length];rw[sizeLine_eq] at z;omega) ?_
 rw[<-rel.length]
 exact h _ _ (I.tok _)
end
noncomputable def G5 (i:Expr):Prop:=∀ov iv,subscripted i false ov iv=operate [ov,iv] (getItem ov iv)
theorem Wx {prog:Program}{w:World}{A:Around}{E:Value->Shared->Prop}{s:Shared}{env:Env}{value slice:Expr}{pos:Pos}{T id:String}{Q:Value->Shared->Prop}
 (hl:typeLookup (.type T) "__getitem__"=pure (some (.builtin id))) (hs:G5 slice)
 (h:wpAny (model prog w) A (eval value env) (λo s₁=>wpAny (model prog w) A (eval slice env) (λi s₂=>s₂.TypeIs o T/\wpAny (model prog w) A (getItem o i) Q E s₂) E s₁) E s):
 wpAny (model prog w) A (eval (.Subscript value slice pos) env) Q E s:=by
 refine Subscript_ (wpAny_mono h (λo s₁ h₁=>wpAny_mono h₁ (λi s₂ h₂=>?_) λ_ _ x=>x) λ_ _ x=>x)
 obtain⟨hT,h₂⟩:=h₂
 unfold subscriptTail
 refine wpAny_bind ?_
 rw[getitemInPython_of_ne hT.not_modules]
 refine wpAny_bind (wpAny_specialOf hT hl ?_)
 have fin:wpAny (model prog w) A (subscripted slice false o i) (λr s₃=>wpAny (model prog w) A (letTemporaryGo value o r >>= λ_=>pure r) Q E s₃) E s₂:=by
  rw[hs o i]
  exact wpAny_operating (wpAny_mono h₂ (λr s₃ h₃=>wpAny_bind (wpAny_letTemporaryGo (wpAny_pure h₃))) λ_ _ x=>x)
 first
  |exact wpAny_pure (wpAny_bind fin)
  |exact wpAny_bind (wpAny_pure (wpAny_bind fin))
  |exact wpAny_bind fin
theorem Wy {X:Cx}{pins:List (Addr × Obj)}{σ:St}{H:Hp}{s:Shared}{a:Addr}{y:V}{o:Option V}(I:Inv X pins σ H s)(g:cQ H a y o):s.TypeIs (.ref a) "dict":=by
 rcases g with⟨kvs,k,e,_,_⟩|⟨kvs,k,b,e,_,_,_⟩
 . obtain⟨_,_,vs,_,dd⟩:=pG I.hok e
   exact dd.typeIs
 . obtain⟨_,_,xs,_,dd⟩:=sH I.hok e
   exact dd.typeIs
noncomputable def nO (td ty:TE):TE:=λσ H Q=>td σ H λx H1=>ty σ H1 λy H2=>∃a v,x=.ref a/\cQ H2 a y (some v)/\Q v H2
noncomputable def Wz (ty td:TE):TE:=λσ H Q=>ty σ H λy H1=>td σ H1 λx H2=>∃a o,x=.ref a/\cQ H2 a y o/\Q (.bl o.isSome) H2
noncomputable def WD (td ty tv:TE):TS:=λD σ H=>tv σ H λv H1=>td σ H1 λx H2=>ty σ H2 λy H3=>∃a H4,x=.ref a/\lZ H3 a y v H4/\D.nx σ H4
section
variable {X:Cx}{o i e value:Expr}{pos pos' tpos:Pos}{td ty tv:TE}
theorem iD (hu:X.A.units+1<cLine)(ho:PE X o td)(hi:PE X i ty)(hs:G5 i):PE X (.Subscript o i pos) (nO td ty):=by
 intro pins s σ H Q I h
 refine Wx PySem.F.slot_dict_getitem.lookup hs (aL (ho pins s σ H _ I h) λu s1 ⟨x,H1,I1,rx,q1⟩=>aL (hi pins s1 σ H1 _ I1 q1) λiv s2 ⟨y,H2,I2,ry,a,v,ex,g,q2⟩=>?_)
 subst ex
 obtain rfl:u=Value.ref a:=rx
 exact⟨Wy I2 g,Wt hu I2 g ry λw' s3 I3 gG=>⟨v,H2,I3,gG,q2⟩⟩
theorem G6 (hu:X.A.units+1<cLine)(hi:PE X i ty)(ho:PE X o td):PC X .In i o (Wz ty td):=by
 intro pins s σ H Q I h
 refine aL (hi pins s σ H _ I h) λiv s1 ⟨y,H1,I1,ry,q1⟩=>aL (ho pins s1 σ H1 _ I1 q1) λu s2 ⟨x,H2,I2,rx,a,ov,ex,g,q2⟩=>?_
 subst ex
 obtain rfl:u=Value.ref a:=rx
 exact Wu hu I2 g ry λs3 I3=>⟨.bl ov.isSome,H2,I3,rfl,q2⟩
theorem vV (hu:X.A.units+1<cLine)(ho:PE X o td)(hi:PE X i ty)(hv:PE X value tv)(hs:swapsWith value (some (.Subscript o i pos')) pos.line X.env=pure false):
 PS X (.Assign [.Subscript o i pos'] value pos) (WD td ty tv):=by
 intro pins s σ H D I h
 refine wpAny_Assign_Subscript (aL (hv pins s σ H _ I h) λr s1 ⟨v,H1,I1,rv,q1⟩=>aL (ho pins s1 σ H1 _ I1 q1) λu s2 ⟨x,H2,I2,rx,q2⟩=>aL (hi pins s2 σ H2 _ I2 q2) λiv s3 ⟨y,H3,I3,ry,a,H4,ex,g,q3⟩=>?_) hs
 subst ex
 obtain rfl:u=Value.ref a:=rx
 exact Wv hu I3 g ry rv λs4 I4=>⟨σ,H4,I4,q3⟩
end
theorem WK {P:Program}{w:World}{H:Hp}(h:Heap)(hb:sysModules<h.objs.size):cG P w H (h.push { cls:=.type "dict",data:=.dict #[] }) h.objs.size (.dK []):=
 ⟨Nat.zero_le _,beq_eq_false_iff_ne.mpr (Ne.symm (Nat.ne_of_lt hb)),[],.nil,Heap.DictOf.new h⟩
noncomputable def WL:TE:=λ_ H Q=>∀p,H p=none->Q (.ref p) (upd H p (.dK []))
section
variable {X:Cx}{pos:Pos}
theorem WM:PE X (.Dict [] [] pos) WL:=λpins s σ H Q I h=>
 wpAny_Dict_empty ⟨.ref s.heap.objs.size,_,I.laid (a:=s.heap.objs.size) (o:=.dK []) (t':=s.toks) (λ_ _ q=>Heap.get?_push_of_some _ q) (Nat.le_refl _) (WK s.heap I.big),rfl,h _ (I.hok.fresh (Nat.le_refl _))⟩
end
section
variable {X:Cx}{pins:List (Addr × Obj)}{σ:St}{H:Hp}{s:Shared}{a:Addr}{y d:V}{u r:Value}{o:Option V}{A:Around}{E:Value->Shared->Prop}
end
section
variable {X:Cx}{o e f:Expr}{apos cpos:Pos}{td ty tx:TE}
end
section
variable {X:Cx}{pins:List (Addr × Obj)}{σ:St}{H:Hp}{s:Shared}{a:Addr}{kvs:List (Key × V)}{A:Around}{E:Value->Shared->Prop}
end
section
variable {X:Cx}{pins:List (Addr × Obj)}{σ:St}{H:Hp}{s:Shared}{a:Addr}{y:V}{u:Value}{A:Around}{E:Value->Shared->Prop}
end
end L2
namespace G7
open PySem PySem.W PySem.Calls PyProof.Rows
theorem WQ {P:Params}{h:Heap}:∀(ns:List Int) (vs:List Value),WellAll P h vs (ns.map WData.int)->IntsAre vs ns:=by
 intro ns
 induction ns with
 |nil=>
  intro vs w
  rw[List.map_nil] at w
  cases w
  exact .nil
 |cons n ns ih=>
  intro vs w
  rw[List.map_cons] at w
  cases w with
  |cons a b=>
   cases a
   exact .cons _ _ (ih _ b)
theorem WR {l:OpenLaw}{n:Nat}(hn:l.most=some n){P:Params}{h:Heap}{args:List WData}{vals:List Value}
 (hpre:l.row.toRowW.claim.pre args=true) (hwl:WellAll P h vals args):
 ∃a vs ns,vals=[Value.ref a]/\args=[WData.list (ns.map WData.int)]/\h.get? a=some { cls:=.type "list",data:=.seq vs.toArray }/\IntsAre vs ns/\ns.length<=n:=by
 have hsh:WShape.hasAll [] args [.list .int]=true:=(pre_splitW hpre).1
 have hc:l.pre.holds [] { args:=args }=true:=(pre_splitW hpre).2
 obtain⟨d,r,rfl,h1,h2⟩:=hasAllW_cons hsh
 obtain rfl:=hasAllW_nil h2
 obtain⟨xs,rfl,h3⟩:=hasW_list h1
 obtain⟨ns,rfl⟩:=items_int h3
 have hlen:ns.length<=n:=by
  unfold OpenLaw.pre at hc
  have h4:(WTm.not (.lt (.lit (.int (n:Int))) (.len (.arg 0)))).holds [] { args:=[.list (ns.map .int)] }=true:=by
   have h4:=(holds_andW hc).1
   rw[hn] at h4
   exact h4
  have h5:=condW_of h4 (w_not (w_lt w_lit (w_len_list (w_arg rfl))))
  rw[List.length_map] at h5
  refine Nat.le_of_not_lt λq=>?_
  have q':(n:Int)<((ns.length:Nat):Int):=by omega
  first
   |(rw[decide_eq_true q'] at h5;exact absurd h5 (by decide))
   |(simp at h5;omega)
 cases hwl with
 |cons w1 w2=>
  cases w2
  cases w1 with
  |list ho hall=>exact⟨_,_,ns,rfl,rfl,ho,WQ ns _ hall,hlen⟩
theorem WT (l:OpenLaw)(args:List WData):l.row.toRowW.claim.post args (.bool true) args=true:=
 postW_of (r:=l.row.toRowW) (X:=(true == true))
  (show WShape.has [] (.bool true) .bool=true by first|rfl|decide|simp[WShape.has,WShape.arms,WShape.armsAll])
  (show(WTm.eq .res (.lit (.bool true))).value [] { args:=args,res:=some (.bool true),after:=args }=some (.bool (true == true)) from w_eq_bool (w_res rfl) w_lit) rfl
theorem WW {l:OpenLaw}{n:Nat}{q:Program}{loose:List Str}{XP:(Str->Option Value)->Heap->Prop}{YP:World->Heap->Prop}{d:DefRec}
 (hn:l.most=some n) (hdf:d.params.defaults=[])
 (call:∀(w:World) (s₀ s₁:Shared) (mg mb:Str->Option Value) (fa:Addr) (o:Obj) (pm cd doc:Value) (a:Addr) (vs:List Value) (ns:List Int),
   Ground q loose [] XP w s₀ mg mb s₁.heap->YP w s₁.heap->
   s₁.heap.get? fa=some o->o.data=.func (docDef d.name d.params d.body d.scope pm cd doc)->s₁.heap.CodeRec cd d.name->mg d.name=some (.ref fa)->
   s₁.heap.get? a=some { cls:=.type "list",data:=.seq vs.toArray }->IntsAre vs ns->ns.length<=n->s₁.gens=#[]->
   codeAny (model l.prog w) callerA (.call (.ref fa) ⟨[.ref a],[]⟩) (λr s'=>r=.ok (.ret (.bool true))/\OldK s₁.heap s'.heap/\s'.os=s₁.os/\AllBare s'.gens) s₁):
 WalkO q loose XP YP l.row.toRowW d [] (λf vs=>PySem.call f vs):=by
 intro w s₀ s₁ mg mb G Y fa o pm cd doc dV kV ho hd hcd hD hmg hg args vals as hpre hlay hrd hwl hlo
 obtain rfl:dV=.none:=Dflts.none hD hdf
 obtain rfl:kV=.none:=Dflts.noKw hD
 obtain⟨a,vs,ns,rfl,rfl,hobj,hints,hlen⟩:=WR hn hpre hwl
 refine enter_call (codeAny_mono (call w s₀ s₁ mg mb fa o pm cd doc a vs ns G Y ho (fd_plain hd) hcd hmg hobj hints hlen hg) λr s' hq=>?_)
 obtain⟨rfl,h2,h3,h4⟩:=hq
 exact⟨.inl ⟨.bool true,.bool true,[],rfl,λ_=>rfl,.bool true,WT l _,λ_=>⟨List.Pairwise.nil,λ_ hm=>(nomatch hm)⟩⟩,h2,h3,h4⟩
section
variable {prog:Program}{w:World}{A:Around}{E:Value->Shared->Prop}{s:Shared}{K:Frag}
end
end G7
namespace L2
open PySem PySem.Spec PyProof.Rows
theorem G8:∀{vs:List Value}{ns:List Int},IntsAre vs ns->Vals (ns.map V.int) vs
 |_,_,.nil=>.nil
 |_,_,.cons n t h=>.cons ⟨t,rfl⟩ (G8 h)
noncomputable abbrev aH:iC:=λ_ _ _ _ _ _=>False
noncomputable abbrev E0:XK:=λ_ _ _=>False
theorem aO {X:Cx}:Passes aH X E0:=λ_ _ _ _ _ _ _ h=>h.elim
structure je (K:W.Frag) (x qual:Str) (st:Stmt) (f:Addr) (fd:FuncData):Prop where
 ex:∃(oc:Value) (od:Option Addr) (kV doc pm:Value) (an:Option Addr) (cdv ct:Value) (osl:Array (Option Value)),
  fd=W.fnOf x qual (bC st) (bw st) (aG st) .none kV doc pm an cdv ct/\K.lookup f=some ⟨oc,od,.func fd,osl⟩/\W.codeIn K cdv qual=true
 kp:W.keepIn K (.ref f)=true
variable {P:Program}{w:World}{K:W.Frag}{mg:Str->Option Value}{base:Heap}
theorem je.ok {x qual:Str}{st:Stmt}{f:Addr}{fd:FuncData}{N ps:List Str}{k:Nat}{sp:Sp}(F:je K x qual st f fd)(S:bJ N ps (aG st))(len:∀vs H Q E,sp vs H Q E->vs.length=ps.length)
 (hbody:∀(cdv:Value) (A:Around) (outer:List Env) (s:Shared) (H:Hp) (vs:List V) (Q:VK) (E:XK),cN k (A.deeper (envOfC qual (aG st) s.heap.objs.size f cdv))->sp vs H Q E->
   ∃t,eZ (lX aH P w K mg base N qual (aG st) f cdv A outer s H E).nj (bw st) t/\t { nx:=λ_ H'=>Q .non H',rt:=Q } (start N vs) H):aC P w K mg base aH (k+1) f fd ps sp:=by
 obtain⟨oc,od,kV,doc,pm,an,cdv,ct,osl,rfl,lk,hcd⟩:=F.ex
 refine Gy lk hcd S len λA outer s H vs Q E hr hsp=>?_
 obtain⟨t,h,q⟩:=hbody cdv A outer s H vs Q E hr hsp
 exact⟨t,h.nj,q⟩
theorem je.binds {x qual:Str}{st:Stmt}{f:Addr}{fd:FuncData}{ps:List Str}(F:je K x qual st f fd)
 (h:∀(kV doc pm:Value) (an:Option Addr) (cdv ct:Value) (us:List Value),us.length=ps.length->bindArgs (W.fnOf x qual (bC st) (bw st) (aG st) .none kV doc pm an cdv ct) ⟨us,[]⟩=pure (ps.zip us)):Binds K fd ps []:=by
 obtain⟨oc,od,kV,doc,pm,an,cdv,ct,osl,rfl,lk,hcd⟩:=F.ex
 exact .all (h kV doc pm an cdv ct)
theorem WX {x qual:Str}{st:Stmt}{f:Addr}{oc:Value}{od an:Option Addr}{osl:Array (Option Value)}{kV doc pm cdv ct:Value}(l:K.lookup f=some ⟨oc,od,.func (W.fnOf x qual (bC st) (bw st) (aG st) .none kV doc pm an cdv ct),osl⟩)
 (c:W.codeIn K cdv qual=true) (k:W.keepIn K (.ref f)=true):je K x qual st f (W.fnOf x qual (bC st) (bw st) (aG st) .none kV doc pm an cdv ct):=⟨⟨oc,od,kV,doc,pm,an,cdv,ct,osl,rfl,l,c⟩,k⟩
theorem iG {A:Around}{k:Nat}(hr:cN k A):A.units+1<cLine:=Nat.lt_of_le_of_lt (Nat.add_le_add_left (by decide:1<=64) _) hr.units
theorem cX {n:Nat}(h:n<=1000):n<sizeLine:=Nat.lt_of_le_of_lt h (by decide)
section
variable {X:Cx}
theorem pv (i:Nat){x:Str}{pos:Pos}(hN:X.N[i]? =some x:=by rfl)(hv:qY X.env.scope x:=by first|exact Or.inl rfl|exact Or.inr (Or.inl rfl)|exact Or.inr (Or.inr rfl))(hd:(x == ("__debug__":Str))=false:=by decide)
 (hcd:(x == ("__classdict__":Str))=false:=by decide):PE X (.Name x pos) (aV i):=Ul hN hv hd hcd
end
theorem bM {A B:Prop}(h:B):if false=true then A else B:=by
 rw[if_neg Bool.false_ne_true]
 exact h
theorem bW {A B:Prop}(h:A):if true=true then A else B:=by
 rw[if_pos rfl]
 exact h
theorem dH {c A B:Prop} [Decidable c](h1:c->A)(h2:¬c->B):if c then A else B:=by
 by_cases h:c
 . rw[if_pos h]
   exact h1 h
 . rw[if_neg h]
   exact h2 h
theorem WY {c A B:Prop} [Decidable c](hc:c)(h:B):if(!decide c)=true then A else B:=by
 rw[decide_eq_true hc]
 exact bM h
noncomputable def Same (H H':Hp):Prop:=∀b o,H b=some o->H' b=some o
theorem Same.refl (H:Hp):Same H H:=λ_ _ h=>h
theorem Same.trans {H H1 H2:Hp}(a:Same H H1)(b:Same H1 H2):Same H H2:=λc o h=>b c o (a c o h)
section
variable {X:Cx}
theorem vW:fj X (.builtin "len") (λxs H Q=>∃a kvs,xs=[V.ref a]/\H a=some (.dK kvs)/\Q (.int kvs.length) H):=by
 intro pins s σ H xs us Q I r h
 obtain⟨a,kvs,rfl,ha,q⟩:=h
 obtain⟨u,rfl,ru⟩:=vals1 r
 cases ru
 exact Ww I (.inl ha) λt s' I'=>⟨.int kvs.length,H,I',⟨t,rfl⟩,q⟩
end
section
variable {κ:Type} [DecidableEq κ]
end
theorem G9 {g:Str->NameKind->NameKind}{x:Str}:∀names:List (Str × NameKind),
 (names.map λy=>(y.1,g y.1 y.2)).lookup x=(names.lookup x).map (g x)
 |[]=>rfl
 |(n,k)::r=>by
  show List.lookup x ((n,g n k)::_)=_
  rw[List.lookup_cons,List.lookup_cons,G9 r]
  cases hx:x == n with
  |true=>rw[eq_of_beq hx];rfl
  |false=>rfl
noncomputable def jf (env:Env) (n:Str) (k:NameKind):NameKind:=
 if(k == .free && env.scope.kind == .function && env.kindOf n == some .cell)=true then .cell else k
theorem G_ (scope:Scope)(env:Env)(x:Str):
 (relabel scope env).names.lookup x=(scope.names.lookup x).map (jf env x):=by
 rw[<-G9 (g:=jf env) scope.names]
 show List.lookup x (scope.names.map _)=_
 congr 1
 apply List.map_congr_left
 rintro⟨n,k⟩ _
 show(if _ then _ else _)=(n,jf env n k)
 unfold jf
 split <;> rfl
theorem W0 {env:Env}{x:Str}{k:NameKind}(h:jf env x k=.local):k=.local:=by
 unfold jf at h
 split at h
 . cases h
 . exact h
theorem W2 {env:Env}{x:Str}{k:NameKind}(h:jf env x k=.cell):k=.free\/k=.cell:=by
 unfold jf at h
 split at h
 . rename_i c
   left
   simp only[Bool.and_eq_true] at c
   exact eq_of_beq c.1.1
 . exact .inr h
theorem W3 {env:Env}{x:Str}{k:NameKind}(h:jf env x k=.free):k=.free:=by
 unfold jf at h
 split at h
 . cases h
 . exact h
theorem vX {env:Env}:∀(names:List (Str × NameKind)) (acc:List (Str × Addr)),(∀y∈names,y.2=.free->∃c,env.cells.lookup y.1=some c)->
 (∀x c,acc.lookup x=some c->env.cells.lookup x=some c)->
 ∃cl:List (Str × Addr),(forIn names acc λy cs=>if(y.2 == NameKind.free)=true then(do let a <-cellOf env y.1;pure (ForInStep.yield ((y.1,a)::cs))) else pure (ForInStep.yield cs))=(pure cl:Sem _)/\
  (∀x c,cl.lookup x=some c->env.cells.lookup x=some c)/\(∀x,((x,NameKind.free)∈names\/(acc.lookup x).isSome=true)->cl.lookup x=env.cells.lookup x)
 |[],acc,_,ha=>⟨acc,rfl,ha,λx hx=>by
    rcases hx with hx|hx
    . cases hx
    . obtain⟨c,e⟩:=Option.isSome_iff_exists.mp hx
      rw[e,ha x c e]⟩
 |(n,k)::r,acc,hn,ha=>by
  by_cases hk:k=.free
  . subst hk
    obtain⟨c,e⟩:=hn (n,.free) List.mem_cons_self rfl
    have e:env.cells.lookup n=some c:=e
    have ha':∀x d,((n,c)::acc).lookup x=some d->env.cells.lookup x=some d:=λx d h=>by
     rw[List.lookup_cons] at h
     cases hx:x == n with
     |true=>
      rw[hx] at h
      cases h
      rw[eq_of_beq hx];exact e
     |false=>
      rw[hx] at h
      exact ha x d h
    obtain⟨cl,h1,h2,h3⟩:=vX r ((n,c)::acc) (λy hy=>hn y (List.mem_cons_of_mem _ hy)) ha'
    refine⟨cl,?_,h2,λx hx=>h3 x ?_⟩
    . rw[List.forIn_cons]
      have ec:cellOf env n=pure c:=by unfold cellOf;rw[e]
      simp only[beq_self_eq_true,if_true,ec,pure_bind]
      exact h1
    . rcases hx with hx|hx
      . rcases List.mem_cons.mp hx with q|q
        . right
          cases q
          rw[List.lookup_cons,beq_self_eq_true];rfl
        . exact .inl q
      . right
        rw[List.lookup_cons]
        cases x == n with
        |true=>rfl
        |false=>exact hx
  . obtain⟨cl,h1,h2,h3⟩:=vX r acc (λy hy=>hn y (List.mem_cons_of_mem _ hy)) ha
    refine⟨cl,?_,h2,λx hx=>h3 x ?_⟩
    . rw[List.forIn_cons]
      have eb:(k == NameKind.free)=false:=by simpa using hk
      simp only[eb,Bool.false_eq_true,if_false,pure_bind]
      exact h1
    . rcases hx with hx|hx
      . rcases List.mem_cons.mp hx with q|q
        . cases q;exact absurd rfl hk
        . exact .inl q
      . exact .inr hx
theorem vY {scope:Scope}{env:Env}(hn:∀y∈scope.names,y.2=.free->∃c,env.cells.lookup y.1=some c):
 ∃cl:List (Str × Addr),closureFor scope env=pure cl/\(∀x c,cl.lookup x=some c->env.cells.lookup x=some c)/\(∀x,(x,NameKind.free)∈scope.names->cl.lookup x=env.cells.lookup x):=by
 obtain⟨cl,h1,h2,h3⟩:=vX scope.names [] hn (λx c h=>by cases h)
 refine⟨cl,?_,h2,λx hx=>h3 x (.inl hx)⟩
 unfold closureFor
 have e:(forIn scope.names ([]:List (Str × Addr)) λy cs=>do
  let mut cs:=cs
  match y with
  |(name,kind)=>if(kind == NameKind.free)=true then cs:=(name,<-cellOf env name)::cs
  pure (ForInStep.yield cs))=(pure cl:Sem _):=by
  rw[<-h1]
 first
  |exact(by simpa using e)
  |(show(forIn scope.names ([]:List (Str × Addr)) _ >>= λcs=>pure cs)=_;rw[bind_pure];exact e)
structure cI (X:Cx) (own:List Str) (scope:Scope):Prop where
 kind:scope.kind=.function
 cell:∀y∈scope.names,y.2≠ .cell
 names:∀y∈scope.names,y.2=.local->scope.names.lookup y.1=some .local
 free:∀y∈scope.names,y.2=.free->X.env.kindOf y.1=some .cell\/X.env.kindOf y.1=some .free
 nd:(own++X.N).Nodup
 outer:∀x∈X.N,scope.names.lookup x≠some .local
noncomputable def dj (X:Cx) (own:List Str) (scope:Scope) (cl:List (Str × Addr)) (C:Addr) (fp:List Addr) (s₂:Shared) (H₂:Hp):Cx:=
 { X with N:=own++X.N,s₀:=s₂,H₀:=H₂,env:=compEnvC scope cl C X.env,outer:=X.stack,ex:=fp,fn:=λ_=>false,pn:=[],xe:=λ_ _=>False }
noncomputable def pH (X:Cx) (ifs:List Expr) (t:TT):Prop:=
 ∀(pins:List (Addr × Obj)) (s:Shared) (σ:St) (H:Hp) (Q:Bool->Hp->Prop),Inv X pins σ H s->t σ H Q->
  wpAny (model X.prog X.w) X.A (forIn ifs true λc r=>if r=true then do let ok <-isTrue c X.env (eval c X.env);pure (ForInStep.yield ok) else pure (ForInStep.yield r)) (TP X pins σ Q) X.xe s
noncomputable def dW:TT:=λ_ H Q=>Q true H
theorem gH {X:Cx}:pH X [] dW:=λpins s σ H Q I h=>wpAny_tests_nil ⟨H,I,h⟩
theorem sI {X:Cx}{c:Expr}{t:TT}(h:PT X c t):pH X [c] t:=λpins s σ H Q I q=>wpAny_tests_one (h pins s σ H Q I q)
noncomputable def sJ (k:Nat) (wi:TI) (g:TG) (tt:TT) (te:TE):TE:=λσ H Q=>wi σ H λJ H1=>
 ∃W:Nat->Nat->List V->Hp->Prop,(∃m,W 0 m [] H1)/\∀i m ys H,W i m ys H->
  (J.stop i H/\∀p,H p=none->Q (.ref p) (upd H p (.lst ys)))\/
  (J.go i H/\ys.length<sizeLine/\∀x H',J.jQ i H x H'->g x (List.replicate k none++σ) H' λσ2 H2=>σ2.drop k=σ/\
    tt σ2 H2 λb H3=>if b=true then te σ2 H3 λy H4=>∃m',m'<m/\W (i+1) m' (ys++[y]) H4 else ∃m',m'<m/\W (i+1) m' ys H3)
section
variable {prog:Program}{w:World}{A:Around}{R:Result->Shared->Prop}{s:Shared}
theorem W4 {elt target iter:Expr}{ifs:List Expr}{scope:Scope}{pos:Pos}{it acc:Value}{env:Env}(I:Nat->Shared->Prop)
 (turn:∀n s,I n s->wpAny (model prog w) A (pyNext it) (λr s₁=>
   match r with
   |none=>R (.ok .next) s₁
   |some v=>wpAny (model prog w) A (letOwnedTupleGo target it v) (λ_ s₂=>wpAny (model prog w) A (assign target env v) (λ_ s₃=>
     wpAny (model prog w) A (forIn ifs true λc r=>if r=true then do let ok <-isTrue c env (eval c env);pure (ForInStep.yield ok) else pure (ForInStep.yield r)) (λok s₄=>
      if ok=true then wpAny (model prog w) A (eval elt env) (λx s₅=>
       wpAny (model prog w) A (call (.builtin "list.append") [acc,x]) (λ_ s₆=>∃m,m<n/\I m s₆) (λ_ _=>False) s₅) (λ_ _=>False) s₄
      else ∃m,m<n/\I m s₄) (λ_ _=>False) s₃) (λ_ _=>False) s₂) (λ_ _=>False) s₁) (λ_ _=>False) s)
 (n:Nat) (h:I n s):
 codeAny (model prog w) A (.compLoop (.ListComp elt [⟨target,iter,ifs,0⟩] scope pos) 0 it acc env) R s:=by
 refine codeAny_loop rfl I (λn s hI=>?_) n h
 show wpAny _ A ((compTurn _ 0 it acc env).onRaise _) _ _ s
 refine wpAny_noted ?_
 rw[compTurn_list]
 have no:∀{α:Type} {t:Sem α} {Q Q':α->Shared->Prop} {E:Value->Shared->Prop} {s:Shared},wpAny (model prog w) A t Q (λ_ _=>False) s->(∀a s,Q a s->Q' a s)->wpAny (model prog w) A t Q' E s:=
  λh k=>wpAny_mono h k λ_ _ z=>z.elim
 refine wpAny_bind (wpAny_standAt (wpAny_bind (no (turn n s hI) λr s₁ h₁=>?_)))
 cases r with
 |none=>exact wpAny_pure h₁
 |some v=>
  refine wpAny_bind (no h₁ λ_ s₂ h₂=>?_)
  refine wpAny_bind (no h₂ λ_ s₃ h₃=>wpAny_bind (no h₃ λok s₄ h₄=>?_))
  cases ok with
  |false=>exact wpAny_pure ⟨rfl,h₄⟩
  |true=>
   refine wpAny_bind (wpAny_bind (no h₄ λx s₅ h₅=>?_))
   exact wpAny_bind (no h₅ λ_ s₆ h₆=>wpAny_pure (wpAny_pure ⟨rfl,h₆⟩))
end
noncomputable abbrev eF (us:List Value) (n:Nat):Obj:={ cls:=.type "list",data:=.seq us.toArray n }
section
variable {X:Cx}{own:List Str}{scope:Scope}
theorem cI.cells (S:cI X own scope){pins:List (Addr × Obj)}{σ:St}{H:Hp}{s:Shared}(I:Inv X pins σ H s):
 ∀y∈scope.names,y.2=.free->∃c,X.env.cells.lookup y.1=some c:=λy hy hf=>I.ok.has y.1 (S.free y hy hf)
theorem cI.freeOf (S:cI X own scope){x:Str}(h:(relabel scope X.env).names.lookup x=some .cell\/(relabel scope X.env).names.lookup x=some .free):(x,NameKind.free)∈scope.names:=by
 rw[G_] at h
 cases e:scope.names.lookup x with
 |none=>rw[e] at h;rcases h with h|h <;> cases h
 |some k=>
  rw[e] at h
  have hm:(x,k)∈scope.names:=PySem.mem_of_lookup e
  have hk:k=.free:=by
   rcases h with h|h
   . rcases W2 (Option.some.inj h) with q|q
     . exact q
     . exact absurd q (S.cell _ hm)
   . exact W3 (Option.some.inj h)
  rw[<-hk];exact hm
theorem cI.W5 (S:cI X own scope){x:Str}(hx:x∈X.N):(relabel scope X.env).names.lookup x≠some .local:=λh=>by
 rw[G_] at h
 cases e:scope.names.lookup x with
 |none=>rw[e] at h;cases h
 |some k=>
  rw[e] at h
  have:=W0 (Option.some.inj h)
  subst this
  exact S.outer x hx e
theorem Hl {k:Nat}{σ:St}{i:Nat}{v:V}(h:(List.replicate k none++σ)[i]? =some (some v)):k<=i/\σ[i - k]? =some (some v):=by
 by_cases hi:i<k
 . rw[List.getElem?_append_left (by simpa using hi),List.getElem?_replicate] at h
   split at h <;> cases h
 . refine⟨Nat.le_of_not_lt hi,?_⟩
   rw[List.getElem?_append_right (by simpa using hi)] at h
   simpa using h
theorem Inv.block {pins:List (Addr × Obj)}{σ:St}{H:Hp}{s:Shared}{fp:List Addr}{cl:List (Str × Addr)}{C D:Addr}{h₁:Heap}{m:Str->Option Value}{t':Nat}{us:List Value}{n:Nat}(I:Inv X pins σ H s)(S:cI X own scope)
 (hf:∀b∈fp,dz X pins H b) (hfl:∀b∈fp,b<s.heap.objs.size)
 (hsub:∀x c,cl.lookup x=some c->X.env.cells.lookup x=some c) (hget:∀x,(x,NameKind.free)∈scope.names->cl.lookup x=X.env.cells.lookup x)
 (hC:s.heap.objs.size<=C) (hD:s.heap.objs.size<=D) (hDC:D≠C) (hn:h₁.Ns C m) (old:∀b o,s.heap.get? b=some o->h₁.get? b=some o) (hacc:h₁.get? D=some (eF us n)):
 Inv (dj X own scope cl C fp s H) [(D,eF us n)] (List.replicate own.length none++σ) H { s with heap:=h₁,toks:=t' }:=by
 have ok:=I.ok
 have m_:∀b:Addr,s.heap.objs.size<=b->b ∉ frs X.stack:=λb hb z=>by
  rcases List.mem_cons.mp (I.o8 b z) with e|e
  . exact absurd I.lt (by rw[<-e];exact Nat.not_lt.mpr hb)
  . exact I.m_ hb e
 have fresh:∀b:Addr,s.heap.objs.size<=b->H b=none:=λb hb=>I.hok.fresh hb
 have clt:∀x c,cl.lookup x=some c->c<s.heap.objs.size:=λx c e=>by
  obtain⟨v,q⟩:=I.cell x c (hsub x c e)
  exact q.lt
 refine⟨⟨ok.mod,S.kind,ok.glob,ok.blt,hC,λx y c e1 e2=>ok.inj x y c (hsub x c e1) (hsub y c e2),λx hx=>?_,λx c hx _=>(nomatch hx),ok.hd,ok.frames,.inl rfl,λb hb=>?_,I.bs,Nat.le_trans ok.gF I.sz,λb o e hb=>?_,λb hb z=>?_,I.stack,I.u6⟩,
  rfl,I.bare,Un.kept old,⟨m,hn,λi x v e1 e2 e3=>?_⟩,λx c e=>?_,fresh C hC,λx c e=>?_,λp hp=>?_,I.hok.kept old,?_⟩
 . have hm:=S.freeOf (x:=x) hx
   obtain⟨c,e⟩:=ok.has x (S.free _ hm rfl)
   exact⟨c,by rw[show(dj X own scope cl C fp s H).env.cells=cl from rfl,hget x hm];exact e⟩
 . refine⟨Nat.ne_of_lt (Nat.lt_of_lt_of_le (hfl b hb) hC),λx c e z=>?_⟩
   exact(hf b hb).2.2.2.2.1 x c (hsub x c e) z
 . rcases(hf b hb).2.2.2.1 with z|z
   . exact ok.lG b o e z
   . exact absurd (Nat.lt_of_lt_of_le (Heap.lt_size e) (Nat.le_trans ok.gF z)) (Nat.lt_irrefl _)
 . rcases List.mem_cons.mp (I.o8 b z) with q|q
   . exact(hf b hb).2.1 q
   . exact(hf b hb).2.2.1 q
 . obtain⟨hk,e2'⟩:=Hl e2
   have e1':X.N[i - own.length]? =some x:=by
    have e1:(own++X.N)[i]? =some x:=e1
    rw[List.getElem?_append_right hk] at e1
    exact e1
   have W6:x∈X.N:=List.mem_of_getElem? e1'
   have hk2:(relabel scope X.env).names.lookup x=some .cell\/(relabel scope X.env).names.lookup x=some .free:=by
    rcases e3 with q|q
    . exact absurd q (S.W5 W6)
    . exact q
   have hm:=S.freeOf hk2
   have pI:=S.free _ hm rfl
   obtain⟨mX,W7,vZ⟩:=I.loc
   obtain⟨u,r,lk⟩:=vZ _ x v e1' e2' (.inr pI)
   refine⟨u,r,.inr ⟨hk2,?_⟩⟩
   rcases lk with⟨q,_⟩|⟨_,c,ec,hc⟩
   . rcases pI with z|z
     . rw[z] at q;cases q
     . rw[z] at q;cases q
   . obtain⟨o,ho,hd⟩:=hc
     exact⟨c,(hget x hm).trans ec,o,old _ _ ho,hd⟩
 . obtain⟨v,o,ho,hd⟩:=I.cell x c (hsub x c e)
   exact⟨v,o,old _ _ ho,hd⟩
 . exact I.d_ x c (hsub x c e)
 . have e:p=(D,eF us n):=by
    have hp:p∈([]++[(D,eF us n)]:List (Addr × Obj)):=hp
    simpa using hp
   subst e
   exact⟨hacc,fresh D hD,hDC,m_ D hD,λv z=>by
    have z:Data.seq us.toArray n=Data.cell v:=z
    cases z⟩
 . show _=(own++X.N).length
   rw[List.length_append,List.length_append,List.length_replicate,I.len]
theorem Inv.unblock {pins:List (Addr × Obj)}{σ σ':St}{H H3:Hp}{s s3:Shared}{fp:List Addr}{cl:List (Str × Addr)}{C D:Addr}{h':Heap}{us:List Value}{n:Nat}{ys:List V}{pl:List (Addr × Obj)}(I:Inv X pins σ H s)
 (hf:∀b∈fp,dz X pins H b) (I3:Inv (dj X own scope cl C fp s H) pl σ' H3 s3) (hpl:(D,eF us n)∈pl) (hC:s.heap.objs.size<=C) (hD:s.heap.objs.size<=D) (hDC:D≠C)
 (r:Vals ys us) (hz:ys.length<=sizeLine) (hs:Heap.SameBut C s3.heap h'):Inv X pins σ (upd H3 D (.lst ys)) { s3 with heap:=h' }/\H3 D=none:=by
 obtain⟨eD,nD,_,_,_⟩:=I3.pin (D,eF us n) (List.mem_append_right _ hpl)
 have nC:H3 C=none:=I3.free
 have kC:∀b o,b≠C->s3.heap.get? b=some o->h'.get? b=some o:=λb o hb e=>(hs.2 b hb).trans e
 refine⟨I.call' (ch:=fp) I3.os ⟨λb o e nb hb hx=>?_,λb o e nb hb hx=>?_,λb o e nb hx=>?_,λb o e hx=>?_,λb xs e=>?_,λb o u e=>?_,λb ps e=>?_⟩ (λb o e=>?_) I3.bare (λb hb=>?_),nD⟩
 . exact kC b o (Nat.ne_of_lt (Nat.lt_of_lt_of_le (Heap.lt_size e) hC)) (I3.base.keep b o e nb hb hx)
 . obtain⟨sl,e1⟩:=I3.base.slot b o e nb hb hx
   exact⟨sl,kC b _ (Nat.ne_of_lt (Nat.lt_of_lt_of_le (Heap.lt_size e) hC)) e1⟩
 . rw[aB (Nat.ne_of_lt (Nat.lt_of_lt_of_le (Heap.lt_size e) hD))]
   exact I3.base.free b o e nb hx
 . obtain⟨o',e1⟩:=I3.base.there b o e hx
   exact⟨o',kC b _ (Nat.ne_of_lt (Nat.lt_of_lt_of_le (Heap.lt_size e) hC)) e1⟩
 . have q:=I3.base.tups b xs e
   rw[aB (aW q nD)];exact q
 . have q:=I3.base.gD b o u e
   rw[aB (aW q nD)];exact q
 . obtain⟨mo,q⟩:=I3.base.gZ b ps e
   exact⟨mo,by rw[aB (aW q nD)];exact q⟩
 . by_cases hb:b=D
   . subst hb
     rw[aK] at e;cases e
     exact⟨hz,us,n,r,kC b _ hDC eD⟩
   . rw[aB hb] at e
     refine(I3.hok b o e).stay (λc v hc q=>kC c v ?_ q) (λc q=>by rw[aB (aW q nD)];exact q) λc xs q=>by rw[aB (aW q nD)];exact q
     rcases hc with z|z
     . rw[z];exact aW e nC
     . exact aW z nC
 . obtain⟨_,f1,_,f3,f4,f5⟩:=hf b hb
   exact⟨f3,f1,f4,f5⟩
theorem Ho {tg iter elt:Expr}{ifs:List Expr}{pos:Pos}{g:TG}{tt:TT}{te:TE}{pins:List (Addr × Obj)}{σ:St}{H2:Hp}{s2:Shared}{it:Addr}{fp:List Addr}{tn:Nat->Heap->Prop}{J:It}{cl:List (Str × Addr)}{Fin:List V->Hp->Prop}{W:Nat->Nat->List V->Hp->Prop}{m0:Nat}
 {RR:Value->Addr->Result->Shared->Prop} (hc:X.calm=true) (S:cI X own scope) (hsub:∀x c,cl.lookup x=some c->X.env.cells.lookup x=some c) (hget:∀x,(x,NameKind.free)∈scope.names->cl.lookup x=X.env.cells.lookup x)
 (I2:Inv X pins σ H2 s2) (T:Turn X.prog X.w X.K tg J fp it tn) (st2:tn 0 s2.heap) (f2:∀b∈fp,dz X pins H2 b) (w0:W 0 m0 [] H2)
 (turn:∀i m ys H,W i m ys H->(J.stop i H/\Fin ys H)\/
   (J.go i H/\ys.length<sizeLine/\∀x H',J.jQ i H x H'->g x (List.replicate own.length none++σ) H' λσ2 H2=>σ2.drop own.length=σ/\
     tt σ2 H2 λb H3=>if b=true then te σ2 H3 λy H4=>∃m',m'<m/\W (i+1) m' (ys++[y]) H4 else ∃m',m'<m/\W (i+1) m' ys H3))
 (hg:∀cl C fp s₂ H₂,PG (dj X own scope cl C fp s₂ H₂) tg g) (ht:∀cl C fp s₂ H₂,pH (dj X own scope cl C fp s₂ H₂) ifs tt) (he:∀cl C fp s₂ H₂,PE (dj X own scope cl C fp s₂ H₂) elt te)
 (hRR:∀(C D:Addr) (s5:Shared) (H5:Hp) (ys:List V) (us:List Value) (k:Nat),s2.heap.objs.size<=C->s2.heap.objs.size<=D->D≠C->Inv (dj X own scope cl C fp s2 H2) [(D,eF us k)] (List.replicate own.length none++σ) H5 s5->Vals ys us->ys.length<=sizeLine->Fin ys H5->RR (.ref D) C (.ok .next) s5):
 wpAny (model X.prog X.w) X.A (newList []) (λacc s₃=>wpAny (model X.prog X.w) X.A (newFunctionEnv scope X.env.globals cl [] X.env.qual none .none (some X.env)) (λcenv s₄=>
  codeAny (model X.prog X.w) X.A (.compStart (.ListComp elt [⟨tg,iter,ifs,0⟩] scope pos) 0 (.ref it) acc { cenv with scope:=relabel scope X.env }) (RR acc cenv.locals) s₄) X.xe s₃) X.xe s2:=by
 have hfl:∀b∈fp,b<s2.heap.objs.size:=λb hb=>by
  obtain⟨o,e,_⟩:=T.obj _ _ st2 b hb
  exact Heap.lt_size e
 refine wpAny_newObj_type (wpAny_newFunctionEnv S.cell (by intro y hy;simp at hy) (λh₁ hns₁ hsb₁=>?_) S.kind)
 dsimp only at hns₁ hsb₁ ⊢
 generalize hG:s2.heap.push { cls:=.type "list",dict:=none,data:=.seq ([]:List Value).toArray }=G at hns₁ hsb₁ ⊢
 have Hq:G.objs.size=s2.heap.objs.size+1:=by rw[<-hG,Heap.size_push]
 have hC:s2.heap.objs.size<=G.objs.size:=by rw[Hq];exact Nat.le_succ _
 have hDC:s2.heap.objs.size≠G.objs.size:=by rw[Hq];exact Nat.ne_of_lt (Nat.lt_succ_self _)
 have old:∀b o,s2.heap.get? b=some o->h₁.get? b=some o:=λb o e=>
  hsb₁.extBut b o (Nat.ne_of_lt (Nat.lt_of_lt_of_le (Heap.lt_size e) hC)) (Heap.get?_push_of_some _ (hG ▸ Heap.get?_push_of_some _ e))
 have hacc:h₁.get? s2.heap.objs.size=some (eF [] 0):=hsb₁.extBut _ _ hDC (Heap.get?_push_of_some _ (hG ▸ Heap.get?_push_size _ rfl))
 have I3:=I2.block (cl:=cl) (t':=s2.toks+([]:List (Str × Value)).length) S f2 hfl hsub hget hC (Nat.le_refl _) hDC hns₁ old hacc
 have st3:tn 0 h₁:=T.keep _ _ _ st2 λb _ o e=>old b o e
 have rH:∀b∈fp,H2 b=none:=λb hb=>(f2 b hb).1
 have stat:∀{H':Hp} {us:List Value} {n:Nat},(∀b∈fp,H' b=none)->∀b∈fp,dz (dj X own scope cl G.objs.size fp s2 H2) [(s2.heap.objs.size,eF us n)] H' b:=λ{H' us n} hn b hb=>by
  refine⟨hn b hb,Nat.ne_of_lt (Nat.lt_of_lt_of_le (hfl b hb) hC),λz=>?_,.inl hb,λx c e=>(f2 b hb).2.2.2.2.1 x c (hsub x c e),λp hp=>?_⟩
  . rcases List.mem_cons.mp (I2.o8 b z) with q|q
    . exact(f2 b hb).2.1 q
    . exact(f2 b hb).2.2.1 q
  . have hp:p∈([]++[(s2.heap.objs.size,eF us n)]:List (Addr × Obj)):=hp
    have e:p=(s2.heap.objs.size,eF us n):=by simpa using hp
    subst e
    exact Nat.ne_of_gt (hfl b hb)
 have loop:∀s₃:Shared,s₃={ s2 with heap:=h₁,toks:=s2.toks+([]:List (Str × Value)).length }->
  codeAny (model X.prog X.w) X.A (.compLoop (.ListComp elt [⟨tg,iter,ifs,0⟩] scope pos) 0 (.ref it) (.ref s2.heap.objs.size) (compEnvC scope cl G.objs.size X.env))
   (RR (.ref s2.heap.objs.size) G.objs.size) s₃:=by
  rintro s₃ rfl
  refine W4 (λn s'=>∃i ys us k H',Inv (dj X own scope cl G.objs.size fp s2 H2) [(s2.heap.objs.size,eF us k)] (List.replicate own.length none++σ) H' s'/\Vals ys us/\ys.length<=sizeLine/\tn i s'.heap/\(∀b∈fp,H' b=none)/\W i n ys H')
   ?_ m0 ⟨0,[],[],0,H2,I3,.nil,Nat.zero_le _,st3,rH,w0⟩
  rintro n s4 ⟨i,ys,us,k,H4,I4,r4,z4,Hr,Hs,w4⟩
  rcases turn i n ys H4 w4 with⟨stop,qn⟩|⟨go,hlt,step⟩
  . refine aL (T.done (dj X own scope cl G.objs.size fp s2 H2) rfl rfl rfl hc i _ s4 _ H4 (λ_ _=>False) I4 (stat Hs) Hr stop) λr s5 ⟨hr,I5⟩=>?_
    subst hr
    exact hRR G.objs.size s2.heap.objs.size s5 H4 ys us k hC (Nat.le_refl _) hDC I5 r4 z4 qn
  . refine aL (T.item (dj X own scope cl G.objs.size fp s2 H2) rfl rfl rfl hc i _ s4 _ H4 (λ_ _=>False) I4 (stat Hs) Hr go) λr s5 ⟨u,hr,h5⟩=>?_
    subst hr
    refine aL h5 λ_ s6 ⟨x,H6,I6,r6,y6,pJ,W_⟩=>?_
    have Xa:=I6.pinned (stat W_) (T.obj _ _ pJ)
    refine aL (hg cl G.objs.size fp s2 H2 _ s6 _ H6 x u _ Xa r6 (step x H6 y6)) λ_ s7 ⟨σ7,H7,I7,d7,q7⟩=>?_
    refine aL (ht cl G.objs.size fp s2 H2 _ s7 σ7 H7 _ I7 q7) λb s8 ⟨H8,I8,q8⟩=>?_
    have hlen:(List.replicate own.length none++σ).length=σ7.length:=by rw[I7.len,<-I6.len]
    have back:∀(j:Nat) v,(List.replicate own.length none++σ)[j]? =some (some v)->σ7[j]? =some (some v):=λj v e=>by
     obtain⟨hk,e'⟩:=Hl e
     rw[<-d7,List.getElem?_drop] at e'
     rw[<-e']
     congr 1
     omega
    cases b with
    |false=>
     have q8:∃m',m'<n/\W (i+1) m' ys H8:=q8
     obtain⟨m',hm,w8⟩:=q8
     refine⟨m',hm,i+1,ys,us,k,H8,I8.jT.weak hlen back,r4,z4,T.keep _ _ _ pJ λb hb o e=>?_,λb hb=>?_,w8⟩
     . exact(I8.pin (b,o) (List.mem_append_right _ (List.mem_append_right _ (pC hb e)))).1
     . obtain⟨o,e,d⟩:=T.obj _ _ pJ b hb
       exact(I8.pin (b,o) (List.mem_append_right _ (List.mem_append_right _ (pC hb e)))).2.1
    |true=>
     have q8:te σ7 H8 λy H9=>∃m',m'<n/\W (i+1) m' (ys++[y]) H9:=q8
     show wpAny _ _ _ _ _ _
     refine aL (he cl G.objs.size fp s2 H2 _ s8 σ7 H8 _ I8 q8) λyv s9 ⟨y,H9,I9,r9,m',hm,w9⟩=>?_
     obtain⟨eD,nD,ne1,ne2,_⟩:=I9.pin (s2.heap.objs.size,eF us k) (List.mem_append_right _ (List.mem_append_left _ List.mem_cons_self))
     have hl:=r4.length
     refine append_at (hsz:=by rw[List.size_toArray,<-hl];exact z4) eD λh10 Ht Xb=>?_
     have hpin:∀b∈fp,∀o,s6.heap.get? b=some o->s9.heap.get? b=some o/\H9 b=none:=λb hb o e=>by
      have q:=I9.pin (b,o) (List.mem_append_right _ (List.mem_append_right _ (pC hb e)))
      exact⟨q.1,q.2.1⟩
     have Xc:∀b∈fp,b≠s2.heap.objs.size:=λb hb=>Nat.ne_of_lt (hfl b hb)
     have Xd:Inv (dj X own scope cl G.objs.size fp s2 H2) [] σ7 H9 s9:=I9.lJ λp hp=>(nomatch hp)
     have Xe:Inv (dj X own scope cl G.objs.size fp s2 H2) [] σ7 H9 { s9 with heap:=h10 }:=
      Xd.turned (t':=s9.toks) (λb o hb e=>Ht.extBut b o hb e) nD ne1 (.inr (Nat.le_refl _)) (λx c e z=>by
       obtain⟨v,q⟩:=I2.cell x c (hsub x c e)
       exact absurd q.lt (by rw[z];exact Nat.lt_irrefl _)) λp hp=>(nomatch hp)
     have Xf:Inv (dj X own scope cl G.objs.size fp s2 H2) [(s2.heap.objs.size,eF (us++[yv]) (k+1))] σ7 H9 { s9 with heap:=h10 }:=Xe.lJ λp hp=>by
      have e:p=(s2.heap.objs.size,eF (us++[yv]) (k+1)):=by simpa using hp
      subst e
      refine⟨?_,nD,ne1,ne2,λv z=>by
       have z:Data.seq (us++[yv]).toArray (k+1)=Data.cell v:=z
       cases z⟩
      show h10.get? _=some { cls:=.type "list",data:=.seq (us++[yv]).toArray (k+1) }
      rw[<-List.push_toArray]
      exact Xb
     refine⟨m',hm,i+1,ys++[y],us++[yv],k+1,H9,Xf.weak hlen back,r4.append (.cons r9 .nil),by rw[List.length_append,List.length_singleton];exact hlt,T.keep _ _ _ pJ λb hb o e=>Ht.extBut b o (Xc b hb) (hpin b hb o e).1,λb hb=>?_,w9⟩
     obtain⟨o,e,d⟩:=T.obj _ _ pJ b hb
     exact(hpin b hb o e).2
 exact codeAny_compStart_list (loop _ rfl) (T.self _ 0 _ _ _ st3 (loop _ rfl))
theorem fG {tg iter elt:Expr}{ifs:List Expr}{pos:Pos}{wi:TI}{g:TG}{tt:TT}{te:TE}(hc:X.calm=true)(S:cI X own scope)(hi:PI X tg iter wi)
 (hg:∀cl C fp s₂ H₂,PG (dj X own scope cl C fp s₂ H₂) tg g) (ht:∀cl C fp s₂ H₂,pH (dj X own scope cl C fp s₂ H₂) ifs tt)
 (he:∀cl C fp s₂ H₂,PE (dj X own scope cl C fp s₂ H₂) elt te) (hs:∀x,foldedSetIterable iter X.env x=pure x:=by intro _;rfl):
 PE X (.ListComp elt [⟨tg,iter,ifs,0⟩] scope pos) (sJ own.length wi g tt te):=by
 intro pins s σ H Q I h
 obtain⟨cl,hclos,hsub,hget⟩:=vY (S.cells I)
 rw[eval_ListComp]
 refine wpAny_comprehension_free (use:=none) rfl hs hclos S.kind S.names ?_
 refine aL (hi pins s σ H _ I h) λv s1 h1=>aL h1 λitv s2 h2=>?_
 obtain⟨it,fp,tn,J,H2,v5,I2,T,st2,f2,W,⟨m0,w0⟩,turn⟩:=h2
 subst v5
 refine Ho (RR:=λacc C=>compPost (model X.prog X.w) X.A X.xe none (EP X pins σ Q) acc C) hc S hsub hget I2 T st2 f2 w0 turn hg ht he ?_
 intro C D s5 H5 ys us k hC hD hDC I5 r5 z5 fin
 obtain⟨m5,n5,_⟩:=id I5.loc
 refine⟨m5,n5,λh' hs'=>?_⟩
 obtain⟨I6,nD⟩:=I2.unblock f2 I5 List.mem_cons_self hC hD hDC r5 z5 hs'
 exact⟨.ref D,_,I6,rfl,fin _ nD⟩
theorem Hu {i:Nat}{y:Str}{py spos:Pos}{tg iter elt:Expr}{ifs:List Expr}{pos:Pos}{wi:TI}{g:TG}{tt:TT}{te:TE}(hN:X.N.Nodup)(hy:X.N[i]? =some y)(hL:Loc X.env.scope y)(hc:X.calm=true)(S:cI X own scope)(hi:PI X tg iter wi)
 (hg:∀cl C fp s₂ H₂,PG (dj X own scope cl C fp s₂ H₂) tg g) (ht:∀cl C fp s₂ H₂,pH (dj X own scope cl C fp s₂ H₂) ifs tt)
 (he:∀cl C fp s₂ H₂,PE (dj X own scope cl C fp s₂ H₂) elt te) (hf:X.fn y=true\/X.env.scope.names.lookup y=some .local:=by first|exact .inl rfl|exact .inr rfl|assumption)
 (hsw:swapsWith (.ListComp elt [⟨tg,iter,ifs,0⟩] scope pos) (some (.Name y py)) spos.line X.env=pure true:=by rfl) (hs:∀x,foldedSetIterable iter X.env x=pure x:=by intro _;rfl):
 PS X (.Assign [.Name y py] (.ListComp elt [⟨tg,iter,ifs,0⟩] scope pos) spos) (jm (sJ own.length wi g tt te) (cB i)):=by
 intro pins s σ H E I h
 obtain⟨cl,hclos,hsub,hget⟩:=vY (S.cells I)
 rw[exec_Assign_Name_used _ _ _ _ hsw]
 refine wpAny_bind (wpAny_standAt (wpAny_bind ?_))
 show wpAny _ _ (do let _ <-comprehension _ scope X.env _ (newList []) false (eval iter X.env) (some (assign (.Name y py) X.env))) _ _ s
 refine wpAny_bind (aL (wpAny_comprehension_free (use:=some (assign (.Name y py) X.env)) (Q:=λ_ s'=>SP X pins E .next s') rfl hs hclos S.kind S.names
  (aL (hi pins s σ H _ I h) λv s1 h1=>aL h1 λitv s2 h2=>?_)) λ_ s' hq=>wpAny_pure (wpAny_pure hq))
 obtain⟨it,fp,tn,J,H2,v5,I2,T,st2,f2,W,⟨m0,w0⟩,turn⟩:=h2
 subst v5
 refine Ho (RR:=λacc C=>compPost (model X.prog X.w) X.A X.xe (some (assign (.Name y py) X.env)) (λ_ s'=>SP X pins E .next s') acc C) hc S hsub hget I2 T st2 f2 w0 turn hg ht he ?_
 intro C D s5 H5 ys us k hC hD hDC I5 r5 z5 fin
 obtain⟨m5,n5,_⟩:=id I5.loc
 obtain⟨I6,nD⟩:=I2.unblock f2 I5 List.mem_cons_self hC hD hDC r5 z5 (Heap.SameBut.refl C s5.heap)
 obtain⟨oC,es,ep,eC,dC,rC⟩:=id n5
 have nC:upd H5 D (.lst ys) C=none:=by rw[aB (Ne.symm hDC)];exact I5.free
 have cl2:C≠X.env.locals:=Nat.ne_of_gt (Nat.lt_of_lt_of_le I2.lt hC)
 have Xg:∀x c,X.env.cells.lookup x=some c->c≠C:=λx c e z=>by
  obtain⟨v,q⟩:=I2.cell x c e
  exact absurd q.lt (by rw[z];exact Nat.not_lt.mpr hC)
 have Xh:∀p∈X.pn++pins,p.1≠C:=λp hp z=>by
  have:=Heap.lt_size (I2.pin p hp).1
  rw[z] at this
  exact absurd this (Nat.not_lt.mpr hC)
 have I7:Inv X (pins++[(C,oC)]) σ (upd H5 D (.lst ys)) s5:=by
  refine I6.lJ λp hp=>?_
  rcases List.mem_append.mp hp with z|z
  . exact I6.pin p (List.mem_append_right _ z)
  . have e:p=(C,oC):=by simpa using z
    subst e
    exact⟨eC,nC,cl2,I2.m_ hC,λv z=>by
     have z:oC.data=Data.cell v:=z
     rw[dC] at z;cases z⟩
 show wpAny _ _ (assign (.Name y py) X.env (.ref D)) _ _ s5
 refine wpAny_assign_Name (u9 (v:=.ref D) I7 hN hy hL rfl (λs8 I8=>?_) hf)
 obtain⟨Xi,nC8,_⟩:=I8.pin (C,oC) (List.mem_append_right _ (List.mem_append_right _ List.mem_cons_self))
 refine⟨_,⟨oC,es,ep,Xi,dC,rC⟩,λh' hs'=>?_⟩
 have I9:Inv X pins (σ.set i (some (.ref D))) (upd H5 D (.lst ys)) { s8 with heap:=h' }:=
  I8.jT.turned (t':=s8.toks) (λb o hb e=>(hs'.2 b hb).trans e) nC cl2 (.inr (Nat.le_trans I2.sz hC)) Xg Xh
 exact⟨_,_,I9,fin _ nD⟩
end
section
variable {X:Cx}
theorem v7 {e:Expr}:PT X e (λ_ _ _=>False):=λ_ _ _ _ _ _ h=>h.elim
theorem bR:fj X (.builtin "isinstance") (λxs H Q=>∃x T t b,xs=[x,.ty T]/\fV X.K H x t/\W.kitOne X.K t (.type T)=some b/\Q (.bl b) H):=by
 intro pins s σ H xs us Q I r h
 obtain⟨x,T,t,b,rfl,ty,e,q⟩:=h
 obtain⟨u,c,rfl,ru,rc⟩:=vals2 r
 cases rc
 exact Vl I ru ty e λtk=>⟨.bl b,H,I.tok tk,rfl,q⟩
theorem Hv:∀{ss:List Str}{vs:List Value},Vals (ss.map V.str) vs->StrsAre vs ss
 |[],_,r=>by cases r;exact .nil
 |y::r,_,h=>by
  cases h with
  |cons a b=>
   obtain⟨t,e⟩:=a
   subst e
   exact .cons y t (Hv b)
theorem Hw:∀{vs:List Value}{ss:List Str},StrsAre vs ss->Vals (ss.map V.str) vs
 |_,_,.nil=>.nil
 |_,_,.cons y t h=>.cons ⟨t,rfl⟩ (Hw h)
theorem Hx:fj X (.builtin "sorted") (λxs H Q=>∃a ss,xs=[.ref a]/\au X.K H a (ss.map V.str)/\ss.length<64/\
 ∀p ss',H p=none->ss'.Perm ss->sortedS ss'=true->Q (.ref p) (upd H p (.lst (ss'.map V.str)))):=by
 intro pins s σ H xs us Q I r h
 obtain⟨a,ss,rfl,hq,h64,q⟩:=h
 obtain⟨u,rfl,ru⟩:=vals1 r
 cases ru
 obtain⟨its,rv,pl,hz⟩:=I.list hq
 have hl:its.length=ss.length:=by rw[<-rv.length,List.length_map]
 refine sorted_strs pl.isList (Hv rv) (by omega) λout ss' h1 h2 h3=>?_
 obtain⟨e,he⟩:=sortedAll_at s.heap its out
 refine⟨.ref (s.heap.objs.size+1),upd H (s.heap.objs.size+1) (.lst (ss'.map V.str)),I.laid (t':=s.toks) (λ_ _=>sortedAll_old) (Nat.le_succ _) ?_,rfl,q _ ss' (I.hok.fresh (Nat.le_succ _)) h2 h3⟩
 refine⟨?_,out.toList,e,Hw h1,he⟩
 rw[List.length_map,h2.length_eq]
 have:ss.length<=1000:=by omega
 exact Nat.le_of_lt (cX this)
noncomputable def mq (its:List Value) (i:Nat):Bool:=match its[i]? with
 |some (.bool b)=>b
 |_=>false
theorem Xj:∀{bs:List Bool}{its:List Value},Vals (bs.map V.bl) its->(List.range its.length).all (mq its)=bs.all id:=by
 intro bs its r
 have key:∀i,i<bs.length->mq its i=bs.getD i false:=λi hi=>by
  have e:(bs.map V.bl)[i]? =some (.bl bs[i]):=by rw[List.getElem?_map,List.getElem?_eq_getElem hi];rfl
  obtain⟨u,hu,ru⟩:=r.get e
  cases ru
  unfold mq
  rw[hu,List.getD_eq_getElem?_getD,List.getElem?_eq_getElem hi]
  rfl
 have hl:its.length=bs.length:=by rw[<-r.length,List.length_map]
 rw[hl,Bool.eq_iff_iff,List.all_eq_true,List.all_eq_true]
 constructor
 . intro h b hb
   obtain⟨i,hi,e⟩:=List.getElem_of_mem hb
   have q:=h i (List.mem_range.mpr hi)
   rw[key i hi,List.getD_eq_getElem?_getD,List.getElem?_eq_getElem hi,Option.getD_some,e] at q
   exact q
 . intro h i hi
   have hi':=List.mem_range.mp hi
   rw[key i hi',List.getD_eq_getElem?_getD,List.getElem?_eq_getElem hi',Option.getD_some]
   exact h _ (List.getElem_mem hi')
theorem pK (hc:X.calm=true):fj X (.builtin "all") (λxs H Q=>∃(a:Addr) (bs:List Bool),xs=[.ref a]/\au X.K H a (bs.map V.bl)/\Q (.bl (bs.all id)) H):=by
 intro pins s σ H xs us Q I r h
 obtain⟨a,bs,rfl,hq,q⟩:=h
 obtain⟨u,rfl,ru⟩:=vals1 r
 cases ru
 obtain⟨its,rv,pl,hz⟩:=I.list hq
 have hlt:a<s.heap.objs.size:=by obtain⟨_,e,_⟩:=pl.isList;exact Heap.lt_size e
 refine call_all_walk (wpAny_pyIter_list pl.isList ?_)
 refine⟨s.heap.objs.size,_,_,_,_,_,mq its,rfl,Walks.list (show X.A.in1.handled=none from I.ok.hd hc) s.heap.objs.size a (Nat.ne_of_lt hlt) its.toArray,⟨⟨_,Heap.get?_push_size _ rfl,rfl,rfl⟩,pl.isList.push _⟩,λi v s' Q' E' hP hQ=>?_,λh' tk hk=>?_⟩
 . have e:its[i]? =some v:=by simpa using hP
   have hi:i<its.length:=(List.getElem?_eq_some_iff.mp e).1
   have hb:i<(bs.map V.bl).length:=by rw[rv.length];exact hi
   obtain⟨w',ew,gG⟩:=rv.get (List.getElem?_eq_getElem hb)
   rw[e] at ew;cases ew
   rw[List.getElem_map] at gG
   cases gG
   refine wpAny_truthy_bool ?_
   have eb:mq its i=bs[i]'(by simpa using hb):=by unfold mq;rw[e]
   rw[eb] at hQ
   exact hQ
 . have e:(List.range its.toArray.size).all (mq its)=bs.all id:=by rw[List.size_toArray];exact Xj rv
   rw[e]
   have ns:H s.heap.objs.size=none:=I.hok.fresh (Nat.le_refl _)
   refine⟨.bl (bs.all id),H,I.kept (h':=h') (t':=tk) λb o eb=>hk b o ?_ (Heap.get?_push_of_some _ eb),rfl,q⟩
   intro hm
   have:b=s.heap.objs.size:=by simpa using hm
   exact absurd (Heap.lt_size eb) (by rw[this];exact Nat.lt_irrefl _)
noncomputable def Ite (K:W.Frag) (a:Addr):It:=
 ⟨λi H=>∃xs x,au K H a xs/\xs[i]? =some x,
  λi H x H'=>∃p y,H p=none/\x=.ref p/\(∀xs,au K H a xs->xs[i]? =some y)/\H'=upd H p (.tup [.int i,y]),
  λi H=>∃xs,au K H a xs/\xs.length<=i⟩
theorem Xk {P:Program}{w:World}{K:W.Frag}{elts:List Expr}{k:Nat}{tpos:Pos}{a e it:Addr}(hne:e≠it):
 Turn P w K (.Tuple elts k tpos) (Ite K a) [e,it] e (λi h=>∃old,IsEnum h e it (i:Int) old/\h.IsListIter it a i) where
 mem:=by simp
 obj:=λi h st b hb=>by
  obtain⟨old,h1,h2⟩:=st
  have hb:b=e\/b=it:=by simpa using hb
  rcases hb with rfl|rfl
  . exact⟨_,h1,λv z=>by
     have z:Data.fields _=Data.cell v:=z
     cases z⟩
  . obtain⟨o,q,c,d⟩:=h2
    exact⟨o,q,λv z=>by rw[d] at z;cases z⟩
 keep:=λi h h' st k=>by
  obtain⟨old,h1,h2⟩:=st
  exact⟨old,k e (by simp) _ h1,h2.at λo q=>k it (by simp) o q⟩
 item:=by
  intro X hP hw hK hc i pins s σ H E I hf st hg
  subst hP hw hK
  obtain⟨old,h1,h2⟩:=st
  obtain⟨xs,x,hq,hx⟩:=hg
  obtain⟨its,rv,p,hz⟩:=I.list hq
  obtain⟨u,hu,ru⟩:=rv.get hx
  obtain⟨e0,e1,e2,e3,e4,e5⟩:=hf e (by simp)
  obtain⟨f0,f1,f2,f3,f4,f5⟩:=hf it (by simp)
  have fr:H s.heap.objs.size=none:=I.hok.fresh (Nat.le_refl _)
  refine wpAny_pyNext_enum_item h1 h2 p.isList (x:=u) (by simpa using hu) hne λh' q1 q2 q3 q4 q5=>?_
  refine⟨_,rfl,wpAny_letOwnedTupleGo_enum (s:={ s with heap:=h',toks:=s.toks+1 }) q1 λh'' g1 g2=>?_⟩
  have ne1:∀b o,s.heap.get? b=some o->b≠s.heap.objs.size:=λb o q=>Nat.ne_of_lt (Heap.lt_size q)
  have kk:∀b o,b≠e->b≠it->s.heap.get? b=some o->h''.get? b=some o:=λb o n1 n2 q=>g2.extBut b o n1 (q5 b o n1 n2 q)
  have pe:s.heap.objs.size≠e:=Nat.ne_of_gt (Heap.lt_size h1)
  have tup:h''.get? s.heap.objs.size=some { cls:=.type "tuple",data:=.seq #[.int i s.toks,u] }:=g2.extBut _ _ pe q3
  have I1:Inv X pins σ (upd H s.heap.objs.size (.tup [.int i,x])) { s with heap:=h'',toks:=s.toks+1 }:=by
   refine I.step (g':=s.gens) (d':=s.drawn) (ch:=[e,it]) (λb hb=>?_) (λb o _ _ hc q _=>?_) (λb o _ _ hc q _=>?_) (λb o _ q n=>?_) (λb o hc q=>?_) (λb ys q=>?_) (λb o v q=>?_) (λb ps q=>?_) (λm hm=>?_) (λb o q=>?_) I.bare
   . have hb:b=e\/b=it:=by simpa using hb
     rcases hb with rfl|rfl
     . exact⟨e3,e1,e4,e5⟩
     . exact⟨f3,f1,f4,f5⟩
   . exact kk b o (λz=>hc (by simp[z])) (λz=>hc (by simp[z])) q
   . exact⟨o.slots,kk b o (λz=>hc (by simp[z])) (λz=>hc (by simp[z])) q⟩
   . rw[aB (ne1 b o q)];exact n
   . exact⟨o,kk b o (λz=>hc (by simp[z])) (λz=>hc (by simp[z])) q⟩
   . rw[aB (aW q fr)];exact q
   . rw[aB (aW q fr)];exact q
   . exact⟨#[],by rw[aB (aW q fr),q];simp⟩
   . obtain⟨o,es,ep,ho,r⟩:=hm
     exact⟨o,es,ep,kk _ o (Ne.symm e1) (Ne.symm f1) ho,r⟩
   . by_cases hb:b=s.heap.objs.size
     . subst hb
       rw[aK] at q;cases q
       refine⟨gY,[.int i s.toks,u],.cons ⟨_,rfl⟩ (.cons ru .nil),?_⟩
       exact⟨_,tup,rfl,_,rfl⟩
     . rw[aB hb] at q
       refine(I.hok b o q).stay (λc v hc' z=>kk c v ?_ ?_ z) (λc z=>by rw[aB (aW z fr)];exact z) λc ys z=>by rw[aB (aW z fr)];exact z
       . rcases hc' with z|z
         . rw[z];exact aW q e0
         . exact aW z e0
       . rcases hc' with z|z
         . rw[z];exact aW q f0
         . exact aW z f0
  refine⟨.ref s.heap.objs.size,_,I1,rfl,⟨s.heap.objs.size,x,fr,rfl,λys hy=>by rw[I.rA hy hq];exact hx,rfl⟩,⟨u,?_,q2.extBut g2.extBut (Ne.symm hne)⟩,λb hb=>?_⟩
  . have ei:((i+1:Nat):Int)=(i:Int)+1:=by omega
    show IsEnum h'' e it ((i+1:Nat):Int) u
    rw[ei];exact g1
  . have hb':b=e\/b=it:=by simpa using hb
    have hlt:b<s.heap.objs.size:=by
     rcases hb' with rfl|rfl
     . exact Heap.lt_size h1
     . obtain⟨o,q,_⟩:=h2;exact Heap.lt_size q
    rw[aB (Nat.ne_of_lt hlt)]
    exact(hf b hb).1
 done:=by
  intro X hP hw hK hc i pins s σ H E I hf st hg
  subst hP hw hK
  obtain⟨old,h1,h2⟩:=st
  obtain⟨xs,hq,hx⟩:=hg
  obtain⟨its,rv,p,hz⟩:=I.list hq
  obtain⟨f0,f1,f2,f3,f4,f5⟩:=hf it (by simp)
  have hl:=rv.length
  exact wpAny_pyNext_enum_end (I.ok.hd hc) h1 h2 p.isList (by simp;omega) λh' eb=>⟨rfl,I.turned (t':=s.toks) (λb o hb q=>eb b o hb q) f0 f1 f3 f4 f5⟩
 self:=λA i s Q E st q=>by
  obtain⟨old,h1,_⟩:=st
  exact wpAny_pyIter_enum h1 q
noncomputable def Xl (K:W.Frag) (ta:TA):TI:=λσ H R=>ta σ H λvs H1=>∃a,vs=[.ref a]/\(∃xs,au K H1 a xs)/\R (Ite K a) H1
theorem Xm:bootBuiltins "enumerate"=some (.type "enumerate"):=by decide +kernel
theorem Hy {a:Expr}{ta:TA}{p pos tpos:Pos}{elts:List Expr}{k:Nat}(hg:Gl X "enumerate")(hm:X.mg "enumerate"=none)(ha:PA X [a] ta)(hs:starEach [a] X.env=[(false,eval a X.env)]:=by rfl):
 PI X (.Tuple elts k tpos) (.Call (.Name "enumerate" p) [a] [] pos) (Xl X.K ta):=by
 intro pins s σ H R I h
 refine Call_ (g_ I hg hm Xm (PyProof.Rows.callWith_type1 (aL (ha pos pins s σ H _ I h) λus s1 ⟨vs,H1,I1,r1,q1⟩=>?_) hs rfl))
 obtain⟨l,e,⟨xs,hq⟩,q⟩:=q1
 subst e
 obtain⟨u,rfl,ru⟩:=vals1 r1
 cases ru
 obtain⟨its,rv,pl,hz⟩:=I1.list hq
 refine call_enumerate_list pl.isList λh' q1 q2 q3 q4=>?_
 refine wpAny_pyIter_enum q1 ?_
 have I2:Inv X pins σ H1 { s1 with heap:=h' }:=I1.kept (t':=s1.toks) q4
 refine⟨s1.heap.objs.size+1,[s1.heap.objs.size+1,s1.heap.objs.size],_,_,H1,rfl,I2,Xk (Nat.ne_of_gt (Nat.lt_succ_self _)),⟨.none,q1,q2⟩,λb hb=>?_,q⟩
 have hb:s1.heap.objs.size<=b:=by
  have hb:b=s1.heap.objs.size+1\/b=s1.heap.objs.size:=by simpa using hb
  rcases hb with z|z
  . rw[z];exact Nat.le_succ _
  . rw[z];exact Nat.le_refl _
 exact I1.jo hb (I1.hok.fresh hb)
theorem boot_zip:bootBuiltins "zip"=some (.type "zip"):=by decide +kernel
theorem Xn:cP X (binaryOp .Mult) (λx y H Q=>∃z i,x=.str z/\y=.int i/\MulOk z i/\Q (.str (Txt.mul z i)) H):=by
 intro pins s σ H x y v u Q I rx ry h
 obtain⟨z,i,rfl,rfl,ok,q⟩:=h
 obtain⟨t,rfl⟩:=rx
 obtain⟨t',rfl⟩:=ry
 exact SB.mul ok λt2 k=>⟨.str (Txt.mul z i),H,I.tok k,⟨_,rfl⟩,q⟩
end
theorem yes {σ:St}{H:Hp}{Q:Bool->Hp->Prop}(h:Q true H):dW σ H Q:=h
section
variable {K:W.Frag}{σ:St}{H:Hp}{Q:VK}{D:Ends}
theorem pL {i:Nat}{a b:Str}{T U:TS}(h:σ[i]? =some (some (.str a)))(hy:decide (V.str a=V.str b)=true)(q:T D σ H):nq (jd (bD nH (aV i) (tC (.str b)))) T U D σ H:=
 ⟨_,h,rfl,_,rfl,by rw[hy];exact bW q⟩
theorem nQ {i:Nat}{a b:Str}{T U:TS}(h:σ[i]? =some (some (.str a)))(hy:decide (V.str a=V.str b)=false)(q:U D σ H):nq (jd (bD nH (aV i) (tC (.str b)))) T U D σ H:=
 ⟨_,h,rfl,_,rfl,by rw[hy];exact bM q⟩
theorem v8 {i:Nat}{p:Addr}{xs:List V}{a b:Str}{T U:TS}(h:σ[i]? =some (some (.ref p)))(h2:H p=some (.tup xs))(h3:xs[0]? =some (.str a))(hy:decide (V.str a=V.str b)=true)(q:T D σ H):
 nq (jd (bD nH (bD (jU K) (aV i) (tC (.int 0))) (tC (.str b)))) T U D σ H:=
 ⟨_,h,p,xs,0,.str a,rfl,rfl,aq.of h2,lY (j:=0) h3,rfl,_,rfl,by rw[hy];exact bW q⟩
theorem v9 {i:Nat}{p:Addr}{xs:List V}{a b:Str}{T U:TS}(h:σ[i]? =some (some (.ref p)))(h2:H p=some (.tup xs))(h3:xs[0]? =some (.str a))(hy:decide (V.str a=V.str b)=false)(q:U D σ H):
 nq (jd (bD nH (bD (jU K) (aV i) (tC (.int 0))) (tC (.str b)))) T U D σ H:=
 ⟨_,h,p,xs,0,.str a,rfl,rfl,aq.of h2,lY (j:=0) h3,rfl,_,rfl,by rw[hy];exact bM q⟩
end
end L2
namespace L2
open PySem
noncomputable def Hz (own N:List Str) (scope sc:Scope):Bool:=
 scope.names.all (λy=>decide (y.2≠ .cell)) && scope.names.all (λy=>decide (y.2=.local->scope.names.lookup y.1=some .local)) &&
 scope.names.all (λy=>decide (y.2=.free->sc.names.lookup y.1=some .cell\/sc.names.lookup y.1=some .free)) && decide (own++N).Nodup && N.all λx=>decide (scope.names.lookup x≠some .local)
theorem cI.of {X:Cx}{own N:List Str}{scope sc:Scope}(hsc:X.env.scope=sc)(hN:X.N=N)(k:scope.kind=.function)(c:Hz own N scope sc=true):cI X own scope:=by
 unfold Hz at c
 simp only[Bool.and_eq_true,List.all_eq_true,decide_eq_true_eq] at c
 obtain⟨⟨⟨⟨c1,c2⟩,c3⟩,c4⟩,c5⟩:=c
 exact⟨k,c1,c2,λy hy hf=>by rw[show X.env.kindOf y.1=X.env.scope.names.lookup y.1 from rfl,hsc];exact c3 y hy hf,by rw[hN];exact c4,by rw[hN];exact c5⟩
end L2
namespace jy
open PySem PySem.W PyProof.Rows
noncomputable def bA {α:Type}(f:Nat->Nat->Bool):KasT α->α
 | .ret a=>a
 | .ask i j k=>bA f (k (f i j))
theorem nR {α β:Type}(f:Nat->Nat->Bool)(g:α->KasT β):∀t:KasT α,bA f (t.bind g)=bA f (g (bA f t))
 | .ret _=>rfl
 | .ask i j k=>nR f g (k (f i j))
noncomputable def Bn {α:Type}(n:Nat) (R:α->Prop):KasT α->Prop
 | .ret a=>R a
 | .ask i j k=>i<n/\j<n/\∀b,Bn n R (k b)
theorem Bn.bind {α β:Type}{n:Nat}{R:α->Prop}{S:β->Prop}{g:α->KasT β}:∀{t:KasT α},Bn n R t->(∀a,R a->Bn n S (g a))->Bn n S (t.bind g)
 | .ret a,h,k=>k a h
 | .ask i j q,h,k=>⟨h.1,h.2.1,λb=>Bn.bind (h.2.2 b) k⟩
theorem HB {α:Type}{n:Nat}{R:α->Prop}{f:Nat->Nat->Bool}{cmp:Nat->Nat->(Bool->Shared->Prop)->Shared->Prop}{Q:α->Shared->Prop}{s:Shared}
 (h:∀i j (C:Bool->Shared->Prop),i<n->j<n->C (f i j) s->cmp i j C s):∀{t:KasT α},Bn n R t->Q (bA f t) s->t.kasWp cmp Q s
 | .ret a,_,q=>q
 | .ask i j k,b,q=>h i j _ b.1 b.2.1 (HB h (b.2.2 (f i j)) q)
noncomputable def Lt (n:Nat) (p:Array Nat):Prop:=0<n/\∀x∈p,x<n
theorem Lt.at {n:Nat}{p:Array Nat}(h:Lt n p)(i:Nat):p.getD i 0<n:=by
 rw[Array.getD_eq_getD_getElem?]
 cases e:p[i]? with
 |none=>exact h.1
 |some x=>exact h.2 x (Array.mem_of_getElem? e)
theorem Lt.perm {n:Nat}{p q:Array Nat}(h:Lt n p)(hp:q.Perm p):Lt n q:=⟨h.1,λx hx=>h.2 x (hp.mem_iff.mp hx)⟩
theorem jz (p:Array Nat)(i j:Nat):(kas_rev p i j).Perm p:=mirror_perm _ _ _ _
theorem Xo (p:Array Nat)(i j:Nat):(kas_rev p i j).size=p.size:=mirror_size _ _ _ _
theorem wg {n:Nat}{p:Array Nat}(h:Lt n p):∀f m,Bn n (λ_=>True) (kas_asc p f m)
 |0,_=>trivial
 |f+1,m=>⟨h.at _,h.at _,λb=>by
   cases b with
   |true=>exact trivial
   |false=>exact wg h f (m+1)⟩
theorem sO {n:Nat}:∀f (p:Array Nat) m q,Lt n p->Bn n (λr:Array Nat × Nat × Nat=>Lt n r.1) (kas_desc f p m q)
 |0,_,_,_,h=>h
 |f+1,p,m,q,h=>⟨h.at _,h.at _,λb=>by
   cases b with
   |true=>
    show Bn n _ (if q > 0 then kas_desc f (kas_rev p (m - (q+1)) m) (m+1) 0 else kas_desc f p (m+1) 0)
    split
    . exact sO f _ _ _ (h.perm (jz _ _ _))
    . exact sO f _ _ _ h
   |false=>
    refine⟨h.at _,h.at _,λd=>?_⟩
    cases d with
    |true=>exact h
    |false=>exact sO f _ _ _ h⟩
theorem HD {n m r:Nat}{p:Array Nat}(h:Lt n p):Bn n (λq:Nat × Array Nat=>Lt n q.2) (kas_tail3 m r p):=
 (wg (h.perm (jz _ _ _)) _ _).bind λ_ _=>h.perm (jz _ _ _)
theorem HF {n m r:Nat}{p:Array Nat}(h:Lt n p):Bn n (λq:Nat × Array Nat=>Lt n q.2) (kas_descPart m r p):=by
 refine(sO _ _ _ _ h).bind λa ha=>?_
 split
 . exact HD (ha.perm (jz _ _ _))
 . exact HD ha
theorem Xp {n r:Nat}{p:Array Nat}(h:Lt n p):Bn n (λq:Nat × Array Nat=>Lt n q.2) (kas_count r p):=by
 refine(wg h _ _).bind λa _=>?_
 split
 . exact h
 split
 . refine⟨h.at _,h.at _,λb=>?_⟩
   cases b with
   |true=>exact h
   |false=>exact HF (h.perm (jz _ _ _))
 . exact HF h
theorem wj {n k:Nat}{p:Array Nat}(h:Lt n p):∀f l r,Bn n (λ_=>True) (kas_place p k f l r)
 |0,_,_=>trivial
 |f+1,l,r=>by
  unfold kas_place
  split
  . exact trivial
  . refine⟨h.at _,h.at _,λb=>?_⟩
    cases b with
    |true=>exact wj h f _ _
    |false=>exact wj h f _ _
theorem HN {n:Nat}:∀f (p:Array Nat) k,Lt n p->Bn n (λ_=>True) (kas_bin f p k)
 |0,_,_,_=>trivial
 |f+1,p,k,h=>(wj h _ _ _).bind λl _=>HN f _ _ (h.perm (bubble_perm _ _ _))
theorem Xq {n:Nat}(hn:0<n):Bn n (λ_=>True) (kas_sort n):=by
 have h:Lt n (List.toArray (List.range n)):=⟨hn,λx hx=>by simpa using hx⟩
 refine(Xp h).bind λr hr=>?_
 split
 . exact HN _ _ _ hr
 . exact trivial
section
variable {O:KeyOrd}(key:Nat->O.α)
noncomputable def bG:Nat->Nat->Bool:=λi j=>O.blt (key i) (key j)
noncomputable def Kp (p:Array Nat) (i:Nat):O.α:=key (p.getD i 0)
noncomputable def fH (p:Array Nat) (k:Nat):Prop:=∀i j,i<=j->j<k->O.kle (Kp key p i) (Kp key p j)
noncomputable def gJ (p:Array Nat) (k:Nat):Prop:=∀i j,i<=j->j<k->O.kle (Kp key p j) (Kp key p i)
variable {key}
theorem fH.succ {p:Array Nat}{n:Nat}(h:fH key p n)(h1:1<=n)(e:O.kle (Kp key p (n - 1)) (Kp key p n)):fH key p (n+1):=by
 intro i j hij hj
 by_cases hjn:j<n
 . exact h i j hij hjn
 . have:j=n:=by omega
   subst this
   by_cases hi:i=j
   . subst hi;exact KeyOrd.kle_refl _
   . exact KeyOrd.kle_trans (h i (j - 1) (by omega) (by omega)) e
theorem gJ.succ {p:Array Nat}{n:Nat}(h:gJ key p n)(h1:1<=n)(e:O.kle (Kp key p n) (Kp key p (n - 1))):gJ key p (n+1):=by
 intro i j hij hj
 by_cases hjn:j<n
 . exact h i j hij hjn
 . have:j=n:=by omega
   subst this
   by_cases hi:i=j
   . subst hi;exact KeyOrd.kle_refl _
   . exact KeyOrd.kle_trans e (h i (j - 1) (by omega) (by omega))
theorem pN {p q:Array Nat}{i j:Nat}(h:p[i]? =q[j]?):Kp key p i=Kp key q j:=by
 unfold Kp
 rw[Array.getD_eq_getD_getElem?,Array.getD_eq_getD_getElem?,h]
theorem wu {p:Array Nat}{i j:Nat}(hj:j<=p.size)(k:Nat):Kp key (kas_rev p i j) k=if i<=k/\k<j then Kp key p (i+j - 1 - k) else Kp key p k:=by
 have e:=getElem?_mirror_all (i:=i) hj k
 by_cases h1:i<=k/\k<j
 . rw[if_pos h1] at e ⊢;exact pN e
 . rw[if_neg h1] at e ⊢;exact pN e
theorem wz {p:Array Nat}{i j:Nat}(hj:j<=p.size)(heq:∀k,i<=k->k<j->Kp key p k=Kp key p (j - 1))(k:Nat):Kp key (kas_rev p i j) k=Kp key p k:=by
 rw[wu hj]
 split
 . rw[heq _ (by omega) (by omega),heq k (by omega) (by omega)]
 . rfl
theorem Xr {p:Array Nat}{src d:Nat}(hs:src<p.size)(hd:d<=src)(k:Nat):
 Kp key (bubble p src d) k=if k=src - d then Kp key p src else if src - d<k/\k<=src then Kp key p (k - 1) else Kp key p k:=by
 have e:=getElem?_bubble hs d hd k
 by_cases h1:k=src - d
 . rw[if_pos h1] at e ⊢;exact pN e
 . rw[if_neg h1] at e ⊢
   by_cases h2:src - d<k/\k<=src
   . rw[if_pos h2] at e ⊢;exact pN e
   . rw[if_neg h2] at e ⊢;exact pN e
theorem gJ.congr {p q:Array Nat}{n:Nat}(h:gJ key p n)(e:∀k,Kp key q k=Kp key p k):gJ key q n:=λi j a b=>by
 rw[e,e];exact h i j a b
theorem wA {p:Array Nat}:∀f n,1<=n->fH key p n->n<=bA (bG key) (kas_asc p f n)/\bA (bG key) (kas_asc p f n)<=n+f/\fH key p (bA (bG key) (kas_asc p f n))/\
 (bA (bG key) (kas_asc p f n)<n+f->O.klt (Kp key p (bA (bG key) (kas_asc p f n))) (Kp key p (bA (bG key) (kas_asc p f n) - 1)))
 |0,n,_,h=>⟨Nat.le_refl _,Nat.le_refl _,h,λz=>absurd z (Nat.lt_irrefl _)⟩
 |f+1,n,h1,h=>by
  have e:bA (bG key) (kas_asc p (f+1) n)=bA (bG key) (if O.blt (Kp key p n) (Kp key p (n - 1))=true then .ret n else kas_asc p f (n+1)):=rfl
  rw[e]
  cases c:O.blt (Kp key p n) (Kp key p (n - 1)) with
  |true=>
   rw[if_pos rfl]
   exact⟨Nat.le_refl _,Nat.le_add_right _ _,h,λ_=>c⟩
  |false=>
   rw[if_neg (by simp)]
   obtain⟨a1,a2,a3,a4⟩:=wA f (n+1) (by omega) (h.succ h1 c)
   exact⟨by omega,by omega,a3,λz=>a4 (by omega)⟩
structure DI (O:KeyOrd) (key:Nat->O.α) (p₀:Array Nat) (p:Array Nat) (n q:Nat):Prop where
 perm:p.Perm p₀
 non:gJ key p n
 one:q+1<=n
 size:n<=p.size
 eq:∀k,n - (q+1)<=k->k<n->Kp key p k=Kp key p (n - 1)
theorem sS {p₀:Array Nat}:∀f (p:Array Nat) n q,DI O key p₀ p n q->n+f<=p₀.size->
 ∃p' n' q',bA (bG key) (kas_desc f p n q)=(p',n',q')/\DI O key p₀ p' n' q'/\n'<=n+f
 |0,p,n,q,d,_=>⟨p,n,q,rfl,d,Nat.le_refl _⟩
 |f+1,p,n,q,d,hs=>by
  have hsz:p.size=p₀.size:=d.perm.size_eq
  have e:bA (bG key) (kas_desc (f+1) p n q)=bA (bG key) (if O.blt (Kp key p n) (Kp key p (n - 1))=true then(if q > 0 then kas_desc f (kas_rev p (n - (q+1)) n) (n+1) 0 else kas_desc f p (n+1) 0)
   else .ask (p.getD (n - 1) 0) (p.getD n 0) λd=>if d=true then .ret (p,n,q) else kas_desc f p (n+1) (q+1)):=rfl
  rw[e]
  have one:=d.one
  cases c:O.blt (Kp key p n) (Kp key p (n - 1)) with
  |true=>
   rw[if_pos rfl]
   have cl:O.kle (Kp key p n) (Kp key p (n - 1)):=KeyOrd.kle_of_klt c
   by_cases hq:q > 0
   . rw[if_pos hq]
     have ek:∀k,Kp key (kas_rev p (n - (q+1)) n) k=Kp key p k:=wz d.size d.eq
     have d':DI O key p₀ (kas_rev p (n - (q+1)) n) (n+1) 0:=⟨(jz _ _ _).trans d.perm,(d.non.succ (by omega) cl).congr ek,by omega,by rw[Xo];omega,λk h1 h2=>by
      have:k=n:=by omega
      subst this;rfl⟩
     obtain⟨p',n',q',r1,r2,r3⟩:=sS f _ _ _ d' (by omega)
     exact⟨p',n',q',r1,r2,by omega⟩
   . rw[if_neg hq]
     have d':DI O key p₀ p (n+1) 0:=⟨d.perm,d.non.succ (by omega) cl,by omega,by omega,λk h1 h2=>by
      have:k=n:=by omega
      subst this;rfl⟩
     obtain⟨p',n',q',r1,r2,r3⟩:=sS f _ _ _ d' (by omega)
     exact⟨p',n',q',r1,r2,by omega⟩
  |false=>
   rw[if_neg (by simp)]
   have e2:bA (bG key) (.ask (p.getD (n - 1) 0) (p.getD n 0) λd=>if d=true then .ret (p,n,q) else kas_desc f p (n+1) (q+1))=bA (bG key) (if O.blt (Kp key p (n - 1)) (Kp key p n)=true then .ret (p,n,q) else kas_desc f p (n+1) (q+1)):=rfl
   rw[e2]
   cases c2:O.blt (Kp key p (n - 1)) (Kp key p n) with
   |true=>
    rw[if_pos rfl]
    exact⟨p,n,q,rfl,d,by omega⟩
   |false=>
    rw[if_neg (by simp)]
    have ee:Kp key p n=Kp key p (n - 1):=O.total _ _ c c2
    have d':DI O key p₀ p (n+1) (q+1):=⟨d.perm,d.non.succ (by omega) (by rw[ee];exact KeyOrd.kle_refl _),by omega,by omega,λk h1 h2=>by
     show Kp key p k=Kp key p n
     by_cases hk:k=n
     . rw[hk]
     . rw[ee];exact d.eq k (by omega) (by omega)⟩
    obtain⟨p',n',q',r1,r2,r3⟩:=sS f _ _ _ d' (by omega)
    exact⟨p',n',q',r1,r2,by omega⟩
noncomputable def pO (O:KeyOrd) (key:Nat->O.α) (p₀:Array Nat) (nrem:Nat) (r:Nat × Array Nat):Prop:=r.2.Perm p₀/\1<=r.1/\r.1<=nrem/\fH key r.2 r.1
theorem HS {p₀ p:Array Nat}{n nrem:Nat}(hp:p.Perm p₀)(h1:1<=n)(hn:n<=nrem)(hs:nrem<=p₀.size)(h:gJ key p n):pO O key p₀ nrem (bA (bG key) (kas_tail3 n nrem p)):=by
 have hsz:p.size=p₀.size:=hp.size_eq
 unfold kas_tail3
 rw[nR]
 have hS:fH key (kas_rev p 0 n) n:=λi j hij hj=>by
  rw[wu (by omega),wu (by omega),if_pos (by omega),if_pos (by omega)]
  exact h _ _ (by omega) (by omega)
 obtain⟨a1,a2,a3,_⟩:=wA (key:=key) (p:=kas_rev p 0 n) (nrem - n) n h1 hS
 exact⟨(jz _ _ _).trans hp,by show 1<=bA _ _;omega,by show bA _ _<=nrem;omega,a3⟩
theorem HW {p₀ p:Array Nat}{n nrem:Nat}(hp:p.Perm p₀)(h1:1<=n)(hn:n+1<=nrem)(hs:nrem<=p₀.size)(h:gJ key p (n+1)):pO O key p₀ nrem (bA (bG key) (kas_descPart n nrem p)):=by
 have hsz:p.size=p₀.size:=hp.size_eq
 unfold kas_descPart
 rw[nR]
 have d:DI O key p₀ p (n+1) 0:=⟨hp,h,by omega,by omega,λk h1 h2=>by
  have:k=n:=by omega
  subst this;rfl⟩
 obtain⟨p',n',q',r1,r2,r3⟩:=sS (key:=key) (nrem - (n+1)) p (n+1) 0 d (by omega)
 rw[r1]
 have o:=r2.one
 have sz:=r2.size
 have hsz':p'.size=p₀.size:=r2.perm.size_eq
 by_cases hq:q' > 0
 . show pO O key p₀ nrem (bA (bG key) (if q' > 0 then kas_tail3 n' nrem (kas_rev p' (n' - (q'+1)) n') else kas_tail3 n' nrem p'))
   rw[if_pos hq]
   exact HS ((jz _ _ _).trans r2.perm) (by omega) (by omega) hs (r2.non.congr (wz r2.size r2.eq))
 . show pO O key p₀ nrem (bA (bG key) (if q' > 0 then kas_tail3 n' nrem (kas_rev p' (n' - (q'+1)) n') else kas_tail3 n' nrem p'))
   rw[if_neg hq]
   exact HS r2.perm (by omega) (by omega) hs r2.non
theorem Xu {p:Array Nat}{nrem:Nat}(h1:1<=nrem)(hs:nrem<=p.size):pO O key p nrem (bA (bG key) (kas_count nrem p)):=by
 unfold kas_count
 rw[nR]
 obtain⟨a1,a2,a3,a4⟩:=wA (key:=key) (p:=p) (nrem - 1) 1 (Nat.le_refl _) (λi j hij hj=>by
  have e1:i=0:=by omega
  have e2:j=0:=by omega
  subst e1;subst e2;exact KeyOrd.kle_refl _)
 generalize bA (bG key) (kas_asc p (nrem - 1) 1)=n at *
 by_cases hn:n=nrem
 . rw[if_pos (by simpa using hn)]
   exact⟨Array.Perm.refl _,a1,by show n<=nrem;omega,a3⟩
 . rw[if_neg (by simpa using hn)]
   have cl:O.klt (Kp key p n) (Kp key p (n - 1)):=a4 (by omega)
   by_cases hg:n > 1
   . rw[if_pos hg]
     have e:bA (bG key) (.ask (p.getD 0 0) (p.getD (n - 1) 0) λc=>if c=true then .ret (n,p) else kas_descPart n nrem (kas_rev p 0 n))=
      bA (bG key) (if O.blt (Kp key p 0) (Kp key p (n - 1))=true then .ret (n,p) else kas_descPart n nrem (kas_rev p 0 n)):=rfl
     rw[e]
     cases c:O.blt (Kp key p 0) (Kp key p (n - 1)) with
     |true=>
      rw[if_pos rfl]
      exact⟨Array.Perm.refl _,a1,by show n<=nrem;omega,a3⟩
     |false=>
      rw[if_neg (by simp)]
      have all:∀k,0<=k->k<n->Kp key p k=Kp key p (n - 1):=λk _ hk=>by
       have c':O.kle (Kp key p (n - 1)) (Kp key p 0):=c
       exact KeyOrd.kle_antisymm (a3 k (n - 1) (by omega) (by omega)) (KeyOrd.kle_trans c' (a3 0 k (by omega) hk))
      have ek:∀k,Kp key (kas_rev p 0 n) k=Kp key p k:=wz (by omega) all
      refine HW (jz _ _ _) a1 (by omega) hs (gJ.congr (gJ.succ (n:=n) (λi j hij hj=>?_) a1 (KeyOrd.kle_of_klt cl)) ek)
      rw[all i (by omega) (by omega),all j (by omega) (by omega)]
      exact KeyOrd.kle_refl _
   . rw[if_neg hg]
     have:n=1:=by omega
     subst this
     refine HW (Array.Perm.refl _) a1 (by omega) hs (gJ.succ (n:=1) (λi j hij hj=>?_) a1 (KeyOrd.kle_of_klt cl))
     have e1:i=0:=by omega
     have e2:j=0:=by omega
     subst e1;subst e2;exact KeyOrd.kle_refl _
theorem wB {p:Array Nat}{k:Nat}(h:fH key p k):∀f l r,l<=r->r<=k->r - l<=f->(∀i,i<l->O.kle (Kp key p i) (Kp key p k))->(∀i,r<=i->i<k->O.klt (Kp key p k) (Kp key p i))->
 ∃m,bA (bG key) (kas_place p k f l r)=m/\m<=k/\(∀i,i<m->O.kle (Kp key p i) (Kp key p k))/\(∀i,m<=i->i<k->O.klt (Kp key p k) (Kp key p i))
 |0,l,r,h1,h2,h3,h4,h5=>⟨l,rfl,by omega,h4,λi a b=>h5 i (by omega) b⟩
 |f+1,l,r,h1,h2,h3,h4,h5=>by
  by_cases hg:l ≥ r
  . refine⟨l,?_,by omega,h4,λi a b=>h5 i (by omega) b⟩
    unfold kas_place
    rw[if_pos hg];rfl
  . have e:bA (bG key) (kas_place p k (f+1) l r)=bA (bG key) (if O.blt (Kp key p k) (Kp key p ((l+r) / 2))=true then kas_place p k f l ((l+r) / 2) else kas_place p k f ((l+r) / 2+1) r):=by
     show bA (bG key) (if l ≥ r then .ret l else _)=_
     rw[if_neg hg];rfl
    rw[e]
    cases c:O.blt (Kp key p k) (Kp key p ((l+r) / 2)) with
    |true=>
     rw[if_pos rfl]
     exact wB h f _ _ (by omega) (by omega) (by omega) h4 λi a b=>KeyOrd.klt_of_klt_of_kle (show O.klt _ _ from c) (h _ _ a b)
    |false=>
     rw[if_neg (by simp)]
     exact wB h f _ _ (by omega) h2 (by omega) (λi a=>KeyOrd.kle_trans (h i ((l+r) / 2) (by omega) (by omega)) (show O.kle _ _ from c)) h5
theorem HX:∀f (p:Array Nat) k,fH key p k->k+f<=p.size->(bA (bG key) (kas_bin f p k)).Perm p/\fH key (bA (bG key) (kas_bin f p k)) (k+f)
 |0,p,k,h,_=>⟨Array.Perm.refl _,h⟩
 |f+1,p,k,h,hs=>by
  have e:bA (bG key) (kas_bin (f+1) p k)=bA (bG key) (kas_bin f (bubble p k (k - bA (bG key) (kas_place p k k 0 k))) (k+1)):=by
   show bA (bG key) ((kas_place p k k 0 k).bind λl=>kas_bin f (bubble p k (k - l)) (k+1))=_
   rw[nR]
  rw[e]
  obtain⟨m,em,m1,m2,m3⟩:=wB h k 0 k (Nat.zero_le _) (Nat.le_refl _) (Nat.le_refl _) (λi z=>absurd z (Nat.not_lt_zero _)) (λi a b=>absurd a (by omega))
  rw[em]
  have kb:=λi=>Xr (key:=key) (p:=p) (src:=k) (d:=k - m) (by omega) (by omega) i
  have hm:k - (k - m)=m:=by omega
  rw[hm] at kb
  have hS:fH key (bubble p k (k - m)) (k+1):=by
   intro i j hij hj
   rw[kb i,kb j]
   by_cases ei:i=m
   . rw[if_pos ei]
     by_cases ej:j=m
     . rw[if_pos ej];exact KeyOrd.kle_refl _
     . rw[if_neg ej,if_pos (by omega)]
       exact KeyOrd.kle_of_klt (m3 _ (by omega) (by omega))
   . rw[if_neg ei]
     by_cases li:m<i/\i<=k
     . rw[if_pos li,if_neg (by omega),if_pos (by omega)]
       exact h _ _ (by omega) (by omega)
     . rw[if_neg li]
       by_cases ej:j=m
       . rw[if_pos ej];exact m2 i (by omega)
       . rw[if_neg ej]
         by_cases lj:m<j/\j<=k
         . rw[if_pos lj];exact h _ _ (by omega) (by omega)
         . rw[if_neg lj];exact h _ _ hij (by omega)
  obtain⟨b1,b2⟩:=HX f (bubble p k (k - m)) (k+1) hS (by rw[bubble_size];omega)
  exact⟨b1.trans (bubble_perm _ _ _),by rw[show k+(f+1)=k+1+f by omega];exact b2⟩
theorem Xv {n:Nat}(hn:1<=n):(bA (bG key) (kas_sort n)).toList.Perm (List.range n)/\((bA (bG key) (kas_sort n)).toList.map key).Pairwise O.kle:=by
 have hz:(List.toArray (List.range n)).size=n:=by simp
 obtain⟨c1,c2,c3,c4⟩:=Xu (key:=key) (p:=List.toArray (List.range n)) (nrem:=n) hn (by omega)
 have main:(bA (bG key) (kas_sort n)).Perm (List.toArray (List.range n))/\fH key (bA (bG key) (kas_sort n)) n:=by
  unfold kas_sort
  rw[nR]
  generalize bA (bG key) (kas_count n (List.toArray (List.range n)))=r at *
  obtain⟨m,p⟩:=r
  have hsz:p.size=n:=by rw[c1.size_eq,hz]
  by_cases hm:m<n
  . show(bA (bG key) (if m<n then kas_bin (n - max m 1) p (max m 1) else .ret p)).Perm _/\fH key (bA (bG key) (if m<n then kas_bin (n - max m 1) p (max m 1) else .ret p)) n
    rw[if_pos hm]
    have c2:1<=m:=c2
    have em:max m 1=m:=by omega
    rw[em]
    obtain⟨b1,b2⟩:=HX (key:=key) (n - m) p m c4 (by omega)
    exact⟨b1.trans c1,by rw[show n=m+(n - m) by omega];rw[show m+(n - m) - m=n - m by omega];exact b2⟩
  . show(bA (bG key) (if m<n then kas_bin (n - max m 1) p (max m 1) else .ret p)).Perm _/\fH key (bA (bG key) (if m<n then kas_bin (n - max m 1) p (max m 1) else .ret p)) n
    rw[if_neg hm]
    have c3:m<=n:=c3
    have:m=n:=by omega
    subst this
    exact⟨c1,c4⟩
 refine⟨Array.perm_iff_toList_perm.mp main.1,?_⟩
 have hsz:(bA (bG key) (kas_sort n)).size=n:=by rw[main.1.size_eq,hz]
 rw[List.pairwise_map,List.pairwise_iff_getElem]
 intro i j hi hj hij
 have hi':i<(bA (bG key) (kas_sort n)).size:=by simpa using hi
 have hj':j<(bA (bG key) (kas_sort n)).size:=by simpa using hj
 have q:=main.2 i j (Nat.le_of_lt hij) (by omega)
 unfold Kp at q
 rw[Array.getD_eq_getD_getElem?,Array.getD_eq_getD_getElem?,Array.getElem?_eq_getElem hi',Array.getElem?_eq_getElem hj'] at q
 simpa using q
end
end jy
namespace L2
open PySem PySem.Spec PyProof.Rows
noncomputable def sU (c':Addr) (qual:Str):Heap->Prop:=λh=>h.CodeRec (.ref c') qual
noncomputable def mz (P:Addr) (pos:Pos) (qual:Str) (c':Addr) (H:Hp):Prop:=H P=some (.cO #[rawInt pos.line,rawInt pos.col,.ref c'])/\H c'=some (.ext (sU c' qual))
noncomputable def cg (P:Addr) (pos:Pos) (qual:Str) (H:Hp):Prop:=H P=some (.cO #[])\/∃c',mz P pos qual c' H
theorem mz.mono {P:Addr}{pos:Pos}{qual:Str}{c':Addr}{H H':Hp}(h:mz P pos qual c' H)(k:∀b o,(b=P\/b=c')->H b=some o->H' b=some o):mz P pos qual c' H':=⟨k _ _ (.inl rfl) h.1,k _ _ (.inr rfl) h.2⟩
noncomputable def BM (mg:Str->Option Value) (base:Heap):Prop:=
 ∃bm o,mg "__builtins__"=some (.ref bm)/\bm≠builtinsNs/\bm≠mainGlobals/\base.get? bm=some o/\o.cls=.type "module"/\o.dict=some builtinsNs/\o.data=.plain
section
variable {X:Cx}{pins:List (Addr × Obj)}{σ:St}{H:Hp}{s:Shared}
theorem Inv.HY (I:Inv X pins σ H s){P b:Addr}{o:HO}{u:Obj}(e:H P=some o)(hb:X.base.get? b=some u):b≠P:=λz=>by
 have:=(I.bs b u hb).2
 rw[z,e] at this;cases this
theorem Inv.H_ (I:Inv X pins σ H s)(B:BM X.mg X.base){P:Addr}{o:HO}(e:H P=some o):s.heap.BuiltinsAt X.mg P:=by
 obtain⟨bm,ob,b1,b2,b3,b4,b5⟩:=B
 exact⟨bm,ob,b1,b2,b3,I.HY e b4,(I.bs bm ob b4).1,b5⟩
theorem Inv.adopt {b:Addr}{o:HO}{h':Heap}{t':Nat}(I:Inv X pins σ H s)(f:dz X pins H b)(k:∀c u,c≠b->s.heap.get? c=some u->h'.get? c=some u)(new:cG X.prog X.w (upd H b o) h' b o):
 Inv X pins σ (upd H b o) { s with heap:=h',toks:=t' }:=by
 obtain⟨f0,f1,f2,f3,f4,f5⟩:=f
 have nb:∀c u,H c=some u->c≠b:=λc u e=>aW e f0
 refine I.step (g':=s.gens) (d':=s.drawn) (ch:=[b]) (λc hc=>?_) (λc u _ _ hc e _=>k c u (λz=>hc (by simp[z])) e) (λc u _ _ hc e _=>⟨u.slots,k c u (λz=>hc (by simp[z])) e⟩) (λc u hc e n=>?_)
  (λc u hc e=>⟨u,k c u (λz=>hc (by simp[z])) e⟩) (λc xs e=>?_) (λc ob u e=>?_) (λc ps e=>⟨#[],?_⟩) (λm hm=>?_) (λc u e=>?_) I.bare
 . have e:c=b:=by simpa using hc
   subst e
   exact⟨f3,f1,f4,f5⟩
 . rw[aB (λz=>hc (by simp[z]))];exact n
 . rw[aB (nb _ _ e)];exact e
 . rw[aB (nb _ _ e)];exact e
 . rw[aB (nb _ _ e),e];simp
 . obtain⟨ob,es,ep,ho,r⟩:=hm
   exact⟨ob,es,ep,k _ ob (Ne.symm f1) ho,r⟩
 . by_cases hc:c=b
   . subst hc
     rw[aK] at e;cases e
     exact new
   . rw[aB hc] at e
     refine(I.hok c u e).stay (λd v hd q=>k d v ?_ q) (λd q=>by rw[aB (nb _ _ q)];exact q) λd xs q=>by rw[aB (nb _ _ q)];exact q
     rcases hd with z|z
     . rw[z];exact hc
     . exact nb _ _ z
theorem Inv.own {b:Addr}{h':Heap}{t':Nat}(I:Inv X pins σ H s)(f:dz X pins H b)(hs:Heap.SameBut b s.heap h'):Inv X pins σ H { s with heap:=h',toks:=t' }:=
 I.turned (t':=t') (λc u hc e=>(hs.2 c hc).trans e) f.1 f.2.1 f.2.2.2.1 f.2.2.2.2.1 f.2.2.2.2.2
theorem Xw {name qual:Str}{params:Arguments}{body:Expr}{scope:Scope}{pos:Pos}{firstLine:Nat}{cl:List (Str × Addr)}{c P:Addr}{Q:Value->Shared->Prop}{E:Value->Shared->Prop}(I:Inv X pins σ H s)(hcode:X.env.code=.ref c)(C:W.CodeHd X.base c P)
 (B:BM X.mg X.base) (T:cg P pos qual H) (hcl:closureFor scope X.env=pure cl)
 (h:∀(f c':Addr) (pm ctv:Value) (H':Hp) (s':Shared),Inv X (pins++[(f,W.kla_obj name qual params body scope cl pm c' ctv)]) σ H' s'->mz P pos qual c' H'->(∀b o,b≠P->H b=some o->H' b=some o)->Q (.ref f) s'):
 wpAny (model X.prog X.w) X.A (makeFunction name qual params (.expr body) scope X.env [] [] [] pos firstLine) Q E s:=by
 have hg:s.heap.Ns mainGlobals X.mg:=I.mod.glob.keeps I.bk
 have C':=C.keeps I.bk
 have lay:∀{H':Hp} {s':Shared} {f:Addr} {o:Obj},Inv X pins σ H' s'->s'.heap.get? f=some o->H' f=none->s.heap.objs.size<=f->(∀v,o.data≠ .cell v)->Inv X (pins++[(f,o)]) σ H' s':=λ{H' s' f o} J e n hz d=>
  J.lJ λp hp=>(List.mem_append.mp hp).elim (λz=>J.pin p (List.mem_append_right _ z)) λz=>by
    have:p=(f,o):=by simpa using z
    subst this
    exact⟨e,n,Nat.ne_of_gt (Nat.lt_of_lt_of_le I.lt hz),I.m_ hz,d⟩
 rcases T with e|⟨c',e1,e2⟩
 . have hP:s.heap.get? P=some (W.tabObj #[]):=I.hok P _ e
   have hPs:P<s.heap.objs.size:=Heap.lt_size hP
   have hgP:mainGlobals≠P:=by
    obtain⟨o,es,ep,eo,_⟩:=I.mod.glob
    exact I.HY e eo
   refine W.kla_makeFunction (mg:=X.mg) hcl I.ok.glob hg hcode C' hP trivial rfl hgP (I.H_ B e) λc' ctv h' tk hx hge hlt hrec htb=>?_
   have Ia:c'≠P:=Nat.ne_of_gt (Nat.lt_of_lt_of_le hPs hge)
   have hcn:H c'=none:=I.hok.fresh hge
   have nP:∀b u,H b=some u->u≠ .cO #[]->b≠P:=λb u q d z=>by
    rw[z,e] at q
    exact d (Option.some.inj q).symm
   have nC:∀b u,H b=some u->b≠c':=λb u q=>aW q hcn
   have kk:∀(ob:Obj) b u,b≠P->s.heap.get? b=some u->(h'.push ob).get? b=some u:=λob b u hb q=>Heap.get?_push_of_some _ (hx b u hb q)
   have I1:Inv X pins σ (upd (upd H P (.cO (#[]++#[rawInt pos.line,rawInt pos.col,.ref c']))) c' (.ext (sU c' qual))) { s with heap:=h'.push (W.kla_obj name qual params body scope cl ((X.mg "__name__").getD .none) c' ctv),toks:=tk }:=by
    refine I.step (g':=s.gens) (d':=s.drawn) (ch:=[]) (λ_ z=>nomatch z) (λb o _ _ _ q n=>kk _ b o (λz=>by rw[z,e] at n;cases n) q) (λb o _ _ _ q n=>⟨o.slots,kk _ b o (λz=>by rw[z,e] at n;cases n) q⟩)
     (λb o _ q n=>?_) (λb o _ q=>?_) (λb xs q=>?_) (λb o u q=>?_) (λb ps q=>?_) (λm hm=>?_) (λb o q=>?_) I.bare
    . have b1:b≠P:=λz=>by rw[z,e] at n;cases n
      have b2:b≠c':=Nat.ne_of_lt (Nat.lt_of_lt_of_le (Heap.lt_size q) hge)
      rw[aB b2,aB b1];exact n
    . by_cases hb:b=P
      . subst hb
        exact⟨_,Heap.get?_push_of_some _ htb⟩
      . exact⟨o,kk _ b o hb q⟩
    . rw[aB (nC _ _ q),aB (nP _ _ q (by intro z;cases z))];exact q
    . rw[aB (nC _ _ q),aB (nP _ _ q (by intro z;cases z))];exact q
    . by_cases hb:b=P
      . subst hb
        rw[e] at q;cases q
        exact⟨_,by rw[aB (Ne.symm Ia),aK]⟩
      . exact⟨#[],by rw[aB (nC _ _ q),aB hb,q];simp⟩
    . obtain⟨o,es,ep,ho,r⟩:=hm
      exact⟨o,es,ep,kk _ _ o (λz=>by have:=I.free;rw[z,e] at this;cases this) ho,r⟩
    . by_cases hb:b=c'
      . subst hb
        rw[aK] at q;cases q
        obtain⟨c₂,oc,vs,t,z1,z2,z3,z4⟩:=hrec
        cases z1
        refine⟨⟨_,oc,vs,t,rfl,Heap.get?_push_of_some _ z2,z3,z4⟩,⟨oc,Heap.get?_push_of_some _ z2⟩,λh1 h2 y hy=>?_⟩
        obtain⟨c₃,oc',vs',t',y1,y2,y3,y4⟩:=y
        cases y1
        exact⟨_,oc',vs',t',rfl,hy _ y2,y3,y4⟩
      . rw[aB hb] at q
        by_cases hp:b=P
        . subst hp
          rw[aK] at q;cases q
          show(h'.push _).get? b=some { cls:=.none,data:=.fields _ }
          exact Heap.get?_push_of_some _ htb
        . rw[aB hp] at q
          refine(I.hok b o q).stay (λd v hd y=>kk _ d v ?_ y) (λd y=>by rw[aB (nC _ _ y),aB (nP _ _ y (by intro z;cases z))];exact y) λd xs y=>by rw[aB (nC _ _ y),aB (nP _ _ y (by intro z;cases z))];exact y
          rcases hd with z|z
          . rw[z];exact hp
          . exact nP _ _ z (by intro z;cases z)
   have fz:s.heap.objs.size<=h'.objs.size:=Nat.le_of_lt (Nat.lt_of_le_of_lt hge hlt)
   have fn:upd (upd H P (.cO (#[]++#[rawInt pos.line,rawInt pos.col,.ref c']))) c' (.ext (sU c' qual)) h'.objs.size=none:=by
    rw[aB (Nat.ne_of_gt hlt),aB (Nat.ne_of_gt (Nat.lt_of_lt_of_le hPs fz))]
    exact I.hok.fresh fz
   refine h h'.objs.size c' ((X.mg "__name__").getD .none) ctv _ _ (lay I1 (Heap.get?_push_size _ rfl) fn fz (by intro v z;cases z)) ⟨by rw[aB (Ne.symm Ia),aK];rfl,aK⟩ λb o hb q=>?_
   rw[aB (nC _ _ q),aB hb];exact q
 . have hP:s.heap.get? P=some (W.tabObj #[rawInt pos.line,rawInt pos.col,.ref c']):=I.hok P _ e1
   refine W.kla_makeFunctionHit (mg:=X.mg) (cv:=.ref c') hcl I.ok.glob hg hcode C' hP (by simp[TriplesOk,rawInt]) (by simp[codeAmong,rawInt]) (I.H_ B e1) λctv h' tk hk hsz=>?_
   exact h h'.objs.size c' ((X.mg "__name__").getD .none) ctv H _ (lay (I.kept λb u q=>Heap.get?_push_of_some _ (hk b u q)) (Heap.get?_push_size _ rfl) (I.hok.fresh hsz) hsz (by intro v z;cases z)) ⟨e1,e2⟩ λb o _ q=>q
structure nT (X:Cx) (x:Str) (N':List Str) (scope:Scope):Prop where
 kind:scope.kind=.function
 co:scope.isCoroutine=false
 gen:scope.isGenerator=false
 cell:∀y∈scope.names,y.2≠ .cell
 loc:scope.names.lookup x=some .local
 free:∀y∈scope.names,y.2=.free->X.env.kindOf y.1=some .cell\/X.env.kindOf y.1=some .free
 len:N'.length=X.N.length
 outer:∀(i:Nat) (y:Str),N'[i]? =some y->scope.names.lookup y=none\/(X.N[i]? =some y/\scope.names.lookup y≠some .local)
noncomputable def mC (scope:Scope):List Str->List Str->Bool
 |[],[]=>true
 |y::r,z::q=>(decide (scope.names.lookup y=none) || (decide (z=y) && decide (scope.names.lookup y≠some .local))) && mC scope r q
 |_,_=>false
theorem Ib {scope:Scope}:∀{N' N:List Str},mC scope N' N=true->N'.length=N.length
 |[],[],_=>rfl
 |y::r,z::q,h=>by
  simp only[mC,Bool.and_eq_true] at h
  rw[List.length_cons,List.length_cons,Ib h.2]
theorem Ie {scope:Scope}:∀{N' N:List Str},mC scope N' N=true->∀(i:Nat) (y:Str),N'[i]? =some y->scope.names.lookup y=none\/(N[i]? =some y/\scope.names.lookup y≠some .local)
 |[],[],_,i,y,e=>by simp at e
 |w::r,z::q,h,0,y,e=>by
  simp only[mC,Bool.and_eq_true,Bool.or_eq_true,decide_eq_true_eq] at h
  have e:some w=some y:=e
  cases e
  rcases h.1 with h1|⟨h1,h2⟩
  . exact .inl h1
  . subst h1;exact .inr ⟨rfl,h2⟩
 |w::r,z::q,h,i+1,y,e=>by
  simp only[mC,Bool.and_eq_true] at h
  have:=Ie h.2 i y (by simpa using e)
  simpa using this
noncomputable def Ig (x:Str) (N' N:List Str) (scope sc:Scope):Bool:=
 scope.names.all (λy=>decide (y.2≠ .cell)) && decide (scope.names.lookup x=some .local) && scope.names.all (λy=>decide (y.2=.free->sc.names.lookup y.1=some .cell\/sc.names.lookup y.1=some .free)) && mC scope N' N
theorem nT.of {x:Str}{N' N:List Str}{scope sc:Scope}(hsc:X.env.scope=sc)(hN:X.N=N)(k:scope.kind=.function)(c1:scope.isCoroutine=false)(c2:scope.isGenerator=false)(c:Ig x N' N scope sc=true):nT X x N' scope:=by
 unfold Ig at c
 simp only[Bool.and_eq_true,List.all_eq_true,decide_eq_true_eq] at c
 obtain⟨⟨⟨a1,a2⟩,a3⟩,a4⟩:=c
 exact⟨k,c1,c2,a1,a2,λy hy hf=>by rw[show X.env.kindOf y.1=X.env.scope.names.lookup y.1 from rfl,hsc];exact a3 y hy hf,by rw[hN];exact Ib a4,by rw[hN];exact Ie a4⟩
noncomputable abbrev sV (qual:Str) (scope:Scope) (cl:List (Str × Addr)) (f c':Addr) (s:Shared):Env:=W.envX qual scope s.heap.objs.size f (.ref c') cl
noncomputable def sW (X:Cx) (x:Str) (N':List Str) (scope:Scope) (cl:List (Str × Addr)) (qual:Str) (f c':Addr) (s:Shared) (H:Hp):Cx:=
 { X with A:=X.A.in1.in1.deeper (sV qual scope cl f c' s),N:=x::N',s₀:=s,H₀:=H,env:=sV qual scope cl f c' s,outer:=X.stack,stack:=sV qual scope cl f c' s::X.stack,ex:=[],fn:=λ_=>false,pn:=[],calm:=true,xe:=λ_ _=>False }
theorem Inv.lam {x:Str}{N':List Str}{scope:Scope}{cl:List (Str × Addr)}{qual:Str}{f c':Addr}{v:V}{u:Value}{h₁:Heap}{t':Nat}(I:Inv X pins σ H s)(S:nT X x N' scope)(hd:X.A.handled=none)
 (hsub:∀y c,cl.lookup y=some c->X.env.cells.lookup y=some c) (hget:∀y,(y,NameKind.free)∈scope.names->cl.lookup y=X.env.cells.lookup y) (r:RelV v u)
 (hn:h₁.Ns s.heap.objs.size (λy=>([(x,u)]:List (Str × Value)).reverse.lookup y)) (old:∀b o,s.heap.get? b=some o->h₁.get? b=some o):
 Inv (sW X x N' scope cl qual f c' s H) [] (some v::σ) H { s with heap:=h₁,toks:=t' }:=by
 have ok:=I.ok
 have hfree:∀y,(scope.names.lookup y=some .cell\/scope.names.lookup y=some .free)->(y,NameKind.free)∈scope.names:=λy hy=>by
  rcases hy with hy|hy
  . exact absurd rfl (S.cell _ (PySem.mem_of_lookup hy))
  . exact PySem.mem_of_lookup hy
 refine⟨⟨ok.mod,S.kind,rfl,rfl,Nat.le_refl _,λy z c e1 e2=>ok.inj y z c (hsub y c e1) (hsub z c e2),λy hy=>?_,λy c hy _=>(nomatch hy),λ_=>hd,Around.frames_deeper (show X.A.in1.in1.frames=some X.stack from ok.frames),.inr ⟨rfl,rfl⟩,λb hb=>absurd (show b∈([]:List Addr) from hb) (by simp),I.bs,Nat.le_trans ok.gF I.sz,
  λb o _ hb=>absurd (show b∈([]:List Addr) from hb) (by simp),λb hb=>absurd (show b∈([]:List Addr) from hb) (by simp),I.stack,I.u6⟩,
  rfl,I.bare,Un.kept old,⟨_,hn,λi y v' e1 e2 e3=>?_⟩,λy c e=>?_,I.hok.fresh (Nat.le_refl _),λy c e=>I.d_ y c (hsub y c e),λp hp=>absurd (show p∈([]:List (Addr × Obj)) from hp) (by simp),I.hok.kept old,?_⟩
 . have hm:=hfree y hy
   obtain⟨c,e⟩:=ok.has y (S.free _ hm rfl)
   exact⟨c,by rw[show(sW X x N' scope cl qual f c' s H).env.cells=cl from rfl,hget y hm];exact e⟩
 . cases i with
   |zero=>
    have e1:some x=some y:=e1
    cases e1
    have e2:some (some v)=some (some v'):=e2
    cases e2
    exact⟨u,r,.inl ⟨S.loc,by simp⟩⟩
   |succ i=>
    have e1:N'[i]? =some y:=by
     have e1:(x::N')[i+1]? =some y:=e1
     simpa using e1
    have e2:σ[i]? =some (some v'):=by simpa using e2
    have ho:X.N[i]? =some y/\scope.names.lookup y≠some .local:=by
     have e3:scope.names.lookup y=some .local\/scope.names.lookup y=some .cell\/scope.names.lookup y=some .free:=e3
     rcases S.outer i y e1 with q|q
     . rw[q] at e3
       rcases e3 with z|z|z <;> cases z
     . exact q
    have hk2:scope.names.lookup y=some .cell\/scope.names.lookup y=some .free:=by
     rcases e3 with q|q
     . exact absurd q ho.2
     . exact q
    have hm:=hfree y hk2
    have pI:=S.free _ hm rfl
    obtain⟨mX,W7,vZ⟩:=I.loc
    obtain⟨u',r',lk⟩:=vZ i y v' ho.1 e2 (.inr pI)
    refine⟨u',r',.inr ⟨hk2,?_⟩⟩
    rcases lk with⟨q,_⟩|⟨_,c,ec,hc⟩
    . rcases pI with z|z
      . rw[z] at q;cases q
      . rw[z] at q;cases q
    . obtain⟨o,ho,hdd⟩:=hc
      exact⟨c,(hget y hm).trans ec,o,old _ _ ho,hdd⟩
 . obtain⟨w',o,ho,hdd⟩:=I.cell y c (hsub y c e)
   exact⟨w',o,old _ _ ho,hdd⟩
 . show _=(x::N').length
   rw[List.length_cons,List.length_cons,I.len,S.len]
theorem Xx {x:Str}{N':List Str}{name qual:Str}{params:Arguments}{body:Expr}{scope:Scope}{cl:List (Str × Addr)}{f c':Addr}{pm ctv:Value}{v:V}{u:Value}{te:TE}{Q:VK}{E:Value->Shared->Prop}(I:Inv X pins σ H s)(S:nT X x N' scope)(hd:X.A.handled=none)(Xy:X.A.depth<recursionLimit)
 (hsub:∀y c,cl.lookup y=some c->X.env.cells.lookup y=some c) (hget:∀y,(y,NameKind.free)∈scope.names->cl.lookup y=X.env.cells.lookup y) (hf:(f,W.kla_obj name qual params body scope cl pm c' ctv)∈pins) (hc:H c'=some (.ext (sU c' qual)))
 (hb:∀u:Value,bindArgs (W.kla_fn name qual params body scope cl pm (.ref c') ctv) ⟨[u],[]⟩=pure [(x,u)]) (r:RelV v u) (he:∀(s:Shared) (H:Hp),PE (sW X x N' scope cl qual f c' s H) body te) (h:te (some v::σ) H Q):
 wpAny (model X.prog X.w) X.A.in1.in1 (call (.ref f) [u]) (EP X pins σ Q) E s:=by
 obtain⟨p1,p2,p3,p4,p5⟩:=I.pin _ (List.mem_append_right _ hf)
 refine wpAny_call (W.kla_callFunE Xy p1 rfl S.co S.gen rfl (I.hok c' _ hc).1 ?_)
 rw[hb]
 refine wpAny_pure (wpAny_newFunctionEnv S.cell (λy hy=>?_) (λh₁ hns hsb=>?_) S.kind)
 . have e:y=(x,u):=by simpa using hy
   subst e
   exact S.loc
 have old:∀b o,s.heap.get? b=some o->h₁.get? b=some o:=λb o e=>hsb.extBut b o (Nat.ne_of_lt (Heap.lt_size e)) (Heap.get?_push_of_some _ e)
 refine⟨I.nolimit.keeps old,?_⟩
 show codeAny _ _ (.expr body (sV qual scope cl f c' s)) _ _
 have J:=I.lam (t':=s.toks+([(x,u)]:List (Str × Value)).length) (qual:=qual) (f:=f) (c':=c') S hd hsub hget r hns old
 refine W.kla_codeExpr (wpAny_mono (he s H [] _ _ H Q J h) (λu' s' hq=>?_) λe s' hF=>hF.elim)
 obtain⟨v',H',J',rv,q⟩:=hq
 exact I.after ⟨v',H',J'.os,J'.bare,J'.base,J'.hok,rv,q⟩
end
section
variable {X:Cx}{pins:List (Addr × Obj)}{σ:St}{H:Hp}{s:Shared}
noncomputable def Asks (prog:Program) (w:World) (A:Around) (s:Shared) (us:List Value) {O:KeyOrd}(key:Nat->O.α):Prop:=
 2<=us.length->wpAny (model prog w) A (keyKind' us.toArray) (λκ s'=>s'=s/\∀(i j:Nat) (C:Bool->Shared->Prop),i<us.length->j<us.length->C (O.blt (key i) (key j)) s->W.kas_ask prog w A κ us i j C s) (λ_ _=>False) s
theorem Ih {xs:List V}{vs:List Value}(r:Vals xs vs):∀p:List Nat,Vals (p.map λi=>xs.getD i .non) (p.map λi=>vs.getD i Value.none)
 |[]=>.nil
 |i::p=>by
  refine .cons ?_ (Ih r p)
  show RelV (xs.getD i .non) (vs.getD i Value.none)
  rw[List.getD_eq_getElem?_getD,List.getD_eq_getElem?_getD]
  cases e:xs[i]? with
  |none=>
   rw[r.none_of e]
   exact rfl
  |some x=>
   obtain⟨u,hu,ru⟩:=r.get e
   rw[hu]
   exact ru
theorem Ii {α:Type}(a0:α)(l:List α):((List.range l.length).map λi=>l.getD i a0)=l:=by
 apply List.ext_getElem
 . simp
 . intro i h1 h2
   simp[h2]
theorem Xz {us vs:List Value}(hl:us.length=vs.length):((List.toArray us).zip (List.toArray vs)).map (·.2)=List.toArray vs:=by
 apply Array.toList_inj.mp
 rw[Array.toList_map,ksk_zip]
 show List.map Prod.snd (us.zip vs)=vs
 exact List.map_snd_zip (by omega)
theorem XC {α:Type}{R:α->α->Prop}(key:Nat->α){n:Nat}(h:n<2):((List.range n).map key).Pairwise R:=by
 have:n=0\/n=1:=by omega
 rcases this with rfl|rfl
 . exact List.Pairwise.nil
 . exact List.pairwise_singleton _ _
noncomputable abbrev lo (xs:List Value) (n:Nat):Obj:=seqObj "list" (List.toArray xs) n
theorem Ij {E:Value->Shared->Prop}{kS D:Addr}{us:List Value}{e e1:Nat}{st:SortSt}{out:List Value}{outV:List V}{P:PySem.Fin->Shared->Prop}{A:Around}(I:Inv X (pins++[(kS,lo us e),(D,lo [] e1)]) σ H s)(fK:dz X pins H kS)(fD:dz X pins H D)(hne:kS≠D)(hus:us.length<64)(ho:out.length<64)
 (hout:(arrOf st).map (·.2)=List.toArray out) (hf:failedOf st=none) (rv:Vals outV out)
 (h:∀s',Inv X pins σ (upd H D (.lst outV)) s'->P (.done (.ret .none)) s'):wpAny (model X.prog X.w) A (ksk_tail D false e1 (.ref kS) st) P E s:=by
 have nk:=(I.pin (kS,lo us e) (List.mem_append_right _ (List.mem_append_right _ (List.mem_cons_self)))).1
 have nD:=(I.pin (D,lo [] e1) (List.mem_append_right _ (List.mem_append_right _ (List.mem_cons_of_mem _ List.mem_cons_self)))).1
 have s1:=Heap.SameBut.update s.heap kS (Obj.mapSeq λ_=>(#[]:Array Value))
 have wC:(s.heap.update kS (Obj.mapSeq λ_=>(#[]:Array Value))).get? D=some (lo [] e1):=(s1.2 D hne.symm).trans nD
 have s2:=Heap.SameBut.update (s.heap.update kS (Obj.mapSeq λ_=>(#[]:Array Value))) D (Obj.mapSeq λ_=>List.toArray out)
 obtain⟨c2,hc2⟩:∃c2,((s.heap.update kS (Obj.mapSeq λ_=>(#[]:Array Value))).update D (Obj.mapSeq λ_=>List.toArray out)).get? D=some (lo out c2):=⟨_,get?_update_seq wC λ_=>List.toArray out⟩
 have I1:Inv X pins σ H { s with heap:=s.heap.update kS (Obj.mapSeq λ_=>(#[]:Array Value)) }:=I.jT.own (t':=s.toks) fK s1
 have I2:Inv X pins σ (upd H D (.lst outV)) { s with heap:=(s.heap.update kS (Obj.mapSeq λ_=>(#[]:Array Value))).update D (Obj.mapSeq λ_=>List.toArray out) }:=
  I1.adopt (t':=s.toks) fD (λc u hc q=>(s2.2 c hc).trans q) ⟨by rw[rv.length];exact Nat.le_of_lt (cX (by omega)),out,c2,rv,hc2⟩
 unfold ksk_tail
 try dsimp only
 rw[hout]
 refine wpAny_bind (listUpdate_at nk rfl ?_ (by rw[List.size_toArray,sizeLine_eq];omega) (Nat.zero_le _))
 refine wpAny_bind (wpAny_letGo ?_)
 refine wpAny_bind (seqEpoch_at wC rfl ?_)
 refine wpAny_bind (listUpdate_at wC rfl ?_ (Nat.zero_le _) (by show(List.toArray out).size<=_;rw[List.size_toArray,sizeLine_eq];omega))
 rw[hf]
 simp only[bne_self_eq_false,Bool.false_eq_true,if_false]
 exact wpAny_pure (h _ I2)
theorem XD {E:Value->Shared->Prop}{kS D:Addr}{us vs:List Value}{xs:List V}{e e1:Nat}{P:PySem.Fin->Shared->Prop}{A:Around}{O:KeyOrd}{key:Nat->O.α}(I:Inv X (pins++[(kS,lo us e),(D,lo [] e1)]) σ H s)(fK:dz X pins H kS)(fD:dz X pins H D)(hne:kS≠D)
 (hl:us.length=vs.length) (h64:vs.length<64) (rv:Vals xs vs) (ask:Asks X.prog X.w A s us key)
 (h:∀(p:List Nat),p.Perm (List.range vs.length)->(p.map key).Pairwise O.kle->∀s',Inv X pins σ (upd H D (.lst (p.map λi=>xs.getD i .non))) s'->P (.done (.ret .none)) s'):
 wpAny (model X.prog X.w) A (ksk_end D false (List.toArray vs) e1 (.ref kS) (List.toArray us)) P E s:=by
 unfold ksk_end
 try dsimp only
 simp only[Bool.false_eq_true,if_false]
 by_cases h2:vs.toArray.size<2
 . rw[if_pos h2,if_pos h2]
   have h2':vs.length<2:=by simpa using h2
   refine wpAny_bind (wpAny_pure ?_)
   rw[StateT.run_pure]
   refine wpAny_bind (wpAny_pure ?_)
   try dsimp only
   have hlen:xs.length=vs.length:=rv.length
   have ez:((List.range vs.length).map λi=>xs.getD i .non)=xs:=by
    rw[<-hlen];exact Ii _ xs
   refine Ij (out:=vs) (outV:=xs) (st:=SortSt.mk' general' ((List.toArray us).zip (List.toArray vs)) #[] 7 none) I fK fD hne (by omega) h64 (Xz hl) rfl rv λs' J=>?_
   have q:=h (List.range vs.length) (List.Perm.refl _) (XC key h2') s'
   rw[ez] at q
   exact q J
 . rw[if_neg h2,if_neg h2]
   have h2':2<=vs.length:=by simpa using h2
   refine wpAny_bind (wpAny_mono (ask (by omega)) (λκ s' hk=>?_) λ_ _ hF=>hF.elim)
   obtain⟨rfl,hk⟩:=hk
   obtain⟨k1,k2⟩:=jy.Xv (key:=key) (n:=vs.length) (by omega)
   refine wpAny_bind (wpAny_mono (W.kat_run (κ:=κ) (ks:=us) (vs:=vs) (Q:=λst' s''=>s''=s'/\arrOf st'=(jy.bA (jy.bG key) (W.kas_sort vs.length)).map (W.kas_item ((List.toArray us).zip vs.toArray))/\failedOf st'=none)
    (G:=λp s''=>s''=s'/\p=jy.bA (jy.bG key) (W.kas_sort vs.length)) hl h2' h64 (λp st' s'' _ a2 a3 a4=>⟨a4.1,by rw[a2,a4.2],a3⟩)
    (jy.HB (f:=jy.bG key) (λi j C hi hj q=>hk i j C (by omega) (by omega) q) (jy.Xq (by omega)) ⟨rfl,rfl⟩)) ?_ λ_ _ x=>x)
   rintro⟨⟨⟩,st'⟩ s'' ⟨rfl,har,hfl⟩
   try dsimp only
   refine Ij I fK fD hne (by omega) (by rw[List.length_map,k1.length_eq,List.length_range];exact h64) (W.kat_snds hl har) hfl (Ih rv _) λs' J=>h _ k1 k2 s' J
theorem XF {E:Value->Shared->Prop}{f a:Addr}{xs:List V}{Q:VK}{W:List V->Hp->Prop}(I:Inv X pins σ H s)(hq:au X.K H a xs)(h64:xs.length<64)(w0:W [] H)
 (turn:∀(pl:List (Addr × Obj)) (s':Shared) (H':Hp) (ks:List V) (y:V) (u:Value),Inv X (pins++pl) σ H' s'->W ks H'->xs[ks.length]? =some y->RelV y u->
   wpAny (model X.prog X.w) X.A.in1.in1 (call (.ref f) [u]) (EP X (pins++pl) σ λk fJ=>W (ks++[k]) fJ) (λ_ _=>False) s')
 (fin:∀(pl:List (Addr × Obj)) (s':Shared) (H':Hp) (ks:List V) (us:List Value),Inv X (pins++pl) σ H' s'->W ks H'->ks.length=xs.length->Vals ks us->∃(O:KeyOrd) (key:Nat->O.α),Asks X.prog X.w X.A.in1.in1 s' us key/\
   ∀p:List Nat,p.Perm (List.range xs.length)->(p.map key).Pairwise O.kle->∀D,H' D=none->Q (.ref D) (upd H' D (.lst (p.map λi=>xs.getD i .non)))):
 wpAny (model X.prog X.w) X.A (call (.builtin "sorted") [.ref a] [(Str.ofString "key",.ref f)]) (EP X pins σ Q) E s:=by
 obtain⟨vs,rv,pl,hz⟩:=I.list hq
 have hl:xs.length=vs.length:=rv.length
 refine call_function_entry_kw kind_sorted plain_sorted entry_sorted (ksk_s1 _ _) ?_
 unfold Builtin.«sorted»
 refine wpAny_bind (m:=checkCount "sorted" 1 1 _) (wpAny_pure ?_)
 refine wpAny_bind (collect_list pl.isList ?_ (by rw[sizeLine_eq];omega))
 refine wpAny_bind (wpAny_newList ?_ (by rw[sizeLine_eq];omega))
 have hsz:((s.heap.push (seqObj "list" #[] 0)).update s.heap.objs.size (Obj.mapSeq (· ++vs.toArray))).objs.size=s.heap.objs.size+1:=by
  rw[Heap.size_update,size_push']
 have hoL:(((s.heap.push (seqObj "list" #[] 0)).update s.heap.objs.size (Obj.mapSeq (· ++vs.toArray))).push (seqObj "list" vs.toArray 0)).get? (s.heap.objs.size+1)=some (seqObj "list" vs.toArray 0):=by
  rw[<-hsz];exact Heap.get?_push_size _ rfl
 have keep:∀b o,s.heap.get? b=some o->(((s.heap.push (seqObj "list" #[] 0)).update s.heap.objs.size (Obj.mapSeq (· ++vs.toArray))).push (seqObj "list" vs.toArray 0)).get? b=some o:=λb o q=>by
  have hlt:b<s.heap.objs.size:=Heap.lt_size q
  rw[Heap.get?_push_ne _ _ _ (by rw[hsz];exact Nat.ne_of_lt (Nat.lt_succ_of_lt hlt)),Heap.get?_update_ne _ _ _ _ (Nat.ne_of_lt hlt),Heap.get?_push_ne _ _ _ (Nat.ne_of_lt hlt)]
  exact q
 show wpAny _ _ _ _ _ { s with heap:=((s.heap.push (seqObj "list" #[] 0)).update s.heap.objs.size (Obj.mapSeq (· ++vs.toArray))).push (seqObj "list" vs.toArray 0) }
 rw[hsz]
 generalize hG:((s.heap.push (seqObj "list" #[] 0)).update s.heap.objs.size (Obj.mapSeq (· ++vs.toArray))).push (seqObj "list" vs.toArray 0)=G at hoL keep ⊢
 have XH:G.objs.size=s.heap.objs.size+2:=by rw[<-hG,size_push',hsz]
 have I1:Inv X pins σ H { s with heap:=G }:=I.kept (t':=s.toks) keep
 refine wpAny_bind (wpAny_holding (wpAny_call_entry_kw slot_list_sort ⟨_,hoL,rfl⟩ entry_list_sort ?body (ksk_l1 _ _)))
 case body=>
  show wpAny (model X.prog X.w) X.A.in1.in1 (Builtin.«list.sort» ⟨[.ref (s.heap.objs.size+1)],[(Str.ofString "key",.ref f)]⟩) _ _ _
  rw[ksk_t1]
  unfold ksk_tree
  generalize hD:s.heap.objs.size+1=D at hoL ⊢
  have Ik:s.heap.objs.size<=D:=by omega
  have s1:=Heap.SameBut.update G D (Obj.mapSeq λ_=>(#[]:Array Value))
  obtain⟨e1,ho1⟩:∃e1,(G.update D (Obj.mapSeq λ_=>(#[]:Array Value))).get? D=some (lo [] e1):=⟨_,get?_update_seq hoL λ_=>#[]⟩
  refine wpAny_bind (listItems_at hoL rfl ?_)
  refine wpAny_bind (listUpdate_at hoL rfl ?_ (by rw[List.size_toArray,sizeLine_eq];omega) (Nat.zero_le _))
  refine wpAny_bind (seqEpoch_at ho1 rfl ?_)
  refine wpAny_bind (wpAny_newTuple ?_ (by show vs.length<=_;rw[sizeLine_eq];omega))
  refine wpAny_bind (wpAny_newList ?_ (Nat.zero_le _))
  refine wpAny_holding ?_
  show wpAny (model X.prog X.w) X.A.in1.in1 _ _ _ { s with heap:=((G.update D (Obj.mapSeq λ_=>(#[]:Array Value))).push (seqObj "tuple" vs.toArray 0)).push (seqObj "list" #[] 0) }
  generalize hkS:((G.update D (Obj.mapSeq λ_=>(#[]:Array Value))).push (seqObj "tuple" vs.toArray 0)).objs.size=kS
  have ahw:kS=s.heap.objs.size+3:=by rw[<-hkS,size_push',Heap.size_update,XH]
  have hne:kS≠D:=by omega
  have jA:dz X pins H D:=I.jo Ik (I.hok.fresh Ik)
  have sX:dz X pins H kS:=I.jo (by omega) (I.hok.fresh (by omega))
  have XJ:∀b o,b≠D->G.get? b=some o->(((G.update D (Obj.mapSeq λ_=>(#[]:Array Value))).push (seqObj "tuple" vs.toArray 0)).push (seqObj "list" #[] 0)).get? b=some o:=λb o hb q=>
   Heap.get?_push_of_some _ (Heap.get?_push_of_some _ ((s1.2 b hb).trans q))
  have I2:Inv X pins σ H { s with heap:=((G.update D (Obj.mapSeq λ_=>(#[]:Array Value))).push (seqObj "tuple" vs.toArray 0)).push (seqObj "list" #[] 0) }:=
   Inv.turned (s:={ s with heap:=G }) (t':=s.toks) (it:=D) I1 XJ jA.1 jA.2.1 jA.2.2.2.1 jA.2.2.2.2.1 jA.2.2.2.2.2
  have hK:(((G.update D (Obj.mapSeq λ_=>(#[]:Array Value))).push (seqObj "tuple" vs.toArray 0)).push (seqObj "list" #[] 0)).get? kS=some (lo [] 0):=by rw[<-hkS];exact Heap.get?_push_size _ rfl
  have hD2:(((G.update D (Obj.mapSeq λ_=>(#[]:Array Value))).push (seqObj "tuple" vs.toArray 0)).push (seqObj "list" #[] 0)).get? D=some (lo [] e1):=Heap.get?_push_of_some _ (Heap.get?_push_of_some _ ho1)
  generalize ((G.update D (Obj.mapSeq λ_=>(#[]:Array Value))).push (seqObj "tuple" vs.toArray 0)).push (seqObj "list" #[] 0)=G2 at I2 hK hD2 ⊢
  have pinned:∀{H':Hp} {s':Shared} {us:List Value} {e:Nat},Inv X pins σ H' s'->s'.heap.get? kS=some (lo us e)->s'.heap.get? D=some (lo [] e1)->H' kS=none->H' D=none->Inv X (pins++[(kS,lo us e),(D,lo [] e1)]) σ H' s':=λ{H' s' us e} J k1 k2 n1 n2=>
   J.lJ λp hp=>(List.mem_append.mp hp).elim (λz=>J.pin p (List.mem_append_right _ z)) λz=>by
     have z:p=(kS,lo us e)\/p=(D,lo [] e1):=by simpa using z
     rcases z with rfl|rfl
     . exact⟨k1,n1,sX.2.1,sX.2.2.1,by intro v z;cases z⟩
     . exact⟨k2,n2,jA.2.1,jA.2.2.1,by intro v z;cases z⟩
  have own:∀{H':Hp} {b:Addr},(b=kS\/b=D)->H' b=none->dz X pins H' b:=λ{H' b} hb n=>by
   rcases hb with rfl|rfl
   . exact⟨n,sX.2⟩
   . exact⟨n,jA.2⟩
  unfold ksk_rest
  refine wpAny_bind (wpAny_rule ?_)
  first
   |rw[List.forIn_toArray]
   |(rw[<-Array.forIn_toList];simp only[List.toList_toArray])
   |rw[<-Array.forIn_toList]
  refine wpAny_bind (ksk_fold (λi s'=>∃ks us e H',Inv X (pins++[(kS,lo us e),(D,lo [] e1)]) σ H' s'/\Vals ks us/\ks.length=i/\i<=vs.length/\W ks H') vs 0 _
   ⟨[],[],0,H,pinned I2 hK hD2 sX.1 jA.1,.nil,rfl,Nat.zero_le _,w0⟩ (λj x s' hx hJ=>?_) λs' hJ=>?_)
  . obtain⟨ks,us,e,H',J,rk,hi,hle,wk⟩:=hJ
    have hi:ks.length=j:=by omega
    have hj:j<vs.length:=(List.getElem?_eq_some_iff.mp hx).1
    have hjx:j<xs.length:=by omega
    obtain⟨u,hu,ru⟩:=rv.get (List.getElem?_eq_getElem hjx)
    rw[hx] at hu;cases hu
    refine wpAny_bind (wpAny_attempt (wpAny_mono (turn _ s' H' ks (xs[j]) x J wk (by rw[hi];exact List.getElem?_eq_getElem hjx) ru) (λk s'' hk=>?_) λ_ _ hF=>hF.elim))
    obtain⟨kv,fJ,J',XM,w'⟩:=hk
    have pk:=J'.pin (kS,lo us e) (List.mem_append_right _ (List.mem_append_right _ (List.mem_cons_self)))
    have pD:=J'.pin (D,lo [] e1) (List.mem_append_right _ (List.mem_append_right _ (List.mem_cons_of_mem _ List.mem_cons_self)))
    have hul:us.length=ks.length:=rk.length.symm
    have s2:=Heap.SameBut.update s''.heap kS (Obj.mapSeq (·.push k))
    have ea:(List.toArray us).push k=List.toArray (us++[k]):=by simp
    obtain⟨c2,hc2⟩:∃c2,(s''.heap.update kS (Obj.mapSeq (·.push k))).get? kS=some (lo (us++[k]) c2):=⟨_,by show _=some (seqObj "list" (List.toArray (us++[k])) _);rw[<-ea];exact get?_update_seq pk.1 (·.push k)⟩
    try dsimp only
    refine wpAny_bind (listUpdate_at pk.1 rfl ?_ (by rw[List.size_toArray,sizeLine_eq];omega) (Nat.le_trans (Nat.le_of_eq (Array.size_push ..)) (by rw[List.size_toArray,sizeLine_eq];omega)))
    have J2:Inv X pins σ fJ { s'' with heap:=s''.heap.update kS (Obj.mapSeq (·.push k)) }:=J'.jT.own (t':=s''.toks) (own (.inl rfl) pk.2.1) s2
    refine wpAny_pure ⟨rfl,ks++[kv],us++[k],c2,fJ,pinned J2 hc2 ((s2.2 D hne.symm).trans pD.1) pk.2.1 pD.2.1,rk.append (.cons XM .nil),by rw[List.length_append,List.length_singleton];omega,by omega,w'⟩
  . obtain⟨ks,us,e,H',J,rk,hi,hle,wk⟩:=hJ
    have hi:ks.length=vs.length:=by omega
    have pk:=J.pin (kS,lo us e) (List.mem_append_right _ (List.mem_append_right _ (List.mem_cons_self)))
    have pD:=J.pin (D,lo [] e1) (List.mem_append_right _ (List.mem_append_right _ (List.mem_cons_of_mem _ List.mem_cons_self)))
    try dsimp only
    refine wpAny_bind (listItems_at pk.1 rfl ?_)
    obtain⟨O,key,ask,q⟩:=fin _ s' H' ks us J wk (by omega) rk
    refine XD J (own (.inl rfl) pk.2.1) (own (.inr rfl) pD.2.1) hne (by rw[<-rk.length];exact hi) (by omega) rv ask λp p1 p2 s'' J'=>?_
    exact⟨_,rfl,wpAny_pure ⟨_,rfl,.ref D,_,J',rfl,q p (by rw[hl];exact p1) p2 D pD.2.1⟩⟩
end
noncomputable def eG:Key->Key->Bool
 | .inl i,.inl j=>decide (i<j)
 | .inl _,.inr _=>true
 | .inr _,.inl _=>false
 | .inr x,.inr y=>decide (x.cps.toList<y.cps.toList)
theorem XQ (a:Key):eG a a=false:=by
 cases a with
 |inl i=>simp[eG]
 |inr x=>simpa[eG] using List.lt_irrefl x.cps.toList
theorem XR {a b c:Key}(h1:eG a b=true)(h2:eG b c=true):eG a c=true:=by
 cases a <;> cases b <;> cases c <;> simp only[eG,decide_eq_true_eq,Bool.false_eq_true] at * <;> first|omega|exact List.lt_trans h1 h2
theorem XS {x y:Str}(h:x.cps.toList=y.cps.toList):x=y:=by
 cases x;cases y
 simp only[Str.mk.injEq]
 exact Array.toList_inj.mp h
theorem X3 (a b:Key):eG a b=true\/a=b\/eG b a=true:=by
 cases a with
 |inl i=>
  cases b with
  |inl j=>
   simp only[eG,decide_eq_true_eq]
   rcases Int.lt_trichotomy i j with h|h|h
   . exact .inl h
   . exact .inr (.inl (by rw[h]))
   . exact .inr (.inr h)
  |inr y=>exact .inl rfl
 |inr x=>
  cases b with
  |inl j=>exact .inr (.inr rfl)
  |inr y=>
   simp only[eG,decide_eq_true_eq]
   by_cases h1:x.cps.toList<y.cps.toList
   . exact .inl h1
   . by_cases h2:y.cps.toList<x.cps.toList
     . exact .inr (.inr h2)
     . exact .inr (.inl (by rw[XS (List.le_antisymm (List.not_lt.mp h2) (List.not_lt.mp h1))]))
theorem X4 {a b:Key}(h:eG a b=true):a≠b:=λe=>by
 rw[e,XQ] at h;cases h
noncomputable def dD:List Key->List Key->Bool
 |[],[]=>false
 |[],_::_=>true
 |_::_,[]=>false
 |x::xs,y::ys=>if x=y then dD xs ys else eG x y
theorem wD:∀a:List Key,dD a a=false
 |[]=>rfl
 |x::xs=>by
  show(if x=x then dD xs xs else eG x x)=false
  rw[if_pos rfl];exact wD xs
theorem sY (x y:Key)(xs ys:List Key):dD (x::xs) (y::ys)=if x=y then dD xs ys else eG x y:=rfl
theorem pP:∀(a b c:List Key),dD a b=true->dD b c=true->dD a c=true
 |[],[],_,h,_=>by cases h
 |[],_::_,[],_,h=>by cases h
 |[],_::_,_::_,_,_=>rfl
 |_::_,[],_,h,_=>by cases h
 |_::_,_::_,[],_,h=>by cases h
 |x::xs,y::ys,z::zs,h1,h2=>by
  rw[sY] at *
  by_cases e1:x=y
  . subst e1
    rw[if_pos rfl] at h1
    by_cases e2:x=z
    . rw[if_pos e2] at h2 ⊢
      exact pP xs ys zs h1 h2
    . rw[if_neg e2] at h2 ⊢
      exact h2
  . rw[if_neg e1] at h1
    by_cases e2:y=z
    . subst e2
      rw[if_neg e1];exact h1
    . rw[if_neg e2] at h2
      have q:=XR h1 h2
      rw[if_neg (X4 q)];exact q
theorem sZ:∀a b:List Key,dD a b=true\/a=b\/dD b a=true
 |[],[]=>.inr (.inl rfl)
 |[],_::_=>.inl rfl
 |_::_,[]=>.inr (.inr rfl)
 |x::xs,y::ys=>by
  rw[sY,sY]
  by_cases e:x=y
  . subst e
    rw[if_pos rfl,if_pos rfl]
    rcases sZ xs ys with h|h|h
    . exact .inl h
    . exact .inr (.inl (by rw[h]))
    . exact .inr (.inr h)
  . rw[if_neg e,if_neg (λz=>e z.symm)]
    rcases X3 x y with h|h|h
    . exact .inl h
    . exact absurd h e
    . exact .inr (.inr h)
@[reducible] noncomputable def Il:KeyOrd where
  α:=List Key
  blt:=dD
  irrefl:=wD
  trans:=pP
  negTrans a b c h:=by
   rcases sZ a b with q|q|q
   . exact .inl q
   . exact .inr (by rw[<-q];exact h)
   . exact .inr (pP b a c q h)
  total a b h1 h2:=by
   rcases sZ a b with q|q|q
   . rw[h1] at q;cases q
   . exact q
   . rw[h2] at q;cases q
noncomputable def pQ (a b:List Key):Prop:=dD b a=false
section
variable {X:Cx}{pins:List (Addr × Obj)}{σ:St}{H:Hp}{s:Shared}
end
section
variable {X:Cx}
end
noncomputable def Im (K:W.Frag) (a b:Addr):It:=
 ⟨λi H=>∃xs ys x y,au K H a xs/\au K H b ys/\xs[i]? =some x/\ys[i]? =some y,
  λi H v H'=>∃p x y,H p=none/\v=.ref p/\(∀xs,au K H a xs->xs[i]? =some x)/\(∀ys,au K H b ys->ys[i]? =some y)/\H'=upd H p (.tup [x,y]),
  λi H=>∃xs ys,au K H a xs/\au K H b ys/\(xs.length<=i\/ys.length<=i)⟩
theorem X5 {P:Program}{w:World}{K:W.Frag}{elts:List Expr}{k:Nat}{tpos:Pos}{z TI TO i1 i2 l1 l2:Addr}(D:ZipApart z TI TO i1 i2 l1 l2):
 Turn P w K (.Tuple elts k tpos) (Im K l1 l2) [z,TI,TO,i1,i2] z (λi h=>∃oa ob,IsZip h z TI TO .none/\IsPair h TI (.ref i1) (.ref i2)/\IsPair h TO oa ob/\h.IsListIter i1 l1 i/\h.IsListIter i2 l2 i) where
 mem:=by simp
 obj:=λi h st b hb=>by
  obtain⟨oa,ob,h1,h2,h3,h4,h5⟩:=st
  have hb:b=z\/b=TI\/b=TO\/b=i1\/b=i2:=by simpa using hb
  rcases hb with rfl|rfl|rfl|rfl|rfl
  . exact⟨_,h1,λv y=>by
     have y:Data.fields _=Data.cell v:=y
     cases y⟩
  . exact⟨_,h2,λv y=>by
     have y:Data.seq _ _=Data.cell v:=y
     cases y⟩
  . exact⟨_,h3,λv y=>by
     have y:Data.seq _ _=Data.cell v:=y
     cases y⟩
  . obtain⟨o,q,c,d⟩:=h4
    exact⟨o,q,λv y=>by rw[d] at y;cases y⟩
  . obtain⟨o,q,c,d⟩:=h5
    exact⟨o,q,λv y=>by rw[d] at y;cases y⟩
 keep:=λi h h' st k=>by
  obtain⟨oa,ob,h1,h2,h3,h4,h5⟩:=st
  exact⟨oa,ob,k z (by simp) _ h1,k TI (by simp) _ h2,k TO (by simp) _ h3,h4.at λo q=>k i1 (by simp) o q,h5.at λo q=>k i2 (by simp) o q⟩
 item:=by
  intro X hP hw hK hc i pins s σ H E I hf st hg
  subst hP hw hK
  obtain⟨oa,ob,h1,h2,h3,h4,h5⟩:=st
  obtain⟨xs,ys,x,y,hq1,hq2,hx,hy⟩:=hg
  obtain⟨pR,jB,p1,hz1⟩:=I.list hq1
  obtain⟨its2,jC,p2,hz2⟩:=I.list hq2
  obtain⟨u1,hu1,mD⟩:=jB.get hx
  obtain⟨u2,hu2,mF⟩:=jC.get hy
  have fr:H s.heap.objs.size=none:=I.hok.fresh (Nat.le_refl _)
  refine wpAny_pyNext_zip_item D h1 h2 h3 h4 h5 p1.isList p2.isList (x:=u1) (y:=u2) (by simpa using hu1) (by simpa using hu2) λh' q1 q2 q3 q4 q5 q6 q7=>?_
  refine⟨_,rfl,wpAny_letOwnedTupleGo_zip (s:={ s with heap:=h' }) q1 λh'' g1 g2=>?_⟩
  have wF:∀b∈[z,TI,TO,i1,i2],b<s.heap.objs.size:=λb hb=>by
   have hb:b=z\/b=TI\/b=TO\/b=i1\/b=i2:=by simpa using hb
   rcases hb with rfl|rfl|rfl|rfl|rfl
   . exact Heap.lt_size h1
   . exact Heap.lt_size h2
   . exact Heap.lt_size h3
   . obtain⟨o,q,_⟩:=h4;exact Heap.lt_size q
   . obtain⟨o,q,_⟩:=h5;exact Heap.lt_size q
  have ne1:∀b o,s.heap.get? b=some o->b≠s.heap.objs.size:=λb o q=>Nat.ne_of_lt (Heap.lt_size q)
  have kk:∀b o,b≠z->b≠TO->b≠i1->b≠i2->s.heap.get? b=some o->h''.get? b=some o:=λb o n1 n2 n3 n4 q=>g2.extBut b o n1 (q7 b o n1 n2 n3 n4 q)
  have kn:∀b o,b ∉ [z,TO,i1,i2]->s.heap.get? b=some o->h''.get? b=some o:=λb o n q=>kk b o (λy=>n (by simp[y])) (λy=>n (by simp[y])) (λy=>n (by simp[y])) (λy=>n (by simp[y])) q
  have tup:h''.get? s.heap.objs.size=some { cls:=.type "tuple",data:=.seq #[u1,u2] }:=g2.extBut _ _ (Nat.ne_of_gt (Heap.lt_size h1)) q5
  have I1:Inv X pins σ (upd H s.heap.objs.size (.tup [x,y])) { s with heap:=h'' }:=by
   refine I.step (g':=s.gens) (d':=s.drawn) (t':=s.toks) (ch:=[z,TO,i1,i2]) (λb hb=>?_) (λb o _ _ hc q _=>kn b o hc q) (λb o _ _ hc q _=>⟨o.slots,kn b o hc q⟩) (λb o _ q n=>?_) (λb o hc q=>⟨o,kn b o hc q⟩) (λb ws q=>?_) (λb o v q=>?_) (λb ps q=>?_) (λm hm=>?_) (λb o q=>?_) I.bare
   . have hb':b∈[z,TI,TO,i1,i2]:=by
      have hb:b=z\/b=TO\/b=i1\/b=i2:=by simpa using hb
      rcases hb with rfl|rfl|rfl|rfl <;> simp
     obtain⟨f0,f1,f2,f3,f4,f5⟩:=hf b hb'
     exact⟨f3,f1,f4,f5⟩
   . rw[aB (ne1 b o q)];exact n
   . rw[aB (aW q fr)];exact q
   . rw[aB (aW q fr)];exact q
   . exact⟨#[],by rw[aB (aW q fr),q];simp⟩
   . obtain⟨o,es,ep,ho,r⟩:=hm
     exact⟨o,es,ep,kk _ o (Ne.symm (hf z (by simp)).2.1) (Ne.symm (hf TO (by simp)).2.1) (Ne.symm (hf i1 (by simp)).2.1) (Ne.symm (hf i2 (by simp)).2.1) ho,r⟩
   . by_cases hb:b=s.heap.objs.size
     . subst hb
       rw[aK] at q;cases q
       exact⟨gY,[u1,u2],.cons mD (.cons mF .nil),⟨_,tup,rfl,_,rfl⟩⟩
     . rw[aB hb] at q
       have nn:∀c v,H c=some v->c ∉ [z,TO,i1,i2]:=λc v e hm=>by
        have hm':c∈[z,TI,TO,i1,i2]:=by
         have hm:c=z\/c=TO\/c=i1\/c=i2:=by simpa using hm
         rcases hm with rfl|rfl|rfl|rfl <;> simp
        have:=(hf c hm').1
        rw[e] at this;cases this
       refine(I.hok b o q).stay (λc v hc' y=>kn c v ?_ y) (λc y=>by rw[aB (aW y fr)];exact y) λc ws y=>by rw[aB (aW y fr)];exact y
       rcases hc' with y|y
       . rw[y];exact nn b o q
       . exact nn c _ y
  refine⟨.ref s.heap.objs.size,_,I1,rfl,⟨s.heap.objs.size,x,y,fr,rfl,λws hw=>by rw[I.rA hw hq1];exact hx,λws hw=>by rw[I.rA hw hq2];exact hy,rfl⟩,⟨u1,u2,g1,?_,?_,?_,?_⟩,λb hb=>?_⟩
  . exact kk TI _ D.TIz D.TITO D.TIi1 D.TIi2 h2
  . exact g2.extBut _ _ D.TOz q2
  . exact q3.at λo q=>g2.extBut _ _ D.i1z q
  . exact q4.at λo q=>g2.extBut _ _ D.i2z q
  . rw[aB (Nat.ne_of_lt (wF b hb))]
    exact(hf b hb).1
 done:=by
  intro X hP hw hK hc i pins s σ H E I hf st hg
  subst hP hw hK
  obtain⟨oa,ob,h1,h2,h3,h4,h5⟩:=st
  obtain⟨xs,ys,hq1,hq2,hend⟩:=hg
  obtain⟨pR,jB,p1,hz1⟩:=I.list hq1
  obtain⟨its2,jC,p2,hz2⟩:=I.list hq2
  have e1:=jB.length
  have e2:=jC.length
  refine wpAny_pyNext_zip_end (I.ok.hd hc) D h1 h2 h3 h4 h5 p1.isList p2.isList (by
   rcases hend with q|q
   . exact .inl (by simp;omega)
   . exact .inr (by simp;omega)) λh' hk=>⟨rfl,?_⟩
  refine I.step (g':=s.gens) (d':=s.drawn) (t':=s.toks) (ch:=[z,TO,i1,i2]) (λb hb=>?_) (λb o _ _ hc q _=>?_) (λb o _ _ hc q _=>?_) (λb o _ q n=>n) (λb o hc q=>?_) (λb ys q=>q) (λb o v q=>q) (λb ps q=>⟨#[],by rw[q];simp⟩) (λm hm=>?_) (λb o q=>?_) I.bare
  . have hb':b∈[z,TI,TO,i1,i2]:=by
     have hb:b=z\/b=TO\/b=i1\/b=i2:=by simpa using hb
     rcases hb with rfl|rfl|rfl|rfl <;> simp
    obtain⟨f0,f1,f2,f3,f4,f5⟩:=hf b hb'
    exact⟨f3,f1,f4,f5⟩
  . exact hk b o (λy=>hc (by simp[y])) (λy=>hc (by simp[y])) (λy=>hc (by simp[y])) (λy=>hc (by simp[y])) q
  . exact⟨o.slots,hk b o (λy=>hc (by simp[y])) (λy=>hc (by simp[y])) (λy=>hc (by simp[y])) (λy=>hc (by simp[y])) q⟩
  . exact⟨o,hk b o (λy=>hc (by simp[y])) (λy=>hc (by simp[y])) (λy=>hc (by simp[y])) (λy=>hc (by simp[y])) q⟩
  . obtain⟨o,es,ep,ho,r⟩:=hm
    exact⟨o,es,ep,hk _ o (Ne.symm (hf z (by simp)).2.1) (Ne.symm (hf TO (by simp)).2.1) (Ne.symm (hf i1 (by simp)).2.1) (Ne.symm (hf i2 (by simp)).2.1) ho,r⟩
  . have nn:∀c v,H c=some v->∀y∈[z,TI,TO,i1,i2],c≠y:=λc v e y hy=>aW e (hf y hy).1
    refine(I.hok b o q).stay (λc v hc' y=>hk c v ?_ ?_ ?_ ?_ y) (λ_ y=>y) λ_ _ y=>y <;> (rcases hc' with y|y)
    all_goals first
     |(rw[y];exact nn b o q _ (by simp))
     |exact nn c _ y _ (by simp)
 self:=λA i s Q E st q=>by
  obtain⟨oa,ob,h1,_⟩:=st
  exact wpAny_pyIter_zip h1 q
noncomputable def X6 (K:W.Frag) (ta:TA):TI:=λσ H R=>ta σ H λvs H1=>∃a b,vs=[.ref a,.ref b]/\(∃xs,au K H1 a xs)/\(∃ys,au K H1 b ys)/\R (Im K a b) H1
section
variable {X:Cx}
theorem X7 {elts:List Expr}{k:Nat}{tpos:Pos}{a b:Expr}{ta:TA}{p pos:Pos}(hg:Gl X "zip")(hm:X.mg "zip"=none)(ha:PA X [a,b] ta)(hs:starEach [a,b] X.env=[(false,eval a X.env),(false,eval b X.env)]:=by rfl)
 (hs2:starEach [b] X.env=[(false,eval b X.env)]:=by rfl):PI X (.Tuple elts k tpos) (.Call (.Name "zip" p) [a,b] [] pos) (X6 X.K ta):=by
 intro pins s σ H R I h
 refine Call_ (g_ I hg hm boot_zip (PyProof.Rows.callWith_type1 (aL (ha pos pins s σ H _ I h) λus s1 ⟨vs,H1,I1,r1,q1⟩=>?_) (by rw[hs,hs2]) (by rw[hs2];rfl)))
 obtain⟨l1,l2,e,⟨xs,hq1⟩,⟨ys,hq2⟩,q⟩:=q1
 subst e
 obtain⟨u1,u2,rfl,mD,mF⟩:=vals2 r1
 cases mD
 cases mF
 obtain⟨pR,jB,p1,hz1⟩:=I1.list hq1
 obtain⟨its2,jC,p2,hz2⟩:=I1.list hq2
 have a1:l1<s1.heap.objs.size:=by obtain⟨_,e,_⟩:=p1.isList;exact Heap.lt_size e
 have a2:l2<s1.heap.objs.size:=by obtain⟨_,e,_⟩:=p2.isList;exact Heap.lt_size e
 refine call_zip_2 p1.isList p2.isList λh' q1 q2 q3 q4 q5 q6 q7=>?_
 refine wpAny_pyIter_zip q1 ?_
 have I2:Inv X pins σ H1 { s1 with heap:=h' }:=I1.kept (t':=s1.toks) q7
 have Dz:ZipApart (s1.heap.objs.size+4) (s1.heap.objs.size+2) (s1.heap.objs.size+3) s1.heap.objs.size (s1.heap.objs.size+1) l1 l2:=by
  have b1:@LT.lt Nat _ l1 s1.heap.objs.size:=a1
  have b2:@LT.lt Nat _ l2 s1.heap.objs.size:=a2
  constructor <;> (intro z;have z':(_:Nat)=_:=z;omega)
 refine⟨s1.heap.objs.size+4,[s1.heap.objs.size+4,s1.heap.objs.size+2,s1.heap.objs.size+3,s1.heap.objs.size,s1.heap.objs.size+1],_,_,H1,rfl,I2,X5 Dz,⟨.none,.none,q1,q2,q3,q4,q5⟩,λb hb=>?_,q⟩
 have hb:s1.heap.objs.size<=b:=by
  have hb:b=s1.heap.objs.size+4\/b=s1.heap.objs.size+2\/b=s1.heap.objs.size+3\/b=s1.heap.objs.size\/b=s1.heap.objs.size+1:=by simpa using hb
  rcases hb with z|z|z|z|z <;> rw[z]
  . exact Nat.le_add_right _ _
  . exact Nat.le_add_right _ _
  . exact Nat.le_add_right _ _
  . exact Nat.le_refl _
  . exact Nat.le_add_right _ _
 exact I1.jo hb (I1.hok.fresh hb)
end
end L2
namespace HT
open PySem PyProof.Rows L2
section
open PySem.SeqAt
open PySem.AutoSeq1 (wpAny_loadPart')
open PySem.MeetsSeq PySem.MeetsSeq2 PySem.MeetsSeq3
end
section
variable {prog:Program}{w:World}{A:Around}{E:Value->Shared->Prop}{s:Shared}
end
end HT
namespace L2
open PySem PySem.Spec PyProof.Rows
section
variable {X:Cx}
end
inductive fY (K:W.Frag) (H:Hp):Nat->V->V->Bool->Prop
 |ref {n:Nat} (a:Addr):fY K H n (.ref a) (.ref a) true
 |int {n:Nat} (a b:Int):fY K H n (.int a) (.int b) (decide (a=b))
 |str {n:Nat} (a b:Str):fY K H n (.str a) (.str b) (decide (a=b))
 |is {n:Nat} (a:Int) (b:Str):fY K H n (.int a) (.str b) false
 |si {n:Nat} (a:Str) (b:Int):fY K H n (.str a) (.int b) false
 |lst {n:Nat} {a b:Addr} {xs ys:List V} {e:Nat->Bool} (ne:a≠b) (ha:au K H a xs) (hb:au K H b ys) (hl:xs.length=ys.length) (he:∀(j:Nat) (x y:V),xs[j]? =some x->ys[j]? =some y->fY K H n x y (e j)):
   fY K H (n+1) (.ref a) (.ref b) ((List.range xs.length).all e)
 |tup {n:Nat} {a b:Addr} {xs ys:List V} {e:Nat->Bool} (ne:a≠b) (ha:aq K H a xs) (hb:aq K H b ys) (he:∀(j:Nat) (x y:V),xs[j]? =some x->ys[j]? =some y->fY K H n x y (e j)):
   fY K H (n+1) (.ref a) (.ref b) ((List.range (min xs.length ys.length)).all e && xs.length == ys.length)
section
variable {X:Cx}{pins:List (Addr × Obj)}{σ:St}{H:Hp}{s:Shared}
theorem Vals.at:∀{xs:List V}{us:List Value},Vals xs us->∀(j:Nat) (h:j<us.length),∃x,xs[j]? =some x/\RelV x us[j]
 |_,_,.nil,j,h=>absurd h (by simp)
 |_,_,.cons a r,0,h=>⟨_,rfl,a⟩
 |_,_,.cons a r,j+1,h=>by
  obtain⟨x,h1,h2⟩:=Vals.at r j (by simpa using h)
  exact⟨x,by simpa using h1,h2⟩
theorem fY.Io (I:Inv X pins σ H s){n:Nat}{x y:V}{b:Bool}(h:fY X.K H n x y b):∀(A:Around) (u v:Value),RelV x u->RelV y v->A.units+n<cLine->SeqAt.EqAt A s u v b:=by
 induction h with
 |ref a=>
  intro A u v ru rv hu
  cases ru
  cases rv
  exact SeqAt.EqAt.same _
 |int a b=>
  intro A u v ru rv hu
  obtain⟨t,rfl⟩:=ru
  obtain⟨t',rfl⟩:=rv
  exact SeqAt.EqAt.int_int a t b t'
 |str a b=>
  intro A u v ru rv hu
  obtain⟨t,rfl⟩:=ru
  obtain⟨t',rfl⟩:=rv
  have e:decide (a=b)=(a == b):=by
   by_cases z:a=b
   . rw[decide_eq_true z,z];simp
   . rw[decide_eq_false z];exact(beq_eq_false_iff_ne.mpr z).symm
  rw[e]
  exact SeqAt.EqAt.str_str a t b t'
 |is a b=>
  intro A u v ru rv hu
  obtain⟨t,rfl⟩:=ru
  obtain⟨t',rfl⟩:=rv
  exact SeqAt.EqAt.int_str a t b t'
 |si a b=>
  intro A u v ru rv hu
  obtain⟨t,rfl⟩:=ru
  obtain⟨t',rfl⟩:=rv
  exact SeqAt.EqAt.str_int a t b t'
 |@lst n a b xs ys e ne ha hb hl he ih=>
  intro A u v ru rv hu
  cases ru
  cases rv
  obtain⟨its,r1,p1,_⟩:=I.list ha
  obtain⟨its2,r2,p2,_⟩:=I.list hb
  have l1:=r1.length
  have l2:=r2.length
  refine .of_refs ne ?_
  have q:xs.length=its.toArray.size:=by rw[List.size_toArray];exact l1
  rw[q]
  refine SeqAt.RcAt.lists p1.isList p2.isList (by rw[List.size_toArray,List.size_toArray];omega) (by omega) λj h1 h2=>?_
  obtain⟨x',e1,q1⟩:=Vals.at r1 j (by simpa using h1)
  obtain⟨y',e2,q2⟩:=Vals.at r2 j (by simpa using h2)
  refine ih j x' y' e1 e2 _ _ _ (by simpa using q1) (by simpa using q2) ?_
  show A.units+1+n<cLine
  omega
 |@tup n a b xs ys e ne ha hb he ih=>
  intro A u v ru rv hu
  cases ru
  cases rv
  obtain⟨its,r1,p1,_⟩:=I.tuple ha
  obtain⟨its2,r2,p2,_⟩:=I.tuple hb
  have l1:=r1.length
  have l2:=r2.length
  refine .of_refs ne ?_
  have q:xs.length=its.toArray.size:=by rw[List.size_toArray];exact l1
  have q':ys.length=its2.toArray.size:=by rw[List.size_toArray];exact l2
  rw[q,q']
  refine SeqAt.RcAt.tuples p1 p2 (by omega) λj h1 h2=>?_
  obtain⟨x',e1,q1⟩:=Vals.at r1 j (by simpa using h1)
  obtain⟨y',e2,q2⟩:=Vals.at r2 j (by simpa using h2)
  refine ih j x' y' e1 e2 _ _ _ (by simpa using q1) (by simpa using q2) ?_
  show A.units+1+n<cLine
  omega
noncomputable def Ip (K:W.Frag) (H:Hp) (n:Nat) (xs ys:List V) (e:Nat->Bool):Prop:=∀(j:Nat) (x y:V),xs[j]? =some x->ys[j]? =some y->fY K H n x y (e j)
noncomputable def Ir (K:W.Frag) (n:Nat):R2:=λx y H Q=>∃a b xs ys e,x=.ref a/\y=.ref b/\Ip K H n xs ys e/\
 ((au K H a xs/\au K H b ys/\((xs.length=ys.length/\Q (.bl ((List.range xs.length).all e)) H)\/(xs.length≠ys.length/\Q (.bl false) H)))\/
  (aq K H a xs/\aq K H b ys/\Q (.bl ((List.range (min xs.length ys.length)).all e && xs.length == ys.length)) H))
theorem X8 {n:Nat}(hu:X.A.units+1+n<cLine):cP X (compareOp .Eq) (Ir X.K n):=by
 intro pins s σ H x y v u Q I rx ry h
 obtain⟨a,b,xs,ys,e,rfl,rfl,hd,h⟩:=h
 cases rx
 cases ry
 rcases h with⟨ha,hb,h⟩|⟨ha,hb,q⟩
 . obtain⟨its,r1,p1,_⟩:=I.list ha
   obtain⟨its2,r2,p2,_⟩:=I.list hb
   have l1:=r1.length
   have l2:=r2.length
   rcases h with⟨hl,q⟩|⟨hl,q⟩
   . have z:xs.length=its.toArray.size:=by rw[List.size_toArray];exact l1
     rw[z] at q
     refine SeqAt.eq_listAt (e:=e) p1.isList p2.isList (by rw[List.size_toArray,List.size_toArray];omega) (by omega) (λj h1 h2=>?_) ⟨.bl _,H,I,rfl,q⟩
     obtain⟨x',e1,q1⟩:=Vals.at r1 j (by simpa using h1)
     obtain⟨y',e2,q2⟩:=Vals.at r2 j (by simpa using h2)
     refine(hd j x' y' e1 e2).Io I _ _ _ (by simpa using q1) (by simpa using q2) ?_
     show X.A.units+1+n<cLine
     omega
   . refine SeqAt.eq_list_lengthsAt p1.isList p2.isList ?_ (by omega) ⟨.bl false,H,I,rfl,q⟩
     rw[List.size_toArray,List.size_toArray]
     simp
     omega
 . obtain⟨its,r1,p1,_⟩:=I.tuple ha
   obtain⟨its2,r2,p2,_⟩:=I.tuple hb
   have l1:=r1.length
   have l2:=r2.length
   have z:xs.length=its.toArray.size:=by rw[List.size_toArray];exact l1
   have z':ys.length=its2.toArray.size:=by rw[List.size_toArray];exact l2
   rw[z,z'] at q
   refine SeqAt.eq_tupleAt (e:=e) p1 p2 (by omega) (λj h1 h2=>?_) ⟨.bl _,H,I,rfl,q⟩
   obtain⟨x',e1,q1⟩:=Vals.at r1 j (by simpa using h1)
   obtain⟨y',e2,q2⟩:=Vals.at r2 j (by simpa using h2)
   refine(hd j x' y' e1 e2).Io I _ _ _ (by simpa using q1) (by simpa using q2) ?_
   show X.A.units+1+n<cLine
   omega
end
section
variable {M:Model}{A:Around}{E:Value->Shared->Prop}{s:Shared}
end
section
variable {X:Cx}{pins:List (Addr × Obj)}{σ:St}{H:Hp}{s:Shared}
end
section
variable {M:Model}{A:Around}{E:Value->Shared->Prop}{s:Shared}
end
section
variable {X:Cx}{pins:List (Addr × Obj)}{σ:St}{H:Hp}{s:Shared}
end
section
variable {X:Cx}{k:Nat}{f:Addr}{fd:FuncData}{ps:List Str}{sp:Sp}{dg:List V}{ds:List Value}{Ek:XK}{x:Str}{p pos:Pos}{e:Expr}{es:List Expr}{t:TA}{te:TE}
end
end L2
namespace L2
open PySem PySem.Spec PyProof.Rows PySem.W
end L2
namespace L2
open PySem PySem.Spec PyProof.Rows
section
variable {X:Cx}{pins:List (Addr × Obj)}{σ:St}{H:Hp}{s:Shared}
end
end L2
namespace L2
open PySem PySem.Spec PySem.Calls PyProof.Rows PySem.W PySem.Builtin PySem.Builtin.ObjectAttr PySem.Builtin.Getset_descriptor
section
variable {prog:Program}{w:World}{A:Around}{E:Value->Shared->Prop}{K:Frag}{h:Heap}{g:Array GenState}{d:Drawn}{t:Nat}{os:OsState}{a C:Addr}{o:Obj}
end
end L2
namespace L2
open PySem PySem.Spec PyProof.Rows
section
variable {X:Cx}{es:List Expr}{n k:Nat}{t:St->Hp->Prop}{pos:Pos}
end
noncomputable def cL (x:Str):List Key:=[Sum.inr x]
theorem Iu (x y:Str):dD (cL x) (cL y)=decide (x.cps.toList<y.cps.toList):=by
 unfold cL
 rw[sY]
 by_cases e:(Sum.inr x:Key)=Sum.inr y
 . rw[if_pos e]
   have e:=Sum.inr.inj e
   subst e
   have h:¬x.cps.toList<x.cps.toList:=List.lt_irrefl _
   rw[decide_eq_false h]
   rfl
 . rw[if_neg e]
   rfl
theorem wG {ss:List Str}{us:List Value}(r:Vals (ss.map V.str) us){i:Nat}(hi:i<us.length):∃x t,us.getD i Value.none=.str x t/\(ss.map cL).getD i []=cL x:=by
 have hl:=r.length
 rw[List.length_map] at hl
 have h1:(ss.map V.str)[i]? =some (V.str (ss[i]'(by omega))):=by rw[List.getElem?_map,List.getElem?_eq_getElem (by omega)];rfl
 obtain⟨u,e1,t,e2⟩:=r.get h1
 subst e2
 refine⟨ss[i]'(by omega),t,by rw[List.getD_eq_getElem?_getD,e1];rfl,?_⟩
 rw[List.getD_eq_getElem?_getD,List.getElem?_map,List.getElem?_eq_getElem (by omega)]
 rfl
theorem X_ {prog:Program}{w:World}{s:Shared}{A:Around}{ss:List Str}{us:List Value}(r:Vals (ss.map V.str) us):Asks prog w A s us (O:=Il) (λi=>(ss.map cL).getD i []):=by
 intro h2
 refine W.kas_kind (T:=.type "str") h2 (λv hv=>?_) rfl rfl ⟨rfl,λi j C hi hj q=>?_⟩
 . obtain⟨i,hi,e⟩:=List.getElem_of_mem hv
   obtain⟨x,t,e1,_⟩:=wG r hi
   rw[List.getD_eq_getElem?_getD,List.getElem?_eq_getElem hi] at e1
   have e1:us[i]=.str x t:=e1
   rw[<-e,e1]
   exact W.Looks.of_pure rfl
 . unfold W.kas_ask
   obtain⟨x,t,e1,e2⟩:=wG r hi
   obtain⟨y,u,e3,e4⟩:=wG r hj
   rw[e1,e3]
   refine W.kas_lt_str ?_
   have q:C (dD ((ss.map cL).getD i []) ((ss.map cL).getD j [])) s:=q
   rw[e2,e4,Iu] at q
   exact q
noncomputable def wH (K:PySem.W.Frag) (P:Addr) (lp:Pos) (qual:Str) (te:TE) (σ:St) (Q:VK):VK:=λx H1=>∃a xs,x=.ref a/\au K H1 a xs/\xs.length<64/\cg P lp qual H1/\
 ∀c' H2,mz P lp qual c' H2->(∀b o,b≠P->H1 b=some o->H2 b=some o)->
 ∃W:List V->Hp->Prop,W [] H2/\(∀ks H3,W ks H3->mz P lp qual c' H3)/\(∀ks H3 y,W ks H3->xs[ks.length]? =some y->te (some y::σ) H3 λk H4=>W (ks++[k]) H4)/\
 ∀ks H3,W ks H3->ks.length=xs.length->∃ss:List Str,ks=ss.map V.str/\∀p:List Nat,p.Perm (List.range xs.length)->(p.map λi=>(ss.map cL).getD i []).Pairwise pQ->∀D,H3 D=none->Q (.ref D) (upd H3 D (.lst (p.map λi=>xs.getD i .non)))
noncomputable def Yb (K:W.Frag) (P:Addr) (lp:Pos) (qual:Str) (tl te:TE):TE:=λσ H Q=>tl σ H (wH K P lp qual te σ Q)
section
variable {X:Cx}
theorem Yc {x:Str}{N':List Str}{l body:Expr}{params:Arguments}{scope:Scope}{lp kp p pos:Pos}{qual:Str}{c P:Addr}{tl te:TE}{k:Nat}(hg:Gl X "sorted")(hm:X.mg "sorted"=none)(hv:bootBuiltins "sorted"=some (.builtin "sorted"))(hr:cN k X.A)(hq:X.env.qual++"<lambda>"=qual)(hcode:X.env.code=.ref c)(C:PySem.W.CodeHd X.base c P)
 (B:BM X.mg X.base) (S:nT X x N' scope) (hdef:defaultsOf params X.env=([],[])) (hb:∀(cl:List (Str × Addr)) (pm:Value) (c':Addr) (ctv u:Value),bindArgs (PySem.W.kla_fn "<lambda>" qual params body scope cl pm (.ref c') ctv) ⟨[u],[]⟩=pure [(x,u)])
 (hl:PE X l tl) (he:∀(cl:List (Str × Addr)) (f c':Addr) (s:Shared) (H:Hp),PE (sW X x N' scope cl qual f c' s H) body te) (hs:starEach [l] X.env=[(false,eval l X.env)]:=by rfl):
 PE X (.Call (.Name "sorted" p) [l] [⟨some "key",.Lambda params body scope lp,kp⟩] pos) (Yb X.K P lp qual tl te):=by
 intro pins s σ H Q I h
 refine wpAny_Call_Name_kw (g_ I hg hm hv ?_)
 have ha:PA X [l] (bY tl fu):=aj hl ak (by rw[hs];rfl)
 refine callWith_kw (aL (ha pos pins s σ H (λvs H1=>match vs with|[x]=>wH X.K P lp qual te σ Q x H1|_=>False) I h) λus s1 ⟨vs,H1,I1,r1,q1⟩=>?_) (by rw[hs];rfl) (by rw[hs];rfl)
 obtain⟨x',rfl⟩:∃x',vs=[x']:=by
  match vs,q1 with
  |[x'],_=>exact⟨x',rfl⟩
 have q1:wH X.K P lp qual te σ Q x' H1:=q1
 obtain⟨a,xs,rfl,wI,h64,T,cont⟩:=q1
 obtain⟨u,rfl,ru⟩:=vals1 r1
 cases ru
 show wpAny _ _ (evalAll [do let v <-eval (.Lambda params body scope lp) X.env;standAt pos;pure v]) _ _ s1
 obtain⟨cl,hclos,hsub,hget⟩:=vY (scope:=scope) (env:=X.env) λy hy hf=>I1.ok.has y.1 (S.free y hy hf)
 refine wpAny_evalAll_cons (wpAny_bind (PySem.W.kla_eval hdef ?_))
 rw[hq]
 refine Xw I1 hcode C B T hclos λf c' pm ctv H2 s2 I2 Yd mono=>?_
 refine wpAny_bind (wpAny_standAt (wpAny_pure (wpAny_evalAll_nil ?_)))
 show wpAny _ _ (call (.builtin "sorted") [.ref a] [(Str.ofString "key",.ref f)]) _ _ s2
 obtain⟨W,w0,wL,wt,wf⟩:=cont c' H2 Yd mono
 have hPt:∃ps,H1 P=some (.cO ps):=by
  rcases T with e|⟨c₂,e,_⟩
  . exact⟨_,e⟩
  . exact⟨_,e⟩
 have hq2:au X.K H2 a xs:=by
  obtain⟨ps,hP⟩:=hPt
  rcases wI with(z|⟨o,z⟩)|z
  . exact .inl (.inl (mono a _ (iV z hP (by intro z;cases z)) z))
  . exact .inl (.inr ⟨o,mono a _ (iV z hP (by intro z;cases z)) z⟩)
  . exact .inr z
 refine aL (XF (Q:=Q) (W:=W) I2 hq2 h64 w0 (λpl s' H' ks y u J wk hy ry=>?_) λpl s' H' ks us J wk hlen rk=>?_) λr s' ⟨v,H',J,rv,q⟩=>⟨v,H',J.jT,rv,q⟩
 . exact Xx J S hr.hd hr.depth hsub hget (List.mem_append_left _ (List.mem_append_right _ List.mem_cons_self)) (wL ks H' wk).2 (hb cl pm c' ctv) ry (he cl f c') (wt ks H' y wk hy)
 . obtain⟨ss,k1,k3⟩:=wf ks H' wk hlen
   subst k1
   exact⟨Il,_,X_ rk,λp p1 p2 D hD=>k3 p p1 p2 D hD⟩
end
variable {P:Program}{w:World}{K:W.Frag}{mg:Str->Option Value}{base:Heap}
section
variable {X:Cx}
noncomputable def Ye (K:W.Frag) (n:Nat):R2:=λx y H Q=>(x=.non/\(∃b ys,y=.ref b/\aq K H b ys)/\Q (.bl false) H)\/Ir K n x y H Q
theorem Iv {n:Nat}(hu:X.A.units+1+n<cLine):cP X (compareOp .Eq) (Ye X.K n):=by
 intro pins s σ H x y v u Q I rx ry h
 rcases h with⟨rfl,⟨b,ys,rfl,hb⟩,q⟩|h
 . cases rx
   cases ry
   obtain⟨its,r1,p1,_⟩:=I.tuple hb
   exact SeqAt.RcAt.none_tuple p1 (by omega) _ _ _ _ ⟨.bl false,H,I,rfl,q⟩
 . exact X8 hu pins s σ H x y v u Q I rx ry h
end
theorem je.Yg {x qual:Str}{st:Stmt}{f c:Addr}{fd:FuncData}{N ps:List Str}{k:Nat}{sp:Sp}(F:je K x qual st f fd)(hc:fd.code=.ref c)(S:bJ N ps (aG st))(len:∀vs H Q E,sp vs H Q E->vs.length=ps.length)
 (hbody:∀(A:Around) (outer:List Env) (s:Shared) (H:Hp) (vs:List V) (Q:VK) (E:XK),cN k (A.deeper (envOfC qual (aG st) s.heap.objs.size f (.ref c)))->sp vs H Q E->
   ∃t,eZ (lX aH P w K mg base N qual (aG st) f (.ref c) A outer s H E).nj (bw st) t/\t { nx:=λ_ H'=>Q .non H',rt:=Q } (start N vs) H):aC P w K mg base aH (k+1) f fd ps sp:=by
 obtain⟨oc,od,kV,doc,pm,an,cdv,ct,osl,rfl,lk,hcd⟩:=F.ex
 have hc:cdv=.ref c:=hc
 subst hc
 refine Gy lk hcd S len λA outer s H vs Q E hr hsp=>?_
 obtain⟨t,h,q⟩:=hbody A outer s H vs Q E hr hsp
 exact⟨t,h.nj,q⟩
noncomputable def tD (tabs:List Addr) (H:Hp):Prop:=∀b,H b=none\/(∃o xs,H b=some (.cJ o (.lst xs)))\/(b∈tabs/\H b=some (.cO #[]))
theorem Yh {P:Program}{w:World}{K:W.Frag}{mg mb:Str->Option Value}{CX:iC}{k:Nat}{fa a:Addr}{fd:FuncData}{x:Str}{sp:Sp}{s₁:Shared}{vs:List Value}{ns:List Int}{tabs:List (Addr × Addr)}
 (KX:K.In s₁.heap) (hT:W.TabsAt tabs s₁.heap) (pU:W.noTabs K=true) (hbm:BM mg s₁.heap) (hns:s₁.heap.Ns mainGlobals mg) (hb:s₁.heap.Ns builtinsNs mb) (hbb:∀x:Str,x≠"__name__"->mb x=bootBuiltins x) (hlim:s₁.heap.NoLimit) (hg:s₁.gens=#[])
 (ha:s₁.heap.get? a=some { cls:=.type "list",data:=.seq vs.toArray }) (hi:IntsAre vs ns) (hl:ns.length<=sizeLine) (hr:cN k callerA)
 (F:∀base:Heap,K.In base->base.Ns mainGlobals mg->BM mg base->aC P w K mg base CX k fa fd [x] sp) (hbind:∀(s:Shared) (u:Value),BindsTo s fd ⟨[u],[]⟩ [(x,u)])
 (hsp:∀H:Hp,tD (tabs.map (·.2)) H->(∀q∈tabs,H q.2=some (.cO #[]))->au K H a (ns.map V.int)->sp [.ref a] H (λv _=>v=.bl true) λ_ _ _=>False)
 (Yi:∀H e s',CX [] H s₁ (λ_ _ _=>False) e s'->False):
 codeAny (model P w) callerA (.call (.ref fa) ⟨[.ref a],[]⟩) (λr s'=>r=.ok (.ret (.bool true))/\OldK s₁.heap s'.heap/\s'.os=s₁.os/\AllBare s'.gens) s₁:=by
 have rv:=G8 hi
 have lenV:=hi.length
 have nU:∀b,b∈tabs.map (·.2)->s₁.heap.get? b=some (W.tabObj #[]):=λb hm=>by
  obtain⟨q,hq,rfl⟩:=List.mem_map.mp hm
  exact(hT q hq).2
 have Iw:a ∉ tabs.map (·.2):=λhm=>by
  have:=nU a hm
  rw[ha] at this;cases this
 have core:∀H:Hp,tD (tabs.map (·.2)) H->(∀q∈tabs,H q.2=some (.cO #[]))->au K H a (ns.map V.int)->cD P w H s₁.heap->(∀b,H b≠none->b=a\/b∈tabs.map (·.2))->(H a≠none->K.lookup a=none)->
  codeAny (model P w) callerA (.call (.ref fa) ⟨[.ref a],[]⟩) (λr s'=>r=.ok (.ret (.bool true))/\OldK s₁.heap s'.heap/\s'.os=s₁.os/\AllBare s'.gens) s₁:=by
  intro H hO hPt hS hok hA hK
  have wJ:∀{b:Addr} {o:Obj},s₁.heap.get? b=some o->H b=none->(iW s₁.heap H).get? b=some o:=λe n=>Ug e n
  have other:∀{b:Addr} {o:Obj},s₁.heap.get? b=some o->(∀us n,o.data≠ .seq us n)->(∀us,o.data≠ .fields us)->H b=none:=λ{b o} e d1 d2=>by
   cases q:H b with
   |none=>rfl
   |some u=>
    rcases hA b (by rw[q];simp) with e'|e'
    . subst e'
      rw[ha] at e;cases e
      exact absurd rfl (d1 _ _)
    . rw[nU b e'] at e;cases e
      exact absurd rfl (d2 _)
  have tE:∀{b:Addr} {m:Str->Option Value},s₁.heap.Ns b m->(iW s₁.heap H).Ns b m:=λ{b m} ⟨o,es,ep,e,d,r⟩=>⟨o,es,ep,wJ e (other e (by rw[d];intro us n z;cases z) (by rw[d];intro us z;cases z)),d,r⟩
  have Iz:K.In (iW s₁.heap H):=λb o e=>wJ (KX b o e) (by
   cases q:H b with
   |none=>rfl
   |some u=>
    rcases hA b (by rw[q];simp) with e'|e'
    . subst e'
      rw[hK (by rw[q];simp)] at e;cases e
    . have e2:=KX b o e
      rw[nU b e'] at e2;cases e2
      have:=List.all_eq_true.mp pU _ (W.mem_of_lookupK e)
      simp at this)
  have hM:Mod K mg (iW s₁.heap H):=⟨Iz,tE hns,⟨mb,tE hb,hbb⟩,let⟨mc,h1,h2⟩:=hlim;⟨mc,tE h1,h2⟩⟩
  have pW:BM mg (iW s₁.heap H):=by
   obtain⟨bm,o,b1,b2,b3,b4,b5,b6,b7⟩:=hbm
   exact⟨bm,o,b1,b2,b3,wJ b4 (other b4 (by rw[b7];intro us n z;cases z) (by rw[b7];intro us z;cases z)),b5,b6,b7⟩
  have e0:lU P w K mg (iW s₁.heap H) callerA [] s₁ H:=⟨rfl,hM,λb o e=>Uh e,Nat.le_of_eq (Ue _ _),trivial,λb hb=>absurd (show b∈([]:List Addr) from hb) (by simp),hok,.of_eq hg⟩
  refine codeAny_mono ((F _ Iz (tE hns) pW).run callerA [] s₁ H ⟨[.ref a],[]⟩ [.ref a] [.ref a] _ _ hr e0 (hbind s₁ (.ref a)) (.cons rfl .nil) (hsp H hO hPt hS)) λr s' h=>?_
  cases r with
  |error e=>exact(Yi H e s' h).elim
  |ok fl=>
   cases fl with
   |next=>exact False.elim h
   |brk=>exact False.elim h
   |cont=>exact False.elim h
   |ret u=>
    obtain⟨v,H',os,bare,un,hok',r',q⟩:=h
    have q':v=.bl true:=q
    subst q'
    obtain rfl:u=Value.bool true:=r'
    have grown:∀b,b∈tabs.map (·.2)->∃ps,s'.heap.get? b=some (W.tabObj ps):=λb hm=>by
     obtain⟨q,hq,rfl⟩:=List.mem_map.mp hm
     obtain⟨more,e⟩:=un.gZ _ _ (hPt q hq)
     exact⟨_,hok' _ _ e⟩
    have keep:∀b o,b ∉ tabs.map (·.2)->s₁.heap.get? b=some o->s'.heap.get? b=some o:=λb o hb e=>by
     cases q:H b with
     |none=>exact un.keep b o e q (by intro z;exact absurd (show b∈([]:List Addr) from z) (by simp)) (by simp)
     |some u=>
      rcases hO b with z|⟨ob,xs,z⟩|⟨z,_⟩
      . rw[q] at z;cases z
      . have z2:=un.gD b ob _ z
        obtain⟨e1,_⟩:=hok b _ z
        obtain⟨e2,_⟩:=hok' b _ z2
        rw[e] at e1;cases e1
        exact e2
      . exact absurd z hb
    refine⟨rfl,⟨λb o e=>?_,λb o e=>?_⟩,os,bare⟩
    . by_cases hb:b∈tabs.map (·.2)
      . obtain⟨ps,hP⟩:=grown b hb
        have e2:=nU b hb
        rw[e] at e2;cases e2
        obtain⟨q,hq,rfl⟩:=List.mem_map.mp hb
        exact .inr (.inl ⟨((hT q hq).1.tab (hT q hq).2).isCodeTable,rfl,#[],ps,rfl,by rw[Array.empty_append];exact hP⟩)
      . exact .inl (keep b o hb e)
    . by_cases hb:b∈tabs.map (·.2)
      . obtain⟨ps,hP⟩:=grown b hb
        exact⟨_,hP⟩
      . exact⟨o,keep b o hb e⟩
 cases hk:K.lookup a with
 |some o=>
  have e:=KX a o hk
  rw[ha] at e
  cases e
  refine core (λb=>if b∈tabs.map (·.2) then some (.cO #[]) else none) (λb=>?_) (λq hq=>if_pos (List.mem_map_of_mem hq)) (.inr ⟨_,vs.toArray,_,hk,rfl,rfl,rfl,by rw[List.size_toArray,lenV];exact hl,by simpa using rv⟩) (λb u z=>?_) (λb z=>?_) λz=>absurd (if_neg Iw) z
  . by_cases hb:b∈tabs.map (·.2)
    . exact .inr (.inr ⟨hb,if_pos hb⟩)
    . exact .inl (if_neg hb)
  . by_cases hb:b∈tabs.map (·.2)
    . have z':=(if_pos hb).symm.trans z
      cases z'
      exact nU b hb
    . have z':=(if_neg hb).symm.trans z
      cases z'
  . by_cases hb:b∈tabs.map (·.2)
    . exact .inr hb
    . exact absurd (if_neg hb) z
 |none=>
  refine core (λb=>if b∈tabs.map (·.2) then some (.cO #[]) else if b=a then some (.cJ { cls:=.type "list",data:=.seq vs.toArray } (.lst (ns.map V.int))) else none) (λb=>?_) (λq hq=>if_pos (List.mem_map_of_mem hq))
   (.inl (.inr ⟨{ cls:=.type "list",data:=.seq vs.toArray },(if_neg Iw).trans (if_pos rfl)⟩)) (λb u z=>?_) (λb z=>?_) λ_=>hk
  . by_cases hb:b∈tabs.map (·.2)
    . exact .inr (.inr ⟨hb,if_pos hb⟩)
    . by_cases hba:b=a
      . exact .inr (.inl ⟨_,_,(if_neg hb).trans (if_pos hba)⟩)
      . exact .inl ((if_neg hb).trans (if_neg hba))
  . by_cases hb:b∈tabs.map (·.2)
    . have z':=(if_pos hb).symm.trans z
      cases z'
      exact nU b hb
    . have z:=(if_neg hb).symm.trans z
      by_cases hba:b=a
      . have z':=(if_pos hba).symm.trans z
        cases z'
        subst hba
        exact⟨ha,by rw[List.length_map];exact hl,vs,_,rv,ha⟩
      . have z':=(if_neg hba).symm.trans z
        cases z'
  . by_cases hb:b∈tabs.map (·.2)
    . exact .inr hb
    . by_cases hba:b=a
      . exact .inl hba
      . exact absurd ((if_neg hb).trans (if_neg hba)) z
theorem Yj {l:W.OpenLaw}{n k:Nat}{q:Program}{loose:List Str}{XP:(Str->Option Value)->Heap->Prop}{YP:World->Heap->Prop}{d:DefRec}{K:Params->W.Frag}{sp:World->List (Addr × Addr)->Sp}{x:Str}{names:List Str}
 (hn:l.most=some n) (hn2:n<=sizeLine) (hdf:d.params.defaults=[]) (hr:cN k callerA)
 (hY:∀(w:World) (h:Heap),YP w h->(K w.params).In h) (pU:∀w:World,W.noTabs (K w.params)=true)
 (tb:∀w:World,∃tabs:List (Addr × Addr),(∀q'∈tabs,∃y∈names,W.tabIn (K w.params) y=some q')/\
   (∀(mg:Str->Option Value) (fa:Addr) (h:Heap),(K w.params).In h->h.Ns mainGlobals mg->mg d.name=some (.ref fa)->
   ∃fd:FuncData,(∀(s:Shared) (u:Value),BindsTo s fd ⟨[u],[]⟩ [(x,u)])/\
    ∀base:Heap,(K w.params).In base->base.Ns mainGlobals mg->BM mg base->aC l.prog w (K w.params) mg base aH k fa fd [x] (sp w tabs)))
 (hrec:∀y∈names,∃d',(recsOf q).find? (λe=>e.name == y)=some d')
 (hsp:∀(w:World) (tabs:List (Addr × Addr)) (H:Hp) (a:Addr) (ns:List Int),ns.length<=n->tD (tabs.map (·.2)) H->(∀q∈tabs,H q.2=some (.cO #[]))->au (K w.params) H a (ns.map V.int)->sp w tabs [.ref a] H (λv _=>v=.bl true) λ_ _ _=>False):
 W.WalkO q loose XP YP l.row.toRowW d [] (λf vs=>PySem.call f vs):=by
 refine G7.WW hn hdf λw s₀ s₁ mg mb fa o pm cd doc a vs ns G Y ho hd hcd hmg hobj hints hlen hg=>?_
 have KX:=hY w _ Y
 obtain⟨tabs,ht,F⟩:=tb w
 obtain⟨fd,hb,hF⟩:=F mg fa _ KX G.T.g hmg
 have hT:W.TabsAt tabs s₁.heap:=λq' hq=>by
  obtain⟨y,hy,hty⟩:=ht q' hq
  obtain⟨d',hd'⟩:=hrec y hy
  exact W.tab_of G.T KX hd' hty
 have hbm:BM mg s₁.heap:=by
  obtain⟨bm,ob,b1,b2,b3,b4,b5,b6⟩:=G.T.bmain
  refine⟨bm,ob,b1,b2,λz=>?_,b3,b4,b5,b6⟩
  obtain⟨o',es,ep,e,hd,_⟩:=G.T.g
  rw[z,e] at b3;cases b3
  rw[hd] at b6;cases b6
 exact Yh KX hT (pU w) hbm G.T.g G.T.b G.T.builtins G.T.nolimit hg hobj hints (Nat.le_trans hlen hn2) hr hF hb (λH hO hP hS=>hsp w tabs H a ns hlen hO hP hS) λH e s' h=>h.elim
end L2
namespace Pb
open PySem L2 PyProof.Rows
mutual
inductive Kd where
 |num
 |dI
 |pX (fs:Fs)
 |rows (key by_:Str) (fs:Fs)
 |tree (k:Kd)
 |pY (fs:Fs)
inductive Fs where
 |nil
 |cons (x:Str) (k:Kd) (r:Fs)
end
noncomputable def Fs.names:Fs->List Str
 | .nil=>[]
 | .cons x _ r=>x::r.names
noncomputable def Fs.get:Fs->Str->Option Kd
 | .nil,_=>none
 | .cons y k r,x=>if x=y then some k else r.get x
noncomputable def Fs.at:Fs->Nat->Option (Str × Kd)
 | .nil,_=>none
 | .cons x k _,0=>some (x,k)
 | .cons _ _ r,i+1=>r.at i
noncomputable def Fs.snoc:Fs->Str->Kd->Fs
 | .nil,x,k=>.cons x k .nil
 | .cons y q r,x,k=>.cons y q (r.snoc x k)
theorem Fs.IK:∀(fs:Fs) (x:Str) (k:Kd),(fs.snoc x k).names=fs.names++[x]
 | .nil,_,_=>rfl
 | .cons y q r,x,k=>by
   show y::(r.snoc x k).names=_
   rw[Fs.IK r x k];rfl
theorem Fs.gK:∀(fs:Fs) (i:Nat),fs.names[i]? =(fs.at i).map (·.1)
 | .nil,i=>by simp[Fs.names,Fs.at]
 | .cons x k r,0=>by simp[Fs.names,Fs.at]
 | .cons x k r,i+1=>by
   show(x::r.names)[i+1]? =_
   rw[List.getElem?_cons_succ,Fs.gK r i];rfl
theorem Fs.IV:∀{fs:Fs}{i:Nat},i<fs.names.length->∃x k,fs.at i=some (x,k)
 | .nil,i,h=>by simp[Fs.names] at h
 | .cons x k r,0,h=>⟨x,k,rfl⟩
 | .cons x k r,i+1,h=>Fs.IV (fs:=r) (i:=i) (by simpa[Fs.names] using h)
theorem Fs.pZ:∀{fs:Fs}{i:Nat}{x:Str}{k:Kd},fs.names.Nodup->fs.at i=some (x,k)->fs.get x=some k
 | .nil,_,_,_,_,h=>by cases h
 | .cons y q r,0,x,k,_,h=>by
   cases h
   simp[Fs.get]
 | .cons y q r,i+1,x,k,nd,h=>by
   have nd:(y::r.names).Nodup:=nd
   obtain⟨n1,n2⟩:=List.nodup_cons.mp nd
   have h:r.at i=some (x,k):=h
   have hm:x∈r.names:=List.mem_of_getElem? (i:=i) (by rw[Fs.gK,h];rfl)
   show(if x=y then some q else r.get x)=some k
   rw[if_neg (λe=>n1 (by rw[<-e];exact hm))]
   exact Fs.pZ n2 h
noncomputable def iH:Kd->Prop
 | .num=>True
 | .dI=>True
 |_=>False
noncomputable def Fs.pl (fs:Fs) (x:Str):Prop:=∃k,fs.get x=some k/\iH k
mutual
noncomputable def Kd.W:Kd->Prop
 | .num=>True
 | .dI=>True
 | .pX fs=>fs.names.Nodup/\fs.names.length<=12/\fs.W
 | .rows key by_ fs=>fs.names.Nodup/\fs.names.length<=12/\fs.W/\fs.pl key/\(by_=""\/fs.pl by_)
 | .tree k=>k.W
 | .pY fs=>fs.names.Nodup/\fs.names.length<=12/\1<=fs.names.length/\fs.W
noncomputable def Fs.W:Fs->Prop
 | .nil=>True
 | .cons _ k r=>k.W/\r.W
end
end Pb
namespace Pb
open PySem L2
mutual
noncomputable def KA (H:Hp):V->Kd->Prop
 |v,.num=>∃a,v=.ref a/\H a=some (.tup [.str "number"])
 |v,.dI=>∃a,v=.ref a/\H a=some (.tup [.str "word"])
 |v,.pX fs=>∃a b vs,v=.ref a/\H a=some (.tup [.str "record",.ref b])/\H b=some (.tup vs)/\FA H vs fs
 |v,.rows key by_ fs=>∃a b vs,v=.ref a/\H a=some (.tup [.str "rows",.str key,.str by_,.ref b])/\H b=some (.tup vs)/\FA H vs fs
 |v,.tree k=>∃a u,v=.ref a/\H a=some (.tup [.str "tree",u])/\KA H u k
 |v,.pY fs=>∃a b vs,v=.ref a/\H a=some (.tup [.str "either",.ref b])/\H b=some (.tup vs)/\FA H vs fs
noncomputable def FA (H:Hp):List V->Fs->Prop
 |vs,.nil=>vs=[]
 |vs,.cons x k r=>∃c u vr,vs=.ref c::vr/\H c=some (.tup [.str x,u])/\KA H u k/\FA H vr r
end
noncomputable def Tu (H H':Hp):Prop:=∀a xs,H a=some (.tup xs)->H' a=some (.tup xs)
theorem Tu.trans {H H1 H2:Hp}(a:Tu H H1)(b:Tu H1 H2):Tu H H2:=λc xs h=>b c xs (a c xs h)
theorem Tu.of {H H':Hp}(s:Same H H'):Tu H H':=λa xs h=>s a _ h
mutual
theorem KA.mono {H H':Hp}(t:Tu H H'):∀{v:V}(k:Kd),KA H v k->KA H' v k
 |v,.num,h=>by
  unfold KA at h ⊢
  obtain⟨a,e,q⟩:=h
  exact⟨a,e,t _ _ q⟩
 |v,.dI,h=>by
  unfold KA at h ⊢
  obtain⟨a,e,q⟩:=h
  exact⟨a,e,t _ _ q⟩
 |v,.pX fs,h=>by
  unfold KA at h ⊢
  obtain⟨a,b,vs,e,q1,q2,f⟩:=h
  exact⟨a,b,vs,e,t _ _ q1,t _ _ q2,FA.mono t fs f⟩
 |v,.rows key by_ fs,h=>by
  unfold KA at h ⊢
  obtain⟨a,b,vs,e,q1,q2,f⟩:=h
  exact⟨a,b,vs,e,t _ _ q1,t _ _ q2,FA.mono t fs f⟩
 |v,.tree k,h=>by
  unfold KA at h ⊢
  obtain⟨a,u,e,q,f⟩:=h
  exact⟨a,u,e,t _ _ q,KA.mono t k f⟩
 |v,.pY fs,h=>by
  unfold KA at h ⊢
  obtain⟨a,b,vs,e,q1,q2,f⟩:=h
  exact⟨a,b,vs,e,t _ _ q1,t _ _ q2,FA.mono t fs f⟩
theorem FA.mono {H H':Hp}(t:Tu H H'):∀{vs:List V}(fs:Fs),FA H vs fs->FA H' vs fs
 |vs,.nil,h=>by
  unfold FA at h ⊢
  exact h
 |vs,.cons x k r,h=>by
  unfold FA at h ⊢
  obtain⟨c,u,vr,e,q,f,g⟩:=h
  exact⟨c,u,vr,e,t _ _ q,KA.mono t k f,FA.mono t r g⟩
end
theorem FA.len {H:Hp}:∀{vs:List V}(fs:Fs),FA H vs fs->vs.length=fs.names.length
 |vs,.nil,h=>by
  unfold FA at h
  rw[h];rfl
 |vs,.cons x k r,h=>by
  unfold FA at h
  obtain⟨c,u,vr,e,_,_,g⟩:=h
  rw[e]
  show vr.length+1=r.names.length+1
  rw[FA.len r g]
theorem FA.get {H:Hp}:∀{vs:List V}(fs:Fs) {i:Nat}{v:V},FA H vs fs->vs[i]? =some v->∃c u x k,v=.ref c/\fs.at i=some (x,k)/\H c=some (.tup [.str x,u])/\KA H u k
 |vs,.nil,i,v,h,e=>by
  unfold FA at h
  rw[h] at e;simp at e
 |vs,.cons x k r,0,v,h,e=>by
  unfold FA at h
  obtain⟨c,u,vr,ev,q,f,_⟩:=h
  rw[ev] at e
  have e:some (V.ref c)=some v:=e
  cases e
  exact⟨c,u,x,k,rfl,rfl,q,f⟩
 |vs,.cons x k r,i+1,v,h,e=>by
  unfold FA at h
  obtain⟨c,u,vr,ev,_,_,g⟩:=h
  rw[ev] at e
  exact FA.get r (i:=i) g (by simpa using e)
theorem FA.snoc {H:Hp}{c:Addr}{u:V}{x:Str}{k:Kd}(hc:H c=some (.tup [.str x,u]))(hk:KA H u k):∀{vs:List V}(fs:Fs),FA H vs fs->FA H (vs++[.ref c]) (fs.snoc x k)
 |vs,.nil,h=>by
  unfold FA at h
  subst h
  show FA H [.ref c] (.cons x k .nil)
  unfold FA
  exact⟨c,u,[],rfl,hc,hk,by unfold FA;rfl⟩
 |vs,.cons y q r,h=>by
  unfold FA at h
  obtain⟨d,w,vr,e,h1,h2,h3⟩:=h
  subst e
  show FA H (.ref d::(vr++[.ref c])) (.cons y q (r.snoc x k))
  unfold FA
  exact⟨d,w,vr++[.ref c],rfl,h1,h2,FA.snoc hc hk r h3⟩
noncomputable def Kp (S:Addr->Prop) (H H':Hp):Prop:=∀c o,¬S c->H c=some o->H' c=some o
theorem Kp.trans {S:Addr->Prop}{H H1 H2:Hp}(x:Kp S H H1)(y:Kp S H1 H2):Kp S H H2:=λc o n h=>y c o n (x c o n h)
theorem Kp.of {S:Addr->Prop}{H H':Hp}(s:Same H H'):Kp S H H':=λc o _ h=>s c o h
noncomputable def lt (z:Int):Str:=⟨#[97+z.toNat]⟩
theorem tG (z:Int):(lt z).length=1:=rfl
theorem Yk:∀j:Nat,j<26->(("abcdefghijklmnopqrstuvwxyz":Str)).cps.toList[j]? =some (97+j):=by decide +kernel
theorem Yl:(("abcdefghijklmnopqrstuvwxyz":Str)).cps.toList.length=26:=by decide +kernel
theorem wK {z:Int}(h0:0<=z)(h1:z<26):dM (("abcdefghijklmnopqrstuvwxyz":Str)).cps.toList z=some (97+z.toNat):=by
 unfold dM jt
 rw[Yl,if_pos h0,if_pos (show z<((26:Nat):Int) by omega)]
 exact Yk z.toNat (by omega)
theorem Ym {z:Int}(h0:0<=z)(h1:z<6):dM [V.int 1,.int 3,.int 5,.int 7,.int 9,.int 11] z=some (.int (2 * z+1)):=by
 have h:z=0\/z=1\/z=2\/z=3\/z=4\/z=5:=by omega
 rcases h with h|h|h|h|h|h <;> subst h <;> rfl
theorem foldl_size (a:Array Nat):∀(n:Nat) (b:Array Nat),((List.replicate n a).foldl (· ++ ·) b).size=b.size+n * a.size
 |0,b=>by simp
 |n+1,b=>by
  rw[List.replicate_succ,List.foldl_cons,foldl_size a n,Array.size_append,Nat.succ_mul];omega
theorem IW {x:Str}(hx:x.length=1)(k:Nat):(Txt.mul x ((k:Int)+1)).length=k+1:=by
 have hs:x.cps.size=1:=hx
 unfold Txt.mul
 rw[if_neg (by omega)]
 by_cases h:k=0
 . subst h
   rw[if_pos (by simp)]
   exact hx
 . rw[if_neg]
   . show((List.replicate ((k:Int)+1).toNat x.cps).foldl (· ++ ·) #[]).size=k+1
     rw[foldl_size,hs,show((k:Int)+1).toNat=k+1 by omega];simp
   . rw[hx]
     simp
     omega
theorem I_ (x y:Str):(x++y).cps.toList=x.cps.toList++y.cps.toList:=by
 show(x.cps++y.cps).toList=_
 simp
theorem Ja {f:Nat->Str}:∀{n:Nat},(∀i j,i<n->j<n->f i=f j->i=j)->((List.range n).map f).Nodup:=by
 intro n h
 refine List.pairwise_map.mpr (List.Pairwise.imp_of_mem (λ{a b} ha hb hab=>?_) (List.nodup_range (n:=n)))
 intro e
 exact hab (h a b (List.mem_range.mp ha) (List.mem_range.mp hb) e)
theorem Yn {x:Str}(hx:x.length=1){k:Nat}(hk:k<12)(hl:∀n,n<=1000->Builtin.Str.tooLong n=false):MulOk x ((k:Int)+1):=by
 refine⟨?_,λ_ _=>?_,λ_ _=>?_⟩
 . have e1:decide (((k:Int)+1)< -(2 ^ 63:Int))=false:=decide_eq_false (by omega)
   have e2:decide (((k:Int)+1) ≥ 2 ^ 63)=false:=decide_eq_false (by omega)
   rw[e1,e2];rfl
 . rw[hx]
   have h:k=0\/k=1\/k=2\/k=3\/k=4\/k=5\/k=6\/k=7\/k=8\/k=9\/k=10\/k=11:=by omega
   rcases h with h|h|h|h|h|h|h|h|h|h|h|h <;> subst h <;> decide
 . rw[hx]
   exact hl _ (by omega)
end Pb
namespace Pb
open PySem L2 PyProof.Rows PySem.Spec PySem.StrLaws PySem.Builtin PySem.Builtin.Str
noncomputable def jV (H:Hp) (u:V) (pl:Bool):Prop:=∃a f rest,u=.ref a/\H a=some (.tup (.str f::rest))/\(pl=true->rest=[]/\(f="number"\/f="word"))/\(pl=false->f≠"number"/\f≠"word")/\∀v∈rest,(∃s,v=.str s)\/∃c,v=.ref c
theorem jV.mono {H H':Hp}(t:Tu H H'){u:V}{pl:Bool}(h:jV H u pl):jV H' u pl:=by
 obtain⟨a,f,rest,e,h1,h2⟩:=h
 exact⟨a,f,rest,e,t _ _ h1,h2⟩
theorem jV.of {H:Hp}{u:V}:∀{k:Kd},KA H u k->∃pl,jV H u pl
 | .num,h=>by
   unfold KA at h
   obtain⟨a,e,q⟩:=h
   exact⟨true,a,_,_,e,q,λ_=>⟨rfl,.inl rfl⟩,(λz=>by cases z),λv hv=>nomatch hv⟩
 | .dI,h=>by
   unfold KA at h
   obtain⟨a,e,q⟩:=h
   exact⟨true,a,_,_,e,q,λ_=>⟨rfl,.inr rfl⟩,(λz=>by cases z),λv hv=>nomatch hv⟩
 | .pX fs,h=>by
   unfold KA at h
   obtain⟨a,b,vs,e,q,_⟩:=h
   exact⟨false,a,_,_,e,q,(λz=>by cases z),(λ_=>by decide),λv hv=>by rw[List.mem_singleton.mp hv];exact .inr ⟨_,rfl⟩⟩
 | .rows key by_ fs,h=>by
   unfold KA at h
   obtain⟨a,b,vs,e,q,_⟩:=h
   refine⟨false,a,_,_,e,q,(λz=>by cases z),(λ_=>by decide),λv hv=>?_⟩
   simp only[List.mem_cons,List.mem_nil_iff,or_false] at hv
   rcases hv with z|z|z <;> subst z
   . exact .inl ⟨_,rfl⟩
   . exact .inl ⟨_,rfl⟩
   . exact .inr ⟨_,rfl⟩
 | .tree k,h=>by
   unfold KA at h
   obtain⟨a,b,e,q,hk⟩:=h
   obtain⟨_,c,_,_,ec,_⟩:=jV.of hk
   exact⟨false,a,_,_,e,q,(λz=>by cases z),(λ_=>by decide),λv hv=>by rw[List.mem_singleton.mp hv];exact .inr ⟨c,ec⟩⟩
 | .pY fs,h=>by
   unfold KA at h
   obtain⟨a,b,vs,e,q,_⟩:=h
   exact⟨false,a,_,_,e,q,(λz=>by cases z),(λ_=>by decide),λv hv=>by rw[List.mem_singleton.mp hv];exact .inr ⟨_,rfl⟩⟩
noncomputable abbrev Qd:=V × Str × Bool
noncomputable def tH (H:Hp) (q:Qd):Prop:=∃c u,q.1=.ref c/\H c=some (.tup [.str q.2.1,u])/\jV H u q.2.2
noncomputable def iI (H:Hp) (qs:List Qd):Prop:=∀q∈qs,tH H q
noncomputable def nms (qs:List Qd):List Str:=qs.map (·.2.1)
noncomputable def cC (qs:List Qd):List V:=qs.map (·.1)
theorem tH.mono {H H':Hp}(t:Tu H H'){q:Qd}(h:tH H q):tH H' q:=by
 obtain⟨c,u,e,h1,h2⟩:=h
 exact⟨c,u,e,t _ _ h1,h2.mono t⟩
theorem iI.mono {H H':Hp}(t:Tu H H'){qs:List Qd}(h:iI H qs):iI H' qs:=λq hq=>(h q hq).mono t
theorem iI.of {H:Hp}:∀{ys:List V}{fs:Fs},FA H ys fs->∃qs,cC qs=ys/\nms qs=fs.names/\iI H qs
 |ys,.nil,h=>by
  unfold FA at h
  subst h
  exact⟨[],rfl,rfl,λq hq=>nomatch hq⟩
 |ys,.cons x k r,h=>by
  unfold FA at h
  obtain⟨c,u,vr,rfl,q,hk,hr⟩:=h
  obtain⟨qs,e1,e2,hp⟩:=iI.of hr
  obtain⟨pl,hs⟩:=jV.of hk
  refine⟨(.ref c,x,pl)::qs,by show _::cC qs=_;rw[e1],by show x::nms qs=_;rw[e2];rfl,λq' hq=>?_⟩
  rcases List.mem_cons.mp hq with e|e
  . subst e
    exact⟨c,u,rfl,q,hs⟩
  . exact hp q' e
noncomputable def sle (x y:Str):Prop:=pQ (cL x) (cL y)
noncomputable def slt (x y:Str):Prop:=dD (cL x) (cL y)=true
theorem wM (x y:Str)(h:slt x y):¬slt y x:=λh2=>by
 have z:=pP _ _ _ h h2
 rw[wD] at z
 cases z
theorem Yo {x y:Str}(h:cL x=cL y):x=y:=Sum.inr.inj (List.cons.inj h).1
theorem tK {x y:Str}(h:sle x y):slt x y\/x=y:=by
 rcases sZ (cL x) (cL y) with q|q|q
 . exact .inl q
 . exact .inr (Yo q)
 . have h:dD (cL y) (cL x)=false:=h
   rw[h] at q;cases q
theorem Yp {x y:Str}(h:slt x y):sle x y:=by
 unfold sle pQ
 cases e:dD (cL y) (cL x) with
 |false=>rfl
 |true=>exact absurd e (wM _ _ h)
theorem Yq {x y z:Str}(h1:sle x y)(h2:sle y z):sle x z:=by
 rcases tK h1 with a|a
 . rcases tK h2 with b|b
   . exact Yp (pP _ _ _ a b)
   . rw[<-b];exact h1
 . rw[a];exact h2
theorem Jb (x y:Str):ltCps x.cps.toList y.cps.toList=dD (cL x) (cL y):=by
 rw[Iu]
 exact ltCps_eq _ _
theorem wN:∀{ss:List Str},sortedS ss=true->ss.Pairwise sle
 |[],_=>.nil
 |[x],_=>List.pairwise_singleton _ _
 |x::y::r,h=>by
  have h:(!ltCps y.cps.toList x.cps.toList && risingS y r)=true:=h
  obtain⟨h1,h2⟩:=Bool.and_eq_true_iff.mp h
  have ih:(y::r).Pairwise sle:=wN (ss:=y::r) h2
  have hxy:sle x y:=by
   rw[Jb] at h1
   unfold sle pQ
   cases e:dD (cL y) (cL x) with
   |false=>rfl
   |true=>rw[e] at h1;cases h1
  refine .cons (λz hz=>?_) ih
  rcases List.mem_cons.mp hz with e|e
  . rw[e];exact hxy
  . exact Yq hxy ((List.pairwise_cons.mp ih).1 z e)
theorem Jc {qs:List Qd}(h:(nms qs).Pairwise sle)(nd:(nms qs).Nodup):qs.Pairwise λa b=>slt a.2.1 b.2.1:=by
 have h1:=List.pairwise_map.mp h
 have h2:qs.Pairwise λa b=>a.2.1≠b.2.1:=List.pairwise_map.mp nd
 refine(h1.and h2).imp λ{a b} ⟨x,y⟩=>?_
 rcases tK x with z|z
 . exact z
 . exact absurd z y
theorem wO {α:Type}{R:α->α->Prop}(as:∀a b,R a b->¬R b a):∀{l1 l2:List α},l1.Perm l2->l1.Pairwise R->l2.Pairwise R->l1=l2
 |[],l2,p,_,_=>by rw[p.nil_eq]
 |a::r,[],p,_,_=>absurd p.length_eq (by simp)
 |a::r,b::q,p,h1,h2=>by
  obtain⟨a1,a2⟩:=List.pairwise_cons.mp h1
  obtain⟨b1,b2⟩:=List.pairwise_cons.mp h2
  have hab:a=b:=by
   have ha:a∈b::q:=p.mem_iff.mp List.mem_cons_self
   have hb:b∈a::r:=p.mem_iff.mpr List.mem_cons_self
   rcases List.mem_cons.mp ha with e|e
   . exact e
   . rcases List.mem_cons.mp hb with e2|e2
     . exact e2.symm
     . exact absurd (a1 b e2) (as b a (b1 a e))
  subst hab
  rw[wO as ((List.perm_cons a).mp p) a2 b2]
theorem Yr {q1 q2:List Qd}(p:q1.Perm q2)(h1:(nms q1).Pairwise sle)(h2:(nms q2).Pairwise sle)(nd:(nms q2).Nodup):q1=q2:=
 wO (λa b=>wM _ _) p (Jc h1 ((p.map _).nodup_iff.mpr nd)) (Jc h2 nd)
theorem foldl_rep (c:Nat):∀(n:Nat) (b:Array Nat),((List.replicate n #[c]).foldl (· ++ ·) b).toList=b.toList++List.replicate n c
 |0,b=>by simp
 |n+1,b=>by
  rw[List.replicate_succ,List.foldl_cons,foldl_rep c n,Array.toList_append,List.append_assoc]
  rfl
theorem Jd (z:Int)(k:Nat):(Txt.mul (lt z) ((k:Int)+1)).cps.toList=List.replicate (k+1) (97+z.toNat):=by
 unfold Txt.mul
 rw[if_neg (by omega)]
 by_cases h:(((k:Int)+1 == 1) || (lt z).length == 0)=true
 . rw[if_pos h]
   have hk:k=0:=by
    rw[tG] at h
    simp at h
    omega
   subst hk
   rfl
 . rw[if_neg h]
   have e:((k:Int)+1).toNat=k+1:=by omega
   rw[e]
   show((List.replicate (k+1) #[97+z.toNat]).foldl (· ++ ·) #[]).toList=_
   rw[foldl_rep]
   rfl
end Pb
namespace L2
open PySem PySem.Spec PyProof.Rows
noncomputable def Je (a:Addr) (o:Obj) (kvs:List (Key × V)):It:=
 ⟨λi H=>i<kvs.length/\H a=some (.cJ o (.dK kvs)),λi H x H'=>H'=H/\∃p,kvs[i]? =some p/\x=kV p.1,λi H=>kvs.length<=i/\H a=some (.cJ o (.dK kvs))⟩
theorem Jf:∀{kvs:List (Key × V)}{vs:List (Key × Value)}{i:Nat}{p:Key × V},KV kvs vs->kvs[i]? =some p->∃v,vs[i]? =some (p.1,v)
 |_,_,i,p,.nil,h=>by simp at h
 |_,_,0,p,.cons (b:=b) h t,e=>by
  have e:=Option.some.inj (show some _=some p from e)
  subst e
  exact⟨b.2,by show some b=_;rw[h.1]⟩
 |_,_,i+1,p,.cons h t,e=>Jf (i:=i) t e
theorem Ys {P:Program}{w:World}{k:Key}{u:Value}(h:(cu P w).is k u=true):RelV (kV k) u:=by
 have h:jN k u=true:=h
 rcases iU h with⟨i,t,rfl,rfl⟩|⟨x,t,rfl,rfl⟩
 . exact⟨t,rfl⟩
 . exact⟨t,rfl⟩
theorem Yt {P:Program}{w:World}{K:W.Frag}{tg:Expr}{a it:Addr}{o:Obj}{kvs:List (Key × V)}{vs:List (Key × Value)}{ep:Nat}(rel:KV kvs vs)(ha:∀h:Heap,h.get? a=some o->h.DictAt (cu P w) a vs ep):
 Turn P w K tg (Je a o kvs) [it] it (λi h=>h.IsKeyIter it a i vs.length ep) where
 mem:=by simp
 obj:=λi h st b hb=>by
  have e:b=it:=by simpa using hb
  subst e
  obtain⟨o,e,c,d⟩:=st
  exact⟨o,e,λv z=>by rw[d] at z;cases z⟩
 keep:=λi h h' st k=>st.at λo e=>k it (by simp) o e
 item:=by
  intro X hP hw hK hc i pins s σ H E I hf st hg
  subst hP hw hK
  obtain⟨hi,hfz⟩:=hg
  obtain⟨hao,_⟩:=I.hok a _ hfz
  have hp:kvs[i]? =some kvs[i]:=List.getElem?_eq_getElem hi
  obtain⟨v,hv⟩:=Jf rel hp
  obtain⟨f0,f1,f2,f3,f4,f5⟩:=hf it (by simp)
  refine wpAny_pyNext_dict_item st (ha _ hao) hv λkey h' hk st' sb=>?_
  have I1:Inv X pins σ H { s with heap:=h' }:=I.turned (t':=s.toks) (λb o hb e=>(sb.2 b hb).trans e) f0 f1 f3 f4 f5
  obtain⟨o,e,c,d⟩:=id st'
  exact⟨key,rfl,rE (s:={ s with heap:=h' }) e c d (by decide) ⟨kV kvs[i].1,H,I1,Ys hk,⟨rfl,_,hp,rfl⟩,st',λb hb=>(hf b hb).1⟩⟩
 done:=by
  intro X hP hw hK hc i pins s σ H E I hf st hg
  subst hP hw hK
  obtain⟨hi,hfz⟩:=hg
  obtain⟨hao,_⟩:=I.hok a _ hfz
  obtain⟨f0,f1,f2,f3,f4,f5⟩:=hf it (by simp)
  have hl:=Paired.length rel
  exact wpAny_pyNext_dict_end (I.ok.hd hc) st (ha _ hao) (List.getElem?_eq_none (by omega)) λh' eb=>⟨rfl,I.turned (t':=s.toks) (λb o hb e=>eb b o hb e) f0 f1 f3 f4 f5⟩
 self:=λ_ _ _ _ _ st h=>wpAny_pyIter_keyiter st h
section
variable {X:Cx}{tg:Expr}
noncomputable def tL (H0:Hp) (a:Addr):Prop:=∀o u,H0 a≠some (.cJ o u)
noncomputable def Jg (H0:Hp) (tl:TE):TI:=λσ H R=>tl σ H λx H1=>∃a kvs,x=.ref a/\H1 a=some (.dK kvs)/\∀o,tL H0 a->R (Je a o kvs) (upd H1 a (.cJ o (.dK kvs)))
theorem Inv.freeze {pins:List (Addr × Obj)}{σ:St}{H:Hp}{s:Shared}{a:Addr}{kvs:List (Key × V)}(I:Inv X pins σ H s)(h:H a=some (.dK kvs)):
 ∃o vs ep,KV kvs vs/\(a == sysModules)=false/\s.heap.get? a=some o/\(∀h:Heap,h.get? a=some o->h.DictAt (cu X.prog X.w) a vs ep)/\tL X.H₀ a/\Inv X pins σ (upd H a (.cJ o (.dK kvs))) s:=by
 obtain⟨z,hd,vs,rel,o,es,ep,e1,e2⟩:=id (I.hok a _ h)
 refine⟨o,vs,ep,rel,hd,e1,λh' e=>⟨o,es,e,e2⟩,λo' u z'=>?_,?_⟩
 . have:=I.base.gD a o' u z'
   rw[h] at this;cases this
 . have u:Un X.fs [] H (upd H a (.cJ o (.dK kvs))) s.heap s.heap:=Un.write (x:=a) (e:=a) (by rw[h];trivial) (.inl rfl) (λb u _ q=>q) ⟨o,e1⟩
   refine I.un (t':=s.toks) u λb v e=>?_
   by_cases hb:b=a
   . subst hb
     rw[aK] at e
     cases e
     exact⟨e1,z,hd,vs,rel,o,es,ep,e1,e2⟩
   . rw[aB hb] at e
     exact(I.hok b v e).stay (λc w _ q=>q) (λc q=>by rw[aB (λz'=>by rw[z',h] at q;cases q)];exact q) λc xs q=>by rw[aB (λz'=>by rw[z',h] at q;cases q)];exact q
theorem Inv.Yu {pins:List (Addr × Obj)}{σ:St}{H:Hp}{s:Shared}{a:Addr}{o:Obj}{kvs:List (Key × V)}(I:Inv X pins σ H s)(h:H a=some (.cJ o (.dK kvs)))(hz:tL X.H₀ a):Inv X pins σ (upd H a (.dK kvs)) s:=by
 have nn:∀{b:Addr},H b=none->upd H a (.dK kvs) b=none:=λ{b} e=>by rw[aB (λz=>by rw[z,h] at e;cases e)];exact e
 refine⟨I.ok,I.os,I.bare,⟨I.base.keep,I.base.slot,λb u q n hx=>nn (I.base.free b u q n hx),I.base.there,λb xs q=>?_,λb o' u q=>?_,λb ps q=>?_⟩,I.loc,I.cell,nn I.free,λx c e=>nn (I.d_ x c e),λp hp=>?_,λb v e=>?_,I.len⟩
 . have:=I.base.tups b xs q
   rw[aB (λz=>by rw[z,h] at this;cases this)];exact this
 . have:=I.base.gD b o' u q
   rw[aB (λz=>hz o' u (by rw[<-z];exact q))];exact this
 . obtain⟨more,this⟩:=I.base.gZ b ps q
   exact⟨more,by rw[aB (λz=>by rw[z,h] at this;cases this)];exact this⟩
 . obtain⟨p1,p2,p3⟩:=I.pin p hp
   exact⟨p1,nn p2,p3⟩
 . by_cases hb:b=a
   . subst hb
     rw[aK] at e
     cases e
     exact(I.hok b _ h).2
   . rw[aB hb] at e
     exact(I.hok b v e).stay (λc w _ q=>q) (λc q=>by rw[aB (λz'=>by rw[z',h] at q;cases q)];exact q) λc xs q=>by rw[aB (λz'=>by rw[z',h] at q;cases q)];exact q
theorem Yv {l:Expr}{tl:TE}(hl:PE X l tl):PI X tg l (Jg X.H₀ tl):=by
 intro pins s σ H R I h
 refine aL (hl pins s σ H _ I h) λv s1 ⟨x,H1,I1,r1,q1⟩=>?_
 obtain⟨a,kvs,e,hq,q⟩:=q1
 subst e
 cases r1
 obtain⟨o,vs,ep,rel,hs,hao,hda,hz,I2⟩:=I1.freeze hq
 refine wpAny_pyIter_dict hs (hda _ hao) ?_
 refine⟨s1.heap.objs.size,[s1.heap.objs.size],_,_,upd H1 a (.cJ o (.dK kvs)),rfl,I2.kept (t':=s1.toks) λb o e=>Heap.get?_push_of_some _ e,Yt rel hda,⟨_,Heap.get?_push_size _ rfl,rfl,rfl⟩,λb hb=>?_,q o hz⟩
 have e:b=s1.heap.objs.size:=by simpa using hb
 subst e
 exact I2.jo (Nat.le_refl _) (I2.hok.fresh (Nat.le_refl _))
theorem Yw {H0:Hp}(h0:X.H₀=H0){l:Expr}{tl:TE}(hl:PE X l tl):PI X tg l (Jg H0 tl):=by
 subst h0
 exact Yv hl
noncomputable def Yx (H0:Hp) (t:TE):TE:=λσ H Q=>t σ H λv H'=>∃a o kvs,tL H0 a/\H' a=some (.cJ o (.dK kvs))/\Q v (upd H' a (.dK kvs))
theorem Yy {H0:Hp}(h0:X.H₀=H0){e:Expr}{t:TE}(h:PE X e t):PE X e (Yx H0 t):=by
 subst h0
 intro pins s σ H Q I q
 refine aL (h pins s σ H _ I q) λv s1 ⟨x,H1,I1,r1,q1⟩=>?_
 obtain⟨a,o,kvs,hz,ha,q1⟩:=q1
 exact⟨x,_,I1.Yu ha hz,r1,q1⟩
end
section
variable {prog:Program}{w:World}{A:Around}{E:Value->Shared->Prop}{s:Shared}
theorem wQ {j a:Addr}{i:Nat}{vs:Array Value}{v:Value}{Q:Value->Shared->Prop}(h1:s.heap.IsTupleIter j a i)(h2:s.heap.IsTuple a vs)(hv:vs[i]? =some v)(q:∀h',h'.IsTupleIter j a (i+1)->Heap.SameBut j s.heap h'->Q v { s with heap:=h' }):
 wpAny (model prog w) A (Builtin.SmallTypes.nextOf (.ref j)) Q E s:=by
 obtain⟨ob,g1,g2,g3⟩:=id h1
 obtain⟨ot,k1,_,nt,k2⟩:=h2
 unfold Builtin.SmallTypes.nextOf;refine wpAny_bind (wpAny_callSpecial?_slot (name:=Str.ofString "__next__") h1.typeIs F.slot_tuple_iterator_next (wpAny_call_entry F.slot_tuple_iterator_next h1.typeIs F.entry_tuple_iterator_next ?_ (F.args_tuple_iterator_next_1 _)))
 show wpAny _ _ (field (.ref j) 0 >>= _) _ _ s;refine wpAny_bind (wpAny_field g1 g3 (x:=.ref a) rfl ?_)
 show wpAny _ _ (if(Value.ref a == Value.none)=true then _ else _) _ _ s;rw[if_neg (show ¬((Value.ref a == Value.none)=true) from Bool.false_ne_true)]
 show wpAny _ _ (field (.ref j) 1 >>= _) _ _ s;refine wpAny_bind (wpAny_field g1 g3 (x:=.int i 0) rfl ?_)
 show wpAny _ _ (seqItems? (.ref a) >>= _) _ _ s;refine wpAny_bind (wpAny_seqItems k1 k2 ?_)
 simp only[Int.toNat_natCast,hv];refine wpAny_bind (wpAny_setField g1 g3 (by simp) (wpAny_pure ⟨v,rfl,wpAny_pure (q _ ?_ (Heap.SameBut.update ..))⟩))
 exact⟨_,Heap.get?_update_self _ g1 (Obj.isFreed_of_fields (Obj.data_mapFields g3 _)),(Obj.cls_mapFields ..).trans g2,by rw[Obj.data_mapFields g3];simp[rawInt]⟩
theorem Jh {j a:Addr}{i:Nat}{vs:Array Value}{Q:Value->Shared->Prop}(h0:A.handled=none)(h1:s.heap.IsTupleIter j a i)(h2:s.heap.IsTuple a vs)(hv:vs[i]? =none)
 (q:∀h' e,Heap.ExtBut j s.heap h'->(∃o,h'.get? e=some o/\o.cls=.type "StopIteration")->E (.ref e) { s with heap:=h' }):wpAny (model prog w) A (Builtin.SmallTypes.nextOf (.ref j)) Q E s:=by
 obtain⟨ob,g1,g2,g3⟩:=id h1
 obtain⟨ot,k1,_,nt,k2⟩:=h2
 unfold Builtin.SmallTypes.nextOf;refine wpAny_bind (wpAny_callSpecial?_slot (name:=Str.ofString "__next__") h1.typeIs F.slot_tuple_iterator_next (wpAny_call_entry F.slot_tuple_iterator_next h1.typeIs F.entry_tuple_iterator_next ?_ (F.args_tuple_iterator_next_1 _)))
 show wpAny _ _ (field (.ref j) 0 >>= _) _ _ s;refine wpAny_bind (wpAny_field g1 g3 (x:=.ref a) rfl ?_)
 show wpAny _ _ (if(Value.ref a == Value.none)=true then _ else _) _ _ s;rw[if_neg (show ¬((Value.ref a == Value.none)=true) from Bool.false_ne_true)]
 show wpAny _ _ (field (.ref j) 1 >>= _) _ _ s;refine wpAny_bind (wpAny_field g1 g3 (x:=.int i 0) rfl ?_)
 show wpAny _ _ (seqItems? (.ref a) >>= _) _ _ s;refine wpAny_bind (wpAny_seqItems k1 k2 ?_)
 simp only[Int.toNat_natCast,hv];refine wpAny_bind (wpAny_rule (wpAny_bind (wpAny_setField g1 g3 (by simp) ?_)))
 show wpAny _ _ (newExc (.type "StopIteration") [] >>= _) _ _ _;refine wpAny_bind ?_;simp only[newExc,newTuple];refine wpAny_bind (wpAny_newObj_type ?_ (by size_fits))
 refine wpAny_bind (m:=firstArgMember _ _) (wpAny_of_eq (a:=Value.none) (by first|rfl|(simp only[firstArgMember];rfl)) ?_);refine wpAny_newObj_type ?_ (by size_fits);simp only[raiseNew];refine wpAny_bind (wpAny_handled ?_)
 (first|rw[show A.in1.handled=none from h0]|rw[h0]);refine wpAny_bind (wpAny_pure (wpAny_throw ?_))
 exact q _ _ (((Heap.SameBut.update ..).extBut.push _).push _) ⟨_,Heap.get?_push_size _ rfl,rfl⟩
end
section
variable {X:Cx}
end
end L2
namespace Pb
open PySem L2
end Pb
namespace L2
open PySem PySem.Spec PyProof.Rows
section
variable {X:Cx}
theorem tM:fj X (.type "dict") (λxs H Q=>∃a kvs,xs=[.ref a]/\H a=some (.dK kvs)/\∀l,H l=none->Q (.ref l) (upd H l (.dK kvs))):=by
 intro pins s σ H xs us Q I r h
 obtain⟨a,kvs,rfl,hH,q⟩:=h
 obtain⟨u,rfl,ru⟩:=vals1 r
 cases ru
 obtain⟨z,sm,vs,kv,dd⟩:=sE I.hok hH
 refine kt_call_dict sm dd (by rw[<-kv.length];exact z) λh' hd hs=>?_
 have hb:(s.heap.objs.size == sysModules)=false:=beq_eq_false_iff_ne.mpr (Nat.ne_of_gt I.big)
 refine⟨.ref s.heap.objs.size,_,I.laid (a:=s.heap.objs.size) (o:=.dK kvs) (t':=s.toks) (λb o e=>?_) (Nat.le_refl _) ⟨z,hb,vs,kv,hd⟩,rfl,q _ (I.hok.fresh (Nat.le_refl _))⟩
 exact hs.extBut b o (Nat.ne_of_lt (Heap.lt_size e)) (Heap.get?_push_of_some _ e)
end
theorem Yz:typeLookup (.type "list") "keys"=pure none:=am_miss_of_fast (by kernel_rfl)
theorem YB {prog:Program}{w:World}{A:Around}{E:Value->Shared->Prop}{s:Shared}{a:Addr}{xs:Array Value}{k:Nat}{sl:Array (Option Value)}{Q:Option Value->Shared->Prop}
 (hx:s.heap.get? a=some { cls:=.type "list",dict:=none,data:=.seq xs k,slots:=sl }) (hA:A.handled=none)
 (h:∀h' tk,(∀b ob,s.heap.get? b=some ob->h'.get? b=some ob)->Q none { s with heap:=h',toks:=tk }):
 wpAny (model prog w) A (getAttr? (.ref a) "keys") Q E s:=by
 obtain⟨hp,g,d,tk,os⟩:=s
 have hT:∀tk',(⟨hp,g,d,tk',os⟩:Shared).TypeIs (.ref a) "list":=λ_=>⟨_,hx,rfl⟩
 have f1:=sub_AttributeError
 have f3:=F.slot_list_getattribute.lookup
 have f4:=F.slot_list_getattribute.bind (.ref a)
 have f5:=am_list_getattr_none
 unfold getAttr? getAttrBy? getAttrBy
 repeat (any_goals (first|assumption|exact hT _|((with_reducible show wpAny _ _ (call (Value.builtin "list.__getattribute__") _ _) _ _ _);refine call_meets F.slot_list_getattribute (hT _) am_entry_list_getattribute (F.args_list_getattribute_2 _ _) (meets_getattribute_miss_list a xs k sl "keys" _ Yz (by decide +kernel) (by size_fits)) ⟨hx,hA,λh' tk' e hx'=>?_⟩)|wp_step))
 obtain⟨t',u',he⟩:=hx'.there
 show wpAny _ _ (getattributeRaised _ _ _ _ _ _ _) _ _ _
 unfold getattributeRaised
 repeat (any_goals (first|assumption|wp_step))
 exact h h' tk' hx'.keeps
theorem jW {a b:String}(h:a≠b):Value.type a≠Value.type b:=λz=>h (by injection z)
theorem Ji:entryFor table "dict.update.loop"=some Builtin.«dict.update.loop»:=entryFor_of_tree (by kernel_rfl)
theorem tO:plainId "dict.update.loop"=true:=by decide +kernel
section
variable {prog:Program}{w:World}{K:Type} [DecidableEq K]{knd:KeyKind prog w K}{A:Around}{E:Value->Shared->Prop}{s:Shared}
structure nW (knd:KeyKind prog w K) (h:Heap) (ts:List Addr) (ps:List (K × Value)):Prop where
 len:ts.length=ps.length
 at_:∀(i:Nat) t p,ts[i]? =some t->ps[i]? =some p->∃u,knd.is p.1 u=true/\IsTup h t #[u,p.2]
theorem nW.keep {h h':Heap}{ts:List Addr}{ps:List (K × Value)}(x:nW knd h ts ps)(k:∀b o,o.cls=.type "tuple"->h.get? b=some o->h'.get? b=some o):nW knd h' ts ps:=
 ⟨x.len,λi t p ht hp=>by
   obtain⟨u,hu,o,e,c,d⟩:=x.at_ i t p ht hp
   exact⟨u,hu,o,k _ _ c e,c,d⟩⟩
theorem YC (hh:A.handled=none)(d I l:Addr)(ts:List Addr)(ps:List (K × Value))(hn:(ps.map (·.1)).Nodup)(hz:ps.length<=sizeLine){R:Result->Shared->Prop}:
 ∀(k i:Nat) (s:Shared),ps.length - i=k->i<=ps.length->s.heap.IsListIter I l i->s.heap.IsList l (ts.map Value.ref).toArray->nW knd s.heap ts ps->s.heap.DictOf knd d (ps.take i)->
  (∀h' tk,(∀b o,b≠d->b≠I->s.heap.get? b=some o->h'.get? b=some o)->h'.DictOf knd d ps->R (.ok (.ret .none)) { s with heap:=h',toks:=tk })->
  codeAny (model prog w) A (.builtin "dict.update.loop" ⟨[.ref d,.ref I,rawInt (i:Int),.none],[]⟩) R s:=by
 intro k
 induction k with
 |zero=>
  intro i s hk hi hit hl hp hd hR
  have hin:i=ps.length:=by omega
  subst hin
  refine codeAny_builtin Ji ?_
  rw[Around.under_plainId tO _]
  show wpAny _ A.in1 (pyNext (.ref I) >>= _) _ _ s
  refine wpAny_bind (wpAny_pyNext_list_end hh hit hl (by simp[hp.len]) λh' eb=>?_)
  rw[List.take_length] at hd
  obtain⟨od,es,ep,hg,hc,r⟩:=id hd
  have hdI:d≠I:=λz=>by
   obtain⟨oi,hgi,mG,_⟩:=hit
   rw[z,hgi] at hg;cases hg
   have hc:=hc.1
   rw[mG] at hc;exact absurd hc (jW (by decide))
  exact wpAny_bind (wpAny_pure (wpAny_pure (hR h' s.toks (λb o _ hb e=>eb b o hb e) (hd.extBut eb hdI))))
 |succ k ih=>
  intro i s hk hi hit hl hp hd hR
  have hlt:i<ps.length:=by omega
  have hps:ps[i]? =some ps[i]:=List.getElem?_eq_getElem hlt
  have hts:ts[i]? =some (ts[i]'(by rw[hp.len];exact hlt)):=List.getElem?_eq_getElem _
  obtain⟨u,hu,o,ho,hc,n,hda⟩:=hp.at_ i _ _ hts hps
  refine codeAny_builtin Ji ?_
  rw[Around.under_plainId tO _]
  show wpAny _ A.in1 (pyNext (.ref I) >>= _) _ _ s
  refine wpAny_bind (wpAny_pyNext_list_item hit hl (x:=.ref (ts[i]'(by rw[hp.len];exact hlt))) (by simp[hts]) λh' hit' sb=>?_)
  have hdI:d≠I:=λz=>by
   obtain⟨od,es,ep,hg,hc,r⟩:=id hd
   obtain⟨oi,hgi,mG,_⟩:=hit
   rw[z,hgi] at hg;cases hg
   have hc:=hc.1
   rw[mG] at hc;exact absurd hc (jW (by decide))
  have YD:∀b o,o.cls≠ .type "list_iterator"->s.heap.get? b=some o->b≠I:=λb o hne e z=>by
   obtain⟨oi,hgi,mG,_⟩:=hit
   rw[z,hgi] at e;cases e
   exact hne mG
  have hcd:∀b o,o.cls≠ .type "dict"->s.heap.get? b=some o->b≠d:=λb o hne e z=>by
   obtain⟨od,es,ep,hg,hc,r⟩:=id hd
   rw[z,hg] at e;cases e
   exact hne hc.1
  have k1:∀b o,o.cls≠ .type "list_iterator"->s.heap.get? b=some o->h'.get? b=some o:=λb o hne e=>(sb.2 b (YD b o hne e)).trans e
  have ho':=k1 _ _ (by rw[hc];exact jW (by decide)) ho
  have hd':h'.DictOf knd d (ps.take i):=by
   obtain⟨od,es,ep,hg,hc,r⟩:=id hd
   exact⟨od,es,ep,k1 _ _ (by rw[hc.1];exact jW (by decide)) hg,hc,r⟩
  dsimp only
  refine wpAny_bind (wpAny_holding (wpAny_bind (wpAny_tryCatch ?_)))
  unfold Builtin.Dict.pairItems
  refine wpAny_bind (wpAny_typeOf (T:="tuple") ⟨_,ho',hc⟩ ?_)
  rw[if_pos (by decide)]
  refine wpAny_bind (wpAny_seqItems ho' hda (wpAny_pure ?_))
  show wpAny _ _ (holding [u,ps[i].2] (dictSet d u ps[i].2)) _ _ _
  refine wpAny_holding (wpAny_dictSet_pairs hu hd' (λh'' hd'' YF=>?_) (by rw[List.length_take];omega))
  refine wpAny_pure ⟨plainId_quiet tO _,?_⟩
  have k2:∀b o,b≠d->h'.get? b=some o->h''.get? b=some o:=λb o hb e=>(YF.2 b hb).trans e
  have k12:∀b o,o.cls≠ .type "list_iterator"->o.cls≠ .type "dict"->s.heap.get? b=some o->h''.get? b=some o:=λb o h1 h2 e=>k2 b o (hcd b o h2 e) (k1 b o h1 e)
  refine ih (i+1) { s with heap:=h'',toks:=s.toks+1 } (by omega) (by omega) ?_ ?_ ?_ ?_ ?_
  . obtain⟨oi,hgi,mG,r⟩:=hit'
    exact⟨oi,k2 _ _ (Ne.symm hdI) hgi,mG,r⟩
  . obtain⟨ol,YG,hcl,r⟩:=hl
    exact⟨ol,k12 _ _ (by rw[hcl];exact jW (by decide)) (by rw[hcl];exact jW (by decide)) YG,hcl,r⟩
  . exact hp.keep λb o h1 e=>k12 b o (by rw[h1];exact jW (by decide)) (by rw[h1];exact jW (by decide)) e
  . have e1:stored (ps.take i) ps[i].1 ps[i].2=ps.take (i+1):=by
     rw[stored_absent ?_]
     . rw[List.take_succ,hps];rfl
     . cases hv:valueAt (ps.take i) ps[i].1 with
       |none=>rfl
       |some v=>
        exfalso
        have hm:ps[i].1∈(ps.take i).map (·.1):=by
         unfold valueAt at hv
         obtain⟨q,hq,_⟩:=Option.map_eq_some_iff.mp hv
         have h1:=List.find?_some hq
         have h2:=List.mem_of_find?_eq_some hq
         exact List.mem_map.mpr ⟨q,h2,by simpa using h1⟩
        obtain⟨q,hq,e⟩:=List.mem_map.mp hm
        obtain⟨j,hj,ej⟩:=List.getElem_of_mem hq
        rw[List.length_take] at hj
        rw[List.getElem_take] at ej
        have hji:j<i:=by omega
        have:=List.pairwise_iff_getElem.mp hn j i (by rw[List.length_map];omega) (by rw[List.length_map];exact hlt) hji
        rw[List.getElem_map,List.getElem_map,ej] at this
        exact this e
    rw[<-e1]
    exact hd''
  . intro h3 tk keep YH
    exact hR h3 tk (λb o hb hI e=>keep b o hb hI (k2 b o hb ((sb.2 b hI).trans e))) YH
theorem YJ {ax:Addr}{ts:List Addr}{ps:List (K × Value)}{Q:Value->Shared->Prop}(hh:A.handled=none)(hl:PlainL s.heap ax (ts.map Value.ref).toArray)(hp:nW knd s.heap ts ps)(hn:(ps.map (·.1)).Nodup)(hz:ps.length<=sizeLine)
 (h:∀h' tk,h'.DictOf knd s.heap.objs.size ps->(∀b o,s.heap.get? b=some o->h'.get? b=some o)->Q (.ref s.heap.objs.size) { s with heap:=h',toks:=tk }):
 wpAny (model prog w) A (call (.type "dict") [.ref ax]) Q E s:=by
 refine callType_codes (Q₁:=λobj s₁=>obj=.ref s.heap.objs.size/\s₁={ s with heap:=s.heap.push { cls:=.type "dict",data:=.dict #[] } }) F.kt_called_dict (F.kt_typeCall_dict_1 _) F.entry_dict_init (kt_code_dict_new _ ⟨rfl,rfl⟩) ?_
 rintro obj s₁ ⟨rfl,rfl⟩
 have hnew:(s.heap.push { cls:=.type "dict",data:=.dict #[] }).DictOf knd s.heap.objs.size []:=Heap.DictOf.new s.heap
 have kp:∀b o,s.heap.get? b=some o->(s.heap.push { cls:=.type "dict",data:=.dict #[] }).get? b=some o:=λb o e=>Heap.get?_push_of_some _ e
 obtain⟨⟨oc,od,oda,osl⟩,n,hg,hc,hdi,hda⟩:=hl
 dsimp only at hc hdi hda
 subst hc
 subst hdi
 subst hda
 refine⟨hnew.typeIs,F.args_dict_init_2 _ _,?_⟩
 unfold Builtin.«dict.__init__»
 refine wpAny_bind ?_
 unfold Builtin.Dict.selfAndRest
 refine wpAny_bind (wpAny_notOrdered_dict hnew.typeIs ?_)
 show wpAny _ _ (pure (s.heap.objs.size,[Value.ref ax])) _ _ _
 refine wpAny_pure ?_
 show wpAny _ _ (Builtin.Dict.updateFrom "dict.__init__" s.heap.objs.size (.ref ax) [] .none) _ _ _
 unfold Builtin.Dict.updateFrom
 refine wpAny_bind (wpAny_typeOf (T:="list") ⟨_,kp _ _ hg,rfl⟩ ?_)
 rw[if_pos (by decide)]
 refine wpAny_bind (YB (kp _ _ hg) hh λh1 tk1 k1=>?_)
 rw[if_pos (show(none:Option Value).isNone=true from rfl)]
 refine wpAny_bind (wpAny_rule ?_)
 refine wpAny_bind (wpAny_pyIter_list (items:=(ts.map Value.ref).toArray) ⟨_,k1 _ _ (kp _ _ hg),rfl,n,rfl⟩ ?_)
 refine wpAny_pure ⟨plainId_quiet tO _,?_⟩
 have k2:∀b o,s.heap.get? b=some o->(h1.push { cls:=.type "list_iterator",data:=.fields #[.ref ax,.int 0 0] }).get? b=some o:=λb o e=>Heap.get?_push_of_some _ (k1 _ _ (kp _ _ e))
 have hd1:h1.DictOf knd s.heap.objs.size []:=hnew.keep k1
 refine YC (A:=A.in1) hh s.heap.objs.size h1.objs.size ax ts ps hn hz ps.length 0 _ (Nat.sub_zero _) (Nat.zero_le _) ⟨_,Heap.get?_push_size _ rfl,rfl,rfl⟩ ⟨_,k2 _ _ hg,rfl,n,rfl⟩ (hp.keep λb o _ e=>k2 b o e) (hd1.keep λb o e=>Heap.get?_push_of_some _ e) λh' tk keep hd'=>?_
 refine⟨rfl,h h' tk hd' λb o e=>keep b o (Nat.ne_of_lt (Heap.lt_size e)) (λz=>?_) (k2 b o e)⟩
 have:=Heap.lt_size (k1 _ _ (kp _ _ e))
 rw[z] at this
 exact Nat.lt_irrefl _ this
end
section
variable {X:Cx}
theorem YK {k:Key}{u:Value}(h:RelV (kV k) u):jN k u=true:=by
 cases k with
 |inl i=>obtain⟨t,rfl⟩:=h;show(i == i)=true;simp
 |inr s=>obtain⟨t,rfl⟩:=h;show(s == s)=true;simp
theorem Jj:∀{cs:List Addr}{its:List Value},Vals (cs.map V.ref) its->its=cs.map Value.ref
 |[],_,h=>by cases h;rfl
 |c::r,_,h=>by
  cases h with
  |cons h t=>rw[Jj (cs:=r) t,show _=Value.ref c from h];rfl
theorem Jk {pins:List (Addr × Obj)}{σ:St}{H:Hp}{s:Shared}(I:Inv X pins σ H s):∀(ts:List Addr) (kvs:List (Key × V)),ts.length=kvs.length->(∀(i:Nat) t p,ts[i]? =some t->kvs[i]? =some p->H t=some (.tup [kV p.1,p.2]))->∃ps:List (Key × Value),KV kvs ps/\nW (cu X.prog X.w) s.heap ts ps
 |[],[],_,_=>⟨[],.nil,rfl,λi t p h=>by simp at h⟩
 |t::ts,p::kvs,hl,h=>by
  obtain⟨ps,h1,h2⟩:=Jk I ts kvs (by simpa using hl) λi t' p' a b=>h (i+1) t' p' a b
  obtain⟨its,rv,tp,_⟩:=I.tuple (aq.of (h 0 t p rfl rfl))
  obtain⟨u1,u2,rfl,r1,r2⟩:=vals2 rv
  refine⟨(p.1,u2)::ps,.cons ⟨rfl,r2⟩ h1,by rw[List.length_cons,List.length_cons,h2.len],λi t' p' a b=>?_⟩
  cases i with
  |zero=>
   have a:some t=some t':=a
   have b:some (p.1,u2)=some p':=b
   cases a
   cases b
   exact⟨u1,YK r1,tp⟩
  |succ i=>exact h2.at_ i t' p' a b
theorem Jl:∀{kvs:List (Key × V)}{ps:List (Key × Value)},KV kvs ps->ps.map (·.1)=kvs.map (·.1)
 |_,_,.nil=>rfl
 |_,_,.cons h t=>by rw[List.map_cons,List.map_cons,Jl t,h.1]
noncomputable def YL (K:W.Frag):List V->Hp->VK->Prop:=λxs H Q=>∃a,∃ts:List Addr,∃kvs:List (Key × V),xs=[.ref a]/\au K H a (ts.map V.ref)/\ts.length=kvs.length/\(∀(i:Nat) t p,ts[i]? =some t->kvs[i]? =some p->H t=some (.tup [kV p.1,p.2]))/\(kvs.map (·.1)).Nodup/\kvs.length<=100/\∀l,H l=none->Q (.ref l) (upd H l (.dK kvs))
theorem YM (hc:X.calm=true):fj X (.type "dict") (YL X.K):=by
 intro pins s σ H xs us Q I r h
 obtain⟨a,ts,kvs,rfl,hq,hlen,hat,hn,h100,q⟩:=h
 obtain⟨u,rfl,ru⟩:=vals1 r
 cases ru
 obtain⟨its,rv,pl,hz⟩:=I.list hq
 obtain rfl:=Jj rv
 obtain⟨ps,kv,hp⟩:=Jk I ts kvs hlen hat
 have Jm:kvs.length<=sizeLine:=Nat.le_of_lt (cX (by omega))
 refine YJ (I.ok.hd hc) pl hp (by rw[Jl kv];exact hn) (by rw[<-kv.length];exact Jm) λh' tk hd hk=>?_
 have hb:(s.heap.objs.size == sysModules)=false:=beq_eq_false_iff_ne.mpr (Nat.ne_of_gt I.big)
 exact⟨.ref s.heap.objs.size,_,I.laid (a:=s.heap.objs.size) (o:=.dK kvs) (t':=tk) hk (Nat.le_refl _) ⟨Jm,hb,ps,kv,hd⟩,rfl,q _ (I.hok.fresh (Nat.le_refl _))⟩
end
section
variable {prog:Program}{w:World}{A:Around}{E:Value->Shared->Prop}{hp:Heap}{g:Array GenState}{dr:Drawn}{tk:Nat}{os:OsState}{C fI:Addr}{bms:List Value}{B nid iid:String}
end
end L2
namespace L2
open PySem PySem.Spec PySem.Calls PyProof.Rows PySem.W PySem.Builtin PySem.Builtin.ObjectAttr
section
variable {prog:Program}{w:World}{A:Around}{E:Value->Shared->Prop}{s:Shared}{K:Frag}{x C:Addr}{ox:Obj}{name:Str}{v:Value}
end
end L2
namespace L2
open PySem PySem.Spec PySem.Calls PyProof.Rows PySem.W PySem.Builtin PySem.Builtin.ObjectAttr PySem.Builtin.Getset_descriptor
section
variable {prog:Program}{w:World}{A:Around}{E:Value->Shared->Prop}{K:Frag}{h:Heap}{g:Array GenState}{d:Drawn}{t:Nat}{os:OsState}{a C dx:Addr}{o:Obj}{vs:Array Value}{mA:Str->Option Value}{name:Str}{v:Value}
end
end L2
namespace L2
open PySem PySem.Spec PyProof.Rows
section
variable {M:Model}{A:Around}{E:Value->Shared->Prop}{s:Shared}
end
section
variable {X:Cx}{pins:List (Addr × Obj)}{σ:St}{H:Hp}{s:Shared}
end
section
variable {M:Model}{A:Around}{E:Value->Shared->Prop}{s:Shared}
end
section
variable {X:Cx}{pins:List (Addr × Obj)}{σ:St}{H:Hp}{s:Shared}
end
section
variable {X:Cx}{k:Nat}{f:Addr}{fd:FuncData}{ps:List Str}{sp:Sp}{dg:List V}{ds:List Value}{Ek:XK}{x:Str}{p pos:Pos}{e:Expr}{es:List Expr}{t:TA}{te:TE}
end
section
variable {X:Cx}{pins:List (Addr × Obj)}{σ:St}{H:Hp}{s:Shared}
end
section
variable {X:Cx}
end
section
variable {X:Cx}{k:Nat}{f C:Addr}{fd:FuncData}{ps:List Str}{sp:Sp}{Ek:XK}{m:Str}{p pos apos:Pos}{e o:Expr}{es:List Expr}{t:TA}{te ta:TE}
end
noncomputable def hk (l:List Key) (q:Key):Bool:=l.any λx=>decide (x=q)
noncomputable def stepK (l:List Key) (k:Key):List Key:=if hk l k=true then l else l++[k]
theorem Jo {prog:Program}{w:World}{h:Heap}{a:Addr}{S S':Key->Bool}{n n':Nat}(hS:h.SetOf (cu prog w) a S n)(e:∀k,S k=S' k)(en:n=n'):h.SetOf (cu prog w) a S' n':=by
 obtain rfl:S=S':=funext e
 subst en
 exact hS
noncomputable def cY (v:Nat->Key):Nat->List Key
 |0=>[]
 |i+1=>stepK (cY v i) (v i)
theorem Jp (v:Nat->Key):∀i,(cY v i).length<=i
 |0=>Nat.le_refl _
 |i+1=>by
  have:=Jp v i
  show(stepK (cY v i) (v i)).length<=i+1
  unfold stepK
  split
  . omega
  . rw[List.length_append];exact Nat.succ_le_succ this
theorem YQ (l m:List Key)(q:Key):hk (l++m) q=(hk l q || hk m q):=List.any_append
theorem YS (l:List Key)(k q:Key):hk (stepK l k) q=(hk l q || decide (q=k)):=by
 unfold stepK
 split
 . rename_i h
   by_cases e:q=k
   . subst e;rw[h];rfl
   . rw[decide_eq_false e,Bool.or_false]
 . rw[YQ]
   have:hk [k] q=decide (q=k):=by
    show(decide (k=q) || false)=_
    rw[Bool.or_false]
    by_cases e:q=k
    . subst e;rfl
    . rw[decide_eq_false e,decide_eq_false λz=>e z.symm]
   rw[this]
theorem YT (l:List Key)(k:Key):(stepK l k).length=if hk l k=true then l.length else l.length+1:=by
 unfold stepK
 split
 . rfl
 . rw[List.length_append];rfl
theorem YW {l:List Key}{q:Key}:hk l q=true↔q∈l:=by
 unfold hk
 rw[List.any_eq_true]
 constructor
 . rintro⟨x,h1,h2⟩
   rw[<-of_decide_eq_true h2];exact h1
 . intro h
   exact⟨q,h,decide_eq_true rfl⟩
theorem Jq {v:Nat->Key}:∀{i:Nat},((List.range i).map v).Nodup->cY v i=(List.range i).map v
 |0,_=>rfl
 |i+1,h=>by
  rw[List.range_succ,List.map_append] at h ⊢
  obtain⟨h1,h2,h3⟩:=List.nodup_append.mp h
  show stepK (cY v i) (v i)=_
  rw[Jq h1]
  unfold stepK
  rw[if_neg]
  . rfl
  . intro z
    exact h3 _ (YW.mp z) (v i) (List.mem_singleton.mpr rfl) rfl
section
variable {prog:Program}{w:World}{A:Around}{R:Result->Shared->Prop}{I:Addr}{fp wr:List Addr}{G:Array GenState->Array GenState->Prop}{n:Nat}{Pp:Nat->Value->Prop}{St':Nat->Shared->Prop}
theorem YX (W:WalksS prog w A.in1 I fp wr G n Pp St')(S:Addr)(sf:S ∉ fp)(v:Nat->Key)(hv:∀i u,Pp i u->(cu prog w).is (v i) u=true/\u.scannable=true)(bd:n+1<scanBound):
 ∀(k i:Nat) (s:Shared),n - i=k->i<=n->St' i s->s.heap.SetOf (cu prog w) S (λq=>hk (cY v i) q) (cY v i).length->
  (∀s',Moved (S::wr) G s s'->s'.heap.SetOf (cu prog w) S (λq=>hk (cY v n) q) (cY v n).length->R (.ok (.ret .none)) s')->
  codeAny (model prog w) A (.builtin "set.update.loop" ⟨[.ref S,.ref I],[]⟩) R s:=by
 have sw:S ∉ wr:=λz=>sf (W.sub _ z)
 have up:∀b∈wr,b∈S::wr:=λb z=>List.mem_cons_of_mem _ z
 intro k
 induction k with
 |zero=>
  intro i s e1 e2 st so fin
  obtain rfl:i=n:=by omega
  refine codeAny_builtin PyProof.Rows.F.entry_set_update_loop ?_
  rw[Around.under_plainId PyProof.Rows.F.plain_set_update_loop _]
  show wpAny _ A.in1 (pyNext (.ref I) >>= _) _ _ s
  refine wpAny_bind (W.done s _ _ st λs' mv=>?_)
  show wpAny _ A.in1 (ret Value.none) _ _ s'
  obtain⟨o,es,ep,t,ho,more⟩:=so
  exact wpAny_pure (fin s' (mv.mono up) ⟨o,es,ep,t,mv.heap S _ sw ho,more⟩)
 |succ k ih=>
  intro i s e1 e2 st so fin
  have lt:i<n:=by omega
  refine codeAny_builtin PyProof.Rows.F.entry_set_update_loop ?_
  rw[Around.under_plainId PyProof.Rows.F.plain_set_update_loop _]
  show wpAny _ A.in1 (pyNext (.ref I) >>= _) _ _ s
  refine wpAny_bind (W.item i s _ _ lt st λu s' hP st' mv=>?_)
  obtain⟨is,sc⟩:=hv i u hP
  have so':s'.heap.SetOf (cu prog w) S (λq=>hk (cY v i) q) (cY v i).length:=by
   obtain⟨o,es,ep,tb,ho,more⟩:=so
   exact⟨o,es,ep,tb,mv.heap S _ sw ho,more⟩
  show wpAny _ A.in1 (holding [u] (setAdd S u) >>= _) _ _ s'
  refine wpAny_bind (wpAny_holding ?_)
  unfold setAdd
  refine wpAny_holding (wpAny_bind ((cu prog w).pyHash (k:=v i) is ?_))
  have room:(cY v i).length+1<scanBound:=by have:=Jp v i;omega
  refine wpAny_setAddHashed_of (knd:=cu prog w) (s:={ s' with toks:=s'.toks+1 }) is sc so' room λh' sb YZ=>?_
  have Y0:h'.SetOf (cu prog w) S (λq=>hk (cY v (i+1)) q) (cY v (i+1)).length:=
   Jo YZ (λq=>(YS _ _ _).symm) (YT _ _).symm
  refine wpAny_pure ⟨plainId_quiet PyProof.Rows.F.plain_set_update_loop _,ih (i+1) _ (by omega) lt (W.frame _ s' _ _ st' (Nat.le_succ _) λb hb o e=>?_) Y0 λs'' mv' Y4=>?_⟩
  . rw[sb.2 b (λz:b=S=>sf (by rw[<-z];exact hb))];exact e
  . refine fin s'' (Moved.trans W.gtrans ((mv.mono up).then_heap (Nat.le_succ _) λb o hb e=>?_) mv') Y4
    rw[sb.2 b (λz:b=S=>hb (by rw[z];exact List.mem_cons_self))];exact e
end
theorem Y5:LawfulBEq Key where
 eq_of_beq:=by
  intro a b h
  cases a <;> cases b
  . exact congrArg Sum.inl (eq_of_beq (α:=Int) h)
  . cases h
  . cases h
  . exact congrArg Sum.inr (eq_of_beq (α:=Str) h)
 rfl:=by
  intro a
  cases a
  . exact BEq.rfl (α:=Int)
  . exact BEq.rfl (α:=Str)
theorem Y6 {prog:Program}{w:World}{A:Around}{E:Value->Shared->Prop}{s:Shared}{l:Addr}{its:Array Value}{v:Nat->Key}{Q:Value->Shared->Prop}(ah:A.handled=none)(il:s.heap.IsList l its)
 (hv:∀(i:Nat) (u:Value),its[i]? =some u->(cu prog w).is (v i) u=true/\u.scannable=true) (bd:its.size+1<scanBound)
 (q:∀(h':Heap) (tk:Nat),h'.SetOf (cu prog w) s.heap.objs.size (λk=>hk (cY v its.size) k) (cY v its.size).length->(∀b o,b<s.heap.objs.size->s.heap.get? b=some o->h'.get? b=some o)->Q (.ref s.heap.objs.size) { s with heap:=h',toks:=tk }):
 wpAny (model prog w) A (call (.type "set") [.ref l]) Q E s:=by
 obtain⟨c,tl,mro⟩:=PySem.F.called_set.mro
 have made:=PySem.F.called_set.made
 have sub:=PySem.F.called_set.sub
 refine wpAny_call (codeAny_of_tree ?_)
 show wpAny _ _ (callAny (.type "set") _) _ _ _
 refine wpAny_pure ⟨Code.quiet_builtin _ (by decide +kernel),codeAny_builtin PySem.F.entry_type_call ?_⟩
 rw[Around.under_plain (weight_type_call_type "set" [.ref l] []) rfl]
 have n1:=PySem.F.called_set.notType
 have n2:=PySem.F.called_set.canCreate
 have ct:=PySem.F.typeCall_set_1 (.ref l)
 repeat (any_goals (first|assumption|wp_step))
 refine codeAny_mono (code_set_new_1 (.ref l) (E:=E) (Q₁:=λob s1=>∃ld:Bool,ob=.ref s.heap.objs.size/\s1={ s with heap:=s.heap.push { cls:=.type "set",dict:=none,data:=.set #[] 0 (.fresh 0 0 ld) } }) λld=>⟨ld,rfl,rfl⟩) λr s1 hr=>?_
 cases r with
 |error e=>exact hr
 |ok fl=>
  cases fl with
  |ret ob=>
   obtain⟨ld,rfl,rfl⟩:=hr
   have gS:(s.heap.push { cls:=.type "set",dict:=none,data:=.set #[] 0 (.fresh 0 0 ld) }).get? s.heap.objs.size=some { cls:=.type "set",dict:=none,data:=.set #[] 0 (.fresh 0 0 ld) }:=Heap.get?_push_size _ rfl
   have ty:Shared.TypeIs { s with heap:=s.heap.push { cls:=.type "set",dict:=none,data:=.set #[] 0 (.fresh 0 0 ld) } } (.ref s.heap.objs.size) "set":=⟨_,gS,rfl⟩
   have li:=PySem.F.called_set.init.lookup
   have bi:=PySem.F.called_set.init.bind (.ref s.heap.objs.size)
   repeat (any_goals (first|assumption|wp_step))
   refine codeAny_mono (codeAny_call_builtin (R:=wants (λr s2=>r=.none/\∃h' tk,s2={ s with heap:=h',toks:=tk }/\h'.SetOf (cu prog w) s.heap.objs.size (λk=>hk (cY v its.size) k) (cY v its.size).length/\
    (∀b o,b<s.heap.objs.size->s.heap.get? b=some o->h'.get? b=some o)) E) PySem.F.called_set.init.plain PySem.F.entry_set_init (check_set_init_1 ty ?_)) λr2 s2 hr2=>?_
   . obtain⟨ol,hol,wR,nl,dl⟩:=il
     obtain⟨oc,od,oda,osl⟩:=ol
     have wR:oc=.type "list":=wR
     have dl:oda=.seq its nl:=dl
     subst wR
     subst dl
     have hol':(s.heap.push { cls:=.type "set",dict:=none,data:=.set #[] 0 (.fresh 0 0 ld) }).get? l=some { cls:=.type "list",dict:=od,data:=.seq its nl,slots:=osl }:=Heap.get?_push_of_some _ hol
     have Jr:=PySem.F.sub_list_set
     have sl2:=PySem.F.sub_list_frozenset
     have nd:(Value.type "list" == Value.type "dict")=false:=by decide
     have Js:(s.heap.push { cls:=.type "set",dict:=none,data:=.set #[] 0 (.fresh 0 0 ld) }).IsList l its:=⟨_,hol',rfl,nl,rfl⟩
     unfold Builtin.«set.__init__» noKeywords Builtin.Frozenset.updateFrom
     generalize hPI:pyIter=PI
     wp_walk
     subst hPI
     refine wpAny_pyIter_list Js ?_
     refine wpAny_bind (wpAny_runValue ?_)
     have Jt:l<s.heap.objs.size:=Heap.lt_size hol
     have Y7:A.in1.in1.in1.handled=none:=by simp[ah]
     have Y8:l≠(s.heap.push { cls:=.type "set",dict:=none,data:=.set #[] 0 (.fresh 0 0 ld) }).objs.size:=by rw[Heap.size_push];exact Nat.ne_of_lt (Nat.lt_succ_of_lt Jt)
     have nin:s.heap.objs.size ∉ [(s.heap.push { cls:=.type "set",dict:=none,data:=.set #[] 0 (.fresh 0 0 ld) }).objs.size,l]:=by
      rw[Heap.size_push];simp only[List.mem_cons,List.mem_singleton,List.not_mem_nil,or_false,not_or]
      exact⟨Nat.ne_of_lt (Nat.lt_succ_self _),Nat.ne_of_gt Jt⟩
     refine YX ((Walks.list Y7 _ l Y8 its).toS) s.heap.objs.size nin v hv bd (its.size - 0) 0 _ (by omega) (Nat.zero_le _) ⟨⟨_,Heap.get?_push_size _ rfl,rfl,rfl⟩,(Js.push _)⟩ ?sA ?sB
     case sA=>
      have g2:((s.heap.push { cls:=.type "set",dict:=none,data:=.set #[] 0 (.fresh 0 0 ld) }).push { cls:=.type "list_iterator",data:=.fields #[.ref l,.int 0 0] }).get? s.heap.objs.size=some { cls:=.type "set",dict:=none,data:=.set #[] 0 (.fresh 0 0 ld) }:=Heap.get?_push_of_some _ gS
      haveI:=Y5
      refine Jo (Obj.SetObjOf.setOf (knd:=cu prog w) (setObjOf_fresh ld) g2 (by unfold scanBound;omega)) (λ_=>rfl) rfl
     case sB=>
      intro s' mv so
      obtain⟨h',g',d',tk',os'⟩:=s'
      have eg:g'=s.gens:=mv.gens
      have ed:d'=s.drawn:=mv.drawn
      have eo:os'=s.os:=mv.os
      subst eg
      subst ed
      subst eo
      show wpAny _ _ _ _ _ _
      refine wpAny_pure ?_
      show wpAny _ _ (ret Value.none) _ _ _
      refine wpAny_pure ⟨rfl,h',tk',rfl,so,λb o hb e=>?_⟩
      have b1:b≠s.heap.objs.size:=Nat.ne_of_lt hb
      have b2:b≠(s.heap.push { cls:=.type "set",dict:=none,data:=.set #[] 0 (.fresh 0 0 ld) }).objs.size:=by rw[Heap.size_push];exact Nat.ne_of_lt (Nat.lt_succ_of_lt hb)
      exact mv.heap b o (by simp only[List.mem_cons,List.mem_singleton,List.not_mem_nil,or_false,not_or];exact⟨b1,b2⟩) (Heap.get?_push_of_some _ (Heap.get?_push_of_some _ e))
   . cases r2 with
     |error e=>exact hr2
     |ok Y9=>
      cases Y9 with
      |ret r=>
       obtain⟨rfl,h',tk,rfl,so,kp⟩:=hr2
       repeat (any_goals (first|assumption|wp_step))
       exact q _ _ so kp
      |_=>exact hr2.elim
  |_=>exact hr.elim
noncomputable def p7 (P:Program) (w:World) (a:Addr) (n:Nat):HO:=.ext λh=>∃S,h.SetOf (cu P w) a S n
section
variable {X:Cx}
theorem Y_ (hc:X.calm=true):fj X (.type "set") (λxs H Q=>∃(a:Addr) (ss:List Str),xs=[.ref a]/\au X.K H a (ss.map V.str)/\ss.length<=60/\∀p,H p=none->Q (.ref p) (upd H p (p7 X.prog X.w p (cY (λi=>Sum.inr (ss.getD i "")) ss.length).length))):=by
 intro pins s σ H xs us Q I r h
 obtain⟨a,ss,rfl,hq,tQ,q⟩:=h
 obtain⟨u,rfl,ru⟩:=vals1 r
 cases ru
 obtain⟨its,rv,pl,hz⟩:=I.list hq
 have hl:its.length=ss.length:=by rw[<-rv.length,List.length_map]
 have hsz:its.toArray.size=ss.length:=by rw[List.size_toArray];exact hl
 refine Y6 (v:=λi=>Sum.inr (ss.getD i "")) (I.ok.hd hc) pl.isList (λi u hu=>?_) (by rw[hsz];unfold scanBound;omega) λh' tk so kp=>?_
 . have hi:i<ss.length:=by
    have:=(Array.getElem?_eq_some_iff.mp hu).1
    rw[hsz] at this;exact this
   have h1:(ss.map V.str)[i]? =some (V.str (ss.getD i "")):=by
    rw[List.getElem?_map,List.getD_eq_getElem?_getD,List.getElem?_eq_getElem hi];rfl
   obtain⟨u',e1,t,e2⟩:=rv.get h1
   have:u=u':=by
    have hu':its.toArray[i]? =some u:=hu
    rw[List.getElem?_toArray,e1] at hu'
    exact(Option.some.inj hu').symm
   subst this
   subst e2
   exact⟨Fj _ t,rfl⟩
 . rw[hsz] at so
   obtain⟨o,es,ep,t,ho,more⟩:=so
   refine⟨.ref s.heap.objs.size,_,I.laid (h':=h') (t':=tk) (λb u e=>kp b u (Heap.lt_size e) e) (Nat.le_refl _) ?_,rfl,q _ (I.hok.fresh (Nat.le_refl _))⟩
   exact⟨⟨_,o,es,ep,t,ho,more⟩,⟨o,ho⟩,λh1 h2 ⟨S,o',es',ep',t',ho',more'⟩ k=>⟨S,o',es',ep',t',k _ ho',more'⟩⟩
theorem Za:fj X (.builtin "len") (λxs H Q=>∃a n,xs=[.ref a]/\H a=some (p7 X.prog X.w a n)/\Q (.int n) H):=by
 intro pins s σ H xs us Q I r h
 obtain⟨a,n,rfl,ha,q⟩:=h
 obtain⟨u,rfl,ru⟩:=vals1 r
 cases ru
 obtain⟨S,o,es,ep,t,ho,hex,hd,hel,hmem,hb,hf,hn⟩:=(I.hok a _ ha).1
 refine call_len_set ho hex hd hf (by unfold scanBound at hb;omega) ⟨.int n,H,I.tok _,⟨_,by rw[hn]⟩,q⟩
end
end L2
namespace L2
open PySem PySem.StrLaws PySem.Builtin PySem.Builtin.Str
end L2
namespace L2
open PySem PySem.NumText
end L2
namespace L2
open PySem
end L2
namespace L2
open PySem PySem.Builtin PySem.Builtin.Str
end L2
namespace L2
open PySem PySem.Spec PyProof.Rows
section
variable {X:Cx}
end
end L2
namespace L2
open PySem PyProof.Rows
open PySem.Builtin PySem.Builtin.Str PySem.Builtin.Int
theorem Ju:∀{ss:List Str}{its:List Value},Vals (ss.map V.str) its->∃l:List (Str × Tok),strValues l=its/\l.map (·.1)=ss
 |[],[],.nil=>⟨[],rfl,rfl⟩
 |s::ss,_::_,.cons r t=>by
  obtain⟨k,rfl⟩:=r
  obtain⟨l,rfl,rfl⟩:=Ju t
  exact⟨(s,k)::l,rfl,rfl⟩
section
variable {X:Cx}
theorem Zb:vO X "str.join" (λx vs H Q=>∃z a ss,x=.str z/\vs=[.ref a]/\au X.K H a (ss.map V.str)/\JoinOk z ss=true/\Q (.str (Txt.join z ss)) H):=by
 intro pins s σ H x vs v us Q I rx rv h
 obtain⟨z,a,ss,rfl,rfl,hq,hok,q⟩:=h
 obtain⟨t,rfl⟩:=rx
 obtain⟨u1,rfl,r1⟩:=vals1 rv
 cases r1
 obtain⟨its,r',pl,hz⟩:=I.list hq
 obtain⟨l,rfl,rfl⟩:=Ju r'
 exact SC.join pl.isList rfl hok λt' k=>⟨.str _,H,I.tok _,⟨_,rfl⟩,q⟩
end
end L2
namespace Pb
open PySem L2
theorem boot_isinstance:bootBuiltins "isinstance"=some (.builtin "isinstance"):=by decide +kernel
theorem boot_sorted:bootBuiltins "sorted"=some (.builtin "sorted"):=by decide +kernel
theorem boot_all:bootBuiltins "all"=some (.builtin "all"):=by decide +kernel
theorem boot_int:bootBuiltins "int"=some (.type "int"):=by decide +kernel
theorem boot_bool:bootBuiltins "bool"=some (.type "bool"):=by decide +kernel
theorem boot_str:bootBuiltins "str"=some (.type "str"):=by decide +kernel
theorem boot_list:bootBuiltins "list"=some (.type "list"):=by decide +kernel
theorem boot_tuple:bootBuiltins "tuple"=some (.type "tuple"):=by decide +kernel
theorem boot_set:bootBuiltins "set"=some (.type "set"):=by decide +kernel
theorem boot_dict:bootBuiltins "dict"=some (.type "dict"):=by decide +kernel
structure Tb (mg:Str->Option Value):Prop where
 dw:mg "len"=none
 bT:mg "isinstance"=none
 wU:mg "sorted"=none
 p8:mg "all"=none
 qd:mg "range"=none
 Jv:mg "enumerate"=none
 Jw:mg "zip"=none
 tR:mg "int"=none
 tU:mg "bool"=none
 nY:mg "str"=none
 fZ:mg "list"=none
 iJ:mg "tuple"=none
 gM:mg "dict"=none
 Zc:mg "set"=none
 Zd:mg "reversed"=none
structure Dn (K:W.Frag) (mg:Str->Option Value) (x:Str) (ps:List Str) (st:Stmt) (f:Addr) (fd:FuncData):Prop where
 F:je K x x st f fd
 b:Binds K fd ps []
 m:mg x=some (.ref f)
noncomputable def iK (K:W.Frag) (H:Hp) (a:Addr) (ns:List Int):Prop:=
 (∃o,H a=some (.cJ o (.lst (ns.map V.int))))\/
   ∃(o:Obj) (its:Array Value) (n:Nat),K.lookup a=some o/\o.cls=.type "list"/\o.dict=none/\o.data=.seq its n/\its.size<=sizeLine/\Vals (ns.map V.int) its.toList
theorem iK.sq {K:W.Frag}{H:Hp}{a:Addr}{ns:List Int}(h:iK K H a ns):au K H a (ns.map V.int):=by
 rcases h with⟨o,h⟩|h
 . exact .inl (.inr ⟨o,h⟩)
 . exact .inr h
noncomputable def SB (b:Addr) (H H':Hp):Prop:=∀c o,c≠b->H c=some o->H' c=some o
theorem SB.refl (b:Addr)(H:Hp):SB b H H:=λ_ _ _ h=>h
theorem SB.trans {b:Addr}{H H1 H2:Hp}(x:SB b H H1)(y:SB b H1 H2):SB b H H2:=λc o n h=>y c o n (x c o n h)
theorem SB.of {b:Addr}{H H':Hp}(s:Same H H'):SB b H H':=λc o _ h=>s c o h
theorem SB.wr {b:Addr}{H:Hp}{o:HO}:SB b H (upd H b o):=λc u n h=>by rw[aB n];exact h
theorem SB.new {b p:Addr}{H:Hp}{o:HO}(h:H p=none):SB b H (upd H p o):=λc u n q=>by rw[aB (aW q h)];exact q
structure G0 (K:W.Frag) (H:Hp) (a b:Addr) (ns:List Int) (n:Int):Prop where
 mH:iK K H a ns
 len:ns.length<=63
 at_:H b=some (.lst [.int n])
 pos:0<=n
theorem SB.mH {K:W.Frag}{b:Addr}{H H':Hp}{a:Addr}{ns:List Int}{n:Int}(x:SB b H H')(hb:H b=some (.lst [.int n]))(h:iK K H a ns):iK K H' a ns:=by
 rcases h with⟨o,h⟩|h
 . exact .inl ⟨o,x a _ (iV h hb (by intro z;cases z)) h⟩
 . exact .inr h
theorem SB.tu {b:Addr}{H H':Hp}{n:Int}(x:SB b H H')(hb:H b=some (.lst [.int n])):Tu H H':=λc xs h=>x c _ (iV h hb (by intro z;cases z)) h
theorem G0.go {K:W.Frag}{H H':Hp}{a b:Addr}{ns:List Int}{n n':Int}(g:G0 K H a b ns n)(x:SB b H H')(h:H' b=some (.lst [.int n']))(hn:n<=n'):G0 K H' a b ns n':=
 ⟨x.mH g.at_ g.mH,g.len,h,by have:=g.pos;omega⟩
theorem Same.new {H:Hp}{p:Addr}{o:HO}(h:H p=none):Same H (upd H p o):=λc u q=>by rw[aB (aW q h)];exact q
theorem int_at {ns:List Int}{z:Int}(h0:0<=z)(h1:z<ns.length):dM (ns.map V.int) z=some (.int (ns.getD z.toNat 0)):=by
 obtain⟨j,rfl⟩:∃j:Nat,z=(j:Int):=⟨z.toNat,by omega⟩
 rw[Int.toNat_natCast]
 exact lY (by rw[List.getElem?_map,List.getD_eq_getElem?_getD,List.getElem?_eq_getElem (by omega)];rfl)
theorem mJ {A B:TS}{D:Ends}{σ:L2.St}{H:Hp}(Pv:L2.St->Hp->Prop)(hB:∀σ' H',Pv σ' H'->B D σ' H')(hA:(∀σ' H',Pv σ' H'->B D σ' H')->A { D with nx:=B D } σ H):FP A B D σ H:=hA hB
theorem new1 {H:Hp}{p:Addr}(hp:H p=none)(o:HO):∃H',upd H p o=H'/\Same H H'/\H' p=some o:=⟨_,rfl,Same.new hp,aK⟩
noncomputable def jX (K:W.Frag):Sp:=λvs H Q _=>∃a b ns n,vs=[.ref a,.ref b]/\G0 K H a b ns n/\n<=1000000000000/\
 ∀(r:Int) (H':Hp),0<=r->r<1999999973->SB b H H'->H' b=some (.lst [.int (n+1)])->Q (.int r) H'
noncomputable def Jx (K:W.Frag):Sp:=λvs H Q _=>∃a b ns n,vs=[.ref a,.ref b]/\G0 K H a b ns n/\n<=1000000000000/\
 ∀(v:V) (k:Kd) (H':Hp),SB b H H'->H' b=some (.lst [.int (n+1)])->KA H' v k->iH k->Q v H'
noncomputable def wV (K:W.Frag):Sp:=λvs H Q _=>∃a b ns n,vs=[.ref a,.ref b]/\G0 K H a b ns n/\n<=1000000000000/\
 ∀(z:Int) (H':Hp),SB b H H'->H' b=some (.lst [.int (n+1)])->Q (.int z) H'
noncomputable def wW (K:W.Frag):Sp:=λvs H Q _=>∃a b ns n,vs=[.ref a,.ref b]/\G0 K H a b ns n/\n<=1000000000000/\
 ∀(z:Str) (H':Hp),SB b H H'->H' b=some (.lst [.int (n+1)])->Q (.str z) H'
variable {P:Program}{w:World}{K:W.Frag}{mg:Str->Option Value}{base:Heap}
theorem Jy:bJ ["_law_script","_law_at","_law_cell","_law_m"] ["_law_script","_law_at"] (aG (top 55)):=bN
theorem Ze (T:Tb mg)(bF:Dn K mg "_law_next" ["_law_script","_law_at"] (top 55) eN eO):aC P w K mg base aH (1) eN eO ["_law_script","_law_at"] (jX K):=by
 refine bF.F.ok Jy (λvs H Q E h=>?_) (λcdv A outer s H vs Q E hr h=>?_)
 . obtain⟨a,b,ns,n,rfl,_⟩:=h
   rfl
 obtain⟨a,b,ns,n,rfl,g,hn,q⟩:=h
 have nd:=Jy.nd
 refine⟨_,(ao (rD (aQ jq (bB fX (pv 1) aF (λ_ _=>rfl)) aF) (Uy (pv 1) aF set_list))
  (ao (bI (i:=2) nd rfl (Or.inl rfl) (ig (bx rM (aR eE (by rfl) T.dw PySem.boot_len (aj (pv 0) ak)) aF (aX _)) (bB fX (pv 0) (aQ cM (bB fX (pv 1) aF (λ_ _=>rfl)) (aR eE (by rfl) T.dw PySem.boot_len (aj (pv 0) ak))) (λ_ _=>rfl)) aF))
  (ao (bI (i:=3) nd rfl (Or.inl rfl) (aQ cM (aQ jc (aQ jq (aQ jq (aQ cM (pv 2) aF) (aQ jc (aQ jc (bB fX (pv 1) aF (λ_ _=>rfl)) (bB fX (pv 1) aF (λ_ _=>rfl))) aF)) aF) aF) aF))
  (aJ (aU (aQ cM (aQ jc (pv 3) (pv 3)) aF)))))),?_⟩
 have hb:=g.at_
 have hp:=g.pos
 have hS:au K (upd H b (.lst [.int (n+1)])) a (ns.map V.int):=(SB.wr.mH hb g.mH).sq
 have hb':upd H b (.lst [.int (n+1)]) b=some (.lst [.int (n+1)]):=aK
 refine⟨_,rfl,b,_,_,_,rfl,rfl,au.of hb,rfl,_,_,rfl,rfl,_,rfl,b,_,_,0,rfl,rfl,hb,rfl,?_⟩
 dsimp only[cB]
 refine mJ (A:=jm _ _) (λσ' H'=>H'=upd H b (.lst [.int (n+1)])/\∃c:Int,σ'=[some (.ref a),some (.ref b),some (.int c),none]) ?_ (λhB=>?_)
 rotate_left
 . refine⟨_,rfl,a,_,rfl,.inl hS,_,_,rfl,rfl,_,rfl,?_⟩
   have hl:(ns.map V.int).length=ns.length:=List.length_map _
   refine dH (λc=>?_) (λc=>?_)
   . have c':(0:Int)<((ns.map V.int).length:Nat):=of_decide_eq_true c
     rw[hl] at c'
     have i0:=Int.emod_nonneg (n+1) (show(ns.length:Int)≠0 by omega)
     have i1:=Int.emod_lt_of_pos (n+1) c'
     refine⟨_,rfl,_,rfl,b,_,_,_,rfl,rfl,au.of hb',rfl,_,rfl,a,_,rfl,.inl hS,_,_,rfl,rfl,by rw[hl];exact c',a,_,_,_,rfl,rfl,hS,by rw[hl];exact int_at i0 i1,?_⟩
     exact hB _ _ ⟨rfl,_,rfl⟩
   . exact hB _ _ ⟨rfl,_,rfl⟩
 rintro _ H2 ⟨rfl,c,rfl⟩
 refine⟨_,rfl,_,_,rfl,rfl,(by show(0:Int)<_;decide),_,rfl,b,_,_,_,rfl,rfl,au.of hb',rfl,_,rfl,b,_,_,_,rfl,rfl,au.of hb',rfl,_,_,rfl,rfl,.inl ⟨by omega,by omega⟩,_,_,rfl,rfl,.inr ⟨by decide,by decide⟩,
  _,_,rfl,rfl,_,_,rfl,rfl,_,_,rfl,rfl,.inr ⟨by decide,by decide⟩,_,_,rfl,rfl,(by show(0:Int)<_;decide),?_⟩
 refine⟨_,rfl,_,rfl,_,_,rfl,rfl,.inl ⟨?_,?_⟩,_,_,rfl,rfl,(by show(0:Int)<_;decide),q _ _ (Int.emod_nonneg _ (by decide)) (Int.emod_lt_of_pos _ (by decide)) SB.wr hb'⟩
 . exact Int.lt_of_lt_of_le (by decide) (Int.emod_nonneg _ (by decide))
 . exact Int.lt_trans (Int.emod_lt_of_pos _ (by decide)) (by decide)
theorem Jz:bJ ["_law_script","_law_at"] ["_law_script","_law_at"] (aG (top 59)):=bN
theorem Zf (T:Tb mg)(jY:Dn K mg "_law_plain" ["_law_script","_law_at"] (top 59) wX wY)(bF:Dn K mg "_law_next" ["_law_script","_law_at"] (top 55) eN eO)(dX:aC P w K mg base aH (1) eN eO ["_law_script","_law_at"] (jX K)):aC P w K mg base aH (2) wX wY ["_law_script","_law_at"] (Jx K):=by
 refine jY.F.ok Jz (λvs H Q E h=>?_) (λcdv A outer s H vs Q E hr h=>?_)
 . obtain⟨a,b,ns,n,rfl,_⟩:=h
   rfl
 obtain⟨a,b,ns,n,rfl,g,hn,q⟩:=h
 have nd:=Jz.nd
 refine⟨_,(aJ (aU (bB fX (fC (aj (dU (aj bV ak)) (aj (dU (aj bV ak)) ak))) (aQ cM (aY dX (hr.mono (by omega)) rfl bF.m bF.F.kp bF.b .nil aO (aj (pv 0) (aj (pv 1) ak))) aF) (λ_ _=>rfl)))),?_⟩
 refine⟨iT,λp1 hp1=>⟨iT,λp2 hp2=>⟨gY,λp3 hp3=>?_⟩⟩⟩
 obtain⟨H1,e1,s1,f1⟩:=new1 hp1 (.tup [.str "number"])
 rw[e1] at hp2 hp3 ⊢
 obtain⟨H2,e2,s2,f2⟩:=new1 hp2 (.tup [.str "word"])
 rw[e2] at hp3 ⊢
 obtain⟨H3,e3,s3,f3⟩:=new1 hp3 (.lst [.ref p1,.ref p2])
 rw[e3]
 have t3:=s1.trans (s2.trans s3)
 refine⟨_,rfl,_,rfl,a,b,ns,n,rfl,g.go (SB.of t3) (t3 _ _ g.at_) (Int.le_refl _),hn,λr H4 r0 r1 s4 h4=>?_⟩
 have Zg:p3≠b:=λz=>by rw[z,s2 _ _ (s1 _ _ g.at_)] at hp3;cases hp3
 have f4:=s4 _ _ Zg f3
 have tu:=s4.tu (t3 _ _ g.at_)
 have sb:SB b H H4:=(SB.of t3).trans s4
 have h01:r % 2=0\/r % 2=1:=by omega
 rcases h01 with e|e
 . refine⟨_,_,rfl,rfl,(by show(0:Int)<_;decide),p3,_,_,.ref p1,rfl,rfl,au.of f4,by show dM [V.ref p1,V.ref p2] (r % 2)=_;rw[e];rfl,q _ .num _ sb h4 (by unfold KA;exact⟨p1,rfl,tu _ _ (s3 _ _ (s2 _ _ f1))⟩) trivial⟩
 . refine⟨_,_,rfl,rfl,(by show(0:Int)<_;decide),p3,_,_,.ref p2,rfl,rfl,au.of f4,by show dM [V.ref p1,V.ref p2] (r % 2)=_;rw[e];rfl,q _ .dI _ sb h4 (by unfold KA;exact⟨p2,rfl,tu _ _ (s3 _ _ f2)⟩) trivial⟩
theorem Zh (n:Nat)(h:n<=1000):Builtin.Str.tooLong n=false:=by
 have:n<=sizeLine:=Nat.le_of_lt (cX h)
 unfold Builtin.Str.tooLong
 exact decide_eq_false (by omega)
theorem Zi {sep:Str}{ss:List Str}(h1:ss.length<=1000)(h2:∀x∈ss,x.length<=100)(h3:sep.length<=100):JoinOk sep ss=true:=by
 unfold JoinOk
 rw[StrLaws.joinTotal]
 have hs:∀(l:List Str),(∀x∈l,x.length<=100)->(l.map (·.length)).sum<=100 * l.length:=by
  intro l
  induction l with
  |nil=>intro _;exact Nat.le_refl _
  |cons x l ih=>
   intro h
   have a:=h x List.mem_cons_self
   have b:=ih λy hy=>h y (List.mem_cons_of_mem _ hy)
   show x.length+(l.map (·.length)).sum<=100 * (l.length+1)
   omega
 have a:=hs ss h2
 have b:ss.length * sep.length<=1000 * 100:=Nat.mul_le_mul h1 h3
 have c:(ss.map (·.length)).sum+ss.length * sep.length<=200000:=by omega
 have d:Builtin.Str.tooLong ((ss.map (·.length)).sum+ss.length * sep.length)=false:=by
  unfold Builtin.Str.tooLong
  exact decide_eq_false (Nat.not_lt.mpr (Nat.le_trans c (by decide)))
 rw[d];rfl
theorem wZ {i m:Nat}{te:TE}{σ:L2.St}{H:Hp}{Q:VK}(Pv:Nat->List V->Hp->Prop)(hi:σ[i]? =some (some (.int m)))(hm:m<=1000)(h0:Pv 0 [] H)(hl:∀j ys H',Pv j ys H'->ys.length=j)
 (hs:∀(j:Nat) ys H',j<m->Pv j ys H'->∀R:V->Hp->Prop,(∀y H2,Pv (j+1) (ys++[y]) H2->R y H2)->te (some (.int j)::σ) H' R) (hd:∀ys H',Pv m ys H'->∀p,H' p=none->Q (.ref p) (upd H' p (.lst ys))):
 sJ 1 (Ga (bY (aV i) fu)) (cB 0) dW te σ H Q:=by
 refine⟨_,hi,_,rfl,by omega,by omega,λj k ys H'=>k=m - j/\j<=m/\Pv j ys H',⟨m,by omega,Nat.zero_le _,h0⟩,?_⟩
 rintro j k ys H' ⟨rfl,hj,hp⟩
 have em:Int.toNat (m:Int)=m:=by omega
 by_cases hlt:j<m
 . refine .inr ⟨by show j<Int.toNat (m:Int);omega,by rw[hl _ _ _ hp];exact cX (by omega),λx H2 y=>?_⟩
   obtain⟨rfl,rfl⟩:=y
   refine⟨rfl,yes (bW ?_)⟩
   rw[Int.zero_add]
   exact hs j ys H2 hlt hp _ λy H3 h=>⟨m - (j+1),by omega,rfl,by omega,h⟩
 . have ej:j=m:=by omega
   subst ej
   exact .inl ⟨by show Int.toNat (j:Int)<=j;omega,hd ys H' hp⟩
theorem JB:bJ ["_law_script","_law_at","_law_m","_law_cell"] ["_law_script","_law_at"] (aG (top 56)):=bN
theorem Zj (T:Tb mg)(gj:Dn K mg "_law_number" ["_law_script","_law_at"] (top 56) qe qg)(bF:Dn K mg "_law_next" ["_law_script","_law_at"] (top 55) eN eO)(dX:aC P w K mg base aH (1) eN eO ["_law_script","_law_at"] (jX K)):aC P w K mg base aH (2) qe qg ["_law_script","_law_at"] (wV K):=by
 refine gj.F.ok JB (λvs H Q E h=>?_) (λcdv A outer s H vs Q E hr h=>?_)
 . obtain⟨a,b,ns,n,rfl,_⟩:=h
   rfl
 obtain⟨a,b,ns,n,rfl,g,hn,q⟩:=h
 have nd:=JB.nd
 refine⟨_,(ao (bI (i:=2) nd rfl (Or.inl rfl) (aY dX (hr.mono (by omega)) rfl bF.m bF.F.kp bF.b .nil aO (aj (pv 0) (aj (pv 1) ak))))
  (ao (bI (i:=3) nd rfl (Or.inl rfl) (ig (bx rM (aR eE (by rfl) T.dw PySem.boot_len (aj (pv 0) ak)) aF (aX _)) (bB fX (pv 0) (aQ cM (bB fX (pv 1) aF (λ_ _=>rfl)) (aR eE (by rfl) T.dw PySem.boot_len (aj (pv 0) ak))) (λ_ _=>rfl)) aF))
  (ao (bh (bx bK (aQ cM (pv 2) aF) aF (aX _)) (aJ (aU (aQ vA (aQ cM (aQ jr (pv 2) aF) aF) aF))) bf)
  (aJ (aU (aQ vA (aQ cM (aQ jq (aQ cM (pv 3) (aQ rK aF aF)) (aQ jc (pv 2) (aQ rK aF aF))) (aQ jc aF (aQ rK aF aF))) (aQ rK aF aF))))))),?_⟩
 refine⟨_,rfl,_,rfl,a,b,ns,n,rfl,g,hn,λr H1 r0 r1 s1 h1=>?_⟩
 have g1:=g.go s1 h1 (by omega)
 have hS:=g1.mH.sq
 have hp:=g.pos
 dsimp only[cB]
 refine mJ (A:=jm _ _) (λσ' H'=>H'=H1/\∃c:Int,σ'=[some (.ref a),some (.ref b),some (.int r),some (.int c)]) ?_ (λhB=>?_)
 rotate_left
 . refine⟨_,rfl,a,_,rfl,.inl hS,_,_,rfl,rfl,_,rfl,?_⟩
   have hl:(ns.map V.int).length=ns.length:=List.length_map _
   refine dH (λc=>?_) (λc=>?_)
   . have c':(0:Int)<((ns.map V.int).length:Nat):=of_decide_eq_true c
     rw[hl] at c'
     have i0:=Int.emod_nonneg (n+1) (show(ns.length:Int)≠0 by omega)
     have i1:=Int.emod_lt_of_pos (n+1) c'
     refine⟨_,rfl,_,rfl,b,_,_,_,rfl,rfl,au.of h1,rfl,_,rfl,a,_,rfl,.inl hS,_,_,rfl,rfl,by rw[hl];exact c',a,_,_,_,rfl,rfl,hS,by rw[hl];exact int_at i0 i1,?_⟩
     exact hB _ _ ⟨rfl,_,rfl⟩
   . exact hB _ _ ⟨rfl,_,rfl⟩
 rintro _ H2 ⟨rfl,c,rfl⟩
 have pw:vp 10 40:=⟨by decide,by decide,by decide⟩
 have Zk:vp 10 29:=⟨by decide,by decide,by decide⟩
 refine⟨_,rfl,_,_,rfl,rfl,(by show(0:Int)<_;decide),rfl,_,rfl,dH (λc2=>?_) (λc2=>?_)⟩
 . exact⟨_,rfl,_,_,rfl,rfl,⟨by decide,by decide⟩,_,_,rfl,rfl,(by show(0:Int)<_;decide),_,_,rfl,rfl,q _ _ s1 h1⟩
 . exact⟨_,rfl,_,_,rfl,rfl,pw,_,_,rfl,rfl,(by show(0:Int)<_;decide),_,rfl,_,_,rfl,rfl,Zk,_,_,rfl,rfl,.inl ⟨by omega,by omega⟩,_,_,rfl,rfl,_,_,rfl,rfl,pw,_,_,rfl,rfl,.inl ⟨by decide,by decide⟩,_,_,rfl,rfl,(by show(0:Int)<_;decide),_,_,rfl,rfl,pw,_,_,rfl,rfl,q _ _ s1 h1⟩
noncomputable abbrev sgn:Str:=(" !#$&'()*+,-./0123456789:;<=>?@ABCDEFGHIJKLMNOPQRSTUVWXYZ":Str)++("[\\]^_`abcdefghijklmnopqrstuvwxyz{|}~":Str)
theorem nZ:sgn.length=93:=by decide +kernel
theorem Zm {z:Int}(h0:0<=z)(h1:z<93):∃c,dM sgn.cps.toList z=some c:=by
 have hl:sgn.cps.toList.length=93:=by
  have:=nZ
  rw[Array.length_toList];exact this
 unfold dM jt
 rw[hl,if_pos h0,if_pos (show z<((93:Nat):Int) by omega)]
 exact⟨_,List.getElem?_eq_getElem (by omega)⟩
theorem JC:bJ ["_law_script","_law_at","_law_signs","_law_m","_law_many"] ["_law_script","_law_at"] (aG (top 57)):=bN
theorem Zn (T:Tb mg)(gk:Dn K mg "_law_word" ["_law_script","_law_at"] (top 57) qj qm)(bF:Dn K mg "_law_next" ["_law_script","_law_at"] (top 55) eN eO)(dX:aC P w K mg base aH (1) eN eO ["_law_script","_law_at"] (jX K)):aC P w K mg base aH (2) qj qm ["_law_script","_law_at"] (wW K):=by
 refine gk.F.ok JC (λvs H Q E h=>?_) (λcdv A outer s H vs Q E hr h=>?_)
 . obtain⟨a,b,ns,n,rfl,_⟩:=h
   rfl
 obtain⟨a,b,ns,n,rfl,g,hn,q⟩:=h
 have nd:=JC.nd
 refine⟨_,(ao (bI (i:=2) nd rfl (Or.inr rfl) bV)
  (ao (bI (i:=2) nd rfl (Or.inr rfl) (aQ vC (pv 2) bV))
  (ao (bI (i:=3) nd rfl (Or.inr rfl) (aY dX (hr.mono (by omega)) rfl bF.m bF.F.kp bF.b .nil aO (aj (pv 0) (aj (pv 1) ak))))
  (ao (bI (i:=4) nd rfl (Or.inl rfl) (ig (bx bK (aQ cM (aQ jr (pv 3) aF) aF) aF (aX _)) aF (aQ cM (pv 3) aF)))
  (aJ (aU (rY PySem.F.plainAttrs_str PySem.F.slot_str_join PySem.F.type_str_join Zb bV (aj (fG (g:=(cB 0)) (tt:=dW) (te:=(bD _ (aV 3) (bD _ (bD _ (bD _ (aV 4) (tC (.int 145))) (bD _ (bD _ (aV 0) (aV 0)) (bD _ (bD _ (aV 4) (tC (.int 7))) (tC (.int 3))))) _))) (own:=["_law_k"]) rfl (cI.of (N:=["_law_script","_law_at","_law_signs","_law_m","_law_many"]) (sc:=aG (top 57)) rfl rfl rfl (by decide +kernel)) (rF rfl T.qd (aj (pv 4) ak)) (λ_ _ _ _ _=>(bQ (i:=0) (show(["_law_k","_law_script","_law_at","_law_signs","_law_m","_law_many"]:List Str).Nodup by decide +kernel) rfl (Or.inl rfl) (.inr rfl))) (λ_ _ _ _ _=>gH) (λ_ _ _ _ _=>(bB rU (pv 3) (aQ cM (aQ jq (aQ jr (pv 4) aF) (aQ jc (aQ jc (pv 0) (pv 0)) (aQ cM (aQ jr (pv 4) aF) aF))) (aR V_ (by rfl) T.dw PySem.boot_len (aj (pv 3) ak))) (λ_ _=>rfl)))) ak)))))))),?_⟩
 have hz1:sgn.length<=sizeLine:=by rw[nZ];decide
 refine⟨_,rfl,_,_,rfl,rfl,by decide +kernel,?_⟩
 refine⟨_,rfl,_,rfl,a,b,ns,n,rfl,g,hn,λr H1 r0 r1 s1 h1=>?_⟩
 dsimp only[cB]
 refine mJ (A:=jm _ _) (λσ' H'=>H'=H1/\∃m:Nat,m<=40/\σ'=[some (.ref a),some (.ref b),some (.str sgn),some (.int r),some (.int m)]) ?_ (λhB=>?_)
 rotate_left
 . refine⟨_,rfl,_,_,rfl,rfl,⟨by decide,by decide⟩,_,_,rfl,rfl,(by show(0:Int)<_;decide),rfl,_,rfl,dH (λc=>?_) (λc=>?_)⟩
   . exact hB _ _ ⟨rfl,40,Nat.le_refl _,rfl⟩
   . exact⟨_,rfl,_,_,rfl,rfl,(by show(0:Int)<_;decide),hB _ _ ⟨rfl,(r % 5).toNat,by omega,by rw[show(((r % 5).toNat:Nat):Int)=r % 5 by omega];rfl⟩⟩
 rintro _ H2 ⟨rfl,m,hm,rfl⟩
 have em:Int.toNat (m:Int)=m:=by omega
 refine⟨rfl,wZ (λj ys H'=>H'=H2/\∃ss:List Str,ys=ss.map V.str/\ss.length=j/\∀x∈ss,x.length<=1) rfl (by omega) ⟨rfl,[],rfl,rfl,λx hx=>absurd hx (by simp)⟩ (λj ys H' h=>by obtain⟨_,ss,rfl,e,_⟩:=h;rw[List.length_map];exact e) ?_ ?_⟩
 . rintro j ys H' hj ⟨rfl,ss,rfl,hsl,hs1⟩ R hR
   have i0:=Int.emod_nonneg (r / 145+(j:Int) * (j:Int) * (r / 7 % 3)) (show((sgn.length:Nat):Int)≠0 by rw[nZ];decide)
   have i1:=Int.emod_lt_of_pos (r / 145+(j:Int) * (j:Int) * (r / 7 % 3)) (show(0:Int)<((sgn.length:Nat):Int) by rw[nZ];decide)
   obtain⟨c,hc⟩:=Zm i0 (by rw[nZ] at i1 ⊢;exact i1)
   have hjj:(j:Int) * (j:Int)<=40 * 40:=Int.mul_le_mul (by omega) (by omega) (by omega) (by omega)
   have hj0:0<=(j:Int) * (j:Int):=Int.mul_nonneg (by omega) (by omega)
   refine⟨_,rfl,_,rfl,_,_,rfl,rfl,⟨by decide,by decide⟩,_,rfl,_,rfl,_,_,rfl,rfl,.inl ⟨by omega,by omega⟩,_,rfl,_,_,rfl,rfl,⟨by decide,by decide⟩,_,_,rfl,rfl,(by show(0:Int)<_;decide),_,_,rfl,rfl,.inl ⟨by omega,by omega⟩,_,_,rfl,rfl,_,rfl,_,rfl,hz1,_,_,rfl,rfl,(by show(0:Int)<((sgn.length:Nat):Int);rw[nZ];decide),_,_,c,rfl,rfl,hz1,hc,hR _ _ ⟨rfl,ss++[⟨#[c]⟩],by rw[List.map_append];rfl,by rw[List.length_append,hsl];rfl,λx hx=>?_⟩⟩
   rcases List.mem_append.mp hx with h|h
   . exact hs1 x h
   . rw[List.mem_singleton.mp h];exact Nat.le_refl _
 . rintro ys H' ⟨rfl,ss,rfl,hsl,hs1⟩ p hp
   exact⟨_,p,ss,rfl,rfl,au.of aK,Zi (by omega) (λx hx=>Nat.le_trans (hs1 x hx) (by decide)) (by decide),q _ _ (s1.trans (SB.new hp)) (by rw[aB (aW h1 hp)];exact h1)⟩
noncomputable def mK (m:Int) (k:Nat):Str:=Txt.mul (lt (m / 4 % 26)) ((k:Int)+1)
noncomputable def jD (m:Int) (k:Nat):Str:=lt ((m / 624+(k:Int) * (2 * (m / 4 % 6)+1)) % 26)
noncomputable def jZ (m:Int) (x:Str):Str:=if m % 4=1 then lt (m / 24 % 26)++x else x++lt (m / 24 % 26)
theorem JD (c:Nat):∀(n m:Nat),m<=n->PySem.Spec.ltCps (List.replicate n c) (List.replicate m c)=false
 |n,0,_=>by cases n <;> rfl
 |0,m+1,h=>absurd h (by omega)
 |n+1,m+1,h=>by
  rw[List.replicate_succ,List.replicate_succ]
  have:=JD c n m (by omega)
  simp[PySem.Spec.ltCps,this]
theorem Zo (m:Int){i j:Nat}(h:i<=j):sle (mK m i) (mK m j):=by
 unfold sle pQ
 rw[<-Jb]
 unfold mK
 rw[Jd,Jd]
 exact JD _ _ _ (by omega)
theorem Zq (m:Int){i j:Nat}(h:mK m i=mK m j):i=j:=by
 have e:=congrArg Str.length h
 unfold mK at e
 rw[IW (tG _),IW (tG _)] at e
 omega
theorem Zr {m:Int}{i j:Nat}(hm:0<=m)(hi:i<12)(hj:j<12)(h:jD m i=jD m j):i=j:=by
 have e:((m / 624+(i:Int) * (2 * (m / 4 % 6)+1)) % 26).toNat=((m / 624+(j:Int) * (2 * (m / 4 % 6)+1)) % 26).toNat:=by
  have e:=congrArg (λs:Str=>s.cps.toList) h
  have e:[97+((m / 624+(i:Int) * (2 * (m / 4 % 6)+1)) % 26).toNat]=[97+((m / 624+(j:Int) * (2 * (m / 4 % 6)+1)) % 26).toNat]:=e
  have e:=(List.cons.inj e).1
  omega
 have hs:m / 4 % 6=0\/m / 4 % 6=1\/m / 4 % 6=2\/m / 4 % 6=3\/m / 4 % 6=4\/m / 4 % 6=5:=by omega
 generalize m / 624=a at e
 rcases hs with s|s|s|s|s|s <;> rw[s] at e <;> omega
theorem JF {x y:Str}(h:x.cps.toList=y.cps.toList):x=y:=by
 obtain⟨⟨x⟩⟩:=x
 obtain⟨⟨y⟩⟩:=y
 have h:x=y:=h
 rw[h]
theorem Zt {m:Int}{x y:Str}(h:jZ m x=jZ m y):x=y:=by
 unfold jZ at h
 have e:=congrArg (λs:Str=>s.cps.toList) h
 split at e
 . simp only[I_] at e
   exact JF (List.append_cancel_left e)
 . simp only[I_] at e
   exact JF (List.append_cancel_right e)
noncomputable def JG (K:W.Frag):Sp:=λvs H Q _=>∃a b ns n,∃m:Nat,vs=[.ref a,.ref b,.int m]/\m<=12/\G0 K H a b ns n/\n<=1000000000000/\
 ∀(p:Addr) (ss:List Str) (H':Hp),SB b H H'->H' b=some (.lst [.int (n+1)])->p≠b->H' p=some (.lst (ss.map V.str))->ss.length=m->ss.Nodup->ss.Pairwise sle->Q (.ref p) H'
theorem Zu {K:W.Frag}{i:Nat}{a:Addr}{xs:List V}{te:TE}{σ:L2.St}{H:Hp}{Q:VK}(Pv:Nat->List V->Hp->Prop)(hi:σ[i]? =some (some (.ref a)))(ha:au K H a xs)(hm:xs.length<=1000)(h0:Pv 0 [] H)(hl:∀j ys H',Pv j ys H'->ys.length=j/\au K H' a xs)
 (hs:∀(j:Nat) x ys H',xs[j]? =some x->Pv j ys H'->∀R:V->Hp->Prop,(∀y H2,Pv (j+1) (ys++[y]) H2->R y H2)->te (some x::σ) H' R) (hd:∀ys H',Pv xs.length ys H'->∀p,H' p=none->Q (.ref p) (upd H' p (.lst ys))):
 sJ 1 (FW K (aV i)) (cB 0) dW te σ H Q:=by
 refine⟨_,hi,a,rfl,⟨_,ha⟩,λj k ys H'=>k=xs.length - j/\j<=xs.length/\Pv j ys H',⟨xs.length,by omega,Nat.zero_le _,h0⟩,?_⟩
 rintro j k ys H' ⟨rfl,hj,hp⟩
 obtain⟨hyl,w5⟩:=hl _ _ _ hp
 by_cases hlt:j<xs.length
 . refine .inr ⟨⟨xs,xs[j],w5,List.getElem?_eq_getElem hlt⟩,by rw[hyl];exact cX (by omega),λx H2 y=>?_⟩
   obtain⟨rfl,y⟩:=y
   refine⟨rfl,yes (bW ?_)⟩
   exact hs j x ys H2 (y xs w5) hp _ λy H3 h=>⟨xs.length - (j+1),by omega,rfl,by omega,h⟩
 . have ej:j=xs.length:=by omega
   subst ej
   exact .inl ⟨⟨xs,w5,Nat.le_refl _⟩,hd ys H' hp⟩
noncomputable abbrev abc:Str:="abcdefghijklmnopqrstuvwxyz"
theorem tV (f:Nat->Str)(i:Nat):((List.range (i+1)).map f).map V.str=((List.range i).map f).map V.str++[V.str (f i)]:=by
 rw[List.range_succ,List.map_append,List.map_append];rfl
theorem JH:bJ ["_law_script","_law_at","_law_many","_law_letters","_law_m","_law_stem","_law_signs"] ["_law_script","_law_at","_law_many"] (aG (top 58)):=bN
theorem Zv (T:Tb mg)(j4:Dn K mg "_law_names" ["_law_script","_law_at","_law_many"] (top 58) w6 xg)(bF:Dn K mg "_law_next" ["_law_script","_law_at"] (top 55) eN eO)(dX:aC P w K mg base aH (1) eN eO ["_law_script","_law_at"] (jX K)):aC P w K mg base aH (2) w6 xg ["_law_script","_law_at","_law_many"] (JG K):=by
 refine j4.F.ok JH (λvs H Q E h=>?_) (λcdv A outer s H vs Q E hr h=>?_)
 . obtain⟨a,b,ns,n,m,rfl,_⟩:=h
   rfl
 obtain⟨a,b,ns,n,m,rfl,hm,g,hn,q⟩:=h
 have nd:=JH.nd
 refine⟨_,(ao (bI (i:=3) nd rfl (Or.inr rfl) bV)
  (ao (bI (i:=4) nd rfl (Or.inr rfl) (aY dX (hr.mono (by omega)) rfl bF.m bF.F.kp bF.b .nil aO (aj (pv 0) (aj (pv 1) ak))))
  (ao (bh (bx bK (aQ cM (pv 4) aF) aF (aX _)) (aJ (aU (fG (g:=(cB 0)) (tt:=dW) (te:=(bD _ (bD _ (aV 4) (bD _ (bD _ (aV 5) (tC (.int 4))) (tC (.int 26)))) (bD _ (aV 0) (tC (.int 1))))) (own:=["_law_k"]) rfl (cI.of (N:=["_law_script","_law_at","_law_many","_law_letters","_law_m","_law_stem","_law_signs"]) (sc:=aG (top 58)) rfl rfl rfl (by decide +kernel)) (rF rfl T.qd (aj (pv 2) ak)) (λ_ _ _ _ _=>(bQ (i:=0) (show(["_law_k","_law_script","_law_at","_law_many","_law_letters","_law_m","_law_stem","_law_signs"]:List Str).Nodup by decide +kernel) rfl (Or.inl rfl) (.inr rfl))) (λ_ _ _ _ _=>gH) (λ_ _ _ _ _=>(aQ Xn (bB rU (pv 4) (aQ cM (aQ jr (pv 5) aF) aF) (λ_ _=>rfl)) (aQ jq (pv 0) aF)))))) bf)
  (ao (bI (i:=5) nd rfl (Or.inr rfl) (bB rU (pv 3) (aQ cM (aQ jr (pv 4) aF) aF) (λ_ _=>rfl)))
  (ao (Hu (i:=6) nd rfl (Or.inl rfl) (g:=(cB 0)) (tt:=dW) (te:=(bD _ (aV 4) (bD _ (bD _ (bD _ (aV 5) (tC (.int 624))) (bD _ (aV 0) (bD (GJ K) (Gn (bY (tC (.int 1)) (bY (tC (.int 3)) (bY (tC (.int 5)) (bY (tC (.int 7)) (bY (tC (.int 9)) (bY (tC (.int 11)) fu))))))) (bD _ (bD _ (aV 5) (tC (.int 4))) (tC (.int 6)))))) (tC (.int 26))))) (own:=["_law_k"]) rfl (cI.of (N:=["_law_script","_law_at","_law_many","_law_letters","_law_m","_law_stem","_law_signs"]) (sc:=aG (top 58)) rfl rfl rfl (by decide +kernel)) (rF rfl T.qd (aj (pv 2) ak)) (λ_ _ _ _ _=>(bQ (i:=0) (show(["_law_k","_law_script","_law_at","_law_many","_law_letters","_law_m","_law_stem","_law_signs"]:List Str).Nodup by decide +kernel) rfl (Or.inl rfl) (.inr rfl))) (λ_ _ _ _ _=>gH) (λ_ _ _ _ _=>(bB rU (pv 4) (aQ cM (aQ jq (aQ jr (pv 5) aF) (aQ jc (pv 0) (bB fX (fC (aj aF (aj aF (aj aF (aj aF (aj aF (aj aF ak))))))) (aQ cM (aQ jr (pv 5) aF) aF) (λ_ _=>rfl)))) aF) (λ_ _=>rfl))))
  (aJ (aU (aR Hx (by rfl) T.wU boot_sorted (aj (fG (g:=(cB 0)) (tt:=dW) (te:=(FJ (jd (bD nH (bD _ (aV 5) (tC (.int 4))) (tC (.int 1)))) (bD _ (aV 6) (aV 0)) (bD _ (aV 0) (aV 6)))) (own:=["_law_sign"]) rfl (cI.of (N:=["_law_script","_law_at","_law_many","_law_letters","_law_m","_law_stem","_law_signs"]) (sc:=aG (top 58)) rfl rfl rfl (by decide +kernel)) (pB (pv 6)) (λ_ _ _ _ _=>(bQ (i:=0) (show(["_law_sign","_law_script","_law_at","_law_many","_law_letters","_law_m","_law_stem","_law_signs"]:List Str).Nodup by decide +kernel) rfl (Or.inl rfl) (.inr rfl))) (λ_ _ _ _ _=>gH) (λ_ _ _ _ _=>(ig (bx bK (aQ cM (pv 5) aF) aF (aX _)) (aQ vC (pv 6) (pv 0)) (aQ vC (pv 0) (pv 6))))) ak))))))))),?_⟩
 refine⟨_,rfl,_,rfl,a,b,ns,n,rfl,g,hn,λr H1 r0 r1 s1 h1=>?_⟩
 have hz:(abc).length<=sizeLine:=by decide +kernel
 have l1:0<=r / 4 % 26/\r / 4 % 26<26:=by omega
 have l2:0<=r / 24 % 26/\r / 24 % 26<26:=by omega
 have m6:0<=r / 4 % 6/\r / 4 % 6<6:=by omega
 refine⟨_,rfl,_,_,rfl,rfl,(by show(0:Int)<_;decide),rfl,_,rfl,dH (λc=>?_) (λc=>?_)⟩
 . refine wZ (λj ys H'=>H'=H1/\ys=((List.range j).map (mK r)).map V.str) rfl (by omega) ⟨rfl,rfl⟩ (λj ys H' h=>by rw[h.2,List.length_map,List.length_map,List.length_range]) ?_ ?_
   . rintro j ys H' hj ⟨rfl,rfl⟩ R hR
     refine⟨_,rfl,_,rfl,_,_,rfl,rfl,⟨by decide,by decide⟩,_,_,rfl,rfl,(by show(0:Int)<_;decide),_,_,_,rfl,rfl,hz,wK l1.1 l1.2,_,rfl,_,_,rfl,rfl,_,_,rfl,rfl,Yn (tG _) (by omega) Zh,hR _ _ ⟨rfl,by rw[tV];rfl⟩⟩
   . rintro ys H' ⟨rfl,rfl⟩ p hp
     refine q p _ _ (s1.trans (SB.new hp)) (by rw[aB (aW h1 hp)];exact h1) (λz=>by rw[z,h1] at hp;cases hp) aK (by rw[List.length_map,List.length_range]) (Ja λi j _ _ e=>Zq r e) ?_
     rw[List.pairwise_map]
     exact List.pairwise_lt_range.imp λh=>Zo r (Nat.le_of_lt h)
 refine⟨_,rfl,_,rfl,_,_,rfl,rfl,⟨by decide,by decide⟩,_,_,rfl,rfl,(by show(0:Int)<_;decide),_,_,_,rfl,rfl,hz,wK l2.1 l2.2,?_⟩
 dsimp only[cB]
 refine mJ (A:=jm _ _) (λσ' H'=>∃p,σ'=[some (.ref a),some (.ref b),some (.int m),some (.str abc),some (.int r),some (.str (lt (r / 24 % 26))),some (.ref p)]/\SB b H H'/\H' b=some (.lst [.int (n+1)])/\H' p=some (.lst (((List.range m).map (jD r)).map V.str))) ?_ (λhB=>?_)
 rotate_left
 . refine wZ (λj ys H'=>SB b H H'/\H' b=some (.lst [.int (n+1)])/\ys=((List.range j).map (jD r)).map V.str) rfl (by omega) ⟨s1,h1,rfl⟩ (λj ys H' h=>by rw[h.2.2,List.length_map,List.length_map,List.length_range]) ?_ ?_
   . rintro j ys H' hj ⟨s2,h2,rfl⟩ R hR
     have l3:0<=(r / 624+(j:Int) * (2 * (r / 4 % 6)+1)) % 26/\(r / 624+(j:Int) * (2 * (r / 4 % 6)+1)) % 26<26:=⟨Int.emod_nonneg _ (by decide),Int.emod_lt_of_pos _ (by decide)⟩
     refine⟨_,rfl,_,rfl,_,_,rfl,rfl,⟨by decide,by decide⟩,_,rfl,O3,λp1 hp1=>⟨_,rfl,_,_,rfl,rfl,⟨by decide,by decide⟩,_,_,rfl,rfl,(by show(0:Int)<_;decide),p1,_,_,_,rfl,rfl,au.of aK,Ym m6.1 m6.2,_,_,rfl,rfl,.inl ⟨by omega,by omega⟩,_,_,rfl,rfl,_,_,rfl,rfl,(by show(0:Int)<_;decide),_,_,_,rfl,rfl,hz,wK l3.1 l3.2,hR _ _ ⟨s2.trans (SB.new hp1),by rw[aB (aW h2 hp1)];exact h2,by rw[tV];rfl⟩⟩⟩
   . rintro ys H' ⟨s2,h2,rfl⟩ p hp
     exact hB _ _ ⟨p,rfl,s2.trans (SB.new hp),by rw[aB (aW h2 hp)];exact h2,aK⟩
 rintro _ H2 ⟨p,rfl,s2,h2,hp2⟩
 have c':r % 4≠0:=λz=>c (decide_eq_true (show V.int (r % 4)=V.int 0 by rw[z]))
 dsimp only[vd,rP,bY]
 refine Zu (K:=K) (xs:=((List.range m).map (jD r)).map V.str) (λj ys H'=>H'=H2/\ys=((List.range j).map λk=>jZ r (jD r k)).map V.str) rfl (au.of hp2) (by rw[List.length_map,List.length_map,List.length_range];omega) ⟨rfl,rfl⟩ (λj ys H' h=>⟨by rw[h.2,List.length_map,List.length_map,List.length_range],by rw[h.1];exact au.of hp2⟩) ?_ ?_
 . rintro j x ys H' hx ⟨rfl,rfl⟩ R hR
   have hxx:x=.str (jD r j):=by
    rw[List.getElem?_map,List.getElem?_map] at hx
    cases e:(List.range m)[j]? with
    |none=>rw[e] at hx;cases hx
    |some k=>
     rw[e] at hx
     have:=List.getElem?_range (n:=m) (i:=j) (by have:=(List.getElem?_eq_some_iff.mp e).1;rw[List.length_range] at this;exact this)
     rw[this] at e
     cases e
     exact(Option.some.inj hx).symm
   subst hxx
   refine⟨_,rfl,_,_,rfl,rfl,(by show(0:Int)<_;decide),rfl,_,rfl,dH (λc1=>?_) (λc1=>?_)⟩
   . have e1:r % 4=1:=by
      have:=of_decide_eq_true c1
      injection this
     exact⟨_,rfl,_,rfl,_,_,rfl,rfl,gY,hR _ _ ⟨rfl,by rw[tV];unfold jZ;rw[if_pos e1]⟩⟩
   . have e1:r % 4≠1:=λz=>c1 (decide_eq_true (show V.int (r % 4)=V.int 1 by rw[z]))
     exact⟨_,rfl,_,rfl,_,_,rfl,rfl,gY,hR _ _ ⟨rfl,by rw[tV];unfold jZ;rw[if_neg e1]⟩⟩
 . rintro ys H' ⟨rfl,rfl⟩ p2 hp2'
   rw[List.length_map,List.length_map,List.length_range]
   have hlen:((List.range m).map λk=>jZ r (jD r k)).length=m:=by rw[List.length_map,List.length_range]
   have s3:=Same.new hp2' (o:=.lst (((List.range m).map λk=>jZ r (jD r k)).map V.str))
   refine⟨p2,_,rfl,au.of aK,by rw[hlen];omega,λp' ss' hp3 hperm xr=>?_⟩
   exact q p' ss' _ ((s2.trans (SB.of s3)).trans (SB.new hp3)) (by rw[aB (aW (s3 _ _ h2) hp3)];exact s3 _ _ h2) (λz=>by rw[z,s3 _ _ h2] at hp3;cases hp3) aK (hperm.length_eq.trans hlen) (hperm.nodup_iff.mpr (Ja λi j hi hj e=>Zr r0 (by omega) (by omega) (Zt e))) (wN xr)
end Pb
namespace L2
open PySem PySem.Spec PyProof.Rows
noncomputable def jE (kvs more:List (Key × V)):List (Key × V):=more.foldl (λacc kv=>putK acc kv.1 kv.2) kvs
theorem KV.puts:∀{more:List (Key × V)}{vm:List (Key × Value)},KV more vm->∀{kvs:List (Key × V)}{vs:List (Key × Value)},KV kvs vs->KV (jE kvs more) (merged vs vm)
 |_,_,.nil,_,_,r=>r
 |_,_,.cons (a:=p) (b:=q) h t,kvs,vs,r=>by
  obtain⟨h1,h2⟩:=h
  have:=KV.puts t (r.put p.1 h2)
  unfold jE merged at this ⊢
  rw[List.foldl_cons,List.foldl_cons,<-h1]
  exact this
theorem Zw (kvs:List (Key × V))(k:Key)(v:V):(putK kvs k v).length<=kvs.length+1:=by
 unfold putK
 split
 . rw[List.length_map];omega
 . rw[List.length_append];exact Nat.le_refl _
theorem JK:∀(more kvs:List (Key × V)),(jE kvs more).length<=kvs.length+more.length
 |[],kvs=>Nat.le_refl _
 |p::r,kvs=>by
  have:=JK r (putK kvs p.1 p.2)
  have h2:=Zw kvs p.1 p.2
  have e:jE kvs (p::r)=jE (putK kvs p.1 p.2) r:=rfl
  rw[e,List.length_cons];omega
section
variable {X:Cx}
noncomputable def Zx:V->List V->Hp->VK->Prop:=λx vs H Q=>∃a b kvs more,x=.ref a/\vs=[.ref b]/\a≠b/\H a=some (.dK kvs)/\H b=some (.dK more)/\kvs.length+more.length<=sizeLine/\Q .non (upd H a (.dK (jE kvs more)))
theorem Zy:vJ X "dict.update" Zx:=by
 intro pins s σ H x vs v us Q I rx rv h
 obtain⟨a,b,kvs,more,rfl,rfl,ne,hA,hB,hz,q⟩:=h
 obtain⟨u,rfl,ru⟩:=vals1 rv
 cases rx
 cases ru
 obtain⟨z,hd,wa,rel,dd⟩:=sE I.hok hA
 obtain⟨z2,hd2,wb,JL,dd2⟩:=sE I.hok hB
 refine call_meetsIn PySem.F.slot_dict_update dd.typeIs PySem.F.entry_dict_update (PySem.F.args_dict_update_2 _ _) (meets_dict_update (cu X.prog X.w) a b ne hd2) ⟨wa,wb,dd,dd2,by rw[<-rel.length,<-JL.length];exact hz,λh' mj _ hs=>?_⟩
 have he:∃q,h'.get? a=some q:=let⟨q,_,_,hq,_⟩:=mj;⟨q,hq⟩
 exact⟨.non,_,vU (t':=s.toks) I (by rw[hA];exact True.intro) hs he (G4 (Nat.le_trans (JK more kvs) hz) hd (JL.puts rel) mj),rfl,q⟩
end
section
variable {X:Cx}{N':List Str}{e:Expr}{t:TE}
structure n8 (X:Cx) (N':List Str):Prop where
 len:N'.length=X.N.length
 old:∀(i:Nat) y,N'[i]? =some y->X.N[i]? =some y\/¬qY X.env.scope y
theorem Inv.Zz {pins:List (Addr × Obj)}{σ:St}{H:Hp}{s:Shared}(r:n8 X N')(I:Inv X pins σ H s):Inv { X with N:=N' } pins σ H s:=by
 refine⟨⟨I.ok.mod,I.ok.kind,I.ok.glob,I.ok.blt,I.ok.above,I.ok.inj,I.ok.has,I.ok.cab,I.ok.hd,I.ok.frames,I.ok.stk,I.ok.qZ,I.ok.bs,I.ok.gF,I.ok.lG,I.ok.m9,I.ok.eY,I.ok.jl⟩,I.os,I.bare,I.base,?_,I.cell,I.free,I.d_,I.pin,I.hok,I.len.trans r.len.symm⟩
 obtain⟨m,h1,h2⟩:=I.loc
 refine⟨m,h1,λi x v hi hs tW=>?_⟩
 rcases r.old i x hi with h|h
 . exact h2 i x v h hs tW
 . exact absurd tW h
theorem Inv.ZC {pins:List (Addr × Obj)}{σ:St}{H:Hp}{s:Shared}(r:n8 X N')(hσ:∀(i:Nat) v,X.N[i]? ≠N'[i]? ->σ[i]? ≠some (some v))(I:Inv { X with N:=N' } pins σ H s):Inv X pins σ H s:=by
 refine⟨⟨I.ok.mod,I.ok.kind,I.ok.glob,I.ok.blt,I.ok.above,I.ok.inj,I.ok.has,I.ok.cab,I.ok.hd,I.ok.frames,I.ok.stk,I.ok.qZ,I.ok.bs,I.ok.gF,I.ok.lG,I.ok.m9,I.ok.eY,I.ok.jl⟩,I.os,I.bare,I.base,?_,I.cell,I.free,I.d_,I.pin,I.hok,I.len.trans r.len⟩
 obtain⟨m,h1,h2⟩:=I.loc
 refine⟨m,h1,λi x v hi hs tW=>?_⟩
 by_cases hn:X.N[i]? =N'[i]?
 . exact h2 i x v (by rw[<-hn];exact hi) hs tW
 . exact absurd hs (hσ i v hn)
noncomputable def ZD (N N':List Str) (t:TE):TE:=λσ H Q=>(∀(i:Nat) v,N[i]? ≠N'[i]? ->σ[i]? ≠some (some v))/\t σ H Q
theorem ZF (r:n8 X N')(h:PE { X with N:=N' } e t):PE X e (ZD X.N N' t):=by
 intro pins s σ H Q I q
 refine aL (h pins s σ H Q (I.Zz r) q.2) λv s1 ⟨x,H1,I1,r1,q1⟩=>?_
 exact⟨x,H1,I1.ZC r q.1,r1,q1⟩
theorem n8.of {N:List Str}{sc:Scope}(hN:X.N=N)(hs:X.env.scope=sc)(hl:N'.length=N.length)(hb:(List.zip N' N).all (λp=>p.1 == p.2 || ((sc.names.lookup p.1 != some .local) && (sc.names.lookup p.1 != some .cell) && (sc.names.lookup p.1 != some .free)))=true):n8 X N':=by
 subst hN
 subst hs
 refine⟨hl,λi y hy=>?_⟩
 have hi:=(List.getElem?_eq_some_iff.mp hy).1
 have hx:X.N[i]? =some (X.N[i]'(by omega)):=List.getElem?_eq_getElem _
 have hm:(y,X.N[i]'(by omega))∈List.zip N' X.N:=by
  refine List.mem_of_getElem? (i:=i) ?_
  rw[List.getElem?_zip_eq_some]
  exact⟨hy,hx⟩
 have:=List.all_eq_true.mp hb _ hm
 simp only[Bool.or_eq_true,Bool.and_eq_true,beq_iff_eq,bne_iff_ne] at this
 rcases this with h|⟨⟨h1,h2⟩,h3⟩
 . exact .inl (by rw[hx,h])
 . exact .inr λz=>z.elim h1 λz=>z.elim h2 h3
end
end L2
namespace Pb
open PySem L2
noncomputable def Fs.fL:Fs->Prop
 | .nil=>True
 | .cons _ k r=>iH k/\r.fL
theorem Fs.JM {x:Str}{k:Kd}(hk:iH k):∀{fs:Fs},fs.fL->(fs.snoc x k).fL
 | .nil,_=>⟨hk,trivial⟩
 | .cons _ _ _,h=>⟨h.1,Fs.JM hk h.2⟩
theorem iH.W:∀{k:Kd},iH k->k.W
 | .num,_=>by unfold Kd.W;trivial
 | .dI,_=>by unfold Kd.W;trivial
theorem Fs.fL.W:∀{fs:Fs},fs.fL->fs.W
 | .nil,_=>by unfold Fs.W;trivial
 | .cons _ _ _,h=>by unfold Fs.W;exact⟨h.1.W,Fs.fL.W h.2⟩
theorem Fs.xu:∀{fs:Fs}{i:Nat}{x:Str}{k:Kd},fs.fL->fs.at i=some (x,k)->iH k
 | .nil,_,_,_,_,h=>by cases h
 | .cons _ _ _,0,_,_,w,h=>by cases h;exact w.1
 | .cons _ _ r,i+1,_,_,w,h=>Fs.xu (fs:=r) (i:=i) w.2 h
noncomputable def JN (K:W.Frag):Sp:=λvs H Q _=>∃a b ns n,vs=[.ref a,.ref b,.int 0]/\G0 K H a b ns n/\n+2<=1000000000000/\
 ∀(v:V) (k:Kd) (n':Int) (H':Hp),SB b H H'->H' b=some (.lst [.int n'])->n<=n'->n'<=n+2->KA H' v k->iH k->Q v H'
noncomputable def JQ (K:W.Frag):Sp:=λvs H Q _=>∃a b ns n,∃m:Nat,vs=[.ref a,.ref b,.int m,.int 0]/\m<=8/\G0 K H a b ns n/\n+17<=1000000000000/\
 ∀(t:Addr) (xs:List V) (fs:Fs) (n':Int) (H':Hp),SB b H H'->H' b=some (.lst [.int n'])->n<=n'->n'<=n+17->H' t=some (.tup xs)->FA H' xs fs->fs.names.Nodup->fs.names.length=m->fs.fL->fs.names.Pairwise sle->Q (.ref t) H'
variable {P:Program}{w:World}{K:W.Frag}{mg:Str->Option Value}{base:Heap}
theorem JR:bJ ["_law_script","_law_at","_law_deep","_law_m"] ["_law_script","_law_at","_law_deep"] (aG (top 62)):=bN
theorem ZG (T:Tb mg)(j5:Dn K mg "_law_kind" ["_law_script","_law_at","_law_deep"] (top 62) xG xH)(bF:Dn K mg "_law_next" ["_law_script","_law_at"] (top 55) eN eO)(dX:aC P w K mg base aH (1) eN eO ["_law_script","_law_at"] (jX K))(jY:Dn K mg "_law_plain" ["_law_script","_law_at"] (top 59) wX wY)(ZJ:aC P w K mg base aH (2) wX wY ["_law_script","_law_at"] (Jx K)):aC P w K mg base aH (4) xG xH ["_law_script","_law_at","_law_deep"] (JN K):=by
 refine j5.F.ok JR (λvs H Q E h=>?_) (λcdv A outer s H vs Q E hr h=>?_)
 . obtain⟨a,b,ns,n,rfl,_⟩:=h
   rfl
 obtain⟨a,b,ns,n,rfl,g,hn,q⟩:=h
 have nd:=JR.nd
 refine⟨_,(ao (bI (i:=3) nd rfl (Or.inl rfl) (aY dX (hr.mono (by omega)) rfl bF.m bF.F.kp bF.b .nil aO (aj (pv 0) (aj (pv 1) ak))))
  (ao (bh (PW.pt (iZ (bx U9 (pv 2) aF (aX _)) (iY v7))) (aJ (aU (aY ZJ (hr.mono (by omega)) rfl jY.m jY.F.kp jY.b .nil aO (aj (pv 0) (aj (pv 1) ak))))) bf) Uw)),?_⟩
 refine⟨_,rfl,_,rfl,a,b,ns,n,rfl,g,by omega,λr H1 r0 r1 s1 h1=>?_⟩
 refine⟨_,rfl,_,_,rfl,rfl,_,rfl,?_⟩
 refine dH (λc=>bW ?_) (λc=>(c (by decide)).elim)
 refine⟨_,rfl,_,rfl,a,b,ns,n+1,rfl,g.go s1 h1 (by omega),by omega,λv k H2 s2 h2 hk hp=>?_⟩
 exact q v k (n+1+1) H2 (s1.trans s2) h2 (by omega) (by omega) hk hp
theorem JT:bJ ["_law_script","_law_at","_law_many","_law_deep"] ["_law_script","_law_at","_law_many","_law_deep"] (aG (top 60)):=bN
theorem ZK (T:Tb mg)(j6:Dn K mg "_law_fields" ["_law_script","_law_at","_law_many","_law_deep"] (top 60) xJ xK)(j4:Dn K mg "_law_names" ["_law_script","_law_at","_law_many"] (top 58) w6 xg)(ZL:aC P w K mg base aH (2) w6 xg ["_law_script","_law_at","_law_many"] (JG K))(j5:Dn K mg "_law_kind" ["_law_script","_law_at","_law_deep"] (top 62) xG xH)(ZM:aC P w K mg base aH (4) xG xH ["_law_script","_law_at","_law_deep"] (JN K)):aC P w K mg base aH (5) xJ xK ["_law_script","_law_at","_law_many","_law_deep"] (JQ K):=by
 refine j6.F.ok JT (λvs H Q E h=>?_) (λcdv A outer s H vs Q E hr h=>?_)
 . obtain⟨a,b,ns,n,m,rfl,_⟩:=h
   rfl
 obtain⟨a,b,ns,n,m,rfl,hm,g,hn,q⟩:=h
 have nd:=JT.nd
 refine⟨_,(aJ (aU (fW vN (by rfl) T.iJ boot_tuple (aj (fG (g:=(cB 0)) (tt:=dW) (te:=(pF (bY (aV 0) (bY (lV _ _ _ (bY (aV 1) (bY (aV 2) (bY (aV 4) fu)))) fu)))) (own:=["_law_name"]) rfl (cI.of (N:=["_law_script","_law_at","_law_many","_law_deep"]) (sc:=aG (top 60)) rfl rfl rfl (by decide +kernel)) (pB (aY ZL (hr.mono (by omega)) rfl j4.m j4.F.kp j4.b .nil aO (aj (pv 0) (aj (pv 1) (aj (pv 2) ak))))) (λ_ _ _ _ _=>(bQ (i:=0) (show(["_law_name","_law_script","_law_at","_law_many","_law_deep"]:List Str).Nodup by decide +kernel) rfl (Or.inl rfl) (.inr rfl))) (λ_ _ _ _ _=>gH) (λ_ _ _ _ _=>(dU (aj (pv 0) (aj (aY ZM (hr.mono (by omega)) rfl j5.m j5.F.kp j5.b .nil aO (aj (pv 1) (aj (pv 2) (aj (pv 4) ak)))) ak))))) ak)))),?_⟩
 have hn2:n<=1000000000000:=by omega
 refine⟨_,rfl,_,rfl,_,rfl,a,b,ns,n,m,rfl,by omega,g,hn2,λp ss H1 s1 h1 hpb hp hl hnd hsr=>?_⟩
 refine⟨p,rfl,⟨_,au.of hp⟩,λi m' ys H'=>m'=ss.length - i/\i<=ss.length/\∃(fs:Fs) (n':Int),SB b H H'/\H' b=some (.lst [.int n'])/\n<=n'/\n'<=n+1+i * 2/\H' p=some (.lst (ss.map V.str))/\FA H' ys fs/\fs.names=ss.take i/\ys.length=i/\fs.fL,
  ⟨_,rfl,Nat.zero_le _,.nil,n+1,s1,h1,by omega,by omega,hp,by unfold FA;rfl,by simp[Fs.names],rfl,trivial⟩,?_⟩
 rintro i m' ys H' ⟨rfl,hile,fs,n',sb,hb',z1,z2,hp',hf,hnm,hy,hW⟩
 by_cases hi:i<ss.length
 . refine .inr ⟨⟨_,.str ss[i],au.of hp',by rw[List.getElem?_map,List.getElem?_eq_getElem hi];rfl⟩,cX (by omega),λx fJ y=>?_⟩
   obtain⟨rfl,y⟩:=y
   have hx:=y _ (au.of hp')
   have ex:x=.str ss[i]:=by
    rw[List.getElem?_map,List.getElem?_eq_getElem hi] at hx
    exact(Option.some.inj hx).symm
   subst ex
   refine⟨rfl,yes (bW ?_)⟩
   refine⟨_,rfl,_,rfl,_,rfl,_,rfl,a,b,ns,n',rfl,g.go sb hb' z1,by omega,λv k ZP H2 s2 h2 y1 y2 hk ZQ=>?_⟩
   refine⟨gY,λt ht=>?_⟩
   have hne:t≠b:=λz=>by rw[z,h2] at ht;cases ht
   have JV:Tu H2 (upd H2 t (.tup [.str ss[i],v])):=Tu.of (λc o h=>by rw[aB (aW h ht)];exact h)
   have tu:Tu fJ (upd H2 t (.tup [.str ss[i],v])):=(s2.tu hb').trans JV
   refine⟨_,Nat.sub_lt_sub_left hi (Nat.lt_succ_self i),rfl,hi,fs.snoc ss[i] k,ZP,sb.trans (s2.trans (SB.new ht)),by rw[aB (Ne.symm hne)];exact h2,by omega,by omega,?_,FA.snoc aK (KA.mono JV k hk) fs (FA.mono tu fs hf),?_,?_,Fs.JM ZQ hW⟩
   . have h3:=s2 p _ hpb hp'
     rw[aB (aW h3 ht)];exact h3
   . rw[Fs.IK,hnm,List.take_succ,List.getElem?_eq_getElem hi];rfl
   . rw[List.length_append,hy];rfl
 . have ei:i=m:=by omega
   subst ei
   refine .inl ⟨⟨_,au.of hp',by rw[List.length_map];omega⟩,λp' hp2=>?_⟩
   refine⟨p',ys,rfl,.inl ⟨au.of aK,λt ht=>?_⟩⟩
   have ZR:p'≠b:=λz=>by rw[z,hb'] at hp2;cases hp2
   have hb2:upd H' p' (.lst ys) b=some (.lst [.int n']):=by rw[aB (Ne.symm ZR)];exact hb'
   have tu:Tu H' (upd (upd H' p' (.lst ys)) t (.tup ys)):=λc xs h=>by
    rw[aB (aW (show upd H' p' (.lst ys) c=some (.tup xs) by rw[aB (aW h hp2)];exact h) ht),aB (aW h hp2)];exact h
   have hst:ss.take i=ss:=by rw[<-hl,List.take_length]
   refine q t ys fs n' _ (sb.trans ((SB.new hp2).trans (SB.new ht))) (by rw[aB (aW hb2 ht)];exact hb2) z1 (by omega) aK (FA.mono tu fs hf) ?_ ?_ hW (by rw[hnm,hst];exact hsr)
   . rw[hnm,hst];exact hnd
   . rw[hnm,hst];exact hl
noncomputable def cR:Kd->V->Prop
 | .num,v=>∃z,v=.int z
 | .dI,v=>∃s,v=.str s
 |_,_=>False
noncomputable def aN (f:Str->V) (l:List Str):List (Key × V):=l.map λx=>(Sum.inr x,f x)
theorem jg (f:Str->V)(l:List Str):(aN f l).length=l.length:=List.length_map _
theorem eU (f:Str->V):∀(l:List Str) (x:Str),dB (aN f l) (Sum.inr x)=if x∈l then some (f x) else none
 |[],x=>rfl
 |y::r,x=>by
  show dB ((Sum.inr y,f y)::aN f r) (Sum.inr x)=_
  by_cases e:y=x
  . subst e
    rw[rZ rfl,if_pos List.mem_cons_self]
  . rw[su (λz=>e (Sum.inr.inj z)),eU f r x]
    by_cases h:x∈r
    . rw[if_pos h,if_pos (List.mem_cons_of_mem _ h)]
    . rw[if_neg h,if_neg (λz=>(List.mem_cons.mp z).elim (λz=>e z.symm) h)]
theorem ZS (f:Str->V)(l:List Str):(aN f l).map (·.1)=l.map Sum.inr:=by unfold aN;rw[List.map_map];rfl
theorem ZV {f:Str->V}{l:List Str}(h:l.Nodup):((aN f l).map (·.1)).Nodup:=by
 rw[ZS]
 exact List.Pairwise.map _ (λa b h z=>h (Sum.inr.inj z)) h
theorem JW {f g:Str->V}{l:List Str}(h:∀x∈l,f x=g x):aN f l=aN g l:=by
 unfold aN
 exact List.map_congr_left λx hx=>by rw[h x hx]
noncomputable def dJ (f:Str->V) (x:Str) (v:V):Str->V:=λy=>if y=x then v else f y
theorem JX {f:Str->V}{l:List Str}{i:Nat}{x:Str}(h:l[i]? =some x):(aN f l)[i]? =some (Sum.inr x,f x):=by
 unfold aN;rw[List.getElem?_map,h];rfl
theorem xM {f:Str->V}{l:List Str}{x:Str}(v:V)(h:x∈l):putK (aN f l) (Sum.inr x) v=aN (dJ f x v) l:=by
 unfold putK
 rw[if_pos]
 . unfold aN
   rw[List.map_map]
   refine List.map_congr_left λy _=>?_
   show(if Sum.inr y=(Sum.inr x:Key) then _ else _)=_
   unfold dJ
   by_cases e:y=x
   . subst e;simp
   . simp[e]
 . simp only[List.any_eq_true]
   exact⟨(Sum.inr x,f x),List.mem_map.mpr ⟨x,h,rfl⟩,by simp⟩
noncomputable def xO (K:W.Frag):Sp:=λvs H Q _=>∃a b ns n kv k,∃room:Int,vs=[.ref a,.ref b,kv,.int room]/\G0 K H a b ns n/\n<=1000000000000/\KA H kv k/\iH k/\
 ∀(v:V) (H':Hp),SB b H H'->H' b=some (.lst [.int (n+1)])->cR k v->Q v H'
noncomputable def JZ (K:W.Frag):Sp:=λvs H Q _=>∃a b ns n kk t xs fs,∃room:Int,vs=[.ref a,.ref b,.ref kk,.int room]/\G0 K H a b ns n/\n+12<=1000000000000/\H kk=some (.tup [.str "record",.ref t])/\H t=some (.tup xs)/\FA H xs fs/\fs.fL/\fs.names.Nodup/\fs.names.length<=8/\
 ∀(p:Addr) (f:Str->V) (n':Int) (H':Hp),SB b H H'->H' b=some (.lst [.int n'])->n<=n'->n'<=n+8->H p=none->H' p=some (.dK (aN f fs.names))->(∀i nm k,fs.at i=some (nm,k)->cR k (f nm))->Q (.ref p) H'
theorem tX:bJ ["_law_script","_law_at","_law_kind_here","_law_room","_law_m","_law_top","_law_name","_law_inner"] ["_law_script","_law_at","_law_kind_here","_law_room"] (aG (top 65)):=bN
theorem ZW (T:Tb mg)(dF:Dn K mg "_law_value" ["_law_script","_law_at","_law_kind_here","_law_room"] (top 65) j7 j8)(gj:Dn K mg "_law_number" ["_law_script","_law_at"] (top 56) qe qg)(xP:aC P w K mg base aH (2) qe qg ["_law_script","_law_at"] (wV K))(gk:Dn K mg "_law_word" ["_law_script","_law_at"] (top 57) qj qm)(xQ:aC P w K mg base aH (2) qj qm ["_law_script","_law_at"] (wW K)):aC P w K mg base aH (3) j7 j8 ["_law_script","_law_at","_law_kind_here","_law_room"] (xO K):=by
 refine dF.F.ok tX (λvs H Q E h=>?_) (λcdv A outer s H vs Q E hr h=>?_)
 . obtain⟨a,b,ns,n,kv,k,room,rfl,_⟩:=h
   rfl
 obtain⟨a,b,ns,n,kv,k,room,rfl,g,hn,hk,hp,q⟩:=h
 have nd:=tX.nd
 refine⟨_,(ao (bh (bx bK (bB bZ (pv 2) aF (λ_ _=>rfl)) bV (aX _)) (aJ (aU (aY xP (hr.mono (by omega)) rfl gj.m gj.F.kp gj.b .nil aO (aj (pv 0) (aj (pv 1) ak))))) bf)
  (ao (bh (bx bK (bB bZ (pv 2) aF (λ_ _=>rfl)) bV (aX _)) (aJ (aU (aY xQ (hr.mono (by omega)) rfl gk.m gk.F.kp gk.b .nil aO (aj (pv 0) (aj (pv 1) ak))))) bf)
  (ao aP
  (ao aP
  (ao aP
  (ao aP
  (ao aP
  (aJ aP)))))))),?_⟩
 cases k with
 |num=>
  unfold KA at hk
  obtain⟨c,rfl,hc⟩:=hk
  refine v8 rfl hc rfl (by decide +kernel) ?_
  exact⟨_,rfl,_,rfl,a,b,ns,n,rfl,g,hn,λz H1 s1 h1=>q _ _ s1 h1 ⟨z,rfl⟩⟩
 |dI=>
  unfold KA at hk
  obtain⟨c,rfl,hc⟩:=hk
  refine v9 rfl hc rfl (by decide +kernel) ?_
  refine v8 rfl hc rfl (by decide +kernel) ?_
  exact⟨_,rfl,_,rfl,a,b,ns,n,rfl,g,hn,λz H1 s1 h1=>q _ _ s1 h1 ⟨z,rfl⟩⟩
 |_=>exact hp.elim
theorem ZX (T:Tb mg)(dF:Dn K mg "_law_value" ["_law_script","_law_at","_law_kind_here","_law_room"] (top 65) j7 j8)(qp:aC P w K mg base aH (3) j7 j8 ["_law_script","_law_at","_law_kind_here","_law_room"] (xO K))(gj:Dn K mg "_law_number" ["_law_script","_law_at"] (top 56) qe qg)(xP:aC P w K mg base aH (2) qe qg ["_law_script","_law_at"] (wV K))(gk:Dn K mg "_law_word" ["_law_script","_law_at"] (top 57) qj qm)(xQ:aC P w K mg base aH (2) qj qm ["_law_script","_law_at"] (wW K)):aC P w K mg base aH (4) j7 j8 ["_law_script","_law_at","_law_kind_here","_law_room"] (JZ K):=by
 refine dF.F.ok tX (λvs H Q E h=>?_) (λcdv A outer s H vs Q E hr h=>?_)
 . obtain⟨a,b,ns,n,kk,t,xs,fs,room,rfl,_⟩:=h
   rfl
 obtain⟨a,b,ns,n,kk,t,xs,fs,room,rfl,g,hn,hkk,ht,hfa,hpl,hnd,h8,q⟩:=h
 have nd:=tX.nd
 refine⟨_,(ao (bh (bx bK (bB bZ (pv 2) aF (λ_ _=>rfl)) bV (aX _)) (aJ (aU (aY xP (hr.mono (by omega)) rfl gj.m gj.F.kp gj.b .nil aO (aj (pv 0) (aj (pv 1) ak))))) bf)
  (ao (bh (bx bK (bB bZ (pv 2) aF (λ_ _=>rfl)) bV (aX _)) (aJ (aU (aY xQ (hr.mono (by omega)) rfl gk.m gk.F.kp gk.b .nil aO (aj (pv 0) (aj (pv 1) ak))))) bf)
  (ao (bh (bx bK (bB bZ (pv 2) aF (λ_ _=>rfl)) bV (aX _)) (aJ (aU (ZF (N':=["_law_script","_law_at","_law_kind_here","_law_room","_law_m","_law_top","~6","~7"]) (n8.of (N:=["_law_script","_law_at","_law_kind_here","_law_room","_law_m","_law_top","_law_name","_law_inner"]) (sc:=aG (top 65)) rfl rfl rfl (by decide +kernel)) (fW (YM rfl) (by rfl) T.gM boot_dict (aj (fG (g:=(nF K 2 (iu (cB 0) (iu (cB 1) nu)))) (tt:=dW) (te:=(pF (bY (aV 0) (bY (lV _ _ _ (bY (aV 2) (bY (aV 3) (bY (aV 1) (bY (aV 5) fu))))) fu)))) (own:=["_law_name","_law_inner"]) rfl (cI.of (N:=["_law_script","_law_at","_law_kind_here","_law_room","_law_m","_law_top","~6","~7"]) (sc:=aG (top 65)) rfl rfl rfl (by decide +kernel)) (jR (bB bZ (pv 2) aF (λ_ _=>rfl))) (λ_ _ _ _ _=>(iy rfl (cW (bQ (i:=0) (show(["_law_name","_law_inner","_law_script","_law_at","_law_kind_here","_law_room","_law_m","_law_top","~6","~7"]:List Str).Nodup by decide +kernel) rfl (Or.inl rfl) (.inr rfl)) (cW (bQ (i:=1) (show(["_law_name","_law_inner","_law_script","_law_at","_law_kind_here","_law_room","_law_m","_law_top","~6","~7"]:List Str).Nodup by decide +kernel) rfl (Or.inl rfl) (.inr rfl)) iw)))) (λ_ _ _ _ _=>gH) (λ_ _ _ _ _=>(dU (aj (pv 0) (aj (aY qp (hr.mono (by omega)) rfl dF.m dF.F.kp dF.b .nil aO (aj (pv 2) (aj (pv 3) (aj (pv 1) (aj (pv 5) ak))))) ak))))) ak))))) bf)
  (ao aP
  (ao aP
  (ao aP
  (ao aP
  (aJ aP)))))))),?_⟩
 refine v9 rfl hkk rfl (by decide +kernel) ?_
 refine v9 rfl hkk rfl (by decide +kernel) ?_
 refine v8 rfl hkk rfl (by decide +kernel) ?_
 have tY:xs.length=fs.names.length:=FA.len fs hfa
 refine⟨λi v hne=>?_,?_⟩
 . match i with
   |0=>exact absurd rfl hne
   |1=>exact absurd rfl hne
   |2=>exact absurd rfl hne
   |3=>exact absurd rfl hne
   |4=>exact absurd rfl hne
   |5=>exact absurd rfl hne
   |6=>exact λz=>by cases z
   |7=>exact λz=>by cases z
   |i+8=>exact absurd rfl hne
 dsimp only[vd,rP,bY]
 refine⟨_,rfl,kk,_,_,_,rfl,rfl,aq.of hkk,rfl,t,rfl,⟨_,aq.of ht⟩,λi m ys H'=>m=xs.length - i/\i<=xs.length/\∃(ts:List Addr) (f:Str->V) (n':Int),ys=ts.map V.ref/\ts.length=i/\SB b H H'/\H' b=some (.lst [.int n'])/\n<=n'/\n'<=n+i/\(∀(j:Nat) c nm k,ts[j]? =some c->fs.at j=some (nm,k)->H' c=some (.tup [.str nm,f nm])/\cR k (f nm)),
  ⟨_,rfl,Nat.zero_le _,[],λ_=>.non,n,rfl,rfl,SB.refl _ _,g.at_,by omega,by omega,λj c nm k h=>by simp at h⟩,?_⟩
 rintro i m ys H' ⟨rfl,hile,ts,f,n',rfl,htl,sb,hb',z1,z2,hat⟩
 have tu:Tu H H':=sb.tu g.at_
 by_cases hi:i<xs.length
 . refine .inr ⟨⟨xs,xs[i],aq.of (tu _ _ ht),List.getElem?_eq_getElem hi⟩,by rw[List.length_map];exact cX (by omega),λx fJ y=>?_⟩
   obtain⟨rfl,y⟩:=y
   obtain⟨c,u,nm,k,rfl,xR,hc,hk⟩:=FA.get fs hfa (y xs (aq.of (tu _ _ ht)))
   refine⟨c,_,rfl,aq.of (tu _ _ hc),rfl,_,_,rfl,_,_,rfl,rfl,rfl,yes (bW ?_)⟩
   refine⟨_,rfl,_,rfl,_,rfl,_,rfl,_,rfl,a,b,ns,n',u,k,room,rfl,g.go sb hb' z1,by omega,KA.mono tu k hk,Fs.xu hpl xR,λv H2 s2 h2 hv=>⟨gY,λt2 gO=>?_⟩⟩
   have s3:=Same.new gO (o:=.tup [.str nm,v])
   have Z0:fs.names[i]? =some nm:=by rw[Fs.gK,xR];rfl
   refine⟨xs.length - (i+1),by omega,rfl,hi,ts++[t2],dJ f nm v,n'+1,by rw[List.map_append];rfl,by rw[List.length_append,htl];rfl,sb.trans (s2.trans (SB.of s3)),s3 _ _ h2,by omega,by omega,λj c' nm' k' hj tZ=>?_⟩
   by_cases hji:j<ts.length
   . rw[List.getElem?_append_left hji] at hj
     obtain⟨h1,h2'⟩:=hat j c' nm' k' hj tZ
     have hne:nm'≠nm:=λz=>by
      have e1:fs.names[j]? =some nm':=by rw[Fs.gK,tZ];rfl
      have:=(List.getElem?_inj (by have:=(List.getElem?_eq_some_iff.mp e1).1;exact this) hnd).mp (e1.trans (by rw[z];exact Z0.symm))
      omega
     unfold dJ
     rw[if_neg hne]
     exact⟨s3 _ _ ((s2.tu hb') _ _ h1),h2'⟩
   . have hjl:=(List.getElem?_eq_some_iff.mp hj).1
     rw[List.length_append] at hjl
     have ej:j=i:=by simp at hjl;omega
     subst ej
     rw[List.getElem?_append_right (by omega),htl,Nat.sub_self] at hj
     have hj:some t2=some c':=hj
     cases hj
     rw[xR] at tZ
     cases tZ
     unfold dJ
     rw[if_pos rfl]
     exact⟨aK,hv⟩
 . have ei:i=xs.length:=by omega
   refine .inl ⟨⟨_,aq.of (tu _ _ ht),by omega⟩,λp' hp2=>?_⟩
   have s3:=Same.new hp2 (o:=.lst (ts.map V.ref))
   refine⟨p',ts,aN f fs.names,rfl,au.of aK,by rw[jg];omega,λj c p hj hpj=>?_,ZV hnd,by rw[jg];omega,λl hl=>?_⟩
   . have hjl:j<fs.names.length:=by have:=(List.getElem?_eq_some_iff.mp hj).1;omega
     obtain⟨nm,k,e⟩:=Fs.IV hjl
     rw[JX (by rw[Fs.gK,e];rfl)] at hpj
     cases hpj
     exact s3 _ _ (hat j c nm k hj e).1
   . have s4:=Same.new hl (o:=.dK (aN f fs.names))
     refine q l f n' _ (sb.trans (SB.of (s3.trans s4))) (s4 _ _ (s3 _ _ hb')) z1 (by omega) ?_ aK λj nm k e=>?_
     . cases e:H l with
       |none=>rfl
       |some o=>
        by_cases hlb:l=b
        . rw[hlb,s3 _ _ hb'] at hl;cases hl
        . rw[s3 _ _ (sb _ _ hlb e)] at hl;cases hl
     . have hjl:j<ts.length:=by
        have e1:fs.names[j]? =some nm:=by rw[Fs.gK,e];rfl
        have:=(List.getElem?_eq_some_iff.mp e1).1
        omega
       exact(hat j ts[j] nm k (List.getElem?_eq_getElem hjl) e).2
end Pb
namespace Pb
open PySem L2 PyProof.Rows
theorem _root_.L2.cg.tab {P:Addr}{lp:Pos}{ql:Str}{H:Hp}(h:cg P lp ql H):∃ps,H P=some (.cO ps):=by
 rcases h with e|⟨c,e,_⟩ <;> exact⟨_,e⟩
theorem _root_.L2.cg.keep {P:Addr}{lp:Pos}{ql:Str}{H H':Hp}(h:cg P lp ql H)(k:∀c o,(∀xs,o≠ .lst xs)->H c=some o->H' c=some o):cg P lp ql H':=by
 rcases h with e|⟨c,e,f⟩
 . exact .inl (k _ _ (by intro xs z;cases z) e)
 . exact .inr ⟨c,k _ _ (by intro xs z;cases z) e,k _ _ (by intro xs z;cases z) f⟩
theorem _root_.L2.cg.same {P:Addr}{lp:Pos}{ql:Str}{H H':Hp}(h:cg P lp ql H)(s:Same H H'):cg P lp ql H':=h.keep λc o _ e=>s c o e
theorem _root_.L2.cg.sb {P b:Addr}{lp:Pos}{ql:Str}{H H':Hp}{l:List V}(h:cg P lp ql H)(hb:H b=some (.lst l))(s:SB b H H'):cg P lp ql H':=
 h.keep λc o ho e=>s c o (iV e hb (ho l)) e
theorem KA.xT {H:Hp}:∀{u:V}{k:Kd},KA H u k->u≠ .non
 |_,.num,h=>by unfold KA at h;obtain⟨a,rfl,_⟩:=h;intro z;cases z
 |_,.dI,h=>by unfold KA at h;obtain⟨a,rfl,_⟩:=h;intro z;cases z
 |_,.pX _,h=>by unfold KA at h;obtain⟨a,b,vs,rfl,_⟩:=h;intro z;cases z
 |_,.rows _ _ _,h=>by unfold KA at h;obtain⟨a,b,vs,rfl,_⟩:=h;intro z;cases z
 |_,.tree _,h=>by unfold KA at h;obtain⟨a,b,rfl,_⟩:=h;intro z;cases z
 |_,.pY _,h=>by unfold KA at h;obtain⟨a,b,vs,rfl,_⟩:=h;intro z;cases z
theorem Fs.get_mem:∀{fs:Fs}{x:Str}{k:Kd},fs.get x=some k->x∈fs.names
 | .nil,_,_,h=>by cases h
 | .cons y q r,x,k,h=>by
   have h:(if x=y then some q else r.get x)=some k:=h
   by_cases e:x=y
   . rw[e];exact List.mem_cons_self
   . rw[if_neg e] at h
     exact List.mem_cons_of_mem _ (Fs.get_mem h)
noncomputable def xU:Sp:=λvs H Q _=>∃b x xs fs k,vs=[.ref b,.str x]/\H b=some (.tup xs)/\FA H xs fs/\fs.names.Nodup/\fs.get x=some k/\∀u,KA H u k->u≠ .non->Q u H
variable {P:Program}{w:World}{K:W.Frag}{mg:Str->Option Value}{base:Heap}
theorem J0:bJ ["fields","name","pair"] ["fields","name"] (aG (top 9)):=bN
theorem Z1 (T:Tb mg)(gn:Dn K mg "kind_at" ["fields","name"] (top 9) qt qu):aC P w K mg base aH (1) qt qu ["fields","name"] (xU):=by
 refine gn.F.ok J0 (λvs H Q E h=>?_) (λcdv A outer s H vs Q E hr h=>?_)
 . obtain⟨b,x,xs,fs,k,rfl,_⟩:=h
   rfl
 obtain⟨b,x,xs,fs,k,rfl,hb,hfa,hnd,hget,q⟩:=h
 have nd:=J0.nd
 refine⟨_,(ao (lN PassesOwn.never rfl (jR (pv 0)) (bQ (i:=2) nd rfl (Or.inl rfl)) (aJ (bh (bx bK (bB bZ (pv 2) aF (λ_ _=>rfl)) (pv 1) (aX _)) (aJ (aU (bB bZ (pv 2) aF (λ_ _=>rfl)))) bf)))
  (aJ (aU dO))),?_⟩
 refine⟨_,rfl,b,rfl,⟨_,aq.of hb⟩,vh (xs:=xs) (λi σ H'=>H'=H/\(∃z,σ=[some (.ref b),some (.str x),z])/\∀j,j<i->fs.names[j]? ≠some x) ⟨rfl,⟨_,rfl⟩,λj hj=>absurd hj (by omega)⟩ ?_ ?_ ?_⟩
 . rintro i σ H' _ ⟨rfl,_⟩
   exact aq.of hb
 . rintro i v σ H' hv ⟨rfl,⟨z,rfl⟩,hno⟩
   obtain⟨c,u,nm,k',rfl,hat,hc,hk⟩:=FA.get fs hfa hv
   have hnm:fs.names[i]? =some nm:=by rw[Fs.gK,hat];rfl
   refine⟨_,rfl,c,_,_,_,rfl,rfl,aq.of hc,rfl,_,rfl,rfl,_,rfl,dH (λcc=>?_) (λcc=>?_)⟩
   . have e:nm=x:=by
      have:=of_decide_eq_true cc
      injection this
     subst e
     have ek:=Fs.pZ hnd hat
     rw[hget] at ek
     cases ek
     exact⟨_,rfl,c,_,_,_,rfl,rfl,aq.of hc,rfl,q u hk hk.xT⟩
   . refine⟨rfl,⟨_,rfl⟩,λj hj=>?_⟩
     by_cases e:j<i
     . exact hno j e
     . have:j=i:=by omega
       subst this
       rw[hnm]
       intro z
       cases z
       exact cc (decide_eq_true rfl)
 . rintro σ H' ⟨rfl,_,hno⟩
   obtain⟨j,hj,e⟩:=List.getElem_of_mem (Fs.get_mem hget)
   exact absurd (by rw[List.getElem?_eq_getElem hj,e]) (hno j (by rw[FA.len fs hfa];exact hj))
noncomputable def Z2 (st:Stmt):Pos:=match bw st with
 | .Assign _ (.Call _ [.Call _ _ [⟨_,.Lambda _ _ _ lp,_⟩] _] _ _) _::_=>lp
 |_=>⟨0,0,0,0⟩
noncomputable abbrev dY:Pos:=Z2 (top 10)
noncomputable abbrev dZ:Str:=("sorted_fields":Str)++".<locals>."++"<lambda>"
noncomputable abbrev eV (Pt:Addr) (H H':Hp):Prop:=Kp (λc=>c=Pt) H H'
theorem eV.tu {Pt:Addr}{H H':Hp}{lp:Pos}{ql:Str}(x:eV Pt H H')(hT:cg Pt lp ql H):Tu H H':=λc xs h=>by
 obtain⟨ps,hP⟩:=hT.tab
 exact x c _ (iV h hP (by intro z;cases z)) h
noncomputable def J1 (K:W.Frag) (Pt:Addr):Sp:=λvs H Q E=>∃l qs,vs=[.ref l]/\au K H l (cC qs)/\iI H qs/\qs.length<=13/\cg Pt dY dZ H/\(nms qs).Nodup/\(nms qs).Pairwise sle/\
 (∀t H',eV Pt H H'->cg Pt dY dZ H'->H' t=some (.tup (cC qs))->Q (.ref t) H')
noncomputable def J3 (K:W.Frag) (Pt:Addr):Sp:=λvs H Q E=>∃l qs,vs=[.ref l]/\au K H l (cC qs)/\iI H qs/\qs.length<=13/\cg Pt dY dZ H/\(nms qs).Nodup/\(nms qs).Pairwise sle/\
 (∀r t H',eV Pt H H'->cg Pt dY dZ H'->H' t=some (.tup (cC qs))->H' r=some (.tup [.str "record",.ref t])->Q (.ref r) H')
theorem Z4 {qs:List Qd}{i:Nat}{v:V}(h:(cC qs)[i]? =some v):∃q,qs[i]? =some q/\q.1=v:=by
 have h:(qs.map (·.1))[i]? =some v:=h
 rw[List.getElem?_map] at h
 cases e:qs[i]? with
 |none=>rw[e] at h;cases h
 |some q=>rw[e] at h;exact⟨q,rfl,Option.some.inj h⟩
theorem qw (qs:List Qd):(cC qs).length=qs.length:=List.length_map _
theorem t_ (qs:List Qd):(nms qs).length=qs.length:=List.length_map _
noncomputable def q0:Qd:=(.non,"",false)
theorem Z5 (qs:List Qd)(p:List Nat):cC (p.map λi=>qs.getD i q0)=p.map λi=>(cC qs).getD i .non:=by
 unfold cC
 rw[List.map_map]
 refine List.map_congr_left λi _=>?_
 show(qs.getD i q0).1=_
 rw[List.getD_eq_getElem?_getD,List.getD_eq_getElem?_getD,List.getElem?_map]
 cases qs[i]? <;> rfl
theorem Z6 (qs:List Qd){p:List Nat}(h:p.Perm (List.range qs.length)):(p.map λi=>qs.getD i q0).Perm qs:=by
 have:=h.map λi=>qs.getD i q0
 rw[Ii] at this
 exact this
theorem uc {x:Str}{ss:List Str}:inV (.str x) (ss.map V.str)=decide (x∈ss):=by
 unfold inV
 rw[List.any_map]
 have:∀y:Str,((λy=>jw y (V.str x)) ∘ V.str) y=decide (y=x):=λy=>rfl
 induction ss with
 |nil=>rfl
 |cons y r ih=>
  rw[List.any_cons,ih,this]
  by_cases e:y=x
  . rw[decide_eq_true e,decide_eq_true (show x∈y::r by rw[e];exact List.mem_cons_self)];rfl
  . rw[decide_eq_false e]
    by_cases h:x∈r
    . rw[decide_eq_true h,decide_eq_true (List.mem_cons_of_mem _ h)];rfl
    . rw[decide_eq_false h,decide_eq_false λz=>(List.mem_cons.mp z).elim (λz=>e z.symm) h];rfl
theorem xV:∀{ss:List Str},(ss.map V.str).all ju=true
 |[]=>rfl
 |x::r=>by rw[List.map_cons,List.all_cons,xV];rfl
noncomputable def Fs.cj (ss:List Str):Fs->Fs
 | .nil=>.nil
 | .cons x k r=>if x∈ss then .cons x k (r.cj ss) else r.cj ss
noncomputable def gP (ss:List Str) (xs:List V) (ns:List Str):List V:=((xs.zip ns).filter λq=>decide (q.2∈ss)).map (·.1)
theorem FA.few {H:Hp}{ss:List Str}:∀{xs:List V}(fs:Fs),FA H xs fs->FA H (gP ss xs fs.names) (fs.cj ss)
 |xs,.nil,h=>by
  unfold FA at h
  subst h
  show FA H [] .nil
  unfold FA
  rfl
 |xs,.cons x k r,h=>by
  unfold FA at h
  obtain⟨c,u,vr,rfl,h1,h2,h3⟩:=h
  have ih:=FA.few (ss:=ss) r h3
  show FA H (gP ss (.ref c::vr) (x::r.names)) (if x∈ss then .cons x k (r.cj ss) else r.cj ss)
  unfold gP
  rw[List.zip_cons_cons,List.filter_cons]
  by_cases e:x∈ss
  . rw[if_pos e,if_pos (decide_eq_true e),List.map_cons]
    unfold FA
    exact⟨c,u,_,rfl,h1,h2,ih⟩
  . rw[if_neg e,if_neg (by rw[decide_eq_false e];decide)]
    exact ih
theorem Fs.fM (ss:List Str):∀fs:Fs,(fs.cj ss).names=fs.names.filter λx=>decide (x∈ss)
 | .nil=>rfl
 | .cons x k r=>by
   show(if x∈ss then Fs.cons x k (r.cj ss) else r.cj ss).names=(x::r.names).filter _
   rw[List.filter_cons]
   by_cases e:x∈ss
   . rw[if_pos e,if_pos (decide_eq_true e)]
     show x::(r.cj ss).names=_
     rw[Fs.fM ss r]
   . rw[if_neg e,if_neg (by rw[decide_eq_false e];decide)]
     exact Fs.fM ss r
theorem Fs.xW (ss:List Str):∀{fs:Fs}{x:Str},(fs.cj ss).get x=if x∈ss then fs.get x else none
 | .nil,x=>by
   show none=_
   split <;> rfl
 | .cons y k r,x=>by
   have ih:=Fs.xW ss (fs:=r) (x:=x)
   show(if y∈ss then Fs.cons y k (r.cj ss) else r.cj ss).get x=if x∈ss then(if x=y then some k else r.get x) else none
   by_cases e:y∈ss
   . rw[if_pos e]
     show(if x=y then some k else(r.cj ss).get x)=_
     by_cases z:x=y
     . rw[if_pos z,if_pos (by rw[z];exact e),if_pos z]
     . rw[if_neg z,ih,if_neg z]
   . rw[if_neg e,ih]
     by_cases z:x∈ss
     . rw[if_pos z,if_pos z,if_neg λq=>e (by rw[<-q];exact z)]
     . rw[if_neg z,if_neg z]
theorem Fs.xX (ss:List Str):∀{fs:Fs},fs.W->(fs.cj ss).W
 | .nil,h=>h
 | .cons y k r,h=>by
   unfold Fs.W at h
   show(if y∈ss then Fs.cons y k (r.cj ss) else r.cj ss).W
   split
   . unfold Fs.W
     exact⟨h.1,Fs.xX ss h.2⟩
   . exact Fs.xX ss h.2
structure Dm (K:W.Frag) (x qual:Str) (ps:List Str) (st:Stmt) (f:Addr) (fd:FuncData):Prop where
 F:je K x qual st f fd
 b:Binds K fd ps []
theorem J4:bJ ["pairs","fields","number","name"] ["pairs"] (aG (top 10)):=bN
theorem Z7 {Pt c:Addr}(T:Tb mg)(j9:Dn K mg "sorted_fields" ["pairs"] (top 10) xY ud)(hcode:ud.code=.ref c)(Z8:W.CodeHd base c Pt)(pW:BM mg base):aC P w K mg base aH (8) xY ud ["pairs"] (J1 K Pt):=by
 refine j9.F.Yg hcode J4 (λvs H Q E h=>?_) (λA outer s H vs Q E hr h=>?_)
 . obtain⟨l,qs,rfl,_⟩:=h
   rfl
 obtain⟨l,qs,rfl,hl,hp,h13,hT,hnd,hso,q1⟩:=h
 have nd:=J4.nd
 have hu:=iG hr
 refine⟨_,(ao (bI (i:=1) nd rfl (Or.inl rfl) (fW vN (by rfl) T.iJ boot_tuple (aj (Yc (te:=(bD (jU K) (aV 0) (tC (.int 0)))) (x:="pair") (N':=["","","",""]) rfl T.wU boot_sorted hr rfl rfl Z8 pW (nT.of (N:=["pairs","fields","number","name"]) (sc:=aG (top 10)) rfl rfl rfl rfl rfl (by decide +kernel)) rfl (λ_ _ _ _ _=>rfl) (pv 0) (λ_ _ _ _ _=>(bB bZ (pv 0) aF (λ_ _=>rfl)))) ak)))
  (ao (lN PassesOwn.never rfl (U0 rfl T.qd (aj aF (aj (aR eE (by rfl) T.dw PySem.boot_len (aj (pv 1) ak)) ak))) (bQ (i:=2) nd rfl (Or.inl rfl)) (ao (bI (i:=3) nd rfl (Or.inl rfl) (bB bZ (bB bZ (pv 1) (pv 2) (λ_ _=>rfl)) aF (λ_ _=>rfl)))
  (aJ (bh (bx bK (pv 3) (bB bZ (bB bZ (pv 1) (aQ vA (pv 2) aF) (λ_ _=>rfl)) aF (λ_ _=>rfl)) (aX _)) (aJ aP) bf))))
  (aJ (aU (pv 1))))),?_⟩
 refine⟨_,rfl,l,cC qs,rfl,hl,by rw[qw];omega,hT,λc' H2 hL2 mono=>?_⟩
 have j_:eV Pt H H2:=λcc o hc e=>mono cc o hc e
 have hp2:iI H2 qs:=hp.mono (j_.tu hT)
 refine⟨λks H3=>H3=H2/\ks.length<=qs.length/\ks=((nms qs).map V.str).take ks.length,⟨rfl,Nat.zero_le _,rfl⟩,λks H3 hw=>by rw[hw.1];exact hL2,?_,?_⟩
 . rintro ks H3 yv ⟨rfl,hle,hks⟩ hy
   obtain⟨qq,hq,rfl⟩:=Z4 hy
   obtain⟨cc,u,ec,hc,hk⟩:=hp2 qq (List.mem_of_getElem? hq)
   obtain⟨qv,qn,qb⟩:=qq
   have ec:qv=.ref cc:=ec
   subst ec
   have hlt:ks.length<qs.length:=(List.getElem?_eq_some_iff.mp hq).1
   refine⟨_,rfl,cc,_,_,_,rfl,rfl,aq.of hc,rfl,rfl,by rw[List.length_append];exact hlt,?_⟩
   rw[List.length_append]
   show _=List.take (ks.length+1) _
   rw[List.take_succ,<-hks,List.getElem?_map]
   have:(nms qs)[ks.length]? =some qn:=by
    show(qs.map (·.2.1))[ks.length]? =_
    rw[List.getElem?_map,hq];rfl
   rw[this]
   rfl
 . rintro ks H3 ⟨rfl,_,hks⟩ hlen
   have hks:ks=(nms qs).map V.str:=by
    rw[hks,hlen,qw,List.take_of_length_le (by rw[List.length_map,t_];exact Nat.le_refl _)]
   refine⟨nms qs,hks,λp hpm hs D hD=>?_⟩
   rw[qw] at hpm
   rw[<-Z5]
   have hperm:=Z6 qs hpm
   have Z9:(nms (p.map λi=>qs.getD i q0)).Pairwise sle:=by
    show((p.map λi=>qs.getD i q0).map (·.2.1)).Pairwise sle
    rw[List.map_map,List.pairwise_map]
    rw[List.pairwise_map] at hs
    refine List.Pairwise.imp_of_mem (λ{i j} hi hj h=>?_) hs
    have ge:∀i∈p,((nms qs).map cL).getD i []=cL (qs.getD i q0).2.1:=λi hi=>by
     have hi':i<qs.length:=by
      have:=hpm.mem_iff.mp hi
      simpa using this
     unfold nms
     rw[List.getD_eq_getElem?_getD,List.getD_eq_getElem?_getD,List.getElem?_map,List.getElem?_map,List.getElem?_eq_getElem hi']
     rfl
    rw[ge i hi,ge j hj] at h
    exact h
   have wI:(p.map λi=>qs.getD i q0)=qs:=Yr hperm Z9 hso hnd
   rw[wI]
   refine⟨D,cC qs,rfl,.inl ⟨au.of aK,λt ht=>?_⟩⟩
   have sD:Same H3 (upd H3 D (.lst (cC qs))):=Same.new hD
   have s5:Same H3 (upd (upd H3 D (.lst (cC qs))) t (.tup (cC qs))):=sD.trans (Same.new ht)
   have J5:eV Pt H (upd (upd H3 D (.lst (cC qs))) t (.tup (cC qs))):=j_.trans (Kp.of s5)
   have hT5:cg Pt dY dZ (upd (upd H3 D (.lst (cC qs))) t (.tup (cC qs))):=.inr ⟨c',hL2.mono λb o _ e=>s5 _ _ e⟩
   have qy:upd (upd H3 D (.lst (cC qs))) t (.tup (cC qs)) t=some (.tup (cC qs)):=aK
   have J6:iI (upd (upd H3 D (.lst (cC qs))) t (.tup (cC qs))) qs:=hp2.mono (Tu.of s5)
   generalize upd (upd H3 D (.lst (cC qs))) t (.tup (cC qs))=H5 at J5 hT5 qy J6
   have J7:∀j,j<qs.length->∃cc u,(cC qs)[j]? =some (.ref cc)/\H5 cc=some (.tup [.str ((nms qs).getD j ""),u]):=λj hj=>by
    obtain⟨cc,u,ec,hc,_⟩:=J6 qs[j] (List.getElem_mem hj)
    refine⟨cc,u,?_,?_⟩
    . show(qs.map (·.1))[j]? =_
      rw[List.getElem?_map,List.getElem?_eq_getElem hj]
      exact congrArg some ec
    . have e:(nms qs).getD j ""=qs[j].2.1:=by
       unfold nms
       rw[List.getD_eq_getElem?_getD,List.getElem?_map,List.getElem?_eq_getElem hj]
       rfl
      rw[e];exact hc
   refine⟨_,rfl,t,_,rfl,.inr (aq.of qy),_,_,rfl,⟨by decide,by decide,by omega,by rw[qw];omega⟩,Gb (lo:=1) (n:=(((cC qs).length:Int) - 1).toNat) (λk σ H'=>H'=H5/\∃y z,σ=[some (.ref l),some (.ref t),y,z]) ⟨rfl,_,_,rfl⟩ ?_ ?_⟩
   . rintro k σ H' hk ⟨rfl,y,z,rfl⟩
     rw[qw] at hk
     obtain⟨c1,u1,a1,b1⟩:=J7 (k+1) (by omega)
     obtain⟨c2,u2,a2,b2⟩:=J7 k (by omega)
     have e1:dM (cC qs) ((1:Int)+(k:Int))=some (.ref c1):=by
      have:=lY (j:=k+1) a1
      rw[show((1:Int)+(k:Int))=((k+1:Nat):Int) by omega];exact this
     have e2:dM (cC qs) ((1:Int)+(k:Int) - 1)=some (.ref c2):=by
      have:=lY (j:=k) a2
      rw[show((1:Int)+(k:Int) - 1)=((k:Nat):Int) by omega];exact this
     refine⟨_,rfl,_,rfl,t,_,_,_,rfl,rfl,aq.of qy,e1,c1,_,_,_,rfl,rfl,aq.of b1,rfl,?_⟩
     refine⟨_,rfl,_,rfl,_,rfl,_,_,rfl,rfl,t,_,_,_,rfl,rfl,aq.of qy,e2,c2,_,_,_,rfl,rfl,aq.of b2,rfl,rfl,_,rfl,dH (λcc=>?_) λcc=>⟨rfl,_,_,rfl⟩⟩
     have e:(nms qs).getD (k+1) ""=(nms qs).getD k "":=by
      have:=of_decide_eq_true cc
      injection this
     have hl1:k+1<(nms qs).length:=by rw[t_];omega
     have hl2:k<(nms qs).length:=by rw[t_];omega
     rw[List.getD_eq_getElem?_getD,List.getD_eq_getElem?_getD,List.getElem?_eq_getElem hl1,List.getElem?_eq_getElem hl2] at e
     have e:(nms qs)[k+1]=(nms qs)[k]:=e
     exact absurd e.symm (List.pairwise_iff_getElem.mp hnd k (k+1) hl2 hl1 (by omega))
   . rintro σ H' ⟨rfl,y,z,rfl⟩
     exact⟨_,rfl,q1 t _ J5 hT5 qy⟩
theorem J8:bJ ["pairs"] ["pairs"] (aG (top 11)):=bN
theorem Z_ {Pt:Addr}(T:Tb mg)(kh:Dn K mg "record_of" ["pairs"] (top 11) xZ yc)(j9:Dn K mg "sorted_fields" ["pairs"] (top 10) xY ud)(aac:aC P w K mg base aH (8) xY ud ["pairs"] (J1 K Pt)):aC P w K mg base aH (9) xZ yc ["pairs"] (J3 K Pt):=by
 refine kh.F.ok J8 (λvs H Q E h=>?_) (λcdv A outer s H vs Q E hr h=>?_)
 . obtain⟨l,qs,rfl,_⟩:=h
   rfl
 obtain⟨l,qs,rfl,hl,hp,h13,hT,hnd,hso,q1⟩:=h
 have nd:=J8.nd
 refine⟨_,(aJ (aU (dU (aj bV (aj (aY aac (hr.mono (by omega)) rfl j9.m j9.F.kp j9.b .nil aO (aj (pv 0) ak)) ak))))),?_⟩
 refine⟨_,rfl,l,qs,rfl,hl,hp,h13,hT,hnd,hso,λt H' kp hT' ht'=>?_⟩
 refine⟨gY,λr hr'=>?_⟩
 exact q1 r t _ (kp.trans (Kp.of (Same.new hr'))) (hT'.same (Same.new hr')) (by rw[aB (aW ht' hr')];exact ht') aK
noncomputable abbrev aad:R2:=λx y H Q=>y=.non/\Q (.bl (!decide (x=.non))) H
theorem aae (f:Str->V){ss:List Str}{x:Str}(h:x ∉ ss):putK (aN f ss) (Sum.inr x) (f x)=aN f (ss++[x]):=by
 unfold putK
 rw[if_neg]
 . unfold aN
   rw[List.map_append]
   rfl
 . rw[vQ,eU,if_neg h]
   decide
theorem Fs.qz:∀{fs:Fs}{x:Str},x∈fs.names->∃k,fs.get x=some k
 | .nil,_,h=>nomatch h
 | .cons y q r,x,h=>by
   by_cases e:x=y
   . exact⟨q,by show(if x=y then some q else r.get x)=_;rw[if_pos e]⟩
   . obtain⟨k,hk⟩:=Fs.qz (fs:=r) (x:=x) (by
      rcases List.mem_cons.mp h with z|z
      . exact absurd z e
      . exact z)
     exact⟨k,by show(if x=y then some q else r.get x)=_;rw[if_neg e];exact hk⟩
theorem qC (i:Nat):(List.replicate i true).all id=true:=by
 rw[List.all_eq_true]
 intro z hz
 rw[List.eq_of_mem_replicate hz]
 rfl
theorem J9 {ss:List Str}{i:Nat}{v:V}(h:(ss.map V.str)[i]? =some v):∃x,ss[i]? =some x/\v=.str x:=by
 rw[List.getElem?_map] at h
 cases e:ss[i]? with
 |none=>rw[e] at h;cases h
 |some x=>rw[e] at h;exact⟨x,rfl,(Option.some.inj h).symm⟩
theorem aaf (ss:List Str):((List.range ss.length).map λi=>(Sum.inr (ss.getD i ""):Key))=ss.map Sum.inr:=by
 refine List.ext_getElem (by simp) λi h1 h2=>?_
 have hi:i<ss.length:=by simpa using h2
 rw[List.getElem_map,List.getElem_range,List.getElem_map,List.getD_eq_getElem?_getD,List.getElem?_eq_getElem hi]
 rfl
theorem au.uf {K:W.Frag}{H H':Hp}{l:Addr}{xs:List V}(h:au K H l xs)(s:Same H H'):au K H' l xs:=by
 rcases h with(h|⟨o,h⟩)|h
 . exact .inl (.inl (s _ _ h))
 . exact .inl (.inr ⟨o,s _ _ h⟩)
 . exact .inr h
noncomputable def J_:Sp:=λvs H Q _=>vs=[.bl true]/\Q .non H
noncomputable def Kc (K:W.Frag):Sp:=λvs H Q _=>∃kk t l xs fs,∃ss:List Str,vs=[.ref kk,.ref l]/\H kk=some (.tup [.str "record",.ref t])/\H t=some (.tup xs)/\FA H xs fs/\fs.names.Nodup/\au K H l (ss.map V.str)/\ss.Nodup/\ss.length<=12/\(∀x∈ss,x∈fs.names)/\∀H',Same H H'->Q (.bl true) H'
noncomputable def Ke (K:W.Frag):Sp:=λvs H Q _=>∃t l xs fs,∃ss:List Str,vs=[.ref t,.ref l]/\H t=some (.tup xs)/\FA H xs fs/\fs.names.length<=12/\au K H l (ss.map V.str)/\∀p H',Same H H'->H' p=some (.lst (gP ss xs fs.names))->H p=none->Q (.ref p) H'
noncomputable def Kf (K:W.Frag):Sp:=λvs H Q _=>∃a l kvs,∃ss:List Str,∃f:Str->V,vs=[.ref a,.ref l]/\H a=some (.dK kvs)/\au K H l (ss.map V.str)/\ss.Nodup/\ss.length<=12/\(∀x∈ss,dB kvs (Sum.inr x)=some (f x))/\∀p H',Same H H'->H' p=some (.dK (aN f ss))->H p=none->Q (.ref p) H'
theorem Kg:bJ ["stands"] ["stands"] (aG (top 47)):=bN
theorem aag (T:Tb mg)(kj:Dn K mg "ask_stands" ["stands"] (top 47) yd yg):aC P w K mg base aH (1) yd yg ["stands"] (J_):=by
 refine kj.F.ok Kg (λvs H Q E h=>?_) (λcdv A outer s H vs Q E hr h=>?_)
 . obtain⟨rfl,_⟩:=h
   rfl
 obtain⟨rfl,q⟩:=h
 have nd:=Kg.nd
 refine⟨_,(aJ (bh (jO (cH (pv 0))) (aJ aP) bf)),?_⟩
 exact⟨_,rfl,true,rfl,bM q⟩
theorem Kh:bJ ["kind","names"] ["kind","names"] (aG (top 50)):=bN
theorem aah (T:Tb mg)(kE:Dn K mg "has_each_once" ["kind","names"] (top 50) yh yj)(gn:Dn K mg "kind_at" ["fields","name"] (top 9) qt qu)(yp:aC P w K mg base aH (1) qt qu ["fields","name"] (xU)):aC P w K mg base aH (3) yh yj ["kind","names"] (Kc K):=by
 refine kE.F.ok Kh (λvs H Q E h=>?_) (λcdv A outer s H vs Q E hr h=>?_)
 . obtain⟨kk,t,l,xs,fs,ss,rfl,_⟩:=h
   rfl
 obtain⟨kk,t,l,xs,fs,ss,rfl,hkk,ht,hfa,hnd,hl,hsn,h12,hin,q⟩:=h
 have nd:=Kh.nd
 refine⟨_,(ao (bh (bx lO (aR Za (by rfl) T.dw PySem.boot_len (aj (fW (Y_ rfl) (by rfl) T.Zc boot_set (aj (pv 1) ak)) ak)) (aR eE (by rfl) T.dw PySem.boot_len (aj (pv 1) ak)) (aX _)) (aJ (aU ni)) bf)
  (aJ (aU (h_ (iB bK (bB bZ (pv 0) aF (λ_ _=>rfl)) bV (aX _)) (i_ (aR (pK rfl) (by rfl) T.p8 boot_all (aj (fG (g:=(cB 0)) (tt:=dW) (te:=(bD aad (lV _ _ _ (bY (bD (jU K) (aV 1) (tC (.int 1))) (bY (aV 0) fu))) (tC .non))) (own:=["name"]) rfl (cI.of (N:=["kind","names"]) (sc:=aG (top 50)) rfl rfl rfl (by decide +kernel)) (pB (pv 1)) (λ_ _ _ _ _=>(bQ (i:=0) (show(["name","kind","names"]:List Str).Nodup by decide +kernel) rfl (Or.inl rfl) (.inr rfl))) (λ_ _ _ _ _=>gH) (λ_ _ _ _ _=>(iB vB (aY yp (hr.mono (by omega)) rfl gn.m gn.F.kp gn.b .nil aO (aj (bB bZ (pv 1) aF (λ_ _=>rfl)) (aj (pv 0) ak))) dO (aX _)))) ak))))))),?_⟩
 refine⟨_,rfl,l,ss,rfl,hl,by omega,λp hp=>?_⟩
 have s1:Same H (upd H p (p7 P w p (cY (λi=>Sum.inr (ss.getD i "")) ss.length).length)):=Same.new hp
 have hml:(cY (λi=>(Sum.inr (ss.getD i ""):Key)) ss.length).length=ss.length:=by
  have hn:((List.range ss.length).map λi=>(Sum.inr (ss.getD i ""):Key)).Nodup:=by
   rw[aaf]
   exact List.Pairwise.map _ (λa b h z=>h (Sum.inr.inj z)) hsn
  rw[Jq hn,List.length_map,List.length_range]
 refine⟨p,_,rfl,aK,?_⟩
 have hl1:au K (upd H p (p7 P w p (cY (λi=>Sum.inr (ss.getD i "")) ss.length).length)) l (ss.map V.str):=(Pb.au.uf hl s1)
 rw[hml] at s1 hl1 ⊢
 refine⟨_,rfl,l,_,rfl,.inl hl1,rfl,_,rfl,WY (by rw[List.length_map]) ?_⟩
 refine⟨_,rfl,kk,_,_,_,rfl,rfl,aq.of (s1 _ _ hkk),rfl,rfl,_,rfl,?_⟩
 rw[decide_eq_true rfl]
 refine bW ?_
 have ht1:=s1 _ _ ht
 have aai:=s1 _ _ hkk
 have aaj:=FA.mono (Tu.of s1) fs hfa
 refine⟨_,rfl,l,rfl,⟨_,hl1⟩,λi m ys H'=>H'=upd H p (p7 P w p ss.length)/\m=ss.length - i/\i<=ss.length/\ys=(List.replicate i true).map V.bl,⟨ss.length,rfl,by simp,Nat.zero_le _,rfl⟩,?_⟩
 rintro i m ys H' ⟨rfl,rfl,hi,rfl⟩
 by_cases hlt:i<ss.length
 . refine .inr ⟨⟨_,.str ss[i],hl1,by rw[List.getElem?_map,List.getElem?_eq_getElem hlt];rfl⟩,by rw[List.length_map,List.length_replicate];exact cX (by omega),λx H' y=>?_⟩
   obtain⟨rfl,y⟩:=y
   have hx:=y _ hl1
   have ex:x=.str ss[i]:=by
    rw[List.getElem?_map,List.getElem?_eq_getElem hlt] at hx
    exact(Option.some.inj hx).symm
   subst ex
   obtain⟨k,hk⟩:=Fs.qz (hin _ (List.getElem_mem hlt))
   refine⟨rfl,yes (bW ?_)⟩
   refine⟨_,rfl,kk,_,_,_,rfl,rfl,aq.of aai,rfl,_,rfl,t,ss[i],xs,fs,k,rfl,ht1,aaj,hnd,hk,λu hu hne=>⟨rfl,?_⟩⟩
   rw[decide_eq_false hne]
   refine⟨ss.length - (i+1),by omega,rfl,rfl,hlt,?_⟩
   rw[List.replicate_succ',List.map_append]
   rfl
 . refine .inl ⟨⟨_,hl1,by rw[List.length_map];exact Nat.le_of_not_lt hlt⟩,λp hp=>⟨p,List.replicate i true,rfl,au.of aK,?_⟩⟩
   rw[qC]
   exact q _ (s1.trans (Same.new hp))
theorem Kl:bJ ["fields","names"] ["fields","names"] (aG (top 51)):=bN
theorem aak (T:Tb mg)(kI:Dn K mg "fields_among" ["fields","names"] (top 51) yq yr):aC P w K mg base aH (1) yq yr ["fields","names"] (Ke K):=by
 refine kI.F.ok Kl (λvs H Q E h=>?_) (λcdv A outer s H vs Q E hr h=>?_)
 . obtain⟨t,l,xs,fs,ss,rfl,_⟩:=h
   rfl
 obtain⟨t,l,xs,fs,ss,rfl,ht,hfa,h12,hl,q⟩:=h
 have nd:=Kl.nd
 refine⟨_,(aJ (aU (fG (g:=(cB 0)) (tt:=(jd (bD (vM K false) (bD (jU K) (aV 0) (tC (.int 0))) (aV 2)))) (te:=(aV 0)) (own:=["pair"]) rfl (cI.of (N:=["fields","names"]) (sc:=aG (top 51)) rfl rfl rfl (by decide +kernel)) (jR (pv 0)) (λ_ _ _ _ _=>(bQ (i:=0) (show(["pair","fields","names"]:List Str).Nodup by decide +kernel) rfl (Or.inl rfl) (.inr rfl))) (λ_ _ _ _ _=>(sI (bx GP (bB bZ (pv 0) aF (λ_ _=>rfl)) (pv 2) (by with_unfolding_all rfl)))) (λ_ _ _ _ _=>(pv 0))))),?_⟩
 have tY:=FA.len fs hfa
 refine⟨_,rfl,t,rfl,⟨_,aq.of ht⟩,λi m ys H'=>H'=H/\m=xs.length - i/\i<=xs.length/\ys=(((xs.zip fs.names).take i).filter λq=>decide (q.2∈ss)).map (·.1),⟨xs.length,rfl,by simp,Nat.zero_le _,rfl⟩,?_⟩
 rintro i m ys H' ⟨rfl,rfl,hi,rfl⟩
 by_cases hlt:i<xs.length
 . have hb:((((xs.zip fs.names).take i).filter λq=>decide (q.2∈ss)).map (·.1)).length<=i:=by
    rw[List.length_map]
    exact Nat.le_trans (List.length_filter_le _ _) (by rw[List.length_take];omega)
   refine .inr ⟨⟨xs,xs[i],aq.of ht,by simp[hlt]⟩,cX (by omega),λx H' y=>?_⟩
   obtain⟨rfl,y⟩:=y
   have hv:=y xs (aq.of ht)
   obtain⟨c,u,nm,k,rfl,hat,hc,hk⟩:=FA.get fs hfa hv
   have hnm:fs.names[i]? =some nm:=by rw[Fs.gK,hat];rfl
   have hz:(xs.zip fs.names)[i]? =some (.ref c,nm):=by
    rw[List.getElem?_zip_eq_some]
    exact⟨hv,hnm⟩
   have step:(((xs.zip fs.names).take (i+1)).filter λq=>decide (q.2∈ss)).map (·.1)=(((xs.zip fs.names).take i).filter λq=>decide (q.2∈ss)).map (·.1)++(if nm∈ss then [V.ref c] else []):=by
    rw[List.take_succ,hz,List.filter_append,List.map_append]
    congr 1
    show(List.filter _ [(V.ref c,nm)]).map _=_
    rw[List.filter_cons]
    by_cases e:nm∈ss
    . rw[if_pos (decide_eq_true e),if_pos e];rfl
    . rw[if_neg (by show ¬decide (nm∈ss)=true;rw[decide_eq_false e];decide),if_neg e];rfl
   refine⟨rfl,_,rfl,c,_,_,_,rfl,rfl,aq.of hc,rfl,_,rfl,l,_,rfl,.inl hl,rfl,xV,_,rfl,?_⟩
   refine dH (λcc=>?_) (λcc=>?_)
   . have e:nm∈ss:=of_decide_eq_true (uc.symm.trans (show inV (V.str nm) (ss.map V.str)=true from cc))
     refine⟨_,rfl,xs.length - (i+1),by omega,rfl,rfl,hlt,?_⟩
     rw[step,if_pos e]
   . have e:¬nm∈ss:=λz=>cc (show inV (V.str nm) (ss.map V.str)=true from uc.trans (decide_eq_true z))
     refine⟨xs.length - (i+1),by omega,rfl,rfl,hlt,?_⟩
     rw[step,if_neg e,List.append_nil]
 . refine .inl ⟨⟨xs,aq.of ht,Nat.le_of_not_lt hlt⟩,λp hp=>?_⟩
   refine q p _ (Same.new hp) ?_ hp
   rw[aK]
   unfold gP
   rw[List.take_of_length_le (by rw[List.length_zip];omega)]
theorem Km:bJ ["record","names","part","name"] ["record","names"] (aG (top 52)):=bN
theorem aal (T:Tb mg)(kJ:Dn K mg "part_of" ["record","names"] (top 52) yt yu):aC P w K mg base aH (1) yt yu ["record","names"] (Kf K):=by
 refine kJ.F.ok Km (λvs H Q E h=>?_) (λcdv A outer s H vs Q E hr h=>?_)
 . obtain⟨a,l,kvs,ss,f,rfl,_⟩:=h
   rfl
 obtain⟨a,l,kvs,ss,f,rfl,ha,hl,hsn,h12,hv,q⟩:=h
 have nd:=Km.nd
 have hu:=iG hr
 refine⟨_,(ao (bI (i:=2) nd rfl (Or.inl rfl) WM)
  (ao (lN PassesOwn.never rfl (pB (pv 1)) (bQ (i:=3) nd rfl (Or.inl rfl)) (aJ (vV hu (pv 2) (pv 3) (iD hu (pv 0) (pv 3) (λ_ _=>rfl)) rfl)))
  (aJ (aU (pv 2))))),?_⟩
 intro p hp
 have s0:Same H (upd H p (.dK [])):=Same.new hp
 refine⟨_,rfl,l,rfl,⟨_,(Pb.au.uf hl s0)⟩,U7 (xs:=ss.map V.str) (λi σ H'=>Same H H'/\(∃z,σ=[some (.ref a),some (.ref l),some (.ref p),z])/\H' p=some (.dK (aN f (ss.take i)))) ⟨s0,⟨_,rfl⟩,aK⟩ ?_ ?_ ?_⟩
 . rintro i σ H' _ ⟨s1,_⟩
   exact(Pb.au.uf hl s1)
 . rintro i v σ H' hv' ⟨s1,⟨z,rfl⟩,hp'⟩
   obtain⟨x,hx,rfl⟩:=J9 hv'
   have hi:i<ss.length:=(List.getElem?_eq_some_iff.mp hx).1
   have hxe:ss[i]=x:=(List.getElem?_eq_some_iff.mp hx).2
   refine⟨_,rfl,_,rfl,a,f x,rfl,?_,_,rfl,_,rfl,p,_,rfl,lZ.k (k:=Sum.inr x) hp' (by rw[jg,List.length_take];exact cX (by omega)),?_⟩
   . have:=cQ.k (k:=Sum.inr x) (s1 _ _ ha)
     rw[hv x (List.mem_of_getElem? hx)] at this
     exact this
   . refine⟨λc o e=>?_,⟨_,rfl⟩,?_⟩
     . rw[aB]
       . exact s1 c o e
       . exact aW e hp
     . rw[aK,aae f,List.take_succ,hx]
       . rfl
       . intro hm
         obtain⟨j,hj,e⟩:=List.getElem_of_mem hm
         rw[List.length_take] at hj
         rw[List.getElem_take] at e
         exact absurd (e.trans hxe.symm) (List.pairwise_iff_getElem.mp hsn j i (by omega) hi (by omega))
 . rintro σ H' ⟨s1,⟨z,rfl⟩,hp'⟩
   rw[List.length_map,List.take_length] at hp'
   exact⟨_,rfl,q p _ s1 hp' hp⟩
structure dG (H:Hp) (kk t:Addr) (xs:List V) (fs:Fs):Prop where
 at_:H kk=some (.tup [.str "record",.ref t])
 tu:H t=some (.tup xs)
 fa:FA H xs fs
 nd:fs.names.Nodup
 cV:fs.names.length<=12
 W:fs.W
 so:fs.names.Pairwise sle
theorem dG.mono {H H':Hp}{kk t:Addr}{xs:List V}{fs:Fs}(h:dG H kk t xs fs)(u:Tu H H'):dG H' kk t xs fs:=
 ⟨u _ _ h.at_,u _ _ h.tu,FA.mono u fs h.fa,h.nd,h.cV,h.W,h.so⟩
theorem dG.few {H:Hp}{kk t r t':Addr}{xs:List V}{fs:Fs}(ss:List Str)(h:dG H kk t xs fs)(h1:H r=some (.tup [.str "record",.ref t']))(h2:H t'=some (.tup (gP ss xs fs.names))):dG H r t' (gP ss xs fs.names) (fs.cj ss):=
 ⟨h1,h2,FA.few fs h.fa,by rw[Fs.fM];exact h.nd.filter _,by rw[Fs.fM];exact Nat.le_trans (List.length_filter_le _ _) h.cV,Fs.xX ss h.W,by rw[Fs.fM];exact h.so.filter _⟩
structure gQ (H:Hp) (C v dx nl:Addr) (ss:List Str):Prop where
 ob:H v=some (.ins C dx [("names",.ref nl)])
 nl:H nl=some (.lst (ss.map V.str))
 nd:ss.Nodup
 cV:ss.length<=12
structure kO (K:W.Frag) (mg:Str->Option Value) (C fI fB fS fP:Addr):Prop where
 ct:Cls K C
 na:lR K C "names"
 mkk:Mk K C fI
 m:mg "Take"=some (.ref C)
 b:Meth K C "behind" fB
 s:Meth K C "see" fS
 p:Meth K C "put" fP
noncomputable def Ko (K:W.Frag) (C:Addr):Sp:=λvs H Q _=>∃x hl dx,∃ss:List Str,vs=[.ref x,.ref hl]/\H x=some (.ins C dx [])/\au K H hl (ss.map V.str)/\∀p H',H p=none->(∀c o,c≠x->H c=some o->H' c=some o)->H' x=some (.ins C dx [("names",.ref p)])->H' p=some (.lst (ss.map V.str))->Q .non H'
noncomputable def ug (P2 C:Addr):Sp:=λvs H Q _=>∃v kk t dx nl xs fs ss,vs=[.ref v,.ref kk]/\gQ H C v dx nl ss/\dG H kk t xs fs/\(∀x∈ss,x∈fs.names)/\cg P2 dY dZ H/\∀r t' H',eV P2 H H'->cg P2 dY dZ H'->H' r=some (.tup [.str "record",.ref t'])->H' t'=some (.tup (gP ss xs fs.names))->Q (.ref r) H'
noncomputable def yw (C:Addr):Sp:=λvs H Q _=>∃v kv a dx nl ss kvs,∃f:Str->V,vs=[.ref v,kv,.ref a]/\gQ H C v dx nl ss/\H a=some (.dK kvs)/\(∀x∈ss,dB kvs (Sum.inr x)=some (f x))/\∀p H',Same H H'->H' p=some (.dK (aN f ss))->H p=none->Q (.ref p) H'
section
variable {P:Program}{w:World}{K:W.Frag}{mg:Str->Option Value}{base:Heap}
variable {C P2:Addr}
theorem Kq:bJ ["self","names"] ["self","names"] (aG (bH 53 0)):=bN
theorem aao (T:Tb mg)(TK:kO K mg C jh fO gR ji)(n_:Dm K "__init__" "Take.__init__" ["self","names"] (bH 53 0) jh yC):aC P w K mg base aH (1) jh yC ["self","names"] (Ko K C):=by
 refine n_.F.ok Kq (λvs H Q E h=>?_) (λcdv A outer s H vs Q E hr h=>?_)
 . obtain⟨x,hl,dx,ss,rfl,_⟩:=h
   rfl
 obtain⟨x,hl,dx,ss,rfl,hx,hs,q⟩:=h
 have nd:=Kq.nd
 refine⟨_,(aJ (Vk (pv 0) (fW rW (by rfl) T.fZ boot_list (aj (pv 1) ak)) rfl)),?_⟩
 refine⟨_,rfl,hl,_,rfl,.inl hs,λp hp=>?_⟩
 have hpx:x≠p:=aW hx hp
 refine⟨_,rfl,x,C,dx,[],rfl,by rw[aB hpx];exact hx,TK.ct,TK.na,by decide,?_⟩
 refine q p _ hp (λc o hc e=>by rw[aB hc,aB (aW e hp)];exact e) aK ?_
 rw[aB (Ne.symm hpx),aK]
theorem Kr:bJ ["self","kind"] ["self","kind"] (aG (bH 53 1)):=bN
theorem aap (T:Tb mg)(TK:kO K mg C jh fO gR ji)(gU:Dm K "behind" "Take.behind" ["self","kind"] (bH 53 1) fO mL)(kj:Dn K mg "ask_stands" ["stands"] (top 47) yd yg)(aaq:aC P w K mg base aH (1) yd yg ["stands"] (J_))(kE:Dn K mg "has_each_once" ["kind","names"] (top 50) yh yj)(aar:aC P w K mg base aH (3) yh yj ["kind","names"] (Kc K))(kI:Dn K mg "fields_among" ["fields","names"] (top 51) yq yr)(aas:aC P w K mg base aH (1) yq yr ["fields","names"] (Ke K))(kh:Dn K mg "record_of" ["pairs"] (top 11) xZ yc)(aat:aC P w K mg base aH (9) xZ yc ["pairs"] (J3 K P2)):aC P w K mg base aH (10) fO mL ["self","kind"] (ug P2 C):=by
 refine gU.F.ok Kr (λvs H Q E h=>?_) (λcdv A outer s H vs Q E hr h=>?_)
 . obtain⟨v,kk,t,dx,nl,xs,fs,ss,rfl,_⟩:=h
   rfl
 obtain⟨v,kk,t,dx,nl,xs,fs,ss,rfl,hV,hK,hin,hT,q⟩:=h
 have nd:=Kr.nd
 refine⟨_,(ao (o_ (aY aaq (hr.mono (by omega)) rfl kj.m kj.F.kp kj.b .nil aO (aj (aY aar (hr.mono (by omega)) rfl kE.m kE.F.kp kE.b .nil aO (aj (pv 1) (aj (vG (pv 0) rfl) ak))) ak)))
  (aJ (aU (aY aat (hr.mono (by omega)) rfl kh.m kh.F.kp kh.b .nil aO (aj (aY aas (hr.mono (by omega)) rfl kI.m kI.F.kp kI.b .nil aO (aj (bB bZ (pv 1) aF (λ_ _=>rfl)) (aj (vG (pv 0) rfl) ak))) ak))))),?_⟩
 refine⟨_,rfl,_,rfl,v,C,dx,_,_,rfl,hV.ob,TK.ct,TK.na,rfl,kk,t,nl,xs,fs,ss,rfl,hK.at_,hK.tu,hK.fa,hK.nd,au.of hV.nl,hV.nd,hV.cV,hin,λH1 s1=>⟨rfl,?_⟩⟩
 have gq:=hK.mono (Tu.of s1)
 refine⟨_,rfl,kk,_,_,_,rfl,rfl,aq.of gq.at_,rfl,_,rfl,v,C,dx,_,_,rfl,s1 _ _ hV.ob,TK.ct,TK.na,rfl,t,nl,xs,fs,ss,rfl,gq.tu,gq.fa,gq.cV,au.of (s1 _ _ hV.nl),λp H2 s2 hp2 _=>?_⟩
 have s12:=s1.trans s2
 have yD:=gq.mono (Tu.of s2)
 obtain⟨qs,e1,e2,hpr⟩:=iI.of (FA.few (ss:=ss) fs yD.fa)
 rw[<-e1] at hp2
 have h12:qs.length<=12:=by
  rw[<-t_,e2,Fs.fM]
  exact Nat.le_trans (List.length_filter_le _ _) hK.cV
 refine⟨p,qs,rfl,au.of hp2,hpr,by omega,hT.same s12,by rw[e2,Fs.fM];exact hK.nd.filter _,by rw[e2,Fs.fM];exact hK.so.filter _,λr t' H' kp hT' ht' hr'=>?_⟩
 exact q r t' H' ((Kp.of s12).trans kp) hT' hr' (by rw[ht',e1])
theorem Ks:bJ ["self","kind","source"] ["self","kind","source"] (aG (bH 53 2)):=bN
theorem aau (T:Tb mg)(TK:kO K mg C jh fO gR ji)(jj:Dm K "see" "Take.see" ["self","kind","source"] (bH 53 2) gR qD)(kJ:Dn K mg "part_of" ["record","names"] (top 52) yt yu)(aav:aC P w K mg base aH (1) yt yu ["record","names"] (Kf K)):aC P w K mg base aH (2) gR qD ["self","kind","source"] (yw C):=by
 refine jj.F.ok Ks (λvs H Q E h=>?_) (λcdv A outer s H vs Q E hr h=>?_)
 . obtain⟨v,kv,a,dx,nl,ss,kvs,f,rfl,_⟩:=h
   rfl
 obtain⟨v,kv,a,dx,nl,ss,kvs,f,rfl,hV,ha,hf,q⟩:=h
 have nd:=Ks.nd
 refine⟨_,(aJ (aU (aY aav (hr.mono (by omega)) rfl kJ.m kJ.F.kp kJ.b .nil aO (aj (pv 2) (aj (vG (pv 0) rfl) ak))))),?_⟩
 exact⟨_,rfl,_,rfl,v,C,dx,_,_,rfl,hV.ob,TK.ct,TK.na,rfl,a,nl,kvs,ss,f,rfl,ha,au.of hV.nl,hV.nd,hV.cV,hf,q⟩
end
noncomputable def Ku:Sp:=λvs H Q _=>∃b a xs kvs fs,vs=[.ref b,.ref a]/\H b=some (.tup xs)/\FA H xs fs/\fs.names.length<=12/\H a=some (.dK kvs)/\kvs.length=fs.names.length/\(∀i nm k,fs.at i=some (nm,k)->∃v,dB kvs (Sum.inr nm)=some v)/\∀H',Same H H'->Q (.bl true) H'
noncomputable def yE (fs:Fs) (kvs:List (Key × V)):Prop:=kvs.length=fs.names.length/\∀i nm k,fs.at i=some (nm,k)->∃v,dB kvs (Sum.inr nm)=some v/\cR k v
theorem aaw {k:Kd}{v:V}(h:cR k v):iH k:=by
 cases k with
 |num=>trivial
 |dI=>trivial
 |_=>exact h.elim
noncomputable def yF:Sp:=λvs H Q _=>∃kv v k,vs=[kv,v]/\KA H kv k/\cR k v/\Q .non H
noncomputable def Kv:Sp:=λvs H Q _=>∃b a xs kvs fs,vs=[.ref b,.ref a]/\H b=some (.tup xs)/\FA H xs fs/\fs.names.length<=12/\H a=some (.dK kvs)/\yE fs kvs/\∀H',Same H H'->Q .non H'
noncomputable def uh:Sp:=λvs H Q _=>∃kk t a xs kvs fs,vs=[.ref kk,.ref a]/\dG H kk t xs fs/\H a=some (.dK kvs)/\yE fs kvs/\∀H',Same H H'->Q .non H'
noncomputable def Kw:Sp:=λvs H Q _=>∃kv k,vs=[kv]/\KA H kv k/\iH k/\∀H',Same H H'->Q (.bl true) H'
noncomputable def gW (f g:Str->V) (ss:List Str):Str->V:=λx=>if x∈ss then g x else f x
theorem Ky {l:List Str}(g:Str->V):∀(ss:List Str) (f:Str->V),(∀x∈ss,x∈l)->jE (aN f l) (aN g ss)=aN (gW f g ss) l
 |[],f,_=>JW λx _=>by unfold gW;rw[if_neg (by simp)]
 |y::r,f,h=>by
  show jE (putK (aN f l) (Sum.inr y) (g y)) (aN g r)=_
  rw[xM _ (h y List.mem_cons_self),Ky g r _ λx hx=>h x (List.mem_cons_of_mem _ hx)]
  refine JW λx _=>?_
  unfold gW dJ
  by_cases e1:x∈r
  . rw[if_pos e1,if_pos (List.mem_cons_of_mem _ e1)]
  . rw[if_neg e1]
    by_cases e2:x=y
    . rw[if_pos e2,if_pos (by rw[e2];exact List.mem_cons_self),e2]
    . rw[if_neg e2,if_neg (λz=>(List.mem_cons.mp z).elim e2 e1)]
noncomputable def Kz (P2 C:Addr):Sp:=λvs H Q _=>∃v kk t dx nl xs fs ss src sn,∃f g:Str->V,vs=[.ref v,.ref kk,.ref src,.ref sn]/\gQ H C v dx nl ss/\dG H kk t xs fs/\(∀x∈ss,x∈fs.names)/\cg P2 dY dZ H/\H src=some (.dK (aN f fs.names))/\H sn=some (.dK (aN g ss))/\yE (fs.cj ss) (aN g ss)/\
 ∀p H',eV P2 H H'->cg P2 dY dZ H'->H' p=some (.dK (aN (gW f g ss) fs.names))->Q (.ref p) H'
section
variable {P:Program}{w:World}{K:W.Frag}{mg:Str->Option Value}{base:Heap}
variable {C P2:Addr}
theorem KC:bJ ["fields","record"] ["fields","record"] (aG (top 15)):=bN
theorem aax (T:Tb mg)(kW:Dn K mg "has_just" ["fields","record"] (top 15) yG yH):aC P w K mg base aH (1) yG yH ["fields","record"] (Ku):=by
 refine kW.F.ok KC (λvs H Q E h=>?_) (λcdv A outer s H vs Q E hr h=>?_)
 . obtain⟨b,a,xs,kvs,fs,rfl,_⟩:=h
   rfl
 obtain⟨b,a,xs,kvs,fs,rfl,hb,hfa,hx,ha,hkl,hget,q⟩:=h
 have nd:=KC.nd
 have hu:=iG hr
 refine⟨_,(aJ (aU (h_ (iB bK (aR vW (by rfl) T.dw PySem.boot_len (aj (pv 1) ak)) (aR eE (by rfl) T.dw PySem.boot_len (aj (pv 0) ak)) (aX _)) (i_ (aR (pK rfl) (by rfl) T.p8 boot_all (aj (fG (g:=(nF K 2 (iu (cB 0) (iu (cB 1) nu)))) (tt:=dW) (te:=_) (own:=["name","inner"]) rfl (cI.of (N:=["fields","record"]) (sc:=aG (top 15)) rfl rfl rfl (by decide +kernel)) (jR (pv 0)) (λ_ _ _ _ _=>(iy rfl (cW (bQ (i:=0) (show(["name","inner","fields","record"]:List Str).Nodup by decide +kernel) rfl (Or.inl rfl) (.inr rfl)) (cW (bQ (i:=1) (show(["name","inner","fields","record"]:List Str).Nodup by decide +kernel) rfl (Or.inl rfl) (.inr rfl)) iw)))) (λ_ _ _ _ _=>gH) (λ_ _ _ _ _=>(Fx (G6 hu (pv 0) (pv 3)) (by with_unfolding_all rfl)))) ak)))))),?_⟩
 have e1:kvs.length=xs.length:=by rw[hkl,FA.len fs hfa]
 have hx':xs.length<=12:=by rw[FA.len fs hfa];exact hx
 refine⟨_,rfl,a,_,rfl,ha,_,rfl,b,_,rfl,.inr (aq.of hb),rfl,_,rfl,?_⟩
 rw[decide_eq_true (show V.int (kvs.length:Nat)=V.int (xs.length:Nat) by rw[e1])]
 refine bW ?_
 refine⟨_,rfl,b,rfl,⟨_,aq.of hb⟩,λi m ys H'=>H'=H/\m=xs.length - i/\i<=xs.length/\ys=(List.replicate i true).map V.bl,⟨xs.length,rfl,by simp,Nat.zero_le _,rfl⟩,?_⟩
 rintro i m ys H' ⟨rfl,rfl,hi,rfl⟩
 by_cases hlt:i<xs.length
 . refine .inr ⟨⟨xs,xs[i],aq.of hb,by simp[hlt]⟩,by rw[List.length_map,List.length_replicate];exact cX (by omega),λx H' y=>?_⟩
   obtain⟨rfl,y⟩:=y
   have hv:=y xs (aq.of hb)
   obtain⟨c,u,nm,k,rfl,hat,hc,hk⟩:=FA.get fs hfa hv
   obtain⟨v,hval⟩:=hget i nm k hat
   refine⟨c,_,rfl,aq.of hc,rfl,_,_,rfl,_,_,rfl,rfl,rfl,yes (bW ?_)⟩
   refine⟨_,rfl,_,rfl,a,_,rfl,cQ.k (k:=Sum.inr nm) ha,?_⟩
   rw[hval]
   refine⟨xs.length - (i+1),by omega,rfl,rfl,hlt,?_⟩
   rw[List.replicate_succ',List.map_append]
   rfl
 . refine .inl ⟨⟨xs,aq.of hb,Nat.le_of_not_lt hlt⟩,λp hp=>⟨p,List.replicate i true,rfl,au.of aK,?_⟩⟩
   rw[qC]
   exact q _ (Same.new hp)
theorem um:bJ ["kind","value","form"] ["kind","value"] (aG (top 13)):=bN
theorem aay (T:Tb mg)(dh:Dn K mg "misfit" ["kind","value"] (top 13) jF jG):aC P w K mg base aH (1) jF jG ["kind","value"] (yF):=by
 refine dh.F.ok um (λvs H Q E h=>?_) (λcdv A outer s H vs Q E hr h=>?_)
 . obtain⟨kv,v,k,rfl,_⟩:=h
   rfl
 obtain⟨kv,v,k,rfl,hk,hv,q⟩:=h
 have nd:=um.nd
 refine⟨_,(ao (bI (i:=2) nd rfl (Or.inl rfl) (bB bZ (pv 0) aF (λ_ _=>rfl)))
  (ao (bh (bx bK (pv 2) bV (aX _)) (aJ (aU (ig (PW.pt (rz (cH (aR bR (by rfl) T.bT boot_isinstance (aj (pv 1) (aj (bO (v:=.ty "int") rfl T.tR boot_int rfl) ak)))) (rm (jO (cH (aR bR (by rfl) T.bT boot_isinstance (aj (pv 1) (aj (bO (v:=.ty "bool") rfl T.tU boot_bool rfl) ak)))))))) dO (fC ak)))) bf)
  (ao (bh (bx bK (pv 2) bV (aX _)) (aJ (aU (ig (cH (aR bR (by rfl) T.bT boot_isinstance (aj (pv 1) (aj (bO (v:=.ty "str") rfl T.nY boot_str rfl) ak)))) dO (fC ak)))) bf)
  (ao (bh (bx bK (pv 2) bV (aX _)) (aJ aP) bf)
  (ao (bh (bx bK (pv 2) bV (aX _)) (aJ aP) bf)
  (ao (bh (bx bK (pv 2) bV (aX _)) (aJ aP) bf)
  (aJ aP))))))),?_⟩
 cases k with
 |num=>
  unfold KA at hk
  obtain⟨a,rfl,ha⟩:=hk
  obtain⟨z,rfl⟩:=hv
  refine⟨_,rfl,a,_,_,_,rfl,rfl,aq.of ha,rfl,?_⟩
  refine pL rfl (by decide +kernel) ?_
  refine⟨_,rfl,_,_,_,true,rfl,.int z,rfl,true,rfl,bW ?_⟩
  exact⟨_,rfl,_,_,_,false,rfl,.int z,rfl,false,rfl,bW q⟩
 |dI=>
  unfold KA at hk
  obtain⟨a,rfl,ha⟩:=hk
  obtain⟨z,rfl⟩:=hv
  refine⟨_,rfl,a,_,_,_,rfl,rfl,aq.of ha,rfl,?_⟩
  refine nQ rfl (by decide +kernel) ?_
  refine pL rfl (by decide +kernel) ?_
  exact⟨_,rfl,_,_,_,true,rfl,.str z,rfl,true,rfl,bW q⟩
 |_=>exact hv.elim
theorem KD:bJ ["fields","record","name","inner","place"] ["fields","record"] (aG (top 14)):=bN
theorem aaz (T:Tb mg)(kY:Dn K mg "record_misfit" ["fields","record"] (top 14) yI yJ)(kW:Dn K mg "has_just" ["fields","record"] (top 15) yG yH)(aaA:aC P w K mg base aH (1) yG yH ["fields","record"] (Ku))(dh:Dn K mg "misfit" ["kind","value"] (top 13) jF jG)(qF:aC P w K mg base aH (1) jF jG ["kind","value"] (yF)):aC P w K mg base aH (2) yI yJ ["fields","record"] (Kv):=by
 refine kY.F.ok KD (λvs H Q E h=>?_) (λcdv A outer s H vs Q E hr h=>?_)
 . obtain⟨b,a,xs,kvs,fs,rfl,_⟩:=h
   rfl
 obtain⟨b,a,xs,kvs,fs,rfl,hb,hfa,hx,ha,⟨hkl,hget⟩,q⟩:=h
 have nd:=KD.nd
 have hu:=iG hr
 refine⟨_,(ao (bh (PW.pt (iZ (jO (cH (aR bR (by rfl) T.bT boot_isinstance (aj (pv 1) (aj (bO (v:=.ty "dict") rfl T.gM boot_dict rfl) ak))))) (iY (jO (cH (aY aaA (hr.mono (by omega)) rfl kW.m kW.F.kp kW.b .nil aO (aj (pv 0) (aj (pv 1) ak)))))))) (aJ (aU (fC ak))) bf)
  (ao (lN PassesOwn.never rfl (jR (pv 0)) (iy rfl (cW (bQ (i:=2) nd rfl (Or.inl rfl)) (cW (bQ (i:=3) nd rfl (Or.inl rfl)) iw))) (ao (bI (i:=4) nd rfl (Or.inl rfl) (aY qF (hr.mono (by omega)) rfl dh.m dh.F.kp dh.b .nil aO (aj (pv 3) (aj (iD hu (pv 1) (pv 2) (λ_ _=>rfl)) ak))))
  (aJ (bh (bx vB (pv 4) dO (aX _)) (aJ aP) bf))))
  (aJ (aU dO)))),?_⟩
 refine⟨_,rfl,_,_,_,true,rfl,.dK ha,rfl,true,rfl,bM ?_⟩
 refine⟨_,rfl,_,rfl,b,a,xs,kvs,fs,rfl,hb,hfa,hx,ha,hkl,(λi nm k h=>by obtain⟨v,hv,_⟩:=hget i nm k h;exact⟨v,hv⟩),λH1 s1=>⟨true,rfl,bM ?_⟩⟩
 refine⟨_,rfl,b,rfl,⟨_,aq.of (s1 _ _ hb)⟩,vh (xs:=xs) (λi σ H'=>Same H H'/\∃x y z,σ=[some (.ref b),some (.ref a),x,y,z]) ⟨s1,_,_,_,rfl⟩ ?_ ?_ ?_⟩
 . rintro i σ H' _ ⟨s2,_⟩
   exact aq.of (s2 _ _ hb)
 . rintro i v σ H' hv ⟨s2,x,y,z,rfl⟩
   obtain⟨c,u,nm,k,rfl,hat,hc,hk⟩:=FA.get fs hfa hv
   obtain⟨e,hval,hpl⟩:=hget i nm k hat
   refine⟨c,_,rfl,aq.of (s2 _ _ hc),rfl,_,_,rfl,_,_,rfl,rfl,?_⟩
   refine⟨_,rfl,_,rfl,_,rfl,a,e,rfl,(by have:=cQ.k (k:=Sum.inr nm) (s2 _ _ ha);rw[hval] at this;exact this),u,e,k,rfl,KA.mono (Tu.of s2) k hk,hpl,?_⟩
   refine⟨_,rfl,rfl,_,rfl,?_⟩
   rw[decide_eq_true rfl]
   exact bM ⟨s2,_,_,_,rfl⟩
 . rintro σ H' ⟨s2,_⟩
   exact q _ s2
theorem aaB (T:Tb mg)(dh:Dn K mg "misfit" ["kind","value"] (top 13) jF jG)(kY:Dn K mg "record_misfit" ["fields","record"] (top 14) yI yJ)(aaC:aC P w K mg base aH (2) yI yJ ["fields","record"] (Kv)):aC P w K mg base aH (3) jF jG ["kind","value"] (uh):=by
 refine dh.F.ok um (λvs H Q E h=>?_) (λcdv A outer s H vs Q E hr h=>?_)
 . obtain⟨kk,t,a,xs,kvs,fs,rfl,_⟩:=h
   rfl
 obtain⟨kk,t,a,xs,kvs,fs,rfl,hK,ha,hH,q⟩:=h
 have nd:=um.nd
 refine⟨_,(ao (bI (i:=2) nd rfl (Or.inl rfl) (bB bZ (pv 0) aF (λ_ _=>rfl)))
  (ao (bh (bx bK (pv 2) bV (aX _)) (aJ (aU (ig (PW.pt (rz (cH (aR bR (by rfl) T.bT boot_isinstance (aj (pv 1) (aj (bO (v:=.ty "int") rfl T.tR boot_int rfl) ak)))) (rm (jO (cH (aR bR (by rfl) T.bT boot_isinstance (aj (pv 1) (aj (bO (v:=.ty "bool") rfl T.tU boot_bool rfl) ak)))))))) dO (fC ak)))) bf)
  (ao (bh (bx bK (pv 2) bV (aX _)) (aJ (aU (ig (cH (aR bR (by rfl) T.bT boot_isinstance (aj (pv 1) (aj (bO (v:=.ty "str") rfl T.nY boot_str rfl) ak)))) dO (fC ak)))) bf)
  (ao (bh (bx bK (pv 2) bV (aX _)) (aJ (aU (aY aaC (hr.mono (by omega)) rfl kY.m kY.F.kp kY.b .nil aO (aj (bB bZ (pv 0) aF (λ_ _=>rfl)) (aj (pv 1) ak))))) bf)
  (ao (bh (bx bK (pv 2) bV (aX _)) (aJ aP) bf)
  (ao (bh (bx bK (pv 2) bV (aX _)) (aJ aP) bf)
  (aJ aP))))))),?_⟩
 refine⟨_,rfl,kk,_,_,_,rfl,rfl,aq.of hK.at_,rfl,?_⟩
 refine nQ rfl (by decide +kernel) ?_
 refine nQ rfl (by decide +kernel) ?_
 refine pL rfl (by decide +kernel) ?_
 exact⟨_,rfl,kk,_,_,_,rfl,rfl,aq.of hK.at_,rfl,_,rfl,t,a,xs,kvs,fs,rfl,hK.tu,hK.fa,hK.cV,ha,hH,q⟩
theorem KH:bJ ["kind","seen","place"] ["kind","seen"] (aG (top 46)):=bN
theorem aaD (T:Tb mg)(kZ:Dn K mg "ask_fit" ["kind","seen"] (top 46) yK yL)(dh:Dn K mg "misfit" ["kind","value"] (top 13) jF jG)(qF:aC P w K mg base aH (3) jF jG ["kind","value"] (uh)):aC P w K mg base aH (4) yK yL ["kind","seen"] (uh):=by
 refine kZ.F.ok KH (λvs H Q E h=>?_) (λcdv A outer s H vs Q E hr h=>?_)
 . obtain⟨kk,t,a,xs,kvs,fs,rfl,_⟩:=h
   rfl
 obtain⟨kk,t,a,xs,kvs,fs,rfl,hK,ha,hH,q⟩:=h
 have nd:=KH.nd
 refine⟨_,(ao (bI (i:=2) nd rfl (Or.inl rfl) (aY qF (hr.mono (by omega)) rfl dh.m dh.F.kp dh.b .nil aO (aj (pv 0) (aj (pv 1) ak))))
  (aJ (bh (bx vB (pv 2) dO (aX _)) (aJ aP) bf))),?_⟩
 refine⟨_,rfl,_,rfl,kk,t,a,xs,kvs,fs,rfl,hK,ha,hH,λH' s1=>?_⟩
 refine⟨_,rfl,rfl,_,rfl,?_⟩
 rw[decide_eq_true rfl]
 exact bM (q _ s1)
theorem str1 {f g:Str}{rest:List V}{K:W.Frag}{H:Hp}:Ip K H 0 (.str f::rest) [.str g] (λ_=>decide (f=g)):=λj x y h1 h2=>by
 cases j with
 |zero=>
  cases h1
  cases h2
  exact fY.str f g
 |succ j=>cases h2
theorem KJ:bJ ["kind"] ["kind"] (aG (top 8)):=bN
theorem aaE (T:Tb mg)(k_:Dn K mg "is_plain" ["kind"] (top 8) yM yN):aC P w K mg base aH (1) yM yN ["kind"] (Kw):=by
 refine k_.F.ok KJ (λvs H Q E h=>?_) (λcdv A outer s H vs Q E hr h=>?_)
 . obtain⟨u,k,rfl,_⟩:=h
   rfl
 obtain⟨u,k,rfl,hk,hp,q⟩:=h
 have nd:=KJ.nd
 have hu:=iG hr
 refine⟨_,(aJ (aU (Ut (iB (Iv (n:=0) hu) (pv 0) (dU (aj bV ak)) (aX _)) (i_ (iB (Iv (n:=0) hu) (pv 0) (dU (aj bV ak)) (aX _)))))),?_⟩
 refine⟨_,rfl,iT,λt ht=>?_⟩
 have s1:Same H (upd H t (.tup [.str "number"])):=Same.new ht
 cases k with
 |num=>
  unfold KA at hk
  obtain⟨a,rfl,ha⟩:=hk
  exact .inr ⟨a,t,_,_,_,rfl,rfl,str1 (f:="number") (g:="number") (rest:=[]),.inr ⟨aq.of (s1 _ _ ha),aq.of aK,_,rfl,bW (q _ s1)⟩⟩
 |dI=>
  unfold KA at hk
  obtain⟨a,rfl,ha⟩:=hk
  refine .inr ⟨a,t,_,_,_,rfl,rfl,str1 (f:="word") (g:="number") (rest:=[]),.inr ⟨aq.of (s1 _ _ ha),aq.of aK,_,rfl,bM ?_⟩⟩
  refine⟨_,rfl,iT,λt2 gO=>?_⟩
  have s2:=s1.trans (Same.new (o:=.tup [.str "word"]) gO)
  exact .inr ⟨a,t2,_,_,_,rfl,rfl,str1 (f:="word") (g:="word") (rest:=[]),.inr ⟨aq.of (s2 _ _ ha),aq.of aK,q _ s2⟩⟩
 |_=>exact hp.elim
theorem KN:bJ ["self","kind","source","seen","fresh"] ["self","kind","source","seen"] (aG (bH 53 3)):=bN
theorem aaF (T:Tb mg)(TK:kO K mg C jh fO gR ji)(oh:Dm K "put" "Take.put" ["self","kind","source","seen"] (bH 53 3) ji yO)(kZ:Dn K mg "ask_fit" ["kind","seen"] (top 46) yK yL)(aaG:aC P w K mg base aH (4) yK yL ["kind","seen"] (uh))(gU:Dm K "behind" "Take.behind" ["self","kind"] (bH 53 1) fO mL)(qG:aC P w K mg base aH (10) fO mL ["self","kind"] (ug P2 C)):aC P w K mg base aH (11) ji yO ["self","kind","source","seen"] (Kz P2 C):=by
 have CT:=TK.ct
 have qH:=TK.b
 refine oh.F.ok KN (λvs H Q E h=>?_) (λcdv A outer s H vs Q E hr h=>?_)
 . obtain⟨v,kk,t,dx,nl,xs,fs,ss,src,sn,f,g,rfl,_⟩:=h
   rfl
 obtain⟨v,kk,t,dx,nl,xs,fs,ss,src,sn,f,g,rfl,hV,hK,hin,hT,gw,hsn,hH,q⟩:=h
 have nd:=KN.nd
 refine⟨_,(ao (o_ (aY aaG (hr.mono (by omega)) rfl kZ.m kZ.F.kp kZ.b .nil aO (aj (lW (pv 0) CT qH qG (hr.mono (by omega)) gU.b .nil aO (aj (pv 1) ak)) (aj (pv 3) ak))))
  (ao (bI (i:=4) nd rfl (Or.inl rfl) (fW tM (by rfl) T.gM boot_dict (aj (pv 2) ak)))
  (ao (o_ (rY PySem.F.plainAttrs_dict PySem.F.slot_dict_update PySem.F.type_dict_update Zy (pv 4) (aj (pv 3) ak)))
  (aJ (aU (pv 4)))))),?_⟩
 obtain⟨ps,hP⟩:=hT.tab
 refine⟨_,rfl,v,dx,_,rfl,hV.ob,rfl,_,rfl,v,kk,t,dx,nl,xs,fs,ss,rfl,hV,hK,hin,hT,λr t' H1 jk hT1 hr1 ht1=>?_⟩
 have tu1:=jk.tu hT
 have gq:=hK.mono tu1
 have nP:∀c o,H c=some o->(∀ps,o≠ .cO ps)->H1 c=some o:=λc o e ho=>jk c o (λz=>by rw[z,hP] at e;cases e;exact ho _ rfl) e
 have KQ:=nP _ _ hsn (by intro ps z;cases z)
 have uo:=nP _ _ gw (by intro ps z;cases z)
 refine⟨_,rfl,r,t',sn,_,_,_,rfl,gq.few ss hr1 ht1,KQ,hH,λH2 s2=>?_⟩
 have KR:=s2 _ _ KQ
 have yP:=s2 _ _ uo
 refine⟨_,rfl,src,_,rfl,yP,λl hl=>?_⟩
 have KY:sn≠l:=aW KR hl
 have sF:Same H2 (upd (upd H2 l (.dK (aN f fs.names))) l (.dK (jE (aN f fs.names) (aN g ss)))):=λc o e=>by rw[aB (aW e hl),aB (aW e hl)];exact e
 have h12:=hK.cV
 have ahB:=hV.cV
 refine⟨_,rfl,.inr (.inr (.inl ⟨rfl,.inl ⟨_,aK⟩⟩)),_,rfl,l,sn,_,_,rfl,rfl,Ne.symm KY,aK,by rw[aB KY];exact KR,Nat.le_of_lt (cX (by rw[jg,jg];omega)),?_⟩
 refine⟨_,rfl,q l _ (jk.trans ((Kp.of s2).trans (Kp.of sF))) ((hT1.same s2).same sF) ?_⟩
 rw[aK,Ky g ss f hin]
end
end Pb
namespace L2
open PySem PySem.Spec PyProof.Rows
theorem aaI {prog:Program}{w:World}{A:Around}{E:Value->Shared->Prop}{s:Shared}{t b:Addr}{vs ws:List Value}{Q:Value->Shared->Prop}(ht:IsTup s.heap t vs.toArray)(hb:IsTup s.heap b ws.toArray)(hv:vs=[])(h0:Q (.ref b) s):wpAny (model prog w) A (binaryOp .Add (.ref t) (.ref b)) Q E s:=by
 obtain⟨⟨cls,dd,data,sl⟩,ho,hc,n,hd⟩:=id ht
 obtain⟨⟨cls2,dd2,data2,sl2⟩,ho2,hc2,n2,hd2⟩:=id hb
 simp only at hc hd hc2 hd2
 subst hc hd hc2 hd2
 exact concat_meets ⟨_,ho,rfl⟩ ⟨_,ho2,rfl⟩ noFill_tuple_add seq_tuple_add PySem.F.slot_tuple_add PySem.F.entry_tuple_add (PySem.F.args_tuple_add_2 _ _)
  (tuple_addW0 t b vs.toArray ws.toArray n n2 dd dd2 sl sl2 (by simp[hv])) ⟨ho,ho2,h0⟩
noncomputable def aaJ (K:W.Frag):R2:=λx y H Q=>∃a b xs ys,x=.ref a/\y=.ref b/\aq K H a xs/\aq K H b ys/\ys≠[]/\xs.length+ys.length<=sizeLine/\
 (xs=[]->Q (.ref b) H)/\(xs≠[]->∀p,H p=none->Q (.ref p) (upd H p (.tup (xs++ys))))
theorem aaK {X:Cx}:cP X (binaryOp .Add) (aaJ X.K):=by
 intro pins s σ H x y v u Q I rx ry h
 obtain⟨a,b,xs,ys,rfl,rfl,ha,hb,hy,hz,q1,q2⟩:=h
 by_cases hx:xs=[]
 . cases rx
   cases ry
   obtain⟨its,r1,p1,_⟩:=I.tuple ha
   obtain⟨its2,r2,p2,_⟩:=I.tuple hb
   exact aaI p1 p2 (r1.rR.mpr hx) ⟨.ref b,H,I,rfl,q1 hx⟩
 . exact V3 pins s σ H _ _ v u Q I rx ry ⟨a,b,xs,ys,rfl,rfl,ha,hb,hx,hz,λz=>absurd z hy,λ_=>q2 hx⟩
end L2
namespace Pb
open PySem L2 PyProof.Rows
theorem aaL {K:PySem.W.Frag}{a:Addr}{xs:List V}{g:TG}{tb:TS}{D:Ends}{σ:L2.St}{H:Hp}(Pv:Nat->L2.St->Hp->Prop)(h0:Pv 0 σ H)(hl:∀i σ H,i<=xs.length->Pv i σ H->au K H a xs)
 (hs:∀(i:Nat) y σ H p,xs[i]? =some y->Pv i σ H->H p=none->g (.ref p) σ (upd H p (.tup [.int i,y])) λσ2 H2=>tb { D with nx:=Pv (i+1),ct:=Pv (i+1),bk:=D.nx } σ2 H2) (hd:∀σ H,Pv xs.length σ H->D.nx σ H):
 ∃W:Nat->Nat->L2.St->Hp->Prop,(∃m,W 0 m σ H)/\∀i m σ H,W i m σ H->
  ((Ite K a).stop i H/\D.nx σ H)\/((Ite K a).go i H/\∃N:L2.St->Hp->Prop,(∀σ' H',N σ' H'->∃m',m'<m/\W (i+1) m' σ' H')/\∀x H',(Ite K a).jQ i H x H'->g x σ H' λσ2 H2=>tb { D with nx:=N,ct:=N,bk:=D.nx } σ2 H2):=by
 refine⟨λi m σ H=>m=xs.length - i/\i<=xs.length/\Pv i σ H,⟨xs.length,by simp,Nat.zero_le _,h0⟩,?_⟩
 rintro i m σ H ⟨rfl,hi,p⟩
 by_cases hlt:i<xs.length
 . refine .inr ⟨⟨xs,xs[i],hl i σ H hi p,by simp[hlt]⟩,Pv (i+1),λσ' H' p'=>⟨xs.length - (i+1),by omega,rfl,hlt,p'⟩,λx H' y=>?_⟩
   obtain⟨q,y,hq,rfl,hy,rfl⟩:=y
   exact hs i y σ H q (hy xs (hl i σ H hi p)) p hq
 . have e:i=xs.length:=by omega
   subst e
   exact .inl ⟨⟨xs,hl _ σ H (Nat.le_refl _) p,Nat.le_refl _⟩,hd σ H p⟩
noncomputable abbrev Op:=Str × V
noncomputable def Itm (H:Hp) (v:V) (o:Op):Prop:=∃c t,v=.ref c/\H c=some (.tup [.str "set",.ref t,o.2])/\H t=some (.tup [.str o.1])
noncomputable def bU (H:Hp) (xs:List V) (ops:List Op):Prop:=xs.length=ops.length/\∀(i:Nat) v o,xs[i]? =some v->ops[i]? =some o->Itm H v o
theorem Itm.mono {H H':Hp}{v:V}{o:Op}(u:Tu H H')(h:Itm H v o):Itm H' v o:=by
 obtain⟨c,t,e,h1,h2⟩:=h
 exact⟨c,t,e,u _ _ h1,u _ _ h2⟩
theorem bU.mono {H H':Hp}{xs:List V}{ops:List Op}(u:Tu H H')(h:bU H xs ops):bU H' xs ops:=⟨h.1,λi v o e1 e2=>(h.2 i v o e1 e2).mono u⟩
theorem bU.nil (H:Hp):bU H [] []:=⟨rfl,λi v o e=>by simp at e⟩
theorem bU.app {H:Hp}{xs ys:List V}{os qs:List Op}(h1:bU H xs os)(h2:bU H ys qs):bU H (xs++ys) (os++qs):=by
 refine⟨by rw[List.length_append,List.length_append,h1.1,h2.1],λi v o e1 e2=>?_⟩
 by_cases hi:i<xs.length
 . rw[List.getElem?_append_left hi] at e1
   rw[List.getElem?_append_left (by rw[<-h1.1];exact hi)] at e2
   exact h1.2 i v o e1 e2
 . rw[List.getElem?_append_right (by omega)] at e1
   rw[List.getElem?_append_right (by rw[<-h1.1];omega),<-h1.1] at e2
   exact h2.2 _ v o e1 e2
theorem bU.one {H:Hp}{v:V}{o:Op}(h:Itm H v o):bU H [v] [o]:=⟨rfl,λi v' o' e1 e2=>by
 cases i with
 |zero=>cases e1;cases e2;exact h
 |succ i=>simp at e1⟩
noncomputable def fQ (fs:Fs) (ops:List Op):Prop:=∀o∈ops,∃k,fs.get o.1=some k/\cR k o.2
noncomputable def cZ (f:Str->V) (ops:List Op):Str->V:=ops.foldl (λf o=>dJ f o.1 o.2) f
theorem cR.xT {k:Kd}{v:V}(h:cR k v):v≠ .non:=by
 cases k with
 |num=>obtain⟨z,rfl⟩:=h;intro z;cases z
 |dI=>obtain⟨z,rfl⟩:=h;intro z;cases z
 |_=>exact h.elim
noncomputable def KZ:Sp:=λvs H Q _=>∃kv c v0 k tv v,vs=[kv,.ref c,v0]/\KA H kv k/\H c=some (.tup [.str "set",tv,v])/\cR k v/\∀H',Same H H'->Q v H'
noncomputable def K1:Sp:=λvs H Q _=>∃kv c e v0 k tv v,vs=[kv,.ref c,.ref e,v0]/\H e=some (.tup [])/\KA H kv k/\H c=some (.tup [.str "set",tv,v])/\cR k v/\∀H',Same H H'->Q v H'
noncomputable def K3:Sp:=λvs H Q _=>∃t c pt a xs fs k tv v nm,∃f:Str->V,vs=[.ref t,.ref c,.ref pt,.ref a]/\H t=some (.tup xs)/\FA H xs fs/\fs.names.Nodup/\fs.names.length<=12/\H c=some (.tup [.str "set",tv,v])/\H pt=some (.tup [.str nm])/\fs.get nm=some k/\cR k v/\(∃l:List Str,nm∈l/\l.length<=12/\H a=some (.dK (aN f l))/\∀p H',Same H H'->H' p=some (.dK (aN (dJ f nm v) l))->Q (.ref p) H')
noncomputable def K4:Sp:=λvs H Q _=>∃kk t c pt a xs fs k tv v nm,∃f:Str->V,vs=[.ref kk,.ref c,.ref pt,.ref a]/\dG H kk t xs fs/\H c=some (.tup [.str "set",tv,v])/\H pt=some (.tup [.str nm])/\fs.get nm=some k/\cR k v/\(∃l:List Str,nm∈l/\l.length<=12/\H a=some (.dK (aN f l))/\∀p H',Same H H'->H' p=some (.dK (aN (dJ f nm v) l))->Q (.ref p) H')
noncomputable def yQ (K:W.Frag):Sp:=λvs H Q _=>∃kk t pl a xs fs ys ops,∃f:Str->V,∃l:List Str,vs=[.ref kk,.ref pl,.ref a]/\dG H kk t xs fs/\au K H pl ys/\bU H ys ops/\fQ fs ops/\(∀o∈ops,o.1∈l)/\l.length<=12/\H a=some (.dK (aN f l))/\∀p H',Same H H'->H' p=some (.dK (aN (cZ f ops) l))->Q (.ref p) H'
variable {P:Program}{w:World}{K:W.Frag}{mg:Str->Option Value}{base:Heap}
theorem K5:bJ ["kind","step","value","deed","form"] ["kind","step","value"] (aG (top 35)):=bN
theorem aaM (T:Tb mg)(lg:Dn K mg "acted" ["kind","step","value"] (top 35) yR yS)(dh:Dn K mg "misfit" ["kind","value"] (top 13) jF jG)(qF:aC P w K mg base aH (1) jF jG ["kind","value"] (yF))(k_:Dn K mg "is_plain" ["kind"] (top 8) yM yN)(aaN:aC P w K mg base aH (1) yM yN ["kind"] (Kw)):aC P w K mg base aH (2) yR yS ["kind","step","value"] (KZ):=by
 refine lg.F.ok K5 (λvs H Q E h=>?_) (λcdv A outer s H vs Q E hr h=>?_)
 . obtain⟨kv,c,v0,k,tv,v,rfl,_⟩:=h
   rfl
 obtain⟨kv,c,v0,k,tv,v,rfl,hk,hc,hp,q⟩:=h
 have nd:=K5.nd
 refine⟨_,(ao (bI (i:=3) nd rfl (Or.inl rfl) (bB bZ (pv 1) aF (λ_ _=>rfl)))
  (ao (bI (i:=4) nd rfl (Or.inl rfl) (bB bZ (pv 0) aF (λ_ _=>rfl)))
  (ao (bh (PW.pt (rz (bx bK (pv 3) bV (aX _)) (rm (PW.pt (iZ (cH (aY aaN (hr.mono (by omega)) rfl k_.m k_.F.kp k_.b .nil aO (aj (pv 0) ak))) (iY v7)))))) (aJ (aU (ig (bx rN (aY qF (hr.mono (by omega)) rfl dh.m dh.F.kp dh.b .nil aO (aj (pv 0) (aj (bB bZ (pv 1) aF (λ_ _=>rfl)) ak))) dO (aX _)) (bB bZ (pv 1) aF (λ_ _=>rfl)) dO))) bf)
  (ao aP
  (ao aP
  (ao aP
  (ao aP
  (aJ aP)))))))),?_⟩
 obtain⟨ka,kx,rest,rfl,hka⟩:∃ka kx rest,kv=.ref ka/\H ka=some (.tup (kx::rest)):=by
  cases k with
  |num=>unfold KA at hk;obtain⟨a,rfl,ha⟩:=hk;exact⟨a,_,_,rfl,ha⟩
  |dI=>unfold KA at hk;obtain⟨a,rfl,ha⟩:=hk;exact⟨a,_,_,rfl,ha⟩
  |_=>exact hp.elim
 refine⟨_,rfl,c,_,_,_,rfl,rfl,aq.of hc,rfl,?_⟩
 refine⟨_,rfl,ka,_,_,kx,rfl,rfl,aq.of hka,lY (j:=0) rfl,?_⟩
 refine⟨_,rfl,rfl,_,rfl,?_⟩
 rw[decide_eq_true rfl]
 refine bW ?_
 refine⟨_,rfl,_,k,rfl,hk,aaw hp,λH1 s1=>⟨true,rfl,bW ?_⟩⟩
 have hc1:=s1 _ _ hc
 refine⟨_,rfl,_,rfl,c,_,_,_,rfl,rfl,aq.of hc1,rfl,_,v,k,rfl,KA.mono (Tu.of s1) k hk,hp,?_⟩
 refine⟨rfl,_,rfl,?_⟩
 rw[decide_eq_true rfl]
 refine bW ?_
 exact⟨_,rfl,c,_,_,_,rfl,rfl,aq.of hc1,rfl,q _ s1⟩
theorem uq:bJ ["kind","step","path","value","form"] ["kind","step","path","value"] (aG (top 26)):=bN
theorem aaO (T:Tb mg)(d8:Dn K mg "stepped" ["kind","step","path","value"] (top 26) mO mQ)(lg:Dn K mg "acted" ["kind","step","value"] (top 35) yR yS)(aaP:aC P w K mg base aH (2) yR yS ["kind","step","value"] (KZ)):aC P w K mg base aH (3) mO mQ ["kind","step","path","value"] (K1):=by
 refine d8.F.ok uq (λvs H Q E h=>?_) (λcdv A outer s H vs Q E hr h=>?_)
 . obtain⟨kv,c,e,v0,k,tv,v,rfl,_⟩:=h
   rfl
 obtain⟨kv,c,e,v0,k,tv,v,rfl,he,hk,hc,hp,q⟩:=h
 have nd:=uq.nd
 refine⟨_,(ao (bh (bx bK (aR eE (by rfl) T.dw PySem.boot_len (aj (pv 2) ak)) aF (aX _)) (aJ (aU (aY aaP (hr.mono (by omega)) rfl lg.m lg.F.kp lg.b .nil aO (aj (pv 0) (aj (pv 1) (aj (pv 3) ak)))))) bf)
  (ao aP
  (ao aP
  (ao aP
  (ao aP
  (ao aP
  (aJ aP))))))),?_⟩
 refine⟨_,rfl,e,_,rfl,.inr (aq.of he),rfl,_,rfl,?_⟩
 rw[decide_eq_true (show V.int (([]:List V).length:Nat)=V.int 0 from rfl)]
 refine bW ?_
 exact⟨_,rfl,_,rfl,_,rfl,kv,c,v0,k,tv,v,rfl,hk,hc,hp,q⟩
theorem K6:bJ ["fields","step","path","record","name","inner","part","fresh"] ["fields","step","path","record"] (aG (top 27)):=bN
theorem aaQ (T:Tb mg)(lq:Dn K mg "stepped_in_record" ["fields","step","path","record"] (top 27) yU yV)(d8:Dn K mg "stepped" ["kind","step","path","value"] (top 26) mO mQ)(yW:aC P w K mg base aH (3) mO mQ ["kind","step","path","value"] (K1))(gn:Dn K mg "kind_at" ["fields","name"] (top 9) qt qu)(yp:aC P w K mg base aH (1) qt qu ["fields","name"] (xU)):aC P w K mg base aH (4) yU yV ["fields","step","path","record"] (K3):=by
 refine lq.F.ok K6 (λvs H Q E h=>?_) (λcdv A outer s H vs Q E hr h=>?_)
 . obtain⟨t,c,pt,a,xs,fs,k,tv,v,nm,f,rfl,_⟩:=h
   rfl
 obtain⟨t,c,pt,a,xs,fs,k,tv,v,nm,f,rfl,ht,hfa,hnd,h12,hc,hpt,hg,hp,l,hnl,yX,ha,q⟩:=h
 have nd:=K6.nd
 have hu:=iG hr
 refine⟨_,(ao (bI (i:=4) nd rfl (Or.inl rfl) (bB bZ (pv 2) aF (λ_ _=>rfl)))
  (ao (bI (i:=5) nd rfl (Or.inl rfl) (aY yp (hr.mono (by omega)) rfl gn.m gn.F.kp gn.b .nil aO (aj (pv 0) (aj (pv 4) ak))))
  (ao (bh (bx rN (pv 5) dO (aX _)) (aJ (aU dO)) bf)
  (ao (bI (i:=6) nd rfl (Or.inl rfl) (aY yW (hr.mono (by omega)) rfl d8.m d8.F.kp d8.b .nil aO (aj (pv 5) (aj (pv 1) (aj (VL V1 (pv 2) (VH aF) VG) (aj (iD hu (pv 3) (pv 4) (λ_ _=>rfl)) ak))))))
  (ao (bh (bx rN (pv 6) dO (aX _)) (aJ (aU dO)) bf)
  (ao (bI (i:=7) nd rfl (Or.inl rfl) (fW tM (by rfl) T.gM boot_dict (aj (pv 3) ak)))
  (ao (vV hu (pv 7) (pv 4) (pv 6) rfl)
  (aJ (aU (pv 7)))))))))),?_⟩
 refine⟨_,rfl,pt,_,_,_,rfl,rfl,aq.of hpt,rfl,?_⟩
 refine⟨_,rfl,_,rfl,t,nm,xs,fs,k,rfl,ht,hfa,hnd,hg,λu hku hne=>?_⟩
 refine⟨_,rfl,rfl,_,rfl,?_⟩
 rw[decide_eq_false hne]
 refine bM ?_
 refine⟨_,rfl,_,rfl,_,rfl,_,rfl,pt,_,rfl,aq.of hpt,(by rintro⟨z,_⟩;exact absurd z (show ¬HT.bL 1 0 (some 1)=0 by decide)),λe he=>?_⟩
 have s1:Same H (upd H e (.tup (nM [V.str nm] (some 1) none))):=Same.new he
 have hv0:cQ (upd H e (.tup (nM [V.str nm] (some 1) none))) a (.str nm) (some (f nm)):=by
  have:=cQ.k (k:=Sum.inr nm) (s1 _ _ ha)
  rw[eU,if_pos hnl] at this
  exact this
 refine⟨_,rfl,_,rfl,a,f nm,rfl,hv0,u,c,e,_,k,tv,v,rfl,aK,KA.mono (Tu.of s1) k hku,s1 _ _ hc,hp,λH2 s2=>?_⟩
 refine⟨_,rfl,rfl,_,rfl,?_⟩
 rw[decide_eq_false hp.xT]
 refine bM ?_
 refine⟨_,rfl,a,_,rfl,s2 _ _ (s1 _ _ ha),λp hp2=>?_⟩
 have s3:Same H2 (upd H2 p (.dK (aN f l))):=Same.new hp2
 refine⟨_,rfl,_,rfl,_,rfl,p,_,rfl,lZ.k (k:=Sum.inr nm) aK (by rw[jg];exact cX (by omega)),?_⟩
 refine⟨_,rfl,q p _ (λb o e'=>?_) ?_⟩
 . have:=s2 _ _ (s1 _ _ e')
   rw[aB (aW this hp2)]
   exact s3 _ _ this
 . rw[aK,xM v hnl]
theorem aaS (T:Tb mg)(d8:Dn K mg "stepped" ["kind","step","path","value"] (top 26) mO mQ)(lq:Dn K mg "stepped_in_record" ["fields","step","path","record"] (top 27) yU yV)(aaT:aC P w K mg base aH (4) yU yV ["fields","step","path","record"] (K3)):aC P w K mg base aH (5) mO mQ ["kind","step","path","value"] (K4):=by
 refine d8.F.ok uq (λvs H Q E h=>?_) (λcdv A outer s H vs Q E hr h=>?_)
 . obtain⟨kk,t,c,pt,a,xs,fs,k,tv,v,nm,f,rfl,_⟩:=h
   rfl
 obtain⟨kk,t,c,pt,a,xs,fs,k,tv,v,nm,f,rfl,hK,hc,hpt,hg,hp,hq⟩:=h
 have nd:=uq.nd
 refine⟨_,(ao (bh (bx bK (aR eE (by rfl) T.dw PySem.boot_len (aj (pv 2) ak)) aF (aX _)) (aJ aP) bf)
  (ao (bI (i:=4) nd rfl (Or.inl rfl) (bB bZ (pv 0) aF (λ_ _=>rfl)))
  (ao (bh (bx bK (pv 4) bV (aX _)) (aJ (aU (aY aaT (hr.mono (by omega)) rfl lq.m lq.F.kp lq.b .nil aO (aj (bB bZ (pv 0) aF (λ_ _=>rfl)) (aj (pv 1) (aj (pv 2) (aj (pv 3) ak))))))) bf)
  (ao aP
  (ao aP
  (ao aP
  (aJ aP))))))),?_⟩
 refine⟨_,rfl,pt,_,rfl,.inr (aq.of hpt),rfl,_,rfl,?_⟩
 rw[decide_eq_false (by intro z;cases z)]
 refine bM ?_
 refine⟨_,rfl,kk,_,_,_,rfl,rfl,aq.of hK.at_,rfl,?_⟩
 refine pL rfl (by decide +kernel) ?_
 exact⟨_,rfl,kk,_,_,_,rfl,rfl,aq.of hK.at_,rfl,_,rfl,_,rfl,_,rfl,t,c,pt,a,xs,fs,k,tv,v,nm,f,rfl,hK.tu,hK.fa,hK.nd,hK.cV,hc,hpt,hg,hp,hq⟩
theorem K7:bJ ["kind","paper","value","now","number","step"] ["kind","paper","value"] (aG (top 24)):=bN
theorem aaU (T:Tb mg)(gA:Dn K mg "done" ["kind","paper","value"] (top 24) qI qJ)(d8:Dn K mg "stepped" ["kind","step","path","value"] (top 26) mO mQ)(yW:aC P w K mg base aH (5) mO mQ ["kind","step","path","value"] (K4)):aC P w K mg base aH (6) qI qJ ["kind","paper","value"] (yQ K):=by
 refine gA.F.ok K7 (λvs H Q E h=>?_) (λcdv A outer s H vs Q E hr h=>?_)
 . obtain⟨kk,t,pl,a,xs,fs,ys,ops,f,l,rfl,_⟩:=h
   rfl
 obtain⟨kk,t,pl,a,xs,fs,ys,ops,f,l,rfl,hK,hpl,hP,hO,hin,yX,ha,q⟩:=h
 have nd:=K7.nd
 refine⟨_,(ao (bI (i:=3) nd rfl (Or.inl rfl) (pv 2))
  (ao (lN PassesOwn.never rfl (Hy rfl T.Jv (aj (pv 1) ak)) (iy rfl (cW (bQ (i:=4) nd rfl (Or.inl rfl)) (cW (bQ (i:=5) nd rfl (Or.inl rfl)) iw))) (ao (bI (i:=3) nd rfl (Or.inl rfl) (aY yW (hr.mono (by omega)) rfl d8.m d8.F.kp d8.b .nil aO (aj (pv 0) (aj (pv 5) (aj (bB bZ (pv 5) aF (λ_ _=>rfl)) (aj (pv 3) ak))))))
  (aJ (bh (bx rN (pv 3) dO (aX _)) (aJ aP) bf))))
  (aJ (aU (pv 3))))),?_⟩
 refine⟨_,rfl,?_⟩
 refine⟨_,rfl,pl,rfl,⟨_,hpl⟩,aaL (xs:=ys) (λi σ H'=>Same H H'/\∃p x y,σ=[some (.ref kk),some (.ref pl),some (.ref a),some (.ref p),x,y]/\H' p=some (.dK (aN (cZ f (ops.take i)) l))) ⟨Same.refl _,a,_,_,rfl,ha⟩ ?_ ?_ ?_⟩
 . rintro i σ H' _ ⟨s1,_⟩
   exact Pb.au.uf hpl s1
 . rintro i v σ H' z hv ⟨s1,p,x,y,rfl,hp⟩ hz
   have hi:i<ops.length:=by rw[<-hP.1];exact(List.getElem?_eq_some_iff.mp hv).1
   have ho:ops[i]? =some ops[i]:=List.getElem?_eq_getElem hi
   obtain⟨c,pt,rfl,hc,hpt⟩:=(hP.mono (Tu.of s1)).2 i v ops[i] hv ho
   obtain⟨k,hg,hpk⟩:=hO _ (List.getElem_mem hi)
   have s2:Same H' (upd H' z (.tup [.int i,.ref c])):=Same.new hz
   refine⟨z,_,rfl,aq.of aK,rfl,_,_,rfl,_,_,rfl,rfl,?_⟩
   refine⟨_,rfl,_,rfl,_,rfl,c,_,_,_,rfl,rfl,aq.of (s2 _ _ hc),rfl,_,rfl,kk,t,c,pt,p,xs,fs,k,_,_,_,_,rfl,(hK.mono (Tu.of s1)).mono (Tu.of s2),s2 _ _ hc,s2 _ _ hpt,hg,hpk,l,hin _ (List.getElem_mem hi),yX,s2 _ _ hp,λp' H3 s3 hp'=>?_⟩
   refine⟨_,rfl,rfl,_,rfl,?_⟩
   rw[decide_eq_false (by intro z;cases z)]
   refine bM ⟨s1.trans (s2.trans s3),p',_,_,rfl,?_⟩
   rw[hp',List.take_succ,ho]
   unfold cZ
   rw[List.foldl_append]
   rfl
 . rintro σ H' ⟨s1,p,x,y,rfl,hp⟩
   rw[hP.1,List.take_length] at hp
   exact⟨_,rfl,q p _ s1 hp⟩
noncomputable def cU (f g:Str->V) (l:List Str):List Op:=(l.filter λx=> !decide (f x=g x)).map λx=>(x,g x)
theorem qK (f g:Str->V)(l m:List Str):cU f g (l++m)=cU f g l++cU f g m:=by
 unfold cU;rw[List.filter_append,List.map_append]
theorem qL (f g:Str->V)(x:Str):cU f g [x]=if f x=g x then [] else [(x,g x)]:=by
 unfold cU
 rw[List.filter_cons]
 by_cases e:f x=g x
 . rw[if_pos e,if_neg (by rw[decide_eq_true e];decide)];rfl
 . rw[if_neg e,if_pos (by rw[decide_eq_false e];decide)];rfl
theorem ur (f g:Str->V)(l:List Str):(cU f g l).length<=l.length:=by
 unfold cU
 rw[List.length_map]
 exact List.length_filter_le _ _
theorem cR.iz {k:Kd}{v u:V}(h:cR k v)(h2:cR k u):iz v u=true:=by
 cases k with
 |num=>obtain⟨z,rfl⟩:=h;obtain⟨y,rfl⟩:=h2;rfl
 |dI=>obtain⟨z,rfl⟩:=h;obtain⟨y,rfl⟩:=h2;rfl
 |_=>exact h.elim
theorem eV.keep {Pt:Addr}{H H':Hp}{lp:Pos}{ql:Str}(x:eV Pt H H')(hT:cg Pt lp ql H){c:Addr}{o:HO}(e:H c=some o)(ho:∀ps,o≠ .cO ps):H' c=some o:=by
 obtain⟨ps,hP⟩:=hT.tab
 exact x c o (λz=>by rw[z,hP] at e;cases e;exact ho _ rfl) e
theorem gQ.keep {Pt:Addr}{H H':Hp}{lp:Pos}{ql:Str}{C v dx nl:Addr}{ss:List Str}(x:eV Pt H H')(hT:cg Pt lp ql H)(h:gQ H C v dx nl ss):gQ H' C v dx nl ss:=
 ⟨x.keep hT h.ob (by intro ps z;cases z),x.keep hT h.nl (by intro ps z;cases z),h.nd,h.cV⟩
theorem gQ.same {H H':Hp}{C v dx nl:Addr}{ss:List Str}(x:Same H H')(h:gQ H C v dx nl ss):gQ H' C v dx nl ss:=⟨x _ _ h.ob,x _ _ h.nl,h.nd,h.cV⟩
noncomputable def K8:Sp:=λvs H Q _=>∃pt kv o n k nm,vs=[.ref pt,kv,o,n]/\KA H kv k/\cR k o/\cR k n/\H pt=some (.tup [.str nm])/\∀p ys H',Same H H'->H' p=some (.lst ys)->H p=none->bU H' ys (if o=n then [] else [(nm,n)])->Q (.ref p) H'
noncomputable def Two (fs:Fs) (ka kb:List (Key × V)) (f g:Str->V):Prop:=∀i nm k,fs.at i=some (nm,k)->dB ka (Sum.inr nm)=some (f nm)/\dB kb (Sum.inr nm)=some (g nm)/\cR k (f nm)/\cR k (g nm)
noncomputable def K9:Sp:=λvs H Q _=>∃pt t a b xs fs ka kb,∃f g:Str->V,vs=[.ref pt,.ref t,.ref a,.ref b]/\H pt=some (.tup [])/\H t=some (.tup xs)/\FA H xs fs/\fs.names.length<=12/\H a=some (.dK ka)/\H b=some (.dK kb)/\Two fs ka kb f g/\∀p ys H',Same H H'->H' p=some (.lst ys)->bU H' ys (cU f g fs.names)->Q (.ref p) H'
noncomputable def K_:Sp:=λvs H Q _=>∃pt kk t a b xs fs ka kb,∃f g:Str->V,vs=[.ref pt,.ref kk,.ref a,.ref b]/\H pt=some (.tup [])/\dG H kk t xs fs/\H a=some (.dK ka)/\H b=some (.dK kb)/\Two fs ka kb f g/\∀p ys H',Same H H'->H' p=some (.lst ys)->bU H' ys (cU f g fs.names)->Q (.ref p) H'
noncomputable def yZ:Sp:=λvs H Q _=>∃kk t a b xs fs ka kb,∃f g:Str->V,vs=[.ref kk,.ref a,.ref b]/\dG H kk t xs fs/\H a=some (.dK ka)/\H b=some (.dK kb)/\Two fs ka kb f g/\∀p ys H',Same H H'->H' p=some (.lst ys)->bU H' ys (cU f g fs.names)->Q (.ref p) H'
theorem uw:bJ ["path","kind","old","new","form"] ["path","kind","old","new"] (aG (top 38)):=bN
theorem aaV (T:Tb mg)(d9:Dn K mg "paper_at" ["path","kind","old","new"] (top 38) mR mU):aC P w K mg base aH (1) mR mU ["path","kind","old","new"] (K8):=by
 refine d9.F.ok uw (λvs H Q E h=>?_) (λcdv A outer s H vs Q E hr h=>?_)
 . obtain⟨pt,kv,o,n,k,nm,rfl,_⟩:=h
   rfl
 obtain⟨pt,kv,o,n,k,nm,rfl,hk,ho,hn,hpt,q⟩:=h
 have nd:=uw.nd
 refine⟨_,(ao (bI (i:=4) nd rfl (Or.inl rfl) (bB bZ (pv 1) aF (λ_ _=>rfl)))
  (ao (bh (bx bK (pv 4) bV (aX _)) (aJ aP) bf)
  (ao (bh (bx bK (pv 4) bV (aX _)) (aJ aP) bf)
  (ao (bh (bx bK (pv 4) bV (aX _)) (aJ aP) bf)
  (ao (bh (PW.pt (rz (bx bK (pv 4) bV (aX _)) (rm v7))) (aJ aP) bf)
  (aJ (aU (ig (bx bK (pv 2) (pv 3) (aX _)) (fC ak) (fC (aj (dU (aj bV (aj (pv 0) (aj (pv 3) ak)))) ak)))))))))),?_⟩
 obtain⟨ka,kx,rfl,hka,hkx⟩:∃ka kx,kv=.ref ka/\H ka=some (.tup [.str kx])/\(kx="number"\/kx="word"):=by
  cases k with
  |num=>unfold KA at hk;obtain⟨a,rfl,ha⟩:=hk;exact⟨a,_,rfl,ha,.inl rfl⟩
  |dI=>unfold KA at hk;obtain⟨a,rfl,ha⟩:=hk;exact⟨a,_,rfl,ha,.inr rfl⟩
  |_=>exact ho.elim
 refine⟨_,rfl,ka,_,_,_,rfl,rfl,aq.of hka,rfl,?_⟩
 have nk:∀z:Str,(z="record"\/z="rows"\/z="tree"\/z="either")->decide (V.str kx=V.str z)=false:=by
  rintro z (rfl|rfl|rfl|rfl) <;> rcases hkx with rfl|rfl <;> decide +kernel
 refine nQ rfl (nk _ (.inl rfl)) ?_
 refine nQ rfl (nk _ (.inr (.inl rfl))) ?_
 refine nQ rfl (nk _ (.inr (.inr (.inl rfl)))) ?_
 refine⟨_,rfl,rfl,_,rfl,?_⟩
 rw[nk _ (.inr (.inr (.inr rfl)))]
 refine bM ?_
 refine⟨_,rfl,_,rfl,ho.iz hn,_,rfl,dH (λc=>?_) (λc=>?_)⟩
 . have e:o=n:=of_decide_eq_true c
   refine⟨oW,λp hp=>q p [] _ (Same.new hp) aK hp ?_⟩
   rw[if_pos e]
   exact bU.nil _
 . have e:¬o=n:=λz=>c (decide_eq_true z)
   refine⟨_,rfl,_,rfl,oX,λt ht=>⟨iT,λp hp=>?_⟩⟩
   have s1:=Same.new ht (o:=.tup [.str "set",.ref pt,n])
   have s2:=Same.new hp (o:=.lst [.ref t])
   refine q p _ _ (s1.trans s2) aK ?_ ?_
   . cases e:H p with
     |none=>rfl
     |some o=>rw[s1 _ _ e] at hp;cases hp
   . rw[if_neg e]
     exact bU.one ⟨t,pt,rfl,s2 _ _ aK,s2 _ _ (s1 _ _ hpt)⟩
theorem La:bJ ["path","fields","old","new","paper","name","inner"] ["path","fields","old","new"] (aG (top 39)):=bN
theorem aaW (T:Tb mg)(lu:Dn K mg "record_paper" ["path","fields","old","new"] (top 39) zc zj)(d9:Dn K mg "paper_at" ["path","kind","old","new"] (top 38) mR mU)(zm:aC P w K mg base aH (1) mR mU ["path","kind","old","new"] (K8)):aC P w K mg base aH (2) zc zj ["path","fields","old","new"] (K9):=by
 refine lu.F.ok La (λvs H Q E h=>?_) (λcdv A outer s H vs Q E hr h=>?_)
 . obtain⟨pt,t,a,b,xs,fs,ka,kb,f,g,rfl,_⟩:=h
   rfl
 obtain⟨pt,t,a,b,xs,fs,ka,kb,f,g,rfl,hpt,ht,hfa,h12,ha,hb,h2,q⟩:=h
 have nd:=La.nd
 have hu:=iG hr
 refine⟨_,(ao (bI (i:=4) nd rfl (Or.inl rfl) (fC ak))
  (ao (lN PassesOwn.never rfl (jR (pv 1)) (iy rfl (cW (bQ (i:=5) nd rfl (Or.inl rfl)) (cW (bQ (i:=6) nd rfl (Or.inl rfl)) iw))) (aJ (o_ (rY PySem.F.plainAttrs_list PySem.F.slot_list_extend PySem.F.type_list_extend Wq (pv 4) (aj (aY zm (hr.mono (by omega)) rfl d9.m d9.F.kp d9.b .nil aO (aj (aQ aaK (pv 0) (dU (aj (pv 5) ak))) (aj (pv 6) (aj (iD hu (pv 2) (pv 5) (λ_ _=>rfl)) (aj (iD hu (pv 3) (pv 5) (λ_ _=>rfl)) ak))))) ak)))))
  (aJ (aU (pv 4))))),?_⟩
 refine⟨oW,λp hp=>?_⟩
 have s0:Same H (upd H p (.lst [])):=Same.new hp
 refine⟨_,rfl,t,rfl,⟨_,aq.of (s0 _ _ ht)⟩,vh (xs:=xs) (λi σ H'=>Same H H'/\(∃x y,σ=[some (.ref pt),some (.ref t),some (.ref a),some (.ref b),some (.ref p),x,y])/\∃ys,H' p=some (.lst ys)/\bU H' ys (cU f g (fs.names.take i))) ⟨s0,⟨_,_,rfl⟩,[],aK,bU.nil _⟩ ?_ ?_ ?_⟩
 . rintro i σ H' _ ⟨s1,_⟩
   exact aq.of (s1 _ _ ht)
 . rintro i v σ H' hv ⟨s1,⟨x,y,rfl⟩,ys,hpp,hP⟩
   obtain⟨c,u,nm,k,rfl,hat,hc,hk⟩:=FA.get fs hfa hv
   obtain⟨va,vb,pf,pg⟩:=h2 i nm k hat
   have hnm:fs.names[i]? =some nm:=by rw[Fs.gK,hat];rfl
   have hi:i<fs.names.length:=(List.getElem?_eq_some_iff.mp hnm).1
   refine⟨c,_,rfl,aq.of (s1 _ _ hc),rfl,_,_,rfl,_,_,rfl,rfl,?_⟩
   refine⟨_,rfl,.inl ⟨rfl,_,au.of hpp⟩,_,rfl,_,rfl,iT,λz hz=>?_⟩
   have s2:=Same.new hz (o:=.tup [.str nm])
   have s12:=s1.trans s2
   refine⟨pt,z,_,_,rfl,rfl,aq.of (s12 _ _ hpt),aq.of aK,by simp,iT,λ_=>?_,λw=>absurd rfl w⟩
   have ga:cQ (upd H' z (.tup [.str nm])) a (.str nm) (some (f nm)):=by
    have:=cQ.k (k:=Sum.inr nm) (s12 _ _ ha)
    rw[va] at this
    exact this
   have gb:cQ (upd H' z (.tup [.str nm])) b (.str nm) (some (g nm)):=by
    have:=cQ.k (k:=Sum.inr nm) (s12 _ _ hb)
    rw[vb] at this
    exact this
   refine⟨_,rfl,_,rfl,_,rfl,a,_,rfl,ga,_,rfl,_,rfl,b,_,rfl,gb,z,u,_,_,k,nm,rfl,KA.mono (Tu.of s12) k hk,pf,pg,aK,λp2 zs H3 s3 hp2 hn2 hP2=>?_⟩
   have hp3:=s3 _ _ (s2 _ _ hpp)
   have hne:p2≠p:=λe=>by rw[e,s2 _ _ hpp] at hn2;cases hn2
   have hl1:ys.length<=i:=by rw[hP.1];exact Nat.le_trans (ur _ _ _) (by rw[List.length_take];omega)
   have hl2:zs.length<=1:=by rw[hP2.1];split <;> simp
   refine⟨p,p2,_,_,rfl,rfl,hp3,hp2,Nat.le_of_lt (cX (by omega)),?_⟩
   have tu:Tu H3 (upd H3 p (.lst (ys++zs))):=λc' xs' e=>by rw[aB (iV e hp3 (by intro z;cases z))];exact e
   refine⟨λc' o e=>?_,⟨_,_,rfl⟩,_,aK,?_⟩
   . rw[aB (aW e hp)]
     exact s3 _ _ (s12 _ _ e)
   . rw[List.take_succ,hnm,qK]
     refine bU.app (hP.mono ((Tu.of (s2.trans s3)).trans tu)) ?_
     show bU _ zs (cU f g [nm])
     rw[qL]
     exact hP2.mono tu
 . rintro σ H' ⟨s1,⟨x,y,rfl⟩,ys,hpp,hP⟩
   rw[FA.len fs hfa,List.take_length] at hP
   exact⟨_,rfl,q p ys _ s1 hpp hP⟩
theorem aaX (T:Tb mg)(d9:Dn K mg "paper_at" ["path","kind","old","new"] (top 38) mR mU)(lu:Dn K mg "record_paper" ["path","fields","old","new"] (top 39) zc zj)(aaY:aC P w K mg base aH (2) zc zj ["path","fields","old","new"] (K9)):aC P w K mg base aH (3) mR mU ["path","kind","old","new"] (K_):=by
 refine d9.F.ok uw (λvs H Q E h=>?_) (λcdv A outer s H vs Q E hr h=>?_)
 . obtain⟨pt,kk,t,a,b,xs,fs,ka,kb,f,g,rfl,_⟩:=h
   rfl
 obtain⟨pt,kk,t,a,b,xs,fs,ka,kb,f,g,rfl,hpt,hK,ha,hb,h2,q⟩:=h
 have nd:=uw.nd
 refine⟨_,(ao (bI (i:=4) nd rfl (Or.inl rfl) (bB bZ (pv 1) aF (λ_ _=>rfl)))
  (ao (bh (bx bK (pv 4) bV (aX _)) (aJ (aU (aY aaY (hr.mono (by omega)) rfl lu.m lu.F.kp lu.b .nil aO (aj (pv 0) (aj (bB bZ (pv 1) aF (λ_ _=>rfl)) (aj (pv 2) (aj (pv 3) ak))))))) bf)
  (ao aP
  (ao aP
  (ao aP
  (aJ aP)))))),?_⟩
 refine⟨_,rfl,kk,_,_,_,rfl,rfl,aq.of hK.at_,rfl,?_⟩
 refine pL rfl (by decide +kernel) ?_
 exact⟨_,rfl,_,rfl,kk,_,_,_,rfl,rfl,aq.of hK.at_,rfl,_,rfl,_,rfl,pt,t,a,b,xs,fs,ka,kb,f,g,rfl,hpt,hK.tu,hK.fa,hK.cV,ha,hb,h2,q⟩
theorem Lb:bJ ["kind","old","new"] ["kind","old","new"] (aG (top 25)):=bN
theorem aaZ (T:Tb mg)(gB:Dn K mg "between" ["kind","old","new"] (top 25) qM qN)(d9:Dn K mg "paper_at" ["path","kind","old","new"] (top 38) mR mU)(zm:aC P w K mg base aH (3) mR mU ["path","kind","old","new"] (K_)):aC P w K mg base aH (4) qM qN ["kind","old","new"] (yZ):=by
 refine gB.F.ok Lb (λvs H Q E h=>?_) (λcdv A outer s H vs Q E hr h=>?_)
 . obtain⟨kk,t,a,b,xs,fs,ka,kb,f,g,rfl,_⟩:=h
   rfl
 obtain⟨kk,t,a,b,xs,fs,ka,kb,f,g,rfl,hK,ha,hb,h2,q⟩:=h
 have nd:=Lb.nd
 refine⟨_,(aJ (aU (aY zm (hr.mono (by omega)) rfl d9.m d9.F.kp d9.b .nil aO (aj (dU ak) (aj (pv 0) (aj (pv 1) (aj (pv 2) ak))))))),?_⟩
 refine⟨oW,λe he=>?_⟩
 have s1:=Same.new he (o:=.tup [])
 exact⟨_,rfl,_,rfl,_,rfl,e,kk,t,a,b,xs,fs,ka,kb,f,g,rfl,aK,hK.mono (Tu.of s1),s1 _ _ ha,s1 _ _ hb,h2,λp ys H' s2=>q p ys H' (s1.trans s2)⟩
theorem Ld {l ss:List Str}(nd:l.Nodup)(nd2:ss.Nodup)(h:∀x∈ss,x∈l):(l.filter λx=>decide (x∈ss)).Perm ss:=by
 refine(List.perm_ext_iff_of_nodup (nd.filter _) nd2).mpr λx=>?_
 rw[List.mem_filter]
 exact⟨λz=>of_decide_eq_true z.2,λz=>⟨h x z,decide_eq_true z⟩⟩
noncomputable def FK (fs:Fs) (f:Str->V):Prop:=∀x k,fs.get x=some k->cR k (f x)
theorem qO {fs:Fs}:∀{ops:List Op}{f:Str->V},FK fs f->fQ fs ops->FK fs (cZ f ops)
 |[],f,h,_=>h
 |o::r,f,h,ho=>by
  refine qO (ops:=r) (f:=dJ f o.1 o.2) (λx k e=>?_) λo' h'=>ho o' (List.mem_cons_of_mem _ h')
  unfold dJ
  by_cases z:x=o.1
  . rw[if_pos z]
    obtain⟨k',e',p⟩:=ho o List.mem_cons_self
    rw[z,e'] at e
    cases e
    exact p
  . rw[if_neg z]
    exact h x k e
theorem Le {fs:Fs}{ss:List Str}(nd:fs.names.Nodup){i:Nat}{x:Str}{k:Kd}(h:(fs.cj ss).at i=some (x,k)):x∈ss/\fs.get x=some k:=by
 have e:=Fs.pZ (by rw[Fs.fM];exact nd.filter _) h
 rw[Fs.xW] at e
 by_cases z:x∈ss
 . rw[if_pos z] at e
   exact⟨z,e⟩
 . rw[if_neg z] at e;cases e
theorem zp {fs:Fs}{i:Nat}{x:Str}{k:Kd}(h:fs.at i=some (x,k)):x∈fs.names:=by
 have:fs.names[i]? =some x:=by rw[Fs.gK,h];rfl
 exact List.mem_of_getElem? this
theorem fQ.cj {fs:Fs}{ss:List Str}{ops:List Op}(h:fQ (fs.cj ss) ops):fQ fs ops/\∀o∈ops,o.1∈ss:=by
 have:∀o∈ops,(∃k,fs.get o.1=some k/\cR k o.2)/\o.1∈ss:=λo ho=>by
  obtain⟨k,e,p⟩:=h o ho
  rw[Fs.xW] at e
  by_cases z:o.1∈ss
  . rw[if_pos z] at e
    exact⟨⟨k,e,p⟩,z⟩
  . rw[if_neg z] at e;cases e
 exact⟨λo ho=>(this o ho).1,λo ho=>(this o ho).2⟩
noncomputable def Lf (P2 C:Addr):Sp:=λvs H Q _=>∃v kk t dx nl xs fs ss src pl ys ops,∃f:Str->V,vs=[.ref v,.ref kk,.ref src,.ref pl]/\gQ H C v dx nl ss/\dG H kk t xs fs/\(∀x∈ss,x∈fs.names)/\cg P2 dY dZ H/\H src=some (.dK (aN f fs.names))/\FK fs f/\H pl=some (.lst ys)/\bU H ys ops/\fQ fs ops/\
 ∀p zs H',eV P2 H H'->cg P2 dY dZ H'->H' p=some (.lst zs)->bU H' zs (cU f (cZ f ops) (fs.cj ss).names)->Q (.ref p) H'
noncomputable def Lg (P2 C:Addr):Sp:=λvs H Q _=>∃v kk t dx nl xs fs ss src pl ys ops,∃f:Str->V,vs=[.ref v,.ref kk,.ref src,.ref pl]/\gQ H C v dx nl ss/\dG H kk t xs fs/\(∀x∈ss,x∈fs.names)/\cg P2 dY dZ H/\H src=some (.dK (aN f fs.names))/\FK fs f/\H pl=some (.lst ys)/\bU H ys ops/\fQ (fs.cj ss) ops/\
 ∀p zs H',eV P2 H H'->cg P2 dY dZ H'->H' p=some (.lst zs)->bU H' zs (cU f (gW f (cZ f ops) ss) fs.names)->Q (.ref p) H'
theorem aa1 {fs:Fs}{ops:List Op}(h:fQ fs ops):∀o∈ops,o.1∈fs.names:=λo ho=>by
 obtain⟨k,e,_⟩:=h o ho
 exact Fs.get_mem e
section
variable {P:Program}{w:World}{K:W.Frag}{mg:Str->Option Value}{base:Heap}
variable {C P2:Addr}
theorem Lh:bJ ["view","kind","source","paper","new"] ["view","kind","source","paper"] (aG (top 43)):=bN
theorem aa2 (T:Tb mg)(TK:kO K mg C jh fO gR ji)(lA:Dn K mg "carried_on" ["view","kind","source","paper"] (top 43) zq zu)(gA:Dn K mg "done" ["kind","paper","value"] (top 24) qI qJ)(zx:aC P w K mg base aH (6) qI qJ ["kind","paper","value"] (yQ K))(gB:Dn K mg "between" ["kind","old","new"] (top 25) qM qN)(zy:aC P w K mg base aH (4) qM qN ["kind","old","new"] (yZ))(gU:Dm K "behind" "Take.behind" ["self","kind"] (bH 53 1) fO mL)(qG:aC P w K mg base aH (10) fO mL ["self","kind"] (ug P2 C))(jj:Dm K "see" "Take.see" ["self","kind","source"] (bH 53 2) gR qD)(ux:aC P w K mg base aH (2) gR qD ["self","kind","source"] (yw C)):aC P w K mg base aH (12) zq zu ["view","kind","source","paper"] (Lf P2 C):=by
 have CT:=TK.ct
 have qH:=TK.b
 have uy:=TK.s
 refine lA.F.ok Lh (λvs H Q E h=>?_) (λcdv A outer s H vs Q E hr h=>?_)
 . obtain⟨v,kk,t,dx,nl,xs,fs,ss,src,pl,ys,ops,f,rfl,_⟩:=h
   rfl
 obtain⟨v,kk,t,dx,nl,xs,fs,ss,src,pl,ys,ops,f,rfl,hV,hK,hin,hT,gw,hF,hpl,hP,hO,q⟩:=h
 have nd:=Lh.nd
 refine⟨_,(ao (bI (i:=4) nd rfl (Or.inl rfl) (aY zx (hr.mono (by omega)) rfl gA.m gA.F.kp gA.b .nil aO (aj (pv 1) (aj (pv 3) (aj (pv 2) ak)))))
  (aJ (aU (aY zy (hr.mono (by omega)) rfl gB.m gB.F.kp gB.b .nil aO (aj (lW (pv 0) CT qH qG (hr.mono (by omega)) gU.b .nil aO (aj (pv 1) ak)) (aj (lW (pv 0) CT uy ux (hr.mono (by omega)) jj.b .nil aO (aj (pv 1) (aj (pv 2) ak))) (aj (lW (pv 0) CT uy ux (hr.mono (by omega)) jj.b .nil aO (aj (pv 1) (aj (pv 4) ak))) ak))))))),?_⟩
 refine⟨_,rfl,_,rfl,_,rfl,kk,t,pl,src,xs,fs,ys,ops,f,fs.names,rfl,hK,au.of hpl,hP,hO,aa1 hO,hK.cV,gw,λnw H1 s1 hnw=>?_⟩
 have mV:=hV.same s1
 have gq:=hK.mono (Tu.of s1)
 have hT1:=hT.same s1
 refine⟨_,rfl,v,dx,_,rfl,mV.ob,rfl,_,rfl,v,kk,t,dx,nl,xs,fs,ss,rfl,mV,gq,hin,hT1,λr t' H2 j_ hT2 hr2 gO=>?_⟩
 have qP:=mV.keep j_ hT1
 have yD:=gq.mono (j_.tu hT1)
 have yP:=j_.keep hT1 (s1 _ _ gw) (by intro ps z;cases z)
 have aa3:=j_.keep hT1 hnw (by intro ps z;cases z)
 refine⟨_,rfl,v,dx,_,rfl,qP.ob,rfl,_,rfl,_,rfl,v,_,src,dx,nl,ss,_,f,rfl,qP,yP,λx hx=>by rw[eU,if_pos (hin x hx)],λpa H3 s3 hpa _=>?_⟩
 have qQ:=qP.same s3
 refine⟨_,rfl,v,dx,_,rfl,qQ.ob,rfl,_,rfl,_,rfl,v,_,nw,dx,nl,ss,_,cZ f ops,rfl,qQ,s3 _ _ aa3,λx hx=>by rw[eU,if_pos (hin x hx)],λpb H4 s4 hpb _=>?_⟩
 have zA:=s3.trans s4
 have uz:=qO hF hO
 refine⟨r,t',pa,pb,_,_,_,_,f,cZ f ops,rfl,(yD.few ss hr2 gO).mono (Tu.of zA),s4 _ _ hpa,hpb,λi nm k hat=>?_,λp zs H5 s5 hp zB=>?_⟩
 . obtain⟨z1,z2⟩:=Le hK.nd hat
   exact⟨by rw[eU,if_pos z1],by rw[eU,if_pos z1],hF _ _ z2,uz _ _ z2⟩
 . exact q p zs H5 ((Kp.of s1).trans (j_.trans (Kp.of (zA.trans s5)))) (hT2.same (zA.trans s5)) hp zB
theorem Li:bJ ["view","kind","source","paper","seen"] ["view","kind","source","paper"] (aG (top 44)):=bN
theorem aa4 (T:Tb mg)(TK:kO K mg C jh fO gR ji)(lB:Dn K mg "carried_back" ["view","kind","source","paper"] (top 44) zE zF)(gA:Dn K mg "done" ["kind","paper","value"] (top 24) qI qJ)(zx:aC P w K mg base aH (6) qI qJ ["kind","paper","value"] (yQ K))(gB:Dn K mg "between" ["kind","old","new"] (top 25) qM qN)(zy:aC P w K mg base aH (4) qM qN ["kind","old","new"] (yZ))(gU:Dm K "behind" "Take.behind" ["self","kind"] (bH 53 1) fO mL)(qG:aC P w K mg base aH (10) fO mL ["self","kind"] (ug P2 C))(jj:Dm K "see" "Take.see" ["self","kind","source"] (bH 53 2) gR qD)(ux:aC P w K mg base aH (2) gR qD ["self","kind","source"] (yw C))(oh:Dm K "put" "Take.put" ["self","kind","source","seen"] (bH 53 3) ji yO)(aa5:aC P w K mg base aH (11) ji yO ["self","kind","source","seen"] (Kz P2 C)):aC P w K mg base aH (12) zE zF ["view","kind","source","paper"] (Lg P2 C):=by
 have CT:=TK.ct
 have qH:=TK.b
 have uy:=TK.s
 have aa6:=TK.p
 refine lB.F.ok Li (λvs H Q E h=>?_) (λcdv A outer s H vs Q E hr h=>?_)
 . obtain⟨v,kk,t,dx,nl,xs,fs,ss,src,pl,ys,ops,f,rfl,_⟩:=h
   rfl
 obtain⟨v,kk,t,dx,nl,xs,fs,ss,src,pl,ys,ops,f,rfl,hV,hK,hin,hT,gw,hF,hpl,hP,hO,q⟩:=h
 have nd:=Li.nd
 refine⟨_,(ao (bI (i:=4) nd rfl (Or.inl rfl) (aY zx (hr.mono (by omega)) rfl gA.m gA.F.kp gA.b .nil aO (aj (lW (pv 0) CT qH qG (hr.mono (by omega)) gU.b .nil aO (aj (pv 1) ak)) (aj (pv 3) (aj (lW (pv 0) CT uy ux (hr.mono (by omega)) jj.b .nil aO (aj (pv 1) (aj (pv 2) ak))) ak)))))
  (aJ (aU (aY zy (hr.mono (by omega)) rfl gB.m gB.F.kp gB.b .nil aO (aj (pv 1) (aj (pv 2) (aj (lW (pv 0) CT aa6 aa5 (hr.mono (by omega)) oh.b .nil aO (aj (pv 1) (aj (pv 2) (aj (pv 4) ak)))) ak))))))),?_⟩
 obtain⟨hO1,hO2⟩:=hO.cj
 refine⟨_,rfl,v,dx,_,rfl,hV.ob,rfl,_,rfl,v,kk,t,dx,nl,xs,fs,ss,rfl,hV,hK,hin,hT,λr t' H1 jk hT1 hr1 ht1=>?_⟩
 have mV:=hV.keep jk hT
 have gq:=hK.mono (jk.tu hT)
 have uo:=jk.keep hT gw (by intro ps z;cases z)
 have aa9:=jk.keep hT hpl (by intro ps z;cases z)
 refine⟨_,rfl,_,rfl,v,dx,_,rfl,mV.ob,rfl,_,rfl,_,rfl,v,_,src,dx,nl,ss,_,f,rfl,mV,uo,λx hx=>by rw[eU,if_pos (hin x hx)],λpa H2 s2 hpa _=>?_⟩
 have qP:=mV.same s2
 have hKf:=(gq.few ss hr1 ht1).mono (Tu.of s2)
 refine⟨r,t',pl,pa,_,_,ys,ops,f,ss,rfl,hKf,au.of (s2 _ _ aa9),(hP.mono (jk.tu hT)).mono (Tu.of s2),hO,hO2,hV.cV,hpa,λsn H3 s3 hsn=>?_⟩
 have qQ:=qP.same s3
 have ou:=hT1.same (s2.trans s3)
 have Lj:=gq.mono (Tu.of (s2.trans s3))
 have Lk:=s3 _ _ (s2 _ _ uo)
 have uz:=qO hF hO1
 refine⟨_,rfl,_,rfl,_,rfl,v,dx,_,rfl,qQ.ob,rfl,_,rfl,_,rfl,_,rfl,v,kk,t,dx,nl,xs,fs,ss,src,sn,f,cZ f ops,rfl,qQ,Lj,hin,ou,Lk,hsn,⟨?_,λi nm k hat=>?_⟩,λp H4 zG uD zH=>?_⟩
 . rw[jg,Fs.fM]
   exact(Ld hK.nd hV.nd hin).length_eq.symm
 . obtain⟨z1,z2⟩:=Le hK.nd hat
   exact⟨_,by rw[eU,if_pos z1],uz _ _ z2⟩
 have hK4:=Lj.mono (zG.tu ou)
 have abd:=zG.keep ou Lk (by intro ps z;cases z)
 refine⟨kk,t,src,p,xs,fs,_,_,f,gW f (cZ f ops) ss,rfl,hK4,abd,zH,λi nm k hat=>?_,λp2 zs H5 s5 hp zB=>?_⟩
 . have g:=Fs.pZ hK.nd hat
   refine⟨by rw[eU,if_pos (zp hat)],by rw[eU,if_pos (zp hat)],hF _ _ g,?_⟩
   unfold gW
   split
   . exact uz _ _ g
   . exact hF _ _ g
 . exact q p2 zs H5 (jk.trans ((Kp.of (s2.trans s3)).trans (zG.trans (Kp.of s5)))) (uD.same s5) hp zB
end
end Pb
namespace PySem
namespace F
end F
namespace F
end F
open PyProof.Rows
section
variable {prog:Program}{w:World}{A:Around}{E:Value->Shared->Prop}{s:Shared}
end
section
variable {prog:Program}{w:World}{A:Around}{E:Value->Shared->Prop}{s:Shared}
end
end PySem
namespace L2
open PySem PyProof.Rows
section
variable {X:Cx}{e:Expr}{te:TE}{p p2 pos pos2:Pos}
end
end L2
namespace L2
open PySem PySem.Spec PyProof.Rows
section
variable {prog:Program}{w:World}{A:Around}{E:Value->Shared->Prop}{s:Shared}
theorem eX {h h':Heap}{it a c:Addr}{i:Nat}(x:h.IsTupleIter it a i)(k:Heap.ExtBut c h h')(n:it≠c):h'.IsTupleIter it a i:=let⟨o,ho,r⟩:=x;⟨o,k _ _ n ho,r⟩
theorem jH {h h':Heap}{a c:Addr}{vs:Array Value}(x:h.IsTuple a vs)(k:Heap.ExtBut c h h')(n:a≠c):h'.IsTuple a vs:=let⟨o,ho,r⟩:=x;⟨o,k _ _ n ho,r⟩
theorem abe {z TI TO i1 i2 l1 l2:Addr}{k:Nat}{xs ys:Array Value}{x y a b:Value}{Q:Value->Shared->Prop}(D:ZipApart z TI TO i1 i2 l1 l2)
 (hz:IsZip s.heap z TI TO .none) (hTI:IsPair s.heap TI (.ref i1) (.ref i2)) (hTO:IsPair s.heap TO a b)
 (h1:s.heap.IsTupleIter i1 l1 k) (h2:s.heap.IsTupleIter i2 l2 k) (g1:s.heap.IsTuple l1 xs) (g2:s.heap.IsTuple l2 ys) (hx:xs[k]? =some x) (hy:ys[k]? =some y)
 (hQ:∀h',IsZip h' z TI TO (rawInt s.heap.objs.size)->IsPair h' TO x y->h'.IsTupleIter i1 l1 (k+1)->h'.IsTupleIter i2 l2 (k+1)->IsPair h' s.heap.objs.size x y->
   (∀c o,c≠z->c≠TO->c≠i1->c≠i2->s.heap.get? c=some o->h'.get? c=some o)->Q (.ref s.heap.objs.size) { s with heap:=h' }):
 wpAny (model prog w) A (Builtin.«zip.__next__» ⟨[.ref z],[]⟩) (λfin s'=>∃v,fin=.done (.ret v)/\Q v s') E s:=by
 show wpAny _ _ (field (.ref z) 2 >>= _) _ _ _;refine wpAny_bind (wpAny_field hz rfl (x:=.bool false) rfl ?_)
 show wpAny _ _ (field (.ref z) 3 >>= _) _ _ _;refine wpAny_bind (wpAny_field hz rfl (x:=.ref TI) rfl ?_);refine wpAny_bind (wpAny_seqItems hTI rfl ?_)
 show wpAny _ _ (Builtin.SmallTypes.ownedTupleIsFree (.ref z) >>= _) _ _ _;refine wpAny_bind ?_;unfold Builtin.SmallTypes.ownedTupleIsFree
 refine wpAny_bind (wpAny_field hz rfl (x:=.none) rfl (wpAny_pure ?_));simp only[if_true];refine wpAny_bind (wpAny_rule ?_)
 refine wpAny_bind (wpAny_field hz rfl (x:=.ref TO) rfl ?_);refine wpAny_bind (wpAny_setField_rec hz (by simp) λha za sa=>?_)
 replace za:IsZip ha z TI TO .ellipsis:=za
 refine wpAny_bind ?_;simp only[List.zipIdx_cons,List.zipIdx_nil,List.forIn_cons,List.forIn_nil]
 refine wpAny_bind (wpAny_bind (wpAny_onRaise ?_));show wpAny _ _ (Builtin.SmallTypes.nextOf (.ref i1) >>= _) _ _ _
 refine wpAny_bind (wQ (eX h1 sa.extBut D.i1z) (jH g1 sa.extBut D.l1z) hx λhb b1 sb=>wpAny_pure ?_)
 have tb:IsPair hb TO a b:=sb.extBut _ _ D.TOi1 (sa.extBut _ _ D.TOz hTO)
 refine wpAny_bind (wpAny_seqItems tb rfl ?_);refine wpAny_bind (wpAny_updateSeq_pair tb λhc tc sc=>?_)
 replace tc:IsPair hc TO x b:=tc
 refine wpAny_bind (wpAny_letGo (wpAny_pure ?_));refine wpAny_bind (wpAny_bind (wpAny_onRaise ?_));show wpAny _ _ (Builtin.SmallTypes.nextOf (.ref i2) >>= _) _ _ _
 refine wpAny_bind (wQ (eX (eX (eX h2 sa.extBut D.i2z) sb.extBut D.i12.symm) sc.extBut D.TOi2.symm) (jH (jH (jH g2 sa.extBut D.l2z) sb.extBut D.l2i1) sc.extBut D.l2TO) hy λhd d2 sd=>wpAny_pure ?_)
 have td:IsPair hd TO x b:=sd.extBut _ _ D.TOi2 tc
 refine wpAny_bind (wpAny_seqItems td rfl ?_);refine wpAny_bind (wpAny_updateSeq_pair td λhe te se=>?_)
 replace te:IsPair he TO x y:=te
 refine wpAny_bind (wpAny_letGo (wpAny_pure (wpAny_pure ?_)));refine wpAny_bind (wpAny_seqItems te rfl ?_);refine wpAny_bind (wpAny_newTuple ?_)
 have sz:he.objs.size=s.heap.objs.size:=by rw[se.1,sd.1,sc.1,sb.1,sa.1]
 have ze:IsZip he z TI TO .ellipsis:=se.extBut _ _ D.TOz.symm (sd.extBut _ _ D.i2z.symm (sc.extBut _ _ D.TOz.symm (sb.extBut _ _ D.i1z.symm za)))
 have ke:∀c o,c≠z->c≠TO->c≠i1->c≠i2->s.heap.get? c=some o->he.get? c=some o:=λc o c1 c2 c3 c4 q=>se.extBut _ _ c2 (sd.extBut _ _ c4 (sc.extBut _ _ c2 (sb.extBut _ _ c3 (sa.extBut _ _ c1 q))))
 have e1:he.IsTupleIter i1 l1 (k+1):=eX (eX (eX b1 sc.extBut D.TOi1.symm) sd.extBut D.i12) se.extBut D.TOi1.symm
 have e2:he.IsTupleIter i2 l2 (k+1):=eX d2 se.extBut D.TOi2.symm
 have zl:z<he.objs.size:=Heap.lt_size ze
 show wpAny _ _ (Builtin.SmallTypes.ownedTupleHandOut (.ref z) (.ref he.objs.size) >>= _) _ _ _;refine wpAny_bind ?_;unfold Builtin.SmallTypes.ownedTupleHandOut
 have zf:IsZip (he.push { cls:=.type "tuple",data:=.seq #[x,y] }) z TI TO .ellipsis:=Heap.get?_push_of_some _ ze
 refine wpAny_bind (wpAny_setField_rec zf (by simp) λhg zg sg=>?_)
 replace zg:IsZip hg z TI TO (rawInt he.objs.size):=zg
 refine wpAny_setField_rec zg (by simp) λhh zh sh=>?_
 replace zh:IsZip hh z TI TO (rawInt he.objs.size):=zh
 have up:∀c o,c≠z->he.get? c=some o->hh.get? c=some o:=λc o c1 q=>sh.extBut _ _ c1 (sg.extBut _ _ c1 (Heap.get?_push_of_some _ q))
 have pr:IsPair hh he.objs.size x y:=sh.extBut _ _ (Nat.ne_of_gt zl) (sg.extBut _ _ (Nat.ne_of_gt zl) (Heap.get?_push_size _ rfl))
 rw[sz] at zh pr
 refine wpAny_pure ⟨_,rfl,?_⟩;show Q (.ref he.objs.size) _;rw[sz]
 exact hQ hh zh (up _ _ D.TOz te) (let⟨o,ho,r⟩:=e1;⟨o,up _ _ D.i1z ho,r⟩) (let⟨o,ho,r⟩:=e2;⟨o,up _ _ D.i2z ho,r⟩) pr λc o c1 c2 c3 c4 q=>up c o c1 (ke c o c1 c2 c3 c4 q)
theorem abf {z TI TO i1 i2 l1 l2:Addr}{k:Nat}{xs ys:Array Value}{a b:Value}{Q:Fin->Shared->Prop}(h0:A.handled=none)(D:ZipApart z TI TO i1 i2 l1 l2)
 (hz:IsZip s.heap z TI TO .none) (hTI:IsPair s.heap TI (.ref i1) (.ref i2)) (hTO:IsPair s.heap TO a b)
 (h1:s.heap.IsTupleIter i1 l1 k) (h2:s.heap.IsTupleIter i2 l2 k) (g1:s.heap.IsTuple l1 xs) (g2:s.heap.IsTuple l2 ys) (hend:xs[k]? =none\/ys[k]? =none)
 (hE:∀h' e,(∀c o,c≠z->c≠TO->c≠i1->c≠i2->s.heap.get? c=some o->h'.get? c=some o)->(∃o,h'.get? e=some o/\o.cls=.type "StopIteration")->E (.ref e) { s with heap:=h' }):
 wpAny (model prog w) A (Builtin.«zip.__next__» ⟨[.ref z],[]⟩) Q E s:=by
 show wpAny _ _ (field (.ref z) 2 >>= _) _ _ _;refine wpAny_bind (wpAny_field hz rfl (x:=.bool false) rfl ?_)
 show wpAny _ _ (field (.ref z) 3 >>= _) _ _ _;refine wpAny_bind (wpAny_field hz rfl (x:=.ref TI) rfl ?_);refine wpAny_bind (wpAny_seqItems hTI rfl ?_)
 show wpAny _ _ (Builtin.SmallTypes.ownedTupleIsFree (.ref z) >>= _) _ _ _;refine wpAny_bind ?_;unfold Builtin.SmallTypes.ownedTupleIsFree
 refine wpAny_bind (wpAny_field hz rfl (x:=.none) rfl (wpAny_pure ?_));simp only[if_true];refine wpAny_bind (wpAny_rule ?_)
 refine wpAny_bind (wpAny_field hz rfl (x:=.ref TO) rfl ?_);refine wpAny_bind (wpAny_setField_rec hz (by simp) λha za sa=>?_)
 replace za:IsZip ha z TI TO .ellipsis:=za
 refine wpAny_bind ?_;simp only[List.zipIdx_cons,List.zipIdx_nil,List.forIn_cons,List.forIn_nil]
 refine wpAny_bind (wpAny_bind (wpAny_onRaise ?_));show wpAny _ _ (Builtin.SmallTypes.nextOf (.ref i1) >>= _) _ _ _
 cases hx:xs[k]? with
 |none=>
  refine wpAny_bind (Jh h0 (eX h1 sa.extBut D.i1z) (jH g1 sa.extBut D.l1z) hx λhb e sb he=>?_)
  obtain⟨oe,q1,q2⟩:=he
  have zb:IsZip hb z TI TO .ellipsis:=sb _ _ D.i1z.symm za
  have ez:e≠z:=λv=>by subst v;rw[zb] at q1;cases q1;simp at q2
  exact wpAny_setField_rec zb (by simp) λhc _ sc=>hE hc e (λc o c1 _ c3 _ v=>sc.extBut _ _ c1 (sb _ _ c3 (sa.extBut _ _ c1 v))) ⟨oe,sc.extBut _ _ ez q1,q2⟩
 |some x=>
  have hy:ys[k]? =none:=by rcases hend with v|v;rw[hx] at v;cases v;exact v
  refine wpAny_bind (wQ (eX h1 sa.extBut D.i1z) (jH g1 sa.extBut D.l1z) hx λhb b1 sb=>wpAny_pure ?_)
  have tb:IsPair hb TO a b:=sb.extBut _ _ D.TOi1 (sa.extBut _ _ D.TOz hTO)
  refine wpAny_bind (wpAny_seqItems tb rfl ?_);refine wpAny_bind (wpAny_updateSeq_pair tb λhc tc sc=>?_)
  refine wpAny_bind (wpAny_letGo (wpAny_pure ?_));refine wpAny_bind (wpAny_bind (wpAny_onRaise ?_));show wpAny _ _ (Builtin.SmallTypes.nextOf (.ref i2) >>= _) _ _ _
  refine wpAny_bind (Jh h0 (eX (eX (eX h2 sa.extBut D.i2z) sb.extBut D.i12.symm) sc.extBut D.TOi2.symm) (jH (jH (jH g2 sa.extBut D.l2z) sb.extBut D.l2i1) sc.extBut D.l2TO) hy λhd e sd he=>?_)
  obtain⟨oe,q1,q2⟩:=he
  have zd:IsZip hd z TI TO .ellipsis:=sd _ _ D.i2z.symm (sc.extBut _ _ D.TOz.symm (sb.extBut _ _ D.i1z.symm za))
  have ez:e≠z:=λv=>by subst v;rw[zd] at q1;cases q1;simp at q2
  exact wpAny_setField_rec zd (by simp) λhg _ sg=>hE hg e (λc o c1 c2 c3 c4 v=>sg.extBut _ _ c1 (sd _ _ c4 (sc.extBut _ _ c2 (sb.extBut _ _ c3 (sa.extBut _ _ c1 v))))) ⟨oe,sg.extBut _ _ ez q1,q2⟩
theorem abg {z TI TO i1 i2 l1 l2:Addr}{k:Nat}{xs ys:Array Value}{x y a b:Value}{Q:Option Value->Shared->Prop}(D:ZipApart z TI TO i1 i2 l1 l2)
 (hz:IsZip s.heap z TI TO .none) (hTI:IsPair s.heap TI (.ref i1) (.ref i2)) (hTO:IsPair s.heap TO a b)
 (h1:s.heap.IsTupleIter i1 l1 k) (h2:s.heap.IsTupleIter i2 l2 k) (g1:s.heap.IsTuple l1 xs) (g2:s.heap.IsTuple l2 ys) (hx:xs[k]? =some x) (hy:ys[k]? =some y)
 (hQ:∀h',IsZip h' z TI TO (rawInt s.heap.objs.size)->IsPair h' TO x y->h'.IsTupleIter i1 l1 (k+1)->h'.IsTupleIter i2 l2 (k+1)->IsPair h' s.heap.objs.size x y->
   (∀c o,c≠z->c≠TO->c≠i1->c≠i2->s.heap.get? c=some o->h'.get? c=some o)->Q (some (.ref s.heap.objs.size)) { s with heap:=h' }):
 wpAny (model prog w) A (pyNext (.ref z)) Q E s:=by
 have hT:s.TypeIs (.ref z) "zip":=⟨_,hz,rfl⟩
 unfold pyNext
 exact wpAny_bind (wpAny_attempt (wpAny_callSpecial?_slot (name:=Str.ofString "__next__") hT F.slot_zip_next (wpAny_call_entry F.slot_zip_next hT F.entry_zip_next (abe D hz hTI hTO h1 h2 g1 g2 hx hy λh' a1 a2 a3 a4 a5 a6=>wpAny_pure (hQ h' a1 a2 a3 a4 a5 a6)) (F.args_zip_next_1 _))))
theorem abh {z TI TO i1 i2 l1 l2:Addr}{k:Nat}{xs ys:Array Value}{a b:Value}{Q:Option Value->Shared->Prop}(h0:A.handled=none)(D:ZipApart z TI TO i1 i2 l1 l2)
 (hz:IsZip s.heap z TI TO .none) (hTI:IsPair s.heap TI (.ref i1) (.ref i2)) (hTO:IsPair s.heap TO a b)
 (h1:s.heap.IsTupleIter i1 l1 k) (h2:s.heap.IsTupleIter i2 l2 k) (g1:s.heap.IsTuple l1 xs) (g2:s.heap.IsTuple l2 ys) (hend:xs[k]? =none\/ys[k]? =none)
 (hQ:∀h',(∀c o,c≠z->c≠TO->c≠i1->c≠i2->s.heap.get? c=some o->h'.get? c=some o)->Q none { s with heap:=h' }):wpAny (model prog w) A (pyNext (.ref z)) Q E s:=by
 have hT:s.TypeIs (.ref z) "zip":=⟨_,hz,rfl⟩
 unfold pyNext
 refine wpAny_bind (wpAny_attempt (wpAny_callSpecial?_slot (name:=Str.ofString "__next__") hT F.slot_zip_next (wpAny_call_entry F.slot_zip_next hT F.entry_zip_next (abf h0 D hz hTI hTO h1 h2 g1 g2 hend λh' e hk he=>?_) (F.args_zip_next_1 _))))
 obtain⟨o,ho,hc⟩:=he
 exact wpAny_bind (wpAny_isInstance (T:="StopIteration") (b:=true) ⟨o,ho,hc⟩ isSubtype_stop (wpAny_pure (hQ _ hk)))
noncomputable abbrev uE (h:Heap) (l1:Addr):Heap:=h.push { cls:=.type "tuple_iterator",data:=.fields #[.ref l1,.int 0 0] }
noncomputable abbrev uF (h:Heap) (l1 l2:Addr):Heap:=(uE h l1).push { cls:=.type "tuple_iterator",data:=.fields #[.ref l2,.int 0 0] }
noncomputable abbrev uG (h:Heap) (l1 l2:Addr):Heap:=(uF h l1 l2).push { cls:=.type "tuple",data:=.seq #[.ref h.objs.size,.ref (uE h l1).objs.size] }
noncomputable abbrev uH (h:Heap) (l1 l2:Addr):Heap:=(uG h l1 l2).push { cls:=.type "tuple",data:=.seq #[.none,.none] }
noncomputable abbrev oA (h:Heap) (l1 l2:Addr):Heap:=(uH h l1 l2).push { cls:=.type "zip",data:=.fields #[.none,.bool false,.bool false,.ref (uF h l1 l2).objs.size,.ref (uG h l1 l2).objs.size] }
theorem abj (l1 l2:Addr)(xs ys:Array Value):Meets (Builtin.«zip.__new__» ⟨[.type "zip",.ref l1,.ref l2],[]⟩) (λ_ R s=>s.heap.IsTuple l1 xs/\s.heap.IsTuple l2 ys/\R (.ok (.ret (.ref (uH s.heap l1 l2).objs.size))) { s with heap:=oA s.heap l1 l2 }):=
 .of_wp λprog w A R s h=>by
   obtain⟨hp,g,d,tk,os⟩:=s;obtain⟨t1,t2,h⟩:=h;have hsub:=sub_zip
   have L1:Heap.IsTuple (Shared.heap ⟨hp,g,d,tk,os⟩) l1 xs:=t1
   have L2:Heap.IsTuple (Shared.heap ⟨hp.push { cls:=.type "tuple_iterator",data:=.fields #[.ref l1,.int 0 0] },g,d,tk,os⟩) l2 ys:=let⟨o,ho,r⟩:=t2;⟨o,Heap.get?_push_of_some _ ho,r⟩
   wp_walk using wpAny_pyIter_tuple L1,wpAny_pyIter_tuple L2
   exact⟨_,rfl,h⟩
theorem abk {l1 l2:Addr}{xs ys:Array Value}{Q:Value->Shared->Prop}(t1:s.heap.IsTuple l1 xs)(t2:s.heap.IsTuple l2 ys)
 (h:∀h',IsZip h' (s.heap.objs.size+4) (s.heap.objs.size+2) (s.heap.objs.size+3) .none->IsPair h' (s.heap.objs.size+2) (.ref s.heap.objs.size) (.ref (s.heap.objs.size+1))->
   IsPair h' (s.heap.objs.size+3) .none .none->h'.IsTupleIter s.heap.objs.size l1 0->h'.IsTupleIter (s.heap.objs.size+1) l2 0->
   (∀c o,s.heap.get? c=some o->h'.get? c=some o)->Q (.ref (s.heap.objs.size+4)) { s with heap:=h' }):
 wpAny (model prog w) A (call (.type "zip") [.ref l1,.ref l2]) Q E s:=by
 refine callType_new F.called_zip (by decide) (F.typeCall_zip_2 _ _) (F.newCall_zip_2 _ _) (λobj=>F.args_object_init_3 obj _ _) F.entry_zip_new (abj l1 l2 xs ys) ⟨t1,t2,?_⟩
 have z1:(uE s.heap l1).objs.size=s.heap.objs.size+1:=Heap.size_push ..
 have z2:(uF s.heap l1 l2).objs.size=s.heap.objs.size+2:=by rw[Heap.size_push,z1]
 have z3:(uG s.heap l1 l2).objs.size=s.heap.objs.size+3:=by rw[Heap.size_push,z2]
 have z4:(uH s.heap l1 l2).objs.size=s.heap.objs.size+4:=by rw[Heap.size_push,z3]
 have q5:(oA s.heap l1 l2).get? (uH s.heap l1 l2).objs.size=some _:=Heap.get?_push_size _ rfl
 have q4:(oA s.heap l1 l2).get? (uG s.heap l1 l2).objs.size=some _:=Heap.get?_push_of_some _ (Heap.get?_push_size _ rfl)
 have q3:(oA s.heap l1 l2).get? (uF s.heap l1 l2).objs.size=some _:=Heap.get?_push_of_some _ (Heap.get?_push_of_some _ (Heap.get?_push_size _ rfl))
 have q2:(oA s.heap l1 l2).get? (uE s.heap l1).objs.size=some _:=Heap.get?_push_of_some _ (Heap.get?_push_of_some _ (Heap.get?_push_of_some _ (Heap.get?_push_size _ rfl)))
 have q1:(oA s.heap l1 l2).get? s.heap.objs.size=some _:=Heap.get?_push_of_some _ (Heap.get?_push_of_some _ (Heap.get?_push_of_some _ (Heap.get?_push_of_some _ (Heap.get?_push_size _ rfl))))
 show _/\_
 rw[z2,z3,z4] at q5;rw[z1,z2] at q3;rw[z3] at q4;rw[z1] at q2;rw[z4]
 exact⟨⟨_,q5,rfl⟩,h _ q5 q3 q4 ⟨_,q1,rfl,rfl⟩ ⟨_,q2,rfl,rfl⟩ λc o v=>Heap.get?_push_of_some _ (Heap.get?_push_of_some _ (Heap.get?_push_of_some _ (Heap.get?_push_of_some _ (Heap.get?_push_of_some _ v))))⟩
end
noncomputable def Ln (K:W.Frag) (a b:Addr):It:=
 ⟨λi H=>∃xs ys x y,aq K H a xs/\aq K H b ys/\xs[i]? =some x/\ys[i]? =some y,
  λi H v H'=>∃p x y,H p=none/\v=.ref p/\(∀xs,aq K H a xs->xs[i]? =some x)/\(∀ys,aq K H b ys->ys[i]? =some y)/\H'=upd H p (.tup [x,y]),
  λi H=>∃xs ys,aq K H a xs/\aq K H b ys/\(xs.length<=i\/ys.length<=i)⟩
theorem abl {P:Program}{w:World}{K:W.Frag}{elts:List Expr}{k:Nat}{tpos:Pos}{z TI TO i1 i2 l1 l2:Addr}(D:ZipApart z TI TO i1 i2 l1 l2):
 Turn P w K (.Tuple elts k tpos) (Ln K l1 l2) [z,TI,TO,i1,i2] z (λi h=>∃oa ob,IsZip h z TI TO .none/\IsPair h TI (.ref i1) (.ref i2)/\IsPair h TO oa ob/\h.IsTupleIter i1 l1 i/\h.IsTupleIter i2 l2 i) where
 mem:=by simp
 obj:=λi h st b hb=>by
  obtain⟨oa,ob,h1,h2,h3,h4,h5⟩:=st
  have hb:b=z\/b=TI\/b=TO\/b=i1\/b=i2:=by simpa using hb
  rcases hb with rfl|rfl|rfl|rfl|rfl
  . exact⟨_,h1,λv y=>by
     have y:Data.fields _=Data.cell v:=y
     cases y⟩
  . exact⟨_,h2,λv y=>by
     have y:Data.seq _ _=Data.cell v:=y
     cases y⟩
  . exact⟨_,h3,λv y=>by
     have y:Data.seq _ _=Data.cell v:=y
     cases y⟩
  . obtain⟨o,q,c,d⟩:=h4
    exact⟨o,q,λv y=>by rw[d] at y;cases y⟩
  . obtain⟨o,q,c,d⟩:=h5
    exact⟨o,q,λv y=>by rw[d] at y;cases y⟩
 keep:=λi h h' st k=>by
  obtain⟨oa,ob,h1,h2,h3,h4,h5⟩:=st
  exact⟨oa,ob,k z (by simp) _ h1,k TI (by simp) _ h2,k TO (by simp) _ h3,(let⟨o,ho,r⟩:=h4;⟨o,k i1 (by simp) o ho,r⟩),(let⟨o,ho,r⟩:=h5;⟨o,k i2 (by simp) o ho,r⟩)⟩
 item:=by
  intro X hP hw hK hc i pins s σ H E I hf st hg
  subst hP hw hK
  obtain⟨oa,ob,h1,h2,h3,h4,h5⟩:=st
  obtain⟨xs,ys,x,y,hq1,hq2,hx,hy⟩:=hg
  obtain⟨pR,jB,p1,hz1⟩:=I.tuple hq1
  obtain⟨its2,jC,p2,hz2⟩:=I.tuple hq2
  obtain⟨u1,hu1,mD⟩:=jB.get hx
  obtain⟨u2,hu2,mF⟩:=jC.get hy
  have fr:H s.heap.objs.size=none:=I.hok.fresh (Nat.le_refl _)
  refine abg D h1 h2 h3 h4 h5 p1 p2 (x:=u1) (y:=u2) (by simpa using hu1) (by simpa using hu2) λh' q1 q2 q3 q4 q5 q7=>?_
  refine⟨_,rfl,wpAny_letOwnedTupleGo_zip (s:={ s with heap:=h' }) q1 λh'' g1 g2=>?_⟩
  have wF:∀b∈[z,TI,TO,i1,i2],b<s.heap.objs.size:=λb hb=>by
   have hb:b=z\/b=TI\/b=TO\/b=i1\/b=i2:=by simpa using hb
   rcases hb with rfl|rfl|rfl|rfl|rfl
   . exact Heap.lt_size h1
   . exact Heap.lt_size h2
   . exact Heap.lt_size h3
   . obtain⟨o,q,_⟩:=h4;exact Heap.lt_size q
   . obtain⟨o,q,_⟩:=h5;exact Heap.lt_size q
  have ne1:∀b o,s.heap.get? b=some o->b≠s.heap.objs.size:=λb o q=>Nat.ne_of_lt (Heap.lt_size q)
  have kk:∀b o,b≠z->b≠TO->b≠i1->b≠i2->s.heap.get? b=some o->h''.get? b=some o:=λb o n1 n2 n3 n4 q=>g2.extBut b o n1 (q7 b o n1 n2 n3 n4 q)
  have kn:∀b o,b ∉ [z,TO,i1,i2]->s.heap.get? b=some o->h''.get? b=some o:=λb o n q=>kk b o (λy=>n (by simp[y])) (λy=>n (by simp[y])) (λy=>n (by simp[y])) (λy=>n (by simp[y])) q
  have tup:h''.get? s.heap.objs.size=some { cls:=.type "tuple",data:=.seq #[u1,u2] }:=g2.extBut _ _ (Nat.ne_of_gt (Heap.lt_size h1)) q5
  have I1:Inv X pins σ (upd H s.heap.objs.size (.tup [x,y])) { s with heap:=h'' }:=by
   refine I.step (g':=s.gens) (d':=s.drawn) (t':=s.toks) (ch:=[z,TO,i1,i2]) (λb hb=>?_) (λb o _ _ hc q _=>kn b o hc q) (λb o _ _ hc q _=>⟨o.slots,kn b o hc q⟩) (λb o _ q n=>?_) (λb o hc q=>⟨o,kn b o hc q⟩) (λb ws q=>?_) (λb o v q=>?_) (λb ps q=>?_) (λm hm=>?_) (λb o q=>?_) I.bare
   . have hb':b∈[z,TI,TO,i1,i2]:=by
      have hb:b=z\/b=TO\/b=i1\/b=i2:=by simpa using hb
      rcases hb with rfl|rfl|rfl|rfl <;> simp
     obtain⟨f0,f1,f2,f3,f4,f5⟩:=hf b hb'
     exact⟨f3,f1,f4,f5⟩
   . rw[aB (ne1 b o q)];exact n
   . rw[aB (aW q fr)];exact q
   . rw[aB (aW q fr)];exact q
   . exact⟨#[],by rw[aB (aW q fr),q];simp⟩
   . obtain⟨o,es,ep,ho,r⟩:=hm
     exact⟨o,es,ep,kk _ o (Ne.symm (hf z (by simp)).2.1) (Ne.symm (hf TO (by simp)).2.1) (Ne.symm (hf i1 (by simp)).2.1) (Ne.symm (hf i2 (by simp)).2.1) ho,r⟩
   . by_cases hb:b=s.heap.objs.size
     . subst hb
       rw[aK] at q;cases q
       exact⟨gY,[u1,u2],.cons mD (.cons mF .nil),⟨_,tup,rfl,_,rfl⟩⟩
     . rw[aB hb] at q
       have nn:∀c v,H c=some v->c ∉ [z,TO,i1,i2]:=λc v e hm=>by
        have hm':c∈[z,TI,TO,i1,i2]:=by
         have hm:c=z\/c=TO\/c=i1\/c=i2:=by simpa using hm
         rcases hm with rfl|rfl|rfl|rfl <;> simp
        have:=(hf c hm').1
        rw[e] at this;cases this
       refine(I.hok b o q).stay (λc v hc' y=>kn c v ?_ y) (λc y=>by rw[aB (aW y fr)];exact y) λc ws y=>by rw[aB (aW y fr)];exact y
       rcases hc' with y|y
       . rw[y];exact nn b o q
       . exact nn c _ y
  refine⟨.ref s.heap.objs.size,_,I1,rfl,⟨s.heap.objs.size,x,y,fr,rfl,λws hw=>by rw[I.u_ hw hq1];exact hx,λws hw=>by rw[I.u_ hw hq2];exact hy,rfl⟩,⟨u1,u2,g1,?_,?_,?_,?_⟩,λb hb=>?_⟩
  . exact kk TI _ D.TIz D.TITO D.TIi1 D.TIi2 h2
  . exact g2.extBut _ _ D.TOz q2
  . exact eX q3 g2.extBut D.i1z
  . exact eX q4 g2.extBut D.i2z
  . rw[aB (Nat.ne_of_lt (wF b hb))]
    exact(hf b hb).1
 done:=by
  intro X hP hw hK hc i pins s σ H E I hf st hg
  subst hP hw hK
  obtain⟨oa,ob,h1,h2,h3,h4,h5⟩:=st
  obtain⟨xs,ys,hq1,hq2,hend⟩:=hg
  obtain⟨pR,jB,p1,hz1⟩:=I.tuple hq1
  obtain⟨its2,jC,p2,hz2⟩:=I.tuple hq2
  have e1:=jB.length
  have e2:=jC.length
  refine abh (I.ok.hd hc) D h1 h2 h3 h4 h5 p1 p2 (by
   rcases hend with q|q
   . exact .inl (by simp;omega)
   . exact .inr (by simp;omega)) λh' hk=>⟨rfl,?_⟩
  refine I.step (g':=s.gens) (d':=s.drawn) (t':=s.toks) (ch:=[z,TO,i1,i2]) (λb hb=>?_) (λb o _ _ hc q _=>?_) (λb o _ _ hc q _=>?_) (λb o _ q n=>n) (λb o hc q=>?_) (λb ys q=>q) (λb o v q=>q) (λb ps q=>⟨#[],by rw[q];simp⟩) (λm hm=>?_) (λb o q=>?_) I.bare
  . have hb':b∈[z,TI,TO,i1,i2]:=by
     have hb:b=z\/b=TO\/b=i1\/b=i2:=by simpa using hb
     rcases hb with rfl|rfl|rfl|rfl <;> simp
    obtain⟨f0,f1,f2,f3,f4,f5⟩:=hf b hb'
    exact⟨f3,f1,f4,f5⟩
  . exact hk b o (λy=>hc (by simp[y])) (λy=>hc (by simp[y])) (λy=>hc (by simp[y])) (λy=>hc (by simp[y])) q
  . exact⟨o.slots,hk b o (λy=>hc (by simp[y])) (λy=>hc (by simp[y])) (λy=>hc (by simp[y])) (λy=>hc (by simp[y])) q⟩
  . exact⟨o,hk b o (λy=>hc (by simp[y])) (λy=>hc (by simp[y])) (λy=>hc (by simp[y])) (λy=>hc (by simp[y])) q⟩
  . obtain⟨o,es,ep,ho,r⟩:=hm
    exact⟨o,es,ep,hk _ o (Ne.symm (hf z (by simp)).2.1) (Ne.symm (hf TO (by simp)).2.1) (Ne.symm (hf i1 (by simp)).2.1) (Ne.symm (hf i2 (by simp)).2.1) ho,r⟩
  . have nn:∀c v,H c=some v->∀y∈[z,TI,TO,i1,i2],c≠y:=λc v e y hy=>aW e (hf y hy).1
    refine(I.hok b o q).stay (λc v hc' y=>hk c v ?_ ?_ ?_ ?_ y) (λ_ y=>y) λ_ _ y=>y <;> (rcases hc' with y|y)
    all_goals first
     |(rw[y];exact nn b o q _ (by simp))
     |exact nn c _ y _ (by simp)
 self:=λA i s Q E st q=>by
  obtain⟨oa,ob,h1,_⟩:=st
  exact wpAny_pyIter_zip h1 q
noncomputable def abm (K:W.Frag) (ta:TA):TI:=λσ H R=>ta σ H λvs H1=>∃a b,vs=[.ref a,.ref b]/\(∃xs,aq K H1 a xs)/\(∃ys,aq K H1 b ys)/\R (Ln K a b) H1
section
variable {X:Cx}
theorem abn {elts:List Expr}{k:Nat}{tpos:Pos}{a b:Expr}{ta:TA}{p pos:Pos}(hg:Gl X "zip")(hm:X.mg "zip"=none)(ha:PA X [a,b] ta)(hs:starEach [a,b] X.env=[(false,eval a X.env),(false,eval b X.env)]:=by rfl)
 (hs2:starEach [b] X.env=[(false,eval b X.env)]:=by rfl):PI X (.Tuple elts k tpos) (.Call (.Name "zip" p) [a,b] [] pos) (abm X.K ta):=by
 intro pins s σ H R I h
 refine Call_ (g_ I hg hm boot_zip (PyProof.Rows.callWith_type1 (aL (ha pos pins s σ H _ I h) λus s1 ⟨vs,H1,I1,r1,q1⟩=>?_) (by rw[hs,hs2]) (by rw[hs2];rfl)))
 obtain⟨l1,l2,e,⟨xs,hq1⟩,⟨ys,hq2⟩,q⟩:=q1
 subst e
 obtain⟨u1,u2,rfl,mD,mF⟩:=vals2 r1
 cases mD
 cases mF
 obtain⟨pR,jB,p1,hz1⟩:=I1.tuple hq1
 obtain⟨its2,jC,p2,hz2⟩:=I1.tuple hq2
 have a1:l1<s1.heap.objs.size:=by obtain⟨_,e,_⟩:=p1;exact Heap.lt_size e
 have a2:l2<s1.heap.objs.size:=by obtain⟨_,e,_⟩:=p2;exact Heap.lt_size e
 refine abk p1 p2 λh' q1 q2 q3 q4 q5 q7=>?_
 refine wpAny_pyIter_zip q1 ?_
 have I2:Inv X pins σ H1 { s1 with heap:=h' }:=I1.kept (t':=s1.toks) q7
 have Dz:ZipApart (s1.heap.objs.size+4) (s1.heap.objs.size+2) (s1.heap.objs.size+3) s1.heap.objs.size (s1.heap.objs.size+1) l1 l2:=by
  have b1:@LT.lt Nat _ l1 s1.heap.objs.size:=a1
  have b2:@LT.lt Nat _ l2 s1.heap.objs.size:=a2
  constructor <;> (intro z;have z':(_:Nat)=_:=z;omega)
 refine⟨s1.heap.objs.size+4,[s1.heap.objs.size+4,s1.heap.objs.size+2,s1.heap.objs.size+3,s1.heap.objs.size,s1.heap.objs.size+1],_,_,H1,rfl,I2,abl Dz,⟨.none,.none,q1,q2,q3,q4,q5⟩,λb hb=>?_,q⟩
 have hb:s1.heap.objs.size<=b:=by
  have hb:b=s1.heap.objs.size+4\/b=s1.heap.objs.size+2\/b=s1.heap.objs.size+3\/b=s1.heap.objs.size\/b=s1.heap.objs.size+1:=by simpa using hb
  rcases hb with z|z|z|z|z <;> rw[z]
  . exact Nat.le_add_right _ _
  . exact Nat.le_add_right _ _
  . exact Nat.le_add_right _ _
  . exact Nat.le_refl _
  . exact Nat.le_add_right _ _
 exact I1.jo hb (I1.hok.fresh hb)
end
end L2
namespace Pb
open PySem L2 PyProof.Rows
noncomputable def mW (a b:V):Prop:=(∃z,a=.int z/\b=.int z)\/∃z,a=.str z/\b=.str z
noncomputable def Sm (H:Hp):Nat->V->V->Prop
 |0,a,b=>mW a b
 |n+1,a,b=>mW a b\/(∃p q xs ys,a=.ref p/\b=.ref q/\H p=some (.tup xs)/\H q=some (.tup ys)/\xs.length=ys.length/\xs.length<=60/\∀(i:Nat) x y,xs[i]? =some x->ys[i]? =some y->Sm H n x y)\/
  (∃p q xs ys,a=.ref p/\b=.ref q/\H p=some (.lst xs)/\H q=some (.lst ys)/\xs.length=ys.length/\xs.length<=60/\∀(i:Nat) x y,xs[i]? =some x->ys[i]? =some y->Sm H n x y)\/
  ∃p q l,∃f:Str->V,a=.ref p/\b=.ref q/\p≠q/\H p=some (.dK (aN f l))/\H q=some (.dK (aN f l))/\l.length<=12/\∀x∈l,mW (f x) (f x)
theorem Sm.same {H H':Hp}(k:Same H H'):∀{n:Nat}{v u:V},Sm H n v u->Sm H' n v u
 |0,_,_,h=>h
 |n+1,_,_,.inl h=>.inl h
 |n+1,_,_,.inr (.inl ⟨a,b,xs,ys,e1,e2,h1,h2,h3,h4,h5⟩)=>.inr (.inl ⟨a,b,xs,ys,e1,e2,k _ _ h1,k _ _ h2,h3,h4,λi x y hx hy=>(h5 i x y hx hy).same k⟩)
 |n+1,_,_,.inr (.inr (.inl ⟨a,b,xs,ys,e1,e2,h1,h2,h3,h4,h5⟩))=>.inr (.inr (.inl ⟨a,b,xs,ys,e1,e2,k _ _ h1,k _ _ h2,h3,h4,λi x y hx hy=>(h5 i x y hx hy).same k⟩))
 |n+1,_,_,.inr (.inr (.inr ⟨p,q,l,f,e1,e2,e3,h1,h2,h⟩))=>.inr (.inr (.inr ⟨p,q,l,f,e1,e2,e3,k _ _ h1,k _ _ h2,h⟩))
noncomputable def oE (n:Nat):Sp:=λvs H Q _=>∃v u,vs=[v,u]/\Sm H n v u/\∀H',Same H H'->Q (.bl true) H'
variable {P:Program}{w:World}{K:W.Frag}{mg:Str->Option Value}{base:Heap}
theorem uI:bJ ["_law_found","_law_due_here"] ["_law_found","_law_due_here"] (aG (top 66)):=bN
theorem Lp (T:Tb mg)(cF:Dn K mg "_law_same" ["_law_found","_law_due_here"] (top 66) jJ jK):aC P w K mg base aH (1) jJ jK ["_law_found","_law_due_here"] (oE 0):=by
 refine cF.F.ok uI (λvs H Q E h=>?_) (λcdv A outer s H vs Q E hr h=>?_)
 . obtain⟨v,u,rfl,_⟩:=h
   rfl
 obtain⟨v,u,rfl,hs,q⟩:=h
 have nd:=uI.nd
 refine⟨_,(ao (bh (cH (aR bR (by rfl) T.bT boot_isinstance (aj (pv 1) (aj (bO (v:=.ty "dict") rfl T.gM boot_dict rfl) ak)))) (ao aP
  (aJ aP)) bf)
  (ao (bh (PW.pt (iZ (cH (aR bR (by rfl) T.bT boot_isinstance (aj (pv 1) (aj (bO (v:=.ty "list") rfl T.fZ boot_list rfl) ak)))) (iY (cH (aR bR (by rfl) T.bT boot_isinstance (aj (pv 1) (aj (bO (v:=.ty "tuple") rfl T.iJ boot_tuple rfl) ak))))))) (ao aP
  (aJ aP)) bf)
  (ao (bh (cH (aR bR (by rfl) T.bT boot_isinstance (aj (pv 1) (aj (bO (v:=.ty "str") rfl T.nY boot_str rfl) ak)))) (aJ (aU (h_ (aR bR (by rfl) T.bT boot_isinstance (aj (pv 0) (aj (bO (v:=.ty "str") rfl T.nY boot_str rfl) ak))) (i_ (iB bK (pv 0) (pv 1) (aX _)))))) bf)
  (aJ (aU (h_ (aR bR (by rfl) T.bT boot_isinstance (aj (pv 0) (aj (bO (v:=.ty "int") rfl T.tR boot_int rfl) ak))) (h_ (Fz (aR bR (by rfl) T.bT boot_isinstance (aj (pv 0) (aj (bO (v:=.ty "bool") rfl T.tU boot_bool rfl) ak)))) (i_ (iB bK (pv 0) (pv 1) (aX _)))))))))),?_⟩
 rcases hs with⟨i,rfl,rfl⟩|⟨x,rfl,rfl⟩
 . refine⟨_,rfl,_,_,_,false,rfl,.int i,rfl,false,rfl,bM ?_⟩
   refine⟨_,rfl,_,_,_,false,rfl,.int i,rfl,false,rfl,bM ?_⟩
   refine⟨_,rfl,_,_,_,false,rfl,.int i,rfl,false,rfl,bM ?_⟩
   refine⟨_,rfl,_,_,_,false,rfl,.int i,rfl,false,rfl,bM ?_⟩
   refine⟨_,rfl,_,_,_,true,rfl,.int i,rfl,true,rfl,bW ?_⟩
   refine⟨_,rfl,_,_,_,false,rfl,.int i,rfl,false,rfl,true,rfl,bW ?_⟩
   refine⟨_,rfl,_,rfl,rfl,?_⟩
   rw[decide_eq_true rfl]
   exact q _ (Same.refl _)
 . refine⟨_,rfl,_,_,_,false,rfl,.str x,rfl,false,rfl,bM ?_⟩
   refine⟨_,rfl,_,_,_,false,rfl,.str x,rfl,false,rfl,bM ?_⟩
   refine⟨_,rfl,_,_,_,false,rfl,.str x,rfl,false,rfl,bM ?_⟩
   refine⟨_,rfl,_,_,_,true,rfl,.str x,rfl,true,rfl,bW ?_⟩
   refine⟨_,rfl,_,_,_,true,rfl,.str x,rfl,true,rfl,bW ?_⟩
   refine⟨_,rfl,_,rfl,rfl,?_⟩
   rw[decide_eq_true rfl]
   exact q _ (Same.refl _)
theorem abo (n:Nat)(T:Tb mg)(cF:Dn K mg "_law_same" ["_law_found","_law_due_here"] (top 66) jJ jK)(G0_:aC P w K mg base aH (1) jJ jK ["_law_found","_law_due_here"] (oE 0))(lC:aC P w K mg base aH (n+1) jJ jK ["_law_found","_law_due_here"] (oE n)):aC P w K mg base aH ((n+1)+1) jJ jK ["_law_found","_law_due_here"] (oE (n+1)):=by
 refine cF.F.ok uI (λvs H Q E h=>?_) (λcdv A outer s H vs Q E hr h=>?_)
 . obtain⟨v,u,rfl,_⟩:=h
   rfl
 obtain⟨v,u,rfl,hs,q⟩:=h
 have nd:=uI.nd
 have hu:=iG hr
 rcases hs with hs|⟨a,b,xs,ys,rfl,rfl,ha,hb,hl,tQ,hs⟩|⟨a,b,xs,ys,rfl,rfl,ha,hb,hl,tQ,hs⟩|⟨a,b,l,f,rfl,rfl,hne,ha,hb,hl,hs⟩
 . refine⟨_,(ao (bh (cH (aR bR (by rfl) T.bT boot_isinstance (aj (pv 1) (aj (bO (v:=.ty "dict") rfl T.gM boot_dict rfl) ak)))) (ao aP
   (aJ aP)) bf)
   (ao (bh (PW.pt (iZ (cH (aR bR (by rfl) T.bT boot_isinstance (aj (pv 1) (aj (bO (v:=.ty "list") rfl T.fZ boot_list rfl) ak)))) (iY (cH (aR bR (by rfl) T.bT boot_isinstance (aj (pv 1) (aj (bO (v:=.ty "tuple") rfl T.iJ boot_tuple rfl) ak))))))) (ao aP
   (aJ aP)) bf)
   (ao (bh (cH (aR bR (by rfl) T.bT boot_isinstance (aj (pv 1) (aj (bO (v:=.ty "str") rfl T.nY boot_str rfl) ak)))) (aJ (aU (h_ (aR bR (by rfl) T.bT boot_isinstance (aj (pv 0) (aj (bO (v:=.ty "str") rfl T.nY boot_str rfl) ak))) (i_ (iB bK (pv 0) (pv 1) (aX _)))))) bf)
   (aJ (aU (h_ (aR bR (by rfl) T.bT boot_isinstance (aj (pv 0) (aj (bO (v:=.ty "int") rfl T.tR boot_int rfl) ak))) (h_ (Fz (aR bR (by rfl) T.bT boot_isinstance (aj (pv 0) (aj (bO (v:=.ty "bool") rfl T.tU boot_bool rfl) ak)))) (i_ (iB bK (pv 0) (pv 1) (aX _)))))))))),?_⟩
   rcases hs with⟨i,rfl,rfl⟩|⟨x,rfl,rfl⟩
   . refine⟨_,rfl,_,_,_,false,rfl,.int i,rfl,false,rfl,bM ?_⟩
     refine⟨_,rfl,_,_,_,false,rfl,.int i,rfl,false,rfl,bM ?_⟩
     refine⟨_,rfl,_,_,_,false,rfl,.int i,rfl,false,rfl,bM ?_⟩
     refine⟨_,rfl,_,_,_,false,rfl,.int i,rfl,false,rfl,bM ?_⟩
     refine⟨_,rfl,_,_,_,true,rfl,.int i,rfl,true,rfl,bW ?_⟩
     refine⟨_,rfl,_,_,_,false,rfl,.int i,rfl,false,rfl,true,rfl,bW ?_⟩
     refine⟨_,rfl,_,rfl,rfl,?_⟩
     rw[decide_eq_true rfl]
     exact q _ (Same.refl _)
   . refine⟨_,rfl,_,_,_,false,rfl,.str x,rfl,false,rfl,bM ?_⟩
     refine⟨_,rfl,_,_,_,false,rfl,.str x,rfl,false,rfl,bM ?_⟩
     refine⟨_,rfl,_,_,_,false,rfl,.str x,rfl,false,rfl,bM ?_⟩
     refine⟨_,rfl,_,_,_,true,rfl,.str x,rfl,true,rfl,bW ?_⟩
     refine⟨_,rfl,_,_,_,true,rfl,.str x,rfl,true,rfl,bW ?_⟩
     refine⟨_,rfl,_,rfl,rfl,?_⟩
     rw[decide_eq_true rfl]
     exact q _ (Same.refl _)
 . refine⟨_,(ao (bh (cH (aR bR (by rfl) T.bT boot_isinstance (aj (pv 1) (aj (bO (v:=.ty "dict") rfl T.gM boot_dict rfl) ak)))) (ao aP
   (aJ aP)) bf)
   (ao (bh (PW.pt (iZ (cH (aR bR (by rfl) T.bT boot_isinstance (aj (pv 1) (aj (bO (v:=.ty "list") rfl T.fZ boot_list rfl) ak)))) (iY (cH (aR bR (by rfl) T.bT boot_isinstance (aj (pv 1) (aj (bO (v:=.ty "tuple") rfl T.iJ boot_tuple rfl) ak))))))) (ao (bh (PW.pt (iZ (bx lO (aR bR (by rfl) T.bT boot_isinstance (aj (pv 0) (aj (bO (v:=.ty "list") rfl T.fZ boot_list rfl) ak))) (aR bR (by rfl) T.bT boot_isinstance (aj (pv 1) (aj (bO (v:=.ty "list") rfl T.fZ boot_list rfl) ak))) (aX _)) (iY (bx lO (aR bR (by rfl) T.bT boot_isinstance (aj (pv 0) (aj (bO (v:=.ty "tuple") rfl T.iJ boot_tuple rfl) ak))) (aR bR (by rfl) T.bT boot_isinstance (aj (pv 1) (aj (bO (v:=.ty "tuple") rfl T.iJ boot_tuple rfl) ak))) (aX _))))) (aJ (aU ni)) bf)
   (aJ (aU (h_ (iB bK (aR eE (by rfl) T.dw PySem.boot_len (aj (pv 0) ak)) (aR eE (by rfl) T.dw PySem.boot_len (aj (pv 1) ak)) (aX _)) (i_ (aR (pK rfl) (by rfl) T.p8 boot_all (aj (fG (g:=(nF K 2 (iu (cB 0) (iu (cB 1) nu)))) (tt:=dW) (te:=(lV _ _ _ (bY (aV 0) (bY (aV 1) fu)))) (own:=["_law_a","_law_b"]) rfl (cI.of (N:=["_law_found","_law_due_here"]) (sc:=aG (top 66)) rfl rfl rfl (by decide +kernel)) (abn rfl T.Jw (aj (pv 0) (aj (pv 1) ak))) (λ_ _ _ _ _=>(iy rfl (cW (bQ (i:=0) (show(["_law_a","_law_b","_law_found","_law_due_here"]:List Str).Nodup by decide +kernel) rfl (Or.inl rfl) (.inr rfl)) (cW (bQ (i:=1) (show(["_law_a","_law_b","_law_found","_law_due_here"]:List Str).Nodup by decide +kernel) rfl (Or.inl rfl) (.inr rfl)) iw)))) (λ_ _ _ _ _=>gH) (λ_ _ _ _ _=>(aY lC (hr.mono (by omega)) rfl cF.m cF.F.kp cF.b .nil aO (aj (pv 0) (aj (pv 1) ak))))) ak))))))) bf)
   (ao aP
   (aJ aP)))),?_⟩
   refine⟨_,rfl,_,_,_,false,rfl,.tup hb,rfl,false,rfl,bM ?_⟩
   refine⟨_,rfl,_,_,_,false,rfl,.tup hb,rfl,false,rfl,bM ?_⟩
   refine⟨_,rfl,_,_,_,true,rfl,.tup hb,rfl,true,rfl,bW ?_⟩
   refine⟨_,rfl,_,_,_,false,rfl,.tup ha,rfl,_,rfl,_,_,_,false,rfl,.tup hb,rfl,rfl,_,rfl,bM ?_⟩
   refine⟨_,rfl,_,_,_,true,rfl,.tup ha,rfl,_,rfl,_,_,_,true,rfl,.tup hb,rfl,rfl,_,rfl,bM ?_⟩
   refine⟨_,rfl,a,_,rfl,.inr (aq.of ha),_,rfl,b,_,rfl,.inr (aq.of hb),rfl,_,rfl,?_⟩
   refine dH (λ_=>?_) (λc=>absurd (decide_eq_true (show V.int (xs.length:Nat)=V.int (ys.length:Nat) by rw[hl])) c)
   refine⟨_,rfl,_,rfl,a,b,rfl,⟨_,aq.of ha⟩,⟨_,aq.of hb⟩,λi m zs H'=>m=xs.length - i/\i<=xs.length/\zs=(List.replicate i true).map V.bl/\Same H H',⟨xs.length,rfl,Nat.zero_le _,rfl,Same.refl _⟩,?_⟩
   rintro i m zs H' ⟨rfl,hi0,rfl,s2⟩
   by_cases hi:i<xs.length
   . have hi2:i<ys.length:=by omega
     refine .inr ⟨⟨xs,ys,xs[i],ys[i],aq.of (s2 _ _ ha),aq.of (s2 _ _ hb),List.getElem?_eq_getElem hi,List.getElem?_eq_getElem hi2⟩,by rw[List.length_map,List.length_replicate];exact Nat.lt_of_le_of_lt hi0 (Nat.lt_of_le_of_lt tQ (by decide)),λx fJ y=>?_⟩
     obtain⟨p,x1,x2,hp,rfl,e1,e2,rfl⟩:=y
     have e1:=e1 _ (aq.of (s2 _ _ ha))
     have e2:=e2 _ (aq.of (s2 _ _ hb))
     have sa:=s2.trans (Same.new hp (o:=.tup [x1,x2]))
     refine⟨p,_,rfl,aq.of aK,rfl,_,_,rfl,_,_,rfl,rfl,rfl,L2.yes (bW ?_)⟩
     refine⟨_,rfl,_,rfl,x1,x2,rfl,(hs i x1 x2 e1 e2).same sa,λH3 s4=>?_⟩
     refine⟨xs.length - (i+1),by omega,rfl,hi,?_,sa.trans s4⟩
     rw[List.replicate_succ',List.map_append]
     rfl
   . refine .inl ⟨⟨xs,ys,aq.of (s2 _ _ ha),aq.of (s2 _ _ hb),.inl (Nat.le_of_not_lt hi)⟩,λp hp=>⟨p,List.replicate i true,rfl,au.of aK,?_⟩⟩
     rw[qC]
     exact q _ (s2.trans (Same.new hp))
 . refine⟨_,(ao (bh (cH (aR bR (by rfl) T.bT boot_isinstance (aj (pv 1) (aj (bO (v:=.ty "dict") rfl T.gM boot_dict rfl) ak)))) (ao aP
   (aJ aP)) bf)
   (ao (bh (PW.pt (iZ (cH (aR bR (by rfl) T.bT boot_isinstance (aj (pv 1) (aj (bO (v:=.ty "list") rfl T.fZ boot_list rfl) ak)))) (iY (cH (aR bR (by rfl) T.bT boot_isinstance (aj (pv 1) (aj (bO (v:=.ty "tuple") rfl T.iJ boot_tuple rfl) ak))))))) (ao (bh (PW.pt (iZ (bx lO (aR bR (by rfl) T.bT boot_isinstance (aj (pv 0) (aj (bO (v:=.ty "list") rfl T.fZ boot_list rfl) ak))) (aR bR (by rfl) T.bT boot_isinstance (aj (pv 1) (aj (bO (v:=.ty "list") rfl T.fZ boot_list rfl) ak))) (aX _)) (iY (bx lO (aR bR (by rfl) T.bT boot_isinstance (aj (pv 0) (aj (bO (v:=.ty "tuple") rfl T.iJ boot_tuple rfl) ak))) (aR bR (by rfl) T.bT boot_isinstance (aj (pv 1) (aj (bO (v:=.ty "tuple") rfl T.iJ boot_tuple rfl) ak))) (aX _))))) (aJ (aU ni)) bf)
   (aJ (aU (h_ (iB bK (aR eE (by rfl) T.dw PySem.boot_len (aj (pv 0) ak)) (aR eE (by rfl) T.dw PySem.boot_len (aj (pv 1) ak)) (aX _)) (i_ (aR (pK rfl) (by rfl) T.p8 boot_all (aj (fG (g:=(nF K 2 (iu (cB 0) (iu (cB 1) nu)))) (tt:=dW) (te:=(lV _ _ _ (bY (aV 0) (bY (aV 1) fu)))) (own:=["_law_a","_law_b"]) rfl (cI.of (N:=["_law_found","_law_due_here"]) (sc:=aG (top 66)) rfl rfl rfl (by decide +kernel)) (X7 rfl T.Jw (aj (pv 0) (aj (pv 1) ak))) (λ_ _ _ _ _=>(iy rfl (cW (bQ (i:=0) (show(["_law_a","_law_b","_law_found","_law_due_here"]:List Str).Nodup by decide +kernel) rfl (Or.inl rfl) (.inr rfl)) (cW (bQ (i:=1) (show(["_law_a","_law_b","_law_found","_law_due_here"]:List Str).Nodup by decide +kernel) rfl (Or.inl rfl) (.inr rfl)) iw)))) (λ_ _ _ _ _=>gH) (λ_ _ _ _ _=>(aY lC (hr.mono (by omega)) rfl cF.m cF.F.kp cF.b .nil aO (aj (pv 0) (aj (pv 1) ak))))) ak))))))) bf)
   (ao aP
   (aJ aP)))),?_⟩
   refine⟨_,rfl,_,_,_,false,rfl,.lst hb,rfl,false,rfl,bM ?_⟩
   refine⟨_,rfl,_,_,_,true,rfl,.lst hb,rfl,true,rfl,bW ?_⟩
   refine⟨_,rfl,_,_,_,true,rfl,.lst ha,rfl,_,rfl,_,_,_,true,rfl,.lst hb,rfl,rfl,_,rfl,bM ?_⟩
   refine⟨_,rfl,_,_,_,false,rfl,.lst ha,rfl,_,rfl,_,_,_,false,rfl,.lst hb,rfl,rfl,_,rfl,bM ?_⟩
   refine⟨_,rfl,a,_,rfl,.inl (au.of ha),_,rfl,b,_,rfl,.inl (au.of hb),rfl,_,rfl,?_⟩
   refine dH (λ_=>?_) (λc=>absurd (decide_eq_true (show V.int (xs.length:Nat)=V.int (ys.length:Nat) by rw[hl])) c)
   refine⟨_,rfl,_,rfl,a,b,rfl,⟨_,au.of ha⟩,⟨_,au.of hb⟩,λi m zs H'=>m=xs.length - i/\i<=xs.length/\zs=(List.replicate i true).map V.bl/\Same H H',⟨xs.length,rfl,Nat.zero_le _,rfl,Same.refl _⟩,?_⟩
   rintro i m zs H' ⟨rfl,hi0,rfl,s2⟩
   by_cases hi:i<xs.length
   . have hi2:i<ys.length:=by omega
     refine .inr ⟨⟨xs,ys,xs[i],ys[i],au.of (s2 _ _ ha),au.of (s2 _ _ hb),List.getElem?_eq_getElem hi,List.getElem?_eq_getElem hi2⟩,by rw[List.length_map,List.length_replicate];exact Nat.lt_of_le_of_lt hi0 (Nat.lt_of_le_of_lt tQ (by decide)),λx fJ y=>?_⟩
     obtain⟨p,x1,x2,hp,rfl,e1,e2,rfl⟩:=y
     have e1:=e1 _ (au.of (s2 _ _ ha))
     have e2:=e2 _ (au.of (s2 _ _ hb))
     have sa:=s2.trans (Same.new hp (o:=.tup [x1,x2]))
     refine⟨p,_,rfl,aq.of aK,rfl,_,_,rfl,_,_,rfl,rfl,rfl,L2.yes (bW ?_)⟩
     refine⟨_,rfl,_,rfl,x1,x2,rfl,(hs i x1 x2 e1 e2).same sa,λH3 s4=>?_⟩
     refine⟨xs.length - (i+1),by omega,rfl,hi,?_,sa.trans s4⟩
     rw[List.replicate_succ',List.map_append]
     rfl
   . refine .inl ⟨⟨xs,ys,au.of (s2 _ _ ha),au.of (s2 _ _ hb),.inl (Nat.le_of_not_lt hi)⟩,λp hp=>⟨p,List.replicate i true,rfl,au.of aK,?_⟩⟩
     rw[qC]
     exact q _ (s2.trans (Same.new hp))
 . have lC:=G0_
   refine⟨_,(ao (bh (cH (aR bR (by rfl) T.bT boot_isinstance (aj (pv 1) (aj (bO (v:=.ty "dict") rfl T.gM boot_dict rfl) ak)))) (ao (bh (PW.pt (iZ (jO (cH (aR bR (by rfl) T.bT boot_isinstance (aj (pv 0) (aj (bO (v:=.ty "dict") rfl T.gM boot_dict rfl) ak))))) (iY (bx lO (aR vW (by rfl) T.dw PySem.boot_len (aj (pv 0) ak)) (aR vW (by rfl) T.dw PySem.boot_len (aj (pv 1) ak)) (aX _))))) (aJ (aU ni)) bf)
   (aJ (aU (aR (pK rfl) (by rfl) T.p8 boot_all (aj (Yy rfl (fG (g:=(cB 0)) (tt:=dW) (te:=(Fy _ (lV _ _ _ (bY (nO (aV 1) (aV 0)) (bY (nO (aV 2) (aV 0)) fu))))) (own:=["_law_name"]) rfl (cI.of (N:=["_law_found","_law_due_here"]) (sc:=aG (top 66)) rfl rfl rfl (by decide +kernel)) (Yw rfl (pv 1)) (λ_ _ _ _ _=>(bQ (i:=0) (show(["_law_name","_law_found","_law_due_here"]:List Str).Nodup by decide +kernel) rfl (Or.inl rfl) (.inr rfl))) (λ_ _ _ _ _=>gH) (λ_ _ _ _ _=>(h_ (Fx (G6 hu (pv 0) (pv 1)) (by with_unfolding_all rfl)) (i_ (aY lC (hr.mono (by omega)) rfl cF.m cF.F.kp cF.b .nil aO (aj (iD hu (pv 1) (pv 0) (λ_ _=>rfl)) (aj (iD hu (pv 2) (pv 0) (λ_ _=>rfl)) ak)))))))) ak))))) bf)
   (ao aP
   (ao aP
   (aJ aP)))),?_⟩
   refine⟨_,rfl,_,_,_,true,rfl,.dK hb,rfl,true,rfl,bW ?_⟩
   refine⟨_,rfl,_,_,_,true,rfl,.dK ha,rfl,true,rfl,bM ?_⟩
   refine⟨_,rfl,a,_,rfl,ha,_,rfl,b,_,rfl,hb,rfl,_,rfl,?_⟩
   rw[decide_eq_true rfl]
   refine bM ?_
   refine⟨_,rfl,b,_,rfl,hb,λo hz=>?_⟩
   have kf:∀c u,c≠b->H c=some u->upd H b (.cJ o (.dK (aN f l))) c=some u:=λc u hc e=>by rw[aB hc];exact e
   refine⟨λi m zs H'=>m=l.length - i/\i<=l.length/\zs=(List.replicate i true).map V.bl/\Same (upd H b (.cJ o (.dK (aN f l)))) H',⟨l.length,rfl,Nat.zero_le _,rfl,Same.refl _⟩,?_⟩
   rintro i m zs H' ⟨rfl,hi0,rfl,s2⟩
   have hfz:=s2 _ _ (aK (H:=H) (a:=b) (o:=.cJ o (.dK (aN f l))))
   by_cases hi:i<l.length
   . refine .inr ⟨⟨by rw[jg];exact hi,hfz⟩,by rw[List.length_map,List.length_replicate];exact cX (by omega),λx fJ y=>?_⟩
     obtain⟨rfl,pr,hpr,rfl⟩:=y
     have hli:l[i]? =some l[i]:=List.getElem?_eq_getElem hi
     rw[JX hli] at hpr
     cases hpr
     have hmem:l[i]∈l:=List.getElem_mem hi
     have ga:cQ fJ a (.str l[i]) (some (f l[i])):=by
      have:=cQ.k (k:=Sum.inr l[i]) (s2 _ _ (kf _ _ hne ha))
      rw[eU,if_pos hmem] at this
      exact this
     have gb:cQ fJ b (.str l[i]) (some (f l[i])):=.inl ⟨_,Sum.inr l[i],.inr ⟨_,hfz⟩,rfl,by rw[eU,if_pos hmem]⟩
     refine⟨rfl,L2.yes (bW ?_)⟩
     refine⟨_,rfl,_,rfl,a,_,rfl,ga,true,rfl,bW ?_⟩
     refine⟨_,rfl,_,rfl,a,_,rfl,ga,_,rfl,_,rfl,b,_,rfl,gb,_,_,rfl,hs _ hmem,λH3 s4=>?_⟩
     refine⟨l.length - (i+1),by omega,rfl,hi,?_,s2.trans s4⟩
     rw[List.replicate_succ',List.map_append]
     rfl
   . refine .inl ⟨⟨by rw[jg];omega,hfz⟩,λp hp=>?_⟩
     have s5:=Same.new hp (o:=.lst ((List.replicate i true).map V.bl))
     refine⟨b,o,_,hz,s5 _ _ hfz,?_⟩
     have hpb:p≠b:=λz=>by rw[z,hfz] at hp;cases hp
     refine⟨p,List.replicate i true,rfl,au.of (by rw[aB hpb,aK]),?_⟩
     rw[qC]
     refine q _ λc u e=>?_
     by_cases hc:c=b
     . subst hc
       rw[aK,<-hb];exact e
     . rw[aB hc]
       exact s5 _ _ (s2 _ _ (kf _ _ hc e))
theorem Lq (T:Tb mg)(cF:Dn K mg "_law_same" ["_law_found","_law_due_here"] (top 66) jJ jK):∀n:Nat,aC P w K mg base aH (n+1) jJ jK ["_law_found","_law_due_here"] (oE n)
 |0=>Lp T cF
 |n+1=>abo n T cF (Lp T cF) (Lq T cF n)
end Pb
namespace PySem
namespace F
theorem abq:typeLookup (.type "list_reverseiterator") "__len__"=pure none:=by rw[typeLookup_type,builtinLookup_eq_fast];kernel_rfl
theorem abr:Slot "list_reverseiterator" "__length_hint__" "list_reverseiterator.__length_hint__":=
 .of (owner:="list_reverseiterator") (n:="__length_hint__") (by rw[typeLookup_type,builtinLookup_eq_fast];kernel_rfl) (by decide +kernel) (by decide +kernel) (by decide +kernel)
   (by first|exact .inl (by decide +kernel)|exact .inr (by decide +kernel)) (by rw[isSubtype_type];kernel_rfl)
end F
open PyProof.Rows
section
variable {prog:Program}{w:World}{A:Around}{E:Value->Shared->Prop}{s:Shared}
theorem abt {I l:Addr}{items:Array Value}{Q:Value->Shared->Prop}(hh:A.handled=none)(hne:l≠I)(hn:items.size<=sizeLine)
 (hit:s.heap.IsRevIter I l ((items.size:Int) - 1)) (ht:s.heap.IsList l items) (hlt:∀b∈[I,l],b<s.heap.objs.size)
 (hQ:∀s' acc' c',Moved [s.heap.objs.size,I] (λa b=>b=a) { s with heap:=s.heap.push { cls:=.type "list",data:=.seq #[] } } s'->s'.heap.get? s.heap.objs.size=some { cls:=.type "list",data:=.seq acc' c' }->ItemsOf (λi v=>items[items.size - 1 - i]? =some v) acc' items.size->Q (.ref s.heap.objs.size) s'):
 wpAny (model prog w) A (call (.type "list") [.ref I]) Q E s:=by
 refine callType_codes (Q₁:=λobj s₁=>obj=.ref s.heap.objs.size/\s₁={ s with heap:=s.heap.push { cls:=.type "list",data:=.seq #[] } }) F.called_list (F.typeCall_list_1 _) F.entry_list_init (code_list_new _ ⟨rfl,rfl⟩) λobj s₁ h₁=>?_
 obtain⟨rfl,rfl⟩:=h₁
 have W:=(Walks.listRev (prog:=prog) (w:=w) (A:=A.in1.in1) hh I l hne items).toS
 have hSf:s.heap.objs.size ∉ [I,l]:=λhm=>Nat.lt_irrefl _ (hlt _ hm)
 have hSI:s.heap.objs.size≠I:=λe=>hSf (e ▸ List.mem_cons_self)
 have hS₁:(s.heap.push { cls:=.type "list",data:=.seq #[] }).get? s.heap.objs.size=some { cls:=.type "list",data:=.seq #[] }:=Heap.get?_push_size _ rfl
 refine⟨⟨_,hS₁,rfl⟩,F.args_list_init_2 _ _,?_⟩
 have hit₁:(s.heap.push { cls:=.type "list",data:=.seq #[] }).IsRevIter I l ((items.size:Int) - 1):=hit.at λo e=>Heap.get?_push_of_some _ e
 unfold Builtin.«list.__init__»
 dsimp only
 rw[if_neg (by decide),if_neg (show ¬[Value.ref I].length > 1 from by show ¬1 > 1;decide)]
 refine wpAny_bind (wpAny_listItems hS₁ rfl ?_)
 refine wpAny_bind (PyProof.Rows.listUpdate_at hS₁ rfl ?_ (oW) (by show 0<=sizeLine+1;decide))
 refine wpAny_bind (wpAny_letGo ?_)
 have hS₂:=Heap.get?_update_self (Obj.mapSeq (λ_=>(#[]:Array Value))) hS₁ rfl
 have oth:∀b o,b≠s.heap.objs.size->(s.heap.push { cls:=.type "list",data:=.seq #[] }).get? b=some o->
  ((s.heap.push { cls:=.type "list",data:=.seq #[] }).update s.heap.objs.size (Obj.mapSeq (λ_=>(#[]:Array Value)))).get? b=some o:=
  λb o hb e=>(Heap.get?_update_other _ _ (Ne.symm hb)).trans e
 have hit₂:((s.heap.push { cls:=.type "list",data:=.seq #[] }).update s.heap.objs.size (Obj.mapSeq (λ_=>(#[]:Array Value)))).IsRevIter I l ((items.size:Int) - 1):=hit₁.at λo e=>oth I o (Ne.symm hSI) e
 have h1:Builtin.List.listSameRef (.ref s.heap.objs.size) (.ref I)=false:=by simp[Builtin.List.listSameRef,hSI]
 have h2:(Value.type "list_reverseiterator" == Value.type "list")=false:=by decide
 have h3:(Value.type "list_reverseiterator" == Value.type "tuple")=false:=by decide
 have hst:0<=items.size/\s.heap.IsRevIter I l ((items.size:Int) - 1 - ((0:Nat):Int))/\s.heap.IsList l items:=⟨Nat.zero_le _,by
  have e:(items.size:Int) - 1 - ((0:Nat):Int)=(items.size:Int) - 1:=by omega
  rw[e];exact hit,ht⟩
 unfold Builtin.List.listExtendWith
 refine wpAny_bind (wpAny_typeOf hit₂.typeIs ?_)
 simp only[h1,h2,h3,Bool.or_false,Bool.false_eq_true,if_false]
 refine wpAny_bind (wpAny_pyIter_revIter hit₂ ?_)
 refine wpAny_bind (wpAny_holding ?_)
 unfold Builtin.List.listLengthHint
 refine wpAny_bind (wpAny_specialOf hit₂.typeIs F.abq ?_)
 show wpAny _ _ (specialOf (Value.ref I) (Str.ofString "__length_hint__") >>= _) _ _ _
 refine wpAny_bind (wpAny_specialOf hit₂.typeIs F.abr.lookup ?_)
 (generalize hid:("list_reverseiterator.__length_hint__":String)=id0;(fail_if_success (clear hid id0));wp_delta;rw[show splitId id0=some ("list_reverseiterator","__length_hint__") from by subst hid;decide +kernel];subst hid)
 refine wpAny_bind (wpAny_isInstance (b:=true) hit₂.typeIs (by rw[isSubtype_type];kernel_rfl) ?_)
 rw[if_neg (by decide)]
 dsimp only
 rw[if_pos (by decide +kernel),if_neg (by decide)]
 refine wpAny_pure ?_
 rw[if_neg (by decide)]
 refine wpAny_pure ⟨plainId_quiet F.plain_extend_loop _,codeAny_extend_loopS W hn _ hSf _ items.size 0 _ _ _ rfl (Nat.zero_le _) (W.frame 0 s _ s.toks hst (Nat.le_refl _) λb hb o e=>oth b o (λh=>hSf (h ▸ hb)) (Heap.get?_push_of_some _ e)) hS₂ (ItemsOf.nil _) λs' acc' c' hm hS' hacc=>?_⟩
 exact⟨rfl,hQ s' acc' c' ⟨λb o hb e=>hm.heap b o hb (oth b o (λh=>hb (by rw[h];exact List.mem_cons_self)) e),hm.gens,hm.drawn,hm.os,hm.toks⟩ hS' hacc⟩
end
end PySem
namespace L2
open PySem PyProof.Rows
theorem Lr:∀{xs:List V}{us:List Value},xs.length=us.length->(∀(i:Nat) (x:V) (u:Value),xs[i]? =some x->us[i]? =some u->RelV x u)->Vals xs us
 |[],[],_,_=>.nil
 |x::xs,u::us,hl,h=>.cons (h 0 x u rfl rfl) (Lr (by simpa using hl) λi y v hy hv=>h (i+1) y v (by simpa using hy) (by simpa using hv))
 |[],_::_,hl,_=>by cases hl
 |_::_,[],hl,_=>by cases hl
noncomputable def abu (K:W.Frag) (te:TE):TE:=λσ H Q=>te σ H λv H1=>∃a xs,v=.ref a/\au K H1 a xs/\∀l,H1 l=none->Q (.ref l) (upd H1 l (.lst xs.reverse))
section
variable {X:Cx}{e:Expr}{te:TE}{p p2 pos pos2:Pos}
theorem abv (hc:X.calm=true)(hg:Gl X "list")(hm:X.mg "list"=none)(hb:bootBuiltins "list"=some (.type "list"))(hg2:Gl X "reversed")(hm2:X.mg "reversed"=none)(hb2:bootBuiltins "reversed"=some (.type "reversed"))(he:PE X e te)
 (hs:starEach [e] X.env=(false,eval e X.env)::starEach [] X.env:=by rfl)
 (hs2:starEach [.Call (.Name "reversed" p2) [e] [] pos2] X.env=(false,eval (.Call (.Name "reversed" p2) [e] [] pos2) X.env)::starEach [] X.env:=by rfl):
 PE X (.Call (.Name "list" p) [.Call (.Name "reversed" p2) [e] [] pos2] [] pos) (abu X.K te):=by
 intro pins s σ H Q I h
 refine wpAny_Call_Name_kw (g_ I hg hm hb ?_ (by decide) (by decide))
 refine PyProof.Rows.callWith_type1 ?_ hs2 rfl
 rw[hs2]
 show wpAny _ _ (spliced ((false,eval (.Call (.Name "reversed" p2) [e] [] pos2) X.env)::[])) _ _ s
 refine Calls.spliced_cons ?_
 refine wpAny_Call_Name_kw (g_ I hg2 hm2 hb2 ?_ (by decide) (by decide))
 refine PyProof.Rows.callWith_type1 ?_ hs rfl
 rw[hs]
 show wpAny _ _ (spliced ((false,eval e X.env)::[])) _ _ s
 refine Calls.spliced_cons (aL (he pins s σ H _ I h) λu s1 ⟨x,H1,I1,r1,q1⟩=>?_)
 refine Calls.spliced_nil ?_
 obtain⟨a,xs,rfl,hq,q⟩:=q1
 cases r1
 obtain⟨its,r',pl,hz⟩:=I1.list hq
 have hlen:=r'.length
 have hsz:its.toArray.size=its.length:=List.size_toArray
 have Ls:=pl.isList
 refine call_reversed_list Ls ?_
 refine Calls.spliced_nil ?_
 have ho:=id Ls
 obtain⟨o,hoa,hr⟩:=ho
 have hne:a≠s1.heap.objs.size:=λz=>Nat.lt_irrefl _ (z ▸ Heap.lt_size hoa)
 have pl2:(s1.heap.push (revObj a ((its.toArray.size:Int) - 1))).IsList a its.toArray:=⟨o,Heap.get?_push_of_some _ hoa,hr⟩
 have hit:(s1.heap.push (revObj a ((its.toArray.size:Int) - 1))).IsRevIter s1.heap.objs.size a ((its.toArray.size:Int) - 1):=⟨_,Heap.get?_push_size _ rfl,rfl,rfl⟩
 refine abt (s:={ s1 with heap:=s1.heap.push (revObj a ((its.toArray.size:Int) - 1)) }) (I1.ok.hd hc) hne (by rw[hsz];omega) hit pl2 ?_ ?_
 . intro b hb'
   rcases List.mem_cons.mp hb' with z|z
   . rw[z];exact Heap.lt_size (Heap.get?_push_size _ rfl)
   . rw[List.mem_singleton.mp z];exact Heap.lt_size (Heap.get?_push_of_some _ hoa)
 . intro s' acc c' hm' hS' hacc
   have hlt1:(s1.heap.push (revObj a ((its.toArray.size:Int) - 1))).objs.size=s1.heap.objs.size+1:=by
    first|rfl|simp[Heap.push]
   have kp:∀b u,s1.heap.get? b=some u->s'.heap.get? b=some u:=λb u Lw=>hm'.heap b u (λz=>by
    have hb2:=Heap.lt_size Lw
    rcases List.mem_cons.mp z with z|z
    . exact absurd hb2 (Nat.not_lt.mpr (by rw[z];exact Nat.le_trans (Nat.le_succ _) (Nat.le_of_eq hlt1.symm)))
    . exact absurd hb2 (Nat.not_lt.mpr (by rw[List.mem_singleton.mp z];exact Nat.le_refl _))) (Heap.get?_push_of_some _ (Heap.get?_push_of_some _ Lw))
   have hv:Vals xs.reverse acc.toList:=by
    refine Lr ?_ λi x u hx hu=>?_
    . rw[List.length_reverse,hlen,<-hsz,<-hacc.1];exact Array.length_toList.symm
    . have hi:i<xs.length:=by
       have:=(List.getElem?_eq_some_iff.mp hx).1
       rw[List.length_reverse] at this;exact this
      have hu2:acc[i]? =some u:=by rw[<-hu];simp
      have h1:=hacc.2 i u hu2
      rw[List.getElem?_reverse hi] at hx
      obtain⟨u',hu',ru⟩:=r'.get hx
      have e1:its.toArray[its.toArray.size - 1 - i]? =some u':=by
       rw[hsz,<-hlen];simpa using hu'
      rw[e1] at h1
      injection h1 with h1
      subst h1
      exact ru
   obtain⟨h',g',d',tk',os'⟩:=s'
   have eg:g'=s1.gens:=hm'.gens
   have ed:d'=s1.drawn:=hm'.drawn
   have eo:os'=s1.os:=hm'.os
   subst eg ed eo
   have hfr:s1.heap.objs.size<=(s1.heap.push (revObj a ((its.toArray.size:Int) - 1))).objs.size:=by rw[hlt1];omega
   have I2:Inv X pins σ (upd H1 (s1.heap.push (revObj a ((its.toArray.size:Int) - 1))).objs.size (.lst xs.reverse)) { s1 with heap:=h',toks:=tk' }:=
    I1.laid (t':=tk') kp hfr (show cG X.prog X.w _ h' _ (.lst xs.reverse) from⟨by rw[List.length_reverse];exact hz,acc.toList,c',hv,by
      have:=hS'
      simpa using this⟩)
   exact⟨.ref _,_,I2,rfl,q _ (I1.hok.fresh hfr)⟩
end
end L2
namespace Pb
open PySem L2 PyProof.Rows
theorem boot_reversed:bootBuiltins "reversed"=some (.type "reversed"):=by decide +kernel
theorem abx {l1 l2 l:List Str}(nd:l.Nodup)(p1:l1.Perm l)(p2:l2.Perm l)(h1:l1.Pairwise sle)(h2:l2.Pairwise sle):l1=l2:=by
 have st:∀{m:List Str},m.Perm l->m.Pairwise sle->m.Pairwise slt:=λ{m} p h=>by
  have n:m.Pairwise (· ≠ ·):=p.nodup_iff.mpr nd
  refine(h.and n).imp λ{a b} ⟨x,y⟩=>?_
  rcases tK x with z|z
  . exact z
  . exact absurd z y
 exact wO wM (p1.trans p2.symm) (st p1 h1) (st p2 h2)
noncomputable def Lx:Sp:=λvs H Q _=>∃l m,∃ss:List Str,vs=[.ref l,.int m]/\H l=some (.lst (ss.map V.str))/\ss.Nodup/\ss.length<=12/\∀p (rs:List Str) H',Same H H'->H' p=some (.lst (rs.map V.str))->H p=none->rs.Nodup->(∀x∈rs,x∈ss)->rs.length<=12->Q (.ref p) H'
noncomputable def Ly (K:W.Frag):Sp:=λvs H Q _=>∃a b ns n t src xs fs l,∃f:Str->V,∃m:Nat,vs=[.ref a,.ref b,.ref t,.ref src,.int m]/\m<=6/\G0 K H a b ns n/\n+20<=1000000000000/\H t=some (.tup xs)/\FA H xs fs/\fs.fL/\fs.names.Nodup/\1<=fs.names.length/\fs.names.length<=12/\H src=some (.dK (aN f l))/\(∀x∈fs.names,x∈l)/\l.length<=12/\
 ∀r p nw ys ops n' H',SB b H H'->H' b=some (.lst [.int n'])->n<=n'->n'<=n+12->H' r=some (.tup [.ref p,.ref nw])->H p=none->H nw=none->H' p=some (.lst ys)->H' nw=some (.dK (aN (cZ f ops) l))->bU H' ys ops->fQ fs ops->ops.length<=6->Q (.ref r) H'
noncomputable def Lz:Sp:=λvs H Q _=>∃l a b m,∃ss so:List Str,∃f g:Str->V,vs=[.ref l,.ref a,.ref b]/\H l=some (.lst (ss.map V.str))/\ss.Nodup/\ss.length<=12/\so.Perm ss/\so.Pairwise sle/\H a=some (.dK (aN f m))/\H b=some (.dK (aN g m))/\(∀x∈ss,x∈m)/\(∀x∈ss,iz (f x) (g x)=true)/\
 ∀p ys H',Same H H'->H' p=some (.lst ys)->H p=none->bU H' ys (cU f g so)->Q (.ref p) H'
variable {P:Program}{w:World}{K:W.Frag}{mg:Str->Option Value}{base:Heap}
theorem LC:bJ ["_law_row","_law_m","_law_some_here"] ["_law_row","_law_m"] (aG (top 67)):=bN
theorem aby (T:Tb mg)(lD:Dn K mg "_law_some" ["_law_row","_law_m"] (top 67) zJ zK):aC P w K mg base aH (1) zJ zK ["_law_row","_law_m"] (Lx):=by
 refine lD.F.ok LC (λvs H Q E h=>?_) (λcdv A outer s H vs Q E hr h=>?_)
 . obtain⟨l,m,ss,rfl,_⟩:=h
   rfl
 obtain⟨l,m,ss,rfl,hl,hnd,h12,q⟩:=h
 have nd:=LC.nd
 refine⟨_,(ao (Hu (i:=2) nd rfl (Or.inl rfl) (g:=(nF K 2 (iu (cB 0) (iu (cB 1) nu)))) (tt:=(jd (bD _ (bD _ (bD _ (aV 3) (bD _ (bD _ (tC (.int 3)) (aV 0)) (tC (.int 1)))) (tC (.int 3))) (tC (.int 0))))) (te:=(aV 1)) (own:=["_law_k","_law_one"]) rfl (cI.of (N:=["_law_row","_law_m","_law_some_here"]) (sc:=aG (top 67)) rfl rfl rfl (by decide +kernel)) (Hy rfl T.Jv (aj (pv 0) ak)) (λ_ _ _ _ _=>(iy rfl (cW (bQ (i:=0) (show(["_law_k","_law_one","_law_row","_law_m","_law_some_here"]:List Str).Nodup by decide +kernel) rfl (Or.inl rfl) (.inr rfl)) (cW (bQ (i:=1) (show(["_law_k","_law_one","_law_row","_law_m","_law_some_here"]:List Str).Nodup by decide +kernel) rfl (Or.inl rfl) (.inr rfl)) iw)))) (λ_ _ _ _ _=>(sI (bx rM (aQ cM (aQ jr (pv 3) (aQ jq (aQ jc aF (pv 0)) aF)) aF) aF (aX _)))) (λ_ _ _ _ _=>(pv 1)))
  (aJ (aU (ig (bx bK (aQ cM (pv 1) aF) aF (aX _)) (pv 2) (abv rfl rfl T.fZ boot_list rfl T.Zd boot_reversed (pv 2)))))),?_⟩
 refine⟨_,rfl,l,rfl,⟨_,au.of hl⟩,λi k ys H'=>k=ss.length - i/\i<=ss.length/\Same H H'/\∃rs:List Str,ys=rs.map V.str/\rs.Sublist (ss.take i),⟨_,rfl,Nat.zero_le _,Same.refl _,[],rfl,List.nil_sublist _⟩,?_⟩
 rintro i k ys H' ⟨rfl,hi0,s1,rs,rfl,hsub⟩
 have hlen:rs.length<=i:=Nat.le_trans hsub.length_le (by rw[List.length_take];omega)
 by_cases hi:i<ss.length
 . have hsi:(ss.map V.str)[i]? =some (.str ss[i]):=by rw[List.getElem?_map,List.getElem?_eq_getElem hi];rfl
   refine .inr ⟨⟨_,.str ss[i],au.of (s1 _ _ hl),hsi⟩,by rw[List.length_map];exact cX (by omega),λx fJ y=>?_⟩
   obtain⟨p,y,hp,rfl,hy,rfl⟩:=y
   have hy:=hy _ (au.of (s1 _ _ hl))
   rw[hsi] at hy
   cases hy
   have s2:=Same.new hp (o:=.tup [.int i,.str ss[i]])
   have stp:ss.take (i+1)=ss.take i++[ss[i]]:=by rw[List.take_succ,List.getElem?_eq_getElem hi];rfl
   refine⟨p,_,rfl,aq.of aK,rfl,_,_,rfl,_,_,rfl,rfl,rfl,?_⟩
   refine⟨_,rfl,_,rfl,_,_,rfl,rfl,.inr ⟨by omega,by omega⟩,_,_,rfl,rfl,_,_,rfl,rfl,(by unfold Gf;exact⟨by omega,by omega⟩),_,_,rfl,rfl,by show(0:Int)<3;decide,_,_,rfl,rfl,_,rfl,?_⟩
   refine dH (λc=>?_) (λc=>?_)
   . refine⟨_,rfl,ss.length - (i+1),by omega,rfl,hi,s1.trans s2,rs++[ss[i]],by rw[List.map_append];rfl,?_⟩
     rw[stp]
     exact hsub.append (List.Sublist.refl _)
   . refine⟨ss.length - (i+1),by omega,rfl,hi,s1.trans s2,rs,rfl,?_⟩
     rw[stp]
     exact hsub.trans (List.sublist_append_left _ _)
 . refine .inl ⟨⟨_,au.of (s1 _ _ hl),by rw[List.length_map];omega⟩,λp hp=>?_⟩
   have hs:rs.Sublist ss:=hsub.trans (List.take_sublist _ _)
   have hrn:rs.Nodup:=hs.nodup hnd
   have hrl:rs.length<=12:=Nat.le_trans hs.length_le h12
   have s2:=Same.new hp (o:=.lst (rs.map V.str))
   have e2:upd H' p (.lst (rs.map V.str)) p=some (.lst (rs.map V.str)):=aK
   have hpH:H p=none:=by
    cases e:H p with
    |none=>rfl
    |some o=>rw[s1 _ _ e] at hp;cases hp
   refine⟨_,rfl,_,_,rfl,rfl,by show(0:Int)<2;decide,rfl,_,rfl,dH (λc=>?_) (λc=>?_)⟩
   . exact⟨_,rfl,q p rs _ (s1.trans s2) e2 hpH hrn (λx hx=>hs.subset hx) hrl⟩
   . refine⟨_,rfl,p,_,rfl,au.of e2,λp2 hp2=>?_⟩
     have s3:=Same.new hp2 (o:=.lst (rs.map V.str).reverse)
     refine q p2 rs.reverse _ (s1.trans (s2.trans s3)) (by rw[aK,List.map_reverse]) ?_ ((List.reverse_perm rs).nodup_iff.mpr hrn) (λx hx=>hs.subset (List.mem_reverse.mp hx)) (by rw[List.length_reverse];exact hrl)
     cases e:H p2 with
     |none=>rfl
     |some o=>rw[s2 _ _ (s1 _ _ e)] at hp2;cases hp2
theorem LK:bJ ["_law_names_here","_law_old","_law_new"] ["_law_names_here","_law_old","_law_new"] (aG (top 69)):=bN
theorem abA (T:Tb mg)(iM:Dn K mg "_law_due" ["_law_names_here","_law_old","_law_new"] (top 69) zL zM):aC P w K mg base aH (1) zL zM ["_law_names_here","_law_old","_law_new"] (Lz):=by
 refine iM.F.ok LK (λvs H Q E h=>?_) (λcdv A outer s H vs Q E hr h=>?_)
 . obtain⟨l,a,b,m,ss,so,f,g,rfl,_⟩:=h
   rfl
 obtain⟨l,a,b,m,ss,so,f,g,rfl,hl,hnd,h12,hperm,hso,ha,hb,hin,hsc,q⟩:=h
 have nd:=LK.nd
 have hu:=iG hr
 refine⟨_,(aJ (aU (fG (g:=(cB 0)) (tt:=(jd (bD _ (nO (aV 2) (aV 0)) (nO (aV 3) (aV 0))))) (te:=(pF (bY (tC (.str "set")) (bY (pF (bY (aV 0) fu)) (bY (nO (aV 3) (aV 0)) fu))))) (own:=["_law_name"]) rfl (cI.of (N:=["_law_names_here","_law_old","_law_new"]) (sc:=aG (top 69)) rfl rfl rfl (by decide +kernel)) (pB (aR Hx (by rfl) T.wU boot_sorted (aj (pv 0) ak))) (λ_ _ _ _ _=>(bQ (i:=0) (show(["_law_name","_law_names_here","_law_old","_law_new"]:List Str).Nodup by decide +kernel) rfl (Or.inl rfl) (.inr rfl))) (λ_ _ _ _ _=>(sI (bx lO (iD hu (pv 2) (pv 0) (λ_ _=>rfl)) (iD hu (pv 3) (pv 0) (λ_ _=>rfl)) (aX _)))) (λ_ _ _ _ _=>(dU (aj bV (aj (dU (aj (pv 0) ak)) (aj (iD hu (pv 3) (pv 0) (λ_ _=>rfl)) ak)))))))),?_⟩
 refine⟨_,rfl,l,ss,rfl,au.of hl,by omega,λps ss' hps hperm' xr=>?_⟩
 obtain rfl:ss'=so:=abx hnd hperm' hperm (wN xr) hso
 have s0:=Same.new hps (o:=.lst (ss'.map V.str))
 have e0:upd H ps (.lst (ss'.map V.str)) ps=some (.lst (ss'.map V.str)):=aK
 generalize upd H ps (.lst (ss'.map V.str))=H0 at s0 e0
 have hsl:ss'.length<=12:=by rw[hperm.length_eq];exact h12
 refine⟨ps,rfl,⟨_,au.of e0⟩,λi k ys H'=>k=ss'.length - i/\i<=ss'.length/\Same H0 H'/\bU H' ys (cU f g (ss'.take i)),⟨_,rfl,Nat.zero_le _,Same.refl _,bU.nil _⟩,?_⟩
 rintro i k ys H' ⟨rfl,hi0,s1,hP⟩
 have hlen:ys.length<=i:=by rw[hP.1];exact Nat.le_trans (ur _ _ _) (by rw[List.length_take];omega)
 have lE:=s0.trans s1
 by_cases hi:i<ss'.length
 . have hsi:(ss'.map V.str)[i]? =some (.str ss'[i]):=by rw[List.getElem?_map,List.getElem?_eq_getElem hi];rfl
   have hmem:ss'[i]∈ss:=hperm.mem_iff.mp (List.getElem_mem hi)
   have stp:ss'.take (i+1)=ss'.take i++[ss'[i]]:=by rw[List.take_succ,List.getElem?_eq_getElem hi];rfl
   refine .inr ⟨⟨_,.str ss'[i],au.of (s1 _ _ e0),hsi⟩,cX (by omega),λx fJ y=>?_⟩
   obtain⟨rfl,hy⟩:=y
   have hy:=hy _ (au.of (s1 _ _ e0))
   rw[hsi] at hy
   cases hy
   have gt:∀{H2:Hp},Same H H2->cQ H2 a (.str ss'[i]) (some (f ss'[i]))/\cQ H2 b (.str ss'[i]) (some (g ss'[i])):=λ{H2} s2=>by
    have h1:=cQ.k (k:=Sum.inr ss'[i]) (s2 _ _ ha)
    have h2:=cQ.k (k:=Sum.inr ss'[i]) (s2 _ _ hb)
    rw[eU,if_pos (hin _ hmem)] at h1 h2
    exact⟨h1,h2⟩
   refine⟨rfl,?_⟩
   refine⟨_,rfl,_,rfl,a,_,rfl,(gt lE).1,_,rfl,_,rfl,b,_,rfl,(gt lE).2,hsc _ hmem,_,rfl,?_⟩
   refine dH (λc=>?_) (λc=>?_)
   . have e:¬f ss'[i]=g ss'[i]:=λz=>by rw[decide_eq_true z] at c;exact absurd c (by decide)
     refine⟨_,rfl,iT,λz hz=>?_⟩
     have s2:=Same.new hz (o:=.tup [.str ss'[i]])
     refine⟨_,rfl,_,rfl,b,_,rfl,(gt (lE.trans s2)).2,oX,λc2 hc2=>?_⟩
     have s3:=Same.new hc2 (o:=.tup [.str "set",.ref z,g ss'[i]])
     have LQ:=s2.trans s3
     refine⟨ss'.length - (i+1),by omega,rfl,hi,s1.trans LQ,?_⟩
     rw[stp,qK,qL,if_neg e]
     exact(hP.mono (Tu.of LQ)).app (bU.one ⟨c2,z,rfl,aK,s3 _ _ aK⟩)
   . have e:f ss'[i]=g ss'[i]:=Decidable.byContradiction λz=>c (by rw[decide_eq_false z];rfl)
     refine⟨ss'.length - (i+1),by omega,rfl,hi,s1,?_⟩
     rw[stp,qK,qL,if_pos e,List.append_nil]
     exact hP
 . refine .inl ⟨⟨_,au.of (s1 _ _ e0),by rw[List.length_map];omega⟩,λp hp=>?_⟩
   have s2:=Same.new hp (o:=.lst ys)
   rw[List.take_of_length_le (by omega)] at hP
   refine q p ys _ (lE.trans s2) aK ?_ (hP.mono (Tu.of s2))
   cases e:H p with
   |none=>rfl
   |some o=>rw[lE _ _ e] at hp;cases hp
theorem fQ.snoc {fs:Fs}{ops:List Op}{o:Op}(h:fQ fs ops){k:Kd}(hk:fs.get o.1=some k)(hp:cR k o.2):fQ fs (ops++[o]):=λx hx=>by
 rcases List.mem_append.mp hx with z|z
 . exact h x z
 . obtain rfl:=List.mem_singleton.mp z
   exact⟨k,hk,hp⟩
theorem abB (f:Str->V)(ops:List Op)(o:Op):cZ f (ops++[o])=dJ (cZ f ops) o.1 o.2:=by
 unfold cZ
 rw[List.foldl_append]
 rfl
theorem LR:bJ ["_law_script","_law_at","_law_fields_here","_law_value_here","_law_many","_law_paper","_law_now","_law_k","_law_name","_law_inner"] ["_law_script","_law_at","_law_fields_here","_law_value_here","_law_many"] (aG (top 68)):=bN
theorem abC (T:Tb mg)(iQ:Dn K mg "_law_sets" ["_law_script","_law_at","_law_fields_here","_law_value_here","_law_many"] (top 68) zN zO)(bF:Dn K mg "_law_next" ["_law_script","_law_at"] (top 55) eN eO)(dX:aC P w K mg base aH (1) eN eO ["_law_script","_law_at"] (jX K))(dF:Dn K mg "_law_value" ["_law_script","_law_at","_law_kind_here","_law_room"] (top 65) j7 j8)(qp:aC P w K mg base aH (3) j7 j8 ["_law_script","_law_at","_law_kind_here","_law_room"] (xO K)):aC P w K mg base aH (4) zN zO ["_law_script","_law_at","_law_fields_here","_law_value_here","_law_many"] (Ly K):=by
 refine iQ.F.ok LR (λvs H Q E h=>?_) (λcdv A outer s H vs Q E hr h=>?_)
 . obtain⟨a,b,ns,n,t,src,xs,fs,l,f,m,rfl,_⟩:=h
   rfl
 obtain⟨a,b,ns,n,t,src,xs,fs,l,f,m,rfl,hm,g,hn,ht,hfa,hpl,hnd,h1,h12,gw,hin,yX,q⟩:=h
 have nd:=LR.nd
 have hu:=iG hr
 refine⟨_,(ao (bI (i:=5) nd rfl (Or.inl rfl) (fC ak))
  (ao (bI (i:=6) nd rfl (Or.inl rfl) (fW tM (by rfl) T.gM boot_dict (aj (pv 3) ak)))
  (ao (lN PassesOwn.never rfl (rF rfl T.qd (aj (pv 4) ak)) (bQ (i:=7) nd rfl (Or.inl rfl)) (ao (rD (bB bZ (pv 2) (aQ cM (aY dX (hr.mono (by omega)) rfl bF.m bF.F.kp bF.b .nil aO (aj (pv 0) (aj (pv 1) ak))) (aR eE (by rfl) T.dw PySem.boot_len (aj (pv 2) ak))) (λ_ _=>rfl)) (iy rfl (cW (bQ (i:=8) nd rfl (Or.inl rfl)) (cW (bQ (i:=9) nd rfl (Or.inl rfl)) iw))))
  (ao (vV hu (pv 6) (pv 8) (aY qp (hr.mono (by omega)) rfl dF.m dF.F.kp dF.b .nil aO (aj (pv 0) (aj (pv 1) (aj (pv 9) (aj aF ak))))) rfl)
  (aJ (o_ (rY PySem.F.plainAttrs_list PySem.F.slot_list_append PySem.F.type_list_append Wm (pv 5) (aj (dU (aj bV (aj (dU (aj (pv 8) ak)) (aj (iD hu (pv 6) (pv 8) (λ_ _=>rfl)) ak)))) ak)))))))
  (aJ (aU (dU (aj (pv 5) (aj (pv 6) ak)))))))),?_⟩
 have tY:xs.length=fs.names.length:=FA.len fs hfa
 have hbb:=g.at_
 refine⟨oW,λp hp=>?_⟩
 have s0:=Same.new hp (o:=.lst [])
 have e0:upd H p (.lst []) p=some (.lst []):=aK
 generalize upd H p (.lst [])=H0 at s0 e0
 refine⟨_,rfl,src,_,rfl,s0 _ _ gw,λnw hnw=>?_⟩
 have s1:=Same.new hnw (o:=.dK (aN f l))
 have e1:upd H0 nw (.dK (aN f l)) nw=some (.dK (aN f l)):=aK
 have uJ:H nw=none:=by
  cases e:H nw with
  |none=>rfl
  |some o=>rw[s0 _ _ e] at hnw;cases hnw
 have hpn:p≠nw:=λz=>by rw[<-z,e0] at hnw;cases hnw
 have hpb:p≠b:=λz=>by rw[z,hbb] at hp;cases hp
 have hnb:nw≠b:=λz=>by rw[z,hbb] at uJ;cases uJ
 have e0':=s1 _ _ e0
 generalize upd H0 nw (.dK (aN f l))=H1 at s1 e1 e0'
 have lE:=s0.trans s1
 refine⟨_,rfl,_,rfl,by omega,by omega,?_⟩
 refine Gb (lo:=0) (n:=Int.toNat (m:Int)) (λi σ H'=>SB b H H'/\(∃x y z,σ=[some (.ref a),some (.ref b),some (.ref t),some (.ref src),some (.int m),some (.ref p),some (.ref nw),x,y,z])/\∃ys ops n',H' b=some (.lst [.int n'])/\n<=n'/\n'<=n+2 * i/\H' p=some (.lst ys)/\H' nw=some (.dK (aN (cZ f ops) l))/\bU H' ys ops/\fQ fs ops/\ops.length=i)
  ⟨SB.of lE,⟨_,_,_,rfl⟩,[],[],n,lE _ _ hbb,by omega,by omega,e0',e1,bU.nil _,(λo ho=>nomatch ho),rfl⟩ ?_ ?_
 . rintro i σ H' hi ⟨sb,⟨x,y,z,rfl⟩,ys,ops,n',hb',z1,z2,hpp,hnn,hP,hO,hol⟩
   have tu:Tu H H':=sb.tu hbb
   refine⟨_,rfl,_,rfl,_,rfl,a,b,ns,n',rfl,g.go sb hb' z1,by omega,λr H2 r0 r1 s2 h2=>?_⟩
   have gO:=s2.tu hb' _ _ (tu _ _ ht)
   have hr2:0<=r % (fs.names.length:Int):=Int.emod_nonneg _ (by omega)
   have hr3:r % (fs.names.length:Int)<(fs.names.length:Int):=Int.emod_lt_of_pos _ (by omega)
   obtain⟨j,hj⟩:∃j:Nat,r % (fs.names.length:Int)=(j:Int):=⟨(r % (fs.names.length:Int)).toNat,by omega⟩
   have hjl:j<xs.length:=by omega
   obtain⟨c,u,nm,k,ev,hat,hc,hk⟩:=FA.get fs hfa (List.getElem?_eq_getElem hjl)
   have hc2:=s2.tu hb' _ _ (tu _ _ hc)
   refine⟨_,rfl,t,_,rfl,.inr (aq.of gO),_,_,rfl,rfl,by show(0:Int)<(xs.length:Nat);omega,t,_,_,.ref c,rfl,rfl,aq.of gO,?_,?_⟩
   . rw[tY,hj]
     exact lY (j:=j) (by rw[List.getElem?_eq_getElem hjl,ev])
   refine⟨c,_,rfl,aq.of hc2,rfl,_,_,rfl,_,_,rfl,rfl,?_⟩
   refine⟨_,rfl,_,rfl,_,rfl,a,b,ns,n'+1,u,k,0,rfl,g.go (sb.trans s2) h2 (by omega),by omega,KA.mono ((sb.trans s2).tu hbb) k hk,Fs.xu hpl hat,λv H3 s3 h3 hv=>?_⟩
   have hgk:=Fs.pZ hnd hat
   have hml:nm∈l:=hin _ (zp hat)
   have L_:=s3 _ _ hnb (s2 _ _ hnb hnn)
   have abE:=s3 _ _ hpb (s2 _ _ hpb hpp)
   have tu3:Tu H' H3:=(s2.tu hb').trans (s3.tu h2)
   refine⟨_,rfl,_,rfl,nw,_,rfl,lZ.k (k:=Sum.inr nm) L_ (by rw[jg];exact cX (by omega)),?_⟩
   rw[xM v hml]
   have e4:upd H3 nw (.dK (aN (dJ (cZ f ops) nm v) l)) nw=some (.dK (aN (dJ (cZ f ops) nm v) l)):=aK
   have k4:∀c' o,c'≠nw->H3 c'=some o->upd H3 nw (.dK (aN (dJ (cZ f ops) nm v) l)) c'=some o:=λc' o hc' e=>by rw[aB hc'];exact e
   generalize upd H3 nw (.dK (aN (dJ (cZ f ops) nm v) l))=H4 at e4 k4
   have tu4:Tu H3 H4:=λc' xs' e=>k4 _ _ (iV e L_ (by intro z;cases z)) e
   have Ma:=k4 _ _ hpn abE
   have g4:∀{H5:Hp},Same H4 H5->cQ H5 nw (.str nm) (some v):=λ{H5} s5=>by
    have:=cQ.k (k:=Sum.inr nm) (s5 _ _ e4)
    rw[eU,if_pos hml] at this
    have e:dJ (cZ f ops) nm v nm=v:=by unfold dJ;rw[if_pos rfl]
    rw[e] at this
    exact this
   refine⟨_,rfl,.inl ⟨rfl,_,au.of Ma⟩,_,rfl,iT,λz hz=>?_⟩
   have s5:=Same.new hz (o:=.tup [.str nm])
   refine⟨_,rfl,_,rfl,nw,_,rfl,g4 s5,oX,λc6 hc6=>?_⟩
   have s6:=Same.new hc6 (o:=.tup [.str "set",.ref z,v])
   have oF:=s5.trans s6
   have zP:=oF _ _ Ma
   have i6:Itm (upd (upd H4 z (.tup [.str nm])) c6 (.tup [.str "set",.ref z,v])) (.ref c6) (nm,v):=⟨c6,z,rfl,aK,s6 _ _ aK⟩
   generalize upd (upd H4 z (.tup [.str nm])) c6 (.tup [.str "set",.ref z,v])=H6 at oF zP i6
   have hyl:ys.length<=6:=by rw[hP.1,hol];omega
   refine⟨p,_,_,rfl,rfl,zP,cX (by omega),?_⟩
   have Mf:Tu H6 (upd H6 p (.lst (ys++[.ref c6]))):=λc' xs' e=>by rw[aB (iV e zP (by intro z;cases z))];exact e
   have keep:∀c' o,c'≠b->c'≠nw->c'≠p->H' c'=some o->upd H6 p (.lst (ys++[.ref c6])) c'=some o:=λc' o n1 n2 n3 e=>by
    rw[aB n3]
    exact oF _ _ (k4 _ _ n2 (s3 _ _ n1 (s2 _ _ n1 e)))
   refine⟨λc' o n1 e=>keep c' o n1 (λz=>by rw[z,uJ] at e;cases e) (λz=>by rw[z,hp] at e;cases e) (sb c' o n1 e),⟨_,_,_,rfl⟩,ys++[.ref c6],ops++[(nm,v)],n'+1+1,?_,by omega,by omega,aK,?_,?_,hO.snoc hgk hv,by rw[List.length_append,hol];rfl⟩
   . rw[aB (Ne.symm hpb)]
     exact oF _ _ (k4 _ _ (Ne.symm hnb) h3)
   . rw[aB (Ne.symm hpn),abB]
     exact oF _ _ e4
   . exact(hP.mono (tu3.trans (tu4.trans ((Tu.of oF).trans Mf)))).app (bU.one (i6.mono Mf))
 . rintro σ H' ⟨sb,⟨x,y,z,rfl⟩,ys,ops,n',hb',z1,z2,hpp,hnn,hP,hO,hol⟩
   refine⟨_,rfl,_,rfl,gY,λr hr'=>?_⟩
   have s5:=Same.new hr' (o:=.tup [.ref p,.ref nw])
   exact q r p nw ys ops n' _ (sb.trans (SB.of s5)) (s5 _ _ hb') z1 (by omega) aK hp uJ (s5 _ _ hpp) (s5 _ _ hnn) (hP.mono (Tu.of s5)) hO (by omega)
theorem Sm.up {H:Hp}:∀{n:Nat}{v u:V},Sm H n v u->Sm H (n+1) v u
 |0,_,_,h=>.inl h
 |n+1,_,_,.inl h=>.inl h
 |n+1,_,_,.inr (.inl ⟨a,b,xs,ys,e1,e2,h1,h2,h3,h4,h5⟩)=>.inr (.inl ⟨a,b,xs,ys,e1,e2,h1,h2,h3,h4,λi x y hx hy=>(h5 i x y hx hy).up⟩)
 |n+1,_,_,.inr (.inr (.inl ⟨a,b,xs,ys,e1,e2,h1,h2,h3,h4,h5⟩))=>.inr (.inr (.inl ⟨a,b,xs,ys,e1,e2,h1,h2,h3,h4,λi x y hx hy=>(h5 i x y hx hy).up⟩))
 |n+1,_,_,.inr (.inr (.inr h))=>.inr (.inr (.inr h))
theorem cR.sm {k:Kd}{v:V}(h:cR k v):mW v v:=by
 cases k with
 |num=>obtain⟨z,rfl⟩:=h;exact .inl ⟨z,rfl,rfl⟩
 |dI=>obtain⟨z,rfl⟩:=h;exact .inr ⟨z,rfl,rfl⟩
 |_=>exact h.elim
theorem abH {H:Hp}{v u:V}{o:Op}(h1:Itm H v o)(h2:Itm H u o)(h:mW o.2 o.2):Sm H 2 v u:=by
 obtain⟨c,t,rfl,hc,ht⟩:=h1
 obtain⟨c',t',rfl,hc',ht'⟩:=h2
 have hp:Sm H 1 (.ref t) (.ref t'):=.inr (.inl ⟨t,t',_,_,rfl,rfl,ht,ht',rfl,(by show 1<=60;decide),λi x y e1 e2=>by
  match i with
  |0=>cases e1;cases e2;exact .inr ⟨_,rfl,rfl⟩
  |i+1=>cases e1⟩)
 refine .inr (.inl ⟨c,c',_,_,rfl,rfl,hc,hc',rfl,(by show 3<=60;decide),λi x y e1 e2=>?_⟩)
 match i with
 |0=>cases e1;cases e2;exact .inl (.inr ⟨_,rfl,rfl⟩)
 |1=>cases e1;cases e2;exact hp
 |2=>cases e1;cases e2;exact .inl h
 |i+3=>cases e1
theorem zQ {H:Hp}{p q:Addr}{xs ys:List V}{ops:List Op}(hp:H p=some (.lst xs))(hq:H q=some (.lst ys))(h1:bU H xs ops)(h2:bU H ys ops)(h:∀o∈ops,mW o.2 o.2)(hl:ops.length<=60):Sm H 3 (.ref p) (.ref q):=by
 refine .inr (.inr (.inl ⟨p,q,xs,ys,rfl,rfl,hp,hq,by rw[h1.1,h2.1],by rw[h1.1];exact hl,λi x y e1 e2=>?_⟩))
 have hi:i<ops.length:=by rw[<-h1.1];exact(List.getElem?_eq_some_iff.mp e1).1
 have ho:ops[i]? =some ops[i]:=List.getElem?_eq_getElem hi
 exact abH (h1.2 i x _ e1 ho) (h2.2 i y _ e2 ho) (h _ (List.getElem_mem hi))
theorem Fs.Mg:∀{fs:Fs}{x:Str}{k:Kd},fs.get x=some k->∃i,fs.at i=some (x,k)
 | .nil,_,_,h=>by cases h
 | .cons y q r,x,k,h=>by
   have h:(if x=y then some q else r.get x)=some k:=h
   by_cases e:x=y
   . rw[if_pos e] at h
     cases h
     exact⟨0,by rw[e];rfl⟩
   . rw[if_neg e] at h
     obtain⟨i,hi⟩:=Fs.Mg h
     exact⟨i+1,hi⟩
theorem Fs.zR (ss:List Str):∀{fs:Fs},fs.fL->(fs.cj ss).fL
 | .nil,h=>h
 | .cons y k r,h=>by
   show(if y∈ss then Fs.cons y k (r.cj ss) else r.cj ss).fL
   split
   . exact⟨h.1,Fs.zR ss h.2⟩
   . exact Fs.zR ss h.2
theorem Mh (f g:Str->V)(ss:List Str):∀l:List Str,cU f (gW f g ss) l=cU f g (l.filter λx=>decide (x∈ss))
 |[]=>rfl
 |x::r=>by
  have ih:=Mh f g ss r
  have e:∀h:Str->V,cU f h (x::r)=cU f h [x]++cU f h r:=λh=>qK f h [x] r
  rw[e,ih,qL,List.filter_cons]
  by_cases z:x∈ss
  . have em:gW f g ss x=g x:=by unfold gW;rw[if_pos z]
    rw[if_pos (decide_eq_true z),em,<-qL]
    exact(qK f g [x] _).symm
  . have em:gW f g ss x=f x:=by unfold gW;rw[if_neg z]
    rw[if_neg (show ¬decide (x∈ss)=true by rw[decide_eq_false z];decide),em,if_pos rfl]
    rfl
theorem Mi {fs:Fs}{f g:Str->V}(h:FK fs g){l:List Str}(hl:∀x∈l,x∈fs.names):∀o∈cU f g l,mW o.2 o.2:=λo ho=>by
 unfold cU at ho
 obtain⟨x,hx,rfl⟩:=List.mem_map.mp ho
 obtain⟨k,hk⟩:=Fs.qz (hl x (List.mem_filter.mp hx).1)
 exact(h x k hk).sm
theorem FK.iz {fs:Fs}{f g:Str->V}(h:FK fs f)(h2:FK fs g){x:Str}(hx:x∈fs.names):iz (f x) (g x)=true:=by
 obtain⟨k,hk⟩:=Fs.qz hx
 exact(h x k hk).iz (h2 x k hk)
noncomputable def KB (P2 b:Addr) (H H':Hp):Prop:=∀c o,c≠P2->c≠b->H c=some o->H' c=some o
theorem KB.of {P2 b:Addr}{H H':Hp}(s:Same H H'):KB P2 b H H':=λc o _ _ e=>s c o e
theorem KB.sb {P2 b:Addr}{H H':Hp}(s:SB b H H'):KB P2 b H H':=λc o _ n e=>s c o n e
theorem KB.kp {P2 b:Addr}{H H':Hp}(s:eV P2 H H'):KB P2 b H H':=λc o n _ e=>s c o n e
theorem G0.kpt {K:W.Frag}{P2:Addr}{H H':Hp}{a b:Addr}{ns:List Int}{n:Int}{lp:Pos}{ql:Str}(g:G0 K H a b ns n)(hT:cg P2 lp ql H)(x:eV P2 H H'):G0 K H' a b ns n:=by
 refine⟨?_,g.len,x.keep hT g.at_ (by intro ps z;cases z),g.pos⟩
 rcases g.mH with⟨o,h⟩|h
 . exact .inl ⟨o,x.keep hT h (by intro ps z;cases z)⟩
 . exact .inr h
structure Wd (P2 C b t kk src nl pp hd hp hs hn vw dx nv:Addr) (xs ys:List V) (fs:Fs) (f:Str->V) (ss:List Str) (ops:List Op) (H:Hp):Prop where
 nb:nl≠b/\pp≠b/\hd≠b/\hp≠b/\hn≠b/\nv≠b
 ne:hs≠src
 kd:dG H kk t xs fs
 lam:cg P2 dY dZ H
 cn:∃n,H b=some (.lst [.int n])
 src:H src=some (.dK (aN f fs.names))
 nl:H nl=some (.lst (ss.map V.str))
 pp:H pp=some (.lst ys)
 pap:bU H ys ops
 hd:H hd=some (.lst [.ref hp,.ref hs,.ref hn])
 hp:H hp=some (.lst ys)
 hs:H hs=some (.dK (aN f fs.names))
 hn:H hn=some (.lst (ss.map V.str))
 vw:gQ H C vw dx nv ss
theorem Wd.go {P2 C b t kk src nl pp hd hp hs hn vw dx nv:Addr}{xs ys:List V}{fs:Fs}{f:Str->V}{ss:List Str}{ops:List Op}{H H':Hp}(h:Wd P2 C b t kk src nl pp hd hp hs hn vw dx nv xs ys fs f ss ops H)(k:KB P2 b H H')(hT:cg P2 dY dZ H')(hb:∃n,H' b=some (.lst [.int n])):Wd P2 C b t kk src nl pp hd hp hs hn vw dx nv xs ys fs f ss ops H':=by
 obtain⟨ps,hP⟩:=h.lam.tab
 obtain⟨n,hbb⟩:=h.cn
 have mY:∀c o,(∀ps,o≠ .cO ps)->c≠b->H c=some o->H' c=some o:=λc o ho hc e=>k c o (λz=>by rw[z,hP] at e;cases e;exact ho _ rfl) hc e
 have kd:∀c o,(∀ps,o≠ .cO ps)->(∀xs,o≠ .lst xs)->H c=some o->H' c=some o:=λc o ho hl e=>mY c o ho (λz=>by rw[z,hbb] at e;cases e;exact hl _ rfl) e
 have tu:Tu H H':=λc xs e=>kd _ _ (by intro ps z;cases z) (by intro ps z;cases z) e
 obtain⟨n1,n2,n3,n4,n5,n6⟩:=h.nb
 exact⟨h.nb,h.ne,h.kd.mono tu,hT,hb,kd _ _ (by intro ps z;cases z) (by intro ps z;cases z) h.src,mY _ _ (by intro ps z;cases z) n1 h.nl,mY _ _ (by intro ps z;cases z) n2 h.pp,h.pap.mono tu,mY _ _ (by intro ps z;cases z) n3 h.hd,mY _ _ (by intro ps z;cases z) n4 h.hp,
  kd _ _ (by intro ps z;cases z) (by intro ps z;cases z) h.hs,mY _ _ (by intro ps z;cases z) n5 h.hn,⟨kd _ _ (by intro ps z;cases z) (by intro ps z;cases z) h.vw.ob,mY _ _ (by intro ps z;cases z) n6 h.vw.nl,h.vw.nd,h.vw.cV⟩⟩
theorem Wd.same {P2 C b t kk src nl pp hd hp hs hn vw dx nv:Addr}{xs ys:List V}{fs:Fs}{f:Str->V}{ss:List Str}{ops:List Op}{H H':Hp}(h:Wd P2 C b t kk src nl pp hd hp hs hn vw dx nv xs ys fs f ss ops H)(s:Same H H'):Wd P2 C b t kk src nl pp hd hp hs hn vw dx nv xs ys fs f ss ops H':=by
 obtain⟨n,hb⟩:=h.cn
 exact h.go (KB.of s) (h.lam.same s) ⟨n,s _ _ hb⟩
theorem abJ {H:Hp}{p q:Addr}{ss:List Str}(hp:H p=some (.lst (ss.map V.str)))(hq:H q=some (.lst (ss.map V.str)))(hl:ss.length<=12):Sm H 3 (.ref p) (.ref q):=
 .inr (.inr (.inl ⟨p,q,_,_,rfl,rfl,hp,hq,rfl,by rw[List.length_map];omega,λi x y e1 e2=>by
   rw[e1] at e2
   cases e2
   obtain⟨z,_,rfl⟩:=J9 e1
   exact .inl (.inr ⟨z,rfl,rfl⟩)⟩))
theorem Wd.last {P2 C b t kk src nl pp hd hp hs hn vw dx nv:Addr}{xs ys:List V}{fs:Fs}{f:Str->V}{ss:List Str}{ops:List Op}{H:Hp}(h:Wd P2 C b t kk src nl pp hd hp hs hn vw dx nv xs ys fs f ss ops H)(hF:FK fs f)(hO:fQ fs ops)(h6:ops.length<=6){z:Addr}(hz:H z=some (.lst [.ref pp,.ref src,.ref nl])):Sm H 4 (.ref hd) (.ref z):=by
 refine .inr (.inr (.inl ⟨hd,z,_,_,rfl,rfl,h.hd,hz,rfl,(by show 3<=60;decide),λi x y e1 e2=>?_⟩))
 match i with
 |0=>
  cases e1;cases e2
  exact zQ h.hp h.pp h.pap h.pap (λo ho=>by obtain⟨k,_,p⟩:=hO o ho;exact p.sm) (by omega)
 |1=>
  cases e1;cases e2
  exact .inr (.inr (.inr ⟨hs,src,_,f,rfl,rfl,h.ne,h.hs,h.src,h.kd.cV,λx hx=>by obtain⟨k,hk⟩:=Fs.qz hx;exact(hF x k hk).sm⟩))
 |2=>
  cases e1;cases e2
  exact abJ h.hn h.nl h.vw.cV
 |i+3=>cases e1
noncomputable def zT (K:W.Frag) (P2:Addr):Sp:=λvs H Q _=>∃(a:Addr) (ns:List Int),vs=[.ref a]/\iK K H a ns/\ns.length<=63/\cg P2 dY dZ H/\∀H',Q (.bl true) H'
theorem G0.one {K:W.Frag}{H:Hp}{a b:Addr}{ns:List Int}{n:Int}(h:iK K H a ns)(hl:ns.length<=63)(hb:H b=none)(hn:0<=n):G0 K (upd H b (.lst [.int n])) a b ns n:=by
 refine⟨?_,hl,aK,hn⟩
 rcases h with⟨o,h⟩|h
 . exact .inl ⟨o,Same.new hb a _ h⟩
 . exact .inr h
section
variable {P:Program}{w:World}{K:W.Frag}{mg:Str->Option Value}{base:Heap}
variable {C P2:Addr}
theorem Mj:bJ ["_law_script","_law_at","_law_fields_here","_law_kind_here","_law_source","_law_names_here","_law_paper","_law_now","_law_handed","_law_view","_law_shown","_law_back","_law_later"] ["_law_script"] (aG (top 70)):=bN
theorem abK (T:Tb mg)(TK:kO K mg C jh fO gR ji)(uK:Dn K mg "law" ["_law_script"] (top 70) abL abM)(j6:Dn K mg "_law_fields" ["_law_script","_law_at","_law_many","_law_deep"] (top 60) xJ xK)(abN:aC P w K mg base aH (5) xJ xK ["_law_script","_law_at","_law_many","_law_deep"] (JQ K))(dF:Dn K mg "_law_value" ["_law_script","_law_at","_law_kind_here","_law_room"] (top 65) j7 j8)(qp:aC P w K mg base aH (4) j7 j8 ["_law_script","_law_at","_law_kind_here","_law_room"] (JZ K))(bF:Dn K mg "_law_next" ["_law_script","_law_at"] (top 55) eN eO)(dX:aC P w K mg base aH (1) eN eO ["_law_script","_law_at"] (jX K))(lD:Dn K mg "_law_some" ["_law_row","_law_m"] (top 67) zJ zK)(abO:aC P w K mg base aH (1) zJ zK ["_law_row","_law_m"] (Lx))(iQ:Dn K mg "_law_sets" ["_law_script","_law_at","_law_fields_here","_law_value_here","_law_many"] (top 68) zN zO)(Ml:aC P w K mg base aH (4) zN zO ["_law_script","_law_at","_law_fields_here","_law_value_here","_law_many"] (Ly K))(iM:Dn K mg "_law_due" ["_law_names_here","_law_old","_law_new"] (top 69) zL zM)(Mp:aC P w K mg base aH (1) zL zM ["_law_names_here","_law_old","_law_new"] (Lz))(cF:Dn K mg "_law_same" ["_law_found","_law_due_here"] (top 66) jJ jK)(lC:aC P w K mg base aH (5) jJ jK ["_law_found","_law_due_here"] (oE 4))(lA:Dn K mg "carried_on" ["view","kind","source","paper"] (top 43) zq zu)(abP:aC P w K mg base aH (12) zq zu ["view","kind","source","paper"] (Lf P2 C))(lB:Dn K mg "carried_back" ["view","kind","source","paper"] (top 44) zE zF)(abQ:aC P w K mg base aH (12) zE zF ["view","kind","source","paper"] (Lg P2 C))(n_:Dm K "__init__" "Take.__init__" ["self","names"] (bH 53 0) jh yC)(abR:aC P w K mg base aH (1) jh yC ["self","names"] (Ko K C)):aC P w K mg base aH (13) abL abM ["_law_script"] (zT K P2):=by
 have CT:=TK.ct
 have abS:=TK.mkk
 have abT:=TK.m
 refine uK.F.ok Mj (λvs H Q E h=>?_) (λcdv A outer s H vs Q E hr h=>?_)
 . obtain⟨a,ns,rfl,_⟩:=h
   rfl
 obtain⟨a,ns,rfl,hS,h63,hT,done⟩:=h
 have nd:=Mj.nd
 have hu:=iG hr
 refine⟨_,(ao (bI (i:=1) nd rfl (Or.inl rfl) (fC (aj aF ak)))
  (ao (bI (i:=2) nd rfl (Or.inl rfl) (aY abN (hr.mono (by omega)) rfl j6.m j6.F.kp j6.b .nil aO (aj (pv 0) (aj (pv 1) (aj (aQ jq aF (aQ cM (aY dX (hr.mono (by omega)) rfl bF.m bF.F.kp bF.b .nil aO (aj (pv 0) (aj (pv 1) ak))) aF)) (aj aF ak))))))
  (ao (bI (i:=3) nd rfl (Or.inl rfl) (dU (aj bV (aj (pv 2) ak))))
  (ao (bI (i:=4) nd rfl (Or.inl rfl) (aY qp (hr.mono (by omega)) rfl dF.m dF.F.kp dF.b .nil aO (aj (pv 0) (aj (pv 1) (aj (pv 3) (aj aF ak))))))
  (ao (bI (i:=5) nd rfl (Or.inr rfl) (aY abO (hr.mono (by omega)) rfl lD.m lD.F.kp lD.b .nil aO (aj (fG (g:=(cB 0)) (tt:=dW) (te:=(bD (jU K) (aV 0) (tC (.int 0)))) (own:=["_law_pair"]) rfl (cI.of (N:=["_law_script","_law_at","_law_fields_here","_law_kind_here","_law_source","_law_names_here","_law_paper","_law_now","_law_handed","_law_view","_law_shown","_law_back","_law_later"]) (sc:=aG (top 70)) rfl rfl rfl (by decide +kernel)) (jR (pv 2)) (λ_ _ _ _ _=>(bQ (i:=0) (show(["_law_pair","_law_script","_law_at","_law_fields_here","_law_kind_here","_law_source","_law_names_here","_law_paper","_law_now","_law_handed","_law_view","_law_shown","_law_back","_law_later"]:List Str).Nodup by decide +kernel) rfl (Or.inl rfl) (.inr rfl))) (λ_ _ _ _ _=>gH) (λ_ _ _ _ _=>(bB bZ (pv 0) aF (λ_ _=>rfl)))) (aj (aY dX (hr.mono (by omega)) rfl bF.m bF.F.kp bF.b .nil aO (aj (pv 0) (aj (pv 1) ak))) ak))))
  (ao (rD (aY Ml (hr.mono (by omega)) rfl iQ.m iQ.F.kp iQ.b .nil aO (aj (pv 0) (aj (pv 1) (aj (pv 2) (aj (pv 4) (aj (aQ cM (aY dX (hr.mono (by omega)) rfl bF.m bF.F.kp bF.b .nil aO (aj (pv 0) (aj (pv 1) ak))) aF) ak)))))) (iy rfl (cW (bQ (i:=6) nd rfl (Or.inl rfl)) (cW (bQ (i:=7) nd rfl (Or.inl rfl)) iw))))
  (ao (bI (i:=8) nd rfl (Or.inl rfl) (fC (aj (fW rW (by rfl) T.fZ boot_list (aj (pv 6) ak)) (aj (fW tM (by rfl) T.gM boot_dict (aj (pv 4) ak)) (aj (fW rW (by rfl) T.fZ boot_list (aj (pv 5) ak)) ak)))))
  (ao (bI (i:=9) nd rfl (Or.inl rfl) (Vr abS abR (hr.mono (by omega)) rfl abT n_.b .nil aO (aj (bB fX (pv 8) aF (λ_ _=>rfl)) ak)))
  (ao (bh (jO (cH (aY lC (hr.mono (by omega)) rfl cF.m cF.F.kp cF.b .nil aO (aj (aY abP (hr.mono (by omega)) rfl lA.m lA.F.kp lA.b .nil aO (aj (pv 9) (aj (pv 3) (aj (bB fX (pv 8) aF (λ_ _=>rfl)) (aj (bB fX (pv 8) aF (λ_ _=>rfl)) ak))))) (aj (aY Mp (hr.mono (by omega)) rfl iM.m iM.F.kp iM.b .nil aO (aj (pv 5) (aj (pv 4) (aj (pv 7) ak)))) ak))))) (aJ (aU ni)) bf)
  (ao (bI (i:=10) nd rfl (Or.inl rfl) (fW vN (by rfl) T.iJ boot_tuple (aj (fG (g:=(cB 0)) (tt:=(jd (bD (vM K false) (bD (jU K) (aV 0) (tC (.int 0))) (aV 6)))) (te:=(aV 0)) (own:=["_law_pair"]) rfl (cI.of (N:=["_law_script","_law_at","_law_fields_here","_law_kind_here","_law_source","_law_names_here","_law_paper","_law_now","_law_handed","_law_view","_law_shown","_law_back","_law_later"]) (sc:=aG (top 70)) rfl rfl rfl (by decide +kernel)) (jR (pv 2)) (λ_ _ _ _ _=>(bQ (i:=0) (show(["_law_pair","_law_script","_law_at","_law_fields_here","_law_kind_here","_law_source","_law_names_here","_law_paper","_law_now","_law_handed","_law_view","_law_shown","_law_back","_law_later"]:List Str).Nodup by decide +kernel) rfl (Or.inl rfl) (.inr rfl))) (λ_ _ _ _ _=>(sI (bx GP (bB bZ (pv 0) aF (λ_ _=>rfl)) (pv 6) (by with_unfolding_all rfl)))) (λ_ _ _ _ _=>(pv 0))) ak)))
  (ao (bh (bx rM (aR eE (by rfl) T.dw PySem.boot_len (aj (pv 10) ak)) aF (aX _)) (ao (rD (aY Ml (hr.mono (by omega)) rfl iQ.m iQ.F.kp iQ.b .nil aO (aj (pv 0) (aj (pv 1) (aj (pv 10) (aj (pv 4) (aj (aQ cM (aY dX (hr.mono (by omega)) rfl bF.m bF.F.kp bF.b .nil aO (aj (pv 0) (aj (pv 1) ak))) aF) ak)))))) (iy rfl (cW (bQ (i:=11) nd rfl (Or.inl rfl)) (cW (bQ (i:=12) nd rfl (Or.inl rfl)) iw))))
  (aJ (bh (jO (cH (aY lC (hr.mono (by omega)) rfl cF.m cF.F.kp cF.b .nil aO (aj (aY abQ (hr.mono (by omega)) rfl lB.m lB.F.kp lB.b .nil aO (aj (pv 9) (aj (pv 3) (aj (bB fX (pv 8) aF (λ_ _=>rfl)) (aj (fW rW (by rfl) T.fZ boot_list (aj (pv 11) ak)) ak))))) (aj (aY Mp (hr.mono (by omega)) rfl iM.m iM.F.kp iM.b .nil aO (aj (pv 5) (aj (pv 4) (aj (pv 12) ak)))) ak))))) (aJ (aU ni)) bf))) bf)
  (aJ (aU (aY lC (hr.mono (by omega)) rfl cF.m cF.F.kp cF.b .nil aO (aj (pv 8) (aj (fC (aj (pv 6) (aj (pv 4) (aj (pv 5) ak)))) ak)))))))))))))))),?_⟩
 refine⟨iT,λb hb=>?_⟩
 have s0:Same H (upd H b (.lst [.int 0])):=Same.new hb
 have g0:G0 K (upd H b (.lst [.int 0])) a b ns 0:=G0.one hS h63 hb (by decide)
 have hT0:=hT.same s0
 generalize upd H b (.lst [.int 0])=H0 at s0 g0 hT0
 refine⟨_,rfl,_,rfl,_,rfl,_,rfl,a,b,ns,0,rfl,g0,by decide,λr H1 r0 r1 s1 h1=>?_⟩
 have g1:G0 K H1 a b ns (0+1):=g0.go s1 h1 (by decide)
 have hT1:=hT0.sb g0.at_ s1
 have hr0:0<=r % 8:=Int.emod_nonneg _ (by decide)
 have hr8:r % 8<8:=Int.emod_lt_of_pos _ (by decide)
 obtain⟨m,hm⟩:∃m:Nat,1+r % 8=(m:Int):=⟨(1+r % 8).toNat,by omega⟩
 refine⟨_,_,rfl,rfl,(by show(0:Int)<8;decide),_,_,rfl,rfl,a,b,ns,_,m,(by show [V.ref a,V.ref b,V.int (1+r % 8),V.int 0]=_;rw[hm]),by omega,g1,by decide,λt xs fs n2 H2 s2 h2 z1 z2 ht hfa hnd hlen uL hso=>?_⟩
 have g2:G0 K H2 a b ns n2:=g1.go s2 h2 z1
 have hT2:=hT1.sb g1.at_ s2
 have tY:xs.length=fs.names.length:=FA.len fs hfa
 have h8:fs.names.length<=8:=by omega
 clear s1 s2 g1 g0 hT1 hT0 hT hS
 refine⟨_,rfl,gY,λkk hkk=>?_⟩
 have s3:Same H2 (upd H2 kk (.tup [.str "record",.ref t])):=Same.new hkk
 have zU:upd H2 kk (.tup [.str "record",.ref t]) kk=some (.tup [.str "record",.ref t]):=aK
 generalize upd H2 kk (.tup [.str "record",.ref t])=H3 at s3 zU
 have qR:dG H3 kk t xs fs:=⟨zU,s3 _ _ ht,FA.mono (Tu.of s3) fs hfa,hnd,by omega,uL.W,hso⟩
 have g3:G0 K H3 a b ns n2:=g2.go (SB.of s3) (s3 _ _ g2.at_) (Int.le_refl _)
 have ou:=hT2.same s3
 refine⟨_,rfl,_,rfl,_,rfl,a,b,ns,n2,kk,t,xs,fs,0,rfl,g3,by omega,qR.at_,qR.tu,qR.fa,uL,hnd,h8,λsrc f n4 H4 s4 h4 z3 z4 abU gw Mq=>?_⟩
 have hF:FK fs f:=λx k e=>by
  obtain⟨i,hi⟩:=Fs.Mg e
  exact Mq i x k hi
 have g4:G0 K H4 a b ns n4:=g3.go s4 h4 z3
 have mZ:dG H4 kk t xs fs:=qR.mono (s4.tu g3.at_)
 have uD:=ou.sb g3.at_ s4
 clear s3 s4 g3 ou hT2 hfa ht zU hkk qR g2 h2 h1 Mq
 try dsimp only[cB]
 refine mJ (A:=jm _ _) (λσ' H7=>∃(nl:Addr) (ss:List Str) (n7:Int),σ'=[some (.ref a),some (.ref b),some (.ref t),some (.ref kk),some (.ref src),some (.ref nl),none,none,none,none,none,none,none]/\SB b H4 H7/\H7 b=some (.lst [.int n7])/\n4<=n7/\n7<=n4+1/\H7 nl=some (.lst (ss.map V.str))/\nl≠b/\ss.Nodup/\(∀x∈ss,x∈fs.names)/\ss.length<=12) ?_ (λhB=>?_)
 rotate_left
 . refine⟨_,rfl,t,rfl,⟨_,aq.of mZ.tu⟩,λi k ys H'=>H'=H4/\k=xs.length - i/\i<=xs.length/\ys=(fs.names.take i).map V.str,⟨xs.length,rfl,by simp,Nat.zero_le _,rfl⟩,?_⟩
   rintro i k ys H' ⟨rfl,rfl,hi,rfl⟩
   by_cases hlt:i<xs.length
   . refine .inr ⟨⟨xs,xs[i],aq.of mZ.tu,by simp[hlt]⟩,by rw[List.length_map,List.length_take];exact cX (by omega),λx H' y=>?_⟩
     obtain⟨rfl,y⟩:=y
     obtain⟨c,u,nm,k,rfl,hat,hc,hk⟩:=FA.get fs mZ.fa (y xs (aq.of mZ.tu))
     have hnm:fs.names[i]? =some nm:=by rw[Fs.gK,hat];rfl
     refine⟨rfl,yes (bW ?_)⟩
     refine⟨_,rfl,c,_,_,_,rfl,rfl,aq.of hc,rfl,xs.length - (i+1),by omega,rfl,rfl,hlt,?_⟩
     rw[List.take_succ,hnm,List.map_append]
     rfl
   . refine .inl ⟨⟨xs,aq.of mZ.tu,Nat.le_of_not_lt hlt⟩,λpl hpl=>?_⟩
     rw[List.take_of_length_le (by omega)]
     have s5:=Same.new hpl (o:=.lst (fs.names.map V.str))
     have e5:upd H' pl (.lst (fs.names.map V.str)) pl=some (.lst (fs.names.map V.str)):=aK
     generalize upd H' pl (.lst (fs.names.map V.str))=H5 at s5 e5
     have abV:pl≠b:=λz=>by rw[z,g4.at_] at hpl;cases hpl
     refine⟨_,rfl,_,rfl,a,b,ns,n4,rfl,g4.go (SB.of s5) (s5 _ _ g4.at_) (Int.le_refl _),by omega,λr6 H6 _ _ s6 h6=>?_⟩
     refine⟨pl,r6,fs.names,rfl,s6 _ _ abV e5,hnd,by omega,λnl ss H7 s7 hnl Mr hsn jL oG=>?_⟩
     exact hB _ _ ⟨nl,ss,n4+1,rfl,(SB.of s5).trans (s6.trans (SB.of s7)),s7 _ _ h6,by omega,by omega,hnl,(λz=>by rw[z,h6] at Mr;cases Mr),hsn,jL,oG⟩
 rintro _ H7 ⟨nl,ss,n7,rfl,s7,h7,z5,z6,hnl,Ms,hsn,jL,oG⟩
 have g7:G0 K H7 a b ns n7:=g4.go s7 h7 z5
 have zV:dG H7 kk t xs fs:=mZ.mono (s7.tu g4.at_)
 have Mt:=uD.sb g4.at_ s7
 have hsb:src≠b:=λz=>by rw[z,h4] at gw;cases gw
 have zW:=s7 _ _ hsb gw
 clear s7 g4 mZ uD h4 gw abU
 refine⟨_,rfl,_,rfl,_,rfl,_,rfl,_,rfl,_,rfl,a,b,ns,n7,rfl,g7,by omega,λr8 H8 r80 _ s8 oH=>?_⟩
 have g8:G0 K H8 a b ns (n7+1):=g7.go s8 oH (by omega)
 have hr7:r8 % 7<7:=Int.emod_lt_of_pos _ (by decide)
 have abX:0<=r8 % 7:=Int.emod_nonneg _ (by decide)
 obtain⟨m8,zX⟩:∃m:Nat,r8 % 7=(m:Int):=⟨(r8 % 7).toNat,by omega⟩
 have zY:=zV.mono (s8.tu g7.at_)
 refine⟨_,_,rfl,rfl,(by show(0:Int)<7;decide),a,b,ns,n7+1,t,src,xs,fs,fs.names,f,m8,(by show [V.ref a,V.ref b,V.ref t,V.ref src,V.int (r8 % 7)]=_;rw[zX]),by omega,g8,by omega,zY.tu,zY.fa,uL,hnd,by omega,by omega,s8 _ _ hsb zW,λx hx=>hx,by omega,λrr pp nw ys ops n9 H9 s9 h9 z7 z8 hrr uM Mu hpp hnw hP hO hol=>?_⟩
 have oJ:=s8.trans s9
 have g9:G0 K H9 a b ns n9:=g7.go oJ h9 (by omega)
 have Mv:=zV.mono (oJ.tu g7.at_)
 have hT9:=Mt.sb g7.at_ oJ
 have uN:=oJ _ _ hsb zW
 have zZ:=oJ _ _ Ms hnl
 have abY:pp≠b:=λz=>by rw[z,oH] at uM;cases uM
 refine⟨rr,_,rfl,aq.of hrr,rfl,_,_,rfl,_,_,rfl,rfl,?_⟩
 clear oJ s8 s9 g8 zY zV Mt zW hnl g7 h7 hrr uM Mu
 refine⟨_,rfl,pp,_,rfl,.inl (au.of hpp),λhp z9=>?_⟩
 have sa:=Same.new z9 (o:=.lst ys)
 have ea:upd H9 hp (.lst ys) hp=some (.lst ys):=aK
 generalize upd H9 hp (.lst ys)=Ha at sa ea
 refine⟨_,rfl,src,_,rfl,sa _ _ uN,λhs uO=>?_⟩
 have m7:=Same.new uO (o:=.dK (aN f fs.names))
 have eb:upd Ha hs (.dK (aN f fs.names)) hs=some (.dK (aN f fs.names)):=aK
 generalize upd Ha hs (.dK (aN f fs.names))=Hb at m7 eb
 refine⟨_,rfl,nl,_,rfl,.inl (au.of (m7 _ _ (sa _ _ zZ))),λhn z_=>?_⟩
 have oK:=Same.new z_ (o:=.lst (ss.map V.str))
 have ec:upd Hb hn (.lst (ss.map V.str)) hn=some (.lst (ss.map V.str)):=aK
 generalize upd Hb hn (.lst (ss.map V.str))=Hc at oK ec
 refine⟨oX,λhd hhd=>?_⟩
 have oM:=Same.new hhd (o:=.lst [.ref hp,.ref hs,.ref hn])
 have ed:upd Hc hd (.lst [.ref hp,.ref hs,.ref hn]) hd=some (.lst [.ref hp,.ref hs,.ref hn]):=aK
 generalize upd Hc hd (.lst [.ref hp,.ref hs,.ref hn])=Hd at oM ed
 have uP:Same H9 Hd:=sa.trans (m7.trans (oK.trans oM))
 have Mw:Hd hp=some (.lst ys):=oM _ _ (oK _ _ (m7 _ _ ea))
 have Mx:Hd hs=some (.dK (aN f fs.names)):=oM _ _ (oK _ _ eb)
 have Aa:Hd hn=some (.lst (ss.map V.str)):=oM _ _ ec
 have nb:∀{c:Addr} {H':Hp},Same H9 H'->H' c=none->c≠b:=λ{c H'} s' e z=>by rw[z,s' _ _ g9.at_] at e;cases e
 have nbp:=nb (Same.refl _) z9
 have nbn:=nb (sa.trans m7) z_
 have nbd:=nb (sa.trans (m7.trans oK)) hhd
 have ab2:hs≠src:=λz=>by rw[z,sa _ _ uN] at uO;cases uO
 clear sa ea m7 eb oK ec oM z9 uO z_ hhd
 refine⟨_,rfl,hd,_,_,_,rfl,rfl,au.of ed,rfl,λvw dx hvw hdx hdv=>?_⟩
 have hk1:∀c o,Hd c=some o->upd (upd Hd dx (.own vw)) vw (.ins C dx []) c=some o:=λc o e=>by rw[aB (aW e hvw),aB (aW e hdx)];exact e
 refine⟨vw,hn,dx,ss,rfl,aK,au.of (hk1 _ _ Aa),λnv He Ab ke Mz MF=>⟨rfl,?_⟩⟩
 have iR:Same H9 He:=λc o e=>ke c o (aW (uP _ _ e) hvw) (hk1 _ _ (uP _ _ e))
 have qT:Same Hd He:=λc o e=>ke c o (aW e hvw) (hk1 _ _ e)
 have nbv:nv≠b:=λz=>by rw[z,hk1 _ _ (uP _ _ g9.at_)] at Ab;cases Ab
 have W:Wd P2 C b t kk src nl pp hd hp hs hn vw dx nv xs ys fs f ss ops He:=
  ⟨⟨Ms,abY,nbd,nbp,nbn,nbv⟩,ab2,Mv.mono (Tu.of iR),hT9.same iR,⟨_,iR _ _ g9.at_⟩,iR _ _ uN,iR _ _ zZ,iR _ _ hpp,hP.mono (Tu.of iR),qT _ _ ed,qT _ _ Mw,qT _ _ Mx,qT _ _ Aa,⟨Mz,MF,hsn,oG⟩⟩
 have ge:G0 K He a b ns n9:=g9.go (SB.of iR) (iR _ _ g9.at_) (Int.le_refl _)
 have MJ:=iR _ _ hnw
 clear iR qT ke hk1 Ab Mz MF Mw Mx Aa uP ed hvw hdx hdv g9 Mv hT9 uN zZ hpp hP hnw h9 nb
 have hperm:=Ld hnd hsn jL
 have MK:(fs.names.filter λx=>decide (x∈ss)).Pairwise sle:=hso.filter _
 have Ac:∀x∈fs.names.filter λx=>decide (x∈ss),x∈fs.names:=λx hx=>(List.mem_filter.mp hx).1
 have hfl:(fs.names.filter λx=>decide (x∈ss)).length<=12:=by rw[hperm.length_eq];exact oG
 have MN:=qO hF hO
 refine⟨_,rfl,_,rfl,_,rfl,hd,_,_,_,rfl,rfl,au.of W.hd,rfl,_,rfl,hd,_,_,_,rfl,rfl,au.of W.hd,rfl,vw,kk,t,dx,nv,xs,fs,ss,hs,hp,ys,ops,f,rfl,W.vw,W.kd,jL,W.lam,W.hs,hF,W.hp,W.pap,hO,λp1 zs1 Hf kpf hTf hp1 oN=>?_⟩
 have gf:=ge.kpt W.lam kpf
 have uQ:=kpf.keep W.lam MJ (by intro ps z;cases z)
 have Wf:=W.go (KB.kp kpf) hTf ⟨_,gf.at_⟩
 rw[Fs.fM] at oN
 refine⟨_,rfl,_,rfl,_,rfl,nl,src,nw,fs.names,ss,fs.names.filter (λx=>decide (x∈ss)),f,cZ f ops,rfl,Wf.nl,hsn,oG,hperm,MK,Wf.src,uQ,jL,λx hx=>hF.iz MN (jL x hx),λp2 zs2 Hg sg hp2 _ hP2=>?_⟩
 have Wg:=Wf.same sg
 have uR:Sm Hg 4 (.ref p1) (.ref p2):=(zQ (sg _ _ hp1) hp2 (oN.mono (Tu.of sg)) hP2 (Mi MN Ac) (Nat.le_trans (ur _ _ _) (by omega))).up
 refine⟨.ref p1,.ref p2,rfl,uR,λHh sh=>⟨true,rfl,bM ?_⟩⟩
 have Wh:=Wg.same sh
 have gh:G0 K Hh a b ns n9:=gf.go (SB.of (sg.trans sh)) ((sg.trans sh) _ _ gf.at_) (Int.le_refl _)
 clear uR oN hP2 hp1 hp2 sg sh kpf hTf Wg Wf W ge gf MJ uQ
 dsimp only[FN]
 refine mJ (A:=jm _ _) (λσ' Hi=>∃sw,σ'=[some (.ref a),some (.ref b),some (.ref t),some (.ref kk),some (.ref src),some (.ref nl),some (.ref pp),some (.ref nw),some (.ref hd),some (.ref vw),some (.ref sw),none,none]/\Same Hh Hi/\Hi sw=some (.tup (gP ss xs fs.names))) ?_ (λhB=>?_)
 rotate_left
 . refine⟨_,rfl,t,rfl,⟨_,aq.of Wh.kd.tu⟩,λi m ys H'=>H'=Hh/\m=xs.length - i/\i<=xs.length/\ys=(((xs.zip fs.names).take i).filter λq=>decide (q.2∈ss)).map (·.1),⟨xs.length,rfl,by simp,Nat.zero_le _,rfl⟩,?_⟩
   rintro i m ys H' ⟨rfl,rfl,hi,rfl⟩
   by_cases hlt:i<xs.length
   . have hb:((((xs.zip fs.names).take i).filter λq=>decide (q.2∈ss)).map (·.1)).length<=i:=by
      rw[List.length_map]
      exact Nat.le_trans (List.length_filter_le _ _) (by rw[List.length_take];omega)
     refine .inr ⟨⟨xs,xs[i],aq.of Wh.kd.tu,by simp[hlt]⟩,cX (by omega),λx H' y=>?_⟩
     obtain⟨rfl,y⟩:=y
     have hv:=y xs (aq.of Wh.kd.tu)
     obtain⟨c,u,nm,k,rfl,hat,hc,hk⟩:=FA.get fs Wh.kd.fa hv
     have hnm:fs.names[i]? =some nm:=by rw[Fs.gK,hat];rfl
     have hz:(xs.zip fs.names)[i]? =some (.ref c,nm):=by
      rw[List.getElem?_zip_eq_some]
      exact⟨hv,hnm⟩
     have step:(((xs.zip fs.names).take (i+1)).filter λq=>decide (q.2∈ss)).map (·.1)=(((xs.zip fs.names).take i).filter λq=>decide (q.2∈ss)).map (·.1)++(if nm∈ss then [V.ref c] else []):=by
      rw[List.take_succ,hz,List.filter_append,List.map_append]
      congr 1
      show(List.filter _ [(V.ref c,nm)]).map _=_
      rw[List.filter_cons]
      by_cases e:nm∈ss
      . rw[if_pos (decide_eq_true e),if_pos e];rfl
      . rw[if_neg (by show ¬decide (nm∈ss)=true;rw[decide_eq_false e];decide),if_neg e];rfl
     refine⟨rfl,_,rfl,c,_,_,_,rfl,rfl,aq.of hc,rfl,_,rfl,nl,_,rfl,.inl (au.of Wh.nl),rfl,xV,_,rfl,?_⟩
     refine dH (λcc=>?_) (λcc=>?_)
     . have e:nm∈ss:=of_decide_eq_true (uc.symm.trans (show inV (V.str nm) (ss.map V.str)=true from cc))
       refine⟨_,rfl,xs.length - (i+1),by omega,rfl,rfl,hlt,?_⟩
       rw[step,if_pos e]
     . have e:¬nm∈ss:=λz=>cc (show inV (V.str nm) (ss.map V.str)=true from uc.trans (decide_eq_true z))
       refine⟨xs.length - (i+1),by omega,rfl,rfl,hlt,?_⟩
       rw[step,if_neg e,List.append_nil]
   . refine .inl ⟨⟨xs,aq.of Wh.kd.tu,Nat.le_of_not_lt hlt⟩,λpl hpl=>?_⟩
     rw[List.take_of_length_le (by rw[List.length_zip];omega)]
     have s5:=Same.new hpl (o:=.lst (gP ss xs fs.names))
     refine⟨pl,_,rfl,.inl ⟨au.of aK,λsw hsw=>?_⟩⟩
     exact hB _ _ ⟨sw,rfl,s5.trans (Same.new hsw),aK⟩
 rintro _ Hi ⟨sw,rfl,si,hsw⟩
 have Wi:=Wh.same si
 have gi:G0 K Hi a b ns n9:=gh.go (SB.of si) (si _ _ gh.at_) (Int.le_refl _)
 have hfew:FA Hi (gP ss xs fs.names) (fs.cj ss):=FA.few fs Wi.kd.fa
 have ab4:(gP ss xs fs.names).length=(fs.cj ss).names.length:=FA.len _ hfew
 have hn9:n9+20+1<=1000000000000:=by omega
 clear Wh gh si
 refine mJ (A:=nq _ _ _) (λσ' Hj=>(∃x y,σ'=[some (.ref a),some (.ref b),some (.ref t),some (.ref kk),some (.ref src),some (.ref nl),some (.ref pp),some (.ref nw),some (.ref hd),some (.ref vw),some (.ref sw),x,y])/\Wd P2 C b t kk src nl pp hd hp hs hn vw dx nv xs ys fs f ss ops Hj) ?_ (λhB=>?_)
 rotate_left
 . refine⟨_,rfl,sw,_,rfl,.inr (aq.of hsw),_,_,rfl,rfl,_,rfl,dH (λcc=>?_) (λcc=>hB _ _ ⟨⟨_,_,rfl⟩,Wi⟩)⟩
   have hpos:1<=(fs.cj ss).names.length:=by
    have:=of_decide_eq_true cc
    rw[<-ab4];omega
   have ab5:(fs.cj ss).names.length<=12:=by rw[Fs.fM];exact hfl
   refine⟨_,rfl,_,rfl,_,rfl,_,rfl,_,rfl,_,rfl,a,b,ns,n9,rfl,gi,by omega,λr8 H8 r80 _ s8 oH=>?_⟩
   have g8:G0 K H8 a b ns (n9+1):=gi.go s8 oH (by omega)
   have hr7:r8 % 5<5:=Int.emod_lt_of_pos _ (by decide)
   have abX:0<=r8 % 5:=Int.emod_nonneg _ (by decide)
   obtain⟨m8,zX⟩:∃m:Nat,r8 % 5=(m:Int):=⟨(r8 % 5).toNat,by omega⟩
   have hT8:=Wi.lam.sb gi.at_ s8
   have W8:=Wi.go (KB.sb s8) hT8 ⟨_,oH⟩
   have MP:=s8.tu gi.at_
   refine⟨_,_,rfl,rfl,(by show(0:Int)<5;decide),a,b,ns,n9+1,sw,src,_,fs.cj ss,fs.names,f,m8,(by show [V.ref a,V.ref b,V.ref sw,V.ref src,V.int (r8 % 5)]=_;rw[zX]),by omega,g8,by omega,MP _ _ hsw,FA.mono MP _ hfew,Fs.zR ss uL,by rw[Fs.fM];exact hnd.filter _,hpos,ab5,W8.src,(by rw[Fs.fM];exact Ac),by omega,λrr p3 nw3 ys3 M4 n10 H9 s9 h9 z7 z8 hrr uM Mu hpp hnw hP M5 ahF=>?_⟩
   have hT9:=hT8.sb oH s9
   have W9:=W8.go (KB.sb s9) hT9 ⟨_,h9⟩
   have ab7:=M5.cj.1
   have M6:=qO hF ab7
   refine⟨rr,_,rfl,aq.of hrr,rfl,_,_,rfl,_,_,rfl,rfl,?_⟩
   refine⟨_,rfl,_,rfl,_,rfl,hd,_,_,_,rfl,rfl,au.of W9.hd,rfl,_,rfl,p3,_,rfl,.inl (au.of hpp),λp4 zH=>?_⟩
   have sa:=Same.new zH (o:=.lst ys3)
   have ea:upd H9 p4 (.lst ys3) p4=some (.lst ys3):=aK
   generalize upd H9 p4 (.lst ys3)=Ha at sa ea
   have Wa:=W9.same sa
   refine⟨vw,kk,t,dx,nv,xs,fs,ss,hs,p4,ys3,M4,f,rfl,Wa.vw,Wa.kd,jL,Wa.lam,Wa.hs,hF,ea,hP.mono (Tu.of sa),M5,λp1 zs1 Hf kpf hTf hp1 oN=>?_⟩
   obtain⟨nA,hbA⟩:=Wa.cn
   have hbf:=kpf.keep Wa.lam hbA (by intro ps z;cases z)
   have Wf:=Wa.go (KB.kp kpf) hTf ⟨_,hbf⟩
   have uQ:=kpf.keep Wa.lam (sa _ _ hnw) (by intro ps z;cases z)
   rw[Mh] at oN
   refine⟨_,rfl,_,rfl,_,rfl,nl,src,nw3,fs.names,ss,fs.names.filter (λx=>decide (x∈ss)),f,cZ f M4,rfl,Wf.nl,hsn,oG,hperm,MK,Wf.src,uQ,jL,λx hx=>hF.iz M6 (jL x hx),λp2 zs2 Hg sg hp2 _ hP2=>?_⟩
   have uR:Sm Hg 4 (.ref p1) (.ref p2):=(zQ (sg _ _ hp1) hp2 (oN.mono (Tu.of sg)) hP2 (Mi M6 Ac) (Nat.le_trans (ur _ _ _) (by omega))).up
   refine⟨.ref p1,.ref p2,rfl,uR,λHh sh=>⟨true,rfl,bM ?_⟩⟩
   exact hB _ _ ⟨⟨_,_,rfl⟩,(Wf.same sg).same sh⟩
 rintro _ Hj ⟨⟨x,y,rfl⟩,Wj⟩
 refine⟨_,rfl,_,rfl,_,rfl,_,rfl,oX,λz hz=>?_⟩
 have sz:=Same.new hz (o:=.lst [.ref pp,.ref src,.ref nl])
 exact⟨.ref hd,.ref z,rfl,(Wj.same sz).last hF hO hol aK,λH' _=>done H'⟩
end
end Pb
namespace Pb
open PySem L2
theorem b_ {K:W.Frag}{mg:Str->Option Value}{h:Heap}{x:Str}{ps:List Str}{st:Stmt}{f:Addr}{oc:Value}{od an:Option Addr}{osl:Array (Option Value)}{kV doc pm cdv ct:Value}(X:K.In h)(G:h.Ns mainGlobals mg)(a:W.nsIn K mainGlobals x=some (some (.ref f)))
 (l:K.lookup f=some ⟨oc,od,.func (W.fnOf x x (bC st) (bw st) (aG st) .none kV doc pm an cdv ct),osl⟩) (c:W.codeIn K cdv x=true) (k:W.keepIn K (.ref f)=true)
 (hb:∀(kV doc pm:Value) (an:Option Addr) (cdv ct:Value) (us:List Value),us.length=ps.length->bindArgs (W.fnOf x x (bC st) (bw st) (aG st) .none kV doc pm an cdv ct) ⟨us,[]⟩=pure (ps.zip us)):
 Dn K mg x ps st f (W.fnOf x x (bC st) (bw st) (aG st) .none kV doc pm an cdv ct):=by
 have F:=WX (st:=st) l c k
 exact⟨F,F.binds hb,W.mg_of X G a⟩
theorem uT {K:W.Frag}{x ql:Str}{ps:List Str}{st:Stmt}{f:Addr}{oc:Value}{od an:Option Addr}{osl:Array (Option Value)}{kV doc pm cdv ct:Value}
 (l:K.lookup f=some ⟨oc,od,.func (W.fnOf x ql (bC st) (bw st) (aG st) .none kV doc pm an cdv ct),osl⟩) (c:W.codeIn K cdv ql=true) (k:W.keepIn K (.ref f)=true)
 (hb:∀(kV doc pm:Value) (an:Option Addr) (cdv ct:Value) (us:List Value),us.length=ps.length->bindArgs (W.fnOf x ql (bC st) (bw st) (aG st) .none kV doc pm an cdv ct) ⟨us,[]⟩=pure (ps.zip us)):
 Dm K x ql ps st f (W.fnOf x ql (bC st) (bw st) (aG st) .none kV doc pm an cdv ct):=by
 have F:je K x ql st f _:=⟨⟨oc,od,kV,doc,pm,an,cdv,ct,osl,rfl,l,c⟩,k⟩
 exact⟨F,F.binds hb⟩
theorem all_mk {l:W.OpenLaw}{w:World}{K:W.Frag}{h:Heap}{mg:Str->Option Value}{fa:Addr}{f0 f1 f2 f3 f4 f5 f6 f7 f8 f9 Ad f11 Ae Af Ag Ah Ai Aj Ak Al Am Ao Aq Ar Av Aw Ax Ay Az A_ Ba Bb f32 Bc:Addr}(X:K.In h)(G:h.Ns mainGlobals mg)(hfa:mg "law"=some (.ref fa))
 {od0 an0 od1 an1 od2 an2 od3 an3 od4 an4 od5 an5 od6 an6 od7 an7 od8 an8 od9 an9 acA acB acC acD acE acF acG acH acI acJ acK acL acM acN acO acP acQ acR acS acT acU acV acW acX acY acZ ac0 ac1 ac2 ac3 ac4 ac5 ac6 ac7 ac8 ac9 ac_ ada adb ade adf adg adh adi adk adl adn M7:Option Addr} {sl0 Jr sl2 sl3 sl4 sl5 sl6 sl7 sl8 sl9 ady adz adA adB adC adD adE adF adG adH adI adJ adK adL adM adN adO adP adQ adR adS adT adU adV:Array (Option Value)} {oc0 kV0 dc0 pm0 M8 ct0 oc1 kV1 dc1 pm1 M9 ct1 oc2 kV2 dc2 pm2 Bd ct2 oc3 kV3 dc3 pm3 M_ ct3 oc4 kV4 dc4 pm4 Nb ct4 oc5 kV5 dc5 pm5 Nf ct5 oc6 kV6 dc6 pm6 Ng ct6 oc7 kV7 dc7 pm7 Nh ct7 oc8 kV8 dc8 pm8 Ni ct8 oc9 kV9 dc9 pm9 Nj ct9 aeL aeM aeN aeO Nk aeP aeQ aeR aeS aeT Np aeU aeV aeW aeX aeY Nq aeZ ae0 ae1 ae2 ae3 Nr ae4 ae5 ae6 ae7 ae8 Nt ae9 ae_ afa afb afc Nv afd afe afg afh afi Nx afj afk afl afm afn Ny afo afp afq afr afs Nz aft afu afv afw afx NK afy afz afA afB afC NP afD afE afF afG afH NQ afI afJ afK afL afM NT afN afO afP afQ afR NZ afS afT afU afV afW N5 afX afY afZ af0 af2 N6 af3 af4 af5 af6 af7 N7 af8 af9 af_ aga agb N8 agc agd agf agg agh N_ agi agj agk agl agm Oa agn ago agp agq agr Ob ags agt agu agv agw Oc agx agy agz agA agB Od agC agD Oe Og Oh Bf Oi:Value}
 (a0:W.nsIn K mainGlobals "is_plain"=some (some (.ref f0))) (l0:K.lookup f0=some ⟨oc0,od0,.func (W.fnOf "is_plain" "is_plain" (bC (top 8)) (bw (top 8)) (aG (top 8)) .none kV0 dc0 pm0 an0 M8 ct0),sl0⟩) (c0:W.codeIn K M8 "is_plain"=true) (k0:W.keepIn K (.ref f0)=true)
 (a1:W.nsIn K mainGlobals "kind_at"=some (some (.ref f1))) (l1:K.lookup f1=some ⟨oc1,od1,.func (W.fnOf "kind_at" "kind_at" (bC (top 9)) (bw (top 9)) (aG (top 9)) .none kV1 dc1 pm1 an1 M9 ct1),Jr⟩) (c1:W.codeIn K M9 "kind_at"=true) (k1:W.keepIn K (.ref f1)=true)
 (a2:W.nsIn K mainGlobals "sorted_fields"=some (some (.ref f2))) (l2:K.lookup f2=some ⟨oc2,od2,.func (W.fnOf "sorted_fields" "sorted_fields" (bC (top 10)) (bw (top 10)) (aG (top 10)) .none kV2 dc2 pm2 an2 Bd ct2),sl2⟩) (c2:W.codeIn K Bd "sorted_fields"=true) (k2:W.keepIn K (.ref f2)=true)
 (a3:W.nsIn K mainGlobals "record_of"=some (some (.ref f3))) (l3:K.lookup f3=some ⟨oc3,od3,.func (W.fnOf "record_of" "record_of" (bC (top 11)) (bw (top 11)) (aG (top 11)) .none kV3 dc3 pm3 an3 M_ ct3),sl3⟩) (c3:W.codeIn K M_ "record_of"=true) (k3:W.keepIn K (.ref f3)=true)
 (a4:W.nsIn K mainGlobals "misfit"=some (some (.ref f4))) (l4:K.lookup f4=some ⟨oc4,od4,.func (W.fnOf "misfit" "misfit" (bC (top 13)) (bw (top 13)) (aG (top 13)) .none kV4 dc4 pm4 an4 Nb ct4),sl4⟩) (c4:W.codeIn K Nb "misfit"=true) (k4:W.keepIn K (.ref f4)=true)
 (a5:W.nsIn K mainGlobals "record_misfit"=some (some (.ref f5))) (l5:K.lookup f5=some ⟨oc5,od5,.func (W.fnOf "record_misfit" "record_misfit" (bC (top 14)) (bw (top 14)) (aG (top 14)) .none kV5 dc5 pm5 an5 Nf ct5),sl5⟩) (c5:W.codeIn K Nf "record_misfit"=true) (k5:W.keepIn K (.ref f5)=true)
 (a6:W.nsIn K mainGlobals "has_just"=some (some (.ref f6))) (l6:K.lookup f6=some ⟨oc6,od6,.func (W.fnOf "has_just" "has_just" (bC (top 15)) (bw (top 15)) (aG (top 15)) .none kV6 dc6 pm6 an6 Ng ct6),sl6⟩) (c6:W.codeIn K Ng "has_just"=true) (k6:W.keepIn K (.ref f6)=true)
 (a7:W.nsIn K mainGlobals "done"=some (some (.ref f7))) (l7:K.lookup f7=some ⟨oc7,od7,.func (W.fnOf "done" "done" (bC (top 24)) (bw (top 24)) (aG (top 24)) .none kV7 dc7 pm7 an7 Nh ct7),sl7⟩) (c7:W.codeIn K Nh "done"=true) (k7:W.keepIn K (.ref f7)=true)
 (a8:W.nsIn K mainGlobals "between"=some (some (.ref f8))) (l8:K.lookup f8=some ⟨oc8,od8,.func (W.fnOf "between" "between" (bC (top 25)) (bw (top 25)) (aG (top 25)) .none kV8 dc8 pm8 an8 Ni ct8),sl8⟩) (c8:W.codeIn K Ni "between"=true) (k8:W.keepIn K (.ref f8)=true)
 (a9:W.nsIn K mainGlobals "stepped"=some (some (.ref f9))) (l9:K.lookup f9=some ⟨oc9,od9,.func (W.fnOf "stepped" "stepped" (bC (top 26)) (bw (top 26)) (aG (top 26)) .none kV9 dc9 pm9 an9 Nj ct9),sl9⟩) (c9:W.codeIn K Nj "stepped"=true) (k9:W.keepIn K (.ref f9)=true)
 (a10:W.nsIn K mainGlobals "stepped_in_record"=some (some (.ref Ad))) (l10:K.lookup Ad=some ⟨aeL,acA,.func (W.fnOf "stepped_in_record" "stepped_in_record" (bC (top 27)) (bw (top 27)) (aG (top 27)) .none aeM aeN aeO acB Nk aeP),ady⟩) (Bg:W.codeIn K Nk "stepped_in_record"=true) (k10:W.keepIn K (.ref Ad)=true)
 (a11:W.nsIn K mainGlobals "acted"=some (some (.ref f11))) (Bh:K.lookup f11=some ⟨aeQ,acC,.func (W.fnOf "acted" "acted" (bC (top 35)) (bw (top 35)) (aG (top 35)) .none aeR aeS aeT acD Np aeU),adz⟩) (Bj:W.codeIn K Np "acted"=true) (k11:W.keepIn K (.ref f11)=true)
 (a12:W.nsIn K mainGlobals "paper_at"=some (some (.ref Ae))) (cV:K.lookup Ae=some ⟨aeV,acE,.func (W.fnOf "paper_at" "paper_at" (bC (top 38)) (bw (top 38)) (aG (top 38)) .none aeW aeX aeY acF Nq aeZ),adA⟩) (c12:W.codeIn K Nq "paper_at"=true) (k12:W.keepIn K (.ref Ae)=true)
 (a13:W.nsIn K mainGlobals "record_paper"=some (some (.ref Af))) (Bk:K.lookup Af=some ⟨ae0,acG,.func (W.fnOf "record_paper" "record_paper" (bC (top 39)) (bw (top 39)) (aG (top 39)) .none ae1 ae2 ae3 acH Nr ae4),adB⟩) (Bl:W.codeIn K Nr "record_paper"=true) (k13:W.keepIn K (.ref Af)=true)
 (a14:W.nsIn K mainGlobals "carried_on"=some (some (.ref Ag))) (Bm:K.lookup Ag=some ⟨ae5,acI,.func (W.fnOf "carried_on" "carried_on" (bC (top 43)) (bw (top 43)) (aG (top 43)) .none ae6 ae7 ae8 acJ Nt ae9),adC⟩) (Bo:W.codeIn K Nt "carried_on"=true) (k14:W.keepIn K (.ref Ag)=true)
 (a15:W.nsIn K mainGlobals "carried_back"=some (some (.ref Ah))) (Bp:K.lookup Ah=some ⟨ae_,acK,.func (W.fnOf "carried_back" "carried_back" (bC (top 44)) (bw (top 44)) (aG (top 44)) .none afa afb afc acL Nv afd),adD⟩) (Bq:W.codeIn K Nv "carried_back"=true) (Br:W.keepIn K (.ref Ah)=true)
 (a16:W.nsIn K mainGlobals "ask_fit"=some (some (.ref Ai))) (Bs:K.lookup Ai=some ⟨afe,acM,.func (W.fnOf "ask_fit" "ask_fit" (bC (top 46)) (bw (top 46)) (aG (top 46)) .none afg afh afi acN Nx afj),adE⟩) (c16:W.codeIn K Nx "ask_fit"=true) (Bt:W.keepIn K (.ref Ai)=true)
 (a17:W.nsIn K mainGlobals "ask_stands"=some (some (.ref Aj))) (Bu:K.lookup Aj=some ⟨afk,acO,.func (W.fnOf "ask_stands" "ask_stands" (bC (top 47)) (bw (top 47)) (aG (top 47)) .none afl afm afn acP Ny afo),adF⟩) (Bv:W.codeIn K Ny "ask_stands"=true) (Bw:W.keepIn K (.ref Aj)=true)
 (a18:W.nsIn K mainGlobals "has_each_once"=some (some (.ref Ak))) (Bx:K.lookup Ak=some ⟨afp,acQ,.func (W.fnOf "has_each_once" "has_each_once" (bC (top 50)) (bw (top 50)) (aG (top 50)) .none afq afr afs acR Nz aft),adG⟩) (BJ:W.codeIn K Nz "has_each_once"=true) (BK:W.keepIn K (.ref Ak)=true)
 (a19:W.nsIn K mainGlobals "fields_among"=some (some (.ref Al))) (BL:K.lookup Al=some ⟨afu,acS,.func (W.fnOf "fields_among" "fields_among" (bC (top 51)) (bw (top 51)) (aG (top 51)) .none afv afw afx acT NK afy),adH⟩) (BP:W.codeIn K NK "fields_among"=true) (BR:W.keepIn K (.ref Al)=true)
 (a20:W.nsIn K mainGlobals "part_of"=some (some (.ref Am))) (BW:K.lookup Am=some ⟨afz,acU,.func (W.fnOf "part_of" "part_of" (bC (top 52)) (bw (top 52)) (aG (top 52)) .none afA afB afC acV NP afD),adI⟩) (BX:W.codeIn K NP "part_of"=true) (BZ:W.keepIn K (.ref Am)=true)
 (a21:W.nsIn K mainGlobals "_law_next"=some (some (.ref Ao))) (B_:K.lookup Ao=some ⟨afE,acW,.func (W.fnOf "_law_next" "_law_next" (bC (top 55)) (bw (top 55)) (aG (top 55)) .none afF afG afH acX NQ afI),adJ⟩) (c21:W.codeIn K NQ "_law_next"=true) (Ca:W.keepIn K (.ref Ao)=true)
 (a22:W.nsIn K mainGlobals "_law_number"=some (some (.ref Aq))) (Cd:K.lookup Aq=some ⟨afJ,acY,.func (W.fnOf "_law_number" "_law_number" (bC (top 56)) (bw (top 56)) (aG (top 56)) .none afK afL afM acZ NT afN),adK⟩) (Ce:W.codeIn K NT "_law_number"=true) (Cg:W.keepIn K (.ref Aq)=true)
 (a23:W.nsIn K mainGlobals "_law_word"=some (some (.ref Ar))) (Ci:K.lookup Ar=some ⟨afO,ac0,.func (W.fnOf "_law_word" "_law_word" (bC (top 57)) (bw (top 57)) (aG (top 57)) .none afP afQ afR ac1 NZ afS),adL⟩) (Cj:W.codeIn K NZ "_law_word"=true) (Ck:W.keepIn K (.ref Ar)=true)
 (a24:W.nsIn K mainGlobals "_law_names"=some (some (.ref Av))) (Cm:K.lookup Av=some ⟨afT,ac2,.func (W.fnOf "_law_names" "_law_names" (bC (top 58)) (bw (top 58)) (aG (top 58)) .none afU afV afW ac3 N5 afX),adM⟩) (Cp:W.codeIn K N5 "_law_names"=true) (Cq:W.keepIn K (.ref Av)=true)
 (a25:W.nsIn K mainGlobals "_law_plain"=some (some (.ref Aw))) (Cr:K.lookup Aw=some ⟨afY,ac4,.func (W.fnOf "_law_plain" "_law_plain" (bC (top 59)) (bw (top 59)) (aG (top 59)) .none afZ af0 af2 ac5 N6 af3),adN⟩) (Cu:W.codeIn K N6 "_law_plain"=true) (Cv:W.keepIn K (.ref Aw)=true)
 (a26:W.nsIn K mainGlobals "_law_fields"=some (some (.ref Ax))) (Cw:K.lookup Ax=some ⟨af4,ac6,.func (W.fnOf "_law_fields" "_law_fields" (bC (top 60)) (bw (top 60)) (aG (top 60)) .none af5 af6 af7 ac7 N7 af8),adO⟩) (Cy:W.codeIn K N7 "_law_fields"=true) (Cz:W.keepIn K (.ref Ax)=true)
 (a27:W.nsIn K mainGlobals "_law_kind"=some (some (.ref Ay))) (CG:K.lookup Ay=some ⟨af9,ac8,.func (W.fnOf "_law_kind" "_law_kind" (bC (top 62)) (bw (top 62)) (aG (top 62)) .none af_ aga agb ac9 N8 agc),adP⟩) (CJ:W.codeIn K N8 "_law_kind"=true) (CK:W.keepIn K (.ref Ay)=true)
 (a28:W.nsIn K mainGlobals "_law_value"=some (some (.ref Az))) (CN:K.lookup Az=some ⟨agd,ac_,.func (W.fnOf "_law_value" "_law_value" (bC (top 65)) (bw (top 65)) (aG (top 65)) .none agf agg agh ada N_ agi),adQ⟩) (CP:W.codeIn K N_ "_law_value"=true) (CQ:W.keepIn K (.ref Az)=true)
 (a29:W.nsIn K mainGlobals "_law_same"=some (some (.ref A_))) (CV:K.lookup A_=some ⟨agj,adb,.func (W.fnOf "_law_same" "_law_same" (bC (top 66)) (bw (top 66)) (aG (top 66)) .none agk agl agm ade Oa agn),adR⟩) (CW:W.codeIn K Oa "_law_same"=true) (CZ:W.keepIn K (.ref A_)=true)
 (a30:W.nsIn K mainGlobals "_law_some"=some (some (.ref Ba))) (C_:K.lookup Ba=some ⟨ago,adf,.func (W.fnOf "_law_some" "_law_some" (bC (top 67)) (bw (top 67)) (aG (top 67)) .none agp agq agr adg Ob ags),adS⟩) (Dc:W.codeIn K Ob "_law_some"=true) (Dd:W.keepIn K (.ref Ba)=true)
 (a31:W.nsIn K mainGlobals "_law_sets"=some (some (.ref Bb))) (Df:K.lookup Bb=some ⟨agt,adh,.func (W.fnOf "_law_sets" "_law_sets" (bC (top 68)) (bw (top 68)) (aG (top 68)) .none agu agv agw adi Oc agx),adT⟩) (Dg:W.codeIn K Oc "_law_sets"=true) (Dh:W.keepIn K (.ref Bb)=true)
 (a32:W.nsIn K mainGlobals "_law_due"=some (some (.ref f32))) (Di:K.lookup f32=some ⟨agy,adk,.func (W.fnOf "_law_due" "_law_due" (bC (top 69)) (bw (top 69)) (aG (top 69)) .none agz agA agB adl Od agC),adU⟩) (Dj:W.codeIn K Od "_law_due"=true) (Dk:W.keepIn K (.ref f32)=true)
 (a33:W.nsIn K mainGlobals "law"=some (some (.ref Bc))) (Dl:K.lookup Bc=some ⟨agD,adn,.func (W.fnOf "law" "law" (bC (top 70)) (bw (top 70)) (aG (top 70)) .none Oe Og Oh M7 Bf Oi),adV⟩) (Dp:W.codeIn K Bf "law"=true) (Dq:W.keepIn K (.ref Bc)=true)
 (Dr:W.nsIn K mainGlobals "len"=some none)
 (Ds:W.nsIn K mainGlobals "isinstance"=some none)
 (Dt:W.nsIn K mainGlobals "sorted"=some none)
 (Du:W.nsIn K mainGlobals "all"=some none)
 (Dv:W.nsIn K mainGlobals "range"=some none)
 (Dw:W.nsIn K mainGlobals "enumerate"=some none)
 (Dy:W.nsIn K mainGlobals "zip"=some none)
 (DG:W.nsIn K mainGlobals "int"=some none)
 (DK:W.nsIn K mainGlobals "bool"=some none)
 (DN:W.nsIn K mainGlobals "str"=some none)
 (DP:W.nsIn K mainGlobals "list"=some none)
 (DQ:W.nsIn K mainGlobals "tuple"=some none)
 (DR:W.nsIn K mainGlobals "dict"=some none)
 (DW:W.nsIn K mainGlobals "set"=some none)
 (DX:W.nsIn K mainGlobals "reversed"=some none)
 {fU qU:Addr} {agE:Value} {agF:Option Addr} {agG:Array (Option Value)} {Oj:ClassData}
 (DY:W.nsIn K mainGlobals "Take"=some (some (.ref fU))) (Ol:K.lookup fU=some ⟨agE,agF,.cls Oj,agG⟩) (Om:Oj.ns=qU)
 {oO:Addr} {agH agI:Option Addr} {agJ:Array (Option Value)} {agK agL agM agN Oo agO:Value}
 (Oq:W.nsIn K qU "__init__"=some (some (.ref oO))) (D_:K.lookup oO=some ⟨agK,agH,.func (W.fnOf "__init__" "Take.__init__" (bC (bH 53 0)) (bw (bH 53 0)) (aG (bH 53 0)) .none agL agM agN agI Oo agO),agJ⟩) (Ea:W.codeIn K Oo "Take.__init__"=true) (Eb:W.keepIn K (.ref oO)=true)
 {oR:Addr} {agP agQ:Option Addr} {agR:Array (Option Value)} {agS agT agU agV Ot agW:Value}
 (Ou:W.nsIn K qU "behind"=some (some (.ref oR))) (Ec:K.lookup oR=some ⟨agS,agP,.func (W.fnOf "behind" "Take.behind" (bC (bH 53 1)) (bw (bH 53 1)) (aG (bH 53 1)) .none agT agU agV agQ Ot agW),agR⟩) (Ed:W.codeIn K Ot "Take.behind"=true) (uU:W.keepIn K (.ref oR)=true)
 {oU:Addr} {agX agY:Option Addr} {agZ:Array (Option Value)} {ag0 ag1 ag2 ag3 Ov ag4:Value}
 (Ow:W.nsIn K qU "see"=some (some (.ref oU))) (Ef:K.lookup oU=some ⟨ag0,agX,.func (W.fnOf "see" "Take.see" (bC (bH 53 2)) (bw (bH 53 2)) (aG (bH 53 2)) .none ag1 ag2 ag3 agY Ov ag4),agZ⟩) (Eh:W.codeIn K Ov "Take.see"=true) (uV:W.keepIn K (.ref oU)=true)
 {oV:Addr} {ag5 ag6:Option Addr} {ag7:Array (Option Value)} {ag8 ag9 aha ahb Ox ahc:Value}
 (Oz:W.nsIn K qU "put"=some (some (.ref oV))) (Ei:K.lookup oV=some ⟨ag8,ag5,.func (W.fnOf "put" "Take.put" (bC (bH 53 3)) (bw (bH 53 3)) (aG (bH 53 3)) .none ag9 aha ahb ag6 Ox ahc),ag7⟩) (Ej:W.codeIn K Ox "Take.put"=true) (uW:W.keepIn K (.ref oV)=true)
 (El:W.isFn K (.ref oO)=true)
 (at0:W.findIn K (.ref fU) "__init__"=some (some (.ref oO)))
 (Em:W.isFn K (.ref oR)=true)
 (at1:W.findIn K (.ref fU) "behind"=some (some (.ref oR)))
 (En:W.isFn K (.ref oU)=true)
 (at2:W.findIn K (.ref fU) "see"=some (some (.ref oU)))
 (Eo:W.isFn K (.ref oV)=true)
 (Ep:W.findIn K (.ref fU) "put"=some (some (.ref oV)))
 (Er:W.plainGet K fU Str.empty=true)
 (Es:W.hasDictIn K fU=true)
 (Et:W.plainOver K fU=true)
 (Eu:W.findIn K (.ref fU) "__setattr__"=some (some (.builtin "object.__setattr__")))
 (Ew:W.findIn K (.ref fU) "names"=some none)
 (Ey:W.makesIn K fU=true)
 (Ez:W.keepIn K (.ref fU)=true)
 {cS PS:Addr} {ahd:Value} {ahe:Option Addr} {OD:Array Value} {ahf:Array (Option Value)} (EY:Bd=.ref cS) (OJ:K.lookup cS=some ⟨ahd,ahe,.fields OD,ahf⟩) (O1:OD[11]? =some (.ref PS)) (E_:W.codeHdIn K cS PS=true)
 :∃fd:FuncData,(∀(s:Shared) (v:Value),BindsTo s fd ⟨[v],[]⟩ [("_law_script",v)])/\∀base:Heap,K.In base->base.Ns mainGlobals mg->BM mg base->aC l.prog w K mg base aH 13 fa fd ["_law_script"] (zT K PS):=by
 have T:Tb mg:=⟨W.mg_none_of X G Dr,W.mg_none_of X G Ds,W.mg_none_of X G Dt,W.mg_none_of X G Du,W.mg_none_of X G Dv,W.mg_none_of X G Dw,W.mg_none_of X G Dy,W.mg_none_of X G DG,W.mg_none_of X G DK,W.mg_none_of X G DN,W.mg_none_of X G DP,W.mg_none_of X G DQ,W.mg_none_of X G DR,W.mg_none_of X G DW,W.mg_none_of X G DX⟩
 have k_:=b_ (st:=top 8) (ps:=["kind"]) X G a0 l0 c0 k0 λ_ _ _ _ _ _ us hl=>match us,hl with|[_],_=>rfl
 have gn:=b_ (st:=top 9) (ps:=["fields","name"]) X G a1 l1 c1 k1 λ_ _ _ _ _ _ us hl=>match us,hl with|[_,_],_=>rfl
 have j9:=b_ (st:=top 10) (ps:=["pairs"]) X G a2 l2 c2 k2 λ_ _ _ _ _ _ us hl=>match us,hl with|[_],_=>rfl
 have kh:=b_ (st:=top 11) (ps:=["pairs"]) X G a3 l3 c3 k3 λ_ _ _ _ _ _ us hl=>match us,hl with|[_],_=>rfl
 have dh:=b_ (st:=top 13) (ps:=["kind","value"]) X G a4 l4 c4 k4 λ_ _ _ _ _ _ us hl=>match us,hl with|[_,_],_=>rfl
 have kY:=b_ (st:=top 14) (ps:=["fields","record"]) X G a5 l5 c5 k5 λ_ _ _ _ _ _ us hl=>match us,hl with|[_,_],_=>rfl
 have kW:=b_ (st:=top 15) (ps:=["fields","record"]) X G a6 l6 c6 k6 λ_ _ _ _ _ _ us hl=>match us,hl with|[_,_],_=>rfl
 have gA:=b_ (st:=top 24) (ps:=["kind","paper","value"]) X G a7 l7 c7 k7 λ_ _ _ _ _ _ us hl=>match us,hl with|[_,_,_],_=>rfl
 have gB:=b_ (st:=top 25) (ps:=["kind","old","new"]) X G a8 l8 c8 k8 λ_ _ _ _ _ _ us hl=>match us,hl with|[_,_,_],_=>rfl
 have d8:=b_ (st:=top 26) (ps:=["kind","step","path","value"]) X G a9 l9 c9 k9 λ_ _ _ _ _ _ us hl=>match us,hl with|[_,_,_,_],_=>rfl
 have lq:=b_ (st:=top 27) (ps:=["fields","step","path","record"]) X G a10 l10 Bg k10 λ_ _ _ _ _ _ us hl=>match us,hl with|[_,_,_,_],_=>rfl
 have lg:=b_ (st:=top 35) (ps:=["kind","step","value"]) X G a11 Bh Bj k11 λ_ _ _ _ _ _ us hl=>match us,hl with|[_,_,_],_=>rfl
 have d9:=b_ (st:=top 38) (ps:=["path","kind","old","new"]) X G a12 cV c12 k12 λ_ _ _ _ _ _ us hl=>match us,hl with|[_,_,_,_],_=>rfl
 have lu:=b_ (st:=top 39) (ps:=["path","fields","old","new"]) X G a13 Bk Bl k13 λ_ _ _ _ _ _ us hl=>match us,hl with|[_,_,_,_],_=>rfl
 have lA:=b_ (st:=top 43) (ps:=["view","kind","source","paper"]) X G a14 Bm Bo k14 λ_ _ _ _ _ _ us hl=>match us,hl with|[_,_,_,_],_=>rfl
 have lB:=b_ (st:=top 44) (ps:=["view","kind","source","paper"]) X G a15 Bp Bq Br λ_ _ _ _ _ _ us hl=>match us,hl with|[_,_,_,_],_=>rfl
 have kZ:=b_ (st:=top 46) (ps:=["kind","seen"]) X G a16 Bs c16 Bt λ_ _ _ _ _ _ us hl=>match us,hl with|[_,_],_=>rfl
 have kj:=b_ (st:=top 47) (ps:=["stands"]) X G a17 Bu Bv Bw λ_ _ _ _ _ _ us hl=>match us,hl with|[_],_=>rfl
 have kE:=b_ (st:=top 50) (ps:=["kind","names"]) X G a18 Bx BJ BK λ_ _ _ _ _ _ us hl=>match us,hl with|[_,_],_=>rfl
 have kI:=b_ (st:=top 51) (ps:=["fields","names"]) X G a19 BL BP BR λ_ _ _ _ _ _ us hl=>match us,hl with|[_,_],_=>rfl
 have kJ:=b_ (st:=top 52) (ps:=["record","names"]) X G a20 BW BX BZ λ_ _ _ _ _ _ us hl=>match us,hl with|[_,_],_=>rfl
 have bF:=b_ (st:=top 55) (ps:=["_law_script","_law_at"]) X G a21 B_ c21 Ca λ_ _ _ _ _ _ us hl=>match us,hl with|[_,_],_=>rfl
 have gj:=b_ (st:=top 56) (ps:=["_law_script","_law_at"]) X G a22 Cd Ce Cg λ_ _ _ _ _ _ us hl=>match us,hl with|[_,_],_=>rfl
 have gk:=b_ (st:=top 57) (ps:=["_law_script","_law_at"]) X G a23 Ci Cj Ck λ_ _ _ _ _ _ us hl=>match us,hl with|[_,_],_=>rfl
 have j4:=b_ (st:=top 58) (ps:=["_law_script","_law_at","_law_many"]) X G a24 Cm Cp Cq λ_ _ _ _ _ _ us hl=>match us,hl with|[_,_,_],_=>rfl
 have jY:=b_ (st:=top 59) (ps:=["_law_script","_law_at"]) X G a25 Cr Cu Cv λ_ _ _ _ _ _ us hl=>match us,hl with|[_,_],_=>rfl
 have j6:=b_ (st:=top 60) (ps:=["_law_script","_law_at","_law_many","_law_deep"]) X G a26 Cw Cy Cz λ_ _ _ _ _ _ us hl=>match us,hl with|[_,_,_,_],_=>rfl
 have j5:=b_ (st:=top 62) (ps:=["_law_script","_law_at","_law_deep"]) X G a27 CG CJ CK λ_ _ _ _ _ _ us hl=>match us,hl with|[_,_,_],_=>rfl
 have dF:=b_ (st:=top 65) (ps:=["_law_script","_law_at","_law_kind_here","_law_room"]) X G a28 CN CP CQ λ_ _ _ _ _ _ us hl=>match us,hl with|[_,_,_,_],_=>rfl
 have cF:=b_ (st:=top 66) (ps:=["_law_found","_law_due_here"]) X G a29 CV CW CZ λ_ _ _ _ _ _ us hl=>match us,hl with|[_,_],_=>rfl
 have lD:=b_ (st:=top 67) (ps:=["_law_row","_law_m"]) X G a30 C_ Dc Dd λ_ _ _ _ _ _ us hl=>match us,hl with|[_,_],_=>rfl
 have iQ:=b_ (st:=top 68) (ps:=["_law_script","_law_at","_law_fields_here","_law_value_here","_law_many"]) X G a31 Df Dg Dh λ_ _ _ _ _ _ us hl=>match us,hl with|[_,_,_,_,_],_=>rfl
 have iM:=b_ (st:=top 69) (ps:=["_law_names_here","_law_old","_law_new"]) X G a32 Di Dj Dk λ_ _ _ _ _ _ us hl=>match us,hl with|[_,_,_],_=>rfl
 have uK:=b_ (st:=top 70) (ps:=["_law_script"]) X G a33 Dl Dp Dq λ_ _ _ _ _ _ us hl=>match us,hl with|[_],_=>rfl
 have n_:=uT (st:=(bH 53 0)) (ps:=["self","names"]) D_ Ea Eb λ_ _ _ _ _ _ us hl=>match us,hl with|[_,_],_=>rfl
 have gU:=uT (st:=(bH 53 1)) (ps:=["self","kind"]) Ec Ed uU λ_ _ _ _ _ _ us hl=>match us,hl with|[_,_],_=>rfl
 have jj:=uT (st:=(bH 53 2)) (ps:=["self","kind","source"]) Ef Eh uV λ_ _ _ _ _ _ us hl=>match us,hl with|[_,_,_],_=>rfl
 have oh:=uT (st:=(bH 53 3)) (ps:=["self","kind","source","seen"]) Ei Ej uW λ_ _ _ _ _ _ us hl=>match us,hl with|[_,_,_,_],_=>rfl
 have e:=hfa.symm.trans uK.m
 cases e
 refine⟨W.fnOf "law" "law" (bC (top 70)) (bw (top 70)) (aG (top 70)) .none Oe Og Oh M7 Bf Oi,λs v=>.of_eq rfl,λbase X1 _ pW=>?_⟩
 have ahg:=W.codeHd_of_K X1 E_
 subst EY
 have TK:kO K mg fU oO oR oU oV:=⟨⟨Er,Es,Et,Eu⟩,Ew,⟨Ey,at0,El,Ez⟩,W.mg_of X G DY,⟨at1,Em,uU⟩,⟨at2,En,uV⟩,⟨Ep,Eo,uW⟩⟩
 have N:=Ze (P:=l.prog) (w:=w) (base:=base) T bF
 have Pl:=Zf T jY bF N
 have Nu:=Zj T gj bF N
 have Wo:=Zn T gk bF N
 have Nm:=Zv T j4 bF N
 have Kd_:=ZG T j5 bF N jY Pl
 have Fd:=ZK T j6 j4 Nm j5 Kd_
 have VP:=ZW T dF gj Nu gk Wo
 have VR:=ZX T dF VP gj Nu gk Wo
 have Ka:=Z1 (P:=l.prog) (w:=w) (base:=base) T gn
 have SF:=Z7 (P:=l.prog) (w:=w) T j9 rfl ahg pW
 have RO:=Z_ T kh j9 SF
 have AS:=aag (P:=l.prog) (w:=w) (base:=base) T kj
 have HO_:=aah T kE gn Ka
 have FAm:=aak (P:=l.prog) (w:=w) (base:=base) T kI
 have PO:=aal (P:=l.prog) (w:=w) (base:=base) T kJ
 have INI:=aao (P:=l.prog) (w:=w) (base:=base) T TK n_
 have BE:=aap T TK gU kj AS kE HO_ kI FAm kh RO
 have SE:=aau T TK jj kJ PO
 have HJ:=aax (P:=l.prog) (w:=w) (base:=base) T kW
 have MQ:=aay (P:=l.prog) (w:=w) (base:=base) T dh
 have RQ:=aaz T kY kW HJ dh MQ
 have MR:=aaB T dh kY RQ
 have AF:=aaD T kZ dh MR
 have IP:=aaE (P:=l.prog) (w:=w) (base:=base) T k_
 have PU:=aaF T TK oh kZ AF gU BE
 have AC:=aaM T lg dh MQ k_ IP
 have SP:=aaO T d8 lg AC
 have SI:=aaQ T lq d8 SP gn Ka
 have SR:=aaS T d8 lq SI
 have DO:=aaU T gA d8 SR
 have PP:=aaV (P:=l.prog) (w:=w) (base:=base) T d9
 have RP:=aaW T lu d9 PP
 have PR:=aaX T d9 lu RP
 have BT:=aaZ T gB d9 PR
 have ON:=aa2 T TK lA gA DO gB BT gU BE jj SE
 have BA:=aa4 T TK lB gA DO gB BT gU BE jj SE oh PU
 have SM:=Lq (P:=l.prog) (w:=w) (base:=base) T cF 4
 have SO:=aby (P:=l.prog) (w:=w) (base:=base) T lD
 have DU:=abA (P:=l.prog) (w:=w) (base:=base) T iM
 have SS:=abC T iQ bF N dF VP
 exact abK T TK uK j6 Fd dF VR bF N lD SO iQ SS iM DU cF SM lA ON lB BA n_ INI
theorem ahk {K:W.Frag}{x:Str}{f c P:Addr}{oc occ:Value}{od odc:Option Addr}{fd:FuncData}{sl slc:Array (Option Value)}{O2:Array Value}(a:W.nsIn K mainGlobals x=some (some (.ref f)))(l:K.lookup f=some ⟨oc,od,.func fd,sl⟩)(hc:fd.code=.ref c)
 (lc:K.lookup c=some ⟨occ,odc,.fields O2,slc⟩) (hP:O2[11]? =some (.ref P)):W.tabIn K x=some (c,P):=by
 unfold W.tabIn
 rw[a]
 dsimp only
 rw[l]
 dsimp only
 rw[hc]
 dsimp only
 rw[lc]
 dsimp only
 rw[hP]
noncomputable def ahn (K:W.Frag) (tabs:List (Addr × Addr)):Sp:=λvs H Q _=>∃(a:Addr) (ns:List Int),vs=[.ref a]/\iK K H a ns/\ns.length<=63/\(∀q∈tabs,H q.2=some (.cO #[]))/\∀H',Q (.bl true) H'
theorem iK.ofT {K:W.Frag}{H:Hp}{a:Addr}{ns:List Int}{tabs:List Addr}(o:tD tabs H)(h:au K H a (ns.map V.int)):iK K H a ns:=by
 rcases h with(h|h)|h
 . rcases o a with z|⟨ob,xs,z⟩|⟨_,z⟩ <;> rw[h] at z <;> cases z
 . exact .inl h
 . exact .inr h
theorem walk {l:W.OpenLaw}{q:Program}{loose:List Str}{XP:(Str->Option Value)->Heap->Prop}{YP:World->Heap->Prop}{d:DefRec}{K:Params->W.Frag}(hn:l.most=some 63)(hdf:d.params.defaults=[])
 (hY:∀(w:World) (h:Heap),YP w h->(K w.params).In h) (pU:∀w:World,W.noTabs (K w.params)=true) (aho:∃d',(PyProof.Rows.recsOf q).find? (λe=>e.name == ("sorted_fields":Str))=some d')
 (F:∀w:World,∃c2 P2:Addr,W.tabIn (K w.params) "sorted_fields"=some (c2,P2)/\∀(mg:Str->Option Value) (fa:Addr) (h:Heap),(K w.params).In h->h.Ns mainGlobals mg->mg d.name=some (.ref fa)->
   ∃fd:FuncData,(∀(s:Shared) (u:Value),BindsTo s fd ⟨[u],[]⟩ [("_law_script",u)])/\∀base:Heap,(K w.params).In base->base.Ns mainGlobals mg->BM mg base->aC l.prog w (K w.params) mg base aH 13 fa fd ["_law_script"] (zT (K w.params) P2)):
 W.WalkO q loose XP YP l.row.toRowW d [] (λf vs=>PySem.call f vs):=
 L2.Yj (n:=63) (k:=13) (x:="_law_script") (names:=["sorted_fields"]) (sp:=λw tabs=>ahn (K w.params) tabs) hn (by decide) hdf ⟨rfl,by decide,by decide⟩ hY pU (λw=>by
   obtain⟨c2,P2,gO,F⟩:=F w
   refine⟨[(c2,P2)],λq' hq=>?_,λmg fa h X G hm=>?_⟩
   . exact⟨"sorted_fields",by simp,by rw[List.mem_singleton.mp hq];exact gO⟩
   obtain⟨fd,hb,hF⟩:=F mg fa h X G hm
   exact⟨fd,hb,λbase X1 G1 B=>(hF base X1 G1 B).imp λvs H Q E ⟨a,ns,e,hS,hl,hT,q⟩=>⟨a,ns,e,hS,hl,.inl (hT _ (List.mem_singleton.mpr rfl)),q⟩⟩)
   (λy hy=>by rw[List.mem_singleton.mp hy];exact aho) λw tabs H a ns hl hO hPt hSq=>⟨a,ns,rfl,iK.ofT hO hSq,hl,hPt,λ_=>rfl⟩
end Pb
open PySem PySem.W PyProof.Rows
set_option maxRecDepth 100000 in
set_option maxHeartbeats 0 in
theorem PySem.Challenge.cw_putback_k79_carried_through_take_holds : PySem.Challenge.rw_putback_k79_carried_through_take.Holds := by
 w_on;o_law
 refine holds_open (q:=Pb.qv) (loose:=[]) (Xt:=λs=>xlAt Pb.qv [] s && recOk (RowW.records (PySem.W.OpenRow.toRowW (PySem.W.OpenLaw.row PySem.Challenge.rw_putback_k79_carried_through_take))) s) (XP:=XL Pb.qv []) (Yf:=Hook.obs (PySem.W.kmHook Pb.KK Pb.jM Pb.lF [119,187,530])) (Ya:=Hook.val (PySem.W.kmHook Pb.KK Pb.jM Pb.lF [119,187,530])) (YP:=Hook.says (PySem.W.kmHook Pb.KK Pb.jM Pb.lF [119,187,530])) (N:=7510) ?hl (Hook.of (PySem.W.kmHook Pb.KK Pb.jM Pb.lF [119,187,530])) (Hook.keeps (PySem.W.kmHook Pb.KK Pb.jM Pb.lF [119,187,530])) (λs e=>xl_of s (Bool.and_eq_true_iff.mp e).1) XL.keeps (by rfl) (by rfl) (by rfl) (λs e=>recFacts_of (Bool.and_eq_true_iff.mp e).2) (by rfl) (by first|assumption|decide +kernel) (by decide +kernel) ⟨rfl,rfl,rfl,rfl,rfl,by decide +kernel⟩ ?hw ?hc
 case hl=>exact Pb.O4 (by rfl) (by rfl) (λs=>rfl) Pb.runK
 (case hw=>w_witness2)
 k_fill
 refine Pb.walk (l:=PySem.Challenge.rw_putback_k79_carried_through_take) rfl rfl (λw h Y=>PySem.W.km_in_of Y) (λw=>by kernel_rfl) ⟨_,rfl⟩ ?F
 case F=>
  intro w
  refine' ⟨_,_,?gO,?GG⟩
  case gO=>
   refine' Pb.ahk ?ta ?tl ?tc ?tlc ?tP
   (case ta=>k_is);(case tl=>k_is);(case tc=>rfl);(case tlc=>k_is);(case tP=>rfl)
  case GG=>
   intro mg fa h KX G hmg
   refine' Pb.all_mk KX G hmg ?a0 ?l0 ?c0 ?k0 ?a1 ?l1 ?c1 ?k1 ?a2 ?l2 ?c2 ?k2 ?a3 ?l3 ?c3 ?k3 ?a4 ?l4 ?c4 ?k4 ?a5 ?l5 ?c5 ?k5 ?a6 ?l6 ?c6 ?k6 ?a7 ?l7 ?c7 ?k7 ?a8 ?l8 ?c8 ?k8 ?a9 ?l9 ?c9 ?k9 ?a10 ?l10 ?Bg ?k10 ?a11 ?Bh ?Bj ?k11 ?a12 ?cV ?c12 ?k12 ?a13 ?Bk ?Bl ?k13 ?a14 ?Bm ?Bo ?k14 ?a15 ?Bp ?Bq ?Br ?a16 ?Bs ?c16 ?Bt ?a17 ?Bu ?Bv ?Bw ?a18 ?Bx ?BJ ?BK ?a19 ?BL ?BP ?BR ?a20 ?BW ?BX ?BZ ?a21 ?B_ ?c21 ?Ca ?a22 ?Cd ?Ce ?Cg ?a23 ?Ci ?Cj ?Ck ?a24 ?Cm ?Cp ?Cq ?a25 ?Cr ?Cu ?Cv ?a26 ?Cw ?Cy ?Cz ?a27 ?CG ?CJ ?CK ?a28 ?CN ?CP ?CQ ?a29 ?CV ?CW ?CZ ?a30 ?C_ ?Dc ?Dd ?a31 ?Df ?Dg ?Dh ?a32 ?Di ?Dj ?Dk ?a33 ?Dl ?Dp ?Dq ?Dr ?Ds ?Dt ?Du ?Dv ?Dw ?Dy ?DG ?DK ?DN ?DP ?DQ ?DR ?DW ?DX ?DY ?Ol ?Om ?Oq ?D_ ?Ea ?Eb ?Ou ?Ec ?Ed ?uU ?Ow ?Ef ?Eh ?uV ?Oz ?Ei ?Ej ?uW ?El ?at0 ?Em ?at1 ?En ?at2 ?Eo ?Ep ?Er ?Es ?Et ?Eu ?Ew ?Ey ?Ez ?EY ?OJ ?O1 ?E_
   (case a0=>k_is);(case l0=>k_is);(case c0=>k_is);(case k0=>k_is)
   (case a1=>k_is);(case l1=>k_is);(case c1=>k_is);(case k1=>k_is)
   (case a2=>k_is);(case l2=>k_is);(case c2=>k_is);(case k2=>k_is)
   (case a3=>k_is);(case l3=>k_is);(case c3=>k_is);(case k3=>k_is)
   (case a4=>k_is);(case l4=>k_is);(case c4=>k_is);(case k4=>k_is)
   (case a5=>k_is);(case l5=>k_is);(case c5=>k_is);(case k5=>k_is)
   (case a6=>k_is);(case l6=>k_is);(case c6=>k_is);(case k6=>k_is)
   (case a7=>k_is);(case l7=>k_is);(case c7=>k_is);(case k7=>k_is)
   (case a8=>k_is);(case l8=>k_is);(case c8=>k_is);(case k8=>k_is)
   (case a9=>k_is);(case l9=>k_is);(case c9=>k_is);(case k9=>k_is)
   (case a10=>k_is);(case l10=>k_is);(case Bg=>k_is);(case k10=>k_is)
   (case a11=>k_is);(case Bh=>k_is);(case Bj=>k_is);(case k11=>k_is)
   (case a12=>k_is);(case cV=>k_is);(case c12=>k_is);(case k12=>k_is)
   (case a13=>k_is);(case Bk=>k_is);(case Bl=>k_is);(case k13=>k_is)
   (case a14=>k_is);(case Bm=>k_is);(case Bo=>k_is);(case k14=>k_is)
   (case a15=>k_is);(case Bp=>k_is);(case Bq=>k_is);(case Br=>k_is)
   (case a16=>k_is);(case Bs=>k_is);(case c16=>k_is);(case Bt=>k_is)
   (case a17=>k_is);(case Bu=>k_is);(case Bv=>k_is);(case Bw=>k_is)
   (case a18=>k_is);(case Bx=>k_is);(case BJ=>k_is);(case BK=>k_is)
   (case a19=>k_is);(case BL=>k_is);(case BP=>k_is);(case BR=>k_is)
   (case a20=>k_is);(case BW=>k_is);(case BX=>k_is);(case BZ=>k_is)
   (case a21=>k_is);(case B_=>k_is);(case c21=>k_is);(case Ca=>k_is)
   (case a22=>k_is);(case Cd=>k_is);(case Ce=>k_is);(case Cg=>k_is)
   (case a23=>k_is);(case Ci=>k_is);(case Cj=>k_is);(case Ck=>k_is)
   (case a24=>k_is);(case Cm=>k_is);(case Cp=>k_is);(case Cq=>k_is)
   (case a25=>k_is);(case Cr=>k_is);(case Cu=>k_is);(case Cv=>k_is)
   (case a26=>k_is);(case Cw=>k_is);(case Cy=>k_is);(case Cz=>k_is)
   (case a27=>k_is);(case CG=>k_is);(case CJ=>k_is);(case CK=>k_is)
   (case a28=>k_is);(case CN=>k_is);(case CP=>k_is);(case CQ=>k_is)
   (case a29=>k_is);(case CV=>k_is);(case CW=>k_is);(case CZ=>k_is)
   (case a30=>k_is);(case C_=>k_is);(case Dc=>k_is);(case Dd=>k_is)
   (case a31=>k_is);(case Df=>k_is);(case Dg=>k_is);(case Dh=>k_is)
   (case a32=>k_is);(case Di=>k_is);(case Dj=>k_is);(case Dk=>k_is)
   (case a33=>k_is);(case Dl=>k_is);(case Dp=>k_is);(case Dq=>k_is)
   (case Dr=>k_is)
   (case Ds=>k_is)
   (case Dt=>k_is)
   (case Du=>k_is)
   (case Dv=>k_is)
   (case Dw=>k_is)
   (case Dy=>k_is)
   (case DG=>k_is)
   (case DK=>k_is)
   (case DN=>k_is)
   (case DP=>k_is)
   (case DQ=>k_is)
   (case DR=>k_is)
   (case DW=>k_is)
   (case DX=>k_is)
   (case DY=>k_is);(case Ol=>k_is);(case Om=>rfl)
   (case Oq=>k_is);(case D_=>k_is);(case Ea=>k_is);(case Eb=>k_is)
   (case Ou=>k_is);(case Ec=>k_is);(case Ed=>k_is);(case uU=>k_is)
   (case Ow=>k_is);(case Ef=>k_is);(case Eh=>k_is);(case uV=>k_is)
   (case Oz=>k_is);(case Ei=>k_is);(case Ej=>k_is);(case uW=>k_is)
   (case El=>kernel_rfl)
   (case at0=>kernel_rfl)
   (case Em=>kernel_rfl)
   (case at1=>kernel_rfl)
   (case En=>kernel_rfl)
   (case at2=>kernel_rfl)
   (case Eo=>kernel_rfl)
   (case Ep=>kernel_rfl)
   (case Er=>kernel_rfl)
   (case Es=>kernel_rfl)
   (case Et=>kernel_rfl)
   (case Eu=>kernel_rfl)
   (case Ew=>kernel_rfl)
   (case Ey=>kernel_rfl)
   (case Ez=>kernel_rfl)
   (case EY=>rfl)
   (case OJ=>k_is)
   (case O1=>rfl)
   (case E_=>kernel_rfl)
